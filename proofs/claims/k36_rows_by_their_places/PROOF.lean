import PyProof.Rows.All
import Wide.All
import OpenK.AllK
import Wide.FinOn
import Lean
import PyProof.EqAt
import PyProof.EqKinds
import PyProof.TupleCall
import KE.KTurnsDict
import KE.KPairComp
import KE.KTryMore
import PyProof.ExcInit
import KE.KIsNot
import KE.KIntText
import PyProof.ReprStr
import PyProof.StrLawsRepr
import KE.KDictList
import KE.KSortTup
import PyProof.Rows.SortShell
import PyProof.TupleOfSeq
import PyProof.Rows.SetFrom
import PyProof.WalksMore
import PyProof.FactsAll.set_1
import PyProof.TupleKey
import PySem.Challenge.RW_belowpoints_k36_rows_by_their_places
set_option Elab.async false
set_option linter.all false
set_option maxRecDepth 100000
set_option maxHeartbeats 4000000
namespace L2
open PySem PySem.Spec PyProof.Rows
abbrev Key:=Sum Int Str
noncomputable def Nx:Key→Value→Bool
  | .inl k,v=>Value.isInt k v
  | .inr x,v=>Value.isStrOf x v
noncomputable def Am3(w:World):Key→Int
  | .inl k=>hashInt k
  | .inr x=>hashStr w x
theorem B2:∀ {k:Key} {v:Value},Nx k v=true→(∃ i t,k=Sum.inl i∧v=Value.int i t)∨(∃ x t,k=Sum.inr x∧v=Value.str x t)
  | .inl i,v,h=>by
    obtain ⟨t,e⟩:=Value.isInt_shape (k:=i) (v:=v) h
    exact .inl ⟨i,t,rfl,e⟩
  | .inr x,v,h=>by
    obtain ⟨t,e⟩:=Value.isStrOf_shape (x:=x) (v:=v) h
    exact .inr ⟨x,t,rfl,e⟩
theorem Y5(i:Int)(t:Tok):Nx (.inl i) (.int i t)=true:=by simp[Nx,Value.isInt]
theorem Aaq(x:Str)(t:Tok):Nx (.inr x) (.str x t)=true:=by simp[Nx,Value.isStrOf]
theorem Air(a b:Int):decide ((Sum.inl a:Key)=Sum.inl b)=(a == b):=by
  by_cases e:a=b
  · subst e;simp
  · have h:¬ (Sum.inl a:Key)=Sum.inl b:=fun q=>e (Sum.inl.inj q)
    rw[decide_eq_false h]
    exact (beq_eq_false_iff_ne.mpr e).symm
theorem Ai3(a b:Str):decide ((Sum.inr a:Key)=Sum.inr b)=decide (a=b):=by
  by_cases e:a=b
  · subst e;simp
  · have h:¬ (Sum.inr a:Key)=Sum.inr b:=fun q=>e (Sum.inr.inj q)
    rw[decide_eq_false h,decide_eq_false e]
theorem Ahv(a:Int)(b:Str):decide ((Sum.inl a:Key)=Sum.inr b)=false:=decide_eq_false (fun q=>nomatch q)
theorem Aic(a:Str)(b:Int):decide ((Sum.inr a:Key)=Sum.inl b)=false:=decide_eq_false (fun q=>nomatch q)
noncomputable def Bv(prog:Program)(w:World):PySem.KeyKind prog w Key where
  is:=Nx
  hash:=Am3 w
  inj:=fun v a b ha hb=>by
    rcases B2 ha with ⟨i,t,rfl,rfl⟩ | ⟨x,t,rfl,rfl⟩
    · rcases B2 hb with ⟨j,u,rfl,e⟩ | ⟨y,u,rfl,e⟩
      · injection e with e1 _;rw[e1]
      · exact nomatch e
    · rcases B2 hb with ⟨j,u,rfl,e⟩ | ⟨y,u,rfl,e⟩
      · exact nomatch e
      · injection e with e1 _;rw[e1]
  byValue:=fun k v h=>by
    rcases B2 h with ⟨i,t,rfl,rfl⟩ | ⟨x,t,rfl,rfl⟩ <;> rfl
  pyHash:=fun hv h=>by
    rcases B2 hv with ⟨i,t,rfl,rfl⟩ | ⟨x,t,rfl,rfl⟩
    · exact wpAny_pyHash_int h
    · exact wpAny_pyHash_str h
  eqBool:=fun hu hv h=>by
    rcases B2 hu with ⟨i,t,rfl,rfl⟩ | ⟨x,t,rfl,rfl⟩
    · rcases B2 hv with ⟨j,u,rfl,rfl⟩ | ⟨y,u,rfl,rfl⟩
      · rw[Air] at h;exact wpAny_eqBool_int h
      · rw[Ahv] at h;exact SeqAt.EqAt.int_str i t y u _ _ _ _ h
    · rcases B2 hv with ⟨j,u,rfl,rfl⟩ | ⟨y,u,rfl,rfl⟩
      · rw[Aic] at h;exact SeqAt.EqAt.str_int x t j u _ _ _ _ h
      · rw[Ai3] at h;exact wpAny_eqBool_str h
  «strs» := fun k x t v h=>by
    rcases B2 h with ⟨i,u,rfl,e⟩ | ⟨y,u,rfl,e⟩
    · exact nomatch e
    · injection e with e1 _
      subst e1
      cases v <;> rfl
theorem Uy(prog:Program)(w:World)(k:Key)(v:Value):(Bv prog w).is k v=Nx k v:=rfl
theorem S0(prog:Program)(w:World)(i:Int)(t:Tok):(Bv prog w).is (.inl i) (.int i t)=true:=Y5 i t
theorem Tc(prog:Program)(w:World)(x:Str)(t:Tok):(Bv prog w).is (.inr x) (.str x t)=true:=Aaq x t
inductive V where
  | non | bl (b:Bool) | int (i:Int) | str (x:Str) | byt (b:Array UInt8) | flt (b:UInt64) | ref (a:Addr) | ty (n:String)
  deriving DecidableEq
noncomputable def RelV:V→Value→Prop
  | .non,u=>u=Value.none
  | .bl b,u=>u=Value.bool b
  | .int i,u=>∃ t,u=Value.int i t
  | .str x,u=>∃ t,u=Value.str x t
  | .byt b,u=>∃ t,u=Value.bytes b t
  | .flt b,u=>∃ t,u=Value.float b t
  | .ref a,u=>u=Value.ref a
  | .ty n,u=>u=Value.type n
abbrev Vals:List V→List Value→Prop:=Paired RelV
theorem Vals.length{xs:List V}{us:List Value}(r:Vals xs us):xs.length=us.length:=Paired.length r
theorem Vals.get{xs:List V}{us:List Value}{i:Nat}{x:V}(h:Vals xs us)(e:xs[i]? = some x):∃ u,us[i]? = some u∧RelV x u:=by
  induction h generalizing i with
  | nil=>cases e
  | cons r t ih=>
    cases i with
    | zero=>cases e;exact ⟨_,rfl,r⟩
    | succ i=>exact ih (i:=i) e
theorem Vals.set{x:V}{u:Value}(r:RelV x u){xs:List V}{us:List Value}(i:Nat)(h:Vals xs us):Vals (xs.set i x) (us.set i u):=by
  induction h generalizing i with
  | nil=>exact .nil
  | cons q t ih=>
    cases i with
    | zero=>exact .cons r t
    | succ i=>exact .cons q (ih i)
theorem Vals.append{xs ys:List V}{us ws:List Value}(h:Vals xs us)(s:Vals ys ws):Vals (xs++ys) (us++ws):=by
  induction h with
  | nil=>exact s
  | cons r t ih=>exact .cons r ih
theorem Vals.take{xs:List V}{us:List Value}(n:Nat)(h:Vals xs us):Vals (xs.take n) (us.take n):=by
  induction h generalizing n with
  | nil=>cases n <;> exact .nil
  | cons r t ih=>
    cases n with
    | zero=>exact .nil
    | succ n=>exact .cons r (ih n)
theorem Vals.drop{xs:List V}{us:List Value}(n:Nat)(h:Vals xs us):Vals (xs.drop n) (us.drop n):=by
  induction h generalizing n with
  | nil=>cases n <;> exact .nil
  | cons r t ih=>
    cases n with
    | zero=>exact .cons r t
    | succ n=>exact ih n
noncomputable def RelO:Option V→Option Value→Prop
  | some v,some u=>RelV v u
  | none,none=>True
  | _,_=>False
noncomputable def KV{κ:Type}:List (κ×V)→List (κ×Value)→Prop:=Paired fun (p:κ×V) (q:κ×Value)=>p.1=q.1∧RelV p.2 q.2
noncomputable def kV:Key→V
  | .inl i=>.int i
  | .inr x=>.str x
inductive HO where
  | lst (xs:List V)
  | tup (xs:List V)
  | dK (kvs:List (Key×V)) | dT (kvs:List (List Key×V))
  | set (S:Int→Bool) (n:Nat)
  | ins (C dx:Addr) (fs:List (Str×V))
  | own (x:Addr)
  | xd (fs:List (Str×V))
  | met (f x:Addr)
  | rng (lo hi:Int)
  | frz (o:Obj) (u:HO)
  | tbl (ps:Array Value)
  | ext (φ:Heap→Prop)
abbrev Hp:=Addr→Option HO
noncomputable def upd(H:Hp)(a:Addr)(o:HO):Hp:=fun b=>if b=a then some o else H b
theorem upd_same{H:Hp}{a:Addr}{o:HO}:upd H a o a=some o:=by unfold upd;rw[if_pos rfl]
theorem Aw{H:Hp}{a b:Addr}{o:HO}(h:b≠a):upd H a o b=H b:=by unfold upd;rw[if_neg h]
theorem Acj{H:Hp}{a b:Addr}{o u:HO}(h:H a=some o)(h':H b=some u)(d:o≠u):a≠b:=by
  intro e;subst e;rw[h] at h';exact d (Option.some.inj h')
theorem A8{H:Hp}{a b:Addr}{o:HO}(h:H a=some o)(h':H b=none):a≠b:=by
  intro e;subst e;rw[h] at h';cases h'
noncomputable def TupN(h:Heap)(a:Addr)(its:Array Value):Prop:=∃ o:Obj,h.get? a=some o∧(o.cls,o.dict)=(Value.type "tuple",(none:Option Addr))∧∃ n,o.data = .seq its n
theorem TupN.is{h:Heap}{a:Addr}{its:Array Value}(x:TupN h a its):h.IsTuple a its:=by
  obtain ⟨o,e,c,n,d⟩:=x
  exact ⟨o,e,(Prod.mk.inj c).1,n,d⟩
theorem TupN.new(h:Heap)(its:Array Value):TupN (h.push { cls:=.type "tuple",data:=.seq its }) h.objs.size its:=⟨_,Heap.get?_push_size _ rfl,rfl,0,rfl⟩
theorem TupN.lt{h:Heap}{a:Addr}{its:Array Value}(x:TupN h a its):a < h.objs.size:=by
  obtain ⟨o,e,_⟩:=x;exact Heap.lt_size e
section
variable (P:Program)(w:World)
noncomputable def ObjOk(H:Hp)(h:Heap)(a:Addr):HO→Prop
  | .lst xs=>xs.length≤sizeLine∧∃ (its:List Value) (n:Nat),Vals xs its∧h.get? a=some { cls:=.type "list",data:=.seq its.toArray n }
  | .tup xs=>xs.length≤sizeLine∧∃ its:List Value,Vals xs its∧TupN h a its.toArray
  | .dK kvs=>kvs.length≤sizeLine∧(a == sysModules)=false∧∃ vs,KV kvs vs∧h.DictOf (Bv P w) a vs
  | .dT kvs=>kvs.length≤sizeLine∧(a == sysModules)=false∧∃ xs:List (List Key×Addr×Value),
      Paired (fun (p:List Key×V) (q:List Key×Addr×Value)=>p.1=q.1∧H q.2.1=some (.tup (p.1.map kV))∧RelV p.2 q.2.2) kvs xs ∧
      ∃ o es ep,h.get? a=some o∧o.ExactDict∧o.data = .dict es ep∧es.toList=xs.map (entryOfKey (tupleKind (Bv P w)))∧(xs.map (·.1)).Nodup
  | .set S n=>h.SetOf (intKind P w) a S n
  | .ins C dx fs=>H dx=some (.own a)∧fs.length≤1000∧dx≠a∧h.get? a=some (PySem.W.instObj C dx) ∧
      ∃ mA,h.Ns1 dx mA∧(∀ f,RelO (fs.lookup f) (mA f))∧PySem.Within mA (fs.map (·.1))
  | .own _=>∃ o,h.get? a=some o
  | .xd fs=>∃ mA,h.Ns1 a mA∧∀ f,RelO (fs.lookup f) (mA f)
  | .rng lo hi=>∃ t u v,h.get? a=some { cls:=.type "range",data:=.fields #[.int lo t,.int hi u,.int 1 v] }
  | .frz o u=>h.get? a=some o∧ObjOk H h a u
  | .tbl ps=>h.get? a=some { cls:=.none,data:=.fields ps }
  | .met f x=>h.get? a=some (PySem.W.methodObj (.ref f) (.ref x))
  | .ext φ=>φ h∧(∃ o,h.get? a=some o)∧∀ h1 h2:Heap,φ h1→(∀ o,h1.get? a=some o→h2.get? a=some o)→φ h2
noncomputable def HOk(H:Hp)(h:Heap):Prop:=∀ a o,H a=some o→ObjOk P w H h a o
end
section
variable {P:Program}{w:World}{H H':Hp}{h h':Heap}{a:Addr}{o:HO}
theorem ObjOk.lt(x:ObjOk P w H h a o):a < h.objs.size:=by
  cases o with
  | lst xs=>obtain ⟨_,_,_,_,e⟩:=x;exact Heap.lt_size e
  | tup xs=>obtain ⟨_,_,_,p⟩:=x;exact p.lt
  | dK kvs=>obtain ⟨_,_,_,_,o,_,_,e,_⟩:=x;exact Heap.lt_size e
  | dT kvs=>obtain ⟨_,_,_,_,o,_,_,e,_⟩:=x;exact Heap.lt_size e
  | set S n=>obtain ⟨o,_,_,_,e,_⟩:=x;exact Heap.lt_size e
  | ins C dx fs=>obtain ⟨_,_,_,e,_⟩:=x;exact Heap.lt_size e
  | own y=>obtain ⟨_,e⟩:=x;exact Heap.lt_size e
  | xd fs=>obtain ⟨_,⟨_,_,_,e,_⟩,_⟩:=x;exact Heap.lt_size e
  | rng lo hi=>obtain ⟨_,_,_,e⟩:=x;exact Heap.lt_size e
  | frz ob u=>obtain ⟨e,_⟩:=x;exact Heap.lt_size e
  | tbl ps=>exact Heap.lt_size (show h.get? a=some _ from x)
  | met f y=>exact Heap.lt_size (show h.get? a=some _ from x)
  | ext φ=>obtain ⟨_,⟨_,e⟩,_⟩:=x;exact Heap.lt_size e
theorem Paired.mapP{α β:Type}{F G:α→β→Prop}{l₁:List α}{l₂:List β}(h:Paired F l₁ l₂)(f:∀ a b,F a b→G a b):Paired G l₁ l₂:=by
  induction h with
  | nil=>exact .nil
  | cons r t ih=>exact .cons (f _ _ r) ih
theorem ObjOk.stay(x:ObjOk P w H h a o)(k:∀ b u,(b=a∨H b=some (.own a))→h.get? b=some u→h'.get? b=some u)
    (ho:∀ b,H b=some (.own a)→H' b=some (.own a)) (ht:∀ b xs,H b=some (.tup xs)→H' b=some (.tup xs)):ObjOk P w H' h' a o:=by
  induction o with
  | lst xs=>obtain ⟨z,its,n,r,e⟩:=x;exact ⟨z,its,n,r,k _ _ (.inl rfl) e⟩
  | tup xs=>obtain ⟨z,its,r,ob,e,c⟩:=x;exact ⟨z,its,r,ob,k _ _ (.inl rfl) e,c⟩
  | dK kvs=>obtain ⟨z,y,vs,r,ob,es,ep,e,c⟩:=x;exact ⟨z,y,vs,r,ob,es,ep,k _ _ (.inl rfl) e,c⟩
  | dT kvs=>
    obtain ⟨z,y,xs,r,ob,es,ep,e,c⟩:=x
    exact ⟨z,y,xs,Paired.mapP r fun p q z=>⟨z.1,ht _ _ z.2.1,z.2.2⟩,ob,es,ep,k _ _ (.inl rfl) e,c⟩
  | set S n=>obtain ⟨ob,es,ep,t,e,c⟩:=x;exact ⟨ob,es,ep,t,k _ _ (.inl rfl) e,c⟩
  | ins C dx fs=>
    obtain ⟨d,z,ne,e,mA,⟨od,es,ep,e2,c⟩,r⟩:=x
    exact ⟨ho _ d,z,ne,k _ _ (.inl rfl) e,mA,⟨od,es,ep,k _ _ (.inr d) e2,c⟩,r⟩
  | own y=>obtain ⟨ob,e⟩:=x;exact ⟨ob,k _ _ (.inl rfl) e⟩
  | xd fs=>obtain ⟨mA,⟨od,es,ep,e,c⟩,r⟩:=x;exact ⟨mA,⟨od,es,ep,k _ _ (.inl rfl) e,c⟩,r⟩
  | rng lo hi=>obtain ⟨t,u,v,e⟩:=x;exact ⟨t,u,v,k _ _ (.inl rfl) e⟩
  | frz ob u ih=>obtain ⟨e,q⟩:=x;exact ⟨k _ _ (.inl rfl) e,ih q⟩
  | tbl ps=>
    have e:h.get? a=some { cls:=.none,data:=.fields ps }:=x
    show h'.get? a=some { cls:=.none,data:=.fields ps }
    exact k a _ (.inl rfl) e
  | met f y=>
    have e:h.get? a=some (PySem.W.methodObj (.ref f) (.ref y)):=x
    show h'.get? a=some (PySem.W.methodObj (.ref f) (.ref y))
    exact k a _ (.inl rfl) e
  | ext φ=>obtain ⟨p,⟨o,e⟩,st⟩:=x;exact ⟨st _ _ p fun o q=>k _ _ (.inl rfl) q,⟨o,k _ _ (.inl rfl) e⟩,st⟩
theorem HOk.lt(x:HOk P w H h)(e:H a=some o):a < h.objs.size:=(x a o e).lt
theorem HOk.fresh(x:HOk P w H h)(e:h.objs.size≤a):H a=none:=by
  cases q:H a with
  | none=>rfl
  | some u=>exact absurd (Nat.lt_of_lt_of_le (x.lt q) e) (Nat.lt_irrefl _)
theorem HOk.kept(x:HOk P w H h)(k:∀ b u,h.get? b=some u→h'.get? b=some u):HOk P w H h':=fun a o e=>
  (x a o e).stay (fun b u _ q=>k b u q) (fun _ q=>q) fun _ _ q=>q
theorem HOk.laid(x:HOk P w H h)(k:∀ b u,h.get? b=some u→h'.get? b=some u)(hp:h.objs.size≤a)(new:ObjOk P w (upd H a o) h' a o):HOk P w (upd H a o) h':=fun b u e=>by
  have hn:=x.fresh hp
  by_cases hb:b=a
  · subst hb;rw[upd_same] at e;cases e;exact new
  · rw[Aw hb] at e
    exact (x b u e).stay (fun c v _ q=>k c v q) (fun c q=>by rw[Aw (A8 q hn)];exact q) fun c xs q=>by rw[Aw (A8 q hn)];exact q
end
noncomputable def Rd(H:Hp)(a:Addr)(u:HO):Prop:=H a=some u∨∃ o,H a=some (.frz o u)
theorem Rd.of{H:Hp}{a:Addr}{u:HO}(h:H a=some u):Rd H a u:=.inl h
theorem Rd.ok{P:Program}{w:World}{H:Hp}{h:Heap}{a:Addr}{u:HO}(r:Rd H a u)(x:HOk P w H h):ObjOk P w H h a u:=by
  rcases r with r | ⟨o,r⟩
  · exact x a u r
  · obtain ⟨_,q⟩:=x a _ r
    exact q
noncomputable def Mut:Option HO→Prop
  | some (.lst _)=>True
  | some (.dK _)=>True
  | some (.dT _)=>True
  | some (.set _ _)=>True
  | some (.ins _ _ _)=>True
  | some (.ext _)=>True
  | _=>False
section
variable {P:Program}{w:World}{H:Hp}{h h':Heap}{x e:Addr}{o':HO}
theorem HOk.write(ok:HOk P w H h)(mu:Mut (H x))(he:e=x∨H e=some (.own x))(k:∀ b u,b≠e→h.get? b=some u→h'.get? b=some u)(heo:∃ u,h'.get? e=some u)
    (new:ObjOk P w (upd H x o') h' x o'):HOk P w (upd H x o') h':=fun b u q=>by
  have nown:∀ c y,H c=some (.own y)→c≠x:=fun c y r z=>by subst z;rw[r] at mu;exact mu
  have ntup:∀ c xs,H c=some (.tup xs)→c≠x:=fun c xs r z=>by subst z;rw[r] at mu;exact mu
  by_cases hb:b=x
  · subst hb;rw[upd_same] at q;cases q;exact new
  · rw[Aw hb] at q
    by_cases hbe:b=e
    · have q':H b=some (.own x):=by
        rcases he with z | z
        · exact absurd (hbe.trans z) hb
        · rw[hbe];exact z
      rw[q] at q';cases q'
      obtain ⟨v,hv⟩:=heo
      exact ⟨v,by rw[hbe];exact hv⟩
    · refine (ok b u q).stay (fun c v hc r=>k c v ?_ r) (fun c r=>by rw[Aw (nown c b r)];exact r) fun c xs r=>by rw[Aw (ntup c xs r)];exact r
      rcases hc with rfl | hc
      · exact hbe
      · rintro rfl
        rcases he with z | z
        · exact nown c b hc z
        · rw[hc] at z;cases z;exact hb rfl
end
structure Un(fs ex:List Addr)(H H':Hp)(h h':Heap):Prop where
  keep:∀ b o,h.get? b=some o→H b=none→b∉fs→b∉ex→h'.get? b=some o
  slot:∀ b o,h.get? b=some o→H b=none→b∈fs→b∉ex→∃ sl,h'.get? b=some { o with slots:=sl }
  free:∀ b o,h.get? b=some o→H b=none→b∉ex→H' b=none
  there:∀ b o,h.get? b=some o→b∉ex→∃ o',h'.get? b=some o'
  tups:∀ b xs,H b=some (.tup xs)→H' b=some (.tup xs)
  frzs:∀ b o u,H b=some (.frz o u)→H' b=some (.frz o u)
  tbls:∀ b ps,H b=some (.tbl ps)→∃ more,H' b=some (.tbl (ps++more))
section
variable {fs fs' ex ex':List Addr}{H H1 H2:Hp}{h h1 h2 h':Heap}{a x e:Addr}{o:HO}
theorem Un.any(u:Un fs ex H H1 h h1){b:Addr}{ob:Obj}(q:h.get? b=some ob)(n:H b=none)(hx:b∉ex):∃ sl,h1.get? b=some { ob with slots:=sl }:=by
  by_cases hb:b∈fs
  · exact u.slot b ob q n hb hx
  · exact ⟨ob.slots,u.keep b ob q n hb hx⟩
theorem Un.trans(a:Un fs ex H H1 h h1)(b:Un fs ex H1 H2 h1 h2):Un fs ex H H2 h h2 where
  keep:=fun c ob q n hc hx=>b.keep c ob (a.keep c ob q n hc hx) (a.free c ob q n hx) hc hx
  slot:=fun c ob q n hc hx=>by
    obtain ⟨sl,e1⟩:=a.slot c ob q n hc hx
    obtain ⟨sl',e2⟩:=b.slot c _ e1 (a.free c ob q n hx) hc hx
    exact ⟨sl',e2⟩
  free:=fun c ob q n hx=>by
    obtain ⟨o',e1⟩:=a.there c ob q hx
    exact b.free c o' e1 (a.free c ob q n hx) hx
  there:=fun c ob q hx=>by
    obtain ⟨o',e1⟩:=a.there c ob q hx
    exact b.there c o' e1 hx
  tups:=fun c xs q=>b.tups c xs (a.tups c xs q)
  frzs:=fun c ob xs q=>b.frzs c ob xs (a.frzs c ob xs q)
  tbls:=fun c ps q=>by
    obtain ⟨m1,e1⟩:=a.tbls c ps q
    obtain ⟨m2,e2⟩:=b.tbls c _ e1
    exact ⟨m1++m2,by rw[e2,Array.append_assoc]⟩
theorem Un.kept(k:∀ b u,h.get? b=some u→h'.get? b=some u):Un fs ex H H h h':=
  ⟨fun b ob q _ _ _=>k b ob q,fun b ob q _ _ _=>⟨ob.slots,k b ob q⟩,fun _ _ _ n _=>n,fun b ob q _=>⟨ob,k b ob q⟩,fun _ _ q=>q,fun _ _ _ q=>q,fun _ ps q=>⟨#[],by rw[q];simp⟩⟩
theorem Un.refl:Un fs ex H H h h:=Un.kept fun _ _ q=>q
theorem Un.laid(k:∀ b u,h.get? b=some u→h'.get? b=some u)(hp:h.objs.size≤a)(hn:H a=none):Un fs ex H (upd H a o) h h' where
  keep:=fun b u q _ _ _=>k b u q
  slot:=fun b u q _ _ _=>⟨u.slots,k b u q⟩
  free:=fun b u q n _=>by rw[Aw (Nat.ne_of_lt (Nat.lt_of_lt_of_le (Heap.lt_size q) hp))];exact n
  there:=fun b u q _=>⟨u,k b u q⟩
  tups:=fun b xs q=>by rw[Aw (A8 q hn)];exact q
  frzs:=fun b u xs q=>by rw[Aw (A8 q hn)];exact q
  tbls:=fun b ps q=>⟨#[],by rw[Aw (A8 q hn),q];simp⟩
theorem Un.write(mu:Mut (H x))(he:e=x∨H e=some (.own x))(k:∀ b u,b≠e→h.get? b=some u→h'.get? b=some u)(heo:∃ u,h'.get? e=some u):Un fs ex H (upd H x o) h h':=by
  have hx:∀ b,H b=none→b≠x:=fun b n z=>by subst z;rw[n] at mu;exact mu
  have hb:∀ b,H b=none→b≠e:=fun b n z=>by
    subst z
    rcases he with r | r
    · exact hx b n r
    · rw[n] at r;cases r
  have hm:∀ b u,H b=some u→¬ Mut (some u)→b≠x:=fun b u q nm z=>by subst z;rw[q] at mu;exact nm mu
  refine ⟨fun b u q n _ _=>k b u (hb b n) q,fun b u q n _ _=>⟨u.slots,k b u (hb b n) q⟩,fun b u q n _=>by rw[Aw (hx b n)];exact n,fun b u q _=>?_,
    fun b xs q=>by rw[Aw (hm b _ q fun z=>z)];exact q,fun b u xs q=>by rw[Aw (hm b _ q fun z=>z)];exact q,fun b ps q=>⟨#[],by rw[Aw (hm b _ q fun z=>z),q];simp⟩⟩
  by_cases hbe:b=e
  · subst hbe;exact heo
  · exact ⟨u,k b u hbe q⟩
theorem Un.mono(u:Un fs ex H H1 h h1)(hs:∀ b∈fs,b∈fs')(hx:∀ b∈ex,b∈ex'):Un fs' ex' H H1 h h1:=
  ⟨fun b ob q n hb he=>u.keep b ob q n (fun z=>hb (hs b z)) fun z=>he (hx b z),fun _ _ q n _ he=>u.any q n fun z=>he (hx _ z),fun b ob q n he=>u.free b ob q n fun z=>he (hx b z),fun b ob q he=>u.there b ob q fun z=>he (hx b z),u.tups,u.frzs,u.tbls⟩
end
noncomputable def trk(h:Heap)(H:Hp):List Addr:=(List.range h.objs.size).filter fun a=>(H a).isSome
noncomputable def Ss(h:Heap)(H:Hp):Heap:=PySem.W.hideAll h (trk h H)
theorem Xy(h:Heap)(H:Hp):(Ss h H).objs.size=h.objs.size:=PySem.W.hideAll_size _ _
theorem Ad4{h:Heap}{H:Hp}{b:Addr}{o:Obj}(e:h.get? b=some o)(n:H b=none):(Ss h H).get? b=some o:=
  PySem.W.hideAll_get _ e fun hm=>by
    have q:(H b).isSome=true:=(List.mem_filter.mp hm).2
    rw[n] at q;simp at q
theorem Ag6{h:Heap}{H:Hp}{b:Addr}{o:Obj}(e:(Ss h H).get? b=some o):h.get? b=some o∧H b=none:=by
  have e':h.get? b=some o:=PySem.W.of_hideAll (trk h H) e
  refine ⟨e',?_⟩
  cases q:H b with
  | none=>rfl
  | some x=>
    have hm:b∈trk h H:=List.mem_filter.mpr ⟨List.mem_range.mpr (Heap.lt_size e'),by simp[q]⟩
    have z:(Ss h H).get? b=none:=PySem.W.hideAll_none (trk h H) hm
    rw[z] at e;cases e
noncomputable def Aga(g h:Heap)(L:Addr):List (Addr×Obj):=(List.range h.objs.size).filterMap fun a=>if a=L∨(g.get? a).isSome=true then none else (h.get? a).map fun o=>(a,o)
noncomputable def rest(g h:Heap)(L d:Addr):List (Addr×Obj):=(Aga g h L).filter fun p=>decide (p.1≠d)
structure Mod(K:PySem.W.Frag)(mg:Str→Option Value)(base:Heap):Prop where
  kin:K.In base
  glob:base.Ns mainGlobals mg
  blt:∃ mb,base.Ns builtinsNs mb∧∀ x:Str,x ≠ "__name__" → mb x=bootBuiltins x
  nolimit:base.NoLimit
structure Cx where
  prog:Program
  w:World
  K:PySem.W.Frag
  mg:Str→Option Value
  base:Heap
  A:Around
  N:List Str
  s₀:Shared
  H₀:Hp
  env:Env
  outer:List Env
  stack:List Env
  ex:List Addr
  fn:Str→Bool
  calm:Bool
  pn:List (Addr×Obj)
  xe:Value→Shared→Prop
noncomputable def frs(l:List Env):List Addr:=l.filterMap (·.frame)
noncomputable abbrev Cx.fs(X:Cx):List Addr:=frs X.outer
noncomputable def Vis(sc:Scope)(x:Str):Prop:=sc.names.lookup x=some .local∨sc.names.lookup x=some .cell∨sc.names.lookup x=some .free
noncomputable def Loc(sc:Scope)(x:Str):Prop:=sc.names.lookup x=some .local∨sc.names.lookup x=some .cell
noncomputable def Amm(env:Env)(h:Heap)(m:Str→Option Value)(x:Str)(u:Value):Prop:=
  (env.kindOf x=some .local∧m x=some u)∨((env.kindOf x=some .cell∨env.kindOf x=some .free)∧∃ c,env.cells.lookup x=some c∧h.IsCell c (some u))
structure Cx.Ok(X:Cx):Prop where
  mod:Mod X.K X.mg X.base
  kind:X.env.scope.kind = .function
  glob:X.env.globals=mainGlobals
  blt:X.env.builtins=builtinsNs
  above:X.s₀.heap.objs.size≤X.env.locals
  inj:∀ x y c,X.env.cells.lookup x=some c→X.env.cells.lookup y=some c→x=y
  has:∀ x,(X.env.kindOf x=some .cell∨X.env.kindOf x=some .free)→∃ c,X.env.cells.lookup x=some c
  cab:∀ x c,X.fn x=true→X.env.cells.lookup x=some c→X.s₀.heap.objs.size≤c
  hd:X.calm=true→X.A.handled=none
  frames:X.A.frames=some X.stack
  stk:X.stack=X.outer∨(X.stack=X.env::X.outer∧X.env.frame=some X.env.locals)
  exf:∀ b∈X.ex,b≠X.env.locals∧∀ x c,X.env.cells.lookup x=some c→c≠b
  bs:∀ b o,X.base.get? b=some o→X.s₀.heap.get? b=some o∧X.H₀ b=none
  bsz:X.base.objs.size≤X.s₀.heap.objs.size
  noex:∀ b o,X.base.get? b=some o→b∉X.ex
  exfs:∀ b∈X.ex,b∉X.fs
  funs:X.s₀.heap.FunFrames X.base X.outer
  frf:∀ b∈X.fs,X.H₀ b=none
structure Inv(X:Cx)(pins:List (Addr×Obj))(σ:List (Option V))(H:Hp)(s:Shared):Prop where
  ok:X.Ok
  os:s.os=X.s₀.os
  bare:AllBare s.gens
  base:Un X.fs X.ex X.H₀ H X.s₀.heap s.heap
  loc:∃ m,s.heap.Ns X.env.locals m∧∀ (i:Nat) (x:Str) (v:V),X.N[i]? = some x→σ[i]? = some (some v)→Vis X.env.scope x→∃ u,RelV v u∧Amm X.env s.heap m x u
  cell:∀ x c,X.env.cells.lookup x=some c→∃ v,s.heap.IsCell c v
  free:H X.env.locals=none
  freeC:∀ x c,X.env.cells.lookup x=some c→H c=none
  pin:∀ p∈X.pn++pins,s.heap.get? p.1=some p.2∧H p.1=none∧p.1≠X.env.locals∧p.1∉X.fs∧∀ v,p.2.data≠.cell v
  hok:HOk X.prog X.w H s.heap
  len:σ.length=X.N.length
section
variable {X:Cx}{pins:List (Addr×Obj)}{σ:List (Option V)}{H H':Hp}{s:Shared}{h':Heap}
theorem Cx.Ok.nofr(ok:X.Ok){b:Addr}{o:Obj}(e:X.base.get? b=some o):b∉X.fs:=fun hb=>by
  have:=(ok.funs.mem hb).1
  rw[e] at this;cases this
theorem Inv.bs(I:Inv X pins σ H s):∀ b o,X.base.get? b=some o→s.heap.get? b=some o∧H b=none:=fun b o e=>
  ⟨I.base.keep b o (I.ok.bs b o e).1 (I.ok.bs b o e).2 (I.ok.nofr e) (I.ok.noex b o e),I.base.free b o (I.ok.bs b o e).1 (I.ok.bs b o e).2 (I.ok.noex b o e)⟩
theorem Inv.bk(I:Inv X pins σ H s):∀ b o,X.base.get? b=some o→s.heap.get? b=some o:=fun b o e=>(I.bs b o e).1
theorem Inv.mod(I:Inv X pins σ H s):Mod X.K X.mg X.base:=I.ok.mod
theorem Inv.kIn(I:Inv X pins σ H s):X.K.In s.heap:=I.ok.mod.kin.keeps I.bk
theorem Inv.nolimit(I:Inv X pins σ H s):s.heap.NoLimit:=I.ok.mod.nolimit.keeps I.bk
theorem Inv.fr(I:Inv X pins σ H s):∃ m,Fr X.base X.env.locals s.heap m:=
  let ⟨m,hn,_⟩:=I.loc
  ⟨m,hn,I.bk,Nat.le_trans I.ok.bsz I.ok.above⟩
theorem Inv.lt(I:Inv X pins σ H s):X.env.locals < s.heap.objs.size:=let ⟨_,hn,_⟩:=I.loc;hn.lt
theorem Inv.sz(I:Inv X pins σ H s):X.s₀.heap.objs.size≤s.heap.objs.size:=Nat.le_trans I.ok.above (Nat.le_of_lt I.lt)
theorem Inv.nofs(I:Inv X pins σ H s){a:Addr}(h:s.heap.objs.size≤a):a∉X.fs:=fun hb=>by
  obtain ⟨_,o,ho,_⟩:=I.ok.funs.mem hb
  exact absurd (Nat.lt_of_lt_of_le (Heap.lt_size ho) (Nat.le_trans I.sz h)) (Nat.lt_irrefl _)
theorem Inv.cne(I:Inv X pins σ H s):∀ x c,X.env.cells.lookup x=some c→c≠X.env.locals:=fun x c e z=>by
  obtain ⟨v,o,ho,hd⟩:=I.cell x c e
  obtain ⟨m,⟨o',es,ep,ho',hd',_⟩,_⟩:=I.loc
  rw[z,ho'] at ho;cases ho;rw[hd'] at hd;cases hd
theorem Inv.funs(I:Inv X pins σ H s):s.heap.FunFrames X.base X.outer:=by
  have all:∀ (l:List Env),(∀ b∈frs l,b∈X.fs)→X.s₀.heap.FunFrames X.base l→s.heap.FunFrames X.base l:=by
    intro l
    induction l with
    | nil=>intro _ _;trivial
    | cons env r ih=>
      intro hs hl
      obtain ⟨hk,⟨L,o,hf,hn,ho,hd⟩,hr⟩:=hl
      have hL:L∈X.fs:=hs L (by unfold frs;rw[List.filterMap_cons,hf];exact List.mem_cons_self)
      obtain ⟨sl,e⟩:=I.base.slot L o ho (I.ok.frf L hL) hL fun z=>I.ok.exfs L z hL
      exact ⟨hk,⟨L,_,hf,hn,e,hd⟩,ih (fun b hb=>hs b (by unfold frs;rw[List.filterMap_cons,hf];exact List.mem_cons_of_mem _ hb)) hr⟩
  exact all X.outer (fun _ hb=>hb) I.ok.funs
theorem Inv.stack(I:Inv X pins σ H s):s.heap.FunFrames X.base X.stack:=by
  rcases I.ok.stk with e | ⟨e,hf⟩
  · rw[e];exact I.funs
  · rw[e]
    obtain ⟨m,hn,_⟩:=I.loc
    refine .cons (by rw[I.ok.kind];decide) hf hn ?_ I.funs
    exact Heap.get?_none_of_le (Nat.le_trans I.ok.bsz I.ok.above)
theorem Inv.stkSub(I:Inv X pins σ H s):∀ b∈frs X.stack,b∈X.env.locals::X.fs:=fun b hb=>by
  rcases I.ok.stk with e | ⟨e,hf⟩
  · rw[e] at hb;exact List.mem_cons_of_mem _ hb
  · rw[e] at hb
    unfold frs at hb
    rw[List.filterMap_cons,hf] at hb
    exact hb
theorem Inv.stkFree(I:Inv X pins σ H s):∀ b∈frs X.stack,H b=none:=fun b hb=>by
  rcases List.mem_cons.mp (I.stkSub b hb) with e | hb
  · rw[e];exact I.free
  · obtain ⟨_,o,ho,_⟩:=I.ok.funs.mem hb
    exact I.base.free b o ho (I.ok.frf b hb) fun z=>I.ok.exfs b z hb
theorem Inv.step{g':Array GenState}{t':Nat}{d':Drawn}{ch:List Addr}(I:Inv X pins σ H s)
    (hch:∀ b∈ch,(b∈X.ex∨X.s₀.heap.objs.size≤b)∧b≠X.env.locals∧(∀ x c,X.env.cells.lookup x=some c→c≠b)∧∀ p∈X.pn++pins,p.1≠b)
    (keep:∀ b o,b≠X.env.locals→b∉X.fs→b∉ch→s.heap.get? b=some o→H b=none→h'.get? b=some o)
    (slot:∀ b o,b≠X.env.locals→b∈X.fs→b∉ch→s.heap.get? b=some o→H b=none→∃ sl,h'.get? b=some { o with slots:=sl }) (free:∀ b o,b∉ch→s.heap.get? b=some o→H b=none→H' b=none)
    (there:∀ b o,b∉ch→s.heap.get? b=some o→∃ o',h'.get? b=some o')
    (tups:∀ b xs,H b=some (.tup xs)→H' b=some (.tup xs)) (frzs:∀ b o u,H b=some (.frz o u)→H' b=some (.frz o u)) (tbls:∀ b ps,H b=some (.tbl ps)→∃ more,H' b=some (.tbl (ps++more)))
    (ns:∀ m,s.heap.Ns X.env.locals m→h'.Ns X.env.locals m) (hok:HOk X.prog X.w H' h') (hg:AllBare g') :
    Inv X pins σ H' { s with heap:=h',gens:=g',drawn:=d',toks:=t' }:=by
  have neL:∀ b o,X.s₀.heap.get? b=some o→b≠X.env.locals:=fun b o e=>Nat.ne_of_lt (Nat.lt_of_lt_of_le (Heap.lt_size e) I.ok.above)
  have neC:∀ b o,X.s₀.heap.get? b=some o→b∉X.ex→b∉ch:=fun b o e hx hb=>by
    rcases (hch b hb).1 with z | z
    · exact hx z
    · exact absurd (Nat.lt_of_lt_of_le (Heap.lt_size e) z) (Nat.lt_irrefl _)
  have cellK:∀ x c,X.env.cells.lookup x=some c→∀ v,s.heap.IsCell c v→h'.IsCell c v:=fun x c e v zz=>by
    obtain ⟨o,ho,hd⟩:=zz
    have nch:c∉ch:=fun z=>(hch c z).2.2.1 x c e rfl
    by_cases hc:c∈X.fs
    · obtain ⟨sl,q⟩:=slot c o (I.cne x c e) hc nch ho (I.freeC x c e)
      exact ⟨_,q,hd⟩
    · exact ⟨o,keep c o (I.cne x c e) hc nch ho (I.freeC x c e),hd⟩
  refine ⟨I.ok,I.os,hg,⟨fun b o e n hb hx=>?_,fun b o e n hb hx=>?_,fun b o e n hx=>?_,fun b o e hx=>?_,fun b xs e=>tups b xs (I.base.tups b xs e),fun b o xs e=>frzs b o xs (I.base.frzs b o xs e),fun b ps e=>?_⟩,?_,fun x c e=>?_,?_,fun x c e=>?_,fun p hp=>?_,hok,I.len⟩
  · exact keep b o (neL b o e) hb (neC b o e hx) (I.base.keep b o e n hb hx) (I.base.free b o e n hx)
  · obtain ⟨sl,e1⟩:=I.base.slot b o e n hb hx
    obtain ⟨sl',e2⟩:=slot b _ (neL b o e) hb (neC b o e hx) e1 (I.base.free b o e n hx)
    exact ⟨sl',e2⟩
  · obtain ⟨o',e1⟩:=I.base.there b o e hx
    exact free b o' (neC b o e hx) e1 (I.base.free b o e n hx)
  · obtain ⟨o',e1⟩:=I.base.there b o e hx
    exact there b o' (neC b o e hx) e1
  · obtain ⟨m1,e1⟩:=I.base.tbls b ps e
    obtain ⟨m2,e2⟩:=tbls b _ e1
    exact ⟨m1++m2,by rw[e2,Array.append_assoc]⟩
  · obtain ⟨m,hn,hl⟩:=I.loc
    refine ⟨m,ns m hn,fun i x v e1 e2 e3=>?_⟩
    obtain ⟨u,r,l⟩:=hl i x v e1 e2 e3
    refine ⟨u,r,?_⟩
    rcases l with l | ⟨k,c,e,z⟩
    · exact .inl l
    · exact .inr ⟨k,c,e,cellK x c e _ z⟩
  · obtain ⟨v,z⟩:=I.cell x c e
    exact ⟨v,cellK x c e v z⟩
  · obtain ⟨m,⟨o,_,_,ho,_⟩,_⟩:=I.loc
    exact free _ o (fun z=>(hch _ z).2.1 rfl) ho I.free
  · obtain ⟨v,o,ho,hd⟩:=I.cell x c e
    exact free c o (fun z=>(hch c z).2.2.1 x c e rfl) ho (I.freeC x c e)
  · obtain ⟨e,n,ne,nf,d⟩:=I.pin p hp
    have nch:p.1∉ch:=fun z=>(hch p.1 z).2.2.2 p hp rfl
    exact ⟨keep p.1 p.2 ne nf nch e n,free p.1 p.2 nch e n,ne,nf,d⟩
theorem Inv.un{t':Nat}(I:Inv X pins σ H s)(u:Un X.fs [] H H' s.heap h')(hok:HOk X.prog X.w H' h'):Inv X pins σ H' { s with heap:=h',toks:=t' }:=by
  obtain ⟨m,⟨o,es,ep,ho,r⟩,_⟩:=id I.loc
  obtain ⟨sl,hL⟩:=u.any ho I.free (by simp)
  exact I.step (g':=s.gens) (d':=s.drawn) (ch:=[]) (fun _ z=>nomatch z) (fun b o _ hb _ e n=>u.keep b o e n hb (by simp)) (fun b o _ hb _ e n=>u.slot b o e n hb (by simp)) (fun b o _ e n=>u.free b o e n (by simp)) (fun b o _ e=>u.there b o e (by simp)) u.tups u.frzs u.tbls (fun m' hm=>by
    obtain ⟨o',es',ep',ho',r'⟩:=hm
    rw[ho] at ho';cases ho'
    exact ⟨_,es',ep',hL,r'⟩) hok I.bare
theorem Inv.call{g':Array GenState}{t':Nat}{d':Drawn}{ch:List Addr}(I:Inv X pins σ H s)(u:Un (frs X.stack) ch H H' s.heap h')(hok:HOk X.prog X.w H' h')(hg:AllBare g')
    (hch:∀ b∈ch,(b∈X.ex∨X.s₀.heap.objs.size≤b)∧b≠X.env.locals∧(∀ x c,X.env.cells.lookup x=some c→c≠b)∧∀ p∈X.pn++pins,p.1≠b) :
    Inv X pins σ H' { s with heap:=h',gens:=g',drawn:=d',toks:=t' }:=by
  obtain ⟨m,⟨o,es,ep,ho,r⟩,_⟩:=id I.loc
  obtain ⟨sl,hL⟩:=u.any ho I.free fun z=>(hch _ z).2.1 rfl
  exact I.step (ch:=ch) hch (fun b o hL hb hc e n=>u.keep b o e n (fun z=>(List.mem_cons.mp (I.stkSub b z)).elim hL hb) hc) (fun b o _ _ hc e n=>u.any e n hc) (fun b o hc e n=>u.free b o e n hc) (fun b o hc e=>u.there b o e hc) u.tups u.frzs u.tbls (fun m' hm=>by
    obtain ⟨o',es',ep',ho',r'⟩:=hm
    rw[ho] at ho';cases ho'
    exact ⟨_,es',ep',hL,r'⟩) hok hg
theorem Inv.turned{t':Nat}{it:Addr}(I:Inv X pins σ H s)(k:∀ b o,b≠it→s.heap.get? b=some o→h'.get? b=some o)(hn:H it=none)(hL:it≠X.env.locals)
    (h1:it∈X.ex∨X.s₀.heap.objs.size≤it) (h2:∀ x c,X.env.cells.lookup x=some c→c≠it) (h3:∀ p∈X.pn++pins,p.1≠it):Inv X pins σ H { s with heap:=h',toks:=t' }:=by
  have nit:∀ b u,H b=some u→b≠it:=fun b u e z=>by rw[z,hn] at e;cases e
  refine I.step (g':=s.gens) (d':=s.drawn) (ch:=[it]) (fun b hb=>?_) (fun b o _ _ hc e _=>k b o (fun z=>hc (by simp[z])) e) (fun b o _ _ hc e _=>⟨o.slots,k b o (fun z=>hc (by simp[z])) e⟩) (fun _ _ _ _ n=>n)
    (fun b o hc e=>⟨o,k b o (fun z=>hc (by simp[z])) e⟩) (fun _ _ e=>e) (fun _ _ _ e=>e) (fun b ps e=>⟨#[],by rw[e];simp⟩) (fun m hm=>?_) (fun b u e=>?_) I.bare
  · have e:b=it:=by simpa using hb
    subst e
    exact ⟨h1,hL,h2,h3⟩
  · obtain ⟨o,es,ep,ho,r⟩:=hm
    exact ⟨o,es,ep,k _ o (Ne.symm hL) ho,r⟩
  · refine (I.hok b u e).stay (fun c v hc q=>k c v ?_ q) (fun _ q=>q) fun _ _ q=>q
    rcases hc with z | z
    · rw[z];exact nit b u e
    · exact nit c _ z
theorem Inv.tok(I:Inv X pins σ H s)(t:Nat):Inv X pins σ H { s with toks:=t }:=I.un (h':=s.heap) (t':=t) Un.refl I.hok
theorem Inv.kept{t':Nat}(I:Inv X pins σ H s)(k:∀ b u,s.heap.get? b=some u→h'.get? b=some u):Inv X pins σ H { s with heap:=h',toks:=t' }:=I.un (Un.kept k) (I.hok.kept k)
theorem Inv.laid{a:Addr}{o:HO}{t':Nat}(I:Inv X pins σ H s)(k:∀ b u,s.heap.get? b=some u→h'.get? b=some u)(hp:s.heap.objs.size≤a)(new:ObjOk X.prog X.w (upd H a o) h' a o) :
    Inv X pins σ (upd H a o) { s with heap:=h',toks:=t' }:=I.un (Un.laid k hp (I.hok.fresh hp)) (I.hok.laid k hp new)
theorem Inv.write{x e:Addr}{o:HO}{t':Nat}(I:Inv X pins σ H s)(mu:Mut (H x))(he:e=x∨H e=some (.own x))(k:∀ b u,b≠e→s.heap.get? b=some u→h'.get? b=some u)(heo:∃ u,h'.get? e=some u)
    (new:ObjOk X.prog X.w (upd H x o) h' x o):Inv X pins σ (upd H x o) { s with heap:=h',toks:=t' }:=I.un (Un.write mu he k heo) (I.hok.write mu he k heo new)
theorem Inv.pins_of{pins':List (Addr×Obj)}(I:Inv X pins σ H s)(h:∀ p∈pins',s.heap.get? p.1=some p.2∧H p.1=none∧p.1≠X.env.locals∧p.1∉X.fs∧∀ v,p.2.data≠.cell v):Inv X pins' σ H s:=
  ⟨I.ok,I.os,I.bare,I.base,I.loc,I.cell,I.free,I.freeC,fun p hp=>(List.mem_append.mp hp).elim (fun z=>I.pin p (List.mem_append_left _ z)) (h p),I.hok,I.len⟩
theorem Oa{N:List Str}(hN:N.Nodup){i j:Nat}{x:Str}(a:N[i]? = some x)(b:N[j]? = some x):i=j:=by
  obtain ⟨h1,e1⟩:=List.getElem?_eq_some_iff.mp a
  obtain ⟨h2,e2⟩:=List.getElem?_eq_some_iff.mp b
  exact (List.getElem_inj hN).mp (e1.trans e2.symm)
theorem Aay{M:Model}{A:Around}{E:Value→Shared→Prop}{i:Nat}{x:Str}{v:V}{u:Value}{Q:Unit→Shared→Prop}(I:Inv X pins σ H s)(hN:X.N.Nodup)(hi:X.N[i]? = some x)(hx:Loc X.env.scope x)(r:RelV v u)
    (h:∀ s',Inv X pins (σ.set i (some v)) H s'→(∃ a,Heap.SameBut a s.heap s'.heap∧(a=X.env.locals∨X.env.cells.lookup x=some a))→Q () s') (hf:X.fn x=true∨X.env.scope.names.lookup x=some .local:=by first | exact .inl rfl | exact .inr rfl | assumption):wpAny M A (storeName X.env x u) Q E s:=by
  obtain ⟨m,hn,hl⟩:=id I.loc
  have hcls:(X.env.scope.kind == .class || (X.env.scope.kind == .module&&X.env.locals != X.env.globals))=false:=by rw[I.ok.kind];rfl
  have hiσ:i < σ.length:=by rw[I.len];exact (List.getElem?_eq_some_iff.mp hi).1
  have cne:=I.cne
  have tracked:∀ {a:Addr} {h':Heap},(∃ o,s.heap.get? a=some o∧H a=none)→Heap.SameBut a s.heap h'→HOk X.prog X.w H h':=fun {a h'} ha hs b ob e=>by
    obtain ⟨_,_,hfree⟩:=ha
    refine (I.hok b ob e).stay (fun c w' hc q=>(hs.2 c ?_).trans q) (fun _ q=>q) fun _ _ q=>q
    rintro rfl
    rcases hc with rfl | hc
    · rw[hfree] at e;cases e
    · rw[hfree] at hc;cases hc
  rcases hx with hk | hk
  · refine wpAny_storeName_local hk hn (fun h' hn' hs=>?_) hcls
    obtain ⟨oL,_,_,hoL,_⟩:=id hn
    refine h _ ⟨I.ok,I.os,I.bare,⟨fun b o e n hb hx=>?_,fun b o e n hb hx=>?_,I.base.free,fun b o e hx=>?_,I.base.tups,I.base.frzs,I.base.tbls⟩,⟨_,hn',fun j y v' e1 e2 e3=>?_⟩,fun y c e=>?_,I.free,I.freeC,fun p hp=>?_,tracked ⟨oL,hoL,I.free⟩ hs,by simpa using I.len⟩ ⟨_,hs,.inl rfl⟩
    · exact (hs.2 b (Nat.ne_of_lt (Nat.lt_of_lt_of_le (Heap.lt_size e) I.ok.above))).trans (I.base.keep b o e n hb hx)
    · obtain ⟨sl,e1⟩:=I.base.slot b o e n hb hx
      exact ⟨sl,(hs.2 b (Nat.ne_of_lt (Nat.lt_of_lt_of_le (Heap.lt_size e) I.ok.above))).trans e1⟩
    · obtain ⟨o',e1⟩:=I.base.there b o e hx
      exact ⟨o',(hs.2 b (Nat.ne_of_lt (Nat.lt_of_lt_of_le (Heap.lt_size e) I.ok.above))).trans e1⟩
    · by_cases hj:j=i
      · subst hj
        rw[hi] at e1;cases e1
        rw[List.getElem?_set_self hiσ] at e2
        cases e2
        exact ⟨u,r,.inl ⟨hk,by simp⟩⟩
      · rw[List.getElem?_set_ne (Ne.symm hj)] at e2
        obtain ⟨u',r',q⟩:=hl j y v' e1 e2 e3
        refine ⟨u',r',?_⟩
        rcases q with ⟨k,e⟩ | ⟨k,c,e,z⟩
        · refine .inl ⟨k,?_⟩
          have:y≠x:=fun e=>hj (Oa hN e1 (e ▸ hi))
          simp[this,e]
        · exact .inr ⟨k,c,e,z.sameBut hs (cne y c e)⟩
    · obtain ⟨w',z⟩:=I.cell y c e
      exact ⟨w',z.sameBut hs (cne y c e)⟩
    · obtain ⟨e,n,ne,nf,d⟩:=I.pin p hp
      exact ⟨(hs.2 p.1 ne).trans e,n,ne,nf,d⟩
  · have hfn:X.fn x=true:=by
      rcases hf with z | z
      · exact z
      · rw[z] at hk;cases hk
    obtain ⟨c,hc⟩:=I.ok.has x (.inl hk)
    obtain ⟨w',z⟩:=I.cell x c hc
    refine wpAny_storeName_cell I.ok.kind hk hc z (fun h' hc' hs=>?_)
    obtain ⟨oc,hoc,hocd⟩:=id z
    refine h { s with heap:=h' } ⟨I.ok,I.os,I.bare,⟨fun b o e n hb hx=>?_,fun b o e n hb hx=>?_,I.base.free,fun b o e hx=>?_,I.base.tups,I.base.frzs,I.base.tbls⟩,⟨m,hn.sameBut hs (Ne.symm (cne x c hc)),fun j y v' e1 e2 e3=>?_⟩,fun y c' e=>?_,I.free,I.freeC,fun p hp=>?_,tracked ⟨oc,hoc,I.freeC x c hc⟩ hs,by simpa using I.len⟩ ⟨c,hs,.inr hc⟩
    · exact (hs.2 b (Nat.ne_of_lt (Nat.lt_of_lt_of_le (Heap.lt_size e) (I.ok.cab x c hfn hc)))).trans (I.base.keep b o e n hb hx)
    · obtain ⟨sl,e1⟩:=I.base.slot b o e n hb hx
      exact ⟨sl,(hs.2 b (Nat.ne_of_lt (Nat.lt_of_lt_of_le (Heap.lt_size e) (I.ok.cab x c hfn hc)))).trans e1⟩
    · obtain ⟨o',e1⟩:=I.base.there b o e hx
      exact ⟨o',(hs.2 b (Nat.ne_of_lt (Nat.lt_of_lt_of_le (Heap.lt_size e) (I.ok.cab x c hfn hc)))).trans e1⟩
    · by_cases hj:j=i
      · subst hj
        rw[hi] at e1;cases e1
        rw[List.getElem?_set_self hiσ] at e2
        cases e2
        exact ⟨u,r,.inr ⟨.inl hk,c,hc,hc'⟩⟩
      · rw[List.getElem?_set_ne (Ne.symm hj)] at e2
        obtain ⟨u',r',q⟩:=hl j y v' e1 e2 e3
        refine ⟨u',r',?_⟩
        rcases q with q | ⟨k,c',e,z'⟩
        · exact .inl q
        · refine .inr ⟨k,c',e,z'.sameBut hs ?_⟩
          rintro rfl
          exact hj (Oa hN e1 (I.ok.inj _ _ _ e hc ▸ hi))
    · by_cases hcc:c'=c
      · subst hcc;exact ⟨_,hc'⟩
      · obtain ⟨w2,z2⟩:=I.cell y c' e
        exact ⟨w2,z2.sameBut hs hcc⟩
    · obtain ⟨e,n,ne,nf,d⟩:=I.pin p hp
      refine ⟨(hs.2 p.1 ?_).trans e,n,ne,nf,d⟩
      intro q
      rw[q,hoc] at e
      have q':oc=p.2:=Option.some.inj e
      exact d w' (by rw[← q'];exact hocd)
theorem Oe{M:Model}{A:Around}{E:Value→Shared→Prop}{i:Nat}{x:Str}{v:V}{u:Value}{Q:Unit→Shared→Prop}(I:Inv X pins σ H s)(hN:X.N.Nodup)(hi:X.N[i]? = some x)(hx:Loc X.env.scope x)(r:RelV v u)
    (h:∀ s',Inv X pins (σ.set i (some v)) H s'→Q () s') (hf:X.fn x=true∨X.env.scope.names.lookup x=some .local:=by first | exact .inl rfl | exact .inr rfl | assumption):wpAny M A (storeName X.env x u) Q E s:=
  Aay I hN hi hx r (fun s' I' _=>h s' I') hf
theorem Inv.call'{s':Shared}{ch:List Addr}(I:Inv X pins σ H s)(ho:s'.os=s.os)(u:Un (frs X.stack) ch H H' s.heap s'.heap)(hok:HOk X.prog X.w H' s'.heap)(hg:AllBare s'.gens)
    (hch:∀ b∈ch,(b∈X.ex∨X.s₀.heap.objs.size≤b)∧b≠X.env.locals∧(∀ x c,X.env.cells.lookup x=some c→c≠b)∧∀ p∈X.pn++pins,p.1≠b):Inv X pins σ H' s':=by
  obtain ⟨h',g',d',t',o'⟩:=s'
  have e:o'=s.os:=ho
  subst e
  exact I.call (g':=g') (t':=t') (d':=d') u hok hg hch
end
abbrev XK:=Value→Option Addr→Hp→Prop
abbrev St:=List (Option V)
abbrev VK:=V→Hp→Prop
abbrev TE:=St→Hp→VK→Prop
abbrev TT:=St→Hp→(Bool→Hp→Prop)→Prop
abbrev TA:=St→Hp→(List V→Hp→Prop)→Prop
structure Ends where
  nx:St→Hp→Prop
  rt:VK
  bk:St→Hp→Prop:=fun _ _=>False
  ct:St→Hp→Prop:=fun _ _=>False
abbrev TS:=Ends→St→Hp→Prop
inductive EP(X:Cx)(pins:List (Addr×Obj))(σ:St)(Q:VK)(u:Value)(s':Shared):Prop
  | mk (v:V) (H':Hp) (I:Inv X pins σ H' s') (r:RelV v u) (q:Q v H'):EP X pins σ Q u s'
inductive TP(X:Cx)(pins:List (Addr×Obj))(σ:St)(Q:Bool→Hp→Prop)(b:Bool)(s':Shared):Prop
  | mk (H':Hp) (I:Inv X pins σ H' s') (q:Q b H'):TP X pins σ Q b s'
inductive AP(X:Cx)(pins:List (Addr×Obj))(σ:St)(Q:List V→Hp→Prop)(us:List Value)(s':Shared):Prop
  | mk (vs:List V) (H':Hp) (I:Inv X pins σ H' s') (r:Vals vs us) (q:Q vs H'):AP X pins σ Q us s'
theorem EP.elim{X:Cx}{pins:List (Addr×Obj)}{σ:St}{Q:VK}{u:Value}{s':Shared}{C:Prop}(h:EP X pins σ Q u s')(k:∀ v H',Inv X pins σ H' s'→RelV v u→Q v H'→C):C:=h.rec k
theorem AP.elim{X:Cx}{pins:List (Addr×Obj)}{σ:St}{Q:List V→Hp→Prop}{us:List Value}{s':Shared}{C:Prop}(h:AP X pins σ Q us s')(k:∀ vs H',Inv X pins σ H' s'→Vals vs us→Q vs H'→C):C:=h.rec k
noncomputable def SP(X:Cx)(pins:List (Addr×Obj))(D:Ends)(f:Flow)(s':Shared):Prop:=
  match f with
  | .next=>∃ σ' H',Inv X pins σ' H' s'∧D.nx σ' H'
  | .brk=>∃ σ' H',Inv X pins σ' H' s'∧D.bk σ' H'
  | .cont=>∃ σ' H',Inv X pins σ' H' s'∧D.ct σ' H'
  | .ret u=>∃ v σ' H',Inv X pins σ' H' s'∧RelV v u∧D.rt v H'
noncomputable def PE(X:Cx)(e:Expr)(t:TE):Prop:=
  ∀ (pins:List (Addr×Obj)) (s:Shared) (σ:St) (H:Hp) (Q:VK),Inv X pins σ H s→t σ H Q→wpAny (model X.prog X.w) X.A (eval e X.env) (EP X pins σ Q) X.xe s
noncomputable def PT(X:Cx)(e:Expr)(t:TT):Prop:=
  ∀ (pins:List (Addr×Obj)) (s:Shared) (σ:St) (H:Hp) (Q:Bool→Hp→Prop),Inv X pins σ H s→t σ H Q→wpAny (model X.prog X.w) X.A (isTrue e X.env (eval e X.env)) (TP X pins σ Q) X.xe s
noncomputable def PW(X:Cx)(e:Expr)(t:TT):Prop:=
  ∀ (whole:Sem Value) (pins:List (Addr×Obj)) (s:Shared) (σ:St) (H:Hp) (Q:Bool→Hp→Prop),Inv X pins σ H s→t σ H Q→wpAny (model X.prog X.w) X.A (isTrue e X.env whole) (TP X pins σ Q) X.xe s
theorem PW.pt{X:Cx}{e:Expr}{t:TT}(h:PW X e t):PT X e t:=h _
noncomputable def PA(X:Cx)(es:List Expr)(t:TA):Prop:=
  ∀ (pos:Pos) (pins:List (Addr×Obj)) (s:Shared) (σ:St) (H:Hp) (Q:List V→Hp→Prop),Inv X pins σ H s→t σ H Q→wpAny (model X.prog X.w) X.A (spliced (backTo pos (starEach es X.env))) (AP X pins σ Q) X.xe s
noncomputable def PS(X:Cx)(st:Stmt)(t:TS):Prop:=
  ∀ (pins:List (Addr×Obj)) (s:Shared) (σ:St) (H:Hp) (D:Ends),Inv X pins σ H s→t D σ H→wpAny (model X.prog X.w) X.A (exec st X.env) (SP X pins D) X.xe s
noncomputable def PSs(X:Cx)(st:List Stmt)(t:TS):Prop:=
  ∀ (pins:List (Addr×Obj)) (s:Shared) (σ:St) (H:Hp) (D:Ends),Inv X pins σ H s→t D σ H→wpAny (model X.prog X.w) X.A (execs st X.env) (SP X pins D) X.xe s
theorem thn{α:Type}{t:Sem α}{Q Q':α→Shared→Prop}{M:Model}{A:Around}{E:Value→Shared→Prop}{s:Shared}(h:wpAny M A t Q E s)(hQ:∀ a s,Q a s→Q' a s):wpAny M A t Q' E s:=wpAny_mono h hQ fun _ _ x=>x
section
variable {X:Cx}
noncomputable def Amu(i:Nat):TE:=fun σ H Q=>∃ v,σ[i]? = some (some v)∧Q v H
noncomputable def tC(v:V):TE:=fun _ H Q=>Q v H
theorem Ai9{i:Nat}{x:Str}{pos:Pos}(hN:X.N[i]? = some x)(hv:Vis X.env.scope x)(hd:(x == ("__debug__" : Str))=false:=by decide)(hcd:(x == ("__classdict__" : Str))=false:=by decide):PE X (.Name x pos) (Amu i):=by
  intro pins s σ H Q I h
  obtain ⟨v,e,h⟩:=h
  obtain ⟨m,hn,hl⟩:=I.loc
  obtain ⟨u,r,l⟩:=hl i x v hN e hv
  have fin:EP X pins σ Q u s:=⟨v,H,I,r,h⟩
  rcases l with ⟨hk,hm⟩ | ⟨hk,c,hc,hcell⟩
  · exact wpAny_Name (wpAny_loadName_local I.ok.kind hk hn hm fin) hd
  · rcases hk with hk | hk
    · exact wpAny_Name (wpAny_loadName_cell I.ok.kind hk hc hcell fin) hd
    · exact wpAny_Name (wpAny_loadName_free I.ok.kind hk hc hcell fin hcd) hd
theorem Ai4{i j pos}:PE X (.Constant (.int i) j pos) (tC (.int i)):=fun _ _ _ H _ I h=>wpAny_Constant_int ⟨.int i,H,I.tok _,⟨_,rfl⟩,h⟩
theorem Ak8{b j pos}:PE X (.Constant (.bool b) j pos) (tC (.bl b)):=fun _ _ _ H _ I h=>Constant_bool ⟨.bl b,H,I,rfl,h⟩
theorem Ai1{j pos}:PE X (.Constant .none j pos) (tC .non):=fun _ _ _ H _ I h=>Constant_none ⟨.non,H,I,rfl,h⟩
theorem Aho{x j pos}:PE X (.Constant (.str x) j pos) (tC (.str x)):=fun _ _ _ H _ I h=>Calls.Constant_str ⟨.str x,H,I.tok _,⟨_,rfl⟩,h⟩
noncomputable def Gl(X:Cx)(x:Str):Prop:=X.env.kindOf x=some .globalImplicit
theorem Jb{E:Value→Shared→Prop}{pins:List (Addr×Obj)}{s:Shared}{σ:St}{H:Hp}{x:Str}{u:Value}{pos:Pos}{Q:Value→Shared→Prop}(I:Inv X pins σ H s)(hg:Gl X x)(hm:X.mg x=some u)(h:Q u s)
    (hd:(x == ("__debug__" : Str))=false:=by decide):wpAny (model X.prog X.w) X.A (eval (.Name x pos) X.env) Q E s:=
  Calls.Name_function_global I.ok.kind hg (Calls.loadGlobal_global (by rw[I.ok.glob];exact I.mod.glob.keeps I.bk) hm h) hd
theorem C6{E:Value→Shared→Prop}{pins:List (Addr×Obj)}{s:Shared}{σ:St}{H:Hp}{x:Str}{u:Value}{pos:Pos}{Q:Value→Shared→Prop}(I:Inv X pins σ H s)(hg:Gl X x)(hm:X.mg x=none)(hv:bootBuiltins x=some u)(h:Q u s)
    (hn:x ≠ "__name__" := by decide) (hd:(x == ("__debug__" : Str))=false:=by decide):wpAny (model X.prog X.w) X.A (eval (.Name x pos) X.env) Q E s:=by
  obtain ⟨mb,h1,h2⟩:=I.mod.blt
  exact Calls.Name_function_global I.ok.kind hg (Calls.loadGlobal_builtin (by rw[I.ok.glob];exact I.mod.glob.keeps I.bk) hm (by rw[I.ok.blt];exact h1.keeps I.bk) ((h2 x hn).trans hv) h) hd
theorem Xc{x:Str}{v:V}{u:Value}{pos:Pos}(hg:Gl X x)(hm:X.mg x=some u)(r:RelV v u)(hd:(x == ("__debug__" : Str))=false:=by decide):PE X (.Name x pos) (tC v):=
  fun _ _ _ H _ I h=>Jb I hg hm ⟨v,H,I,r,h⟩ hd
theorem Xl{x:Str}{v:V}{u:Value}{pos:Pos}(hg:Gl X x)(hm:X.mg x=none)(hv:bootBuiltins x=some u)(r:RelV v u)(hn:x ≠ "__name__" := by decide)(hd:(x == ("__debug__" : Str))=false:=by decide):PE X (.Name x pos) (tC v):=
  fun _ _ _ H _ I h=>C6 I hg hm hv ⟨v,H,I,r,h⟩ hn hd
variable {a b:Expr}{ta tb:TE}{pos:Pos}
variable {tA tB':TT}{rest:List Expr}
noncomputable def Amn(t u:TT):TT:=fun σ H Q=>t σ H fun c H1=>if c=true then u σ H1 Q else Q false H1
noncomputable def tOr(t u:TT):TT:=fun σ H Q=>t σ H fun c H1=>if c=true then Q true H1 else u σ H1 Q
noncomputable def Amx(t:TT):TT:=fun σ H Q=>t σ H fun c H1=>Q (!c) H1
theorem Afm(ha:PT X a tA):PW X (.BoolOp .And [a] pos) tA:=by
  intro wh pins s σ H Q I h
  refine isTrue_and (thn (ha pins s σ H Q I h) fun c s1 e=>?_)
  cases c with
  | true=>exact isTrue_and_nil e
  | false=>exact e
theorem Ajt(ha:PT X a tA):PW X (.BoolOp .Or [a] pos) tA:=by
  intro wh pins s σ H Q I h
  refine isTrue_or (thn (ha pins s σ H Q I h) fun c s1 e=>?_)
  cases c with
  | false=>exact isTrue_or_nil e
  | true=>exact e
theorem Ajn(ha:PT X a tA)(hb:PW X (.BoolOp .And (b::rest) pos) tB'):PW X (.BoolOp .And (a::b::rest) pos) (Amn tA tB'):=by
  intro wh pins s σ H Q I h
  refine isTrue_and (thn (ha pins s σ H _ I h) fun c s1 zz=>?_)
  obtain ⟨H1,I1,q1⟩:=zz
  cases c with
  | true=>exact hb wh pins s1 σ H1 Q I1 q1
  | false=>exact ⟨H1,I1,q1⟩
theorem Ald(ha:PT X a tA)(hb:PW X (.BoolOp .Or (b::rest) pos) tB'):PW X (.BoolOp .Or (a::b::rest) pos) (tOr tA tB'):=by
  intro wh pins s σ H Q I h
  refine isTrue_or (thn (ha pins s σ H _ I h) fun c s1 zz=>?_)
  obtain ⟨H1,I1,q1⟩:=zz
  cases c with
  | true=>exact ⟨H1,I1,q1⟩
  | false=>exact hb wh pins s1 σ H1 Q I1 q1
theorem Aj4(ha:PT X a tA):PT X (.UnaryOp .Not a pos) (Amx tA):=by
  intro pins s σ H Q I h
  exact isTrue_not (thn (ha pins s σ H (fun c H1=>Q (!c) H1) I h) fun _ _ z=>z.rec fun H' I' q=>⟨H',I',q⟩)
noncomputable def Ama(ta tb:TE):TE:=fun σ H Q=>ta σ H fun x H1=>∃ c,x = .bl c∧if c=true then tb σ H1 Q else Q (.bl false) H1
noncomputable def Aks(ta:TE):TE:=fun σ H Q=>ta σ H fun x H1=>∃ c,x = .bl c∧Q (.bl (!c)) H1
theorem Ais{op}{t:TE}(h:PE X a t):PE X (.BoolOp op [a] pos) t:=fun pins s σ H Q I hw=>BoolOp_one (h pins s σ H Q I hw)
theorem Ah0(ha:PE X a ta)(hb:PE X (.BoolOp .And (b::rest) pos) tb):PE X (.BoolOp .And (a::b::rest) pos) (Ama ta tb):=by
  intro pins s σ H Q I h
  refine BoolOp_and (thn (ha pins s σ H _ I h) fun v s1 zz=>?_)
  obtain ⟨x,H1,I1,r1,q1⟩:=zz
  obtain ⟨c,rfl,q1⟩:=q1
  cases r1
  refine wpAny_truthy_bool ?_
  cases c with
  | true=>exact hb pins s1 σ H1 Q I1 q1
  | false=>exact ⟨.bl false,H1,I1,rfl,q1⟩
theorem Ah8(ha:PE X a ta):PE X (.UnaryOp .Not a pos) (Aks ta):=by
  intro pins s σ H Q I h
  refine UnaryOp_ (thn (ha pins s σ H _ I h) fun v s1 zz=>?_)
  obtain ⟨x,H1,I1,r1,q1⟩:=zz
  obtain ⟨c,rfl,q1⟩:=q1
  cases r1
  exact not_of (wpAny_truthy_bool ⟨.bl (!c),H1,I1,rfl,q1⟩)
noncomputable def tIf(t:TT)(ta tb:TE):TE:=fun σ H Q=>t σ H fun c H1=>if c=true then ta σ H1 Q else tb σ H1 Q
theorem Adr{c:Expr}(hc:PT X c tA)(ha:PE X a ta)(hb:PE X b tb):PE X (.IfExp c a b pos) (tIf tA ta tb):=by
  intro pins s σ H Q I h
  refine wpAny_IfExp (thn (hc pins s σ H _ I h) fun d s1 zz=>?_)
  obtain ⟨H1,I1,q1⟩:=zz
  cases d with
  | true=>exact ha pins s1 σ H1 Q I1 q1
  | false=>exact hb pins s1 σ H1 Q I1 q1
end
noncomputable def SqL(K:PySem.W.Frag)(H:Hp)(a:Addr)(xs:List V):Prop:=
  Rd H a (.lst xs) ∨
    ∃ (o:Obj) (its:Array Value) (n:Nat),K.lookup a=some o∧o.cls = .type "list" ∧ o.dict=none∧o.data = .seq its n∧its.size≤sizeLine∧Vals xs its.toList
noncomputable def SqT(K:PySem.W.Frag)(H:Hp)(a:Addr)(xs:List V):Prop:=
  Rd H a (.tup xs) ∨
    ∃ (o:Obj) (its:Array Value) (n:Nat),K.lookup a=some o∧(o.cls,o.dict)=(Value.type "tuple",(none:Option Addr))∧o.data = .seq its n∧its.size≤sizeLine∧Vals xs its.toList
noncomputable def Am8:Value→Option V
  | .none=>some .non
  | .bool b=>some (.bl b)
  | .int i _=>some (.int i)
  | .str x _=>some (.str x)
  | .bytes b _=>some (.byt b)
  | .float b _=>some (.flt b)
  | .ref a=>some (.ref a)
  | .type n=>some (.ty n)
  | _=>none
theorem RelV.abs{x:V}{u:Value}(r:RelV x u):Am8 u=some x:=by
  cases x with
  | non=>cases r;rfl
  | bl _=>cases r;rfl
  | int _=>obtain ⟨t,rfl⟩:=r;rfl
  | str _=>obtain ⟨t,rfl⟩:=r;rfl
  | byt _=>obtain ⟨t,rfl⟩:=r;rfl
  | flt _=>obtain ⟨t,rfl⟩:=r;rfl
  | ref _=>cases r;rfl
  | ty _=>cases r;rfl
theorem RelV.inj{x y:V}{u:Value}(r:RelV x u)(q:RelV y u):x=y:=Option.some.inj (r.abs.symm.trans q.abs)
theorem Vals.inj{xs ys:List V}{us:List Value}(h:Vals xs us)(h':Vals ys us):xs=ys:=by
  induction h generalizing ys with
  | nil=>cases h';rfl
  | cons r t ih=>
    cases h' with
    | cons r' t'=>rw[r.inj r',ih t']
section
variable {X:Cx}{pins:List (Addr×Obj)}{σ:St}{H:Hp}{s:Shared}{a:Addr}{xs ys:List V}
theorem SqL.of{K:PySem.W.Frag}(h:H a=some (.lst xs)):SqL K H a xs:=.inl (.inl h)
theorem SqT.of{K:PySem.W.Frag}(h:H a=some (.tup xs)):SqT K H a xs:=.inl (.inl h)
theorem Inv.list(I:Inv X pins σ H s)(h:SqL X.K H a xs):∃ its:List Value,Vals xs its∧PlainL s.heap a its.toArray∧xs.length≤sizeLine:=by
  rcases h with h | ⟨o,its,n,hk,hc,hd,hs,hz,r⟩
  · obtain ⟨z,its,n,r,e⟩:=h.ok I.hok
    exact ⟨its,r,⟨_,n,e,rfl,rfl,rfl⟩,z⟩
  · refine ⟨its.toList,r,⟨o,n,I.kIn a o hk,hc,hd,by simpa using hs⟩,?_⟩
    have e:=r.length
    simp only[Array.length_toList] at e
    omega
theorem Inv.tupleN(I:Inv X pins σ H s)(h:SqT X.K H a xs):∃ its:List Value,Vals xs its∧TupN s.heap a its.toArray∧xs.length≤sizeLine:=by
  rcases h with h | ⟨o,its,n,hk,hc,hs,hz,r⟩
  · obtain ⟨z,its,r,p⟩:=h.ok I.hok
    exact ⟨its,r,p,z⟩
  · refine ⟨its.toList,r,⟨o,I.kIn a o hk,hc,n,by simpa using hs⟩,?_⟩
    have e:=r.length
    simp only[Array.length_toList] at e
    omega
theorem Inv.tuple(I:Inv X pins σ H s)(h:SqT X.K H a xs):∃ its:List Value,Vals xs its∧IsTup s.heap a its.toArray∧xs.length≤sizeLine:=by
  obtain ⟨its,r,p,z⟩:=I.tupleN h
  exact ⟨its,r,p.is,z⟩
theorem Inv.list_inj(I:Inv X pins σ H s)(h:SqL X.K H a xs)(h':SqL X.K H a ys):xs=ys:=by
  obtain ⟨its,r,⟨o,n,e,_,_,d⟩,_⟩:=I.list h
  obtain ⟨its',r',⟨o',n',e',_,_,d'⟩,_⟩:=I.list h'
  rw[e] at e';cases e'
  rw[d] at d'
  injection d' with d1 _
  have:its=its':=by simpa using congrArg Array.toList d1
  subst this
  exact r.inj r'
theorem Inv.tuple_inj(I:Inv X pins σ H s)(h:SqT X.K H a xs)(h':SqT X.K H a ys):xs=ys:=by
  obtain ⟨its,r,⟨o,e,_,n,d⟩,_⟩:=I.tuple h
  obtain ⟨its',r',⟨o',e',_,n',d'⟩,_⟩:=I.tuple h'
  rw[e] at e';cases e'
  rw[d] at d'
  injection d' with d1 _
  have:its=its':=by simpa using congrArg Array.toList d1
  subst this
  exact r.inj r'
end
abbrev Cx.wish(X:Cx)(E:Value→Shared→Prop):Cx:={ X with xe:=E }
abbrev Cx.nox(X:Cx):Cx:=X.wish fun _ _=>False
theorem Cx.Ok.wish{X:Cx}(ok:X.Ok)(E:Value→Shared→Prop):(X.wish E).Ok:=
  ⟨ok.mod,ok.kind,ok.glob,ok.blt,ok.above,ok.inj,ok.has,ok.cab,ok.hd,ok.frames,ok.stk,ok.exf,ok.bs,ok.bsz,ok.noex,ok.exfs,ok.funs,ok.frf⟩
theorem Cx.Ok.unwish{X:Cx}{E:Value→Shared→Prop}(ok:(X.wish E).Ok):X.Ok:=
  ⟨ok.mod,ok.kind,ok.glob,ok.blt,ok.above,ok.inj,ok.has,ok.cab,ok.hd,ok.frames,ok.stk,ok.exf,ok.bs,ok.bsz,ok.noex,ok.exfs,ok.funs,ok.frf⟩
section
variable {X:Cx}{pins:List (Addr×Obj)}{σ:St}{H:Hp}{s:Shared}{E:Value→Shared→Prop}
theorem Inv.wish(I:Inv X pins σ H s)(E:Value→Shared→Prop):Inv (X.wish E) pins σ H s:=⟨I.ok.wish E,I.os,I.bare,I.base,I.loc,I.cell,I.free,I.freeC,I.pin,I.hok,I.len⟩
theorem Inv.unwish(I:Inv (X.wish E) pins σ H s):Inv X pins σ H s:=⟨I.ok.unwish,I.os,I.bare,I.base,I.loc,I.cell,I.free,I.freeC,I.pin,I.hok,I.len⟩
theorem SP.unwish{D:Ends}{f:Flow}{s':Shared}(h:SP (X.wish E) pins D f s'):SP X pins D f s':=by
  cases f with
  | next=>obtain ⟨σ',H',I,q⟩:=h;exact ⟨σ',H',I.unwish,q⟩
  | brk=>obtain ⟨σ',H',I,q⟩:=h;exact ⟨σ',H',I.unwish,q⟩
  | cont=>obtain ⟨σ',H',I,q⟩:=h;exact ⟨σ',H',I.unwish,q⟩
  | ret u=>obtain ⟨v,σ',H',I,r,q⟩:=h;exact ⟨v,σ',H',I.unwish,r,q⟩
theorem PE.nox{e:Expr}{t:TE}(h:PE X.nox e t):PE X e t:=fun pins s σ H Q I hw=>
  wpAny_mono (h pins s σ H Q (I.wish _) hw) (fun _ _ zz=>by obtain ⟨v,H',I',r,q⟩:=zz;exact ⟨v,H',I'.unwish,r,q⟩) fun _ _ z=>False.elim z
theorem PT.nox{e:Expr}{t:TT}(h:PT X.nox e t):PT X e t:=fun pins s σ H Q I hw=>
  wpAny_mono (h pins s σ H Q (I.wish _) hw) (fun _ _ zz=>by obtain ⟨H',I',q⟩:=zz;exact ⟨H',I'.unwish,q⟩) fun _ _ z=>False.elim z
theorem PSs.nox{st:List Stmt}{t:TS}(h:PSs X.nox st t):PSs X st t:=fun pins s σ H D I hw=>
  wpAny_mono (h pins s σ H D (I.wish _) hw) (fun _ _ q=>q.unwish) fun _ _ z=>False.elim z
end
section
variable {X:Cx}{st:Stmt}{rest:List Stmt}{t u:TS}{e:Expr}{te:TE}{pos:Pos}
noncomputable def Alm:TS:=fun D σ H=>D.nx σ H
noncomputable def Am7(t u:TS):TS:=fun D σ H=>t { D with nx:=u D } σ H
theorem Ags:PSs X [] Alm:=fun _ _ σ H _ I h=>wpAny_execs_nil ⟨σ,H,I,h⟩
theorem Abp(h1:PS X st t)(h2:PSs X rest u):PSs X (st::rest) (Am7 t u):=by
  intro pins s σ H D I h
  refine wpAny_execs_cons (thn (h1 pins s σ H { D with nx:=u D } I h) fun f s1 q=>?_)
  cases f with
  | next=>
    obtain ⟨σ',H',I',q⟩:=q
    exact h2 pins s1 σ' H' D I' q
  | ret v=>exact q
  | brk=>exact q
  | cont=>exact q
theorem Agp(h1:PS X st t):PSs X [st] t:=by
  intro pins s σ H D I h
  refine wpAny_execs_cons (thn (h1 pins s σ H D I h) fun f s1 q=>?_)
  cases f with
  | next=>exact wpAny_execs_nil q
  | ret v=>exact q
  | brk=>exact q
  | cont=>exact q
theorem Inv.quiet{pins:List (Addr×Obj)}{σ:St}{H:Hp}{s:Shared}(I:Inv X pins σ H s):interactive X.env=false:=by simp[interactive,I.ok.kind]
noncomputable def Ak2(te:TE):TS:=fun D σ H=>te σ H fun _ H1=>D.nx σ H1
theorem Afe(he:PE X e te)(hs:swapsWith e none pos.line X.env=pure false:=by rfl):PS X (.Expr e pos) (Ak2 te):=by
  intro pins s σ H D I h
  exact wpAny_Expr_any (thn (he pins s σ H _ I h) fun v s1 zz=>by obtain ⟨x,H1,I1,r1,q1⟩:=zz;exact ⟨σ,H1,I1,q1⟩) I.quiet hs
noncomputable def Amp(te:TE):TS:=fun D σ H=>te σ H D.rt
theorem Ahr(he:PE X e te):PS X (.Return (some e) pos) (Amp te):=by
  intro pins s σ H D I h
  exact wpAny_Return_some (thn (he pins s σ H _ I h) fun v s1 zz=>by obtain ⟨x,H1,I1,r1,q1⟩:=zz;exact ⟨x,σ,H1,I1,r1,q1⟩)
noncomputable def Am1(c:TT)(t u:TS):TS:=fun D σ H=>c σ H fun b H1=>if b=true then t D σ H1 else u D σ H1
theorem Alf{c:Expr}{a b:List Stmt}{tc:TT}(hc:PT X c tc)(ha:PSs X a t)(hb:PSs X b u):PS X (.If c a b pos) (Am1 tc t u):=by
  intro pins s σ H D I h
  refine wpAny_If (thn (hc pins s σ H _ I h) fun d s1 zz=>?_)
  obtain ⟨H1,I1,q1⟩:=zz
  cases d with
  | true=>exact ha pins s1 σ H1 D I1 q1
  | false=>exact hb pins s1 σ H1 D I1 q1
noncomputable def Ai2:TS:=fun _ _ _=>False
theorem Acu:PS X st Ai2:=fun _ _ _ _ _ _ h=>h.elim
end
abbrev TG:=V→St→Hp→(St→Hp→Prop)→Prop
abbrev TGs:=List V→St→Hp→(St→Hp→Prop)→Prop
noncomputable def PG(X:Cx)(target:Expr)(t:TG):Prop:=
  ∀ (pins:List (Addr×Obj)) (s:Shared) (σ:St) (H:Hp) (v:V) (u:Value) (Q:St→Hp→Prop),Inv X pins σ H s→RelV v u→t v σ H Q →
    wpAny (model X.prog X.w) X.A (assign target X.env u) (fun _ s'=>∃ σ' H',Inv X pins σ' H' s'∧Q σ' H') X.xe s
noncomputable def PGs(X:Cx)(ts:List Expr)(t:TGs):Prop:=
  ∀ (pins:List (Addr×Obj)) (s:Shared) (σ:St) (H:Hp) (vs:List V) (us:List Value) (Q:St→Hp→Prop),Inv X pins σ H s→Vals vs us→t vs σ H Q →
    wpAny (model X.prog X.w) X.A (assignInOrder ((assignEach ts X.env).map (·.2)) us) (fun _ s'=>∃ σ' H',Inv X pins σ' H' s'∧Q σ' H') X.xe s
abbrev Ajg:=V→V→V→Hp→(Hp→Prop)→Prop
noncomputable def Aly(X:Cx)(t:Ajg):Prop:=
  ∀ (pins:List (Addr×Obj)) (s:Shared) (σ:St) (H:Hp) (o i v:V) (ov iv u:Value) (Q:Hp→Prop),Inv X pins σ H s→RelV o ov→RelV i iv→RelV v u→t o i v H Q →
    wpAny (model X.prog X.w) X.A (setItem ov iv u) (fun _ s'=>∃ H',Inv X pins σ H' s'∧Q H') X.xe s
section
variable {X:Cx}{pos:Pos}
noncomputable def Tv(i:Nat):TG:=fun v σ H Q=>Q (σ.set i (some v)) H
theorem Xp{i:Nat}{x:Str}(hN:X.N.Nodup)(hi:X.N[i]? = some x)(hx:Loc X.env.scope x)(hf:X.fn x=true∨X.env.scope.names.lookup x=some .local:=by first | exact .inl rfl | exact .inr rfl | assumption):PG X (.Name x pos) (Tv i):=by
  intro pins s σ H v u Q I r h
  exact wpAny_assign_Name (Oe I hN hi hx r (fun s' I'=>⟨_,H,I',h⟩) hf)
noncomputable def gNil:TGs:=fun vs σ H Q=>vs=[]∧Q σ H
noncomputable def gCons(t:TG)(u:TGs):TGs:=fun vs σ H Q=>∃ v r,vs=v::r∧t v σ H fun σ' H'=>u r σ' H' Q
theorem Agv:PGs X [] gNil:=by
  intro pins s σ H vs us Q I r h
  obtain ⟨e,h⟩:=h
  subst e
  cases r
  exact assignInOrder_nil ⟨σ,H,I,h⟩
theorem Adk{e:Expr}{es:List Expr}{t:TG}{u:TGs}(h1:PG X e t)(h2:PGs X es u)
    (hs:(assignEach (e::es) X.env).map (·.2)=assign e X.env::(assignEach es X.env).map (·.2):=by rfl):PGs X (e::es) (gCons t u):=by
  intro pins s σ H vs us Q I r h
  obtain ⟨v,vr,e1,h⟩:=h
  subst e1
  cases r with
  | cons r rr=>
    rw[hs]
    refine assignInOrder_cons (thn (h1 pins s σ H _ _ _ I r h) fun _ s1 zz=>?_)
    obtain ⟨σ1,H1,I1,q1⟩:=zz
    exact h2 pins s1 σ1 H1 _ _ Q I1 rr q1
noncomputable def gTup(K:PySem.W.Frag)(n:Nat)(t:TGs):TG:=fun v σ H Q=>∃ a xs,v = .ref a∧SqT K H a xs∧xs.length=n∧t xs σ H Q
theorem Ajv{es:List Expr}{k:Nat}{t:TGs}{n:Nat}(hc:X.calm=true)(h:PGs X es t)
    (hn:(assignEach es X.env).length=n:=by rfl) (hst:(assignEach es X.env).findIdx? (·.1)=none:=by rfl):PG X (.Tuple es k pos) (gTup X.K n t):=by
  intro pins s σ H v u Q I r hw
  obtain ⟨a,xs,e1,hq,hl,hw⟩:=hw
  subst e1
  cases r
  obtain ⟨its,rv,ht,hz⟩:=I.tuple hq
  refine assign_Tuple_tuple (I.ok.hd hc) ht (by simp[hn,← hl,rv.length]) hst fun h' hx=>?_
  have I1:Inv X pins σ H { s with heap:=h' }:=I.kept (t':=s.toks) fun b o e=>hx b o (Nat.ne_of_lt (Heap.lt_size e)) e
  exact h pins _ σ H xs _ Q I1 (by simpa using rv) hw
noncomputable def gSub(to ti:TE)(t:Ajg):TG:=fun v σ H Q=>to σ H fun o H1=>ti σ H1 fun i H2=>t o i v H2 fun H3=>Q σ H3
theorem Ahn{o i:Expr}{to ti:TE}{t:Ajg}(ho:PE X o to)(hi:PE X i ti)(hs:Aly X t)
    (ha:∀ v,assign (.Subscript o i pos) X.env v=(do
      let ov ← holding [v] (eval o X.env)
      let iv ← holding [v,ov] (eval i X.env)
      standAt pos
      holding [v,ov,iv] (setItem ov iv v)
      release [v,ov,iv] []):=by intro _;rfl):PG X (.Subscript o i pos) (gSub to ti t):=by
  intro pins s σ H v u Q I r h
  rw[ha]
  refine wpAny_bind (wpAny_holding (thn (ho pins s σ H _ I h) fun ov s1 zz=>?_))
  obtain ⟨x,H1,I1,r1,q1⟩:=zz
  refine wpAny_bind (wpAny_holding (thn (hi pins s1 σ H1 _ I1 q1) fun iv s2 zz=>?_))
  obtain ⟨y,H2,I2,r2,q2⟩:=zz
  refine wpAny_bind (wpAny_standAt (wpAny_bind (wpAny_holding (thn (hs pins s2 σ H2 x y v ov iv u _ I2 r1 r2 r q2) fun _ s3 zz=>?_))))
  obtain ⟨H3,I3,q3⟩:=zz
  exact wpAny_release ⟨σ,H3,I3,q3⟩
noncomputable def Agz(te:TE)(g:TG):TS:=fun D σ H=>te σ H fun x H1=>g x σ H1 D.nx
theorem Ajp{tg e:Expr}{te:TE}{g:TG}(he:PE X e te)(hg:PG X tg g)(hs:swapsWithSole [tg] e pos.line X.env=pure false:=by rfl)(hw:swappedStores [tg] e X.env=pure none:=by rfl)
    (h1:(assignEach [tg] X.env).map (·.2)=[assign tg X.env]:=by rfl):PS X (.Assign [tg] e pos) (Agz te g):=by
  intro pins s σ H D I h
  refine wpAny_Assign_stores (thn (he pins s σ H _ I h) fun v s1 zz=>zz.elim fun x H1 I1 r1 q1=>?_) hs hw
  rw[h1]
  exact thn (hg pins s1 σ H1 x v _ I1 r1 q1) fun _ s2 q=>q
theorem Aiy{i:Nat}{x:Str}{e:Expr}{te:TE}{pos':Pos}(hN:X.N.Nodup)(hi:X.N[i]? = some x)(hx:Loc X.env.scope x)(he:PE X e te)(hs:swapsWith e (some (.Name x pos')) pos.line X.env=pure false:=by rfl)(hf:X.fn x=true∨X.env.scope.names.lookup x=some .local:=by first | exact .inl rfl | exact .inr rfl | assumption) :
    PS X (.Assign [.Name x pos'] e pos) (Agz te (Tv i)):=by
  intro pins s σ H D I h
  refine wpAny_Assign_Name (thn (he pins s σ H _ I h) fun v s1 zz=>zz.elim fun y H1 I1 r1 q1=>?_) hs
  exact Oe I1 hN hi hx r1 (fun s2 I2=>⟨_,H1,I2,q1⟩) hf
end
section
variable {X:Cx}{pos:Pos}
noncomputable def Ah4(c:TT)(tb:TS):TS:=fun D σ H=>∃ W:Nat→St→Hp→Prop,(∃ m,W m σ H)∧∀ m σ H,W m σ H →
  c σ H fun b H1=>if b=true then ∃ N:St→Hp→Prop,(∀ σ' H',N σ' H'→∃ m',m' < m∧W m' σ' H')∧tb { D with nx:=N,ct:=N,bk:=D.nx } σ H1 else D.nx σ H1
theorem Acf{c:Expr}{body:List Stmt}{tc:TT}{tb:TS}(hp:PassesOwn (model X.prog X.w) X.A X.env X.xe)(hc:PT X c tc)(hb:PSs X body tb):PS X (.While c body [] pos) (Ah4 tc tb):=by
  intro pins s σ H D I h
  obtain ⟨W,⟨m0,w0⟩,turn⟩:=h
  refine wpAny_While (codeAny_whileLoop (fun n s'=>∃ σ' H',Inv X pins σ' H' s'∧W n σ' H') ?_ m0 ⟨σ,H,I,w0⟩)
  rintro n s1 ⟨σ1,H1,I1,w1⟩
  refine wpAny_passesOwn hp (thn (hc pins s1 σ1 H1 _ I1 (turn n σ1 H1 w1)) fun b s2 zz=>?_)
  obtain ⟨H2,I2,q2⟩:=zz
  cases b with
  | true=>
    obtain ⟨N,hN,q2⟩:=q2
    rw[if_pos rfl]
    refine wpAny_passesOwn hp (thn (hb pins s2 σ1 H2 _ I2 q2) fun f s3 q3=>?_)
    cases f with
    | next=>
      obtain ⟨σ3,H3,I3,n3⟩:=q3
      obtain ⟨m',hm,w3⟩:=hN σ3 H3 n3
      exact ⟨m',hm,σ3,H3,I3,w3⟩
    | cont=>
      obtain ⟨σ3,H3,I3,n3⟩:=q3
      obtain ⟨m',hm,w3⟩:=hN σ3 H3 n3
      exact ⟨m',hm,σ3,H3,I3,w3⟩
    | brk=>exact q3
    | ret v=>exact q3
  | false=>
    rw[if_neg Bool.false_ne_true]
    exact wpAny_execs_nil ⟨σ1,H2,I2,q2⟩
end
structure It where
  go:Nat→Hp→Prop
  yld:Nat→Hp→V→Hp→Prop
  stop:Nat→Hp→Prop
noncomputable def Je(X:Cx)(pins:List (Addr×Obj))(H:Hp)(b:Addr):Prop:=
  H b=none∧b≠X.env.locals∧b∉X.fs∧(b∈X.ex∨X.s₀.heap.objs.size≤b)∧(∀ x c,X.env.cells.lookup x=some c→c≠b)∧∀ p∈X.pn++pins,p.1≠b
theorem Inv.fpOk{X:Cx}{pins:List (Addr×Obj)}{σ:St}{H H':Hp}{s:Shared}{b:Addr}(I:Inv X pins σ H s)(hb:s.heap.objs.size≤b)(hn:H' b=none):Je X pins H' b:=by
  refine ⟨hn,Nat.ne_of_gt (Nat.lt_of_lt_of_le I.lt hb),I.nofs hb,.inr (Nat.le_trans I.sz hb),fun x c e z=>?_,fun p hp z=>?_⟩
  · obtain ⟨v,q⟩:=I.cell x c e
    exact absurd (Nat.lt_of_lt_of_le q.lt (by rw[z];exact hb)) (Nat.lt_irrefl _)
  · exact absurd (Nat.lt_of_lt_of_le (Heap.lt_size (I.pin p hp).1) (by rw[z];exact hb)) (Nat.lt_irrefl _)
structure Turn(P:Program)(w:World)(K:PySem.W.Frag)(tg:Expr)(J:It)(fp:List Addr)(it:Addr)(tn:Nat→Heap→Prop):Prop where
  mem:it∈fp
  obj:∀ i h,tn i h→∀ b∈fp,∃ o,h.get? b=some o∧∀ v,o.data≠.cell v
  keep:∀ i h h',tn i h→(∀ b∈fp,∀ o,h.get? b=some o→h'.get? b=some o)→tn i h'
  item:∀ (X:Cx),X.prog=P→X.w=w→X.K=K→X.calm=true→∀ (i:Nat) (pins:List (Addr×Obj)) (s:Shared) (σ:St) (H:Hp) (E:Value→Shared→Prop),Inv X pins σ H s→(∀ b∈fp,Je X pins H b)→tn i s.heap→J.go i H →
    wpAny (model P w) X.A (pyNext (.ref it)) (fun r s1=>∃ u,r=some u ∧
      wpAny (model P w) X.A (letOwnedTupleGo tg (.ref it) u) (fun _ s2=>∃ x H',Inv X pins σ H' s2∧RelV x u∧J.yld i H x H'∧tn (i+1) s2.heap∧∀ b∈fp,H' b=none) E s1) E s
  done:∀ (X:Cx),X.prog=P→X.w=w→X.K=K→X.calm=true→∀ (i:Nat) (pins:List (Addr×Obj)) (s:Shared) (σ:St) (H:Hp) (E:Value→Shared→Prop),Inv X pins σ H s→(∀ b∈fp,Je X pins H b)→tn i s.heap→J.stop i H →
    wpAny (model P w) X.A (pyNext (.ref it)) (fun r s1=>r=none∧Inv X pins σ H s1) E s
  self:∀ (A:Around) (i:Nat) (s:Shared) (Q:Value→Shared→Prop) (E:Value→Shared→Prop),tn i s.heap→Q (.ref it) s→wpAny (model P w) A (pyIter (.ref it)) Q E s
abbrev TI:=St→Hp→(It→Hp→Prop)→Prop
noncomputable def PIE(X:Cx)(pins:List (Addr×Obj))(σ:St)(tg:Expr)(R:It→Hp→Prop)(itv:Value)(s2:Shared):Prop:=
  ∃ (it:Addr) (fp:List Addr) (tn:Nat→Heap→Prop) (J:It) (H':Hp),itv = .ref it∧Inv X pins σ H' s2∧Turn X.prog X.w X.K tg J fp it tn∧tn 0 s2.heap∧(∀ b∈fp,Je X pins H' b)∧R J H'
noncomputable def PI(X:Cx)(tg iter:Expr)(wi:TI):Prop:=
  ∀ (pins:List (Addr×Obj)) (s:Shared) (σ:St) (H:Hp) (R:It→Hp→Prop),Inv X pins σ H s→wi σ H R →
    wpAny (model X.prog X.w) X.A (eval iter X.env) (fun v s1=>wpAny (model X.prog X.w) X.A (pyIter v) (PIE X pins σ tg R) X.xe s1) X.xe s
theorem W4{M:Model}{A:Around}{E:Value→Shared→Prop}{s:Shared}{tg:Expr}{it:Addr}{u:Value}{o:Obj}{n:String}{vs:Array Value}{Q:Unit→Shared→Prop}(ho:s.heap.get? it=some o)(hc:o.cls = .type n)(hd:o.data = .fields vs)
    (hn:["enumerate","zip","dict_itemiterator","dict_reverseitemiterator","odict_iterator","itertools.zip_longest","itertools.pairwise"].contains n=false) (hQ:Q () s):wpAny M A (letOwnedTupleGo tg (.ref it) u) Q E s:=by
  unfold letOwnedTupleGo
  cases tg <;> first
    | exact wpAny_pure hQ
    | (cases u <;> first
        | exact wpAny_pure hQ
        | (refine wpAny_bind (wpAny_load ho ?_)
           rw[hc,hd]
           show wpAny M A (if (["enumerate","zip","dict_itemiterator","dict_reverseitemiterator","odict_iterator","itertools.zip_longest","itertools.pairwise"].contains n&&vs[0]? == some (rawInt _))=true then _ else _) Q E s
           rw[if_neg (by intro h;rw[hn,Bool.false_and] at h;cases h)]
           exact wpAny_pure hQ))
noncomputable def Itl(K:PySem.W.Frag)(a:Addr):It:=
  ⟨fun i H=>∃ xs x,SqL K H a xs∧xs[i]? = some x,fun i H x H'=>H'=H∧∀ xs,SqL K H a xs→xs[i]? = some x,fun i H=>∃ xs,SqL K H a xs∧xs.length≤i⟩
noncomputable def Itt(K:PySem.W.Frag)(a:Addr):It:=
  ⟨fun i H=>∃ xs x,SqT K H a xs∧xs[i]? = some x,fun i H x H'=>H'=H∧∀ xs,SqT K H a xs→xs[i]? = some x,fun i H=>∃ xs,SqT K H a xs∧xs.length≤i⟩
noncomputable def Itr(lo:Int)(n:Nat):It:=⟨fun i _=>i < n,fun i H x H'=>H'=H∧x = .int (lo+i),fun i _=>n≤i⟩
theorem Yf{P:Program}{w:World}{K:PySem.W.Frag}{tg:Expr}(a it:Addr):Turn P w K tg (Itl K a) [it] it (fun i h=>h.IsListIter it a i) where
  mem:=by simp
  obj:=fun i h st b hb=>by
    have e:b=it:=by simpa using hb
    subst e
    obtain ⟨o,e,c,d⟩:=st
    exact ⟨o,e,fun v z=>by rw[d] at z;cases z⟩
  keep:=fun i h h' st k=>st.at fun o e=>k it (by simp) o e
  item:=by
    intro X hP hw hK hc i pins s σ H E I hf st hg
    subst hP hw hK
    obtain ⟨xs,x,hq,hx⟩:=hg
    obtain ⟨its,rv,p,hz⟩:=I.list hq
    obtain ⟨u,hu,ru⟩:=rv.get hx
    obtain ⟨f0,f1,f2,f3,f4,f5⟩:=hf it (by simp)
    refine wpAny_pyNext_list_item st p.isList (x:=u) (by simpa using hu) fun h' st' sb=>?_
    have I1:Inv X pins σ H { s with heap:=h' }:=I.turned (t':=s.toks) (fun b o hb e=>(sb.2 b hb).trans e) f0 f1 f3 f4 f5
    obtain ⟨o,e,c,d⟩:=id st'
    exact ⟨u,rfl,W4 (s:={ s with heap:=h' }) e c d (by decide) ⟨x,H,I1,ru,⟨rfl,fun ys hy=>by rw[I.list_inj hy hq];exact hx⟩,st',fun b hb=>(hf b hb).1⟩⟩
  done:=by
    intro X hP hw hK hc i pins s σ H E I hf st hg
    subst hP hw hK
    obtain ⟨xs,hq,hx⟩:=hg
    obtain ⟨its,rv,p,hz⟩:=I.list hq
    obtain ⟨f0,f1,f2,f3,f4,f5⟩:=hf it (by simp)
    have hl:=rv.length
    exact wpAny_pyNext_list_end (I.ok.hd hc) st p.isList (by simp;omega) fun h' eb=>⟨rfl,I.turned (t':=s.toks) (fun b o hb e=>eb b o hb e) f0 f1 f3 f4 f5⟩
  self:=fun _ _ _ _ _ st h=>wpAny_pyIter_listiter st h
theorem Ve{P:Program}{w:World}{K:PySem.W.Frag}{tg:Expr}(a it:Addr):Turn P w K tg (Itt K a) [it] it (fun i h=>h.IsTupleIter it a i) where
  mem:=by simp
  obj:=fun i h st b hb=>by
    have e:b=it:=by simpa using hb
    subst e
    obtain ⟨o,e,c,d⟩:=st
    exact ⟨o,e,fun v z=>by rw[d] at z;cases z⟩
  keep:=fun i h h' st k=>st.at fun o e=>k it (by simp) o e
  item:=by
    intro X hP hw hK hc i pins s σ H E I hf st hg
    subst hP hw hK
    obtain ⟨xs,x,hq,hx⟩:=hg
    obtain ⟨its,rv,p,hz⟩:=I.tuple hq
    obtain ⟨u,hu,ru⟩:=rv.get hx
    obtain ⟨f0,f1,f2,f3,f4,f5⟩:=hf it (by simp)
    refine wpAny_pyNext_tuple_item st (show s.heap.IsTuple a its.toArray from p) (x:=u) (by simpa using hu) fun h' st' sb=>?_
    have I1:Inv X pins σ H { s with heap:=h' }:=I.turned (t':=s.toks) (fun b o hb e=>(sb.2 b hb).trans e) f0 f1 f3 f4 f5
    obtain ⟨o,e,c,d⟩:=id st'
    exact ⟨u,rfl,W4 (s:={ s with heap:=h' }) e c d (by decide) ⟨x,H,I1,ru,⟨rfl,fun ys hy=>by rw[I.tuple_inj hy hq];exact hx⟩,st',fun b hb=>(hf b hb).1⟩⟩
  done:=by
    intro X hP hw hK hc i pins s σ H E I hf st hg
    subst hP hw hK
    obtain ⟨xs,hq,hx⟩:=hg
    obtain ⟨its,rv,p,hz⟩:=I.tuple hq
    obtain ⟨f0,f1,f2,f3,f4,f5⟩:=hf it (by simp)
    have hl:=rv.length
    exact wpAny_pyNext_tuple_end (I.ok.hd hc) st (show s.heap.IsTuple a its.toArray from p) (by simp;omega) fun h' eb=>⟨rfl,I.turned (t':=s.toks) (fun b o hb e=>eb b o hb e) f0 f1 f3 f4 f5⟩
  self:=fun _ _ _ _ _ st h=>wpAny_pyIter_tupleiter st h
theorem V6{P:Program}{w:World}{K:PySem.W.Frag}{tg:Expr}(it:Addr)(lo:Int)(n:Nat):Turn P w K tg (Itr lo n) [it] it (fun i h=>IsRangeIter h it (lo+(i:Nat) * 1) ((n:Int) - (i:Nat)) 1) where
  mem:=by simp
  obj:=fun i h st b hb=>by
    have e:b=it:=by simpa using hb
    subst e
    exact ⟨_,st,fun v z=>by
      have z':Data.fields _=Data.cell v:=z
      cases z'⟩
  keep:=fun i h h' st k=>k it (by simp) _ st
  item:=by
    intro X hP hw hK hc i pins s σ H E I hf st hg
    subst hP hw hK
    obtain ⟨f0,f1,f2,f3,f4,f5⟩:=hf it (by simp)
    have W:=Walks.range (prog:=X.prog) (w:=X.w) (I.ok.hd hc) it lo 1 n
    refine W.item i s _ _ hg st fun v h' tk hv st' kk=>?_
    obtain ⟨t,rfl⟩:=hv
    have I1:Inv X pins σ H { s with heap:=h',toks:=tk }:=I.turned (fun b o hb e=>kk b o (by simpa using hb) e) f0 f1 f3 f4 f5
    refine ⟨_,rfl,W4 (s:={ s with heap:=h',toks:=tk }) (n := "range_iterator") st' rfl rfl (by decide) ⟨.int (lo+i),H,I1,⟨t,?_⟩,⟨rfl,rfl⟩,st',fun b hb=>(hf b hb).1⟩⟩
    rw[Int.mul_one]
  done:=by
    intro X hP hw hK hc i pins s σ H E I hf st hg
    subst hP hw hK
    obtain ⟨f0,f1,f2,f3,f4,f5⟩:=hf it (by simp)
    exact wpAny_pyNext_range_end (I.ok.hd hc) st (by have:n≤i:=hg;omega) fun h' eb=>⟨rfl,I.turned (t':=s.toks) (fun b o hb e=>eb b o hb e) f0 f1 f3 f4 f5⟩
  self:=fun _ _ _ _ _ st h=>wpAny_pyIter_rangeiter st h
section
variable {X:Cx}{tg:Expr}
noncomputable def Ake(K:PySem.W.Frag)(tl:TE):TI:=fun σ H R=>tl σ H fun x H1=>∃ a,x = .ref a∧(∃ xs,SqL K H1 a xs)∧R (Itl K a) H1
noncomputable def Am6(K:PySem.W.Frag)(tl:TE):TI:=fun σ H R=>tl σ H fun x H1=>∃ a,x = .ref a∧(∃ xs,SqT K H1 a xs)∧R (Itt K a) H1
theorem Aeu{l:Expr}{tl:TE}(hl:PE X l tl):PI X tg l (Ake X.K tl):=by
  intro pins s σ H R I h
  refine thn (hl pins s σ H _ I h) fun v s1 zz=>?_
  obtain ⟨x,H1,I1,r1,q1⟩:=zz
  obtain ⟨a,e,⟨xs,hq⟩,q⟩:=q1
  subst e
  cases r1
  obtain ⟨its,rv,p,hz⟩:=I1.list hq
  refine wpAny_pyIter_list p.isList ?_
  refine ⟨s1.heap.objs.size,[s1.heap.objs.size],_,_,H1,rfl,I1.kept (t':=s1.toks) fun b o e=>Heap.get?_push_of_some _ e,Yf a _,⟨_,Heap.get?_push_size _ rfl,rfl,rfl⟩,fun b hb=>?_,q⟩
  have e:b=s1.heap.objs.size:=by simpa using hb
  subst e
  exact I1.fpOk (Nat.le_refl _) (I1.hok.fresh (Nat.le_refl _))
theorem Ai6{l:Expr}{tl:TE}(hl:PE X l tl):PI X tg l (Am6 X.K tl):=by
  intro pins s σ H R I h
  refine thn (hl pins s σ H _ I h) fun v s1 zz=>?_
  obtain ⟨x,H1,I1,r1,q1⟩:=zz
  obtain ⟨a,e,⟨xs,hq⟩,q⟩:=q1
  subst e
  cases r1
  obtain ⟨its,rv,p,hz⟩:=I1.tuple hq
  refine wpAny_pyIter_tuple (show s1.heap.IsTuple a its.toArray from p) ?_
  refine ⟨s1.heap.objs.size,[s1.heap.objs.size],_,_,H1,rfl,I1.kept (t':=s1.toks) fun b o e=>Heap.get?_push_of_some _ e,Ve a _,⟨_,Heap.get?_push_size _ rfl,rfl,rfl⟩,fun b hb=>?_,q⟩
  have e:b=s1.heap.objs.size:=by simpa using hb
  subst e
  exact I1.fpOk (Nat.le_refl _) (I1.hok.fresh (Nat.le_refl _))
theorem S3{pins:List (Addr×Obj)}{σ:St}{H:Hp}{s:Shared}{R:It→Hp→Prop}{E:Value→Shared→Prop}{lo hi:Int}{t u v:Tok}{tk:Nat}(I:Inv X pins σ H s)(h1:-(2 ^ 62)≤lo)(h2:lo < 2 ^ 62)(h3:-(2 ^ 62)≤hi)(h4:hi < 2 ^ 62)
    (q:R (Itr lo (hi - lo).toNat) H):wpAny (model X.prog X.w) X.A (pyIter (.ref s.heap.objs.size)) (PIE X pins σ tg R) E { s with heap:=s.heap.push { cls:=.type "range",data:=.fields #[.int lo t,.int hi u,.int 1 v] },toks:=tk }:=by
  refine wpAny_pyIter_range (IsRange.new ..) (small_one h1 h2 h3 h4) ?_
  have I1:Inv X pins σ H { s with heap:=s.heap.push { cls:=.type "range",data:=.fields #[.int lo t,.int hi u,.int 1 v] },toks:=tk }:=I.kept fun b o e=>Heap.get?_push_of_some _ e
  refine ⟨(s.heap.push { cls:=.type "range",data:=.fields #[.int lo t,.int hi u,.int 1 v] }).objs.size,[(s.heap.push { cls:=.type "range",data:=.fields #[.int lo t,.int hi u,.int 1 v] }).objs.size],_,_,H,rfl,
    I1.kept (t':=tk) fun b o e=>Heap.get?_push_of_some _ e,V6 _ lo (hi - lo).toNat,?_,fun b hb=>?_,q⟩
  · have e1:lo+((0:Nat):Int) * 1=lo:=by simp
    have e2:(((hi - lo).toNat:Nat):Int) - ((0:Nat):Int)=Builtin.Range.rangeSize lo hi 1:=by rw[rangeSize_one];split <;> omega
    show IsRangeIter _ _ (lo+((0:Nat):Int) * 1) ((((hi - lo).toNat:Nat):Int) - ((0:Nat):Int)) 1
    rw[e1,e2]
    exact Heap.get?_push_size _ rfl
  · have e:b=(s.heap.push { cls:=.type "range",data:=.fields #[.int lo t,.int hi u,.int 1 v] }).objs.size:=by simpa using hb
    subst e
    exact I1.fpOk (Nat.le_refl _) (I1.hok.fresh (Nat.le_refl _))
noncomputable def Ak9(ta:TA):TI:=fun σ H R=>ta σ H fun vs H1=>∃ j:Int,vs=[.int j]∧-(2 ^ 62)≤j∧j < 2 ^ 62∧R (Itr 0 j.toNat) H1
noncomputable def Al3(ta:TA):TI:=fun σ H R=>ta σ H fun vs H1=>∃ i j:Int,vs=[.int i,.int j]∧(-(2 ^ 62)≤i∧i < 2 ^ 62∧-(2 ^ 62)≤j∧j < 2 ^ 62)∧R (Itr i (j - i).toNat) H1
theorem Aap{a:Expr}{ta:TA}{p pos:Pos}(hg:Gl X "range")(hm:X.mg "range" = none)(ha:PA X [a] ta)(hs:starEach [a] X.env=[(false,eval a X.env)]:=by rfl):PI X tg (.Call (.Name "range" p) [a] [] pos) (Ak9 ta):=by
  intro pins s σ H R I h
  refine Call_ (C6 I hg hm boot_range (PyProof.Rows.callWith_type1 (thn (ha pos pins s σ H _ I h) fun us s1 zz=>zz.elim fun vs H1 I1 r1 q1=>?_) hs rfl))
  obtain ⟨j,e,q1,q2,q⟩:=q1
  subst e
  cases r1 with
  | cons r rr=>
    cases rr
    obtain ⟨t,rfl⟩:=r
    exact call_range_1 (S3 I1 (by omega) (by omega) q1 q2 (by simpa using q))
theorem Yz{a b:Expr}{ta:TA}{p pos:Pos}(hg:Gl X "range")(hm:X.mg "range" = none)(ha:PA X [a,b] ta)(hs:starEach [a,b] X.env=[(false,eval a X.env),(false,eval b X.env)]:=by rfl)(hs2:starEach [b] X.env=[(false,eval b X.env)]:=by rfl) :
    PI X tg (.Call (.Name "range" p) [a,b] [] pos) (Al3 ta):=by
  intro pins s σ H R I h
  refine Call_ (C6 I hg hm boot_range (PyProof.Rows.callWith_type1 (thn (ha pos pins s σ H _ I h) fun us s1 zz=>zz.elim fun vs H1 I1 r1 q1=>?_) (by rw[hs,hs2]) (by rw[hs2];rfl)))
  obtain ⟨i,j,e,⟨q1,q2,q3,q4⟩,q⟩:=q1
  subst e
  cases r1 with
  | cons r rr=>
    cases rr with
    | cons r' rr=>
      cases rr
      obtain ⟨t,rfl⟩:=r
      obtain ⟨t',rfl⟩:=r'
      exact call_range_2 (S3 I1 q1 q2 q3 q4 q)
noncomputable def Amo(wi:TI)(g:TG)(tb:TS):TS:=fun D σ H=>wi σ H fun J H1=>∃ W:Nat→Nat→St→Hp→Prop,(∃ m,W 0 m σ H1)∧∀ i m σ H,W i m σ H →
  (J.stop i H∧D.nx σ H)∨(J.go i H∧∃ N:St→Hp→Prop,(∀ σ' H',N σ' H'→∃ m',m' < m∧W (i+1) m' σ' H')∧∀ x H',J.yld i H x H'→g x σ H' fun σ2 H2=>tb { D with nx:=N,ct:=N,bk:=D.nx } σ2 H2)
noncomputable def Nb(fp:List Addr)(h:Heap):List (Addr×Obj):=fp.filterMap fun b=>(h.get? b).map fun o=>(b,o)
theorem Hk{fp:List Addr}{h:Heap}{b:Addr}{o:Obj}(hb:b∈fp)(e:h.get? b=some o):(b,o)∈Nb fp h:=List.mem_filterMap.mpr ⟨b,hb,by rw[e];rfl⟩
theorem Aar{fp:List Addr}{h:Heap}{p:Addr×Obj}(hp:p∈Nb fp h):p.1∈fp∧h.get? p.1=some p.2:=by
  obtain ⟨b,hb,e⟩:=List.mem_filterMap.mp hp
  cases q:h.get? b with
  | none=>rw[q] at e;cases e
  | some o=>
    rw[q] at e
    have e':(b,o)=p:=Option.some.inj e
    subst e'
    exact ⟨hb,q⟩
theorem Inv.pinned{pins:List (Addr×Obj)}{σ:St}{H:Hp}{s:Shared}{fp:List Addr}(I:Inv X pins σ H s)(hf:∀ b∈fp,Je X pins H b)(ho:∀ b∈fp,∃ o,s.heap.get? b=some o∧∀ v,o.data≠.cell v):Inv X (pins++Nb fp s.heap) σ H s:=
  I.pins_of fun p hp=>(List.mem_append.mp hp).elim (fun z=>I.pin p (List.mem_append_right _ z)) fun z=>by
    obtain ⟨hb,e⟩:=Aar z
    obtain ⟨f0,f1,f2,_⟩:=hf p.1 hb
    obtain ⟨o,e',d⟩:=ho p.1 hb
    rw[e] at e';cases e'
    exact ⟨e,f0,f1,f2,d⟩
theorem Inv.unpinned{pins pl:List (Addr×Obj)}{σ:St}{H:Hp}{s:Shared}(I:Inv X (pins++pl) σ H s):Inv X pins σ H s:=I.pins_of fun p hp=>I.pin p (List.mem_append_right _ (List.mem_append_left _ hp))
theorem Ahu{iter:Expr}{body:List Stmt}{wi:TI}{g:TG}{tb:TS}{pos:Pos}(hp:PassesOwn (model X.prog X.w) X.A X.env X.xe)(hc:X.calm=true)(hi:PI X tg iter wi)(hg:PG X tg g)(hb:PSs X body tb)
    (hs:∀ x,foldedSetIterable iter X.env x=pure x:=by intro _;rfl):PS X (.For tg iter body [] pos) (Amo wi g tb):=by
  intro pins s σ H D I h
  refine wpAny_For (thn (hi pins s σ H _ I h) fun v s1 h1=>thn h1 fun itv s2 h2=>?_) hs
  obtain ⟨it,fp,tn,J,H2,e,I2,T,st2,f2,W,⟨m0,w0⟩,turn⟩:=h2
  subst e
  have stat:∀ {H':Hp},(∀ b∈fp,H' b=none)→∀ b∈fp,Je X pins H' b:=fun hn b hb=>⟨hn b hb,(f2 b hb).2⟩
  refine codeAny_forLoop_any (fun n s'=>∃ i σ' H',Inv X pins σ' H' s'∧tn i s'.heap∧(∀ b∈fp,H' b=none)∧W i n σ' H') ?_ m0 ⟨0,σ,H2,I2,st2,fun b hb=>(f2 b hb).1,w0⟩
  rintro n s3 ⟨i,σ3,H3,I3,st3,fr3,w3⟩
  rcases turn i n σ3 H3 w3 with ⟨stop,qn⟩ | ⟨go,N,hN,step⟩
  · refine wpAny_passesOwn hp (thn (T.done X rfl rfl rfl hc i pins s3 σ3 H3 X.xe I3 (stat fr3) st3 stop) fun r s4 zz=>?_)
    obtain ⟨hr,I4⟩:=zz
    subst hr
    exact wpAny_execs_nil ⟨σ3,H3,I4,qn⟩
  · refine wpAny_passesOwn hp (thn (T.item X rfl rfl rfl hc i pins s3 σ3 H3 X.xe I3 (stat fr3) st3 go) fun r s4 zz=>?_)
    obtain ⟨u,hr,h4⟩:=zz
    subst hr
    refine wpAny_passesOwn hp (thn h4 fun _ s5 zz=>?_)
    obtain ⟨x,H5,I5,r5,y5,st5,fr5⟩:=zz
    have I5':=I5.pinned (stat fr5) (T.obj _ _ st5)
    refine wpAny_passesOwn hp (thn (hg _ s5 σ3 H5 x u _ I5' r5 (step x H5 y5)) fun _ s6 zz=>?_)
    obtain ⟨σ6,H6,I6,q6⟩:=zz
    refine wpAny_passesOwn hp (thn (hb _ s6 σ6 H6 _ I6 q6) fun f s7 q7=>?_)
    have again:∀ {σ7:St} {H7:Hp},Inv X (pins++Nb fp s5.heap) σ7 H7 s7→N σ7 H7→∃ m,m < n∧∃ i σ' H',Inv X pins σ' H' s7∧tn i s7.heap∧(∀ b∈fp,H' b=none)∧W i m σ' H':=fun {σ7 H7} I7 n7=>by
      obtain ⟨m',hm,w7⟩:=hN σ7 H7 n7
      refine ⟨m',hm,i+1,σ7,H7,I7.unpinned,T.keep _ _ _ st5 fun b hb o e=>(I7.pin (b,o) (List.mem_append_right _ (List.mem_append_right _ (Hk hb e)))).1,fun b hb=>?_,w7⟩
      obtain ⟨o,e,d⟩:=T.obj _ _ st5 b hb
      exact (I7.pin (b,o) (List.mem_append_right _ (List.mem_append_right _ (Hk hb e)))).2.1
    cases f with
    | next=>obtain ⟨σ7,H7,I7,n7⟩:=q7;exact again I7 n7
    | cont=>obtain ⟨σ7,H7,I7,n7⟩:=q7;exact again I7 n7
    | brk=>obtain ⟨σ7,H7,I7,q7⟩:=q7;exact ⟨σ7,H7,I7.unpinned,q7⟩
    | ret v=>obtain ⟨x7,σ7,H7,I7,r7,q7⟩:=q7;exact ⟨x7,σ7,H7,I7.unpinned,r7,q7⟩
end
abbrev R2:=V→V→Hp→VK→Prop
noncomputable def OpR(X:Cx)(f:Value→Value→Sem Value)(r:R2):Prop:=
  ∀ (pins:List (Addr×Obj)) (s:Shared) (σ:St) (H:Hp) (x y:V) (v u:Value) (Q:VK),Inv X pins σ H s→RelV x v→RelV y u→r x y H Q →
    wpAny (model X.prog X.w) X.A (f v u) (EP X pins σ Q) X.xe s
noncomputable def UnR(X:Cx)(f:Value→Sem Value)(r:V→Hp→VK→Prop):Prop:=
  ∀ (pins:List (Addr×Obj)) (s:Shared) (σ:St) (H:Hp) (x:V) (v:Value) (Q:VK),Inv X pins σ H s→RelV x v→r x H Q →
    wpAny (model X.prog X.w) X.A (f v) (EP X pins σ Q) X.xe s
noncomputable def CallR(X:Cx)(f:Value)(r:List V→Hp→VK→Prop):Prop:=
  ∀ (pins:List (Addr×Obj)) (s:Shared) (σ:St) (H:Hp) (xs:List V) (us:List Value) (Q:VK),Inv X pins σ H s→Vals xs us→r xs H Q →
    wpAny (model X.prog X.w) X.A (call f us) (EP X pins σ Q) X.xe s
noncomputable def Amz(X:Cx)(r:V→Hp→(Bool→Hp→Prop)→Prop):Prop:=
  ∀ (pins:List (Addr×Obj)) (s:Shared) (σ:St) (H:Hp) (x:V) (v:Value) (Q:Bool→Hp→Prop),Inv X pins σ H s→RelV x v→r x H Q →
    wpAny (model X.prog X.w) X.A (truthy v) (TP X pins σ Q) X.xe s
noncomputable def tOp(r:R2)(ta tb:TE):TE:=fun σ H Q=>ta σ H fun x H1=>tb σ H1 fun y H2=>r x y H2 Q
noncomputable def tUn(r:V→Hp→VK→Prop)(ta:TE):TE:=fun σ H Q=>ta σ H fun x H1=>r x H1 Q
noncomputable def rI(C:Int→Int→Prop)(g:Int→Int→V):R2:=fun x y H Q=>∃ i j,x = .int i∧y = .int j∧C i j∧Q (g i j) H
noncomputable def rI0(g:Int→Int→V):R2:=fun x y H Q=>∃ i j,x = .int i∧y = .int j∧Q (g i j) H
noncomputable def rU(g:Int→V):V→Hp→VK→Prop:=fun x H Q=>∃ i,x = .int i∧Q (g i) H
section
variable {X:Cx}{a b c:Expr}{ta tb tc:TE}{pos:Pos}
theorem Aim(ha:PE X a ta)(hb:PE X b tb){pins:List (Addr×Obj)}{s:Shared}{σ:St}{H:Hp}{R:V→V→Hp→Prop}(I:Inv X pins σ H s)
    (h:ta σ H fun x H1=>tb σ H1 fun y H2=>R x y H2) {Q:Value→Shared→Prop} {f:Value→Value→Sem Value}
    (hf:∀ v u s2 x y H2,Inv X pins σ H2 s2→RelV x v→RelV y u→R x y H2→wpAny (model X.prog X.w) X.A (f v u) Q X.xe s2) :
    wpAny (model X.prog X.w) X.A (eval a X.env) (fun v s₁=>wpAny (model X.prog X.w) X.A (eval b X.env) (fun u s₂=>wpAny (model X.prog X.w) X.A (f v u) Q X.xe s₂) X.xe s₁) X.xe s:=by
  refine thn (ha pins s σ H _ I h) fun v s1 zz=>?_
  obtain ⟨x,H1,I1,r1,q1⟩:=zz
  refine thn (hb pins s1 σ H1 _ I1 q1) fun u s2 zz=>?_
  obtain ⟨y,H2,I2,r2,q2⟩:=zz
  exact hf v u s2 x y H2 I2 r1 r2 q2
theorem Akc{op:Operator}{r:R2}(ho:OpR X (binaryOp op) r)(ha:PE X a ta)(hb:PE X b tb):PE X (.BinOp a op b pos) (tOp r ta tb):=by
  intro pins s σ H Q I h
  exact wpAny_BinOp (Aim ha hb I h fun v u s2 x y H2 I2 rx ry q=>ho pins s2 σ H2 x y v u Q I2 rx ry q)
theorem Akl{op:UnaryOp}{r:V→Hp→VK→Prop}(ho:UnR X (unaryOp op) r)(ha:PE X a ta):PE X (.UnaryOp op a pos) (tUn r ta):=by
  intro pins s σ H Q I h
  exact UnaryOp_ (thn (ha pins s σ H _ I h) fun v s1 zz=>by obtain ⟨x,H1,I1,r1,q1⟩:=zz;exact ho pins s1 σ H1 x v Q I1 r1 q1)
theorem opI{f:Value→Value→Sem Value}{C:Int→Int→Prop}{g:Int→Int→Int}
    (rule:∀ (i j:Int) (t u:Tok) (s:Shared) (Q:Value→Shared→Prop) (E:Value→Shared→Prop),C i j→Q (.int (g i j) s.toks) { s with toks:=s.toks+1 }→wpAny (model X.prog X.w) X.A (f (.int i t) (.int j u)) Q E s) :
    OpR X f (rI C fun i j=>.int (g i j)):=by
  intro pins s σ H x y v u Q I rx ry h
  obtain ⟨i,j,rfl,rfl,hc,q⟩:=h
  obtain ⟨t,rfl⟩:=rx
  obtain ⟨t',rfl⟩:=ry
  exact rule i j t t' s _ _ hc ⟨.int (g i j),H,I.tok _,⟨_,rfl⟩,q⟩
theorem Akt{f:Value→Value→Sem Value}{g:Int→Int→Int}
    (rule:∀ (i j:Int) (t u:Tok) (s:Shared) (Q:Value→Shared→Prop) (E:Value→Shared→Prop),Q (.int (g i j) s.toks) { s with toks:=s.toks+1 }→wpAny (model X.prog X.w) X.A (f (.int i t) (.int j u)) Q E s) :
    OpR X f (rI0 fun i j=>.int (g i j)):=by
  intro pins s σ H x y v u Q I rx ry h
  obtain ⟨i,j,rfl,rfl,q⟩:=h
  obtain ⟨t,rfl⟩:=rx
  obtain ⟨t',rfl⟩:=ry
  exact rule i j t t' s _ _ ⟨.int (g i j),H,I.tok _,⟨_,rfl⟩,q⟩
theorem Ag8{f:Value→Value→Sem Value}{g:Int→Int→Bool}
    (rule:∀ (i j:Int) (t u:Tok) (s:Shared) (Q:Value→Shared→Prop) (E:Value→Shared→Prop),Q (.bool (g i j)) s→wpAny (model X.prog X.w) X.A (f (.int i t) (.int j u)) Q E s) :
    OpR X f (rI0 fun i j=>.bl (g i j)):=by
  intro pins s σ H x y v u Q I rx ry h
  obtain ⟨i,j,rfl,rfl,q⟩:=h
  obtain ⟨t,rfl⟩:=rx
  obtain ⟨t',rfl⟩:=ry
  exact rule i j t t' s _ _ ⟨.bl (g i j),H,I,rfl,q⟩
noncomputable def Ale(i j:Int):Prop:=0≤j∧j≤1000000∧i.natAbs < 2 ^ 64
noncomputable def CMul(i j:Int):Prop:=(-(2 ^ 64) < i∧i < 2 ^ 64)∨(-(2 ^ 64) < j∧j < 2 ^ 64)
theorem CMul.ok{i j:Int}(h:CMul i j):IntMulOk i j:=by
  rcases h with ⟨h1,h2⟩ | ⟨h1,h2⟩
  · exact .of_left (intBits_le_64 h1 h2)
  · exact .of_right (intBits_le_64 h1 h2)
theorem Ahq:OpR X (binaryOp .Add) (rI0 fun i j=>.int (i+j)):=Akt fun _ _ _ _ _ _ _ q=>add_int q
theorem Cy:OpR X (binaryOp .Sub) (rI0 fun i j=>.int (i - j)):=Akt fun _ _ _ _ _ _ _ q=>sub_int q
theorem Ah9:OpR X (binaryOp .Mult) (rI CMul fun i j=>.int (i * j)):=opI fun _ _ _ _ _ _ _ hc q=>mul_int q hc.ok
theorem Jy:OpR X (binaryOp .Mod) (rI (fun _ j=>0 < j) fun i j=>.int (i % j)):=opI fun i j _ _ _ _ _ hc q=>by
  have h1:(0:Int) < j:=hc
  exact mod_int' (by omega) (by rw[Int.fmod_eq_emod_of_nonneg i (by omega)];exact q)
theorem Abf:OpR X (binaryOp .Pow) (rI Ale fun i j=>.int (i ^ j.toNat)):=opI fun _ _ _ _ _ _ _ hc q=>pow_int_small hc.1 hc.2.1 hc.2.2 q
theorem unI{f:Value→Sem Value}{g:Int→Int}
    (rule:∀ (i:Int) (t:Tok) (s:Shared) (Q:Value→Shared→Prop) (E:Value→Shared→Prop),Q (.int (g i) s.toks) { s with toks:=s.toks+1 }→wpAny (model X.prog X.w) X.A (f (.int i t)) Q E s) :
    UnR X f (rU fun i=>.int (g i)):=by
  intro pins s σ H x v Q I rx h
  obtain ⟨i,rfl,q⟩:=h
  obtain ⟨t,rfl⟩:=rx
  exact rule i t s _ _ ⟨.int (g i),H,I.tok _,⟨_,rfl⟩,q⟩
theorem Aiu:UnR X (unaryOp .USub) (rU fun i=>.int (-i)):=unI fun _ _ _ _ _ q=>neg_int q
end
section
variable {X:Cx}{a b c:Expr}{ta tb tc:TE}{pos:Pos}
theorem Lu:OpR X (compareOp .Lt) (rI0 fun i j=>.bl (decide (i < j))):=Ag8 fun _ _ _ _ _ _ _ q=>lt_int q
theorem Aki:OpR X (compareOp .LtE) (rI0 fun i j=>.bl (decide (i≤j))):=Ag8 fun _ _ _ _ _ _ _ q=>le_int q
theorem Ahj:OpR X (compareOp .Gt) (rI0 fun i j=>.bl (decide (j < i))):=Ag8 fun _ _ _ _ _ _ _ q=>gt_int q
theorem Abj:OpR X (compareOp .GtE) (rI0 fun i j=>.bl (decide (j≤i))):=Ag8 fun _ _ _ _ _ _ _ q=>ge_int q
theorem OpR.or{f:Value→Value→Sem Value}{r r':R2}(h:OpR X f r)(h':OpR X f r'):OpR X f (fun x y H Q=>r x y H Q∨r' x y H Q):=by
  intro pins s σ H x y v u Q I rx ry q
  rcases q with q | q
  · exact h pins s σ H x y v u Q I rx ry q
  · exact h' pins s σ H x y v u Q I rx ry q
theorem B7(b:Expr){op:CmpOp}(h:op≠.In:=by decide)(h2:op≠.NotIn:=by decide):behindInMarks op b=false:=by
  have e1:(op == CmpOp.In)=false:=by cases op <;> first | rfl | exact absurd rfl h
  have e2:(op == CmpOp.NotIn)=false:=by cases op <;> first | rfl | exact absurd rfl h2
  cases b <;> simp[behindInMarks,e1,e2]
theorem Ag7{op:CmpOp}{r:R2}(ho:OpR X (compareOp op) r)(ha:PE X a ta)(hb:PE X b tb)(hm:behindInMarks op b=false):PE X (.Compare a [op] [b] pos) (tOp r ta tb):=by
  intro pins s σ H Q I h
  exact wpAny_Compare1 (Aim ha hb I h fun v u s2 x y H2 I2 rx ry q=>ho pins s2 σ H2 x y v u Q I2 rx ry q) hm
noncomputable def Adu(t:TE):TT:=fun σ H Q=>t σ H fun x H'=>∃ k,x = .bl k∧Q k H'
theorem Afs{op:CmpOp}{r:R2}(ho:OpR X (compareOp op) r)(ha:PE X a ta)(hb:PE X b tb)(hm:behindInMarks op b=false):PT X (.Compare a [op] [b] pos) (Adu (tOp r ta tb)):=by
  intro pins s σ H Q I h
  refine wpAny_isTrue_Compare1 (thn (ha pins s σ H _ I h) fun v s1 zz=>zz.elim fun x H1 I1 r1 q1=>thn (hb pins s1 σ H1 _ I1 q1) fun u s2 ⟨y,H2,I2,r2,q2⟩=>
    thn (ho pins s2 σ H2 x y v u _ I2 r1 r2 q2) fun c s3 zz=>zz.elim fun z H3 I3 r3 zq=>?_) hm
  obtain ⟨k,e,q3⟩:=zq
  subst e
  cases r3
  exact wpAny_truthy_bool ⟨H3,I3,q3⟩
noncomputable def Ad9(r r':R2)(ta tb tc:TE):TE:=fun σ H Q=>ta σ H fun x H1=>tb σ H1 fun y H2=>r x y H2 fun z H3=>∃ k,z = .bl k ∧
  (if k=true then tc σ H3 fun w' H4=>r' y w' H4 Q else Q (.bl false) H3)
theorem Adj{op op':CmpOp}{r r':R2}(ho:OpR X (compareOp op) r)(ho':OpR X (compareOp op') r')(ha:PE X a ta)(hb:PE X b tb)(hc:PE X c tc)
    (hm:lastMarks [op,op'] [b,c]=false:=by with_unfolding_all rfl):PT X (.Compare a [op,op'] [b,c] pos) (Adu (Ad9 r r' ta tb tc)):=by
  intro pins s σ H Q I h
  refine isTrue_chain (thn (ha pins s σ H _ I h) fun v s1 zz=>zz.elim fun x H1 I1 r1 q1=>test_link (thn (hb pins s1 σ H1 _ I1 q1) fun u s2 ⟨y,H2,I2,r2,q2⟩=>
    thn (ho pins s2 σ H2 x y v u _ I2 r1 r2 q2) fun d s3 zz=>zz.elim fun z H3 I3 r3 zq=>?_)) hm
  obtain ⟨k,e,q3⟩:=zq
  subst e
  cases r3
  refine wpAny_truthy_bool ?_
  cases k with
  | false=>
    obtain ⟨k',e',q'⟩:=q3
    cases e'
    exact ite_ff ⟨H3,I3,q'⟩
  | true=>
    refine ite_tt (test_last (thn (hc pins s3 σ H3 _ I3 q3) fun w' s4 zz=>zz.elim fun z' H4 I4 r4 q4=>thn (ho' pins s4 σ H4 y z' u w' _ I4 r2 r4 q4) fun d' s5 zz=>?_))
    obtain ⟨z2,H5,I5,r5,k2,e2,q5⟩:=zz
    subst e2
    cases r5
    exact wpAny_truthy_bool ⟨H5,I5,q5⟩
noncomputable def Ah3(K:PySem.W.Frag)(x:V)(H:Hp)(k:Bool):Prop:=
  match x with
  | .non=>k=false
  | .bl b=>k=b
  | .int i=>k=(i != 0)
  | .str y=>y.length≤sizeLine∧k=((y.length:Int) != 0)
  | .byt y=>y.size≤sizeLine∧k=((y.size:Int) != 0)
  | .ref p=>(∃ xs,SqL K H p xs∧k = !xs.isEmpty)∨(∃ xs,SqT K H p xs∧k = !xs.isEmpty)∨∃ kvs,H p=some (.dK kvs)∧k = !kvs.isEmpty
  | _=>False
theorem U4{κ:Type}{kvs:List (κ×V)}{vs:List (κ×Value)}(r:KV kvs vs):(!vs.isEmpty) = !kvs.isEmpty:=by
  cases r <;> rfl
theorem M5{xs:List V}{its:List Value}(r:Vals xs its):(!its.toArray.isEmpty) = !xs.isEmpty:=by
  cases r <;> simp
theorem Ll:(sizeLine:Nat) < 2 ^ 63:=by rw[sizeLine_eq];decide
theorem Aix:Amz X (fun x H Q=>∃ k,Ah3 X.K x H k∧Q k H):=by
  intro pins s σ H x v Q I rx h
  obtain ⟨k,e,q⟩:=h
  have hl:=Ll
  have hs:sizeLine=16777216:=sizeLine_eq
  cases x with
  | non=>
    cases rx
    have e':k=false:=e
    subst e'
    exact truthy_none ⟨H,I,q⟩
  | bl b=>
    cases rx
    have e':k=b:=e
    subst e'
    exact wpAny_truthy_bool ⟨H,I,q⟩
  | int i=>
    obtain ⟨t,rfl⟩:=rx
    have e':k=(i != 0):=e
    subst e'
    exact PySem.P.truthy_int ⟨H,I,q⟩
  | str y=>
    obtain ⟨t,rfl⟩:=rx
    obtain ⟨hy,e'⟩:y.length≤sizeLine∧k=((y.length:Int) != 0):=e
    subst e'
    exact PySem.P.truthy_str (by omega) ⟨H,I.tok _,q⟩
  | byt y=>
    obtain ⟨t,rfl⟩:=rx
    obtain ⟨hy,e'⟩:y.size≤sizeLine∧k=((y.size:Int) != 0):=e
    subst e'
    exact PySem.W.truthy_bytes (by omega) ⟨H,I.tok _,q⟩
  | ref p=>
    cases rx
    have e':(∃ xs,SqL X.K H p xs∧k = !xs.isEmpty)∨(∃ xs,SqT X.K H p xs∧k = !xs.isEmpty)∨∃ kvs,H p=some (.dK kvs)∧k = !kvs.isEmpty:=e
    rcases e' with ⟨xs,hx,e'⟩ | ⟨xs,hx,e'⟩ | ⟨kvs,hx,e'⟩
    · subst e'
      obtain ⟨its,r,pl,hz⟩:=I.list hx
      have hlen:=r.length
      exact wpAny_truthy_list pl.isList (by simp only[List.size_toArray];omega) ⟨H,I.tok _,by rw[M5 r];exact q⟩
    · subst e'
      obtain ⟨its,r,pl,hz⟩:=I.tuple hx
      have hlen:=r.length
      exact truthy_tuple pl (by simp only[List.size_toArray];omega) ⟨H,I.tok _,by rw[M5 r];exact q⟩
    · subst e'
      obtain ⟨hz,hS,vs,r,m⟩:kvs.length≤sizeLine∧(p == sysModules)=false∧∃ vs,KV kvs vs∧s.heap.DictOf (Bv X.prog X.w) p vs:=I.hok p _ hx
      have hlen:kvs.length=vs.length:=Paired.length r
      exact wpAny_truthy_dict hS m (by omega) ⟨H,I.tok _,by rw[U4 r];exact q⟩
  | _=>exact (show False from e).elim
theorem Ac4(ha:PE X a ta)(he:∀ whole,isTrue a X.env whole=(do let v ← whole;standAt a.pos;holding [v] (truthy v))) :
    PT X a (fun σ H Q=>ta σ H fun x H'=>∃ k,Ah3 X.K x H' k∧Q k H'):=by
  intro pins s σ H Q I h
  exact isTrue_plain (thn (ha pins s σ H _ I h) fun v s1 zz=>by obtain ⟨x,H1,I1,r1,q1⟩:=zz;exact Aix pins s1 σ H1 x v Q I1 r1 q1) (he _)
theorem Vi:OpR X (binaryOp .Add) (fun x y H Q=>∃ i j,x = .str i∧y = .str j∧i.length+j.length≤sizeLine∧Q (.str (i++j)) H):=by
  intro pins s σ H x y v u Q I rx ry h
  obtain ⟨i,j,rfl,rfl,hz,q⟩:=h
  obtain ⟨t,rfl⟩:=rx
  obtain ⟨t',rfl⟩:=ry
  exact add_str (fun t' tk=>⟨.str (i++j),H,I.tok _,⟨_,rfl⟩,q⟩) hz
theorem Ii{x:V}{us:List Value}(r:Vals [x] us):∃ u,us=[u]∧RelV x u:=by
  cases r with
  | cons r1 r2=>cases r2;exact ⟨_,rfl,r1⟩
theorem Ahl{x y:V}{us:List Value}(r:Vals [x,y] us):∃ u w',us=[u,w']∧RelV x u∧RelV y w':=by
  cases r with
  | cons r1 r2=>
    cases r2 with
    | cons r3 r4=>cases r4;exact ⟨_,_,rfl,r1,r3⟩
theorem Yg(hc:X.calm=true):CallR X (.builtin "max") (fun xs H Q=>∃ i j,xs=[.int i,.int j]∧Q (.int (if j > i then j else i)) H):=by
  intro pins s σ H xs us Q I r h
  obtain ⟨i,j,rfl,q⟩:=h
  obtain ⟨u,w',rfl,⟨t,rfl⟩,⟨t',rfl⟩⟩:=Ahl r
  refine max_two_ints (I.ok.hd hc) fun h' tk k=>⟨_,H,I.kept k,?_,q⟩
  by_cases hj:j > i
  · rw[if_pos hj,if_pos hj];exact ⟨_,rfl⟩
  · rw[if_neg hj,if_neg hj];exact ⟨_,rfl⟩
noncomputable def Akf(K:PySem.W.Frag)(x:V)(H:Hp)(n:Nat):Prop:=
  match x with
  | .str y=>y.length≤sizeLine∧n=y.length
  | .byt y=>y.size≤sizeLine∧n=y.size
  | .ref p=>(∃ xs,SqL K H p xs∧n=xs.length)∨∃ xs,SqT K H p xs∧n=xs.length
  | _=>False
theorem B8:CallR X (.builtin "len") (fun xs H Q=>∃ x n,xs=[x]∧Akf X.K x H n∧Q (.int n) H):=by
  intro pins s σ H xs us Q I r h
  obtain ⟨x,n,rfl,e,q⟩:=h
  obtain ⟨u,rfl,rx⟩:=Ii r
  have hl:=Ll
  have hs:sizeLine=16777216:=sizeLine_eq
  cases x with
  | str y=>
    obtain ⟨t,rfl⟩:=rx
    obtain ⟨hy,e'⟩:y.length≤sizeLine∧n=y.length:=e
    subst e'
    exact len_str (by omega) ⟨.int _,H,I.tok _,⟨_,rfl⟩,q⟩
  | byt y=>
    obtain ⟨t,rfl⟩:=rx
    obtain ⟨hy,e'⟩:y.size≤sizeLine∧n=y.size:=e
    subst e'
    exact PySem.W.len_bytes (by omega) ⟨.int _,H,I.tok _,⟨_,rfl⟩,q⟩
  | ref p=>
    cases rx
    have e':(∃ xs,SqL X.K H p xs∧n=xs.length)∨∃ xs,SqT X.K H p xs∧n=xs.length:=e
    rcases e' with ⟨xs,hx,e'⟩ | ⟨xs,hx,e'⟩
    · subst e'
      obtain ⟨its,r',pl,hz⟩:=I.list hx
      have hlen:=r'.length
      exact Calls.call_len_list pl.isList (by simp only[List.size_toArray];omega) ⟨.int xs.length,H,I.tok _,⟨_,by simp only[List.size_toArray];rw[hlen]⟩,q⟩
    · subst e'
      obtain ⟨its,r',pl,hz⟩:=I.tuple hx
      have hlen:=r'.length
      exact len_tuple pl (by simp only[List.size_toArray];omega) ⟨.int xs.length,H,I.tok _,⟨_,by simp only[List.size_toArray];rw[hlen]⟩,q⟩
  | _=>exact (show False from e).elim
end
structure ObjM(h:Heap)(x dx C:Addr)(mA:Str→Option Value):Prop where
  obj:h.get? x=some (PySem.W.instObj C dx)
  ns:h.Ns1 dx mA
  ne:dx≠x
theorem Aas{h:Heap}{dx:Addr}{mA:Str→Option Value}(n:h.Ns1 dx mA):∃ od,h.get? dx=some od∧∀ name,PySem.W.lookIn name od=some (mA name):=by
  obtain ⟨o,es,ep,ho,hd,hk,_,hm⟩:=n
  refine ⟨o,ho,fun name=>?_⟩
  have e:=hm name
  unfold nsFind findBy at e
  rw[← Array.find?_toList] at e
  unfold PySem.W.lookIn
  rw[hd]
  dsimp only
  split
  · rename_i y q
    rw[q] at e
    exact congrArg some e
  · rename_i q
    rw[q] at e
    have a:es.toList.any (·.refKey)=false:=by
      rw[List.any_eq_false]
      intro y hy
      obtain ⟨z,t,hkey⟩:=hk y (Array.mem_toList_iff.mp hy)
      simp[DictEntry.refKey,hkey]
    have a':¬ es.toList.any (·.refKey)=true:=by rw[a];exact Bool.false_ne_true
    rw[if_neg a']
    exact congrArg some e
theorem ObjM.look{h:Heap}{x dx C:Addr}{mA:Str→Option Value}(I:ObjM h x dx C mA):∃ od,PySem.W.InstAt h x (PySem.W.instObj C dx) C (some od)∧∀ name,PySem.W.lookIn name od=some (mA name):=
  let ⟨od,ho,hl⟩:=Aas I.ns
  ⟨od,⟨I.obj,rfl,rfl,ho⟩,hl⟩
section
variable {prog:Program}{w:World}{A:Around}{E:Value→Shared→Prop}{s:Shared}{K:PySem.W.Frag}{x dx C f:Addr}{mA:Str→Option Value}{name:Str}{v:Value}
end
theorem RelO.some_of{v:V}{o:Option Value}(r:RelO (some v) o):∃ u,o=some u∧RelV v u:=by
  cases o with
  | none=>exact (show False from r).elim
  | some u=>exact ⟨u,rfl,r⟩
section
variable {P:Program}{w:World}{H H':Hp}{h h':Heap}{a C dx:Addr}{fs fs':List (Str×V)}
theorem Ael(hok:HOk P w H h)(e:H a=some (.ins C dx fs)):∃ mA,ObjM h a dx C mA∧(∀ f,RelO (fs.lookup f) (mA f))∧PySem.Within mA (fs.map (·.1))∧fs.length≤1000∧H dx=some (.own a):=by
  obtain ⟨d,z,ne,ob,mA,n,r,q⟩:=(show ObjOk P w H h a (.ins C dx fs) from hok a _ e)
  exact ⟨mA,⟨ob,n,ne⟩,r,q,z,d⟩
end
structure Cls(K:PySem.W.Frag)(C:Addr):Prop where
  pg:PySem.W.plainGet K C Str.empty=true
  hd:PySem.W.hasDictIn K C=true
  po:PySem.W.plainOver K C=true
  sa:PySem.W.findIn K (.ref C) "__setattr__" = some (some (.builtin "object.__setattr__"))
theorem Cls.get{K:PySem.W.Frag}{C:Addr}(c:Cls K C)(f:Str):PySem.W.plainGet K C f=true:=c.pg
structure Con(K:PySem.W.Frag)(C:Addr)(f:Str)(v:V)(u:Value):Prop where
  at_:PySem.W.findIn K (.ref C) f=some (some u)
  rel:RelV v u
  get:PySem.W.specialIn K u "__get__" = some none
  cp:PySem.W.copiedNames.contains f=false
structure Meth(K:PySem.W.Frag)(C:Addr)(m:Str)(f:Addr):Prop where
  at_:PySem.W.findIn K (.ref C) m=some (some (.ref f))
  fn:PySem.W.isFn K (.ref f)=true
  kp:PySem.W.keepIn K (.ref f)=true
section
variable {X:Cx}{pins:List (Addr×Obj)}{σ:St}{H:Hp}{s:Shared}{a C dx:Addr}{fs:List (Str×V)}{f:Str}{v:V}{A:Around}{E:Value→Shared→Prop}
theorem Inv.made(I:Inv X pins σ H s):Inv X pins σ (upd (upd H s.heap.objs.size (.own (s.heap.objs.size+1))) (s.heap.objs.size+1) (.ins C s.heap.objs.size []))
    { s with heap:=(s.heap.push PySem.W.emptyDict).push (PySem.W.instObj C s.heap.objs.size) }:=by
  have e1:(s.heap.push PySem.W.emptyDict).get? s.heap.objs.size=some PySem.W.emptyDict:=Heap.get?_push_size s.heap rfl
  have e2:((s.heap.push PySem.W.emptyDict).push (PySem.W.instObj C s.heap.objs.size)).get? (s.heap.objs.size+1)=some (PySem.W.instObj C s.heap.objs.size):=by
    have:=Heap.get?_push_size (s.heap.push PySem.W.emptyDict) (o:=PySem.W.instObj C s.heap.objs.size) rfl
    rwa [Heap.size_push] at this
  have e3:(s.heap.push PySem.W.emptyDict).Ns s.heap.objs.size (fun _=>none):=⟨PySem.W.emptyDict,#[],_,e1,rfl,(fun e he=>absurd he (by simp)),fun _=>rfl⟩
  have I1:=I.laid (a:=s.heap.objs.size) (o:=.own (s.heap.objs.size+1)) (h':=s.heap.push PySem.W.emptyDict) (t':=s.toks) (fun b u q=>Heap.get?_push_of_some _ q) (Nat.le_refl _) ⟨_,e1⟩
  refine I1.laid (a:=s.heap.objs.size+1) (o:=.ins C s.heap.objs.size []) (t':=s.toks) (fun b u q=>Heap.get?_push_of_some _ q) (Nat.le_of_eq (Heap.size_push _ _)) ?_
  have ne:s.heap.objs.size≠s.heap.objs.size+1:=Nat.ne_of_lt (Nat.lt_succ_self _)
  refine ⟨by rw[Aw ne,upd_same],Nat.zero_le _,ne,e2,fun _=>none,(Heap.Ns1.of_empty e3).at fun o q=>Heap.get?_push_of_some _ q,fun _=>True.intro,fun y hy=>absurd rfl hy⟩
end
section
variable {X:Cx}{o e value:Expr}{f:Str}{pos pos' tpos:Pos}{ta tv:TE}
end
section
variable {X:Cx}{pins:List (Addr×Obj)}{σ:St}{H:Hp}{s:Shared}{A:Around}{E:Value→Shared→Prop}{Q:Value→Shared→Prop}{c:Value}{b:Bool}
inductive TyOf(K:PySem.W.Frag)(H:Hp):V→Value→Prop where
  | non:TyOf K H .non (.type "NoneType")
  | bl (x:Bool):TyOf K H (.bl x) (.type "bool")
  | int (i:Int):TyOf K H (.int i) (.type "int")
  | str (x:Str):TyOf K H (.str x) (.type "str")
  | flt (x:UInt64):TyOf K H (.flt x) (.type "float")
  | lst {a:Addr} {xs:List V} (e:H a=some (.lst xs)):TyOf K H (.ref a) (.type "list")
  | frz {a:Addr} {o:Obj} {xs:List V} (e:H a=some (.frz o (.lst xs))):TyOf K H (.ref a) (.type "list")
  | tup {a:Addr} {xs:List V} (e:H a=some (.tup xs)):TyOf K H (.ref a) (.type "tuple")
  | dK {a:Addr} {kvs:List (Key×V)} (e:H a=some (.dK kvs)):TyOf K H (.ref a) (.type "dict")
  | dT {a:Addr} {kvs:List (List Key×V)} (e:H a=some (.dT kvs)):TyOf K H (.ref a) (.type "dict")
  | ins {a C dx:Addr} {fs:List (Str×V)} (e:H a=some (.ins C dx fs)) (cl:Cls K C) (ha:PySem.W.findIn K (.ref C) "__class__" = some (some (.builtin "object.__class__")))
      (hn:PySem.W.specialIn K (.builtin "object.__class__") "__get__" = some (some (.builtin "getset_descriptor.__get__"))) (htk:PySem.W.takesIn K (.builtin "object.__class__")=some true)
      (hm:PySem.W.mroIn K C (.type "object")=some true):TyOf K H (.ref a) (.ref C)
theorem Gq{x:V}{u t:Value}(I:Inv X pins σ H s)(rx:RelV x u)(ty:TyOf X.K H x t)(e:PySem.W.kitOne X.K t c=some b)(h:∀ tk,Q (.bool b) { s with toks:=tk }) :
    wpAny (model X.prog X.w) A (call (.builtin "isinstance") [u,c]) Q E s:=by
  cases ty with
  | non=>cases (show u=Value.none from rx);exact PySem.W.kia_one PySem.W.kitx_none I.kIn True.intro e (fun z=>nomatch z) h
  | bl y=>cases (show u=Value.bool y from rx);exact PySem.W.kia_one PySem.W.kitx_bool I.kIn True.intro e (fun z=>nomatch z) h
  | int i=>obtain ⟨t,q⟩:=(show ∃ t,u=Value.int i t from rx);cases q;exact PySem.W.kia_one PySem.W.kitx_int I.kIn True.intro e (fun z=>nomatch z) h
  | str y=>obtain ⟨t,q⟩:=(show ∃ t,u=Value.str y t from rx);cases q;exact PySem.W.kia_one PySem.W.kitx_str I.kIn True.intro e (fun z=>nomatch z) h
  | flt y=>obtain ⟨t,q⟩:=(show ∃ t,u=Value.float y t from rx);cases q;exact PySem.W.kia_one PySem.W.kitx_float I.kIn True.intro e (fun z=>nomatch z) h
  | @lst a xs ea=>
    cases (show u=Value.ref a from rx)
    obtain ⟨_,_,n,_,h1⟩:=(show ObjOk X.prog X.w H s.heap a (.lst xs) from I.hok a _ ea)
    exact PySem.W.kia_one PySem.W.kitx_list I.kIn ⟨_,h1,rfl⟩ e (fun z=>nomatch z) h
  | @frz a ob xs ea=>
    cases (show u=Value.ref a from rx)
    obtain ⟨_,_,_,n,_,h1⟩:=(show ObjOk X.prog X.w H s.heap a (.frz ob (.lst xs)) from I.hok a _ ea)
    exact PySem.W.kia_one PySem.W.kitx_list I.kIn ⟨_,h1,rfl⟩ e (fun z=>nomatch z) h
  | @tup a xs ea=>
    cases (show u=Value.ref a from rx)
    obtain ⟨_,_,_,p⟩:=(show ObjOk X.prog X.w H s.heap a (.tup xs) from I.hok a _ ea)
    obtain ⟨o,h1,h2,_⟩:=p
    exact PySem.W.kia_one PySem.W.kitx_tuple I.kIn ⟨o,h1,(Prod.mk.inj h2).1⟩ e (fun z=>nomatch z) h
  | @dK a kvs ea=>
    cases (show u=Value.ref a from rx)
    obtain ⟨_,_,vs,_,p⟩:=(show ObjOk X.prog X.w H s.heap a (.dK kvs) from I.hok a _ ea)
    obtain ⟨o,es,ep,h1,h2,_⟩:=p
    exact PySem.W.kia_one PySem.W.kitx_dict I.kIn ⟨o,h1,h2.1⟩ e (fun z=>nomatch z) h
  | @dT a kvs ea=>
    cases (show u=Value.ref a from rx)
    obtain ⟨_,_,xs,_,o,es,ep,h1,h2,_⟩:=(show ObjOk X.prog X.w H s.heap a (.dT kvs) from I.hok a _ ea)
    exact PySem.W.kia_one PySem.W.kitx_dict I.kIn ⟨o,h1,h2.1⟩ e (fun z=>nomatch z) h
  | @ins a C dx fs ea cl ha hn htk hm=>
    cases (show u=Value.ref a from rx)
    obtain ⟨mA,O,_⟩:=Ael I.hok ea
    obtain ⟨od,J,_⟩:=O.look
    exact PySem.W.kia_one (PySem.W.kitx_own (cl.get _) cl.hd ha hn htk hm) I.kIn J e (fun z=>nomatch z) h
end
structure Room(k:Nat)(A:Around):Prop where
  hd:A.handled=none
  dp:A.depth+3 * k+5 < recursionLimit
  un:A.units+16 * k+200 < cLine
theorem Room.mono{j k:Nat}{A:Around}(r:Room k A)(h:j≤k):Room j A:=⟨r.hd,by have:=r.dp;omega,by have:=r.un;omega⟩
theorem Room.deeper{k:Nat}{A:Around}(r:Room (k+1) A)(env:Env):Room k (A.deeper env):=
  ⟨r.hd,by have:=r.dp;show A.depth+1+3 * k+5 < _;omega,by have:=r.un;show A.units+3+16 * k+200 < _;omega⟩
theorem Room.in1{k:Nat}{A:Around}(r:Room (k+1) A):Room k A.in1:=
  ⟨r.hd,by have:=r.dp;show A.depth+3 * k+5 < _;omega,by have:=r.un;show A.units+1+16 * k+200 < _;omega⟩
theorem Wc{A:Around}{C:Addr}{us:List Value}{kw:List (Str×Value)}:(A.under (.builtin "type.__call__" ⟨.ref C::us,kw⟩)).depth=A.depth+1:=by
  first | rfl | simp[Around.under,Code.weight,Code.isCreation,Code.isGuard,Code.isCaller,Code.frames,Code.isFrame,guardIds]
theorem Vr{A:Around}{C:Addr}{us:List Value}{kw:List (Str×Value)}:(A.under (.builtin "type.__call__" ⟨.ref C::us,kw⟩)).units=A.units+1:=by
  first | rfl | simp[Around.under,Code.cUnits,Code.frames,Code.isFrame]
theorem Room.make{k:Nat}{A:Around}(r:Room (k+1) A)(C:Addr)(us:List Value)(kw:List (Str×Value)):Room k (A.under (.builtin "type.__call__" ⟨.ref C::us,kw⟩)):=
  ⟨r.hd,by have:=r.dp;rw[Wc];omega,by have:=r.un;rw[Vr];omega⟩
theorem Room.depth{k:Nat}{A:Around}(r:Room k A):A.depth < recursionLimit:=by have:=r.dp;omega
theorem Room.units{k:Nat}{A:Around}(r:Room k A):A.units+64 < cLine:=by have:=r.un;omega
noncomputable def Alb:TA:=fun _ H Q=>Q [] H
noncomputable def Acg(ta:TE)(tr:TA):TA:=fun σ H Q=>ta σ H fun x H1=>tr σ H1 fun xs H2=>Q (x::xs) H2
section
variable {X:Cx}{e:Expr}{es:List Expr}{te:TE}{t:TA}{pos:Pos}
theorem Lc:PA X [] Alb:=fun _ _ _ _ H Q I h=>Calls.spliced_nil ⟨[],H,I,.nil,h⟩
theorem Ea(ha:PE X e te)(hr:PA X es t)(hs:starEach (e::es) X.env=(false,eval e X.env)::starEach es X.env:=by rfl):PA X (e::es) (Acg te t):=by
  intro pos pins s σ H Q I h
  rw[hs]
  show wpAny _ _ (spliced ((false,eval e X.env)::backTo pos (starEach es X.env))) _ _ s
  refine Calls.spliced_cons (thn (ha pins s σ H _ I h) fun u s1 zz=>?_)
  obtain ⟨x,H1,I1,r1,q1⟩:=zz
  refine thn (hr pos pins s1 σ H1 _ I1 q1) fun us s2 zz=>?_
  obtain ⟨xs,H2,I2,r2,q2⟩:=zz
  exact ⟨x::xs,H2,I2,.cons r1 r2,q2⟩
noncomputable def Amr(t:TA):TE:=fun σ H Q=>t σ H fun xs H1=>xs.length≤sizeLine∧∀ p,H1 p=none→Q (.ref p) (upd H1 p (.tup xs))
noncomputable def Amw(t:TA):TE:=fun σ H Q=>t σ H fun xs H1=>xs.length≤sizeLine∧∀ p,H1 p=none→Q (.ref p) (upd H1 p (.lst xs))
theorem Ad5{x1}(h:PA X es t):PE X (.Tuple es x1 pos) (Amr t):=by
  intro pins s σ H Q I hq
  refine wpAny_Tuple_spliced (thn (h pos pins s σ H _ I hq) fun us s1 zz=>zz.elim fun xs H1 I1 r zq=>⟨by rw[← r.length];exact zq.1,?_⟩)
  obtain ⟨z,q⟩:=zq
  have hf:H1 s1.heap.objs.size=none:=I1.hok.fresh (Nat.le_refl _)
  refine ⟨.ref s1.heap.objs.size,upd H1 s1.heap.objs.size (.tup xs),I1.laid (t':=s1.toks) (fun b u e=>Heap.get?_push_of_some _ e) (Nat.le_refl _) ?_,rfl,q _ hf⟩
  exact ⟨z,us,r,⟨_,Heap.get?_push_size _ rfl,rfl,_,rfl⟩⟩
theorem Aiw(h:PA X es t):PE X (.List es pos) (Amw t):=by
  intro pins s σ H Q I hq
  refine wpAny_List_spliced (thn (h pos pins s σ H _ I hq) fun us s1 zz=>zz.elim fun xs H1 I1 r zq=>⟨by rw[← r.length];exact zq.1,?_⟩)
  obtain ⟨z,q⟩:=zq
  have hf:H1 s1.heap.objs.size=none:=I1.hok.fresh (Nat.le_refl _)
  refine ⟨.ref s1.heap.objs.size,upd H1 s1.heap.objs.size (.lst xs),I1.laid (t':=s1.toks) (fun b u e=>Heap.get?_push_of_some _ e) (Nat.le_refl _) ?_,rfl,q _ hf⟩
  exact ⟨z,us,0,r,Heap.get?_push_size _ rfl⟩
end
abbrev Sp:=List V→Hp→VK→XK→Prop
abbrev CXT:=List Env→Hp→Shared→XK→Value→Shared→Prop
structure Env0(P:Program)(w:World)(K:PySem.W.Frag)(mg:Str→Option Value)(base:Heap)(A:Around)(outer:List Env)(s:Shared)(H:Hp):Prop where
  frames:A.frames=some outer
  mod:Mod K mg base
  bs:∀ b o,base.get? b=some o→s.heap.get? b=some o∧H b=none
  bsz:base.objs.size≤s.heap.objs.size
  funs:s.heap.FunFrames base outer
  frf:∀ b∈frs outer,H b=none
  hok:HOk P w H s.heap
  bare:AllBare s.gens
inductive CE(outer:List Env)(P:Program)(w:World)(H:Hp)(s:Shared)(Q:VK)(u:Value)(s':Shared):Prop
  | mk (v:V) (H':Hp) (os:s'.os=s.os) (bare:AllBare s'.gens) (un:Un (frs outer) [] H H' s.heap s'.heap) (hok:HOk P w H' s'.heap) (r:RelV v u) (q:Q v H'):CE outer P w H s Q u s'
noncomputable def CR(CX:CXT)(outer:List Env)(P:Program)(w:World)(H:Hp)(s:Shared)(Q:VK)(E:XK)(r:Result)(s':Shared):Prop:=
  match r with
  | .ok (.ret u)=>CE outer P w H s Q u s'
  | .ok _=>False
  | .error e=>CX outer H s E e s'
structure FnOk(P:Program)(w:World)(K:PySem.W.Frag)(mg:Str→Option Value)(base:Heap)(CX:CXT)(k:Nat)(f:Addr)(fd:FuncData)(ps:List Str)(sp:Sp):Prop where
  len:∀ vs H Q E,sp vs H Q E→vs.length=ps.length
  run:∀ (A:Around) (outer:List Env) (s:Shared) (H:Hp) (args:Args) (us:List Value) (vs:List V) (Q:VK) (E:XK),Room k A→Env0 P w K mg base A outer s H→BindsTo s fd args (ps.zip us)→Vals vs us→sp vs H Q E →
    codeAny (model P w) A (.call (.ref f) args) (CR CX outer P w H s Q E) s
theorem FnOk.mono{P:Program}{w:World}{K:PySem.W.Frag}{mg:Str→Option Value}{base:Heap}{CX:CXT}{j k:Nat}{f:Addr}{fd:FuncData}{ps:List Str}{sp:Sp}(F:FnOk P w K mg base CX j f fd ps sp)(h:j≤k) :
    FnOk P w K mg base CX k f fd ps sp:=⟨F.len,fun A outer s H args us vs Q E hr=>F.run A outer s H args us vs Q E (hr.mono h)⟩
theorem FnOk.imp{P:Program}{w:World}{K:PySem.W.Frag}{mg:Str→Option Value}{base:Heap}{CX:CXT}{k:Nat}{f:Addr}{fd:FuncData}{ps:List Str}{sp sp':Sp}(F:FnOk P w K mg base CX k f fd ps sp)
    (h:∀ vs H Q E,sp' vs H Q E→sp vs H Q E):FnOk P w K mg base CX k f fd ps sp':=
  ⟨fun vs H Q E q=>F.len vs H Q E (h _ _ _ _ q),fun A outer s H args us vs Q E hr he hb hv hs=>F.run A outer s H args us vs Q E hr he hb hv (h _ _ _ _ hs)⟩
theorem Env0.make{P:Program}{w:World}{K:PySem.W.Frag}{mg:Str→Option Value}{base:Heap}{A:Around}{outer:List Env}{s:Shared}{H:Hp}(e:Env0 P w K mg base A outer s H)(C:Addr)(us:List Value)(kw:List (Str×Value)) :
    Env0 P w K mg base (A.under (.builtin "type.__call__" ⟨.ref C::us,kw⟩)) outer s H:=⟨by first | exact e.frames | (simpa[Around.under,Code.envs,Code.isFrame,pushEnvs] using e.frames),e.mod,e.bs,e.bsz,e.funs,e.frf,e.hok,e.bare⟩
theorem Env0.in1{P:Program}{w:World}{K:PySem.W.Frag}{mg:Str→Option Value}{base:Heap}{A:Around}{outer:List Env}{s:Shared}{H:Hp}(e:Env0 P w K mg base A outer s H) :
    Env0 P w K mg base A.in1 outer s H:=⟨e.frames,e.mod,e.bs,e.bsz,e.funs,e.frf,e.hok,e.bare⟩
section
variable {X:Cx}{pins:List (Addr×Obj)}{σ:St}{H:Hp}{s s':Shared}
theorem Inv.env0(I:Inv X pins σ H s):Env0 X.prog X.w X.K X.mg X.base X.A X.stack s H:=
  ⟨I.ok.frames,I.ok.mod,I.bs,Nat.le_trans I.ok.bsz I.sz,I.stack,I.stkFree,I.hok,I.bare⟩
theorem Inv.after{Q:VK}{u:Value}(I:Inv X pins σ H s)(h:CE X.stack X.prog X.w H s Q u s'):EP X pins σ Q u s':=by
  obtain ⟨v,H',os,bare,un,hok,r,q⟩:=h
  obtain ⟨hh,g,d,t,os'⟩:=s'
  obtain rfl:os'=s.os:=os
  exact ⟨v,H',I.call (h':=hh) (g':=g) (d':=d) (t':=t) (ch:=[]) un hok bare (fun b z=>absurd z (by simp)),r,q⟩
end
noncomputable def Akj(sp:Sp)(dvs:List V)(E:XK)(t:TA):TE:=fun σ H Q=>t σ H fun vs H1=>sp (vs++dvs) H1 Q E
noncomputable def Binds(K:PySem.W.Frag)(fd:FuncData)(ps:List Str)(ds:List Value):Prop:=
  ∀ (s:Shared) (us:List Value),K.In s.heap→(us++ds).length=ps.length→BindsTo s fd ⟨us,[]⟩ (ps.zip (us++ds))
theorem Binds.all{K:PySem.W.Frag}{fd:FuncData}{ps:List Str}(h:∀ us:List Value,us.length=ps.length→bindArgs fd ⟨us,[]⟩=pure (ps.zip us)):Binds K fd ps []:=fun s us _ hl=>by
  rw[List.append_nil] at hl ⊢
  exact .of_eq (h us hl)
noncomputable def Vj(CX:CXT)(X:Cx)(E:XK):Prop:=∀ (pins:List (Addr×Obj)) (σ:St) (H:Hp) (s:Shared) (e:Value) (s':Shared),Inv X pins σ H s→CX X.stack H s E e s'→X.xe e s'
section
variable {X:Cx}{CX:CXT}{k:Nat}{f C:Addr}{fd:FuncData}{ps:List Str}{sp:Sp}{dvs:List V}{ds:List Value}{E:XK}{x m:Str}{p pos apos:Pos}{e o:Expr}{es:List Expr}{ta:TE}{t:TA}
theorem Ajz{pins:List (Addr×Obj)}{σ:St}{H:Hp}{s:Shared}{Q:VK}{us:List Value}{vs:List V}(F:FnOk X.prog X.w X.K X.mg X.base CX k f fd ps sp)(hr:Room k X.A)(hb:Binds X.K fd ps ds)(hd:Vals dvs ds)(hx:Vj CX X E)
    (I:Inv X pins σ H s) (r:Vals vs us) (h:sp (vs++dvs) H Q E):wpAny (model X.prog X.w) X.A (call (.ref f) us) (EP X pins σ Q) X.xe s:=by
  have r2:Vals (vs++dvs) (us++ds):=r.append hd
  have hl:(us++ds).length=ps.length:=by rw[← r2.length];exact F.len _ _ _ _ h
  refine wpAny_call (codeAny_mono (F.run X.A X.stack s H ⟨us,[]⟩ (us++ds) (vs++dvs) Q E hr I.env0 (hb s us I.kIn hl) r2 h) fun r s' hq=>?_)
  cases r with
  | error e=>exact hx pins σ H s e s' I hq
  | ok fl=>
    cases fl with
    | ret u=>exact I.after hq
    | next=>exact False.elim hq
    | brk=>exact False.elim hq
    | cont=>exact False.elim hq
theorem Aez(F:FnOk X.prog X.w X.K X.mg X.base CX k f fd ps sp)(hr:Room k X.A)(hg:Gl X x)(hm:X.mg x=some (.ref f))(hk:PySem.W.keepIn X.K (.ref f)=true)(hb:Binds X.K fd ps ds)(hd:Vals dvs ds)(hx:Vj CX X E)
    (ha:PA X (e::es) t) (hdb:(x == ("__debug__" : Str))=false:=by decide) (he:starEach (e::es) X.env=(false,eval e X.env)::starEach es X.env:=by rfl) (hpl:(backTo pos (starEach es X.env)).any (·.1)=false:=by rfl) :
    PE X (.Call (.Name x p) (e::es) [] pos) (Akj sp dvs E t):=by
  intro pins s σ H Q I h
  refine wpAny_Call_Name_kw (Jb I hg hm ?_ hdb)
  refine PySem.W.callWith_K (h₀:=X.base) I.ok.mod.kin hk (thn (ha pos pins s σ H _ I h) fun us s1 zz=>zz.elim fun vs H1 I1 r q=>⟨I1.kIn,?_⟩) he hpl
  exact Ajz F hr hb hd hx I1 r q
structure Mk(K:PySem.W.Frag)(C f:Addr):Prop where
  makes:PySem.W.makesIn K C=true
  init:PySem.W.findIn K (.ref C) "__init__" = some (some (.ref f))
  fn:PySem.W.isFn K (.ref f)=true
  kp:PySem.W.keepIn K (.ref C)=true
end
noncomputable def PK(X:Cx)(kws:List Keyword)(t:TA):Prop:=
  ∀ (pos:Pos) (pins:List (Addr×Obj)) (s:Shared) (σ:St) (H:Hp) (Q:List V→Hp→Prop),Inv X pins σ H s→t σ H Q→wpAny (model X.prog X.w) X.A (evalAll ((backToKw pos (keywordEach kws X.env)).map (·.2))) (AP X pins σ Q) X.xe s
section
variable {X:Cx}{CX:CXT}{k:Nat}{f C:Addr}{fd:FuncData}{ps ks:List Str}{sp:Sp}{E:XK}{x m:Str}{p pos apos kpos:Pos}{e o:Expr}{es:List Expr}{kws:List Keyword}{te ta:TE}{t tk:TA}{nm:Option Str}
structure KBinds(K:PySem.W.Frag)(fd:FuncData)(ps ks:List Str)(g:List Value→List Value→List Value)(gV:List V→List V→List V):Prop where
  to:∀ (s:Shared) (us ws:List Value),K.In s.heap→(g us ws).length=ps.length→BindsTo s fd ⟨us,ks.zip ws⟩ (ps.zip (g us ws))
  rel:∀ {vs:List V} {us:List Value} {zs:List V} {ws:List Value},Vals vs us→Vals zs ws→Vals (gV vs zs) (g us ws)
variable {g:List Value→List Value→List Value}{gV:List V→List V→List V}
end
structure FnScope(N P:List Str)(sc:Scope):Prop where
  kind:sc.kind = .function
  co:sc.isCoroutine=false
  gen:sc.isGenerator=false
  nd:N.Nodup
  pre:N.take P.length=P
  par:∀ x∈P,sc.names.lookup x=some .local∨sc.names.lookup x=some .cell
  nofree:∀ y∈sc.names,y.2≠.free
theorem P2{kindOf:Str→Option NameKind}{x:Str}:∀ {binds:List (Str×Value)} {m:Str→Option Value},(∀ v,(x,v)∉binds)→bindL kindOf binds m x=m x
  | [],_,_=>rfl
  | (n,v)::r,m,h=>by
    unfold bindL
    rw[P2 fun w hw=>h w (List.mem_cons_of_mem _ hw)]
    split
    · have:x≠n:=by rintro rfl;exact h v List.mem_cons_self
      simp[this]
    · rfl
theorem Qm{kindOf:Str→Option NameKind}{x:Str}:∀ {binds:List (Str×Value)} {m:Str→Option Value},(∀ v,(x,v)∉binds)→bindC kindOf binds m x=m x
  | [],_,_=>rfl
  | (n,v)::r,m,h=>by
    unfold bindC
    rw[Qm fun w hw=>h w (List.mem_cons_of_mem _ hw)]
    split
    · rfl
    · have:x≠n:=by rintro rfl;exact h v List.mem_cons_self
      simp[this]
theorem Qz{kindOf:Str→Option NameKind}{x:Str}{v:Value}:∀ {P:List Str} {vs:List Value} {i:Nat} {m:Str→Option Value},P.Nodup→P[i]? = some x→vs[i]? = some v→kindOf x=some .local →
    bindL kindOf (P.zip vs) m x=some v
  | [],_,_,_,_,h,_,_=>by simp at h
  | _::_,[],_,_,_,_,h,_=>by simp at h
  | p::P,w::vs,0,m,nd,h1,h2,hk=>by
    simp at h1 h2;subst h1;subst h2
    show bindL kindOf ((p,w)::P.zip vs) m p=_
    unfold bindL
    rw[P2 fun v hv=>(List.nodup_cons.mp nd).1 (List.of_mem_zip hv).1,if_pos hk]
    simp
  | p::P,w::vs,i+1,m,nd,h1,h2,hk=>by
    show bindL kindOf ((p,w)::P.zip vs) m x=_
    unfold bindL
    exact Qz (i:=i) (List.nodup_cons.mp nd).2 (by simpa using h1) (by simpa using h2) hk
theorem Qi{kindOf:Str→Option NameKind}{x:Str}{v:Value}:∀ {P:List Str} {vs:List Value} {i:Nat} {m:Str→Option Value},P.Nodup→P[i]? = some x→vs[i]? = some v→kindOf x≠some .local →
    bindC kindOf (P.zip vs) m x=some v
  | [],_,_,_,_,h,_,_=>by simp at h
  | _::_,[],_,_,_,_,h,_=>by simp at h
  | p::P,w::vs,0,m,nd,h1,h2,hk=>by
    simp at h1 h2;subst h1;subst h2
    show bindC kindOf ((p,w)::P.zip vs) m p=_
    unfold bindC
    rw[Qm fun v hv=>(List.nodup_cons.mp nd).1 (List.of_mem_zip hv).1,if_neg hk]
    simp
  | p::P,w::vs,i+1,m,nd,h1,h2,hk=>by
    show bindC kindOf ((p,w)::P.zip vs) m x=_
    unfold bindC
    exact Qi (i:=i) (List.nodup_cons.mp nd).2 (by simpa using h1) (by simpa using h2) hk
noncomputable def start(N:List Str)(vs:List V):St:=vs.map some++List.replicate (N.length - vs.length) none
noncomputable def Sn(CX:CXT)(P:Program)(w:World)(K:PySem.W.Frag)(mg:Str→Option Value)(base:Heap)(N:List Str)(qual:Str)(scope:Scope)(f:Addr)(cd:Value)(A:Around)(outer:List Env)(s:Shared)(H:Hp)(E:XK):Cx where
  prog:=P
  w:=w
  K:=K
  mg:=mg
  base:=base
  A:=A.deeper (envOfC qual scope s.heap.objs.size f cd)
  N:=N
  s₀:=s
  H₀:=H
  env:=envOfC qual scope s.heap.objs.size f cd
  outer:=outer
  stack:=envOfC qual scope s.heap.objs.size f cd::outer
  ex:=[]
  calm:=true
  fn:=fun _=>true
  pn:=[]
  xe:=fun e s'=>wpAny (model P w) (A.deeper (envOfC qual scope s.heap.objs.size f cd)) (leaving (envOfC qual scope s.heap.objs.size f cd) e) (fun _ s''=>CX outer H s E e s'') (fun e' s''=>CX outer H s E e' s'') s'
theorem Ul{sc:Scope}{n:Nat}{x:Str}(h:sc.names.lookup x=some .cell):∃ c,(cellsFrom n sc.names []).lookup x=some c:=by
  have q:=PySem.W.cellsFrom_some sc.names n [] (.inl h)
  exact Option.isSome_iff_exists.mp q
theorem Qv{CX:CXT}{P:Program}{w:World}{K:PySem.W.Frag}{mg:Str→Option Value}{base:Heap}{N ps:List Str}{qual:Str}{scope:Scope}{f:Addr}{cd:Value}{A:Around}{outer:List Env}{s s1:Shared}{H:Hp}{E:XK}{us:List Value}{vs:List V}
    (S:FnScope N ps scope) (hd:A.handled=none) (e0:Env0 P w K mg base A outer s H) (hl:vs.length=ps.length) (r:Vals vs us)
    (x:InCallC s s.heap.objs.size (bindL (envOfC qual scope s.heap.objs.size f cd).kindOf (ps.zip us) fun _=>none) (cellsFrom (s.heap.objs.size+1) scope.names []) (bindC (envOfC qual scope s.heap.objs.size f cd).kindOf (ps.zip us) fun _=>none) s1) :
    Inv (Sn CX P w K mg base N qual scope f cd A outer s H E) [] (start N vs) H s1:=by
  have hpl:ps.length≤N.length:=by have:=congrArg List.length S.pre;rw[List.length_take] at this;omega
  obtain ⟨h1,tk,rfl,hk⟩:=x.done
  have noA:∀ b:Addr,b∉(Sn CX P w K mg base N qual scope f cd A outer s H E).ex:=fun b z=>absurd (show b∈([]:List Addr) from z) (by simp)
  refine ⟨⟨e0.mod,S.kind,rfl,rfl,Nat.le_refl _,fun y z c h1 h2=>?_,fun y hy=>?_,fun y c _ h=>?_,fun _=>hd,Around.frames_deeper e0.frames,.inr ⟨rfl,rfl⟩,fun b z=>absurd z (noA b),e0.bs,e0.bsz,fun b _ _=>noA b,fun b z=>absurd z (noA b),e0.funs,e0.frf⟩,
    rfl,e0.bare,Un.kept hk,⟨_,x.toInCall.ns,fun i y v h1 h2 h3=>?_⟩,fun y c h=>⟨_,x.cell y c h⟩,e0.hok.fresh (Nat.le_refl _),fun y c h=>?_,fun p hp=>absurd (show p∈([]:List (Addr×Obj)) from hp) (by simp),e0.hok.kept hk,?_⟩
  · exact name_of_addr x.apart (PySem.mem_of_lookup h1) (PySem.mem_of_lookup h2)
  · have hy:scope.names.lookup y=some .cell∨scope.names.lookup y=some .free:=hy
    rcases hy with hy | hy
    · exact Ul hy
    · exact absurd rfl (S.nofree _ (PySem.mem_of_lookup hy))
  · exact Nat.le_of_lt (x.above y c (PySem.mem_of_lookup h))
  · have hi:i < vs.length:=by
      unfold start at h2
      by_cases hi:i < vs.length
      · exact hi
      · rw[List.getElem?_append_right (by simpa using hi)] at h2
        rw[List.getElem?_replicate] at h2
        split at h2 <;> cases h2
    have ha:vs[i]? = some v:=by
      unfold start at h2
      rw[List.getElem?_append_left (by simpa using hi),List.getElem?_map] at h2
      cases e:vs[i]? with
      | none=>rw[e] at h2;cases h2
      | some a=>rw[e] at h2;cases h2;rfl
    obtain ⟨u,hu,rv⟩:=r.get ha
    have hp:ps[i]? = some y:=by
      rw[← S.pre,List.getElem?_take_of_lt (by omega)];exact h1
    have ndP:ps.Nodup:=by rw[← S.pre];exact S.nd.sublist (List.take_sublist _ _)
    refine ⟨u,rv,?_⟩
    rcases S.par y (List.mem_of_getElem? hp) with k | k
    · exact .inl ⟨k,Qz ndP hp hu k⟩
    · obtain ⟨c,e⟩:=Ul (n:=s.heap.objs.size+1) k
      refine .inr ⟨.inl k,c,e,?_⟩
      have q:=x.cell y c e
      rw[Qi ndP hp hu (by show scope.names.lookup y≠_;rw[k];decide)] at q
      exact q
  · exact e0.hok.fresh (Nat.le_of_lt (x.above y c (PySem.mem_of_lookup h)))
  · unfold start
    show _=N.length
    rw[List.length_append,List.length_map,List.length_replicate]
    omega
theorem Ako{CX:CXT}{P:Program}{w:World}{K:PySem.W.Frag}{mg:Str→Option Value}{base:Heap}{k:Nat}{f:Addr}{name qual:Str}{params:Arguments}{body:List Stmt}{scope:Scope}{dV kV doc pm cdv ct oc:Value}{an od:Option Addr}
    {osl:Array (Option Value)} {N ps:List Str} {sp:Sp} (lk:K.lookup f=some ⟨oc,od,.func (PySem.W.fnOf name qual params body scope dV kV doc pm an cdv ct),osl⟩) (hcd:PySem.W.codeIn K cdv qual=true) (S:FnScope N ps scope)
    (len:∀ vs H Q E,sp vs H Q E→vs.length=ps.length)
    (hbody:∀ (A:Around) (outer:List Env) (s:Shared) (H:Hp) (vs:List V) (Q:VK) (E:XK),Room k (A.deeper (envOfC qual scope s.heap.objs.size f cdv))→sp vs H Q E →
      ∃ t,PSs (Sn CX P w K mg base N qual scope f cdv A outer s H E) body t∧t { nx:=fun _ H'=>Q .non H',rt:=Q } (start N vs) H) :
    FnOk P w K mg base CX (k+1) f (PySem.W.fnOf name qual params body scope dV kV doc pm an cdv ct) ps sp:=by
  refine ⟨len,fun A outer s H args us vs Q E hr e0 hb r hsp=>?_⟩
  have hl:=len _ _ _ _ hsp
  have KX:K.In s.heap:=e0.mod.kin.keeps fun b o e=>(e0.bs b o e).1
  have lim:s.heap.NoLimit:=e0.mod.nolimit.keeps fun b o e=>(e0.bs b o e).1
  have hkind:∀ y∈ps.zip us,scope.names.lookup y.1=some .local∨(scope.names.lookup y.1=some .cell∧((cellsFrom (s.heap.objs.size+1) scope.names []).lookup y.1).isSome=true):=fun ⟨n,v⟩ hy=>by
    rcases S.par n (List.of_mem_zip hy).1 with q | q
    · exact .inl q
    · exact .inr ⟨q,PySem.W.cellsFrom_some _ _ _ (.inl q)⟩
  refine codeAny_call_function hr.depth (KX _ _ lk) rfl S.co S.gen rfl (PySem.W.codeRec_of KX hcd) (hb _ _ _ _ ?_)
  refine wpAny_newFunctionEnv_cells S.kind hkind fun env he s1 x=>?_
  subst he
  refine ⟨lim.keeps x.toInCall.keep,codeAny_func ?_⟩
  obtain ⟨t,ht,hq⟩:=hbody A outer s H vs Q E (hr.deeper _) hsp
  have I:Inv (Sn CX P w K mg base N qual scope f cdv A outer s H E) [] (start N vs) H s1:=Qv S hr.hd e0 hl r x
  refine wpAny_mono (ht [] s1 (start N vs) H _ I hq) (fun fl s' hs=>?_) fun e s' hs=>hs
  have fin:∀ {σ':St} {H':Hp} {v:V} {u:Value},Inv (Sn CX P w K mg base N qual scope f cdv A outer s H E) [] σ' H' s'→RelV v u→Q v H'→CE outer P w H s Q u s':=
    fun {σ' H' v u} J rv q=>⟨v,H',J.os,J.bare,J.base,J.hok,rv,q⟩
  cases fl with
  | ret u=>
    obtain ⟨v,σ',H',J,rv,q⟩:=hs
    exact fin J rv q
  | next=>
    obtain ⟨σ',H',J,q⟩:=hs
    exact fin (v:=V.non) (u:=Value.none) J rfl q
  | brk=>
    obtain ⟨_,_,_,q⟩:=hs
    exact False.elim q
  | cont=>
    obtain ⟨_,_,_,q⟩:=hs
    exact False.elim q
section
variable {X:Cx}{x:Str}{p pos:Pos}{e:Expr}{es:List Expr}{t:TA}{id T:String}{r:List V→Hp→VK→Prop}
noncomputable def tCB(r:List V→Hp→VK→Prop)(t:TA):TE:=fun σ H Q=>t σ H fun vs H1=>r vs H1 Q
theorem Ic(hc:CallR X (.builtin id) r)(hg:Gl X x)(hm:X.mg x=none)(hv:bootBuiltins x=some (.builtin id))(ha:PA X (e::es) t)(hn:x ≠ "__name__" := by decide)(hdb:(x == ("__debug__" : Str))=false:=by decide)
    (he:starEach (e::es) X.env=(false,eval e X.env)::starEach es X.env:=by rfl) (hpl:(backTo pos (starEach es X.env)).any (·.1)=false:=by rfl):PE X (.Call (.Name x p) (e::es) [] pos) (tCB r t):=by
  intro pins s σ H Q I h
  refine wpAny_Call_Name_kw (C6 I hg hm hv ?_ hn hdb)
  exact PyProof.Rows.callWith_builtin1 (thn (ha pos pins s σ H _ I h) fun us s1 zz=>by obtain ⟨vs,H1,I1,r1,q1⟩:=zz;exact hc pins s1 σ H1 vs us Q I1 r1 q1) he hpl
theorem Xt(hc:CallR X (.type T) r)(hg:Gl X x)(hm:X.mg x=none)(hv:bootBuiltins x=some (.type T))(ha:PA X (e::es) t)(hn:x ≠ "__name__" := by decide)(hdb:(x == ("__debug__" : Str))=false:=by decide)
    (he:starEach (e::es) X.env=(false,eval e X.env)::starEach es X.env:=by rfl) (hpl:(backTo pos (starEach es X.env)).any (·.1)=false:=by rfl):PE X (.Call (.Name x p) (e::es) [] pos) (tCB r t):=by
  intro pins s σ H Q I h
  refine wpAny_Call_Name_kw (C6 I hg hm hv ?_ hn hdb)
  exact PyProof.Rows.callWith_type1 (thn (ha pos pins s σ H _ I h) fun us s1 zz=>by obtain ⟨vs,H1,I1,r1,q1⟩:=zz;exact hc pins s1 σ H1 vs us Q I1 r1 q1) he hpl
end
end L2
namespace HT
open PySem PyProof.Rows
section
open PySem.SeqAt
open PySem.AutoSeq1 (wpAny_loadPart')
open PySem.MeetsSeq PySem.MeetsSeq2 PySem.MeetsSeq3
end
section
variable {prog:Program}{w:World}{A:Around}{E:Value→Shared→Prop}{s:Shared}
theorem Afl{t b:Addr}{vs ws:List Value}{Q:Value→Shared→Prop}(ht:IsTup s.heap t vs.toArray)(hb:IsTup s.heap b ws.toArray)(hv:vs≠[])
    (h1:ws=[]→Q (.ref t) s) (h2:ws≠[]→Q (.ref s.heap.objs.size) { s with heap:=s.heap.push { cls:=.type "tuple",data:=.seq (vs++ws).toArray } })
    (hsz:vs.length+ws.length≤sizeLine):wpAny (model prog w) A (binaryOp .Add (.ref t) (.ref b)) Q E s:=by
  obtain ⟨⟨cls,dd,data,sl⟩,ho,hc,n,hd⟩:=id ht
  obtain ⟨⟨cls2,dd2,data2,sl2⟩,ho2,hc2,n2,hd2⟩:=id hb
  simp only at hc hd hc2 hd2
  subst hc hd hc2 hd2
  have e:vs.toArray++ws.toArray=(vs++ws).toArray:=by simp
  by_cases hw:ws=[]
  · exact concat_meets ⟨_,ho,rfl⟩ ⟨_,ho2,rfl⟩ noFill_tuple_add seq_tuple_add PySem.F.slot_tuple_add PySem.F.entry_tuple_add (PySem.F.args_tuple_add_2 _ _)
      (tuple_addW1 t b vs.toArray ws.toArray n n2 dd dd2 sl sl2 (by simpa using hv) (by simp[hw])) ⟨ho,ho2,h1 hw⟩
  · refine concat_meets ⟨_,ho,rfl⟩ ⟨_,ho2,rfl⟩ noFill_tuple_add seq_tuple_add PySem.F.slot_tuple_add PySem.F.entry_tuple_add (PySem.F.args_tuple_add_2 _ _)
      (tuple_addW2 t b vs.toArray ws.toArray n n2 dd dd2 sl sl2 (by simpa using hv) (by simpa using hw) (by rw[List.size_toArray,List.size_toArray];exact hsz)) ⟨ho,ho2,?_⟩
    rw[e]
    exact h2 hw
noncomputable def sIx(n d:Nat):Option Int→Nat
  | none=>d
  | some v=>if v < 0 then (v+(n:Int)).toNat else min v.toNat n
theorem Xm(n d k:Nat):sIx n d (some (k:Int))=min k n:=by
  show (if (k:Int) < 0 then ((k:Int)+(n:Int)).toNat else min (k:Int).toNat n)=min k n
  rw[if_neg (by omega),Int.toNat_natCast]
theorem Ajm(n d:Nat)(hd:d≤n)(o:Option Int):sIx n d o≤n:=by
  cases o with
  | none=>exact hd
  | some v=>
    show (if v < 0 then (v+(n:Int)).toNat else min v.toNat n)≤n
    by_cases hv:v < 0
    · rw[if_pos hv];omega
    · rw[if_neg hv];exact Nat.min_le_right _ _
theorem Xg(v:Int)(n d:Nat):(if v < 0 then max (v+(n:Int)) 0 else min v (n:Int))=((sIx n d (some v):Nat):Int):=by
  show (if v < 0 then max (v+(n:Int)) 0 else min v (n:Int))=(((if v < 0 then (v+(n:Int)).toNat else min v.toNat n):Nat):Int)
  by_cases hv:v < 0
  · simp only[if_pos hv];omega
  · simp only[if_neg hv];omega
theorem Vs(lo hi:Option Int)(n:Nat):Builtin.Slice.sliceAdjust lo hi 1 (n:Int)=(((sIx n 0 lo:Nat):Int),((sIx n n hi:Nat):Int)):=by
  have h1:¬ ((1:Int) < 0):=by omega
  unfold Builtin.Slice.sliceAdjust
  simp only[h1,if_false]
  refine Prod.ext ?_ ?_
  · cases lo with
    | none=>rfl
    | some v=>exact Xg v n 0
  · cases hi with
    | none=>rfl
    | some v=>exact Xg v n n
theorem V5(i j:Nat):Builtin.Slice.slicePlaces (i:Int) (j:Int) 1=j - i:=by
  unfold Builtin.Slice.slicePlaces
  have h1:(1:Int) > 0:=by omega
  simp only[h1,if_true,Int.ediv_one]
  split <;> omega
theorem Nt{v:Value}{o:Option Int}{Q:Option Int→Shared→Prop}(p:IsPart v o)(h:Q o s):wpAny (model prog w) A (Builtin.Slice.slicePartIndex v) Q E s:=by
  cases p with
  | none=>exact slicePart_none h
  | int i t=>exact slicePart_int h
theorem Lb{sl:Addr}{vl vu:Value}{lo hi:Option Int}{n:Nat}{Q:Int×Int×Nat→Shared→Prop}(hs:s.heap.IsSliceOf sl vl vu .none)(pl:IsPart vl lo)(pu:IsPart vu hi)
    (h:Q (((sIx n 0 lo:Nat):Int),1,sIx n n hi - sIx n 0 lo) s):wpAny (model prog w) A (Builtin.Slice.sliceApplied (.ref sl) (pure (n:Int))) Q E s:=by
  obtain ⟨os,hos,hcs,hds⟩:=id hs
  unfold Builtin.Slice.sliceApplied Builtin.Slice.sliceFields
  refine wpAny_bind (wpAny_bind (wpAny_field hos hds (x:=vl) rfl (wpAny_bind (wpAny_field hos hds (x:=vu) rfl (wpAny_bind (wpAny_field hos hds (x:=.none) rfl (wpAny_pure ?_)))))))
  refine wpAny_bind (slicePart_none ?_)
  show wpAny _ _ (if ((1:Int) == 0)=true then _ else _) _ _ s
  rw[if_neg (by decide)]
  refine wpAny_bind (Nt pl (wpAny_bind (Nt pu (wpAny_bind (wpAny_pure ?_)))))
  show wpAny _ _ (match Builtin.Slice.sliceAdjust lo hi 1 (n:Int) with | (lo,hi)=>pure (lo,(1:Int),Builtin.Slice.slicePlaces lo hi 1)) _ _ s
  rw[Vs lo hi n]
  show wpAny _ _ (pure (((sIx n 0 lo:Nat):Int),(1:Int),Builtin.Slice.slicePlaces ((sIx n 0 lo:Nat):Int) ((sIx n n hi:Nat):Int) 1)) _ _ s
  rw[V5]
  exact wpAny_pure h
theorem Ach(xs:Array Value)(i k:Nat):((List.range k).filterMap fun (m:Nat)=>xs[((i:Int)+(m:Int) * 1).toNat]?).toArray=((xs.toList.drop i).take k).toArray:=by
  have e:(fun (m:Nat)=>xs[((i:Int)+(m:Int) * 1).toNat]?)=fun m=>xs[i+m]?:=by
    funext m
    have:((i:Int)+(m:Int) * 1).toNat=i+m:=by omega
    rw[this]
  rw[e]
  have:=pick_run xs i k
  rw[List.filterMap_map] at this
  have e2:((fun x=>xs[x]?)∘fun x=>i+x)=fun m=>xs[i+m]?:=rfl
  rw[e2] at this
  rw[this]
theorem K5{t sl:Addr}{items:Array Value}{vl vu:Value}{lo hi:Option Int}{Q:Value→Shared→Prop}(ht:IsTup s.heap t items)(hs:s.heap.IsSliceOf sl vl vu .none)(pl:IsPart vl lo)(pu:IsPart vu hi)
    (hw:¬ (sIx items.size 0 lo=0∧sIx items.size items.size hi=items.size))
    (h:Q (.ref s.heap.objs.size) { s with heap:=s.heap.push { cls:=.type "tuple",data:=.seq ((items.toList.drop (sIx items.size 0 lo)).take (sIx items.size items.size hi - sIx items.size 0 lo)).toArray } })
    (hsz:items.size≤sizeLine):wpAny (model prog w) A (getItem (.ref t) (.ref sl)) Q E s:=by
  have htake:sizeOk (.seq ((items.toList.drop (sIx items.size 0 lo)).take (sIx items.size items.size hi - sIx items.size 0 lo)).toArray):=by
    show ((items.toList.drop (sIx items.size 0 lo)).take (sIx items.size items.size hi - sIx items.size 0 lo)).toArray.size≤sizeLine
    rw[List.size_toArray,List.length_take,List.length_drop,Array.length_toList]
    omega
  have hj:sIx items.size items.size hi≤items.size:=Ajm _ _ (Nat.le_refl _) hi
  obtain ⟨os,hos,hcs,hds⟩:=id hs
  have hTs:s.TypeIs (.ref sl) "slice" := ⟨os,hos,hcs⟩
  unfold getItem
  try with_reducible refine wpAny_holding ?_
  first | refine wpAny_bind (wpAny_pure ?_) | skip
  refine wpAny_bind (wpAny_sequenceKey ht.typeIs (by decide) ?_)
  refine wpAny_bind (wpAny_callSpecial?_slot (name:=Str.ofString "__getitem__") ht.typeIs PyProof.Rows.slot_tuple_getitem
    (wpAny_call_entry PyProof.Rows.slot_tuple_getitem ht.typeIs entry_tuple_getitem ?_ (args_tuple_getitem _ _)))
  show wpAny _ _ (Builtin.Tuple.tupleItemsOf (.ref t) >>= _) _ _ s
  refine wpAny_bind (tupleItemsOf_ ht ?_)
  refine wpAny_bind (wpAny_typeOf hTs ?_)
  rw[if_pos (by decide)]
  refine wpAny_bind (Lb hs pl pu ?_)
  have hno:¬ ((((sIx items.size 0 lo:Nat):Int) == 0&&(1:Int) == 1&&(sIx items.size items.size hi - sIx items.size 0 lo) == items.size)=true):=by
    intro q
    rw[Bool.and_eq_true,Bool.and_eq_true] at q
    have q1:((sIx items.size 0 lo:Nat):Int)=0:=eq_of_beq q.1.1
    have q2:sIx items.size items.size hi - sIx items.size 0 lo=items.size:=eq_of_beq q.2
    exact hw ⟨by omega,by omega⟩
  show wpAny _ _ (if (((sIx items.size 0 lo:Nat):Int) == 0&&(1:Int) == 1&&(sIx items.size items.size hi - sIx items.size 0 lo) == items.size)=true then _ else _) _ _ s
  rw[if_neg hno,Ach]
  first
    | exact wpAny_bind (m:=Builtin.Tuple.tupleExact _) (wpAny_newObj_type (wpAny_pure ⟨_,rfl,wpAny_pure h⟩) htake)
    | exact wpAny_bind (m:=Builtin.Tuple.tupleExact _) (wpAny_newObj_type (wpAny_bind (wpAny_pure (wpAny_pure ⟨_,rfl,wpAny_pure h⟩))) htake)
    | exact wpAny_bind (wpAny_bind (m:=Builtin.Tuple.tupleExact _) (wpAny_newObj_type (wpAny_pure (wpAny_pure ⟨_,rfl,wpAny_pure h⟩)) htake))
    | exact wpAny_bind (wpAny_bind (m:=Builtin.Tuple.tupleExact _) (wpAny_newObj_type (wpAny_pure ⟨_,rfl,wpAny_pure h⟩) htake))
end
end HT
namespace L2
open PySem PySem.Spec PyProof.Rows
abbrev TO:=St→Hp→(Option Int→Hp→Prop)→Prop
noncomputable def PO(X:Cx)(e:Option Expr)(t:TO):Prop:=
  ∀ (pins:List (Addr×Obj)) (s:Shared) (σ:St) (H:Hp) (Q:Option Int→Hp→Prop),Inv X pins σ H s→t σ H Q →
    wpAny (model X.prog X.w) X.A (evalPart e X.env) (fun u s'=>∃ o H',Inv X pins σ H' s'∧IsPart u o∧Q o H') X.xe s
noncomputable def Ae1:TO:=fun _ H Q=>Q none H
noncomputable def Aku(t:TE):TO:=fun σ H Q=>t σ H fun x H1=>∃ i,x = .int i∧Q (some i) H1
theorem G7{ns:List Int}:∀ {us:List Value},Vals (ns.map V.int) us→IntsAre us ns:=by
  induction ns with
  | nil=>intro us r;rw[List.map_nil] at r;cases r;exact .nil
  | cons n ns ih=>
    intro us r
    rw[List.map_cons] at r
    cases r with
    | cons r1 r2=>
      obtain ⟨t,e⟩:=r1
      subst e
      exact .cons n t (ih r2)
section
variable {X:Cx}{e:Expr}{te:TE}{lo hi:Option Expr}{tl th:TO}{pos p2:Pos}
theorem Agb:PO X none Ae1:=by
  intro pins s σ H Q I h
  rw[evalPart_none]
  exact wpAny_pure ⟨none,H,I,.none,h⟩
theorem Afj(h:PE X e te):PO X (some e) (Aku te):=by
  intro pins s σ H Q I hw
  rw[evalPart_some]
  refine thn (h pins s σ H _ I hw) fun u s1 zz=>?_
  obtain ⟨x,H1,I1,r1,q1⟩:=zz
  obtain ⟨i,rfl,q⟩:=q1
  obtain ⟨t,rfl⟩:=r1
  exact ⟨some i,H1,I1,.int i t,q⟩
noncomputable def SlR(X:Cx)(r:V→Option Int→Option Int→Hp→VK→Prop):Prop:=
  ∀ (pins:List (Addr×Obj)) (s:Shared) (σ:St) (H:Hp) (x:V) (v vl vu:Value) (lo hi:Option Int) (sl:Addr) (Q:VK),Inv X pins σ H s→RelV x v→s.heap.IsSliceOf sl vl vu .none→IsPart vl lo→IsPart vu hi→r x lo hi H Q →
    ∃ T id,typeLookup (.type T) "__getitem__" = pure (some (.builtin id))∧s.TypeIs v T∧wpAny (model X.prog X.w) X.A (getItem v (.ref sl)) (EP X pins σ Q) X.xe s
theorem SlR.or{r r':V→Option Int→Option Int→Hp→VK→Prop}(h:SlR X r)(h':SlR X r'):SlR X (fun x lo hi H Q=>r x lo hi H Q∨r' x lo hi H Q):=by
  intro pins s σ H x v vl vu lo hi sl Q I rx hs pl pu q
  rcases q with q | q
  · exact h pins s σ H x v vl vu lo hi sl Q I rx hs pl pu q
  · exact h' pins s σ H x v vl vu lo hi sl Q I rx hs pl pu q
noncomputable def tSl(r:V→Option Int→Option Int→Hp→VK→Prop)(te:TE)(tl th:TO):TE:=fun σ H Q=>te σ H fun x H1=>tl σ H1 fun l H2=>th σ H2 fun u H3=>r x l u H3 Q
theorem Abd{r:V→Option Int→Option Int→Hp→VK→Prop}(hr:SlR X r)(he:PE X e te)(hl:PO X lo tl)(hu:PO X hi th):PE X (.Subscript e (.Slice lo hi none p2) pos) (tSl r te tl th):=by
  intro pins s σ H Q I h
  refine Subscript_ (thn (he pins s σ H _ I h) fun v s1 zz=>?_)
  obtain ⟨x,H1,I1,r1,q1⟩:=zz
  refine wpAny_Slice (thn (hl pins s1 σ H1 _ I1 q1) fun vl s2 ⟨l,H2,I2,pl,q2⟩=>thn (hu pins s2 σ H2 _ I2 q2) fun vu s3 zz=>?_)
  obtain ⟨u,H3,I3,pu,q3⟩:=zz
  rw[evalPart_none]
  refine wpAny_pure ?_
  have I4:Inv X pins σ H3 { s3 with heap:=s3.heap.push { cls:=.type "slice",data:=.fields #[vl,vu,.none] } }:=I3.kept (t':=s3.toks) fun b ob q=>Heap.get?_push_of_some _ q
  obtain ⟨T,id,hT,ht,hg⟩:=hr pins { s3 with heap:=s3.heap.push { cls:=.type "slice",data:=.fields #[vl,vu,.none] } } σ H3 x v vl vu l u s3.heap.objs.size Q I4 r1 (Heap.IsSliceOf.new ..) pl pu q3
  show wpAny (model X.prog X.w) X.A (subscriptTail e (.Slice lo hi none p2) v (.ref s3.heap.objs.size)) (EP X pins σ Q) X.xe { s3 with heap:=s3.heap.push { cls:=.type "slice",data:=.fields #[vl,vu,.none] } }
  exact tail_any (ops:=[.ref s3.heap.objs.size,v]) ht hT hg (by with_unfolding_all rfl)
noncomputable def Us(xs:List V)(lo hi:Option Int):List V:=(xs.drop (HT.sIx xs.length 0 lo)).take (HT.sIx xs.length xs.length hi - HT.sIx xs.length 0 lo)
theorem Mb(xs:List V)(lo hi:Option Int):(Us xs lo hi).length≤xs.length:=by
  unfold Us
  rw[List.length_take,List.length_drop]
  omega
noncomputable def Al5(K:PySem.W.Frag):V→Option Int→Option Int→Hp→VK→Prop:=fun x lo hi H Q=>∃ a xs,x = .ref a∧SqT K H a xs ∧
  ¬ (HT.sIx xs.length 0 lo=0∧HT.sIx xs.length xs.length hi=xs.length)∧∀ p,H p=none→Q (.ref p) (upd H p (.tup (Us xs lo hi)))
theorem Aiz:SlR X (Al5 X.K):=by
  intro pins s σ H x v vl vu lo hi sl Q I rx hs pl pu h
  obtain ⟨a,xs,rfl,hx,hw,q⟩:=h
  cases rx
  obtain ⟨its,r,ht,hz⟩:=I.tuple hx
  have hlen:its.toArray.size=xs.length:=by rw[List.size_toArray];exact r.length.symm
  refine ⟨"tuple",_,PyProof.Rows.slot_tuple_getitem.lookup,ht.typeIs,?_⟩
  refine HT.K5 ht hs pl pu (by rw[hlen];exact hw) ?_ (by rw[hlen];exact hz)
  rw[hlen]
  refine ⟨.ref s.heap.objs.size,_,I.laid (t':=s.toks) (o:=.tup (Us xs lo hi)) (fun b ob q=>Heap.get?_push_of_some _ q) (Nat.le_refl _) ?_,rfl,q _ (I.hok.fresh (Nat.le_refl _))⟩
  exact ⟨Nat.le_trans (Mb xs lo hi) hz,_,(r.drop (HT.sIx xs.length 0 lo)).take (HT.sIx xs.length xs.length hi - HT.sIx xs.length 0 lo),TupN.new _ _⟩
noncomputable def Ahd(K:PySem.W.Frag):R2:=fun x y H Q=>∃ a b xs ys,x = .ref a∧y = .ref b∧SqT K H a xs∧SqT K H b ys∧xs≠[]∧xs.length+ys.length≤sizeLine ∧
  (ys=[]→Q (.ref a) H)∧(ys≠[]→∀ p,H p=none→Q (.ref p) (upd H p (.tup (xs++ys))))
theorem Vals.nil_iff{xs:List V}{us:List Value}(r:Vals xs us):us=[]↔xs=[]:=by
  cases r with
  | nil=>simp
  | cons _ _=>simp
theorem Afp:OpR X (binaryOp .Add) (Ahd X.K):=by
  intro pins s σ H x y v u Q I rx ry h
  obtain ⟨a,b,xs,ys,rfl,rfl,ha,hb,hx,hz,q1,q2⟩:=h
  cases rx
  cases ry
  obtain ⟨its,r1,p1,_⟩:=I.tuple ha
  obtain ⟨its2,r2,p2,_⟩:=I.tuple hb
  refine HT.Afl p1 p2 (fun z=>hx (r1.nil_iff.mp z)) (fun z=>⟨.ref a,H,I,rfl,q1 (r2.nil_iff.mp z)⟩) (fun z=>?_) (by rw[← r1.length,← r2.length];exact hz)
  refine ⟨.ref s.heap.objs.size,_,I.laid (t':=s.toks) (o:=.tup (xs++ys)) (fun b ob q=>Heap.get?_push_of_some _ q) (Nat.le_refl _) ?_,rfl,q2 (fun w=>z (r2.nil_iff.mpr w)) _ (I.hok.fresh (Nat.le_refl _))⟩
  exact ⟨by rw[List.length_append];exact hz,_,r1.append r2,TupN.new _ _⟩
end
noncomputable def ixN(n:Nat)(i:Int):Option Nat:=if 0≤i then (if i < n then some i.toNat else none) else if -(n:Int)≤i then some (i+n).toNat else none
noncomputable def atI{α:Type}(xs:List α)(i:Int):Option α:=(ixN xs.length i).bind fun j=>xs[j]?
theorem Ws{n:Nat}{i:Int}{j:Nat}(h:ixN n i=some j):seqIndex? i n=some j∧j < n∧-(n:Int)≤i∧i < n:=by
  unfold ixN at h
  by_cases h0:0≤i
  · rw[if_pos h0] at h
    by_cases h1:i < n
    · rw[if_pos h1] at h
      have e:i.toNat=j:=Option.some.inj h
      exact ⟨by rw[seqIndex_of h0 h1,e],by omega,by omega,h1⟩
    · rw[if_neg h1] at h;cases h
  · rw[if_neg h0] at h
    by_cases h1:-(n:Int)≤i
    · rw[if_pos h1] at h
      have e:(i+n).toNat=j:=Option.some.inj h
      exact ⟨by rw[seqIndex_neg (by omega) h1,e],by omega,h1,by omega⟩
    · rw[if_neg h1] at h;cases h
theorem Sf{α:Type}{xs:List α}{i:Int}{v:α}(h:atI xs i=some v):∃ j,seqIndex? i xs.length=some j∧xs[j]? = some v∧j < xs.length∧-(xs.length:Int)≤i∧i < xs.length:=by
  unfold atI at h
  cases e:ixN xs.length i with
  | none=>rw[e] at h;cases h
  | some j=>
    rw[e] at h
    obtain ⟨h1,h2,h3,h4⟩:=Ws e
    exact ⟨j,h1,h,h2,h3,h4⟩
noncomputable def Wz(b:Expr):Prop:=∀ o i,subscripted b false o i=operate [o,i] (getItem o i)
noncomputable def IxR(X:Cx)(r:R2):Prop:=
  ∀ (value slice:Expr) (pins:List (Addr×Obj)) (s:Shared) (σ:St) (H:Hp) (x y:V) (v u:Value) (Q:VK),Inv X pins σ H s→RelV x v→RelV y u→r x y H Q →
    subscripted slice false v u=operate [v,u] (getItem v u)→wpAny (model X.prog X.w) X.A (subscriptTail value slice v u) (EP X pins σ Q) X.xe s
noncomputable def MtR(X:Cx)(id:String)(r:V→List V→Hp→VK→Prop):Prop:=
  ∀ (pins:List (Addr×Obj)) (s:Shared) (σ:St) (H:Hp) (x:V) (xs:List V) (v:Value) (us:List Value) (Q:VK),Inv X pins σ H s→RelV x v→Vals xs us→r x xs H Q →
    wpAny (model X.prog X.w) X.A (call (.builtin id) (v::us)) (EP X pins σ Q) X.xe s
section
variable {X:Cx}{a b:Expr}{ta tb:TE}{pos:Pos}
theorem IxR.or{r r':R2}(h:IxR X r)(h':IxR X r'):IxR X (fun x y H Q=>r x y H Q∨r' x y H Q):=by
  intro value slice pins s σ H x y v u Q I rx ry q hs
  rcases q with q | q
  · exact h value slice pins s σ H x y v u Q I rx ry q hs
  · exact h' value slice pins s σ H x y v u Q I rx ry q hs
theorem MtR.or{id:String}{r r':V→List V→Hp→VK→Prop}(h:MtR X id r)(h':MtR X id r'):MtR X id (fun x xs H Q=>r x xs H Q∨r' x xs H Q):=by
  intro pins s σ H x xs v us Q I rx rs q
  rcases q with q | q
  · exact h pins s σ H x xs v us Q I rx rs q
  · exact h' pins s σ H x xs v us Q I rx rs q
theorem Alx{r:R2}(hr:IxR X r)(ha:PE X a ta)(hb:PE X b tb)(hs:Wz b):PE X (.Subscript a b pos) (tOp r ta tb):=by
  intro pins s σ H Q I h
  exact Subscript_ (Aim ha hb I h fun v u s2 x y H2 I2 rx ry q=>hr a b pins s2 σ H2 x y v u Q I2 rx ry q (hs _ _))
noncomputable def Ali(K:PySem.W.Frag):R2:=fun x y H Q=>∃ p xs i v,x = .ref p∧y = .int i∧SqL K H p xs∧atI xs i=some v∧Q v H
noncomputable def Akr(K:PySem.W.Frag):R2:=fun x y H Q=>∃ p xs i v,x = .ref p∧y = .int i∧SqT K H p xs∧atI xs i=some v∧Q v H
noncomputable def Ak7:R2:=fun x y H Q=>∃ z i c,x = .str z∧y = .int i∧z.length≤sizeLine∧atI z.cps.toList i=some c∧Q (.str ⟨#[c]⟩) H
theorem Agj:IxR X (Ali X.K):=by
  intro value slice pins s σ H x y v u Q I rx ry h hs
  obtain ⟨p,xs,i,z,rfl,rfl,hq,he,q⟩:=h
  cases rx
  obtain ⟨t,rfl⟩:=ry
  obtain ⟨its,r,pl,hz⟩:=I.list hq
  obtain ⟨j,h1,h2,h3,h4,h5⟩:=Sf he
  obtain ⟨w,ew,rw'⟩:=r.get h2
  have hl:=r.length
  have hn:=Ll
  have fin:EP X pins σ Q w s:=⟨z,H,I,rw',q⟩
  by_cases h0:0≤i
  · have hj:i.toNat=j:=by
      rw[seqIndex_of h0 h5] at h1
      exact Option.some.inj h1
    exact item_listR pl.isList h0 (by omega) (by rw[hj];simpa using ew) fin hs
  · have hj:(i+(its.toArray.size:Int)).toNat=j:=by
      rw[seqIndex_neg (by omega) h4] at h1
      rw[List.size_toArray,← hl]
      exact Option.some.inj h1
    exact subscriptTail_builtinR (x:=w) pl.isList.typeIs slot_list_getitem.lookup
      (wpAny_getItem_list_neg (Q:=fun r s'=>r=w∧EP X pins σ Q r s') pl.isList (by omega) (by rw[List.size_toArray] <;> omega) (by omega) (by rw[hj];simpa using ew) ⟨rfl,fin⟩) hs
theorem Aik:IxR X (Akr X.K):=by
  intro value slice pins s σ H x y v u Q I rx ry h hs
  obtain ⟨p,xs,i,z,rfl,rfl,hq,he,q⟩:=h
  cases rx
  obtain ⟨t,rfl⟩:=ry
  obtain ⟨its,r,pl,hz⟩:=I.tuple hq
  obtain ⟨j,h1,h2,h3,h4,h5⟩:=Sf he
  obtain ⟨w,ew,rw'⟩:=r.get h2
  have hl:=r.length
  have hn:=Ll
  have fin:EP X pins σ Q w s:=⟨z,H,I,rw',q⟩
  exact subscriptTail_builtinR (x:=w) pl.typeIs slot_tuple_getitem.lookup
    (getItem_tuple (j:=j) (Q:=fun r s'=>r=w∧EP X pins σ Q r s') pl (by omega) (by omega) (by rw[List.size_toArray,← hl];exact h1) (by simpa using ew) ⟨rfl,fin⟩) hs
theorem Ahp:IxR X Ak7:=by
  intro value slice pins s σ H x y v u Q I rx ry h hs
  obtain ⟨z,i,c,rfl,rfl,hz,he,q⟩:=h
  obtain ⟨t,rfl⟩:=rx
  obtain ⟨t',rfl⟩:=ry
  obtain ⟨j,h1,h2,h3,h4,h5⟩:=Sf he
  have hl:z.cps.toList.length=z.length:=by simp[Str.length]
  rw[hl] at h1 h4 h5
  have hn:=Ll
  exact tail_any (typeIs_str s z t) slot_str_getitem.lookup (getItem_str (c:=c) (by
    have e1:decide (i < -(2 ^ 63:Int))=false:=decide_eq_false (by omega)
    have e2:decide (i ≥ 2 ^ 63)=false:=decide_eq_false (by omega)
    rw[e1,e2,Bool.or_false]) (by rw[h1];simpa using h2) ⟨.str ⟨#[c]⟩,H,I.tok _,⟨_,rfl⟩,q⟩) hs
noncomputable def rIx(K:PySem.W.Frag):R2:=fun x y H Q=>Ali K x y H Q∨Akr K x y H Q∨Ak7 x y H Q
theorem Bg:IxR X (rIx X.K):=Agj.or (Aik.or Ahp)
theorem U1(its:List Value)(n j:Nat)(u:Value):Obj.mapSeq (·.setIfInBounds j u) { cls:=.type "list",data:=.seq its.toArray n } = { cls:=.type "list",data:=.seq (its.set j u).toArray n }:=by
  simp[Obj.mapSeq]
theorem Inv.lst{pins:List (Addr×Obj)}{σ:St}{H:Hp}{s:Shared}{p:Addr}{xs:List V}(I:Inv X pins σ H s)(h:H p=some (.lst xs)) :
    ∃ (its:List Value) (n:Nat),Vals xs its∧s.heap.get? p=some { cls:=.type "list",data:=.seq its.toArray n }∧xs.length≤sizeLine:=by
  obtain ⟨z,its,n,r,e⟩:=I.hok p _ h
  exact ⟨its,n,r,e,z⟩
theorem Inv.lstUpd{pins:List (Addr×Obj)}{σ:St}{H:Hp}{s:Shared}{p:Addr}{xs ys:List V}{its its':List Value}{n n':Nat}{f:Obj→Obj}(I:Inv X pins σ H s)(h:H p=some (.lst xs))
    (ho:s.heap.get? p=some { cls:=.type "list",data:=.seq its.toArray n }) (hf:f { cls:=.type "list",data:=.seq its.toArray n } = { cls:=.type "list",data:=.seq its'.toArray n' }) (r:Vals ys its') (hz:ys.length≤sizeLine) (t:Nat) :
    Inv X pins σ (upd H p (.lst ys)) { s with heap:=s.heap.update p f,toks:=t }:=by
  have e:(s.heap.update p f).get? p=some { cls:=.type "list",data:=.seq its'.toArray n' }:=by
    rw[Heap.get?_update_self f ho (by rw[hf] <;> rfl),hf]
  refine I.write (x:=p) (e:=p) (by rw[h];trivial) (.inl rfl) (fun b u hb q=>(Heap.get?_update_other _ _ (Ne.symm hb)).trans q) ⟨_,e⟩ ?_
  exact ⟨hz,its',n',r,e⟩
noncomputable def Aln:V→V→V→Hp→(Hp→Prop)→Prop:=fun o i v H Q=>∃ p xs k j,o = .ref p∧i = .int k∧H p=some (.lst xs)∧ixN xs.length k=some j∧Q (upd H p (.lst (xs.set j v)))
theorem Ada:Aly X Aln:=by
  intro pins s σ H o i v ov iv u Q I ro ri rv h
  obtain ⟨p,xs,k,j,rfl,rfl,hp,hj,q⟩:=h
  cases ro
  obtain ⟨t,rfl⟩:=ri
  obtain ⟨its,n,r,ho,hz⟩:=I.lst hp
  obtain ⟨h1,h2,h3,h4⟩:=Ws hj
  have hl:=r.length
  have hn:=Ll
  have I':Inv X pins σ (upd H p (.lst (xs.set j v))) { s with heap:=s.heap.update p (Obj.mapSeq (·.setIfInBounds j u)) }:=
    I.lstUpd hp ho (U1 its n j u) (r.set rv j) (by rw[List.length_set];exact hz) s.toks
  by_cases h0:0≤k
  · have hk:k.toNat=j:=by
      rw[seqIndex_of h0 h4] at h1
      exact Option.some.inj h1
    exact PySem.W.ki_setAt ho h0 (by omega) (by rw[List.size_toArray,← hl];exact h4) (by rw[hk];exact ⟨_,I',q⟩)
  · have hk:(k+(its.toArray.size:Int)).toNat=j:=by
      rw[seqIndex_neg (by omega) h3] at h1
      rw[List.size_toArray,← hl]
      exact Option.some.inj h1
    exact PySem.W.ki_setBack ho (by omega) (by rw[List.size_toArray,← hl];exact h3) (by omega) (by rw[hk];exact ⟨_,I',q⟩)
theorem Xd(i:Int)(n:Nat):max 0 (min (if i < 0 then i+(n:Int) else i) (n:Int))=(((if i < 0 then (i+(n:Int)).toNat else min i.toNat n):Nat):Int):=by
  by_cases h:i < 0
  · have hm:i+(n:Int)≤n:=by omega
    rw[if_pos h,if_pos h,Int.min_eq_left hm,Int.ofNat_toNat,Int.max_comm]
  · obtain ⟨k,rfl⟩:=Int.eq_ofNat_of_zero_le (Int.not_lt.mp h)
    rw[if_neg h,if_neg h,Int.toNat_natCast]
    rcases Nat.le_total k n with hk | hk
    · rw[Nat.min_eq_left hk,Int.min_eq_left (Int.ofNat_le.mpr hk),Int.max_eq_right (Int.natCast_nonneg k)]
    · rw[Nat.min_eq_right hk,Int.min_eq_right (Int.ofNat_le.mpr hk),Int.max_eq_right (Int.natCast_nonneg n)]
theorem R0(lo hi:Option Int)(n:Nat):(sliceBounds lo hi none n).1=((HT.sIx n 0 lo:Nat):Int)∧(sliceBounds lo hi none n).2.1=((HT.sIx n n hi:Nat):Int)∧(sliceBounds lo hi none n).2.2=1:=by
  refine ⟨?_,?_,rfl⟩
  · cases lo with
    | none=>rfl
    | some i=>exact Xd i n
  · cases hi with
    | none=>rfl
    | some i=>exact Xd i n
theorem Pf(its:List Value)(lo hi:Option Int):slicePick its.toArray lo hi none=((its.drop (HT.sIx its.length 0 lo)).take (HT.sIx its.length its.length hi - HT.sIx its.length 0 lo)).toArray:=by
  obtain ⟨h1,h2,h3⟩:=R0 lo hi its.toArray.size
  unfold slicePick
  rw[h1,h2,h3]
  simp only[sliceRange_one,pick_run,List.size_toArray] <;> rfl
noncomputable def Als(K:PySem.W.Frag):V→Option Int→Option Int→Hp→VK→Prop:=fun x lo hi H Q=>∃ a xs,x = .ref a∧SqL K H a xs∧∀ p,H p=none→Q (.ref p) (upd H p (.lst (Us xs lo hi)))
theorem Af9:SlR X (Als X.K):=by
  intro pins s σ H x v vl vu lo hi sl Q I rx hs pl pu h
  obtain ⟨a,xs,rfl,hx,q⟩:=h
  cases rx
  obtain ⟨its,r,ht,hz⟩:=I.list hx
  have hlen:=r.length
  refine ⟨"list",_,slot_list_getitem.lookup,ht.isList.typeIs,?_⟩
  refine wpAny_getItem_list_slice ht.isList hs pl pu .none (by simp) ?_ (by rw[List.size_toArray] <;> omega)
  rw[Pf,← hlen]
  refine ⟨.ref s.heap.objs.size,_,I.laid (t':=s.toks) (o:=.lst (Us xs lo hi)) (fun b ob q=>Heap.get?_push_of_some _ q) (Nat.le_refl _) ?_,rfl,q _ (I.hok.fresh (Nat.le_refl _))⟩
  exact ⟨Nat.le_trans (Mb xs lo hi) hz,_,0,(r.drop (HT.sIx xs.length 0 lo)).take (HT.sIx xs.length xs.length hi - HT.sIx xs.length 0 lo),Heap.get?_push_size _ rfl⟩
theorem CallR.or{f:Value}{r r':List V→Hp→VK→Prop}(h:CallR X f r)(h':CallR X f r'):CallR X f (fun xs H Q=>r xs H Q∨r' xs H Q):=by
  intro pins s σ H xs us Q I rs q
  rcases q with q | q
  · exact h pins s σ H xs us Q I rs q
  · exact h' pins s σ H xs us Q I rs q
theorem O8:CallR X (.type "tuple") (fun xs H Q=>∃ p ys,xs=[.ref p]∧((SqL X.K H p ys∧∀ l,H l=none→Q (.ref l) (upd H l (.tup ys)))∨(SqT X.K H p ys∧Q (.ref p) H))):=by
  intro pins s σ H xs us Q I r h
  obtain ⟨p,ys,rfl,h⟩:=h
  obtain ⟨u,rfl,rx⟩:=Ii r
  cases rx
  rcases h with ⟨hq,q⟩ | ⟨hq,q⟩
  · obtain ⟨its,r',pl,hz⟩:=I.list hq
    have hlen:=r'.length
    refine call_tuple_list pl.isList (fun h' kp=>?_) (by simp only[List.size_toArray] <;> omega)
    have I1:Inv X pins σ H { s with heap:=h' }:=I.kept (t':=s.toks) kp
    have I2:Inv X pins σ (upd H h'.objs.size (.tup ys)) { s with heap:=h'.push { cls:=.type "tuple",data:=.seq its.toArray } }:=
      I1.laid (t':=s.toks) (fun b o e=>Heap.get?_push_of_some _ e) (Nat.le_refl _) (show ObjOk X.prog X.w _ _ _ (.tup ys) from ⟨hz,its,r',TupN.new _ _⟩)
    exact ⟨.ref h'.objs.size,_,I2,rfl,q _ (I1.hok.fresh (Nat.le_refl _))⟩
  · obtain ⟨its,r',pl,hz⟩:=I.tuple hq
    exact call_tuple_same pl ⟨.ref p,H,I,rfl,q⟩
noncomputable def tyV(K:PySem.W.Frag)(T:String)(x:V)(H:Hp):Prop:=match x with
  | .str _=>T = "str"
  | .int _=>T = "int"
  | .ref p=>(T = "list" ∧ ∃ xs,SqL K H p xs)∨(T = "tuple" ∧ ∃ xs,SqT K H p xs) ∨
      (T = "dict" ∧ ((∃ kvs,H p=some (.dK kvs))∨∃ kvs,H p=some (.dT kvs)))∨(T = "set" ∧ ∃ S n,H p=some (.set S n))
  | _=>False
theorem Aig{pins:List (Addr×Obj)}{σ:St}{H:Hp}{s:Shared}{T:String}{x:V}{v:Value}(I:Inv X pins σ H s)(r:RelV x v)(ty:tyV X.K T x H) :
    s.TypeIs v T∧∀ a,v = .ref a→∃ ob,s.heap.get? a=some ob∧ob.dict=none:=by
  cases x with
  | str z=>
    obtain ⟨t,rfl⟩:=r
    cases (show T = "str" from ty)
    exact ⟨typeIs_str s z t,fun _ e=>nomatch e⟩
  | int i=>
    obtain ⟨t,rfl⟩:=r
    cases (show T = "int" from ty)
    exact ⟨typeIs_int s i t,fun _ e=>nomatch e⟩
  | ref p=>
    cases r
    rcases ty with ⟨rfl,xs,hq⟩ | ⟨rfl,xs,hq⟩ | ⟨rfl,hk⟩ | ⟨rfl,S,n,hk⟩
    · obtain ⟨its,_,pl,_⟩:=I.list hq
      refine ⟨pl.isList.typeIs,fun a e=>?_⟩
      cases e
      obtain ⟨o,n,e,c,hd,_⟩:=pl
      exact ⟨o,e,hd⟩
    · obtain ⟨its,_,⟨o,ho,hc,_⟩,_⟩:=I.tupleN hq
      obtain ⟨h1,h2⟩:=Prod.mk.inj hc
      refine ⟨⟨o,ho,h1⟩,fun a e=>?_⟩
      cases e
      exact ⟨o,ho,h2⟩
    · have z:∃ o,s.heap.get? p=some o∧o.ExactDict:=by
        rcases hk with ⟨kvs,hk⟩ | ⟨kvs,hk⟩
        · obtain ⟨_,_,_,_,o,_,_,e,ex,_⟩:=I.hok p _ hk
          exact ⟨o,e,ex⟩
        · obtain ⟨_,_,_,_,o,_,_,e,ex,_⟩:=I.hok p _ hk
          exact ⟨o,e,ex⟩
      obtain ⟨o,e,ex⟩:=z
      refine ⟨⟨o,e,ex.1⟩,fun a e2=>?_⟩
      cases e2
      exact ⟨o,e,ex.2.1⟩
    · obtain ⟨o,_,_,_,e,ex,_⟩:=I.hok p _ hk
      refine ⟨⟨o,e,ex.1⟩,fun a e2=>?_⟩
      cases e2
      exact ⟨o,e,ex.2.1⟩
  | _=>exact False.elim ty
noncomputable def tBM(K:PySem.W.Frag)(T:String)(r:V→List V→Hp→VK→Prop)(to:TE)(t:TA):TE:=fun σ H Q=>to σ H fun x H1=>tyV K T x H1∧t σ H1 fun xs H2=>r x xs H2 Q
variable {o e:Expr}{es:List Expr}{to:TE}{t:TA}{name:Str}{apos cpos:Pos}{T id:String}{r:V→List V→Hp→VK→Prop}
theorem Akv(pa:PlainAttrs T)(slot:Slot T name id)(hty:typeOf (.builtin id)=pure (.type "method_descriptor"))(hm:MtR X id r)(ho:PE X o to)(ha:PA X (e::es) t)
    (hbase:attributeBase o name X.env (eval o X.env)=eval o X.env:=by rfl)
    (hfew:((backTo cpos (starEach (e::es) X.env)).all (fun x=>!x.1)&&(backToKw cpos (keywordEach [] X.env)).all (fun x=>x.1.isSome)
      && decide ((e::es).length+([]:List Keyword).length+(if ([]:List Keyword).isEmpty then 0 else 1) < 30))=true:=by rfl)
    (hline:(apos.endLine == cpos.line)=true:=by rfl) (hs:starEach (e::es) X.env=(false,eval e X.env)::starEach es X.env:=by rfl) (hplain:(backTo cpos (starEach es X.env)).any (·.1)=false:=by rfl) :
    PE X (.Call (.Attribute o name apos) (e::es) [] cpos) (tBM X.K T r to t):=by
  intro pins s σ H Q I h
  refine wpAny_Call_method_late hbase hfew hline rfl (thn (ho pins s σ H _ I h) fun v s1 zz=>?_)
  obtain ⟨x,H1,I1,r1,ty,q1⟩:=zz
  obtain ⟨h1,h2⟩:=Aig I1 r1 ty
  refine ⟨T,id,pa,slot,hty,h1,h2,?_⟩
  have hA:=ha cpos pins s1 σ H1 _ I1 q1
  rw[hs] at hA ⊢
  refine Calls.callWith_builtin (by show (false || (backTo cpos (starEach es X.env)).any (·.1))=false;rw[hplain] <;> rfl) (Calls.evalArgs_plain ?_)
  exact thn hA fun us s2 zz=>by obtain ⟨vs,H2,I2,r2,q2⟩:=zz;exact hm pins s2 σ H2 x vs v us Q I2 r1 r2 q2
end
noncomputable def MtM(X:Cx)(id:String)(r:V→List V→Hp→VK→Prop):Prop:=
  ∀ (pins:List (Addr×Obj)) (s:Shared) (σ:St) (H:Hp) (x:V) (xs:List V) (v:Value) (us:List Value) (Q:VK),Inv X pins σ H s→RelV x v→Vals xs us→r x xs H Q →
    wpAny (model X.prog X.w) X.A (call (.builtin id) (v::us)) (EP X pins σ Q) X.xe s
theorem Vals.one{x:V}{us:List Value}(h:Vals [x] us):∃ u,us=[u]∧RelV x u:=by
  cases h with
  | cons r t=>cases t;exact ⟨_,rfl,r⟩
theorem Vals.two{x y:V}{us:List Value}(h:Vals [x,y] us):∃ u v,us=[u,v]∧RelV x u∧RelV y v:=by
  cases h with
  | cons r t=>obtain ⟨v,rfl,q⟩:=Vals.one t;exact ⟨_,v,rfl,r,q⟩
theorem Vals.zero:∀ {us:List Value},Vals [] us→us=[]
  | _,.nil=>rfl
theorem Vals.dropLast{xs:List V}{us:List Value}(h:Vals xs us):Vals xs.dropLast us.dropLast:=by
  induction h with
  | nil=>exact .nil
  | cons r t ih=>
    cases t with
    | nil=>exact .nil
    | cons q t'=>exact .cons r ih
theorem Vals.eraseIdx{xs:List V}{us:List Value}(i:Nat)(h:Vals xs us):Vals (xs.eraseIdx i) (us.eraseIdx i):=by
  induction h generalizing i with
  | nil=>exact .nil
  | cons r t ih=>
    cases i with
    | zero=>exact t
    | succ i=>exact .cons r (ih i)
theorem Vals.reverse{xs:List V}{us:List Value}(h:Vals xs us):Vals xs.reverse us.reverse:=by
  induction h with
  | nil=>exact .nil
  | cons r t ih=>rw[List.reverse_cons,List.reverse_cons];exact Vals.append ih (.cons r .nil)
theorem Vals.rep{xs:List V}{us:List Value}(h:Vals xs us):∀ k:Nat,Vals (List.replicate k xs).flatten (List.replicate k us).flatten
  | 0=>.nil
  | k+1=>by
    rw[List.replicate_succ,List.replicate_succ,List.flatten_cons,List.flatten_cons]
    exact Vals.append h (Vals.rep h k)
theorem Qe{α:Type}:∀ (l:List α) (i:Nat),(l.eraseIdx i).length≤l.length
  | [],_=>Nat.le_refl _
  | _::_,0=>Nat.le_succ _
  | _::r,i+1=>Nat.succ_le_succ (Qe r i)
theorem Qb(its:List Value):∀ (k:Nat) (acc:List Value),
    List.foldl (fun x1 x2=>x1++x2) acc.toArray (List.replicate k its.toArray)=(acc++(List.replicate k its).flatten).toArray
  | 0,acc=>by simp
  | k+1,acc=>by
    have e:acc.toArray++its.toArray=(acc++its).toArray:=by simp
    have e2:(acc++its)++(List.replicate k its).flatten=acc++(List.replicate (k+1) its).flatten:=by
      rw[List.replicate_succ,List.flatten_cons,List.append_assoc]
    rw[← e2,← Qb its k (acc++its),← e,List.replicate_succ,List.foldl_cons]
section
variable {X:Cx}{pins:List (Addr×Obj)}{σ:St}{H:Hp}{s:Shared}{l b:Addr}{xs ys zs:List V}
theorem Inv.lset{its its':List Value}{n:Nat}{f:Array Value→Array Value}{t':Nat}(I:Inv X pins σ H s)(hH:H l=some (.lst xs))
    (e:s.heap.get? l=some { cls:=.type "list",data:=.seq its.toArray n }) (hf:f its.toArray=its'.toArray) (hv:Vals ys its') (hz:ys.length≤sizeLine) :
    Inv X pins σ (upd H l (.lst ys)) { s with heap:=s.heap.update l (Obj.mapSeq f),toks:=t' }:=by
  have q:=PySem.IsL.update e f
  rw[hf] at q
  refine I.write (x:=l) (e:=l) (by rw[hH];exact trivial) (.inl rfl) (fun b' u hb hu=>(Heap.get?_update_other s.heap (Obj.mapSeq f) (Ne.symm hb)).trans hu) ⟨_,q⟩ ?_
  exact ⟨hz,its',_,hv,q⟩
theorem Inv.lnew{its:List Value}{t':Nat}(I:Inv X pins σ H s)(hv:Vals ys its)(hz:ys.length≤sizeLine) :
    Inv X pins σ (upd H s.heap.objs.size (.lst ys)) { s with heap:=s.heap.push { cls:=.type "list",data:=.seq its.toArray },toks:=t' }:=
  I.laid (fun _ _ q=>Heap.get?_push_of_some _ q) (Nat.le_refl _) ⟨hz,its,0,hv,Heap.get?_push_size _ rfl⟩
theorem Inv.fresh(I:Inv X pins σ H s):H s.heap.objs.size=none:=I.hok.fresh (Nat.le_refl _)
theorem Inv.lstM(I:Inv X pins σ H s)(hH:H l=some (.lst xs)):xs.length≤sizeLine∧∃ (its:List Value) (n:Nat),Vals xs its∧xs.length=its.length∧s.heap.get? l=some { cls:=.type "list",data:=.seq its.toArray n }:=by
  obtain ⟨z,its,n,r,e⟩:=I.hok l _ hH
  exact ⟨z,its,n,r,r.length,e⟩
theorem Aa6{n:Nat}(h:n≤sizeLine):Builtin.List.listTooLong n=false:=by
  unfold Builtin.List.listTooLong
  exact decide_eq_false (by omega)
end
section
variable {X:Cx}
noncomputable def Wv:V→List V→Hp→VK→Prop:=fun x vs H Q=>∃ l xs y,x = .ref l∧vs=[y]∧H l=some (.lst xs)∧xs.length < sizeLine∧Q .non (upd H l (.lst (xs++[y])))
theorem Gf:MtM X "list.append" Wv:=by
  intro pins s σ H x vs v us Q I rx rv h
  obtain ⟨l,xs,y,rfl,rfl,hH,hz,q⟩:=h
  cases rx
  obtain ⟨u,rfl,ru⟩:=rv.one
  obtain ⟨z,its,n,r,hl,e⟩:=I.lstM hH
  refine call_meets F.slot_list_append ⟨_,e,rfl⟩ F.entry_list_append (F.args_list_append_2 _ _) (PySem.list_append l its.toArray n u (by rw[List.size_toArray];omega)) ⟨e,?_⟩
  refine ⟨.non,_,I.lset (its':=its++[u]) hH e (by simp) (r.append (.cons ru .nil)) ?_,rfl,q⟩
  rw[List.length_append,List.length_singleton]
  omega
noncomputable def Acl:V→List V→Hp→VK→Prop:=fun x vs H Q=>∃ l xs i k y,x = .ref l∧vs=[.int i]∧H l=some (.lst xs)∧-(2 ^ 63)≤i∧i < 2 ^ 63∧seqIndex? i xs.length=some k∧xs[k]? = some y∧Q y (upd H l (.lst (xs.eraseIdx k)))
theorem Acb:MtM X "list.pop" Acl:=by
  intro pins s σ H x vs v us Q I rx rv h
  obtain ⟨l,xs,i,k,y,rfl,rfl,hH,h1,h2,hk,hy,q⟩:=h
  cases rx
  obtain ⟨u,rfl,ru⟩:=rv.one
  obtain ⟨t,rfl⟩:=ru
  obtain ⟨z,its,n,r,hl,e⟩:=I.lstM hH
  obtain ⟨w,hw,rw'⟩:=r.get hy
  refine call_meets F.slot_list_pop ⟨_,e,rfl⟩ F.entry_list_pop (F.args_list_pop_2 _ _)
    (MeetsSeq.list_pop_at l its.toArray n i t k w (fitsIndex_both h1 h2) (by rw[List.size_toArray,← hl];exact hk) (by rw[← Array.getElem?_toList];exact hw) (by rw[List.size_toArray];omega)) ⟨e,?_⟩
  refine ⟨y,_,I.lset (its':=its.eraseIdx k) hH e ?_ (r.eraseIdx k) ?_,rw',q⟩
  · show its.toArray.eraseIdxIfInBounds k=(its.eraseIdx k).toArray
    rw[List.eraseIdxIfInBounds_toArray]
  · have:=Qe xs k
    omega
noncomputable def Al6:R2:=fun x y H Q=>∃ l b xs zs,x = .ref l∧y = .ref b∧H l=some (.lst xs)∧H b=some (.lst zs)∧xs.length+zs.length≤sizeLine∧∀ p,H p=none→Q (.ref p) (upd H p (.lst (xs++zs)))
theorem Ajw:OpR X (binaryOp .Add) Al6:=by
  intro pins s σ H x y v u Q I rx ry h
  obtain ⟨l,b,xs,zs,rfl,rfl,hH,hB,hz,q⟩:=h
  cases rx
  cases ry
  obtain ⟨z,its,n,r,hl,e⟩:=I.lstM hH
  obtain ⟨z2,its2,n2,r2,hl2,e2⟩:=I.lstM hB
  refine PySem.P.add_list e e2 ?_ (by rw[List.size_toArray,List.size_toArray];omega)
  have ea:its.toArray++its2.toArray=(its++its2).toArray:=by simp
  rw[ea]
  exact ⟨.ref _,_,I.lnew (t':=s.toks) (r.append r2) (by rw[List.length_append];omega),rfl,q _ I.fresh⟩
noncomputable def Akz:R2:=fun x y H Q=>∃ l k xs,x = .ref l∧y = .int k∧H l=some (.lst xs)∧-(2 ^ 63)≤k∧k < 2 ^ 63∧xs.length * k.toNat≤sizeLine ∧
  ∀ p,H p=none→Q (.ref p) (upd H p (.lst (List.replicate k.toNat xs).flatten))
theorem Aeo{α:Type}(xs:List α)(k:Nat):(List.replicate k xs).flatten.length=k * xs.length:=by
  induction k with
  | zero=>simp
  | succ k ih=>rw[List.replicate_succ,List.flatten_cons,List.length_append,ih,Nat.succ_mul,Nat.add_comm]
theorem Ahs:OpR X (binaryOp .Mult) Akz:=by
  intro pins s σ H x y v u Q I rx ry h
  obtain ⟨l,k,xs,rfl,rfl,hH,h1,h2,hz,q⟩:=h
  cases rx
  obtain ⟨t,rfl⟩:=ry
  obtain ⟨z,its,n,r,hl,e⟩:=I.lstM hH
  have hlen:its.toArray.size * k.toNat≤sizeLine:=by rw[List.size_toArray,← hl];exact hz
  have hcap:¬ its.toArray.size * k.toNat > (2 ^ 63 - 1) / 8:=by
    have:(sizeLine:Nat)≤(2 ^ 63 - 1) / 8:=by decide
    omega
  have hfit:¬ (!Builtin.List.listFitsIndex k)=true:=by
    rw[fitsIndex_both h1 h2]
    exact Bool.false_ne_true
  have hlong:¬ Builtin.List.listTooLong (its.toArray.size * k.toNat)=true:=by
    rw[Aa6 hlen]
    exact Bool.false_ne_true
  have hnew:List.foldl (fun x1 x2=>x1++x2) #[] (List.replicate (if its.toArray.isEmpty=true then 0 else k.toNat) its.toArray)=(List.replicate k.toNat its).flatten.toArray:=by
    have f0:∀ m:Nat,List.foldl (fun x1 x2=>x1++x2) #[] (List.replicate m its.toArray)=(List.replicate m its).flatten.toArray:=fun m=>by
      have:=Qb its m []
      rw[List.nil_append] at this
      exact this
    rw[f0]
    cases its with
    | nil=>simp
    | cons a r'=>rw[if_neg (by simp)]
  refine wpAny_binaryOp_repeat_ref (T := "list") (U := "int") (by decide) ⟨_,e,rfl⟩ (fun s'=>typeIs_int s' k t) noFill_list_mul F.fills_int_mul F.slot_int_rmul repeat_list F.slot_int_index.lookup
    (call_meets F.slot_int_rmul (typeIs_int s k t) F.entry_int_rmul (F.args_int_rmul_2 _ _) (int___rmul___int_list k t l its.toArray n)
      ⟨e,rfl,⟨_,e,rfl⟩,call_meets F.slot_list_mul ⟨_,e,rfl⟩ F.entry_list_mul (F.args_list_mul_2 _ _) (AutoListH.list___mul___list_int_3 l its.toArray n k t hfit hcap hlong) ⟨e,?_⟩⟩)
  rw[hnew]
  exact ⟨.ref _,_,I.lnew (t':=s.toks) (r.rep k.toNat) (by rw[Aeo,Nat.mul_comm];exact hz),rfl,q _ I.fresh⟩
end
section
variable {prog:Program}{w:World}{A:Around}{E:Value→Shared→Prop}{s:Shared}
end
section
variable {X:Cx}
end
end L2
namespace Att
open PySem PySem.W PySem.Calls PyProof.Rows
theorem Mg{P:Params}{h:Heap}:∀ (ns:List Int) (vs:List Value),WellAll P h vs (ns.map WData.int)→IntsAre vs ns:=by
  intro ns
  induction ns with
  | nil=>
    intro vs w
    rw[List.map_nil] at w
    cases w
    exact .nil
  | cons n ns ih=>
    intro vs w
    rw[List.map_cons] at w
    cases w with
    | cons a b=>
      cases a
      exact .cons _ _ (ih _ b)
theorem Aan{l:OpenLaw}{n:Nat}(hn:l.most=some n){P:Params}{h:Heap}{args:List WData}{vals:List Value}
    (hpre:l.row.toRowW.claim.pre args=true) (hwl:WellAll P h vals args) :
    ∃ a vs ns,vals=[Value.ref a]∧args=[WData.list (ns.map WData.int)]∧h.get? a=some { cls:=.type "list",data:=.seq vs.toArray }∧IntsAre vs ns∧ns.length≤n:=by
  have hsh:WShape.hasAll [] args [.list .int]=true:=(pre_splitW hpre).1
  have hc:l.pre.holds [] { args:=args } = true:=(pre_splitW hpre).2
  obtain ⟨d,r,rfl,h1,h2⟩:=hasAllW_cons hsh
  obtain rfl:=hasAllW_nil h2
  obtain ⟨xs,rfl,h3⟩:=hasW_list h1
  obtain ⟨ns,rfl⟩:=items_int h3
  have hlen:ns.length≤n:=by
    unfold OpenLaw.pre at hc
    have h4:(WTm.not (.lt (.lit (.int (n:Int))) (.len (.arg 0)))).holds [] { args:=[.list (ns.map .int)] } = true:=by
      have h4:=(holds_andW hc).1
      rw[hn] at h4
      exact h4
    have h5:=condW_of h4 (w_not (w_lt w_lit (w_len_list (w_arg rfl))))
    rw[List.length_map] at h5
    refine Nat.le_of_not_lt fun q=>?_
    have q':(n:Int) < ((ns.length:Nat):Int):=by omega
    first
      | (rw[decide_eq_true q'] at h5;exact absurd h5 (by decide))
      | (simp at h5;omega)
  cases hwl with
  | cons w1 w2=>
    cases w2
    cases w1 with
    | list ho hall=>exact ⟨_,_,ns,rfl,rfl,ho,Mg ns _ hall,hlen⟩
theorem Yq(l:OpenLaw)(args:List WData):l.row.toRowW.claim.post args (.bool true) args=true:=
  postW_of (r:=l.row.toRowW) (X:=(true == true))
    (show WShape.has [] (.bool true) .bool=true by first | rfl | decide | simp[WShape.has,WShape.arms,WShape.armsAll])
    (show (WTm.eq .res (.lit (.bool true))).value [] { args:=args,res:=some (.bool true),after:=args } = some (.bool (true == true)) from w_eq_bool (w_res rfl) w_lit) rfl
theorem T5{l:OpenLaw}{n:Nat}{q:Program}{loose:List Str}{XP:(Str→Option Value)→Heap→Prop}{YP:World→Heap→Prop}{d:DefRec}
    (hn:l.most=some n) (hdf:d.params.defaults=[])
    (call:∀ (w:World) (s₀ s₁:Shared) (mg mb:Str→Option Value) (fa:Addr) (o:Obj) (pm cd doc:Value) (a:Addr) (vs:List Value) (ns:List Int),
      Ground q loose [] XP w s₀ mg mb s₁.heap→YP w s₁.heap →
      s₁.heap.get? fa=some o→o.data = .func (docDef d.name d.params d.body d.scope pm cd doc)→s₁.heap.CodeRec cd d.name→mg d.name=some (.ref fa) →
      s₁.heap.get? a=some { cls:=.type "list",data:=.seq vs.toArray }→IntsAre vs ns→ns.length≤n→s₁.gens=#[] →
      codeAny (model l.prog w) callerA (.call (.ref fa) ⟨[.ref a],[]⟩) (fun r s'=>r = .ok (.ret (.bool true))∧OldK s₁.heap s'.heap∧s'.os=s₁.os∧AllBare s'.gens) s₁) :
    WalkO q loose XP YP l.row.toRowW d [] (fun f vs=>PySem.call f vs):=by
  intro w s₀ s₁ mg mb G Y fa o pm cd doc dV kV ho hd hcd hD hmg hg args vals as hpre hlay hrd hwl hlo
  obtain rfl:dV = .none:=Dflts.none hD hdf
  obtain rfl:kV = .none:=Dflts.noKw hD
  obtain ⟨a,vs,ns,rfl,rfl,hobj,hints,hlen⟩:=Aan hn hpre hwl
  refine enter_call (codeAny_mono (call w s₀ s₁ mg mb fa o pm cd doc a vs ns G Y ho (fd_plain hd) hcd hmg hobj hints hlen hg) fun r s' hq=>?_)
  obtain ⟨rfl,h2,h3,h4⟩:=hq
  exact ⟨.inl ⟨.bool true,.bool true,[],rfl,fun _=>rfl,.bool true,Yq l _,fun _=>⟨List.Pairwise.nil,fun _ hm=>(nomatch hm)⟩⟩,h2,h3,h4⟩
section
variable {prog:Program}{w:World}{A:Around}{E:Value→Shared→Prop}{s:Shared}{K:Frag}
end
end Att
namespace L2
open PySem PySem.Spec PyProof.Rows
theorem Py{vs:List Value}{ns:List Int}(h:IntsAre vs ns):Vals (ns.map V.int) vs:=by
  induction h with
  | nil=>exact .nil
  | cons n t h ih=>exact .cons ⟨t,rfl⟩ ih
noncomputable def Aep(H:Hp):Prop:=∀ b,H b=none∨∃ o xs,H b=some (.frz o (.lst xs))
theorem Ab1{P:Program}{w:World}{K:PySem.W.Frag}{mg mb:Str→Option Value}{CX:CXT}{k:Nat}{fa a:Addr}{fd:FuncData}{x:Str}{sp:Sp}{s₁:Shared}{vs:List Value}{ns:List Int}
    (KX:K.In s₁.heap) (hns:s₁.heap.Ns mainGlobals mg) (hb:s₁.heap.Ns builtinsNs mb) (hbb:∀ x:Str,x ≠ "__name__" → mb x=bootBuiltins x) (hlim:s₁.heap.NoLimit) (hg:s₁.gens=#[])
    (ha:s₁.heap.get? a=some { cls:=.type "list",data:=.seq vs.toArray }) (hi:IntsAre vs ns) (hl:ns.length≤sizeLine) (hr:Room k callerA)
    (F:∀ base:Heap,K.In base→base.Ns mainGlobals mg→FnOk P w K mg base CX k fa fd [x] sp) (hbind:∀ (s:Shared) (u:Value),BindsTo s fd ⟨[u],[]⟩ [(x,u)])
    (hsp:∀ H:Hp,Aep H→SqL K H a (ns.map V.int)→sp [.ref a] H (fun v _=>v = .bl true) fun _ _ _=>False)
    (hCX:∀ H e s',CX [] H s₁ (fun _ _ _=>False) e s'→False) :
    codeAny (model P w) callerA (.call (.ref fa) ⟨[.ref a],[]⟩) (fun r s'=>r = .ok (.ret (.bool true))∧OldK s₁.heap s'.heap∧s'.os=s₁.os∧AllBare s'.gens) s₁:=by
  have rv:=Py hi
  have lenV:=hi.length
  have core:∀ H:Hp,Aep H→SqL K H a (ns.map V.int)→HOk P w H s₁.heap→(∀ b,H b≠none→b=a)→(H a≠none→K.lookup a=none) →
      codeAny (model P w) callerA (.call (.ref fa) ⟨[.ref a],[]⟩) (fun r s'=>r = .ok (.ret (.bool true))∧OldK s₁.heap s'.heap∧s'.os=s₁.os∧AllBare s'.gens) s₁:=by
    intro H hO hS hok hA hK
    have base_of:∀ {b:Addr} {o:Obj},s₁.heap.get? b=some o→H b=none→(Ss s₁.heap H).get? b=some o:=fun e n=>Ad4 e n
    have noA:∀ {b:Addr} {o:Obj} {es:Array DictEntry} {ep:Nat},s₁.heap.get? b=some o→o.data = .dict es ep→H b=none:=fun {b o es ep} e d=>by
      cases q:H b with
      | none=>rfl
      | some u=>
        have e':b=a:=hA b (by rw[q];simp)
        subst e'
        rw[ha] at e;cases e
        have d':Data.seq vs.toArray _=Data.dict es ep:=d
        cases d'
    have nsK:∀ {b:Addr} {m:Str→Option Value},s₁.heap.Ns b m→(Ss s₁.heap H).Ns b m:=fun {b m} ⟨o,es,ep,e,d,r⟩=>⟨o,es,ep,base_of e (noA e d),d,r⟩
    have hKb:K.In (Ss s₁.heap H):=fun b o e=>base_of (KX b o e) (by
      cases q:H b with
      | none=>rfl
      | some u=>
        have e':b=a:=hA b (by rw[q];simp)
        subst e'
        rw[hK (by rw[q];simp)] at e;cases e)
    have hM:Mod K mg (Ss s₁.heap H):=⟨hKb,nsK hns,⟨mb,nsK hb,hbb⟩,let ⟨mc,h1,h2⟩:=hlim;⟨mc,nsK h1,h2⟩⟩
    have e0:Env0 P w K mg (Ss s₁.heap H) callerA [] s₁ H:=⟨rfl,hM,fun b o e=>Ag6 e,Nat.le_of_eq (Xy _ _),trivial,fun b hb=>absurd (show b∈([]:List Addr) from hb) (by simp),hok,.of_eq hg⟩
    refine codeAny_mono ((F _ hKb (nsK hns)).run callerA [] s₁ H ⟨[.ref a],[]⟩ [.ref a] [.ref a] _ _ hr e0 (hbind s₁ (.ref a)) (.cons rfl .nil) (hsp H hO hS)) fun r s' h=>?_
    cases r with
    | error e=>exact (hCX H e s' h).elim
    | ok fl=>
      cases fl with
      | next=>exact False.elim h
      | brk=>exact False.elim h
      | cont=>exact False.elim h
      | ret u=>
        obtain ⟨v,H',os,bare,un,hok',r',q⟩:=h
        have q':v = .bl true:=q
        subst q'
        obtain rfl:u=Value.bool true:=r'
        refine ⟨rfl,OldK.of_keep fun b o e=>?_,os,bare⟩
        cases q:H b with
        | none=>exact un.keep b o e q (by intro z;exact absurd (show b∈([]:List Addr) from z) (by simp)) (by simp)
        | some u=>
          rcases hO b with z | ⟨ob,xs,z⟩
          · rw[q] at z;cases z
          · have z2:=un.frzs b ob _ z
            obtain ⟨e1,_⟩:=hok b _ z
            obtain ⟨e2,_⟩:=hok' b _ z2
            rw[e] at e1;cases e1
            exact e2
  cases hk:K.lookup a with
  | some o=>
    have e:=KX a o hk
    rw[ha] at e
    cases e
    refine core (fun _=>none) (fun _=>.inl rfl) (.inr ⟨_,vs.toArray,_,hk,rfl,rfl,rfl,by rw[List.size_toArray,lenV];exact hl,by simpa using rv⟩) (fun b u z=>by have z':(none:Option HO)=some u:=z;cases z') (fun b z=>absurd rfl z) fun z=>absurd rfl z
  | none=>
    refine core (fun b=>if b=a then some (.frz { cls:=.type "list",data:=.seq vs.toArray } (.lst (ns.map V.int))) else none) (fun b=>?_) (.inl (.inr ⟨{ cls:=.type "list",data:=.seq vs.toArray },if_pos rfl⟩)) (fun b u z=>?_) (fun b z=>?_) fun _=>hk
    · by_cases hb:b=a
      · exact .inr ⟨_,_,if_pos hb⟩
      · exact .inl (if_neg hb)
    · by_cases hb:b=a
      · have z':=(if_pos hb).symm.trans z
        cases z'
        subst hb
        exact ⟨ha,by rw[List.length_map];exact hl,vs,_,rv,ha⟩
      · have z':=(if_neg hb).symm.trans z
        cases z'
    · by_cases hb:b=a
      · exact hb
      · exact absurd (if_neg hb) z
theorem Af4{l:PySem.W.OpenLaw}{n k:Nat}{q:Program}{loose:List Str}{XP:(Str→Option Value)→Heap→Prop}{YP:World→Heap→Prop}{d:DefRec}{K:Params→PySem.W.Frag}{CX:World→CXT}{sp:World→Sp}{x:Str}
    (hn:l.most=some n) (hn2:n≤sizeLine) (hdf:d.params.defaults=[]) (hr:Room k callerA)
    (hY:∀ (w:World) (h:Heap),YP w h→(K w.params).In h)
    (F:∀ (w:World) (mg:Str→Option Value) (fa:Addr) (h:Heap),(K w.params).In h→h.Ns mainGlobals mg→mg d.name=some (.ref fa) →
      ∃ fd:FuncData,(∀ (s:Shared) (u:Value),BindsTo s fd ⟨[u],[]⟩ [(x,u)]) ∧
        ∀ base:Heap,(K w.params).In base→base.Ns mainGlobals mg→FnOk l.prog w (K w.params) mg base (CX w) k fa fd [x] (sp w))
    (hsp:∀ (w:World) (H:Hp) (a:Addr) (ns:List Int),ns.length≤n→Aep H→SqL (K w.params) H a (ns.map V.int)→sp w [.ref a] H (fun v _=>v = .bl true) fun _ _ _=>False)
    (hCX:∀ (w:World) (H:Hp) (s:Shared) (e:Value) (s':Shared),CX w [] H s (fun _ _ _=>False) e s'→False) :
    PySem.W.WalkO q loose XP YP l.row.toRowW d [] (fun f vs=>PySem.call f vs):=by
  refine Att.T5 hn hdf fun w s₀ s₁ mg mb fa o pm cd doc a vs ns G Y ho hd hcd hmg hobj hints hlen hg=>?_
  have KX:=hY w _ Y
  obtain ⟨fd,hb,hF⟩:=F w mg fa _ KX G.T.g hmg
  exact Ab1 KX G.T.g G.T.b G.T.builtins G.T.nolimit hg hobj hints (Nat.le_trans hlen hn2) hr hF hb (fun H hO hS=>hsp w H a ns hlen hO hS) fun H e s'=>hCX w H s₁ e s'
noncomputable def Agx(s:Stmt)(j:Nat):Stmt:=match s with
  | .ClassDef _ _ _ body _ _ _ _ _ _ _=>body.getD j (.Pass ⟨0,0,0,0⟩)
  | _=>.Pass ⟨0,0,0,0⟩
noncomputable def Bp(s:Stmt):Arguments:=match s with
  | .FunctionDef _ a _ _ _ _ _ _ _ _=>a
  | _=>{ posonlyargs:=[],args:=[],vararg:=none,kwonlyargs:=[],kw_defaults:=[],kwarg:=none,defaults:=[] }
noncomputable def Bc(s:Stmt):List Stmt:=match s with
  | .FunctionDef _ _ b _ _ _ _ _ _ _=>b
  | _=>[]
noncomputable def Aj(s:Stmt):Scope:=match s with
  | .FunctionDef _ _ _ _ _ _ sc _ _ _=>sc
  | _=>{ kind:=.function,names:=[],isGenerator:=false,isCoroutine:=false }
abbrev CX0:CXT:=fun _ _ _ _ _ _=>False
abbrev E0:XK:=fun _ _ _=>False
theorem Ak1{X:Cx}:Vj CX0 X E0:=fun _ _ _ _ _ _ _ h=>h.elim
structure Fun(K:PySem.W.Frag)(x qual:Str)(st:Stmt)(f:Addr)(fd:FuncData):Prop where
  ex:∃ (oc:Value) (od:Option Addr) (kV doc pm:Value) (an:Option Addr) (cdv ct:Value) (osl:Array (Option Value)),
    fd=PySem.W.fnOf x qual (Bp st) (Bc st) (Aj st) .none kV doc pm an cdv ct∧K.lookup f=some ⟨oc,od,.func fd,osl⟩∧PySem.W.codeIn K cdv qual=true
  kp:PySem.W.keepIn K (.ref f)=true
section
variable {P:Program}{w:World}{K:PySem.W.Frag}{mg:Str→Option Value}{base:Heap}
theorem Fun.ok{x qual:Str}{st:Stmt}{f:Addr}{fd:FuncData}{N ps:List Str}{k:Nat}{sp:Sp}(F:Fun K x qual st f fd)(S:FnScope N ps (Aj st))(len:∀ vs H Q E,sp vs H Q E→vs.length=ps.length)
    (hbody:∀ (cdv:Value) (A:Around) (outer:List Env) (s:Shared) (H:Hp) (vs:List V) (Q:VK) (E:XK),Room k (A.deeper (envOfC qual (Aj st) s.heap.objs.size f cdv))→sp vs H Q E →
      ∃ t,PSs (Sn CX0 P w K mg base N qual (Aj st) f cdv A outer s H E).nox (Bc st) t∧t { nx:=fun _ H'=>Q .non H',rt:=Q } (start N vs) H):FnOk P w K mg base CX0 (k+1) f fd ps sp:=by
  obtain ⟨oc,od,kV,doc,pm,an,cdv,ct,osl,rfl,lk,hcd⟩:=F.ex
  refine Ako lk hcd S len fun A outer s H vs Q E hr hsp=>?_
  obtain ⟨t,h,q⟩:=hbody cdv A outer s H vs Q E hr hsp
  exact ⟨t,h.nox,q⟩
theorem Fun.binds{x qual:Str}{st:Stmt}{f:Addr}{fd:FuncData}{ps:List Str}(F:Fun K x qual st f fd)
    (h:∀ (kV doc pm:Value) (an:Option Addr) (cdv ct:Value) (us:List Value),us.length=ps.length→bindArgs (PySem.W.fnOf x qual (Bp st) (Bc st) (Aj st) .none kV doc pm an cdv ct) ⟨us,[]⟩=pure (ps.zip us)):Binds K fd ps []:=by
  obtain ⟨oc,od,kV,doc,pm,an,cdv,ct,osl,rfl,lk,hcd⟩:=F.ex
  exact .all (h kV doc pm an cdv ct)
theorem Cg{x qual:Str}{st:Stmt}{f:Addr}{oc:Value}{od an:Option Addr}{osl:Array (Option Value)}{kV doc pm cdv ct:Value}(l:K.lookup f=some ⟨oc,od,.func (PySem.W.fnOf x qual (Bp st) (Bc st) (Aj st) .none kV doc pm an cdv ct),osl⟩)
    (c:PySem.W.codeIn K cdv qual=true) (k:PySem.W.keepIn K (.ref f)=true):Fun K x qual st f (PySem.W.fnOf x qual (Bp st) (Bc st) (Aj st) .none kV doc pm an cdv ct):=⟨⟨oc,od,kV,doc,pm,an,cdv,ct,osl,rfl,l,c⟩,k⟩
end
theorem Qn{n:Nat}(h:n≤1000):n < sizeLine:=Nat.lt_of_le_of_lt h (by decide)
section
variable {X:Cx}
end
theorem Sy{A B:Prop}(h:B):if false=true then A else B:=by
  rw[if_neg Bool.false_ne_true]
  exact h
theorem Tz{A B:Prop}(h:A):if true=true then A else B:=by
  rw[if_pos rfl]
  exact h
noncomputable def Same(H H':Hp):Prop:=∀ b o,H b=some o→H' b=some o
theorem Same.refl(H:Hp):Same H H:=fun _ _ h=>h
theorem Same.trans{H H1 H2:Hp}(a:Same H H1)(b:Same H1 H2):Same H H2:=fun c o h=>b c o (a c o h)
theorem Same.free{H H':Hp}(e:Same H H'){l:Addr}(h:H' l=Option.none):H l=Option.none:=by
  cases q:H l with
  | none=>rfl
  | some o=>
    rw[e l o q] at h
    cases h
theorem Same.seq{K:PySem.W.Frag}{H H':Hp}{a:Addr}{xs:List V}(e:Same H H')(h:SqL K H a xs):SqL K H' a xs:=by
  rcases h with (h | ⟨o,h⟩) | h
  · exact .inl (.inl (e _ _ h))
  · exact .inl (.inr ⟨o,e _ _ h⟩)
  · exact .inr h
section
variable {κ:Type}[DecidableEq κ]
noncomputable def Hq(kvs:List (κ×V))(k:κ):Option V:=(kvs.find? fun kv=>decide (kv.1=k)).map (·.2)
noncomputable def Hr(kvs:List (κ×V))(k:κ)(v:V):List (κ×V):=
  if (kvs.any fun kv=>decide (kv.1=k))=true then kvs.map (fun kv=>if kv.1=k then (kv.1,v) else kv) else kvs++[(k,v)]
noncomputable def Wq(kvs:List (κ×V))(k:κ):List (κ×V):=kvs.filter fun kv=>decide (kv.1≠k)
theorem Ot{p:κ×V}{r:List (κ×V)}{k:κ}(e:p.1=k):Hq (p::r) k=some p.2:=by simp[Hq,List.find?_cons,e]
theorem Oz{p:κ×V}{r:List (κ×V)}{k:κ}(e:¬ p.1=k):Hq (p::r) k=Hq r k:=by simp[Hq,List.find?_cons,e]
theorem Nc(k:κ):∀ kvs:List (κ×V),(kvs.any fun kv=>decide (kv.1=k))=(Hq kvs k).isSome
  | []=>rfl
  | p::r=>by
    rw[List.any_cons]
    by_cases e:p.1=k
    · simp only[Ot e,decide_eq_true e,Bool.true_or,Option.isSome_some]
    · rw[Oz e,decide_eq_false e,Bool.false_or];exact Nc k r
theorem Ih(kvs:List (κ×V))(k:κ)(v:V):(Hr kvs k v).length≤kvs.length+1:=by
  unfold Hr
  split
  · rw[List.length_map];omega
  · rw[List.length_append,List.length_cons,List.length_nil];omega
theorem RelO.isSome_eq{o:Option V}{u:Option Value}(r:RelO o u):o.isSome=u.isSome:=by
  cases o with
  | none=>cases u with
    | none=>rfl
    | some _=>exact (show False from r).elim
  | some _=>cases u with
    | none=>exact (show False from r).elim
    | some _=>rfl
theorem RelO.getD{o:Option V}{u:Option Value}{d:V}{d':Value}(r:RelO o u)(rd:RelV d d'):RelV (o.getD d) (u.getD d'):=by
  cases o with
  | none=>cases u with
    | none=>exact rd
    | some _=>exact (show False from r).elim
  | some _=>cases u with
    | none=>exact (show False from r).elim
    | some _=>exact r
theorem KV.val{kvs:List (κ×V)}{vs:List (κ×Value)}(r:KV kvs vs)(k:κ):RelO (Hq kvs k) (valueAt vs k):=by
  unfold KV at r
  induction r with
  | nil=>exact True.intro
  | @cons p q ps qs h t ih=>
    obtain ⟨h1,h2⟩:=h
    by_cases e:p.1=k
    · have e':q.1=k:=h1.symm.trans e
      have b:valueAt (q::qs) k=some q.2:=by simp[valueAt,List.find?_cons,e']
      rw[Ot e,b];exact h2
    · have e':¬ q.1=k:=fun z=>e (h1.trans z)
      have b:valueAt (q::qs) k=valueAt qs k:=by simp[valueAt,List.find?_cons,e']
      rw[Oz e,b];exact ih
theorem KV.any{kvs:List (κ×V)}{vs:List (κ×Value)}(r:KV kvs vs)(k:κ):(kvs.any fun kv=>decide (kv.1=k))=vs.any fun kv=>decide (kv.1=k):=by
  unfold KV at r
  induction r with
  | nil=>rfl
  | cons h t ih=>rw[List.any_cons,List.any_cons,ih,h.1]
theorem KV.repl{kvs:List (κ×V)}{vs:List (κ×Value)}(r:KV kvs vs)(k:κ){y:V}{u:Value}(ry:RelV y u) :
    KV (kvs.map fun kv=>if kv.1=k then (kv.1,y) else kv) (vs.map fun kv=>if kv.1=k then (kv.1,u) else kv):=by
  unfold KV at r ⊢
  induction r with
  | nil=>exact .nil
  | @cons p q ps qs h t ih=>
    rw[List.map_cons,List.map_cons]
    refine .cons ?_ ih
    obtain ⟨h1,h2⟩:=h
    by_cases e:p.1=k
    · rw[if_pos e,if_pos (h1.symm.trans e)];exact ⟨h1,ry⟩
    · rw[if_neg e,if_neg (fun z=>e (h1.trans z))];exact ⟨h1,h2⟩
theorem KV.put{kvs:List (κ×V)}{vs:List (κ×Value)}(r:KV kvs vs)(k:κ){y:V}{u:Value}(ry:RelV y u):KV (Hr kvs k y) (stored vs k u):=by
  unfold Hr stored
  rw[r.any k]
  by_cases e:(vs.any fun kv=>decide (kv.1=k))=true
  · rw[if_pos e,if_pos e];exact r.repl k ry
  · rw[if_neg e,if_neg e];exact Paired.snoc r ⟨rfl,ry⟩
theorem KV.drop{kvs:List (κ×V)}{vs:List (κ×Value)}(r:KV kvs vs)(k:κ):KV (Wq kvs k) (without vs k):=by
  unfold KV at r ⊢
  unfold Wq without
  induction r with
  | nil=>exact .nil
  | @cons p q ps qs h t ih=>
    obtain ⟨h1,h2⟩:=h
    rw[List.filter_cons,List.filter_cons]
    by_cases e:p.1=k
    · have a:¬ decide (p.1≠k)=true:=by simp[e]
      have b:¬ decide (q.1≠k)=true:=by simp[h1.symm.trans e]
      rw[if_neg a,if_neg b];exact ih
    · have e':¬ q.1=k:=fun z=>e (h1.trans z)
      have a:decide (p.1≠k)=true:=by simp[e]
      have b:decide (q.1≠k)=true:=by simp[e']
      rw[if_pos a,if_pos b];exact .cons ⟨h1,h2⟩ ih
theorem KV.keys{kvs:List (κ×V)}{vs:List (κ×Value)}(r:KV kvs vs):kvs.map (·.1)=vs.map (·.1):=by
  unfold KV at r
  induction r with
  | nil=>rfl
  | cons h t ih=>rw[List.map_cons,List.map_cons,ih,h.1]
theorem KV.length{kvs:List (κ×V)}{vs:List (κ×Value)}(r:KV kvs vs):kvs.length=vs.length:=Paired.length r
end
theorem Uk{P:Program}{w:World}{k:Key}{u:Value}(r:RelV (kV k) u):(Bv P w).is k u=true:=by
  cases k with
  | inl i=>obtain ⟨t,e⟩:=(show ∃ t,u=Value.int i t from r);subst e;exact S0 P w i t
  | inr x=>obtain ⟨t,e⟩:=(show ∃ t,u=Value.str x t from r);subst e;exact Tc P w x t
theorem Qs{P:Program}{w:World}:∀ {ks:List Key} {us:List Value},Vals (ks.map kV) us→ItemsAre (Bv P w) ks us
  | [],_,r=>by rw[List.map_nil] at r;cases r;exact .nil
  | k::ks,_,r=>by
    rw[List.map_cons] at r
    cases r with
    | cons h t=>exact .cons (Uk h) (Qs t)
abbrev KT(H:Hp):List (List Key×V)→List (List Key×Addr×Value)→Prop:=Paired fun p q=>p.1=q.1∧H q.2.1=some (.tup (p.1.map kV))∧RelV p.2 q.2.2
theorem KT.val{H:Hp}{kvs:List (List Key×V)}{xs:List (List Key×Addr×Value)}(r:KT H kvs xs)(k:List Key):RelO (Hq kvs k) ((atKey xs k).map (·.2)):=by
  induction r with
  | nil=>exact True.intro
  | @cons p q ps qs h t ih=>
    obtain ⟨h1,_,h2⟩:=h
    by_cases e:p.1=k
    · have e':q.1=k:=h1.symm.trans e
      have b:atKey (q::qs) k=some q.2:=by simp[atKey,List.find?_cons,e']
      rw[Ot e,b];exact h2
    · have e':¬ q.1=k:=fun z=>e (h1.trans z)
      have b:atKey (q::qs) k=atKey qs k:=by simp[atKey,List.find?_cons,e']
      rw[Oz e,b];exact ih
theorem KT.repl{H:Hp}{kvs:List (List Key×V)}{xs:List (List Key×Addr×Value)}(r:KT H kvs xs)(k:List Key){y:V}{u:Value}(ry:RelV y u) :
    KT H (kvs.map fun kv=>if kv.1=k then (kv.1,y) else kv) (xs.map (putAt k u)):=by
  induction r with
  | nil=>exact .nil
  | @cons p q ps qs h t ih=>
    rw[List.map_cons,List.map_cons]
    refine .cons ?_ ih
    obtain ⟨h1,h2,h3⟩:=h
    unfold putAt
    by_cases e:p.1=k
    · rw[if_pos e,if_pos (h1.symm.trans e)];exact ⟨h1,h2,ry⟩
    · rw[if_neg e,if_neg (fun z=>e (h1.trans z))];exact ⟨h1,h2,h3⟩
theorem KT.put{H:Hp}{kvs:List (List Key×V)}{xs:List (List Key×Addr×Value)}(r:KT H kvs xs)(k:List Key){b:Addr}{y:V}{u:Value}(hb:H b=some (.tup (k.map kV)))(ry:RelV y u) :
    KT H (Hr kvs k y) (storedH xs k b u):=by
  have e:(kvs.any fun kv=>decide (kv.1=k))=(atKey xs k).isSome:=by
    rw[Nc,(r.val k).isSome_eq,Option.isSome_map]
  unfold Hr storedH
  rw[e]
  by_cases q:(atKey xs k).isSome=true
  · rw[if_pos q,if_pos q];exact r.repl k ry
  · rw[if_neg q,if_neg q];exact Paired.snoc r ⟨rfl,hb,ry⟩
theorem KT.keeps{H H':Hp}{kvs:List (List Key×V)}{xs:List (List Key×Addr×Value)}(r:KT H kvs xs)(ht:∀ b ys,H b=some (.tup ys)→H' b=some (.tup ys)):KT H' kvs xs:=
  Paired.mapP r fun _ _ z=>⟨z.1,ht _ _ z.2.1,z.2.2⟩
section
variable {P:Program}{w:World}{H:Hp}{h:Heap}{a:Addr}
theorem Ahm{u:HO}(ok:HOk P w H h)(e:Rd H a u):ObjOk P w H h a u:=e.ok ok
theorem Uq{kvs:List (Key×V)}(ok:HOk P w H h)(e:Rd H a (.dK kvs)):kvs.length≤sizeLine∧(a == sysModules)=false∧∃ vs,KV kvs vs∧h.DictOf (Bv P w) a vs:=
  show ObjOk P w H h a (.dK kvs) from Ahm ok e
theorem Adb{kvs:List (Key×V)}(ok:HOk P w H h)(e:H a=some (.dK kvs)):kvs.length≤sizeLine∧(a == sysModules)=false∧∃ vs,KV kvs vs∧h.DictOf (Bv P w) a vs:=Uq ok (.inl e)
theorem Si{ks:List Key}(ok:HOk P w H h)(e:H a=some (.tup (ks.map kV))):(tupleKind (Bv P w)).is h ks a:=by
  obtain ⟨_,its,r,o,h1,h2,n,h3⟩:=(show ObjOk P w H h a (.tup (ks.map kV)) from ok a _ e)
  exact ⟨o,its.toArray,n,h1,(Prod.mk.inj h2).1,h3,by simpa using Qs r⟩
theorem Th{kvs:List (List Key×V)}(ok:HOk P w H h)(e:Rd H a (.dT kvs)):kvs.length≤sizeLine∧(a == sysModules)=false ∧
    ∃ xs,KT H kvs xs∧h.DictOfH (tupleKind (Bv P w)) a xs:=by
  obtain ⟨z,y,xs,r,o,es,ep,h1,h2,h3,h4,h5⟩:=(show ObjOk P w H h a (.dT kvs) from Ahm ok e)
  refine ⟨z,y,xs,r,o,es,ep,h1,h2,h3,h4,fun x hx=>?_,h5⟩
  have all:∀ {l:List (List Key×V)} {m:List (List Key×Addr×Value)},KT H l m→∀ x∈m,(tupleKind (Bv P w)).is h x.1 x.2.1:=by
    intro l m q
    induction q with
    | nil=>intro x hx;exact nomatch hx
    | @cons p q ps qs hq t ih=>
      intro x hx
      rcases List.mem_cons.mp hx with e | hx
      · subst e
        exact Si ok (by rw[← hq.1];exact hq.2.1)
      · exact ih x hx
  exact all r x hx
theorem Ala{kvs:List (List Key×V)}(ok:HOk P w H h)(e:H a=some (.dT kvs)):kvs.length≤sizeLine∧(a == sysModules)=false ∧
    ∃ xs,KT H kvs xs∧h.DictOfH (tupleKind (Bv P w)) a xs:=Th ok (.inl e)
end
noncomputable def DGet(H:Hp)(a:Addr)(y:V)(r:Option V):Prop:=
  (∃ kvs k,Rd H a (.dK kvs)∧y=kV k∧r=Hq kvs k)∨∃ kvs k b,Rd H a (.dT kvs)∧y = .ref b∧H b=some (.tup (k.map kV))∧r=Hq kvs k
noncomputable def DPut(H:Hp)(a:Addr)(y v:V)(H':Hp):Prop:=
  (∃ kvs k,H a=some (.dK kvs)∧y=kV k∧kvs.length < sizeLine∧H'=upd H a (.dK (Hr kvs k v))) ∨
  ∃ kvs k b,H a=some (.dT kvs)∧y = .ref b∧H b=some (.tup (k.map kV))∧kvs.length < sizeLine∧H'=upd H a (.dT (Hr kvs k v))
theorem DGet.k{H:Hp}{a:Addr}{kvs:List (Key×V)}{k:Key}(e:H a=some (.dK kvs)):DGet H a (kV k) (Hq kvs k):=.inl ⟨kvs,k,.inl e,rfl,rfl⟩
theorem DGet.t{H:Hp}{a b:Addr}{kvs:List (List Key×V)}{k:List Key}(e:H a=some (.dT kvs))(eb:H b=some (.tup (k.map kV))):DGet H a (.ref b) (Hq kvs k):=.inr ⟨kvs,k,b,.inl e,rfl,eb,rfl⟩
theorem DPut.k{H:Hp}{a:Addr}{kvs:List (Key×V)}{k:Key}{v:V}(e:H a=some (.dK kvs))(hl:kvs.length < sizeLine):DPut H a (kV k) v (upd H a (.dK (Hr kvs k v))):=.inl ⟨kvs,k,e,rfl,hl,rfl⟩
theorem DPut.t{H:Hp}{a b:Addr}{kvs:List (List Key×V)}{k:List Key}{v:V}(e:H a=some (.dT kvs))(eb:H b=some (.tup (k.map kV)))(hl:kvs.length < sizeLine) :
    DPut H a (.ref b) v (upd H a (.dT (Hr kvs k v))):=.inr ⟨kvs,k,b,e,rfl,eb,hl,rfl⟩
section
variable {X:Cx}{pins:List (Addr×Obj)}{σ:St}{H:Hp}{s:Shared}{a:Addr}{y v:V}{u r:Value}{o:Option V}{A:Around}{E:Value→Shared→Prop}
theorem Inv.big(I:Inv X pins σ H s):sysModules < s.heap.objs.size:=by
  have h:mainGlobals < s.heap.objs.size:=(I.mod.glob.keeps I.bk).lt
  exact Nat.lt_trans (by decide) h
theorem Aaz{Q:Value→Shared→Prop}(hu:A.units+1 < cLine)(I:Inv X pins σ H s)(g:DGet H a y (some v))(ry:RelV y u)(h:∀ w' s',Inv X pins σ H s'→RelV v w'→Q w' s') :
    wpAny (model X.prog X.w) A (getItem (.ref a) u) Q E s:=by
  rcases g with ⟨kvs,k,e,ey,l⟩ | ⟨kvs,k,b,e,ey,eb,l⟩
  · subst ey
    obtain ⟨z,hd,vs,rel,dd⟩:=Uq I.hok e
    obtain ⟨w',hw,rw'⟩:=RelO.some_of (v:=v) (o:=valueAt vs k) (by rw[l];exact rel.val k)
    exact wpAny_getItem_of (Uk ry) dd.mapOf hw (h w' _ (I.tok _) rw')
  · subst ey
    cases (show u=Value.ref b from ry)
    obtain ⟨z,hd,xs,rel,dd⟩:=Th I.hok e
    obtain ⟨w',hw,rw'⟩:=RelO.some_of (v:=v) (o:=(atKey xs k).map (·.2)) (by rw[l];exact rel.val k)
    obtain ⟨p,hp,hp2⟩:=Option.map_eq_some_iff.mp hw
    refine wpAny_getItem_heap (tupleKind_room_in1 hu) (Si I.hok eb) dd hp ?_
    rw[hp2]
    exact h w' _ (I.tok _) rw'
theorem R1{h':Heap}{t':Nat}{ob:HO}(I:Inv X pins σ H s)(mu:Mut (H a))(hs:Heap.SameBut a s.heap h')(he:∃ q,h'.get? a=some q)(new:ObjOk X.prog X.w (upd H a ob) h' a ob) :
    Inv X pins σ (upd H a ob) { s with heap:=h',toks:=t' }:=
  I.write (x:=a) (e:=a) mu (.inl rfl) (fun b q hb z=>(hs.2 b hb).trans z) he new
theorem Acz{P:Program}{w:World}{H':Hp}{h':Heap}{kvs:List (Key×V)}{vs:List (Key×Value)}(z:kvs.length≤sizeLine)(hd:(a == sysModules)=false)(rel:KV kvs vs)(dd:h'.DictOf (Bv P w) a vs) :
    ObjOk P w H' h' a (.dK kvs):=⟨z,hd,vs,rel,dd⟩
theorem Yr{H':Hp}{Q:Unit→Shared→Prop}(hu:A.units+1 < cLine)(I:Inv X pins σ H s)(g:DPut H a y v H')(ry:RelV y u)(rv:RelV v r)(h:∀ s',Inv X pins σ H' s'→Q () s') :
    wpAny (model X.prog X.w) A (setItem (.ref a) u r) Q E s:=by
  rcases g with ⟨kvs,k,e,ey,l,eH⟩ | ⟨kvs,k,b,e,ey,eb,l,eH⟩
  · subst ey eH
    obtain ⟨z,hd,vs,rel,dd⟩:=Adb I.hok e
    have hz:vs.length≤sizeLine:=by rw[← rel.length];exact z
    have hl:(Hr kvs k v).length≤sizeLine:=by have:=Ih kvs k v;omega
    refine wpAny_setItem_pairs (hsz:=hz) (Uk ry) dd fun h' dd' hs=>h _ ?_
    have he:∃ q,h'.get? a=some q:=let ⟨q,_,_,hq,_⟩:=dd';⟨q,hq⟩
    exact R1 I (by rw[e];exact True.intro) hs he (Acz hl hd (rel.put k rv) dd')
  · subst ey eH
    cases (show u=Value.ref b from ry)
    obtain ⟨z,hd,xs,rel,dd⟩:=Ala I.hok e
    have hz:xs.length≤sizeLine:=by rw[← Paired.length rel];exact z
    have hl:(Hr kvs k v).length≤sizeLine:=by have:=Ih kvs k v;omega
    refine wpAny_setItem_heap (hsz:=hz) (tupleKind_room_in1 hu) (Si I.hok eb) dd fun h' dd' hs=>h _ ?_
    obtain ⟨q,es,ep,hq,h2,h3,h4,_,h5⟩:=dd'
    refine R1 I (by rw[e];exact True.intro) hs ⟨q,hq⟩ ⟨hl,hd,_,(rel.put k eb rv).keeps fun c ys ec=>?_,q,es,ep,hq,h2,h3,h4,h5⟩
    rw[Aw (Acj ec e (fun z=>nomatch z))]
    exact ec
end
section
variable {X:Cx}{pins:List (Addr×Obj)}{σ:St}{H:Hp}{s:Shared}{a:Addr}{kvs:List (Key×V)}{k:Key}{u:Value}{A:Around}{E:Value→Shared→Prop}
end
noncomputable def Ah5(i:Expr):Prop:=∀ ov iv,subscripted i false ov iv=operate [ov,iv] (getItem ov iv)
theorem Af0{prog:Program}{w:World}{A:Around}{E:Value→Shared→Prop}{s:Shared}{env:Env}{value slice:Expr}{pos:Pos}{T id:String}{Q:Value→Shared→Prop}
    (hl:typeLookup (.type T) "__getitem__" = pure (some (.builtin id))) (hs:Ah5 slice)
    (h:wpAny (model prog w) A (eval value env) (fun o s₁=>wpAny (model prog w) A (eval slice env) (fun i s₂=>s₂.TypeIs o T∧wpAny (model prog w) A (getItem o i) Q E s₂) E s₁) E s) :
    wpAny (model prog w) A (eval (.Subscript value slice pos) env) Q E s:=by
  refine Subscript_ (wpAny_mono h (fun o s₁ h₁=>wpAny_mono h₁ (fun i s₂ h₂=>?_) fun _ _ x=>x) fun _ _ x=>x)
  obtain ⟨hT,h₂⟩:=h₂
  unfold subscriptTail
  refine wpAny_bind ?_
  rw[getitemInPython_of_ne hT.not_modules]
  refine wpAny_bind (wpAny_specialOf hT hl ?_)
  have fin:wpAny (model prog w) A (subscripted slice false o i) (fun r s₃=>wpAny (model prog w) A (letTemporaryGo value o r >>= fun _=>pure r) Q E s₃) E s₂:=by
    rw[hs o i]
    exact wpAny_operating (wpAny_mono h₂ (fun r s₃ h₃=>wpAny_bind (wpAny_letTemporaryGo (wpAny_pure h₃))) fun _ _ x=>x)
  first
    | exact wpAny_pure (wpAny_bind fin)
    | exact wpAny_bind (wpAny_pure (wpAny_bind fin))
    | exact wpAny_bind fin
theorem Ur{X:Cx}{pins:List (Addr×Obj)}{σ:St}{H:Hp}{s:Shared}{a:Addr}{y:V}{o:Option V}(I:Inv X pins σ H s)(g:DGet H a y o):s.TypeIs (.ref a) "dict" := by
  rcases g with ⟨kvs,k,e,_,_⟩ | ⟨kvs,k,b,e,_,_,_⟩
  · obtain ⟨_,_,vs,_,dd⟩:=Uq I.hok e
    exact dd.typeIs
  · obtain ⟨_,_,xs,_,dd⟩:=Th I.hok e
    exact dd.typeIs
noncomputable def Akp(td ty:TE):TE:=fun σ H Q=>td σ H fun x H1=>ty σ H1 fun y H2=>∃ a v,x = .ref a∧DGet H2 a y (some v)∧Q v H2
noncomputable def Akg(td ty tv:TE):TS:=fun D σ H=>tv σ H fun v H1=>td σ H1 fun x H2=>ty σ H2 fun y H3=>∃ a H4,x = .ref a∧DPut H3 a y v H4∧D.nx σ H4
section
variable {X:Cx}{o i e value:Expr}{pos pos' tpos:Pos}{td ty tv:TE}
theorem Aer(hu:X.A.units+1 < cLine)(ho:PE X o td)(hi:PE X i ty)(hs:Ah5 i):PE X (.Subscript o i pos) (Akp td ty):=by
  intro pins s σ H Q I h
  refine Af0 PySem.F.slot_dict_getitem.lookup hs (thn (ho pins s σ H _ I h) fun u s1 zz=>zz.elim fun x H1 I1 rx q1=>thn (hi pins s1 σ H1 _ I1 q1) fun iv s2 zz=>zz.elim fun y H2 I2 ry zq=>?_)
  obtain ⟨a,v,ex,g,q2⟩:=zq
  subst ex
  obtain rfl:u=Value.ref a:=rx
  exact ⟨Ur I2 g,Aaz hu I2 g ry fun w' s3 I3 rw'=>⟨v,H2,I3,rw',q2⟩⟩
theorem Agq(hu:X.A.units+1 < cLine)(ho:PE X o td)(hi:PE X i ty)(hv:PE X value tv)(hs:swapsWith value (some (.Subscript o i pos')) pos.line X.env=pure false) :
    PS X (.Assign [.Subscript o i pos'] value pos) (Akg td ty tv):=by
  intro pins s σ H D I h
  refine wpAny_Assign_Subscript (thn (hv pins s σ H _ I h) fun r s1 zz=>zz.elim fun v H1 I1 rv q1=>thn (ho pins s1 σ H1 _ I1 q1) fun u s2 zz=>zz.elim fun x H2 I2 rx q2=>thn (hi pins s2 σ H2 _ I2 q2) fun iv s3 zz=>zz.elim fun y H3 I3 ry zq=>?_) hs
  obtain ⟨a,H4,ex,g,q3⟩:=zq
  subst ex
  obtain rfl:u=Value.ref a:=rx
  exact Yr hu I3 g ry rv fun s4 I4=>⟨σ,H4,I4,q3⟩
end
theorem Tw{P:Program}{w:World}{H:Hp}(h:Heap)(hb:sysModules < h.objs.size):ObjOk P w H (h.push { cls:=.type "dict",data:=.dict #[] }) h.objs.size (.dK []):=
  ⟨Nat.zero_le _,beq_eq_false_iff_ne.mpr (Ne.symm (Nat.ne_of_lt hb)),[],.nil,Heap.DictOf.new h⟩
noncomputable def Ai7:TE:=fun _ H Q=>∀ p,H p=none→Q (.ref p) (upd H p (.dK []))
section
variable {X:Cx}{pos:Pos}
theorem Ab6:PE X (.Dict [] [] pos) Ai7:=fun pins s σ H Q I h=>
  wpAny_Dict_empty ⟨.ref s.heap.objs.size,_,I.laid (a:=s.heap.objs.size) (o:=.dK []) (t':=s.toks) (fun _ _ q=>Heap.get?_push_of_some _ q) (Nat.le_refl _) (Tw s.heap I.big),rfl,h _ (I.hok.fresh (Nat.le_refl _))⟩
end
noncomputable def Ux:List (TE×TE)→St→Hp→(List (V×V)→Hp→Prop)→Prop
  | [],_,H,Q=>Q [] H
  | (tk,tv)::r,σ,H,Q=>tk σ H fun x H1=>tv σ H1 fun y H2=>Ux r σ H2 fun ps H3=>Q ((x,y)::ps) H3
abbrev VV:List (V×V)→List (Value×Value)→Prop:=Paired fun p q=>RelV p.1 q.1∧RelV p.2 q.2
noncomputable def PPs(X:Cx)(pos:Pos)(keys:List (Option Expr))(values:List Expr)(trs:List (TE×TE)):Prop:=
  ∀ (pins:List (Addr×Obj)) (s:Shared) (σ:St) (H:Hp) (Q:List (V×V)→Hp→Prop),Inv X pins σ H s→Ux trs σ H Q →
    wpAny (model X.prog X.w) X.A (evalPairs (pairTrees keys values X.env pos)) (fun vs s'=>∃ ps H',Inv X pins σ H' s'∧VV ps vs∧Q ps H') X.xe s
theorem Afi{X:Cx}{pos:Pos}:PPs X pos [] [] []:=fun pins s σ H Q I h=>pairTrees_nil_walk ⟨[],H,I,.nil,h⟩
theorem Abx{X:Cx}{pos:Pos}{k v:Expr}{ks:List (Option Expr)}{vs:List Expr}{tk tv:TE}{trs:List (TE×TE)}(hk:PE X k tk)(hv:PE X v tv)(hr:PPs X pos ks vs trs) :
    PPs X pos (some k::ks) (v::vs) ((tk,tv)::trs):=fun pins s σ H Q I h=>
  pairTrees_cons_walk (thn (hk pins s σ H _ I h) fun u s1 zz=>zz.elim fun x H1 I1 rx q1=>thn (hv pins s1 σ H1 _ I1 q1) fun w2 s2 zz=>zz.elim fun y H2 I2 ry q2=>
    thn (hr pins s2 σ H2 _ I2 q2) fun ws s3 ⟨ps,H3,I3,rel,q3⟩=>⟨(x,y)::ps,H3,I3,.cons ⟨rx,ry⟩ rel,q3⟩)
noncomputable def Ox(kvs more:List (Key×V)):List (Key×V):=more.foldl (fun acc kv=>Hr acc kv.1 kv.2) kvs
theorem KV.merge:∀ {more:List (Key×V)} {rs:List (Key×Value)} {kvs:List (Key×V)} {vs:List (Key×Value)},KV more rs→KV kvs vs→KV (Ox kvs more) (merged vs rs):=by
  intro more rs kvs vs r
  unfold KV at r
  induction r generalizing kvs vs with
  | nil=>intro q;exact q
  | @cons p q ps qs h t ih=>
    intro r0
    have e:KV (Hr kvs p.1 p.2) (stored vs q.1 q.2):=by
      have:=r0.put p.1 h.2
      rw[← h.1];exact this
    exact ih e
theorem Jn:∀ (more kvs:List (Key×V)),(Ox kvs more).length≤kvs.length+more.length
  | [],kvs=>by show kvs.length≤kvs.length+0;omega
  | p::r,kvs=>by
    have h1:=Jn r (Hr kvs p.1 p.2)
    have h2:=Ih kvs p.1 p.2
    show (Ox (Hr kvs p.1 p.2) r).length≤_
    rw[List.length_cons];omega
theorem N7{P:Program}{w:World}:∀ {kvs:List (Key×V)} {ws:List (Value×Value)},VV (kvs.map fun kv=>(kV kv.1,kv.2)) ws→∃ rs,Carries (Bv P w) ws rs∧KV kvs rs
  | [],_,r=>by rw[List.map_nil] at r;cases r;exact ⟨[],True.intro,.nil⟩
  | p::kvs,_,r=>by
    rw[List.map_cons] at r
    cases r with
    | @cons a b as bs h t=>
      obtain ⟨rs,c,q⟩:=N7 (P:=P) (w:=w) t
      obtain ⟨b1,b2⟩:=b
      exact ⟨(p.1,b2)::rs,⟨Uk h.1,rfl,c⟩,.cons ⟨rfl,h.2⟩ q⟩
noncomputable def Alw(trs:List (TE×TE)):TE:=fun σ H Q=>∀ p,H p=none→Ux trs σ (upd H p (.dK [])) fun ps H2=>H2 p=some (.dK [])∧∃ kvs:List (Key×V),ps=kvs.map (fun kv=>(kV kv.1,kv.2))∧kvs.length≤15∧Q (.ref p) (upd H2 p (.dK (Ox [] kvs)))
theorem Agc{X:Cx}{pos:Pos}{keys:List (Option Expr)}{values:List Expr}{trs:List (TE×TE)}(h:PPs X pos keys values trs)(hall:keys.all (·.isSome)=true)(hl:keys.length=values.length)(h0:keys≠[])
    (h15:keys.length≤15):PE X (.Dict keys values pos) (Alw trs):=by
  intro pins s σ H Q I q
  have hn:=I.hok.fresh (Nat.le_refl s.heap.objs.size)
  have I1:=I.laid (a:=s.heap.objs.size) (o:=.dK []) (h':=s.heap.push { cls:=.type "dict",data:=.dict #[] }) (t':=s.toks) (fun _ _ q=>Heap.get?_push_of_some _ q) (Nat.le_refl _) (Tw s.heap I.big)
  refine wpAny_Dict_walk (knd:=Bv X.prog X.w) hall hl h0 h15 (thn (h pins _ σ _ _ I1 (q _ hn)) fun ws s2 zz=>?_)
  obtain ⟨ps,H2,I2,rel,e,kvs,ep,lk,q2⟩:=zz
  subst ep
  obtain ⟨rs,c,rk⟩:=N7 (P:=X.prog) (w:=X.w) rel
  obtain ⟨z,hd,vs0,r0,dd⟩:=Adb I2.hok e
  cases r0
  refine ⟨rs,c,dd,fun h' dd' hs=>⟨.ref s.heap.objs.size,_,?_,rfl,q2⟩⟩
  have hz:(Ox [] kvs).length≤sizeLine:=by
    have h1:=Jn kvs []
    rw[List.length_nil] at h1
    rw[sizeLine_eq];omega
  have he:∃ q,h'.get? s.heap.objs.size=some q:=let ⟨q,_,_,hq,_⟩:=dd';⟨q,hq⟩
  exact R1 I2 (by rw[e];exact True.intro) hs he (Acz hz hd (rk.merge .nil) dd')
structure M1(X:Cx)(o:Expr)(m:Str)(apos:Pos)(e:Expr)(cpos:Pos):Prop where
  base:attributeBase o m X.env (eval o X.env)=eval o X.env
  few:((backTo cpos (starEach [e] X.env)).all (fun x=>!x.1)&&(backToKw cpos (keywordEach [] X.env)).all (fun x=>x.1.isSome)
    && decide (([e]:List Expr).length+([]:List Keyword).length+(if ([]:List Keyword).isEmpty then 0 else 1) < 30))=true
  line:(apos.endLine == cpos.line)=true
  trees:backTo cpos (starEach [e] X.env)=[(false,eval e X.env)]
structure M2(X:Cx)(o:Expr)(m:Str)(apos:Pos)(e f:Expr)(cpos:Pos):Prop where
  base:attributeBase o m X.env (eval o X.env)=eval o X.env
  few:((backTo cpos (starEach [e,f] X.env)).all (fun x=>!x.1)&&(backToKw cpos (keywordEach [] X.env)).all (fun x=>x.1.isSome)
    && decide (([e,f]:List Expr).length+([]:List Keyword).length+(if ([]:List Keyword).isEmpty then 0 else 1) < 30))=true
  line:(apos.endLine == cpos.line)=true
  trees:backTo cpos (starEach [e,f] X.env)=[(false,eval e X.env),(false,eval f X.env)]
noncomputable def IsD(H:Hp)(a:Addr):Prop:=(∃ kvs,Rd H a (.dK kvs))∨∃ kvs,Rd H a (.dT kvs)
theorem Aip{X:Cx}{pins:List (Addr×Obj)}{σ:St}{H:Hp}{s:Shared}{a:Addr}(I:Inv X pins σ H s)(d:IsD H a) :
    s.TypeIs (.ref a) "dict" ∧ (∀ b,Value.ref a = .ref b→∃ ob,s.heap.get? b=some ob∧ob.dict=none)∧(a == sysModules)=false:=by
  rcases d with ⟨kvs,e⟩ | ⟨kvs,e⟩
  · obtain ⟨_,hd,vs,_,dd⟩:=Uq I.hok e
    refine ⟨dd.typeIs,fun b q=>?_,hd⟩
    cases q
    obtain ⟨ob,_,_,h1,h2,_⟩:=dd
    exact ⟨ob,h1,h2.2.1⟩
  · obtain ⟨_,hd,xs,_,dd⟩:=Th I.hok e
    refine ⟨dd.typeIs,fun b q=>?_,hd⟩
    cases q
    obtain ⟨ob,_,_,h1,h2,_⟩:=dd
    exact ⟨ob,h1,h2.2.1⟩
section
variable {X:Cx}{pins:List (Addr×Obj)}{σ:St}{H:Hp}{s:Shared}{a:Addr}{y d:V}{u r:Value}{o:Option V}{A:Around}{E:Value→Shared→Prop}
theorem Aj3{Q:Value→Shared→Prop}(hu:A.units+1 < cLine)(I:Inv X pins σ H s)(g:DGet H a y o)(ry:RelV y u)(rd:RelV d r)(h:∀ w' s',Inv X pins σ H s'→RelV (o.getD d) w'→Q w' s') :
    wpAny (model X.prog X.w) A (call (.builtin "dict.get") [.ref a,u,r]) Q E s:=by
  rcases g with ⟨kvs,k,e,ey,l⟩ | ⟨kvs,k,b,e,ey,eb,l⟩
  · subst ey
    obtain ⟨z,hd,vs,rel,dd⟩:=Uq I.hok e
    refine call_meetsIn PySem.F.slot_dict_get dd.typeIs PySem.F.entry_dict_get (PySem.F.args_dict_get_3 _ _ _) (meets_dict_get_default (Bv X.prog X.w) a (Uk ry) hd r) ⟨_,dd.mapOf,h _ _ (I.tok _) ?_⟩
    rw[l]
    exact (rel.val k).getD rd
  · subst ey
    cases (show u=Value.ref b from ry)
    obtain ⟨z,hd,xs,rel,dd⟩:=Th I.hok e
    refine call_meetsIn PySem.F.slot_dict_get dd.typeIs PySem.F.entry_dict_get (PySem.F.args_dict_get_3 _ _ _) (meetsH_dict_get_default (tupleKind (Bv X.prog X.w)) a b hd r) ⟨tupleKind_room_in1 hu,k,xs,Si I.hok eb,dd,h _ _ (I.tok _) ?_⟩
    rw[l]
    exact (rel.val k).getD rd
end
noncomputable def Ajy(td ty tx:TE):TE:=fun σ H Q=>td σ H fun x H1=>∃ a,x = .ref a∧IsD H1 a∧ty σ H1 fun y H2=>tx σ H2 fun z H3=>∃ o,DGet H3 a y o∧Q (o.getD z) H3
section
variable {X:Cx}{o e f:Expr}{apos cpos:Pos}{td ty tx:TE}
theorem Acd(hu:X.A.units+1 < cLine)(ho:PE X o td)(he:PE X e ty)(hf:PE X f tx)(m:M2 X o "get" apos e f cpos):PE X (.Call (.Attribute o "get" apos) [e,f] [] cpos) (Ajy td ty tx):=by
  intro pins s σ H Q I h
  refine wpAny_Call_method m.base m.few m.line PySem.F.plainAttrs_dict PySem.F.slot_dict_get PySem.F.type_dict_get (thn (ho pins s σ H _ I h) fun u s1 zz=>zz.elim fun x H1 I1 rx zq=>?_)
  obtain ⟨a,ex,d,q1⟩:=zq
  subst ex
  obtain rfl:u=Value.ref a:=rx
  obtain ⟨t1,t2,_⟩:=Aip I1 d
  refine ⟨t1,t2,?_⟩
  rw[m.trees]
  refine Calls.callWith_builtin rfl (Calls.evalArgs_plain (Calls.spliced_cons (thn (he pins s1 σ H1 _ I1 q1) fun iv s2 ⟨y,H2,I2,ry,q2⟩=>
    Calls.spliced_cons (thn (hf pins s2 σ H2 _ I2 q2) fun fv s3 zz=>zz.elim fun z H3 I3 rz zq=>Calls.spliced_nil ?_))))
  obtain ⟨ov,g,q3⟩:=zq
  exact Aj3 hu I3 g ry rz fun w' s4 I4 rw'=>⟨_,H3,I4,rw',q3⟩
end
section
variable {X:Cx}{pins:List (Addr×Obj)}{σ:St}{H:Hp}{s:Shared}{a:Addr}{kvs:List (Key×V)}{A:Around}{E:Value→Shared→Prop}
end
section
variable {X:Cx}{pins:List (Addr×Obj)}{σ:St}{H:Hp}{s:Shared}{a:Addr}{y:V}{u:Value}{A:Around}{E:Value→Shared→Prop}
end
end L2
namespace MR
open PySem PySem.Spec PyProof.Rows L2
inductive U where
  | non | bl (b:Bool) | int (i:Int) | str (x:Str) | tup (l:List U) | ref (n:Nat)
inductive HU where
  | lst (xs:List U) | ro (xs:List U) | dic (kvs:List (Key×U)) | rod (kvs:List (Key×U)) | ins (C:Str) (fs:List (Str×U)) | exc (C:Str) (fr:Bool) (fs:List (Str×U))
noncomputable abbrev UH:=List HU
noncomputable abbrev UE:=List (Option U)
section
variable (K:PySem.W.Frag)(H:Hp)(α:List Addr)
mutual
noncomputable def RepU:U→V→Prop
  | .non,v=>v = .non
  | .bl b,v=>v = .bl b
  | .int i,v=>v = .int i
  | .str x,v=>v = .str x
  | .tup l,v=>∃ a xs,v = .ref a∧SqT K H a xs∧RepL l xs
  | .ref n,v=>∃ a,α[n]? = some a∧v = .ref a
noncomputable def RepL:List U→List V→Prop
  | [],xs=>xs=[]
  | u::l,xs=>∃ x r,xs=x::r∧RepU u x∧RepL l r
end
end
noncomputable def Stay(H H':Hp):Prop:=(∀ b xs,H b=some (.tup xs)→H' b=some (.tup xs))∧∀ b o u,H b=some (.frz o u)→H' b=some (.frz o u)
theorem Stay.refl(H:Hp):Stay H H:=⟨fun _ _ q=>q,fun _ _ _ q=>q⟩
theorem Stay.trans{H H1 H2:Hp}(a:Stay H H1)(b:Stay H1 H2):Stay H H2:=⟨fun c xs q=>b.1 c xs (a.1 c xs q),fun c o u q=>b.2 c o u (a.2 c o u q)⟩
theorem Stay.sqT{K:PySem.W.Frag}{H H':Hp}{a:Addr}{xs:List V}(e:Stay H H')(h:SqT K H a xs):SqT K H' a xs:=by
  rcases h with (h | ⟨o,h⟩) | h
  · exact .inl (.inl (e.1 _ _ h))
  · exact .inl (.inr ⟨o,e.2 _ _ _ h⟩)
  · exact .inr h
theorem Stay.new{H:Hp}{p:Addr}(h:H p=none)(o:HO):Stay H (upd H p o):=⟨fun b u q=>by rw[Aw (A8 q h)];exact q,fun b o u q=>by rw[Aw (A8 q h)];exact q⟩
theorem Stay.write{H:Hp}{p:Addr}{o:HO}(h:H p=some o)(m:Mut (some o))(o':HO):Stay H (upd H p o'):=
  ⟨fun b u q=>by rw[Aw (Acj q h (fun z=>by subst z;exact m))];exact q,fun b w u q=>by rw[Aw (Acj q h (fun z=>by subst z;exact m))];exact q⟩
structure Gr(H:Hp)(α:List Addr)(H':Hp)(α':List Addr):Prop where
  pre:∃ β,α' = α ++ β
  st:Stay H H'
theorem Gr.refl(H:Hp)(α:List Addr):Gr H α H α:=⟨⟨[],by simp⟩,.refl H⟩
theorem Gr.trans{H H1 H2:Hp}{α α1 α2:List Addr}(a:Gr H α H1 α1)(b:Gr H1 α1 H2 α2):Gr H α H2 α2:=by
  obtain ⟨⟨β,e⟩,s⟩:=a
  obtain ⟨⟨γ,e'⟩,s'⟩:=b
  exact ⟨⟨β ++ γ,by rw[e',e,List.append_assoc]⟩,s.trans s'⟩
theorem Gr.at{H H':Hp}{α α':List Addr}(g:Gr H α H' α'){n:Nat}{a:Addr}(h:α[n]? = some a):α'[n]? = some a:=by
  obtain ⟨β,e⟩:=g.pre
  have hn:n < α.length:=(List.getElem?_eq_some_iff.mp h).1
  rw[e,List.getElem?_append_left hn];exact h
section
variable {K:PySem.W.Frag}{H H':Hp}{α α':List Addr}
mutual
theorem RepU.mono(g:Gr H α H' α'):∀ (u:U) (v:V),RepU K H α u v→RepU K H' α' u v
  | .non,_,h=>h
  | .bl _,_,h=>h
  | .int _,_,h=>h
  | .str _,_,h=>h
  | .tup l,v,h=>by
    unfold RepU at h ⊢
    obtain ⟨a,xs,e,s,r⟩:=h
    exact ⟨a,xs,e,g.st.sqT s,RepL.mono g l xs r⟩
  | .ref n,v,h=>by
    unfold RepU at h ⊢
    obtain ⟨a,e,q⟩:=h
    exact ⟨a,g.at e,q⟩
theorem RepL.mono(g:Gr H α H' α'):∀ (l:List U) (xs:List V),RepL K H α l xs→RepL K H' α' l xs
  | [],xs,h=>h
  | u::l,xs,h=>by
    unfold RepL at h ⊢
    obtain ⟨x,r,e,h1,h2⟩:=h
    exact ⟨x,r,e,RepU.mono g u x h1,RepL.mono g l r h2⟩
end
theorem RepL.length:∀ {l:List U} {xs:List V},RepL K H α l xs→l.length=xs.length
  | [],xs,h=>by unfold RepL at h;subst h;rfl
  | u::l,xs,h=>by
    unfold RepL at h
    obtain ⟨x,r,e,_,h2⟩:=h
    subst e
    simp[RepL.length h2]
theorem RepL.get:∀ {l:List U} {xs:List V} {i:Nat} {u:U},RepL K H α l xs→l[i]? = some u→∃ x,xs[i]? = some x∧RepU K H α u x
  | [],xs,i,u,h,e=>by simp at e
  | w::l,xs,i,u,h,e=>by
    unfold RepL at h
    obtain ⟨x,r,e',h1,h2⟩:=h
    subst e'
    cases i with
    | zero=>simp at e;subst e;exact ⟨x,rfl,h1⟩
    | succ i=>simpa using RepL.get (i:=i) h2 (by simpa using e)
theorem RepL.nil:RepL K H α [] []:=by unfold RepL;rfl
theorem RepL.cons{u:U}{l:List U}{x:V}{xs:List V}(h:RepU K H α u x)(t:RepL K H α l xs):RepL K H α (u::l) (x::xs):=by
  unfold RepL;exact ⟨x,xs,rfl,h,t⟩
theorem RepL.append:∀ {l l':List U} {xs ys:List V},RepL K H α l xs→RepL K H α l' ys→RepL K H α (l++l') (xs++ys)
  | [],l',xs,ys,h,t=>by unfold RepL at h;subst h;exact t
  | u::l,l',xs,ys,h,t=>by
    unfold RepL at h
    obtain ⟨x,r,e,h1,h2⟩:=h
    subst e
    exact .cons h1 (RepL.append h2 t)
theorem RepL.take:∀ {l:List U} {xs:List V} (n:Nat),RepL K H α l xs→RepL K H α (l.take n) (xs.take n)
  | [],xs,n,h=>by unfold RepL at h;subst h;simp[RepL.nil]
  | u::l,xs,0,h=>by simp[RepL.nil]
  | u::l,xs,n+1,h=>by
    unfold RepL at h
    obtain ⟨x,r,e,h1,h2⟩:=h
    subst e
    exact .cons h1 (RepL.take n h2)
theorem RepL.drop:∀ {l:List U} {xs:List V} (n:Nat),RepL K H α l xs→RepL K H α (l.drop n) (xs.drop n)
  | [],xs,n,h=>by unfold RepL at h;subst h;simp[RepL.nil]
  | u::l,xs,0,h=>h
  | u::l,xs,n+1,h=>by
    unfold RepL at h
    obtain ⟨x,r,e,h1,h2⟩:=h
    subst e
    exact RepL.drop n h2
theorem RepL.set{u:U}{x:V}(q:RepU K H α u x):∀ {l:List U} {xs:List V} (n:Nat),RepL K H α l xs→RepL K H α (l.set n u) (xs.set n x)
  | [],xs,n,h=>by unfold RepL at h;subst h;exact .nil
  | w::l,xs,0,h=>by
    unfold RepL at h
    obtain ⟨y,r,e,h1,h2⟩:=h
    subst e
    exact .cons q h2
  | w::l,xs,n+1,h=>by
    unfold RepL at h
    obtain ⟨y,r,e,h1,h2⟩:=h
    subst e
    exact .cons h1 (RepL.set q n h2)
theorem RepL.erase:∀ {l:List U} {xs:List V} (n:Nat),RepL K H α l xs→RepL K H α (l.eraseIdx n) (xs.eraseIdx n)
  | [],xs,n,h=>by unfold RepL at h;subst h;exact .nil
  | w::l,xs,0,h=>by
    unfold RepL at h
    obtain ⟨y,r,e,h1,h2⟩:=h
    subst e
    exact h2
  | w::l,xs,n+1,h=>by
    unfold RepL at h
    obtain ⟨y,r,e,h1,h2⟩:=h
    subst e
    exact .cons h1 (RepL.erase n h2)
theorem RepL.reverse:∀ {l:List U} {xs:List V},RepL K H α l xs→RepL K H α l.reverse xs.reverse
  | [],xs,h=>by unfold RepL at h;subst h;exact .nil
  | w::l,xs,h=>by
    unfold RepL at h
    obtain ⟨y,r,e,h1,h2⟩:=h
    subst e
    rw[List.reverse_cons,List.reverse_cons]
    exact (RepL.reverse h2).append (.cons h1 .nil)
theorem RepL.ints:∀ (ns:List Int),RepL K H α (ns.map U.int) (ns.map V.int)
  | []=>.nil
  | n::r=>.cons rfl (RepL.ints r)
end
noncomputable def RO(K:PySem.W.Frag)(H:Hp)(a:Addr)(xs:List V):Prop:=
  (∃ o,H a=some (.frz o (.lst xs)))∨∃ (o:Obj) (its:Array Value) (n:Nat),K.lookup a=some o∧o.cls = .type "list" ∧ o.dict=none∧o.data = .seq its n∧its.size≤sizeLine∧Vals xs its.toList
theorem RO.sq{K:PySem.W.Frag}{H:Hp}{a:Addr}{xs:List V}(h:RO K H a xs):SqL K H a xs:=by
  rcases h with ⟨o,h⟩ | h
  · exact .inl (.inr ⟨o,h⟩)
  · exact .inr h
theorem RO.stay{K:PySem.W.Frag}{H H':Hp}{a:Addr}{xs:List V}(st:Stay H H')(h:RO K H a xs):RO K H' a xs:=by
  rcases h with ⟨o,h⟩ | h
  · exact .inl ⟨o,st.2 _ _ _ h⟩
  · exact .inr h
noncomputable def B5(a Ca:Addr)(dd:Option Addr)(fr:Bool)(h:Heap):Prop:=∃ (o:Obj) (vs:Array Value),h.get? a=some o∧o.cls = .ref Ca∧o.dict=dd∧o.data = .fields vs∧1 < vs.size∧o.slots=#[]∧(fr=true→vs[1]? = some .none)
noncomputable def DictIs(H:Hp)(dd:Option Addr)(vs:List (Str×V)):Prop:=match dd with
  | none=>vs=[]
  | some dx=>vs≠[]∧∃ od,H dx=some (.frz od (.xd vs))
theorem DictIs.stay{H H':Hp}{dd:Option Addr}{vs:List (Str×V)}(st:∀ b o ws,H b=some (.frz o (.xd ws))→H' b=some (.frz o (.xd ws)))(h:DictIs H dd vs):DictIs H' dd vs:=by
  cases dd with
  | none=>exact h
  | some dx=>obtain ⟨ne,od,q⟩:=h;exact ⟨ne,od,st _ _ _ q⟩
noncomputable def HRep(K:PySem.W.Frag)(H:Hp)(α:List Addr)(a:Addr):HU→Prop
  | .lst us=>∃ xs,H a=some (.lst xs)∧RepL K H α us xs
  | .ro us=>∃ xs,RO K H a xs∧RepL K H α us xs
  | .dic kvs=>∃ vs,H a=some (.dK vs)∧kvs.map (·.1)=vs.map (·.1)∧RepL K H α (kvs.map (·.2)) (vs.map (·.2))
  | .rod kvs=>∃ o vs,H a=some (.frz o (.dK vs))∧kvs.map (·.1)=vs.map (·.1)∧RepL K H α (kvs.map (·.2)) (vs.map (·.2))
  | .ins C fs=>∃ Ca dx vs,PySem.W.nsIn K mainGlobals C=some (some (.ref Ca))∧H a=some (.ins Ca dx vs)∧fs.map (·.1)=vs.map (·.1)∧RepL K H α (fs.map (·.2)) (vs.map (·.2))
  | .exc C fr fs=>∃ Ca dd vs,PySem.W.nsIn K mainGlobals C=some (some (.ref Ca))∧H a=some (.ext (B5 a Ca dd fr))∧DictIs H dd vs∧fs.map (·.1)=vs.map (·.1)∧RepL K H α (fs.map (·.2)) (vs.map (·.2))
noncomputable def HU.isRo:HU→Bool
  | .ro _=>true
  | _=>false
structure Abs(K:PySem.W.Frag)(H:Hp)(α:List Addr)(L:UH):Prop where
  len:α.length=L.length
  inj:∀ (i j:Nat) (a:Addr) (o o':HU),α[i]? = some a→α[j]? = some a→L[i]? = some o→L[j]? = some o'→i=j∨o.isRo=true∨o'.isRo=true
  rep:∀ (i:Nat) (a:Addr) (o:HU),α[i]? = some a→L[i]? = some o→HRep K H α a o
theorem Abs.addr{K:PySem.W.Frag}{H:Hp}{α:List Addr}{L:UH}(A:Abs K H α L){n:Nat}{o:HU}(h:L[n]? = some o):∃ a,α[n]? = some a∧HRep K H α a o:=by
  have hn:n < α.length:=by rw[A.len];exact (List.getElem?_eq_some_iff.mp h).1
  exact ⟨α[n],List.getElem?_eq_getElem hn,A.rep n _ o (List.getElem?_eq_getElem hn) h⟩
theorem HRep.other{K:PySem.W.Frag}{H H':Hp}{α α':List Addr}{a:Addr}{o:HU}(g:Gr H α H' α')(hs:o.isRo=true∨∀ u,H a=some u→H' a=some u)(h:HRep K H α a o):HRep K H' α' a o:=by
  cases o with
  | lst us=>obtain ⟨xs,e,r⟩:=h;exact ⟨xs,(hs.resolve_left (by simp[HU.isRo])) _ e,r.mono g⟩
  | ro us=>obtain ⟨xs,e,r⟩:=h;exact ⟨xs,e.stay g.st,r.mono g⟩
  | dic kvs=>obtain ⟨vs,e,k,r⟩:=h;exact ⟨vs,(hs.resolve_left (by simp[HU.isRo])) _ e,k,r.mono g⟩
  | rod kvs=>obtain ⟨o,vs,e,k,r⟩:=h;exact ⟨o,vs,(hs.resolve_left (by simp[HU.isRo])) _ e,k,r.mono g⟩
  | ins C fs=>obtain ⟨Ca,dx,vs,n,e,k,r⟩:=h;exact ⟨Ca,dx,vs,n,(hs.resolve_left (by simp[HU.isRo])) _ e,k,r.mono g⟩
  | exc C fr fs=>obtain ⟨Ca,dd,vs,n,e,d,k,r⟩:=h;exact ⟨Ca,dd,vs,n,(hs.resolve_left (by simp[HU.isRo])) _ e,d.stay fun b o ws q=>g.st.2 b o _ q,k,r.mono g⟩
theorem HRep.some{K:PySem.W.Frag}{H:Hp}{α:List Addr}{a:Addr}{o:HU}(h:HRep K H α a o)(n:o.isRo=false):∃ u,H a=some u:=by
  cases o with
  | lst us=>obtain ⟨xs,e,r⟩:=h;exact ⟨_,e⟩
  | ro us=>simp[HU.isRo] at n
  | dic kvs=>obtain ⟨vs,e,k,r⟩:=h;exact ⟨_,e⟩
  | rod kvs=>obtain ⟨o,vs,e,k,r⟩:=h;exact ⟨_,e⟩
  | ins C fs=>obtain ⟨Ca,dx,vs,n',e,k,r⟩:=h;exact ⟨_,e⟩
  | exc C fr fs=>obtain ⟨Ca,dd,vs,n',e,k,r⟩:=h;exact ⟨_,e⟩
theorem Abs.new{K:PySem.W.Frag}{H:Hp}{α:List Addr}{L:UH}{p:Addr}{o:HO}{u:HU}(A:Abs K H α L)(hp:H p=none)(hr:HRep K (upd H p o) (α ++ [p]) p u) :
    Abs K (upd H p o) (α ++ [p]) (L++[u])∧Gr H α (upd H p o) (α ++ [p]):=by
  have g:Gr H α (upd H p o) (α ++ [p]):=⟨⟨[p],rfl⟩,.new hp o⟩
  have hl:=A.len
  refine ⟨⟨by simp[hl],fun i j a o1 o2 e1 e2 e3 e4=>?_,fun i a o1 e1 e2=>?_⟩,g⟩
  · have fresh:∀ (k:Nat) (o3:HU),α[k]? = some p→L[k]? = some o3→o3.isRo=true:=fun k o3 q1 q2=>by
      cases hh:o3.isRo with
      | true=>rfl
      | false=>
        obtain ⟨u3,q⟩:=(A.rep k p o3 q1 q2).some hh
        rw[hp] at q;cases q
    by_cases hi:i < α.length
    · rw[List.getElem?_append_left hi] at e1
      rw[List.getElem?_append_left (by omega)] at e3
      by_cases hj:j < α.length
      · rw[List.getElem?_append_left hj] at e2
        rw[List.getElem?_append_left (by omega)] at e4
        exact A.inj i j a o1 o2 e1 e2 e3 e4
      · rw[List.getElem?_append_right (by omega)] at e2
        have:a=p:=by
          cases hk:j - α.length with
          | zero=>rw[hk] at e2;simp at e2;exact e2.symm
          | succ k=>rw[hk] at e2;simp at e2
        subst this
        exact .inr (.inl (fresh i o1 e1 e3))
    · rw[List.getElem?_append_right (by omega)] at e1
      have hia:a=p∧i = α.length:=by
        cases hk:i - α.length with
        | zero=>rw[hk] at e1;simp at e1;exact ⟨e1.symm,by omega⟩
        | succ k=>rw[hk] at e1;simp at e1
      obtain ⟨rfl,hi'⟩:=hia
      by_cases hj:j < α.length
      · rw[List.getElem?_append_left hj] at e2
        rw[List.getElem?_append_left (by omega)] at e4
        exact .inr (.inr (fresh j o2 e2 e4))
      · rw[List.getElem?_append_right (by omega)] at e2
        have:j = α.length:=by
          cases hk:j - α.length with
          | zero=>omega
          | succ k=>rw[hk] at e2;simp at e2
        exact .inl (by omega)
  · by_cases hi:i < α.length
    · rw[List.getElem?_append_left hi] at e1
      rw[List.getElem?_append_left (by omega)] at e2
      refine (A.rep i a o1 e1 e2).other g ?_
      exact .inr fun u3 q=>by rw[Aw (A8 q hp)];exact q
    · rw[List.getElem?_append_right (by omega)] at e1
      rw[List.getElem?_append_right (by omega)] at e2
      have h1:i - α.length=0:=by
        cases hk:i - α.length with
        | zero=>rfl
        | succ k=>rw[hk] at e1;simp at e1
      rw[h1] at e1
      rw[show i - L.length=0 by omega] at e2
      simp at e1 e2
      subst e1;subst e2
      exact hr
theorem Abs.put{K:PySem.W.Frag}{H:Hp}{α:List Addr}{L:UH}{p:Addr}{n:Nat}{o0 o:HO}{u0 u:HU}(A:Abs K H α L)(hn:α[n]? = some p)(hL:L[n]? = some u0)(hro:u0.isRo=false)(hro':u.isRo=false)(hp:H p=some o0)(hm:Mut (some o0))(hr:HRep K (upd H p o) α p u) :
    Abs K (upd H p o) α (L.set n u)∧Gr H α (upd H p o) α:=by
  have g:Gr H α (upd H p o) α:=⟨⟨[],by simp⟩,.write hp hm o⟩
  have hl:=A.len
  have hlt:n < L.length:=(List.getElem?_eq_some_iff.mp hL).1
  have look:∀ (i:Nat) (o1:HU),(L.set n u)[i]? = some o1→∃ o2,L[i]? = some o2∧o2.isRo=o1.isRo∧(i≠n→o2=o1):=fun i o1 e=>by
    by_cases hi:n=i
    · subst hi
      rw[List.getElem?_set_self hlt] at e
      cases e
      exact ⟨u0,hL,by rw[hro,hro'],fun z=>absurd rfl z⟩
    · rw[List.getElem?_set_ne hi] at e
      exact ⟨o1,e,rfl,fun _=>rfl⟩
  refine ⟨⟨by simp[hl],fun i j a o1 o2 e1 e2 e3 e4=>?_,fun i a o1 e1 e2=>?_⟩,g⟩
  · obtain ⟨x1,q1,r1,_⟩:=look i o1 e3
    obtain ⟨x2,q2,r2,_⟩:=look j o2 e4
    rw[← r1,← r2]
    exact A.inj i j a x1 x2 e1 e2 q1 q2
  · by_cases hi:n=i
    · subst hi
      rw[List.getElem?_set_self hlt] at e2
      cases e2
      rw[hn] at e1;cases e1
      exact hr
    · rw[List.getElem?_set_ne hi] at e2
      refine (A.rep i a o1 e1 e2).other g ?_
      by_cases hap:a=p
      · subst hap
        rcases A.inj i n a o1 u0 e1 hn e2 hL with z | z | z
        · exact absurd z.symm hi
        · exact .inl z
        · rw[hro] at z;cases z
      · exact .inr fun u3 q=>by rw[Aw hap];exact q
structure RepS(K:PySem.W.Frag)(H:Hp)(α:List Addr)(δ:UE)(σ:L2.St):Prop where
  len:δ.length = σ.length
  at_:∀ (i:Nat) (u:U),δ[i]? = some (some u)→∃ v,σ[i]? = some (some v)∧RepU K H α u v
theorem RepS.mono{K:PySem.W.Frag}{H H':Hp}{α α':List Addr}{δ:UE}{σ:L2.St}(g:Gr H α H' α')(h:RepS K H α δ σ):RepS K H' α' δ σ:=
  ⟨h.len,fun i u e=>let ⟨v,q,r⟩:=h.at_ i u e;⟨v,q,r.mono g⟩⟩
theorem RepS.set{K:PySem.W.Frag}{H:Hp}{α:List Addr}{δ:UE}{σ:L2.St}(h:RepS K H α δ σ)(i:Nat){u:U}{v:V}(r:RepU K H α u v):RepS K H α (δ.set i (some u)) (σ.set i (some v)):=
  ⟨by simp[h.len],fun j w e=>by
    by_cases hj:i=j
    · subst hj
      by_cases hi:i < δ.length
      · rw[List.getElem?_set_self hi] at e
        cases e
        exact ⟨v,List.getElem?_set_self (by rw[← h.len];exact hi),r⟩
      · rw[List.getElem?_eq_none (by simpa using hi)] at e;cases e
    · rw[List.getElem?_set_ne hj] at e
      obtain ⟨v',q,r'⟩:=h.at_ j w e
      exact ⟨v',by rw[List.getElem?_set_ne hj];exact q,r'⟩⟩
theorem RepS.start{K:PySem.W.Frag}{H:Hp}{α:List Addr}(N:List Str){us:List U}{vs:List V}(h:RepL K H α us vs):RepS K H α (us.map some++List.replicate (N.length - us.length) none) (start N vs):=by
  have hl:=h.length
  refine ⟨by simp[L2.start,hl],fun i u e=>?_⟩
  by_cases hi:i < us.length
  · rw[List.getElem?_append_left (by simpa using hi),List.getElem?_map] at e
    cases q:us[i]? with
    | none=>rw[q] at e;simp at e
    | some w=>
      rw[q] at e
      simp at e
      subst e
      obtain ⟨x,e2,r⟩:=h.get q
      refine ⟨x,?_,r⟩
      unfold L2.start
      rw[List.getElem?_append_left (by simp;omega),List.getElem?_map,e2];rfl
  · rw[List.getElem?_append_right (by simpa using hi)] at e
    have:=List.mem_of_getElem? e
    simp at this
noncomputable abbrev FE:=UE→UH→Option (U×UH)
noncomputable abbrev FT:=UE→UH→Option (Bool×UH)
noncomputable abbrev FA:=UE→UH→Option (List U×UH)
inductive lE(K:PySem.W.Frag)(f:FE)(σ:L2.St)(H:Hp)(Q:VK):Prop
  | mk (α:List Addr) (δ:UE) (L:UH) (A:Abs K H α L) (S:RepS K H α δ σ) (u:U) (L':UH) (e:f δ L=some (u,L')) (q:∀ v H' α',Gr H α H' α'→Abs K H' α' L'→RepU K H' α' u v→Q v H'):lE K f σ H Q
inductive lT(K:PySem.W.Frag)(f:FT)(σ:L2.St)(H:Hp)(Q:Bool→Hp→Prop):Prop
  | mk (α:List Addr) (δ:UE) (L:UH) (A:Abs K H α L) (S:RepS K H α δ σ) (b:Bool) (L':UH) (e:f δ L=some (b,L')) (q:∀ H' α',Gr H α H' α'→Abs K H' α' L'→Q b H'):lT K f σ H Q
inductive lA(K:PySem.W.Frag)(f:FA)(σ:L2.St)(H:Hp)(Q:List V→Hp→Prop):Prop
  | mk (α:List Addr) (δ:UE) (L:UH) (A:Abs K H α L) (S:RepS K H α δ σ) (us:List U) (L':UH) (e:f δ L=some (us,L')) (q:∀ vs H' α',Gr H α H' α'→Abs K H' α' L'→RepL K H' α' us vs→Q vs H'):lA K f σ H Q
noncomputable def PEF(X:Cx)(e:Expr)(f:FE):Prop:=PE X e (lE X.K f)
noncomputable def PTF(X:Cx)(e:Expr)(f:FT):Prop:=PT X e (lT X.K f)
noncomputable def PWF(X:Cx)(e:Expr)(f:FT):Prop:=PW X e (lT X.K f)
noncomputable def PAF(X:Cx)(es:List Expr)(f:FA):Prop:=PA X es (lA X.K f)
section
variable {X:Cx}{e:Expr}{es:List Expr}
theorem PE.imp{t t':TE}(h:PE X e t)(hi:∀ σ H Q,t' σ H Q→t σ H Q):PE X e t':=fun pins s σ H Q I q=>h pins s σ H Q I (hi σ H Q q)
theorem PT.imp{t t':TT}(h:PT X e t)(hi:∀ σ H Q,t' σ H Q→t σ H Q):PT X e t':=fun pins s σ H Q I q=>h pins s σ H Q I (hi σ H Q q)
theorem PW.imp{t t':TT}(h:PW X e t)(hi:∀ σ H Q,t' σ H Q→t σ H Q):PW X e t':=fun wh pins s σ H Q I q=>h wh pins s σ H Q I (hi σ H Q q)
theorem PA.imp{t t':TA}(h:PA X es t)(hi:∀ σ H Q,t' σ H Q→t σ H Q):PA X es t':=fun pos pins s σ H Q I q=>h pos pins s σ H Q I (hi σ H Q q)
end
noncomputable def Ad(i:Nat):FE:=fun δ L=>(δ[i]?).join.map fun u=>(u,L)
noncomputable def fC(u:U):FE:=fun _ L=>some (u,L)
section
variable {X:Cx}{a b c e:Expr}{pos:Pos}
theorem Ah(i:Nat){x:Str}{pos:Pos}(hN:X.N[i]? = some x:=by rfl)(hv:Vis X.env.scope x:=by first | exact Or.inl rfl | exact Or.inr (Or.inl rfl) | exact Or.inr (Or.inr rfl))
    (hd:(x == ("__debug__" : Str))=false:=by decide) (hcd:(x == ("__classdict__" : Str))=false:=by decide):PEF X (.Name x pos) (Ad i):=by
  refine PE.imp (Ai9 hN hv hd hcd) ?_
  rintro σ H Q ⟨α,δ,L,A,S,u,L',e,q⟩
  unfold Ad at e
  cases h:δ[i]? with
  | none=>rw[h] at e;simp at e
  | some o=>
    cases o with
    | none=>rw[h] at e;simp at e
    | some w=>
      rw[h] at e
      simp at e
      obtain ⟨rfl,rfl⟩:=e
      obtain ⟨v,hv,r⟩:=S.at_ i w h
      exact ⟨v,hv,q v H α (.refl _ _) A r⟩
theorem Aew{v:V}{u:U}(h:PE X e (tC v))(r:∀ H α,RepU X.K H α u v):PEF X e (fC u):=by
  refine PE.imp h ?_
  rintro σ H Q ⟨α,δ,L,A,S,w,L',e,q⟩
  unfold fC at e
  cases e
  exact q v H α (.refl _ _) A (r H α)
theorem Af{i:Int}{j pos}:PEF X (.Constant (.int i) j pos) (fC (.int i)):=Aew Ai4 fun _ _=>rfl
theorem Qj{b:Bool}{j pos}:PEF X (.Constant (.bool b) j pos) (fC (.bl b)):=Aew Ak8 fun _ _=>rfl
theorem Ajc{j pos}:PEF X (.Constant .none j pos) (fC .non):=Aew Ai1 fun _ _=>rfl
theorem Su{x:Str}{j pos}:PEF X (.Constant (.str x) j pos) (fC (.str x)):=Aew Aho fun _ _=>rfl
noncomputable abbrev S2:=U→U→UH→Option (U×UH)
noncomputable def C0(K:PySem.W.Frag)(r:R2)(sem:S2):Prop:=∀ (H:Hp) (α:List Addr) (L:UH) (u w:U) (x y:V) (z:U) (L':UH) (Q:VK),Abs K H α L→RepU K H α u x→RepU K H α w y→sem u w L=some (z,L') →
  (∀ v H' α',Gr H α H' α'→Abs K H' α' L'→RepU K H' α' z v→Q v H')→r x y H Q
noncomputable def f2(sem:S2)(fa fb:FE):FE:=fun δ L=>(fa δ L).bind fun p=>(fb δ p.2).bind fun q=>sem p.1 q.1 q.2
theorem Wl{K:PySem.W.Frag}{r:R2}{sem:S2}{fa fb:FE}(h:C0 K r sem):∀ σ H Q,lE K (f2 sem fa fb) σ H Q→tOp r (lE K fa) (lE K fb) σ H Q:=by
  rintro σ H Q ⟨α,δ,L,A,S,z,L3,e,q⟩
  obtain ⟨⟨u,L1⟩,e1,e⟩:=Option.bind_eq_some_iff.mp e
  obtain ⟨⟨w,L2⟩,e2,e3⟩:=Option.bind_eq_some_iff.mp e
  refine ⟨α,δ,L,A,S,u,L1,e1,fun x H1 α1 g1 A1 r1=>⟨α1,δ,L1,A1,S.mono g1,w,L2,e2,fun y H2 α2 g2 A2 r2=>?_⟩⟩
  exact h H2 α2 L2 u w x y z L3 Q A2 (r1.mono g2) r2 e3 fun v H3 α3 g3 A3 r3=>q v H3 α3 (g1.trans (g2.trans g3)) A3 r3
theorem Av{op:Operator}{r:R2}{sem:S2}{fa fb:FE}(ho:OpR X (binaryOp op) r)(h:C0 X.K r sem)(ha:PEF X a fa)(hb:PEF X b fb):PEF X (.BinOp a op b pos) (f2 sem fa fb):=PE.imp (Akc ho ha hb) (Wl h)
theorem Jz{op:CmpOp}{r:R2}{sem:S2}{fa fb:FE}(ho:OpR X (compareOp op) r)(h:C0 X.K r sem)(ha:PEF X a fa)(hb:PEF X b fb)(hm:behindInMarks op b=false):PEF X (.Compare a [op] [b] pos) (f2 sem fa fb):=PE.imp (Ag7 ho ha hb hm) (Wl h)
noncomputable def Bx(f:FE):FT:=fun δ L=>(f δ L).bind fun p=>match p.1 with | .bl k=>some (k,p.2) | _=>none
theorem Xr{K:PySem.W.Frag}{t:TE}{f:FE}(ht:∀ σ H Q,lE K f σ H Q→t σ H Q):∀ σ H Q,lT K (Bx f) σ H Q→Adu t σ H Q:=by
  rintro σ H Q ⟨α,δ,L,A,S,b,L1,e,q⟩
  obtain ⟨⟨u,L2⟩,e1,e⟩:=Option.bind_eq_some_iff.mp e
  refine ht σ H _ ⟨α,δ,L,A,S,u,L2,e1,fun x H1 α1 g1 A1 r1=>?_⟩
  cases u with
  | bl k=>simp at e;obtain ⟨rfl,rfl⟩:=e;exact ⟨k,r1,q H1 α1 g1 A1⟩
  | _=>simp at e
theorem Ci{op:CmpOp}{r:R2}{sem:S2}{fa fb:FE}(ho:OpR X (compareOp op) r)(h:C0 X.K r sem)(ha:PEF X a fa)(hb:PEF X b fb)(hm:behindInMarks op b=false):PTF X (.Compare a [op] [b] pos) (Bx (f2 sem fa fb)):=PT.imp (Afs ho ha hb hm) (Xr (Wl h))
end
section
variable {X:Cx}{a b c e:Expr}{pos:Pos}{rest:List Expr}
noncomputable def Ah7(f g:FT):FT:=fun δ L=>(f δ L).bind fun p=>if p.1=true then g δ p.2 else some (false,p.2)
noncomputable def fOr(f g:FT):FT:=fun δ L=>(f δ L).bind fun p=>if p.1=true then some (true,p.2) else g δ p.2
noncomputable def N8(f:FT):FT:=fun δ L=>(f δ L).map fun p=>(!p.1,p.2)
noncomputable def Lv(f g:FE):FE:=fun δ L=>(f δ L).bind fun p=>match p.1 with | .bl k=>if k=true then g δ p.2 else some (.bl false,p.2) | _=>none
noncomputable def Ams(f g:FE):FE:=fun δ L=>(f δ L).bind fun p=>match p.1 with | .bl k=>if k=true then some (.bl true,p.2) else g δ p.2 | _=>none
noncomputable def Ac8(f:FE):FE:=fun δ L=>(f δ L).bind fun p=>match p.1 with | .bl k=>some (.bl (!k),p.2) | _=>none
noncomputable def fIf(c:FT)(f g:FE):FE:=fun δ L=>(c δ L).bind fun p=>if p.1=true then f δ p.2 else g δ p.2
theorem Aed{f:FT}(ha:PTF X a f):PWF X (.BoolOp .And [a] pos) f:=Afm ha
theorem Kw{f:FT}(ha:PTF X a f):PWF X (.BoolOp .Or [a] pos) f:=Ajt ha
theorem Af8{f g:FT}(ha:PTF X a f)(hb:PWF X (.BoolOp .And (b::rest) pos) g):PWF X (.BoolOp .And (a::b::rest) pos) (Ah7 f g):=by
  refine PW.imp (Ajn ha hb) ?_
  rintro σ H Q ⟨α,δ,L,A,S,z,L3,e,q⟩
  obtain ⟨⟨u,L1⟩,e1,e⟩:=Option.bind_eq_some_iff.mp e
  refine ⟨α,δ,L,A,S,u,L1,e1,fun H1 α1 g1 A1=>?_⟩
  cases u with
  | true=>exact Tz ⟨α1,δ,L1,A1,S.mono g1,z,L3,e,fun H2 α2 g2 A2=>q H2 α2 (g1.trans g2) A2⟩
  | false=>cases e;exact Sy (q H1 α1 g1 A1)
theorem Nd{f g:FT}(ha:PTF X a f)(hb:PWF X (.BoolOp .Or (b::rest) pos) g):PWF X (.BoolOp .Or (a::b::rest) pos) (fOr f g):=by
  refine PW.imp (Ald ha hb) ?_
  rintro σ H Q ⟨α,δ,L,A,S,z,L3,e,q⟩
  obtain ⟨⟨u,L1⟩,e1,e⟩:=Option.bind_eq_some_iff.mp e
  refine ⟨α,δ,L,A,S,u,L1,e1,fun H1 α1 g1 A1=>?_⟩
  cases u with
  | false=>exact Sy ⟨α1,δ,L1,A1,S.mono g1,z,L3,e,fun H2 α2 g2 A2=>q H2 α2 (g1.trans g2) A2⟩
  | true=>cases e;exact Tz (q H1 α1 g1 A1)
theorem PWF.pt{f:FT}(h:PWF X e f):PTF X e f:=PW.pt h
theorem Ja{f:FT}(ha:PTF X a f):PTF X (.UnaryOp .Not a pos) (N8 f):=by
  refine PT.imp (Aj4 ha) ?_
  rintro σ H Q ⟨α,δ,L,A,S,z,L3,e,q⟩
  obtain ⟨⟨u,L1⟩,e1,e⟩:=Option.map_eq_some_iff.mp e
  cases e
  exact ⟨α,δ,L,A,S,u,L1,e1,fun H1 α1 g1 A1=>q H1 α1 g1 A1⟩
theorem Rl{op}{f:FE}(h:PEF X a f):PEF X (.BoolOp op [a] pos) f:=Ais h
theorem Lp{f g:FE}(ha:PEF X a f)(hb:PEF X (.BoolOp .And (b::rest) pos) g):PEF X (.BoolOp .And (a::b::rest) pos) (Lv f g):=by
  refine PE.imp (Ah0 ha hb) ?_
  rintro σ H Q ⟨α,δ,L,A,S,z,L3,e,q⟩
  obtain ⟨⟨u,L1⟩,e1,e⟩:=Option.bind_eq_some_iff.mp e
  refine ⟨α,δ,L,A,S,u,L1,e1,fun v H1 α1 g1 A1 r1=>?_⟩
  cases u with
  | bl k=>
    cases k with
    | true=>exact ⟨true,r1,Tz ⟨α1,δ,L1,A1,S.mono g1,z,L3,e,fun v H2 α2 g2 A2 r=>q v H2 α2 (g1.trans g2) A2 r⟩⟩
    | false=>cases e;exact ⟨false,r1,Sy (q _ H1 α1 g1 A1 rfl)⟩
  | _=>simp at e
theorem Aht{f:FE}(ha:PEF X a f):PEF X (.UnaryOp .Not a pos) (Ac8 f):=by
  refine PE.imp (Ah8 ha) ?_
  rintro σ H Q ⟨α,δ,L,A,S,z,L3,e,q⟩
  obtain ⟨⟨u,L1⟩,e1,e⟩:=Option.bind_eq_some_iff.mp e
  refine ⟨α,δ,L,A,S,u,L1,e1,fun v H1 α1 g1 A1 r1=>?_⟩
  cases u with
  | bl k=>cases e;exact ⟨k,r1,q _ H1 α1 g1 A1 rfl⟩
  | _=>simp at e
theorem Akd{c:Expr}{t:FT}{f g:FE}(hc:PTF X c t)(ha:PEF X a f)(hb:PEF X b g):PEF X (.IfExp c a b pos) (fIf t f g):=by
  refine PE.imp (Adr hc ha hb) ?_
  rintro σ H Q ⟨α,δ,L,A,S,z,L3,e,q⟩
  obtain ⟨⟨u,L1⟩,e1,e⟩:=Option.bind_eq_some_iff.mp e
  refine ⟨α,δ,L,A,S,u,L1,e1,fun H1 α1 g1 A1=>?_⟩
  cases u with
  | true=>exact Tz ⟨α1,δ,L1,A1,S.mono g1,z,L3,e,fun v H2 α2 g2 A2 r=>q v H2 α2 (g1.trans g2) A2 r⟩
  | false=>exact Sy ⟨α1,δ,L1,A1,S.mono g1,z,L3,e,fun v H2 α2 g2 A2 r=>q v H2 α2 (g1.trans g2) A2 r⟩
noncomputable def Ag:FA:=fun _ L=>some ([],L)
noncomputable def Ac(f:FE)(g:FA):FA:=fun δ L=>(f δ L).bind fun p=>(g δ p.2).map fun q=>(p.1::q.1,q.2)
theorem Ae:PAF X [] Ag:=by
  refine PA.imp Lc ?_
  rintro σ H Q ⟨α,δ,L,A,S,z,L3,e,q⟩
  cases e
  exact q [] H α (.refl _ _) A .nil
theorem Aa{es:List Expr}{f:FE}{g:FA}(ha:PEF X e f)(hr:PAF X es g)(hs:starEach (e::es) X.env=(false,eval e X.env)::starEach es X.env:=by rfl):PAF X (e::es) (Ac f g):=by
  refine PA.imp (Ea ha hr hs) ?_
  rintro σ H Q ⟨α,δ,L,A,S,z,L3,e,q⟩
  obtain ⟨⟨u,L1⟩,e1,e⟩:=Option.bind_eq_some_iff.mp e
  obtain ⟨⟨us,L2⟩,e2,e⟩:=Option.map_eq_some_iff.mp e
  cases e
  exact ⟨α,δ,L,A,S,u,L1,e1,fun x H1 α1 g1 A1 r1=>⟨α1,δ,L1,A1,S.mono g1,us,L2,e2,fun xs H2 α2 g2 A2 r2=>q (x::xs) H2 α2 (g1.trans g2) A2 (.cons (r1.mono g2) r2)⟩⟩
noncomputable def small(n:Nat):Bool:=decide (n≤sizeLine)
noncomputable def Vc(g:FA):FE:=fun δ L=>(g δ L).bind fun p=>if small p.1.length=true then some (.tup p.1,p.2) else none
noncomputable def C2(g:FA):FE:=fun δ L=>(g δ L).bind fun p=>if small p.1.length=true then some (.ref p.2.length,p.2++[.lst p.1]) else none
theorem Cq{n:Nat}(h:small n=true):n≤sizeLine:=of_decide_eq_true h
theorem Abs.tup{K:PySem.W.Frag}{H:Hp}{α:List Addr}{L:UH}{p:Addr}{us:List U}{xs:List V}(A:Abs K H α L)(r:RepL K H α us xs)(hp:H p=none) :
    Gr H α (upd H p (.tup xs)) α∧Abs K (upd H p (.tup xs)) α L∧RepU K (upd H p (.tup xs)) α (.tup us) (.ref p):=by
  have g:Gr H α (upd H p (.tup xs)) α:=⟨⟨[],by simp⟩,.new hp _⟩
  refine ⟨g,⟨A.len,A.inj,fun i a o e1 e2=>(A.rep i a o e1 e2).other g (.inr fun u q=>by rw[Aw (A8 q hp)];exact q)⟩,?_⟩
  unfold RepU
  exact ⟨p,xs,rfl,.of upd_same,r.mono g⟩
theorem Abs.lst{K:PySem.W.Frag}{H:Hp}{α:List Addr}{L:UH}{p:Addr}{us:List U}{xs:List V}(A:Abs K H α L)(r:RepL K H α us xs)(hp:H p=none) :
    Gr H α (upd H p (.lst xs)) (α ++ [p])∧Abs K (upd H p (.lst xs)) (α ++ [p]) (L++[.lst us])∧RepU K (upd H p (.lst xs)) (α ++ [p]) (.ref L.length) (.ref p):=by
  have g:Gr H α (upd H p (.lst xs)) (α ++ [p]):=⟨⟨[p],rfl⟩,.new hp _⟩
  obtain ⟨A',_⟩:=A.new (o:=.lst xs) (u:=.lst us) hp ⟨xs,upd_same,r.mono g⟩
  refine ⟨g,A',?_⟩
  unfold RepU
  exact ⟨p,by rw[← A.len];simp,rfl⟩
theorem Wb{es:List Expr}{g:FA}{x1}(h:PAF X es g):PEF X (.Tuple es x1 pos) (Vc g):=by
  refine PE.imp (Ad5 h) ?_
  rintro σ H Q ⟨α,δ,L,A,S,z,L3,e,q⟩
  obtain ⟨⟨us,L1⟩,e1,e⟩:=Option.bind_eq_some_iff.mp e
  refine ⟨α,δ,L,A,S,us,L1,e1,fun xs H1 α1 g1 A1 r1=>?_⟩
  simp only at e
  split at e
  · rename_i hs
    cases e
    refine ⟨by rw[← r1.length];exact Cq hs,fun p hp=>?_⟩
    obtain ⟨g2,A2,r2⟩:=A1.tup r1 hp
    exact q _ _ α1 (g1.trans g2) A2 r2
  · cases e
theorem Cz{es:List Expr}{g:FA}(h:PAF X es g):PEF X (.List es pos) (C2 g):=by
  refine PE.imp (Aiw h) ?_
  rintro σ H Q ⟨α,δ,L,A,S,z,L3,e,q⟩
  obtain ⟨⟨us,L1⟩,e1,e⟩:=Option.bind_eq_some_iff.mp e
  refine ⟨α,δ,L,A,S,us,L1,e1,fun xs H1 α1 g1 A1 r1=>?_⟩
  simp only at e
  split at e
  · rename_i hs
    cases e
    refine ⟨by rw[← r1.length];exact Cq hs,fun p hp=>?_⟩
    obtain ⟨g2,A2,r2⟩:=A1.lst r1 hp
    exact q _ _ _ (g1.trans g2) A2 r2
  · cases e
noncomputable abbrev SC:=List U→UH→Option (U×UH)
noncomputable def Q1(K:PySem.W.Frag)(r:List V→Hp→VK→Prop)(sem:SC):Prop:=∀ (H:Hp) (α:List Addr) (L:UH) (us:List U) (xs:List V) (z:U) (L':UH) (Q:VK),Abs K H α L→RepL K H α us xs→sem us L=some (z,L') →
  (∀ v H' α',Gr H α H' α'→Abs K H' α' L'→RepU K H' α' z v→Q v H')→r xs H Q
noncomputable def Ax(sem:SC)(g:FA):FE:=fun δ L=>(g δ L).bind fun p=>sem p.1 p.2
theorem Aha{K:PySem.W.Frag}{r:List V→Hp→VK→Prop}{sem:SC}{g:FA}(h:Q1 K r sem):∀ σ H Q,lE K (Ax sem g) σ H Q→tCB r (lA K g) σ H Q:=by
  rintro σ H Q ⟨α,δ,L,A,S,z,L3,e,q⟩
  obtain ⟨⟨us,L1⟩,e1,e⟩:=Option.bind_eq_some_iff.mp e
  exact ⟨α,δ,L,A,S,us,L1,e1,fun xs H1 α1 g1 A1 r1=>h H1 α1 L1 us xs z L3 Q A1 r1 e fun v H2 α2 g2 A2 r2=>q v H2 α2 (g1.trans g2) A2 r2⟩
variable {x:Str}{p:Pos}{es:List Expr}{id T:String}{r:List V→Hp→VK→Prop}{sem:SC}{g:FA}
theorem Be(hc:CallR X (.builtin id) r)(h:Q1 X.K r sem)(hg:Gl X x)(hm:X.mg x=none)(hv:bootBuiltins x=some (.builtin id))(ha:PAF X (e::es) g)(hn:x ≠ "__name__" := by decide)(hdb:(x == ("__debug__" : Str))=false:=by decide)
    (he:starEach (e::es) X.env=(false,eval e X.env)::starEach es X.env:=by rfl) (hpl:(backTo pos (starEach es X.env)).any (·.1)=false:=by rfl) :
    PEF X (.Call (.Name x p) (e::es) [] pos) (Ax sem g):=PE.imp (Ic hc hg hm hv ha hn hdb he hpl) (Aha h)
theorem Aah(hc:CallR X (.type T) r)(h:Q1 X.K r sem)(hg:Gl X x)(hm:X.mg x=none)(hv:bootBuiltins x=some (.type T))(ha:PAF X (e::es) g)(hn:x ≠ "__name__" := by decide)(hdb:(x == ("__debug__" : Str))=false:=by decide)
    (he:starEach (e::es) X.env=(false,eval e X.env)::starEach es X.env:=by rfl) (hpl:(backTo pos (starEach es X.env)).any (·.1)=false:=by rfl) :
    PEF X (.Call (.Name x p) (e::es) [] pos) (Ax sem g):=PE.imp (Xt hc hg hm hv ha hn hdb he hpl) (Aha h)
noncomputable abbrev SM:=U→List U→UH→Option (U×UH)
noncomputable def Ac7(K:PySem.W.Frag)(r:V→List V→Hp→VK→Prop)(sem:SM):Prop:=∀ (H:Hp) (α:List Addr) (L:UH) (u:U) (us:List U) (x:V) (xs:List V) (z:U) (L':UH) (Q:VK),Abs K H α L→RepU K H α u x→RepL K H α us xs→sem u us L=some (z,L') →
  (∀ v H' α',Gr H α H' α'→Abs K H' α' L'→RepU K H' α' z v→Q v H')→r x xs H Q
noncomputable def tyU(T:String)(u:U)(L:UH):Bool:=match u with
  | .str _=>T == "str"
  | .int _=>T == "int"
  | .tup _=>T == "tuple"
  | .ref n=>match L[n]? with
    | some (.lst _)=>T == "list"
    | some (.ro _)=>T == "list"
    | some (.dic _)=>T == "dict"
    | _=>false
  | _=>false
theorem Aja{K:PySem.W.Frag}{H:Hp}{α:List Addr}{L:UH}{u:U}{x:V}(A:Abs K H α L)(r:RepU K H α u x)(h:tyU T u L=true):tyV K T x H:=by
  cases u with
  | str y=>unfold RepU at r;subst r;simpa[tyU,tyV] using h
  | int i=>unfold RepU at r;subst r;simpa[tyU,tyV] using h
  | ref n=>
    unfold RepU at r
    obtain ⟨a,ea,rfl⟩:=r
    unfold tyU at h
    simp only at h
    cases q:L[n]? with
    | none=>rw[q] at h;simp at h
    | some o=>
      have hr:=A.rep n a o ea q
      rw[q] at h
      cases o with
      | lst us=>simp at h;obtain ⟨xs,e,_⟩:=hr;exact .inl ⟨h,xs,.of e⟩
      | ro us=>simp at h;obtain ⟨xs,e,_⟩:=hr;exact .inl ⟨h,xs,e.sq⟩
      | dic kvs=>simp at h;obtain ⟨vs,e,_⟩:=hr;exact .inr (.inr (.inl ⟨h,.inl ⟨vs,e⟩⟩))
      | rod kvs=>simp at h
      | ins C fs=>simp at h
      | exc C fr fs=>simp at h
  | non=>simp[tyU] at h
  | bl b=>simp[tyU] at h
  | tup l=>
    unfold RepU at r
    obtain ⟨a,ys,rfl,sq,_⟩:=r
    have hT:T = "tuple" := by simpa[tyU] using h
    exact .inr (.inl ⟨hT,ys,sq⟩)
noncomputable def Gk(T:String)(sem:SM)(f:FE)(g:FA):FE:=fun δ L=>(f δ L).bind fun p=>if tyU T p.1 p.2=true then (g δ p.2).bind fun q=>sem p.1 q.1 q.2 else none
theorem Al7{K:PySem.W.Frag}{r:V→List V→Hp→VK→Prop}{sem:SM}{f:FE}{g:FA}(h:Ac7 K r sem):∀ σ H Q,lE K (Gk T sem f g) σ H Q→tBM K T r (lE K f) (lA K g) σ H Q:=by
  rintro σ H Q ⟨α,δ,L,A,S,z,L3,e,q⟩
  obtain ⟨⟨u,L1⟩,e1,e⟩:=Option.bind_eq_some_iff.mp e
  simp only at e
  split at e
  · rename_i ht
    obtain ⟨⟨us,L2⟩,e2,e⟩:=Option.bind_eq_some_iff.mp e
    refine ⟨α,δ,L,A,S,u,L1,e1,fun x H1 α1 g1 A1 r1=>⟨Aja A1 r1 ht,α1,δ,L1,A1,S.mono g1,us,L2,e2,fun xs H2 α2 g2 A2 r2=>?_⟩⟩
    exact h H2 α2 L2 u us x xs z L3 Q A2 (r1.mono g2) r2 e fun v H3 α3 g3 A3 r3=>q v H3 α3 (g1.trans (g2.trans g3)) A3 r3
  · cases e
section
variable {o e:Expr}{es:List Expr}{f:FE}{g:FA}{name:Str}{apos cpos:Pos}{T id:String}{r:V→List V→Hp→VK→Prop}{sem:SM}
theorem Na(pa:PlainAttrs T)(slot:Slot T name id)(hty:typeOf (.builtin id)=pure (.type "method_descriptor"))(hm:MtR X id r)(h:Ac7 X.K r sem)(ho:PEF X o f)(ha:PAF X (e::es) g)
    (hbase:attributeBase o name X.env (eval o X.env)=eval o X.env:=by rfl)
    (hfew:((backTo cpos (starEach (e::es) X.env)).all (fun x=>!x.1)&&(backToKw cpos (keywordEach [] X.env)).all (fun x=>x.1.isSome)&&decide ((e::es).length+([]:List Keyword).length+(if ([]:List Keyword).isEmpty then 0 else 1) < 30))=true:=by rfl)
    (hline:(apos.endLine == cpos.line)=true:=by rfl) (hst:starEach (e::es) X.env=(false,eval e X.env)::starEach es X.env:=by rfl) (hpl:(backTo cpos (starEach es X.env)).any (·.1)=false:=by rfl) :
    PEF X (.Call (.Attribute o name apos) (e::es) [] cpos) (Gk T sem f g):=
  PE.imp (Akv pa slot hty hm ho ha hbase hfew hline hst hpl) (Al7 h)
end
end
noncomputable abbrev FN:=List U→UH→Option (U×UH)
inductive spF(K:PySem.W.Frag)(n:Nat)(f:FN)(vs:List V)(H:Hp)(Q:VK)(E:XK):Prop
  | mk (α:List Addr) (L:UH) (us:List U) (A:Abs K H α L) (r:RepL K H α us vs) (hl:us.length=n) (u:U) (L':UH) (e:f us L=some (u,L')) (q:∀ v H' α',Gr H α H' α'→Abs K H' α' L'→RepU K H' α' u v→Q v H'):spF K n f vs H Q E
section
variable {X:Cx}{a b c e o:Expr}{es:List Expr}{pos p:Pos}{x:Str}{k:Nat}{f:Addr}{fd:FuncData}{ps:List Str}{F:FN}{g:FA}{fa fb fc:FE}
noncomputable def A9(n:Nat)(F:FN)(g:FA):FE:=fun δ L=>(g δ L).bind fun p=>if p.1.length=n then F p.1 p.2 else none
theorem Ar{n:Nat}(hF:FnOk X.prog X.w X.K X.mg X.base CX0 k f fd ps (spF X.K n F))(hr:Room k X.A)(hg:Gl X x)(hm:X.mg x=some (.ref f))(hk:PySem.W.keepIn X.K (.ref f)=true)(hb:Binds X.K fd ps [])
    (ha:PAF X (e::es) g) (hdb:(x == ("__debug__" : Str))=false:=by decide) (he:starEach (e::es) X.env=(false,eval e X.env)::starEach es X.env:=by rfl) (hpl:(backTo pos (starEach es X.env)).any (·.1)=false:=by rfl) :
    PEF X (.Call (.Name x p) (e::es) [] pos) (A9 n F g):=by
  refine PE.imp (Aez hF hr hg hm hk hb .nil Ak1 ha hdb he hpl) ?_
  rintro σ H Q ⟨α,δ,L,A,S,z,L3,e,q⟩
  obtain ⟨⟨us,L1⟩,e1,e⟩:=Option.bind_eq_some_iff.mp e
  simp only at e
  split at e
  · rename_i hl
    refine ⟨α,δ,L,A,S,us,L1,e1,fun xs H1 α1 g1 A1 r1=>?_⟩
    exact ⟨α1,L1,us,A1,by rw[List.append_nil];exact r1,hl,z,L3,e,fun v H2 α2 g2 A2 r2=>q v H2 α2 (g1.trans g2) A2 r2⟩
  · cases e
theorem B1{r:R2}{sem:S2}(hr:IxR X r)(h:C0 X.K r sem)(ha:PEF X a fa)(hb:PEF X b fb)(hs:Wz b):PEF X (.Subscript a b pos) (f2 sem fa fb):=PE.imp (Alx hr ha hb hs) (Wl h)
noncomputable abbrev FO:=UE→UH→Option (Option Int×UH)
inductive lO(K:PySem.W.Frag)(f:FO)(σ:L2.St)(H:Hp)(Q:Option Int→Hp→Prop):Prop
  | mk (α:List Addr) (δ:UE) (L:UH) (A:Abs K H α L) (S:RepS K H α δ σ) (i:Option Int) (L':UH) (e:f δ L=some (i,L')) (q:∀ H' α',Gr H α H' α'→Abs K H' α' L'→Q i H'):lO K f σ H Q
noncomputable def POF(X:Cx)(e:Option Expr)(f:FO):Prop:=PO X e (lO X.K f)
noncomputable def Mv:FO:=fun _ L=>some (none,L)
noncomputable def Jl(f:FE):FO:=fun δ L=>(f δ L).bind fun p=>match p.1 with | .int i=>some (some i,p.2) | _=>none
theorem PO.imp{e:Option Expr}{t t':TO}(h:PO X e t)(hi:∀ σ H Q,t' σ H Q→t σ H Q):PO X e t':=fun pins s σ H Q I q=>h pins s σ H Q I (hi σ H Q q)
theorem Ua:POF X none Mv:=by
  refine PO.imp Agb ?_
  rintro σ H Q ⟨α,δ,L,A,S,z,L3,e,q⟩
  cases e
  exact q H α (.refl _ _) A
theorem Gj(h:PEF X e fa):POF X (some e) (Jl fa):=by
  refine PO.imp (Afj h) ?_
  rintro σ H Q ⟨α,δ,L,A,S,z,L3,e,q⟩
  obtain ⟨⟨u,L1⟩,e1,e⟩:=Option.bind_eq_some_iff.mp e
  refine ⟨α,δ,L,A,S,u,L1,e1,fun x H1 α1 g1 A1 r1=>?_⟩
  cases u with
  | int i=>cases e;exact ⟨i,r1,q H1 α1 g1 A1⟩
  | _=>simp at e
noncomputable abbrev SS:=U→Option Int→Option Int→UH→Option (U×UH)
noncomputable def Ahk(K:PySem.W.Frag)(r:V→Option Int→Option Int→Hp→VK→Prop)(sem:SS):Prop:=∀ (H:Hp) (α:List Addr) (L:UH) (u:U) (x:V) (lo hi:Option Int) (z:U) (L':UH) (Q:VK),Abs K H α L→RepU K H α u x→sem u lo hi L=some (z,L') →
  (∀ v H' α',Gr H α H' α'→Abs K H' α' L'→RepU K H' α' z v→Q v H')→r x lo hi H Q
noncomputable def fSl(sem:SS)(f:FE)(l h:FO):FE:=fun δ L=>(f δ L).bind fun p=>(l δ p.2).bind fun q=>(h δ q.2).bind fun r=>sem p.1 q.1 r.1 r.2
theorem K6{r:V→Option Int→Option Int→Hp→VK→Prop}{sem:SS}{lo hi:Option Expr}{fl fh:FO}{p2:Pos}(hr:SlR X r)(h:Ahk X.K r sem)(he:PEF X e fa)(hl:POF X lo fl)(hu:POF X hi fh):PEF X (.Subscript e (.Slice lo hi none p2) pos) (fSl sem fa fl fh):=by
  refine PE.imp (Abd hr he hl hu) ?_
  rintro σ H Q ⟨α,δ,L,A,S,z,L3,e,q⟩
  obtain ⟨⟨u,L1⟩,e1,e⟩:=Option.bind_eq_some_iff.mp e
  obtain ⟨⟨i,L2⟩,e2,e⟩:=Option.bind_eq_some_iff.mp e
  obtain ⟨⟨j,L4⟩,e3,e⟩:=Option.bind_eq_some_iff.mp e
  refine ⟨α,δ,L,A,S,u,L1,e1,fun x H1 α1 g1 A1 r1=>⟨α1,δ,L1,A1,S.mono g1,i,L2,e2,fun H2 α2 g2 A2=>⟨α2,δ,L2,A2,(S.mono g1).mono g2,j,L4,e3,fun H3 α3 g3 A3=>?_⟩⟩⟩
  exact h H3 α3 L4 u x i j z L3 Q A3 ((r1.mono g2).mono g3) e fun v H4 α4 g4 A4 r4=>q v H4 α4 (g1.trans (g2.trans (g3.trans g4))) A4 r4
noncomputable def Dy(f:FE):FE:=fun δ L=>(f δ L).bind fun p=>match p.1 with | .int i=>some (.int (-i),p.2) | _=>none
theorem Ep(ha:PEF X a fa):PEF X (.UnaryOp .USub a pos) (Dy fa):=by
  refine PE.imp (Akl Aiu ha) ?_
  rintro σ H Q ⟨α,δ,L,A,S,z,L3,e,q⟩
  obtain ⟨⟨u,L1⟩,e1,e⟩:=Option.bind_eq_some_iff.mp e
  refine ⟨α,δ,L,A,S,u,L1,e1,fun x H1 α1 g1 A1 r1=>?_⟩
  cases u with
  | int i=>cases e;exact ⟨i,r1,q _ H1 α1 g1 A1 rfl⟩
  | _=>simp at e
noncomputable def Nh(s1 s2:S2)(fa fb fc:FE):FE:=fun δ L=>(fa δ L).bind fun p=>(fb δ p.2).bind fun q=>(s1 p.1 q.1 q.2).bind fun r=>match r.1 with
  | .bl k=>if k=true then (fc δ r.2).bind fun t=>s2 q.1 t.1 t.2 else some (.bl false,r.2)
  | _=>none
theorem Aeb{K:PySem.W.Frag}{r r':R2}{s1 s2:S2}(h1:C0 K r s1)(h2:C0 K r' s2):∀ σ H Q,lE K (Nh s1 s2 fa fb fc) σ H Q→Ad9 r r' (lE K fa) (lE K fb) (lE K fc) σ H Q:=by
  rintro σ H Q ⟨α,δ,L,A,S,z,L3,e,q⟩
  obtain ⟨⟨u,L1⟩,e1,e⟩:=Option.bind_eq_some_iff.mp e
  obtain ⟨⟨w,L2⟩,e2,e⟩:=Option.bind_eq_some_iff.mp e
  obtain ⟨⟨t,L4⟩,e3,e⟩:=Option.bind_eq_some_iff.mp e
  refine ⟨α,δ,L,A,S,u,L1,e1,fun x H1 α1 g1 A1 r1=>⟨α1,δ,L1,A1,S.mono g1,w,L2,e2,fun y H2 α2 g2 A2 r2=>?_⟩⟩
  refine h1 H2 α2 L2 u w x y t L4 _ A2 (r1.mono g2) r2 e3 fun v H3 α3 g3 A3 r3=>?_
  cases t with
  | bl k=>
    refine ⟨k,r3,?_⟩
    cases k with
    | true=>
      obtain ⟨⟨s,L5⟩,e4,e⟩:=Option.bind_eq_some_iff.mp e
      refine Tz ⟨α3,δ,L4,A3,((S.mono g1).mono g2).mono g3,s,L5,e4,fun y' H4 α4 g4 A4 r4=>?_⟩
      exact h2 H4 α4 L5 w s y y' z L3 Q A4 ((r2.mono g3).mono g4) r4 e fun v H5 α5 g5 A5 r5=>q v H5 α5 (g1.trans (g2.trans (g3.trans (g4.trans g5)))) A5 r5
    | false=>cases e;exact Sy (q _ H3 α3 (g1.trans (g2.trans g3)) A3 rfl)
  | _=>simp at e
theorem Y8{op op':CmpOp}{r r':R2}{s1 s2:S2}(ho:OpR X (compareOp op) r)(ho':OpR X (compareOp op') r')(h1:C0 X.K r s1)(h2:C0 X.K r' s2)(ha:PEF X a fa)(hb:PEF X b fb)(hc:PEF X c fc)(hm:lastMarks [op,op'] [b,c]=false:=by with_unfolding_all rfl) :
    PTF X (.Compare a [op,op'] [b,c] pos) (Bx (Nh s1 s2 fa fb fc)):=PT.imp (Adj ho ho' ha hb hc hm) (Xr (Aeb h1 h2))
noncomputable def Aaw(u:U)(L:UH):Option Bool:=match u with
  | .non=>some false
  | .bl b=>some b
  | .int i=>some (i != 0)
  | .str y=>if small y.length=true then some ((y.length:Int) != 0) else none
  | .tup l=>some (!l.isEmpty)
  | .ref n=>match L[n]? with
    | some (.lst xs)=>some (!xs.isEmpty)
    | some (.ro xs)=>some (!xs.isEmpty)
    | some (.dic kvs)=>some (!kvs.isEmpty)
    | _=>none
theorem Fx{α β:Type}{l:List α}{m:List β}(h:l.length=m.length):l.isEmpty=m.isEmpty:=by
  cases l <;> cases m <;> simp_all
theorem Ag0{K:PySem.W.Frag}{H:Hp}{α:List Addr}{L:UH}{u:U}{x:V}{k:Bool}(A:Abs K H α L)(r:RepU K H α u x)(h:Aaw u L=some k):Ah3 K x H k:=by
  cases u with
  | non=>unfold RepU at r;subst r;exact (Option.some.inj h).symm
  | bl b=>unfold RepU at r;subst r;exact (Option.some.inj h).symm
  | int i=>unfold RepU at r;subst r;exact (Option.some.inj h).symm
  | str y=>
    unfold RepU at r;subst r
    unfold Aaw at h
    simp only at h
    split at h
    · rename_i hs;cases h;exact ⟨Cq hs,rfl⟩
    · cases h
  | tup l=>
    unfold RepU at r
    obtain ⟨a,xs,rfl,s,r⟩:=r
    exact .inr (.inl ⟨xs,s,by rw[← Fx r.length];exact (Option.some.inj h).symm⟩)
  | ref n=>
    unfold RepU at r
    obtain ⟨a,ea,rfl⟩:=r
    unfold Aaw at h
    simp only at h
    cases q:L[n]? with
    | none=>rw[q] at h;simp at h
    | some o=>
      have hr:=A.rep n a o ea q
      rw[q] at h
      cases o with
      | lst us=>obtain ⟨xs,e,r⟩:=hr;exact .inl ⟨xs,.of e,by rw[← Fx r.length];exact (Option.some.inj h).symm⟩
      | ro us=>obtain ⟨xs,e,r⟩:=hr;exact .inl ⟨xs,e.sq,by rw[← Fx r.length];exact (Option.some.inj h).symm⟩
      | dic kvs=>obtain ⟨vs,e,ek,_⟩:=hr;exact .inr (.inr ⟨vs,e,by rw[← Fx (show kvs.length=vs.length by simpa using congrArg List.length ek)];exact (Option.some.inj h).symm⟩)
      | rod kvs=>simp at h
      | ins C fs=>simp at h
      | exc C fr fs=>simp at h
noncomputable def Lk(f:FE):FT:=fun δ L=>(f δ L).bind fun p=>(Aaw p.1 p.2).map fun k=>(k,p.2)
theorem Hl(ha:PEF X a fa)(he:∀ whole,isTrue a X.env whole=(do let v ← whole;standAt a.pos;holding [v] (truthy v)):=by intro _;rfl):PTF X a (Lk fa):=by
  refine PT.imp (Ac4 ha he) ?_
  rintro σ H Q ⟨α,δ,L,A,S,z,L3,e,q⟩
  obtain ⟨⟨u,L1⟩,e1,e⟩:=Option.bind_eq_some_iff.mp e
  obtain ⟨k,e2,e⟩:=Option.map_eq_some_iff.mp e
  cases e
  exact ⟨α,δ,L,A,S,u,_,e1,fun x H1 α1 g1 A1 r1=>⟨_,Ag0 A1 r1 e2,q H1 α1 g1 A1⟩⟩
end
inductive Fl where
  | nx (δ:UE) | rt (u:U) | bk (δ:UE) | ct (δ:UE)
noncomputable abbrev FS:=UE→UH→Option (Fl×UH)
noncomputable def Post(K:PySem.W.Frag)(D:Ends)(H:Hp)(α:List Addr)(fl:Fl)(L':UH):Prop:=match fl with
  | .nx δ'=>∀ σ' H' α',Gr H α H' α'→Abs K H' α' L'→RepS K H' α' δ' σ'→D.nx σ' H'
  | .bk δ'=>∀ σ' H' α',Gr H α H' α'→Abs K H' α' L'→RepS K H' α' δ' σ'→D.bk σ' H'
  | .ct δ'=>∀ σ' H' α',Gr H α H' α'→Abs K H' α' L'→RepS K H' α' δ' σ'→D.ct σ' H'
  | .rt u=>∀ v H' α',Gr H α H' α'→Abs K H' α' L'→RepU K H' α' u v→D.rt v H'
theorem Post.from{K:PySem.W.Frag}{D:Ends}{H H1:Hp}{α α1:List Addr}{fl:Fl}{L':UH}(g:Gr H α H1 α1)(p:Post K D H α fl L'):Post K D H1 α1 fl L':=by
  cases fl with
  | nx δ=>exact fun σ' H' α' g'=>p σ' H' α' (g.trans g')
  | bk δ=>exact fun σ' H' α' g'=>p σ' H' α' (g.trans g')
  | ct δ=>exact fun σ' H' α' g'=>p σ' H' α' (g.trans g')
  | rt u=>exact fun v H' α' g'=>p v H' α' (g.trans g')
inductive lS(K:PySem.W.Frag)(f:FS)(D:Ends)(σ:L2.St)(H:Hp):Prop
  | mk (α:List Addr) (δ:UE) (L:UH) (A:Abs K H α L) (S:RepS K H α δ σ) (fl:Fl) (L':UH) (e:f δ L=some (fl,L')) (q:Post K D H α fl L'):lS K f D σ H
noncomputable def PSF(X:Cx)(st:Stmt)(f:FS):Prop:=PS X st (lS X.K f)
noncomputable def Nl(X:Cx)(st:List Stmt)(f:FS):Prop:=PSs X st (lS X.K f)
section
variable {X:Cx}{st:Stmt}{rest:List Stmt}{e:Expr}{pos:Pos}{f g:FS}{fe:FE}
theorem PS.imp{t t':TS}(h:PS X st t)(hi:∀ D σ H,t' D σ H→t D σ H):PS X st t':=fun pins s σ H D I q=>h pins s σ H D I (hi D σ H q)
theorem PSs.imp{sts:List Stmt}{t t':TS}(h:PSs X sts t)(hi:∀ D σ H,t' D σ H→t D σ H):PSs X sts t':=fun pins s σ H D I q=>h pins s σ H D I (hi D σ H q)
noncomputable def Dr:FS:=fun δ L=>some (.nx δ,L)
noncomputable def Bf(f g:FS):FS:=fun δ L=>(f δ L).bind fun p=>match p.1 with | .nx δ'=>g δ' p.2 | fl=>some (fl,p.2)
theorem Dc:Nl X [] Dr:=by
  refine PSs.imp Ags ?_
  rintro D σ H ⟨α,δ,L,A,S,fl,L',e,q⟩
  cases e
  exact q σ H α (.refl _ _) A S
theorem Ai(h1:PSF X st f)(h2:Nl X rest g):Nl X (st::rest) (Bf f g):=by
  refine PSs.imp (Abp h1 h2) ?_
  rintro D σ H ⟨α,δ,L,A,S,fl,L',e,q⟩
  obtain ⟨⟨fl1,L1⟩,e1,e⟩:=Option.bind_eq_some_iff.mp e
  refine ⟨α,δ,L,A,S,fl1,L1,e1,?_⟩
  cases fl1 with
  | nx δ1=>exact fun σ1 H1 α1 g1 A1 S1=>⟨α1,δ1,L1,A1,S1,fl,L',e,q.from g1⟩
  | rt u=>cases e;exact q
  | bk δ1=>cases e;exact q
  | ct δ1=>cases e;exact q
theorem Al(h1:PSF X st f):Nl X [st] f:=Agp h1
noncomputable def C8(f:FE):FS:=fun δ L=>(f δ L).map fun p=>(.rt p.1,p.2)
noncomputable def Et(f:FE):FS:=fun δ L=>(f δ L).map fun p=>(.nx δ,p.2)
noncomputable def Akk:FS:=fun _ L=>some (.rt .non,L)
theorem Bm(he:PEF X e fe):PSF X (.Return (some e) pos) (C8 fe):=by
  refine PS.imp (Ahr he) ?_
  rintro D σ H ⟨α,δ,L,A,S,fl,L',e,q⟩
  obtain ⟨⟨u,L1⟩,e1,e⟩:=Option.map_eq_some_iff.mp e
  cases e
  exact ⟨α,δ,L,A,S,u,_,e1,fun v H1 α1 g1 A1 r1=>q v H1 α1 g1 A1 r1⟩
theorem Dv(he:PEF X e fe)(hs:swapsWith e none pos.line X.env=pure false:=by rfl):PSF X (.Expr e pos) (Et fe):=by
  refine PS.imp (Afe he hs) ?_
  rintro D σ H ⟨α,δ,L,A,S,fl,L',e,q⟩
  obtain ⟨⟨u,L1⟩,e1,e⟩:=Option.map_eq_some_iff.mp e
  cases e
  exact ⟨α,δ,L,A,S,u,_,e1,fun v H1 α1 g1 A1 r1=>q σ H1 α1 g1 A1 (S.mono g1)⟩
noncomputable def G0(c:FT)(f g:FS):FS:=fun δ L=>(c δ L).bind fun p=>if p.1=true then f δ p.2 else g δ p.2
theorem El{c:Expr}{a b:List Stmt}{tc:FT}(hc:PTF X c tc)(ha:Nl X a f)(hb:Nl X b g):PSF X (.If c a b pos) (G0 tc f g):=by
  refine PS.imp (Alf hc ha hb) ?_
  rintro D σ H ⟨α,δ,L,A,S,fl,L',e,q⟩
  obtain ⟨⟨u,L1⟩,e1,e⟩:=Option.bind_eq_some_iff.mp e
  refine ⟨α,δ,L,A,S,u,L1,e1,fun H1 α1 g1 A1=>?_⟩
  cases u with
  | true=>exact Tz ⟨α1,δ,L1,A1,S.mono g1,fl,L',e,q.from g1⟩
  | false=>exact Sy ⟨α1,δ,L1,A1,S.mono g1,fl,L',e,q.from g1⟩
noncomputable def Lj:FS:=fun _ _=>none
theorem Qr:PSF X st Lj:=by
  refine PS.imp Acu ?_
  rintro D σ H ⟨α,δ,L,A,S,fl,L',e,q⟩
  cases e
end
noncomputable abbrev FG:=U→UE→UH→Option (UE×UH)
noncomputable abbrev FGs:=List U→UE→UH→Option (UE×UH)
inductive lG(K:PySem.W.Frag)(f:FG)(v:V)(σ:L2.St)(H:Hp)(Q:L2.St→Hp→Prop):Prop
  | mk (α:List Addr) (δ:UE) (L:UH) (u:U) (A:Abs K H α L) (S:RepS K H α δ σ) (r:RepU K H α u v) (δ':UE) (L':UH) (e:f u δ L=some (δ',L')) (q:∀ σ' H' α',Gr H α H' α'→Abs K H' α' L'→RepS K H' α' δ' σ'→Q σ' H'):lG K f v σ H Q
inductive lGs(K:PySem.W.Frag)(f:FGs)(vs:List V)(σ:L2.St)(H:Hp)(Q:L2.St→Hp→Prop):Prop
  | mk (α:List Addr) (δ:UE) (L:UH) (us:List U) (A:Abs K H α L) (S:RepS K H α δ σ) (r:RepL K H α us vs) (δ':UE) (L':UH) (e:f us δ L=some (δ',L')) (q:∀ σ' H' α',Gr H α H' α'→Abs K H' α' L'→RepS K H' α' δ' σ'→Q σ' H'):lGs K f vs σ H Q
noncomputable def PGF(X:Cx)(e:Expr)(f:FG):Prop:=PG X e (lG X.K f)
noncomputable def Ae4(X:Cx)(es:List Expr)(f:FGs):Prop:=PGs X es (lGs X.K f)
section
variable {X:Cx}{e:Expr}{es:List Expr}{pos:Pos}
theorem PG.imp{t t':TG}(h:PG X e t)(hi:∀ v σ H Q,t' v σ H Q→t v σ H Q):PG X e t':=fun pins s σ H v u Q I r q=>h pins s σ H v u Q I r (hi v σ H Q q)
theorem PGs.imp{t t':TGs}(h:PGs X es t)(hi:∀ v σ H Q,t' v σ H Q→t v σ H Q):PGs X es t':=fun pins s σ H v u Q I r q=>h pins s σ H v u Q I r (hi v σ H Q q)
noncomputable def gN(i:Nat):FG:=fun u δ L=>some (δ.set i (some u),L)
theorem Bb{i:Nat}{x:Str}(hN:X.N.Nodup)(hi:X.N[i]? = some x:=by rfl)(hx:Loc X.env.scope x:=by first | exact Or.inl rfl | exact Or.inr rfl)(hf:X.fn x=true∨X.env.scope.names.lookup x=some .local:=by first | exact .inl rfl | exact .inr rfl):PGF X (.Name x pos) (gN i):=by
  refine PG.imp (Xp (i:=i) hN hi hx hf) ?_
  rintro v σ H Q ⟨α,δ,L,u,A,S,r,δ',L',e,q⟩
  cases e
  exact q _ H α (.refl _ _) A (S.set i r)
noncomputable def gNil:FGs:=fun us δ L=>match us with | []=>some (δ,L) | _=>none
noncomputable def gCons(f:FG)(g:FGs):FGs:=fun us δ L=>match us with | []=>none | u::r=>(f u δ L).bind fun p=>g r p.1 p.2
theorem Ug:Ae4 X [] MR.gNil:=by
  refine PGs.imp Agv ?_
  rintro vs σ H Q ⟨α,δ,L,us,A,S,r,δ',L',e,q⟩
  cases us with
  | nil=>cases e;exact ⟨by unfold RepL at r;exact r,q σ H α (.refl _ _) A S⟩
  | cons u us=>cases e
theorem Iw{f:FG}{g:FGs}(h1:PGF X e f)(h2:Ae4 X es g)(hs:(assignEach (e::es) X.env).map (·.2)=assign e X.env::(assignEach es X.env).map (·.2):=by rfl):Ae4 X (e::es) (MR.gCons f g):=by
  refine PGs.imp (Adk h1 h2 hs) ?_
  rintro vs σ H Q ⟨α,δ,L,us,A,S,r,δ',L',e,q⟩
  cases us with
  | nil=>cases e
  | cons u us=>
    unfold RepL at r
    obtain ⟨x,xs,rfl,r1,r2⟩:=r
    obtain ⟨⟨δ1,L1⟩,e1,e⟩:=Option.bind_eq_some_iff.mp e
    refine ⟨x,xs,rfl,α,δ,L,u,A,S,r1,δ1,L1,e1,fun σ1 H1 α1 g1 A1 S1=>?_⟩
    exact ⟨α1,δ1,L1,us,A1,S1,r2.mono g1,δ',L',e,fun σ2 H2 α2 g2 A2 S2=>q σ2 H2 α2 (g1.trans g2) A2 S2⟩
noncomputable def gTup(n:Nat)(g:FGs):FG:=fun u δ L=>match u with | .tup us=>if us.length=n then g us δ L else none | _=>none
theorem Wx{k:Nat}{g:FGs}{n:Nat}(hc:X.calm=true)(h:Ae4 X es g)(hn:(assignEach es X.env).length=n:=by rfl)(hst:(assignEach es X.env).findIdx? (·.1)=none:=by rfl):PGF X (.Tuple es k pos) (MR.gTup n g):=by
  refine PG.imp (Ajv hc h hn hst) ?_
  rintro v σ H Q ⟨α,δ,L,u,A,S,r,δ',L',e,q⟩
  cases u with
  | tup us=>
    unfold RepU at r
    obtain ⟨a,xs,rfl,s,r⟩:=r
    unfold MR.gTup at e
    simp only at e
    split at e
    · rename_i hl
      exact ⟨a,xs,rfl,s,by rw[← r.length];exact hl,α,δ,L,us,A,S,r,δ',L',e,q⟩
    · cases e
  | _=>simp[MR.gTup] at e
noncomputable def Az(fe:FE)(g:FG):FS:=fun δ L=>(fe δ L).bind fun p=>(g p.1 δ p.2).map fun q=>(.nx q.1,q.2)
theorem Mr{tg:Expr}{fe:FE}{g:FG}(he:PEF X e fe)(hg:PGF X tg g)(hs:swapsWithSole [tg] e pos.line X.env=pure false:=by rfl)(hw:swappedStores [tg] e X.env=pure none:=by rfl)(h1:(assignEach [tg] X.env).map (·.2)=[assign tg X.env]:=by rfl) :
    PSF X (.Assign [tg] e pos) (Az fe g):=by
  refine PS.imp (Ajp he hg hs hw h1) ?_
  rintro D σ H ⟨α,δ,L,A,S,fl,L',e,q⟩
  obtain ⟨⟨u,L1⟩,e1,e⟩:=Option.bind_eq_some_iff.mp e
  obtain ⟨⟨δ2,L2⟩,e2,e⟩:=Option.map_eq_some_iff.mp e
  cases e
  exact ⟨α,δ,L,A,S,u,L1,e1,fun v H1 α1 g1 A1 r1=>⟨α1,δ,L1,u,A1,S.mono g1,r1,δ2,_,e2,fun σ2 H2 α2 g2 A2 S2=>q σ2 H2 α2 (g1.trans g2) A2 S2⟩⟩
theorem Aq{i:Nat}{x:Str}{fe:FE}{pos':Pos}(hN:X.N.Nodup)(he:PEF X e fe)(hi:X.N[i]? = some x:=by rfl)(hx:Loc X.env.scope x:=by first | exact Or.inl rfl | exact Or.inr rfl)
    (hs:swapsWith e (some (.Name x pos')) pos.line X.env=pure false:=by rfl) (hf:X.fn x=true∨X.env.scope.names.lookup x=some .local:=by first | exact .inl rfl | exact .inr rfl) :
    PSF X (.Assign [.Name x pos'] e pos) (Az fe (gN i)):=by
  refine PS.imp (Aiy (i:=i) hN hi hx he hs hf) ?_
  rintro D σ H ⟨α,δ,L,A,S,fl,L',e,q⟩
  obtain ⟨⟨u,L1⟩,e1,e⟩:=Option.bind_eq_some_iff.mp e
  obtain ⟨⟨δ2,L2⟩,e2,e⟩:=Option.map_eq_some_iff.mp e
  cases e
  cases e2
  exact ⟨α,δ,L,A,S,u,_,e1,fun v H1 α1 g1 A1 r1=>q _ H1 α1 g1 A1 ((S.mono g1).set i r1)⟩
end
noncomputable def Dq(L:UH)(n:Nat):Option (List U):=match L[n]? with
  | some (.lst us)=>some us
  | _=>none
noncomputable def Am(L:UH)(n:Nat):Option (List U):=match L[n]? with
  | some (.lst us)=>some us
  | some (.ro us)=>some us
  | _=>none
inductive IU where
  | seq (us:List U) | ref (n:Nat) | enm (n:Nat) | zip2 (n m:Nat) | zipT (us:List U) (m:Nat) | zipL (n:Nat) (ws:List U)
noncomputable def Acx:Option U→Option U→Option U
  | some x,some y=>some (.tup [x,y])
  | _,_=>none
noncomputable def IU.at(i:IU)(k:Nat)(L:UH):Option (Option U):=match i with
  | .seq us=>some us[k]?
  | .ref n=>match L[n]? with
    | some (.lst us)=>some us[k]?
    | some (.ro us)=>some us[k]?
    | _=>none
  | .enm n=>(Am L n).map fun us=>(us[k]?).map fun u=>.tup [.int k,u]
  | .zip2 n m=>(Am L n).bind fun us=>(Am L m).map fun ws=>Acx us[k]? ws[k]?
  | .zipT us m=>(Am L m).map fun ws=>Acx us[k]? ws[k]?
  | .zipL n ws=>(Am L n).map fun us=>Acx us[k]? ws[k]?
noncomputable def IU.size(i:IU)(L:UH):Nat:=match i with
  | .seq us=>us.length
  | .ref n=>match L[n]? with
    | some (.lst us)=>us.length
    | some (.ro us)=>us.length
    | _=>0
  | .enm n=>match Am L n with
    | some us=>us.length
    | none=>0
  | .zip2 n m=>match Am L n,Am L m with
    | some us,some ws=>min us.length ws.length
    | _,_=>0
  | .zipT us m=>match Am L m with
    | some ws=>min us.length ws.length
    | none=>0
  | .zipL n ws=>match Am L n with
    | some us=>min us.length ws.length
    | none=>0
noncomputable abbrev FI:=UE→UH→Option (IU×UH)
noncomputable def K7(K:PySem.W.Frag)(J:It)(i:IU)(H:Hp)(α:List Addr):Prop:=∀ (H2:Hp) (α2:List Addr) (L2:UH),Gr H α H2 α2→Abs K H2 α2 L2→∀ k:Nat,
  (∀ u,i.at k L2=some (some u)→J.go k H2∧∀ x H3,J.yld k H2 x H3→Gr H2 α2 H3 α2∧Abs K H3 α2 L2∧RepU K H3 α2 u x)∧(i.at k L2=some none→J.stop k H2)
inductive lI(K:PySem.W.Frag)(f:FI)(σ:L2.St)(H:Hp)(R:It→Hp→Prop):Prop
  | mk (α:List Addr) (δ:UE) (L:UH) (A:Abs K H α L) (S:RepS K H α δ σ) (i:IU) (L':UH) (e:f δ L=some (i,L')) (q:∀ J H' α',Gr H α H' α'→Abs K H' α' L'→K7 K J i H' α'→R J H'):lI K f σ H R
noncomputable def PIF(X:Cx)(tg iter:Expr)(f:FI):Prop:=PI X tg iter (lI X.K f)
section
variable {X:Cx}{tg iter l:Expr}{pos:Pos}{fe:FE}
theorem PI.imp{t t':TI}(h:PI X tg iter t)(hi:∀ σ H R,t' σ H R→t σ H R):PI X tg iter t':=fun pins s σ H R I q=>h pins s σ H R I (hi σ H R q)
theorem PI.or{t t':TI}(h:PI X tg iter t)(h':PI X tg iter t'):PI X tg iter (fun σ H R=>t σ H R∨t' σ H R):=fun pins s σ H R I q=>by
  rcases q with q | q
  · exact h pins s σ H R I q
  · exact h' pins s σ H R I q
noncomputable def Nw(u:U)(L:UH):Option IU:=match u with
  | .tup us=>some (.seq us)
  | .ref n=>match L[n]? with
    | some (.lst _)=>some (.ref n)
    | some (.ro _)=>some (.ref n)
    | _=>none
  | _=>none
theorem Ww{K:PySem.W.Frag}{H:Hp}{α:List Addr}{n:Nat}{a:Addr}(ea:α[n]? = some a):K7 K (Itl K a) (.ref n) H α:=by
  intro H2 α2 L2 g A2 k
  have ea2:=g.at ea
  have go:∀ (us:List U) (xs:List V),SqL K H2 a xs→RepL K H2 α2 us xs→(∀ ys,SqL K H2 a ys→True)→(∀ u,us[k]? = some u→(Itl K a).go k H2∧∀ x H3,(Itl K a).yld k H2 x H3→Gr H2 α2 H3 α2∧Abs K H3 α2 L2∧RepU K H3 α2 u x)∧(us[k]? = none→(Itl K a).stop k H2):=by
    intro us xs sq r _
    refine ⟨fun u eu=>?_,fun eu=>?_⟩
    · obtain ⟨x,ex,rx⟩:=r.get eu
      refine ⟨⟨xs,x,sq,ex⟩,?_⟩
      rintro y H3 ⟨rfl,hy⟩
      have:=hy xs sq
      rw[ex] at this;cases this
      exact ⟨.refl _ _,A2,rx⟩
    · exact ⟨xs,sq,by rw[← r.length];exact List.getElem?_eq_none_iff.mp eu⟩
  unfold IU.at
  simp only
  cases q:L2[n]? with
  | none=>simp
  | some o=>
    have hr:=A2.rep n a o ea2 q
    cases o with
    | lst us=>
      obtain ⟨xs,e,r⟩:=hr
      obtain ⟨h1,h2⟩:=go us xs (.of e) r fun _ _=>trivial
      exact ⟨fun u eu=>h1 u (Option.some.inj eu),fun eu=>h2 (Option.some.inj eu)⟩
    | ro us=>
      obtain ⟨xs,e,r⟩:=hr
      obtain ⟨h1,h2⟩:=go us xs e.sq r fun _ _=>trivial
      exact ⟨fun u eu=>h1 u (Option.some.inj eu),fun eu=>h2 (Option.some.inj eu)⟩
    | dic kvs=>simp
    | rod kvs=>simp
    | ins C fs=>simp
    | exc C fr fs=>simp
theorem Agh{K:PySem.W.Frag}{H:Hp}{α:List Addr}{us:List U}{xs:List V}{a:Addr}(sq:SqT K H a xs)(r:RepL K H α us xs):K7 K (Itt K a) (.seq us) H α:=by
  intro H2 α2 L2 g A2 k
  have sq2:=g.st.sqT (K:=K) sq
  have r2:=r.mono g
  refine ⟨fun u eu=>?_,fun eu=>?_⟩
  · obtain ⟨x,ex,rx⟩:=r2.get (Option.some.inj eu)
    refine ⟨⟨xs,x,sq2,ex⟩,?_⟩
    rintro y H3 ⟨rfl,hy⟩
    have:=hy xs sq2
    rw[ex] at this;cases this
    exact ⟨.refl _ _,A2,rx⟩
  · exact ⟨xs,sq2,by rw[← r2.length];exact List.getElem?_eq_none_iff.mp (Option.some.inj eu)⟩
theorem Xj{K:PySem.W.Frag}{H:Hp}{α:List Addr}(lo:Int)(n:Nat):K7 K (Itr lo n) (.seq ((List.range n).map fun i=>U.int (lo+(i:Nat)))) H α:=by
  intro H2 α2 L2 g A2 k
  refine ⟨fun u eu=>?_,fun eu=>?_⟩
  · have eu:=Option.some.inj eu
    rw[List.getElem?_map] at eu
    by_cases hk:k < n
    · rw[List.getElem?_range hk] at eu
      simp at eu
      refine ⟨hk,?_⟩
      rintro x H3 ⟨rfl,rfl⟩
      subst eu
      exact ⟨.refl _ _,A2,rfl⟩
    · rw[List.getElem?_eq_none (by simpa using hk)] at eu
      simp at eu
  · have:=List.getElem?_eq_none_iff.mp (Option.some.inj eu)
    show n≤k
    simpa using this
noncomputable def Dm(f:FE):FI:=fun δ L=>(f δ L).bind fun p=>(Nw p.1 p.2).map fun i=>(i,p.2)
theorem Hc(h:PEF X l fe):PIF X tg l (Dm fe):=by
  refine PI.imp (PI.or (Aeu h) (Ai6 h)) ?_
  rintro σ H R ⟨α,δ,L,A,S,i,L3,e,q⟩
  obtain ⟨⟨u,L1⟩,e1,e⟩:=Option.bind_eq_some_iff.mp e
  obtain ⟨j,e2,e⟩:=Option.map_eq_some_iff.mp e
  cases e
  cases u with
  | tup us=>
    cases e2
    refine .inr ⟨α,δ,L,A,S,_,_,e1,fun x H1 α1 g1 A1 r1=>?_⟩
    unfold RepU at r1
    obtain ⟨a,xs,rfl,sq,r⟩:=r1
    exact ⟨a,rfl,⟨xs,sq⟩,q _ H1 α1 g1 A1 (Agh sq r)⟩
  | ref n=>
    refine .inl ⟨α,δ,L,A,S,_,_,e1,fun x H1 α1 g1 A1 r1=>?_⟩
    unfold RepU at r1
    obtain ⟨a,ea,rfl⟩:=r1
    refine ⟨a,rfl,?_⟩
    unfold Nw at e2
    simp only at e2
    cases w:L1[n]? with
    | none=>simp only[w] at e2;cases e2
    | some o=>
      have hr:=A1.rep n a o ea w
      cases o with
      | lst us=>simp only[w] at e2;cases e2;obtain ⟨xs,e,r⟩:=hr;exact ⟨⟨xs,.of e⟩,q _ H1 α1 g1 A1 (Ww ea)⟩
      | ro us=>simp only[w] at e2;cases e2;obtain ⟨xs,e,r⟩:=hr;exact ⟨⟨xs,e.sq⟩,q _ H1 α1 g1 A1 (Ww ea)⟩
      | dic kvs=>simp only[w] at e2;cases e2
      | rod kvs=>simp only[w] at e2;cases e2
      | ins C fs=>simp only[w] at e2;cases e2
      | exc C fr fs=>simp only[w] at e2;cases e2
  | _=>cases e2
noncomputable def Ay(lo:Int)(n:Nat):List U:=(List.range n).map fun i=>U.int (lo+(i:Nat))
noncomputable def C3(g:FA):FI:=fun δ L=>(g δ L).bind fun p=>match p.1 with
  | [.int j]=>if -(2 ^ 62)≤j∧j < 2 ^ 62 then some (.seq (Ay 0 j.toNat),p.2) else none
  | _=>none
noncomputable def Pu(g:FA):FI:=fun δ L=>(g δ L).bind fun p=>match p.1 with
  | [.int i,.int j]=>if (-(2 ^ 62)≤i∧i < 2 ^ 62)∧-(2 ^ 62)≤j∧j < 2 ^ 62 then some (.seq (Ay i (j - i).toNat),p.2) else none
  | _=>none
theorem RepL.one{K:PySem.W.Frag}{H:Hp}{α:List Addr}{u:U}{xs:List V}(h:RepL K H α [u] xs):∃ x,xs=[x]∧RepU K H α u x:=by
  unfold RepL at h
  obtain ⟨x,r,e,h1,h2⟩:=h
  unfold RepL at h2
  subst h2
  exact ⟨x,e,h1⟩
theorem RepL.two{K:PySem.W.Frag}{H:Hp}{α:List Addr}{u w:U}{xs:List V}(h:RepL K H α [u,w] xs):∃ x y,xs=[x,y]∧RepU K H α u x∧RepU K H α w y:=by
  unfold RepL at h
  obtain ⟨x,r,e,h1,h2⟩:=h
  obtain ⟨y,e2,h3⟩:=h2.one
  subst e2
  exact ⟨x,y,e,h1,h3⟩
theorem Di{a:Expr}{g:FA}{p pos:Pos}(hg:Gl X "range")(hm:X.mg "range" = none)(ha:PAF X [a] g)(hs:starEach [a] X.env=[(false,eval a X.env)]:=by rfl):PIF X tg (.Call (.Name "range" p) [a] [] pos) (C3 g):=by
  refine PI.imp (Aap hg hm ha hs) ?_
  rintro σ H R ⟨α,δ,L,A,S,i,L3,e,q⟩
  obtain ⟨⟨us,L1⟩,e1,e⟩:=Option.bind_eq_some_iff.mp e
  refine ⟨α,δ,L,A,S,us,L1,e1,fun xs H1 α1 g1 A1 r1=>?_⟩
  simp only at e
  split at e
  · rename_i _ j
    split at e
    · rename_i hj
      cases e
      obtain ⟨x,rfl,rx⟩:=r1.one
      unfold RepU at rx
      subst rx
      exact ⟨j,rfl,hj.1,hj.2,q _ H1 α1 g1 A1 (Xj 0 _)⟩
    · cases e
  · cases e
theorem Va{a b:Expr}{g:FA}{p pos:Pos}(hg:Gl X "range")(hm:X.mg "range" = none)(ha:PAF X [a,b] g)(hs:starEach [a,b] X.env=[(false,eval a X.env),(false,eval b X.env)]:=by rfl)(hs2:starEach [b] X.env=[(false,eval b X.env)]:=by rfl):PIF X tg (.Call (.Name "range" p) [a,b] [] pos) (Pu g):=by
  refine PI.imp (Yz hg hm ha hs hs2) ?_
  rintro σ H R ⟨α,δ,L,A,S,i,L3,e,q⟩
  obtain ⟨⟨us,L1⟩,e1,e⟩:=Option.bind_eq_some_iff.mp e
  refine ⟨α,δ,L,A,S,us,L1,e1,fun xs H1 α1 g1 A1 r1=>?_⟩
  simp only at e
  split at e
  · rename_i _ i j
    split at e
    · rename_i hj
      cases e
      obtain ⟨x,y,rfl,rx,ry⟩:=r1.two
      unfold RepU at rx ry
      subst rx
      subst ry
      exact ⟨i,j,rfl,⟨hj.1.1,hj.1.2,hj.2.1,hj.2.2⟩,q _ H1 α1 g1 A1 (Xj i _)⟩
    · cases e
  · cases e
noncomputable def K9(i:IU)(g:FG)(body:FS):Nat→Nat→UE→UH→Option (Fl×UH)
  | 0,_,_,_=>none
  | m+1,k,δ,L=>match i.at k L with
    | none=>none
    | some none=>some (.nx δ,L)
    | some (some u)=>(g u δ L).bind fun p=>(body p.1 p.2).bind fun q=>match q.1 with
      | .nx δ'=>K9 i g body m (k+1) δ' q.2
      | .ct δ'=>K9 i g body m (k+1) δ' q.2
      | .bk δ'=>some (.nx δ',q.2)
      | .rt w=>some (.rt w,q.2)
noncomputable def Dx(fi:FI)(g:FG)(body:FS):FS:=fun δ L=>(fi δ L).bind fun p=>K9 p.1 g body (p.1.size p.2+1) 0 δ p.2
inductive FI_(K:PySem.W.Frag)(D:Ends)(H1:Hp)(α1:List Addr)(fl:Fl)(L':UH)(go:UE→UH→Option (Fl×UH))(σ2:_root_.L2.St)(H2:Hp):Prop
  | mk (α2:List Addr) (δ2:UE) (L2:UH) (g2:Gr H1 α1 H2 α2) (A2:Abs K H2 α2 L2) (S2:RepS K H2 α2 δ2 σ2) (e2:go δ2 L2=some (fl,L')) (q2:Post K D H2 α2 fl L'):FI_ K D H1 α1 fl L' go σ2 H2
theorem Cc{body:List Stmt}{fi:FI}{g:FG}{fb:FS}(hp:PassesOwn (model X.prog X.w) X.A X.env X.xe)(hc:X.calm=true)(hi:PIF X tg iter fi)(hg:PGF X tg g)(hb:Nl X body fb)
    (hs:∀ x,foldedSetIterable iter X.env x=pure x:=by intro _;rfl):PSF X (.For tg iter body [] pos) (Dx fi g fb):=by
  refine PS.imp (Ahu hp hc hi hg hb hs) ?_
  rintro D σ H ⟨α,δ,L,A,S,fl,L',e,q⟩
  obtain ⟨⟨it,L1⟩,e1,e⟩:=Option.bind_eq_some_iff.mp e
  refine ⟨α,δ,L,A,S,it,L1,e1,fun J H1 α1 g1 A1 hJ=>?_⟩
  refine ⟨fun k m=>FI_ X.K D H1 α1 fl L' (K9 it g fb m k),⟨_,α1,δ,L1,.refl _ _,A1,S.mono g1,e,q.from g1⟩,?_⟩
  rintro k m σ2 H2 ⟨α2,δ2,L2,g2,A2,S2,e2,q2⟩
  cases m with
  | zero=>cases e2
  | succ m=>
    obtain ⟨hgo,hstop⟩:=hJ H2 α2 L2 g2 A2 k
    unfold K9 at e2
    cases hat:it.at k L2 with
    | none=>rw[hat] at e2;cases e2
    | some o=>
      cases o with
      | none=>
        rw[hat] at e2
        cases e2
        exact .inl ⟨hstop hat,q2 σ2 H2 α2 (.refl _ _) A2 S2⟩
      | some u=>
        rw[hat] at e2
        obtain ⟨go,yld⟩:=hgo u hat
        obtain ⟨⟨δ3,L3⟩,e3,e2⟩:=Option.bind_eq_some_iff.mp e2
        obtain ⟨⟨fl4,L4⟩,e4,e2⟩:=Option.bind_eq_some_iff.mp e2
        refine .inr ⟨go,FI_ X.K D H1 α1 fl L' (K9 it g fb m (k+1)),fun σ5 H5 h5=>⟨m,Nat.lt_succ_self _,h5⟩,fun x H3 y3=>?_⟩
        obtain ⟨g3,A3,r3⟩:=yld x H3 y3
        refine ⟨α2,δ2,L2,u,A3,S2.mono g3,r3,δ3,L3,e3,fun σ4 H4 α4 g4 A4 S4=>⟨α4,δ3,L3,A4,S4,fl4,L4,e4,?_⟩⟩
        have gA:=g2.trans (g3.trans g4)
        have gB:=g3.trans g4
        cases fl4 with
        | nx δ5=>exact fun σ5 H5 α5 g5 A5 S5=>⟨α5,δ5,L4,gA.trans g5,A5,S5,e2,q2.from (gB.trans g5)⟩
        | ct δ5=>exact fun σ5 H5 α5 g5 A5 S5=>⟨α5,δ5,L4,gA.trans g5,A5,S5,e2,q2.from (gB.trans g5)⟩
        | bk δ5=>cases e2;exact fun σ5 H5 α5 g5 A5 S5=>q2 σ5 H5 α5 (gB.trans g5) A5 S5
        | rt w=>cases e2;exact fun v H5 α5 g5 A5 r5=>q2 v H5 α5 (gB.trans g5) A5 r5
noncomputable def Fy(c:FT)(body:FS):Nat→UE→UH→Option (Fl×UH)
  | 0,_,_=>none
  | m+1,δ,L=>(c δ L).bind fun p=>if p.1=true then (body δ p.2).bind fun q=>match q.1 with
      | .nx δ'=>Fy c body m δ' q.2
      | .ct δ'=>Fy c body m δ' q.2
      | .bk δ'=>some (.nx δ',q.2)
      | .rt w=>some (.rt w,q.2)
    else some (.nx δ,p.2)
inductive WI_(K:PySem.W.Frag)(D:Ends)(fl:Fl)(L':UH)(go:UE→UH→Option (Fl×UH))(σ2:_root_.L2.St)(H2:Hp):Prop
  | mk (α2:List Addr) (δ2:UE) (L2:UH) (A2:Abs K H2 α2 L2) (S2:RepS K H2 α2 δ2 σ2) (e2:go δ2 L2=some (fl,L')) (q2:Post K D H2 α2 fl L'):WI_ K D fl L' go σ2 H2
theorem Aa0{c:Expr}{body:List Stmt}{tc:FT}{fb:FS}(n:Nat)(hp:PassesOwn (model X.prog X.w) X.A X.env X.xe)(hc:PTF X c tc)(hb:Nl X body fb):PSF X (.While c body [] pos) (Fy tc fb n):=by
  refine PS.imp (Acf hp hc hb) ?_
  rintro D σ H ⟨α,δ,L,A,S,fl,L',e,q⟩
  refine ⟨fun m=>WI_ X.K D fl L' (Fy tc fb m),⟨n,α,δ,L,A,S,e,q⟩,?_⟩
  rintro m σ2 H2 ⟨α2,δ2,L2,A2,S2,e2,q2⟩
  cases m with
  | zero=>cases e2
  | succ m=>
    unfold Fy at e2
    obtain ⟨⟨b,L3⟩,e3,e2⟩:=Option.bind_eq_some_iff.mp e2
    refine ⟨α2,δ2,L2,A2,S2,b,L3,e3,fun H3 α3 g3 A3=>?_⟩
    cases b with
    | false=>cases e2;exact Sy (q2 σ2 H3 α3 g3 A3 (S2.mono g3))
    | true=>
      obtain ⟨⟨fl4,L4⟩,e4,e2⟩:=Option.bind_eq_some_iff.mp e2
      refine Tz ⟨WI_ X.K D fl L' (Fy tc fb m),fun σ5 H5 h5=>⟨m,Nat.lt_succ_self _,h5⟩,?_⟩
      refine ⟨α3,δ2,L3,A3,S2.mono g3,fl4,L4,e4,?_⟩
      cases fl4 with
      | nx δ5=>exact fun σ5 H5 α5 g5 A5 S5=>⟨α5,δ5,L4,A5,S5,e2,q2.from (g3.trans g5)⟩
      | ct δ5=>exact fun σ5 H5 α5 g5 A5 S5=>⟨α5,δ5,L4,A5,S5,e2,q2.from (g3.trans g5)⟩
      | bk δ5=>cases e2;exact fun σ5 H5 α5 g5 A5 S5=>q2 σ5 H5 α5 (g3.trans g5) A5 S5
      | rt w=>cases e2;exact fun v H5 α5 g5 A5 r5=>q2 v H5 α5 (g3.trans g5) A5 r5
end
noncomputable def fnU(n m:Nat)(body:FS):FN:=fun us L=>if us.length=m then (body (us.map some++List.replicate (n - us.length) none) L).bind fun p=>match p.1 with
  | .rt u=>some (u,p.2)
  | .nx _=>some (.non,p.2)
  | _=>none
  else none
section
variable {P:Program}{w:World}{K:PySem.W.Frag}{mg:Str→Option Value}{base:Heap}
theorem Fun.okF{x qual:Str}{st:Stmt}{f:Addr}{fd:FuncData}{N ps:List Str}{k:Nat}{body:FS}(F:Fun K x qual st f fd)(S:FnScope N ps (Aj st))
    (hbody:∀ (cdv:Value) (A:Around) (outer:List PySem.Env) (s:Shared) (H:Hp) (E:XK),Room k (A.deeper (envOfC qual (Aj st) s.heap.objs.size f cdv))→Nl (Sn CX0 P w K mg base N qual (Aj st) f cdv A outer s H E).nox (Bc st) body) :
    FnOk P w K mg base CX0 (k+1) f fd ps (spF K ps.length (fnU N.length ps.length body)):=by
  refine F.ok S (fun vs H Q E ⟨α,L,us,A,r,hl,_,_,_,_⟩=>by rw[← r.length];exact hl) (fun cdv A outer s H vs Q E hr h=>?_)
  obtain ⟨α,L,us,Ab,r,hl,u,L',e,q⟩:=h
  refine ⟨_,hbody cdv A outer s H E hr,?_⟩
  unfold fnU at e
  rw[if_pos hl] at e
  obtain ⟨⟨fl,L1⟩,e1,e⟩:=Option.bind_eq_some_iff.mp e
  refine ⟨α,_,L,Ab,RepS.start N r,fl,L1,e1,?_⟩
  cases fl with
  | rt w=>cases e;exact q
  | nx δ=>cases e;exact fun σ' H' α' g' A' S'=>q .non H' α' g' A' rfl
  | bk δ=>cases e
  | ct δ=>cases e
end
section
variable {K:PySem.W.Frag}{H:Hp}{α:List Addr}{L:UH}{u:U}{x:V}
theorem Oo{n:Nat}{us:List U}(h:Dq L n=some us):L[n]? = some (.lst us):=by
  unfold Dq at h
  split at h
  · rename_i e;cases h;exact e
  · cases h
theorem Kk{n:Nat}{us:List U}(A:Abs K H α L)(h:Dq L n=some us):∃ a xs,α[n]? = some a∧H a=some (.lst xs)∧RepL K H α us xs:=by
  obtain ⟨a,ea,xs,e,r⟩:=A.addr (Oo h)
  exact ⟨a,xs,ea,e,r⟩
theorem Gs{n:Nat}{us:List U}(A:Abs K H α L)(h:Am L n=some us):∃ a xs,α[n]? = some a∧SqL K H a xs∧RepL K H α us xs:=by
  unfold Am at h
  split at h
  · rename_i e;cases h
    obtain ⟨a,ea,xs,e,r⟩:=A.addr e
    exact ⟨a,xs,ea,.of e,r⟩
  · rename_i e;cases h
    obtain ⟨a,ea,xs,e,r⟩:=A.addr e
    exact ⟨a,xs,ea,e.sq,r⟩
  · cases h
theorem Abs.setL{n:Nat}{a:Addr}{xs ys:List V}{us ws:List U}(A:Abs K H α L)(h:Dq L n=some us)(ea:α[n]? = some a)(e:H a=some (.lst xs))(r:RepL K H α ws ys) :
    Gr H α (upd H a (.lst ys)) α∧Abs K (upd H a (.lst ys)) α (L.set n (.lst ws)):=by
  have g:Gr H α (upd H a (.lst ys)) α:=⟨⟨[],by simp⟩,.write e (by exact trivial) _⟩
  obtain ⟨A',_⟩:=A.put (o:=.lst ys) (u:=.lst ws) ea (Oo h) rfl rfl e (by exact trivial) ⟨ys,upd_same,r.mono g⟩
  exact ⟨g,A'⟩
theorem RepU.ref_of{n:Nat}(A:Abs K H α L)(h:RepU K H α (.ref n) x):∃ a,α[n]? = some a∧x = .ref a:=by unfold RepU at h;exact h
end
noncomputable def Ao:S2:=fun u w L=>match u,w with
  | .int i,.int j=>some (.int (i+j),L)
  | .str a,.str b=>if small (a.length+b.length)=true then some (.str (a++b),L) else none
  | .tup a,.tup b=>if a.isEmpty=false∧small (a.length+b.length)=true then some (.tup (a++b),L) else none
  | .ref n,.ref m=>(Dq L n).bind fun a=>(Dq L m).bind fun b=>if small (a.length+b.length)=true then some (.ref L.length,L++[.lst (a++b)]) else none
  | _,_=>none
noncomputable def Ahg(K:PySem.W.Frag):R2:=fun x y H Q=>rI0 (fun i j=>.int (i+j)) x y H Q∨(∃ i j,x = .str i∧y = .str j∧i.length+j.length≤sizeLine∧Q (.str (i++j)) H)∨Ahd K x y H Q∨Al6 x y H Q
theorem Bk{X:Cx}:OpR X (binaryOp .Add) (Ahg X.K):=Ahq.or (Vi.or (Afp.or Ajw))
theorem Bj{K:PySem.W.Frag}:C0 K (Ahg K) Ao:=by
  intro H α L u w x y z L' Q A ru rw e q
  unfold Ao at e
  split at e
  · cases e
    unfold RepU at ru rw
    exact .inl ⟨_,_,ru,rw,q _ H α (.refl _ _) A rfl⟩
  · split at e
    · rename_i h
      cases e
      unfold RepU at ru rw
      exact .inr (.inl ⟨_,_,ru,rw,Cq h,q _ H α (.refl _ _) A rfl⟩)
    · cases e
  · rename_i a b
    split at e
    · rename_i h
      cases e
      unfold RepU at ru rw
      obtain ⟨p,xs,rfl,s1,r1⟩:=ru
      obtain ⟨p2,ys,rfl,s2,r2⟩:=rw
      have e1:=r1.length
      have e2:=r2.length
      refine .inr (.inr (.inl ⟨p,p2,xs,ys,rfl,rfl,s1,s2,?_,by rw[← e1,← e2];exact Cq h.2,fun hy=>?_,fun hy l hl=>?_⟩))
      · intro hx;subst hx
        cases a with
        | nil=>simp at h
        | cons _ _=>simp at e1
      · subst hy
        have hb:b=[]:=by
          cases b with
          | nil=>rfl
          | cons _ _=>simp at e2
        subst hb
        refine q _ H α (.refl _ _) A ?_
        unfold RepU
        exact ⟨p,xs,rfl,s1,by rw[List.append_nil];exact r1⟩
      · obtain ⟨g,A',r⟩:=A.tup (r1.append r2) hl
        exact q _ _ α g A' r
    · cases e
  · rename_i n m
    obtain ⟨a,ha,e⟩:=Option.bind_eq_some_iff.mp e
    obtain ⟨b,hb,e⟩:=Option.bind_eq_some_iff.mp e
    split at e
    · rename_i h
      cases e
      obtain ⟨p,xs,e1,h1,r1⟩:=Kk A ha
      obtain ⟨p2,ys,e2,h2,r2⟩:=Kk A hb
      obtain ⟨p',e1',rfl⟩:=ru.ref_of A
      obtain ⟨p2',e2',rfl⟩:=rw.ref_of A
      rw[e1] at e1';cases e1'
      rw[e2] at e2';cases e2'
      refine .inr (.inr (.inr ⟨p,p2,xs,ys,rfl,rfl,h1,h2,by rw[← r1.length,← r2.length];exact Cq h,fun l hl=>?_⟩))
      obtain ⟨g,A',r⟩:=A.lst (r1.append r2) hl
      exact q _ _ _ g A' r
    · cases e
  · cases e
noncomputable def Abe(C:Int→Int→Bool)(g:Int→Int→U):S2:=fun u w L=>match u,w with
  | .int i,.int j=>if C i j=true then some (g i j,L) else none
  | _,_=>none
theorem Aea{K:PySem.W.Frag}{C:Int→Int→Prop}{Cb:Int→Int→Bool}{g:Int→Int→V}{g':Int→Int→U}(hC:∀ i j,Cb i j=true→C i j)(hg:∀ i j H α,RepU K H α (g' i j) (g i j)):C0 K (rI C g) (Abe Cb g'):=by
  intro H α L u w x y z L' Q A ru rw e q
  unfold Abe at e
  split at e
  · split at e
    · rename_i h
      cases e
      unfold RepU at ru rw
      exact ⟨_,_,ru,rw,hC _ _ h,q _ H α (.refl _ _) A (hg _ _ _ _)⟩
    · cases e
  · cases e
noncomputable def O3(g:Int→Int→U):S2:=fun u w L=>match u,w with
  | .int i,.int j=>some (g i j,L)
  | _,_=>none
theorem Np{K:PySem.W.Frag}{g:Int→Int→V}{g':Int→Int→U}(hg:∀ i j H α,RepU K H α (g' i j) (g i j)):C0 K (rI0 g) (O3 g'):=by
  intro H α L u w x y z L' Q A ru rw e q
  unfold O3 at e
  split at e
  · cases e
    unfold RepU at ru rw
    exact ⟨_,_,ru,rw,q _ H α (.refl _ _) A (hg _ _ _ _)⟩
  · cases e
noncomputable def A7:S2:=O3 fun i j=>.int (i - j)
theorem B6{K:PySem.W.Frag}:C0 K (rI0 fun i j=>.int (i - j)) A7:=Np fun _ _ _ _=>rfl
noncomputable def Hm(i j:Int):Bool:=(decide (-(2 ^ 64) < i)&&decide (i < 2 ^ 64)) || (decide (-(2 ^ 64) < j)&&decide (j < 2 ^ 64))
noncomputable def Ig:S2:=fun u w L=>match u,w with
  | .int i,.int j=>if Hm i j=true then some (.int (i * j),L) else none
  | .str a,.int j=>if a.length≤1000∧-1000≤j∧j≤1000 then some (.str (Txt.mul a j),L) else none
  | .ref n,.int k=>(Dq L n).bind fun a=>if -1000000≤k∧k≤1000000∧small (a.length * k.toNat)=true then some (.ref L.length,L++[.lst (List.replicate k.toNat a).flatten]) else none
  | _,_=>none
noncomputable def Ahh:R2:=fun x y H Q=>rI CMul (fun i j=>.int (i * j)) x y H Q∨(∃ a j,x = .str a∧y = .int j∧MulOk a j∧Q (.str (Txt.mul a j)) H)∨Akz x y H Q
theorem U7{X:Cx}:OpR X (binaryOp .Mult) (fun x y H Q=>∃ a j,x = .str a∧y = .int j∧MulOk a j∧Q (.str (Txt.mul a j)) H):=by
  intro pins s σ H x y v u Q I rx ry h
  obtain ⟨a,j,rfl,rfl,hok,q⟩:=h
  obtain ⟨t,rfl⟩:=rx
  obtain ⟨t',rfl⟩:=ry
  exact SB.mul hok fun t' k=>⟨.str (Txt.mul a j),H,I.tok _,⟨_,rfl⟩,q⟩
theorem Kj{X:Cx}:OpR X (binaryOp .Mult) Ahh:=Ah9.or (U7.or Ahs)
theorem RepL.flat{K:PySem.W.Frag}{H:Hp}{α:List Addr}{us:List U}{xs:List V}(h:RepL K H α us xs):∀ k:Nat,RepL K H α (List.replicate k us).flatten (List.replicate k xs).flatten
  | 0=>.nil
  | k+1=>by rw[List.replicate_succ,List.replicate_succ,List.flatten_cons,List.flatten_cons];exact h.append (RepL.flat h k)
theorem Kq{K:PySem.W.Frag}:C0 K Ahh Ig:=by
  intro H α L u w x y z L' Q A ru rw e q
  unfold Ig at e
  split at e
  · rename_i i j
    split at e
    · rename_i h
      cases e
      unfold RepU at ru rw
      refine .inl ⟨_,_,ru,rw,?_,q _ H α (.refl _ _) A rfl⟩
      simp only[Hm,Bool.or_eq_true,Bool.and_eq_true,decide_eq_true_eq] at h
      exact h
    · cases e
  · rename_i a j
    split at e
    · rename_i h
      cases e
      unfold RepU at ru rw
      exact .inr (.inl ⟨_,_,ru,rw,mulOk_of 1000 1000 h.1 (by omega) (by omega) (by decide) (by decide),q _ H α (.refl _ _) A rfl⟩)
    · cases e
  · rename_i n k
    obtain ⟨a,ha,e⟩:=Option.bind_eq_some_iff.mp e
    split at e
    · rename_i h
      cases e
      obtain ⟨p,xs,e1,h1,r1⟩:=Kk A ha
      obtain ⟨p',e1',rfl⟩:=ru.ref_of A
      rw[e1] at e1';cases e1'
      unfold RepU at rw
      refine .inr (.inr ⟨p,k,xs,rfl,rw,h1,by omega,by omega,by rw[← r1.length];exact Cq h.2.2,fun l hl=>?_⟩)
      obtain ⟨g,A',r⟩:=A.lst (r1.flat k.toNat) hl
      exact q _ _ _ g A' r
    · cases e
  · cases e
noncomputable def Adp(i j:Int):Prop:=0 < j∧j < 1152921504606846976
theorem Nr{X:Cx}:OpR X (binaryOp .FloorDiv) (rI Adp fun i j=>.int (i / j)):=opI fun i j _ _ _ _ _ hc q=>by
  have h1:(0:Int) < j:=hc.1
  have h2:j < 1152921504606846976:=hc.2
  refine floordiv_int (by omega) (by rw[Int.fdiv_eq_ediv_of_nonneg i (by omega)];exact q) (.inl (PyProof.noPylong_of_log2 ?_))
  have h3:j.natAbs.log2 < 60:=(Nat.log2_lt (by omega)).mpr (by omega)
  omega
noncomputable def Po(i j:Int):Bool:=decide (0 < j)&&decide (j < 1152921504606846976)
noncomputable def Hx:S2:=Abe Po fun i j=>.int (i / j)
theorem R9{K:PySem.W.Frag}:C0 K (rI Adp fun i j=>.int (i / j)) Hx:=Aea (fun i j h=>by simpa[Po,Adp] using h) fun _ _ _ _=>rfl
noncomputable def Ha:S2:=Abe (fun _ j=>decide (0 < j)) fun i j=>.int (i % j)
theorem G6{K:PySem.W.Frag}:C0 K (rI (fun _ j=>0 < j) fun i j=>.int (i % j)) Ha:=Aea (fun i j h=>by simpa using h) fun _ _ _ _=>rfl
noncomputable def P8(i j:Int):Bool:=decide (0≤j)&&decide (j≤1000000)&&decide (i.natAbs < 2 ^ 64)
noncomputable def O2:S2:=Abe P8 fun i j=>.int (i ^ j.toNat)
theorem Xe{K:PySem.W.Frag}:C0 K (rI Ale fun i j=>.int (i ^ j.toNat)) O2:=Aea (fun i j h=>by simp[P8] at h;exact ⟨h.1.1,h.1.2,h.2⟩) fun _ _ _ _=>rfl
noncomputable def Wm:S2:=O3 fun i j=>.bl (decide (i≤j))
noncomputable def T6:S2:=O3 fun i j=>.bl (decide (j < i))
noncomputable def Kh:S2:=O3 fun i j=>.bl (decide (j≤i))
noncomputable def Eh:S2:=O3 fun i j=>.bl (decide (i < j))
theorem Ajs{K:PySem.W.Frag}:C0 K (rI0 fun i j=>.bl (decide (i≤j))) Wm:=Np fun _ _ _ _=>rfl
theorem Acr{K:PySem.W.Frag}:C0 K (rI0 fun i j=>.bl (decide (j < i))) T6:=Np fun _ _ _ _=>rfl
theorem Vf{K:PySem.W.Frag}:C0 K (rI0 fun i j=>.bl (decide (j≤i))) Kh:=Np fun _ _ _ _=>rfl
theorem Ie{K:PySem.W.Frag}:C0 K (rI0 fun i j=>.bl (decide (i < j))) Eh:=Np fun _ _ _ _=>rfl
noncomputable def mapO{β γ:Type}(f:β→Option γ):List β→Option (List γ)
  | []=>some []
  | u::r=>(f u).bind fun d=>(mapO f r).map fun ds=>d::ds
noncomputable def toP(L:UH):Nat→U→Option PyData
  | 0,_=>none
  | _+1,.non=>some .none
  | _+1,.bl b=>some (.bool b)
  | _+1,.int i=>some (.int i)
  | _+1,.str x=>some (.str x)
  | n+1,.tup l=>(mapO (toP L n) l).map .tuple
  | n+1,.ref k=>(Am L k).bind fun l=>(mapO (toP L n) l).map .list
section
variable {X:Cx}{pins:List (Addr×Obj)}{σ:L2.St}{H:Hp}{s:Shared}{α:List Addr}{L:UH}
theorem Ri{n:Nat}(ih:∀ (u:U) (x:V) (v:Value) (d:PyData),RepU X.K H α u x→RelV x v→toP L n u=some d→∃ as,Reads s.heap v d as):∀ (l:List U) (xs:List V) (vs:List Value) (ds:List PyData),RepL X.K H α l xs→Vals xs vs→mapO (toP L n) l=some ds→∃ as,ReadsAll s.heap vs ds as
  | [],xs,vs,ds,r,hv,e=>by
    unfold RepL at r;subst r;cases hv;cases e;exact ⟨_,.nil⟩
  | u::l,xs,vs,ds,r,hv,e=>by
    unfold RepL at r
    obtain ⟨x,xr,rfl,r1,r2⟩:=r
    cases hv with
    | cons h1 h2=>
      obtain ⟨d,e1,e⟩:=Option.bind_eq_some_iff.mp e
      obtain ⟨dr,e2,e⟩:=Option.map_eq_some_iff.mp e
      subst e
      obtain ⟨as,q1⟩:=ih u x _ d r1 h1 e1
      obtain ⟨bs,q2⟩:=Ri ih l xr _ dr r2 h2 e2
      exact ⟨_,.cons q1 q2⟩
theorem Lf(I:Inv X pins σ H s)(A:Abs X.K H α L):∀ (n:Nat) (u:U) (x:V) (v:Value) (d:PyData),RepU X.K H α u x→RelV x v→toP L n u=some d→∃ as,Reads s.heap v d as
  | 0,_,_,_,_,_,_,e=>by cases e
  | n+1,u,x,v,d,r,hv,e=>by
    cases u with
    | non=>unfold RepU at r;subst r;cases hv;cases e;exact ⟨_,.none⟩
    | bl b=>unfold RepU at r;subst r;cases hv;cases e;exact ⟨_,.bool b⟩
    | int i=>unfold RepU at r;subst r;obtain ⟨t,rfl⟩:=hv;cases e;exact ⟨_,.int i t⟩
    | str y=>unfold RepU at r;subst r;obtain ⟨t,rfl⟩:=hv;cases e;exact ⟨_,.str y t⟩
    | tup l=>
      unfold RepU at r
      obtain ⟨a,xs,rfl,sq,r⟩:=r
      cases hv
      unfold toP at e
      obtain ⟨ds,e1,e⟩:=Option.map_eq_some_iff.mp e
      subst e
      obtain ⟨its,hv,⟨o,h1,h2,m,h3⟩,_⟩:=I.tuple sq
      obtain ⟨as,q⟩:=Ri (Lf I A n) l xs its ds r hv e1
      exact ⟨_,.tuple h1 h2 h3 (by simpa using q)⟩
    | ref k=>
      unfold RepU at r
      obtain ⟨a,ea,rfl⟩:=r
      cases hv
      unfold toP at e
      obtain ⟨l,hl,e⟩:=Option.bind_eq_some_iff.mp e
      obtain ⟨ds,e1,e⟩:=Option.map_eq_some_iff.mp e
      subst e
      obtain ⟨a',xs,ea',sq,r⟩:=Gs A hl
      rw[ea] at ea';cases ea'
      obtain ⟨its,hv,⟨o,m,h1,h2,_,h3⟩,_⟩:=I.list sq
      obtain ⟨as,q⟩:=Ri (Lf I A n) l xs its ds r hv e1
      exact ⟨_,.list h1 h2 h3 (by simpa using q)⟩
end
noncomputable def eqP(u w:U)(L:UH):Option Bool:=(toP L 8 u).bind fun d=>(toP L 8 w).bind fun e=>if SeqAt.shaped d=true∧SeqAt.shaped e=true then some (PyData.eqv d e) else none
noncomputable def Aey(K:PySem.W.Frag)(neg:Bool):R2:=fun x y H Q=>∃ α L u w b,Abs K H α L∧RepU K H α u x∧RepU K H α w y∧eqP u w L=some b∧Q (.bl (if neg then !b else b)) H
theorem Hz{X:Cx}(hu:X.A.units+64 < cLine):OpR X (compareOp .Eq) (Aey X.K false):=by
  intro pins s σ H x y v u Q I rx ry h
  obtain ⟨α,L,a,b,k,A,ra,rb,e,q⟩:=h
  obtain ⟨d,e1,e⟩:=Option.bind_eq_some_iff.mp e
  obtain ⟨d2,e2,e⟩:=Option.bind_eq_some_iff.mp e
  split at e
  · rename_i hs
    cases e
    obtain ⟨as,q1⟩:=Lf I A 8 a x v d ra rx e1
    obtain ⟨bs,q2⟩:=Lf I A 8 b y u d2 rb ry e2
    exact eq_dataH q1 q2 hs.1 hs.2 hu ⟨.bl _,H,I,rfl,q⟩
  · cases e
theorem Ad0{X:Cx}(hu:X.A.units+64 < cLine):OpR X (compareOp .NotEq) (Aey X.K true):=by
  intro pins s σ H x y v u Q I rx ry h
  obtain ⟨α,L,a,b,k,A,ra,rb,e,q⟩:=h
  obtain ⟨d,e1,e⟩:=Option.bind_eq_some_iff.mp e
  obtain ⟨d2,e2,e⟩:=Option.bind_eq_some_iff.mp e
  split at e
  · rename_i hs
    cases e
    obtain ⟨as,q1⟩:=Lf I A 8 a x v d ra rx e1
    obtain ⟨bs,q2⟩:=Lf I A 8 b y u d2 rb ry e2
    exact ne_dataH q1 q2 hs.1 hs.2 hu ⟨.bl _,H,I,rfl,q⟩
  · cases e
noncomputable def Dk:S2:=fun u w L=>(eqP u w L).map fun b=>(.bl b,L)
noncomputable def Ip:S2:=fun u w L=>(eqP u w L).map fun b=>(.bl (!b),L)
theorem Iq{K:PySem.W.Frag}:C0 K (Aey K false) Dk:=by
  intro H α L u w x y z L' Q A ru rw e q
  obtain ⟨b,e1,e⟩:=Option.map_eq_some_iff.mp e
  cases e
  exact ⟨α,_,u,w,b,A,ru,rw,e1,q _ H α (.refl _ _) A rfl⟩
theorem Acv{K:PySem.W.Frag}:C0 K (Aey K true) Ip:=by
  intro H α L u w x y z L' Q A ru rw e q
  obtain ⟨b,e1,e⟩:=Option.map_eq_some_iff.mp e
  cases e
  exact ⟨α,_,u,w,b,A,ru,rw,e1,q _ H α (.refl _ _) A rfl⟩
noncomputable def Al4(neg:Bool):S2:=fun u w L=>match u,w with
  | .non,.non=>some (.bl (!neg),L)
  | .bl a,.bl b=>some (.bl (if neg then !(a == b) else a == b),L)
  | .int _,.non=>some (.bl neg,L)
  | .bl _,.non=>some (.bl neg,L)
  | .str _,.non=>some (.bl neg,L)
  | .tup _,.non=>some (.bl neg,L)
  | .ref _,.non=>some (.bl neg,L)
  | _,_=>none
noncomputable def isSome:U→Bool
  | .non=>false
  | _=>true
theorem RepL.atI{K:PySem.W.Frag}{H:Hp}{α:List Addr}{us:List U}{xs:List V}{i:Int}{u:U}(r:RepL K H α us xs)(h:L2.atI us i=some u):∃ x,L2.atI xs i=some x∧RepU K H α u x:=by
  unfold L2.atI at h ⊢
  obtain ⟨j,e1,e2⟩:=Option.bind_eq_some_iff.mp h
  obtain ⟨x,e3,r3⟩:=r.get e2
  exact ⟨x,by rw[← r.length,e1];exact e3,r3⟩
noncomputable def Ap:S2:=fun u w L=>match u,w with
  | .tup l,.int i=>(L2.atI l i).map fun z=>(z,L)
  | .ref n,.int i=>(Am L n).bind fun l=>(L2.atI l i).map fun z=>(z,L)
  | .str x,.int i=>if small x.length=true then (L2.atI x.cps.toList i).map fun c=>(.str ⟨#[c]⟩,L) else none
  | _,_=>none
theorem Bh{K:PySem.W.Frag}:C0 K (rIx K) Ap:=by
  intro H α L u w x y z L' Q A ru rw e q
  unfold Ap at e
  split at e
  · obtain ⟨c,e1,e⟩:=Option.map_eq_some_iff.mp e
    cases e
    unfold RepU at ru rw
    obtain ⟨a,xs,rfl,sq,r⟩:=ru
    obtain ⟨v,e2,r2⟩:=r.atI e1
    exact .inr (.inl ⟨a,xs,_,v,rfl,rw,sq,e2,q _ H α (.refl _ _) A r2⟩)
  · obtain ⟨l,hl,e⟩:=Option.bind_eq_some_iff.mp e
    obtain ⟨c,e1,e⟩:=Option.map_eq_some_iff.mp e
    cases e
    obtain ⟨a,xs,ea,sq,r⟩:=Gs A hl
    obtain ⟨a',ea',rfl⟩:=ru.ref_of A
    rw[ea] at ea';cases ea'
    unfold RepU at rw
    obtain ⟨v,e2,r2⟩:=r.atI e1
    exact .inl ⟨a,xs,_,v,rfl,rw,sq,e2,q _ H α (.refl _ _) A r2⟩
  · split at e
    · rename_i hs
      obtain ⟨c,e1,e⟩:=Option.map_eq_some_iff.mp e
      cases e
      unfold RepU at ru rw
      exact .inr (.inr ⟨_,_,c,ru,rw,Cq hs,e1,q _ H α (.refl _ _) A rfl⟩)
    · cases e
  · cases e
noncomputable def Vy(l:List U)(lo hi:Option Int):List U:=(l.drop (HT.sIx l.length 0 lo)).take (HT.sIx l.length l.length hi - HT.sIx l.length 0 lo)
theorem RepL.cut{K:PySem.W.Frag}{H:Hp}{α:List Addr}{us:List U}{xs:List V}(r:RepL K H α us xs)(lo hi:Option Int):RepL K H α (Vy us lo hi) (Us xs lo hi):=by
  unfold Vy Us
  rw[r.length]
  exact (r.drop _).take _
noncomputable def semSl:SS:=fun u lo hi L=>match u with
  | .tup l=>if HT.sIx l.length 0 lo=0∧HT.sIx l.length l.length hi=l.length then none else some (.tup (Vy l lo hi),L)
  | .ref n=>(Am L n).map fun l=>(.ref L.length,L++[.lst (Vy l lo hi)])
  | _=>none
noncomputable def Al2(K:PySem.W.Frag):V→Option Int→Option Int→Hp→VK→Prop:=fun x lo hi H Q=>Al5 K x lo hi H Q∨Als K x lo hi H Q
theorem R8{X:Cx}:SlR X (Al2 X.K):=Aiz.or Af9
theorem Rv{K:PySem.W.Frag}:Ahk K (Al2 K) semSl:=by
  intro H α L u x lo hi z L' Q A ru e q
  unfold semSl at e
  split at e
  · split at e
    · cases e
    · rename_i hn
      cases e
      unfold RepU at ru
      obtain ⟨a,xs,rfl,sq,r⟩:=ru
      refine .inl ⟨a,xs,rfl,sq,by rw[← r.length];exact hn,fun p hp=>?_⟩
      obtain ⟨g,A',r'⟩:=A.tup (r.cut lo hi) hp
      exact q _ _ α g A' r'
  · obtain ⟨l,hl,e⟩:=Option.map_eq_some_iff.mp e
    cases e
    obtain ⟨a,xs,ea,sq,r⟩:=Gs A hl
    obtain ⟨a',ea',rfl⟩:=ru.ref_of A
    rw[ea] at ea';cases ea'
    refine .inr ⟨a,xs,rfl,sq,fun p hp=>?_⟩
    obtain ⟨g,A',r'⟩:=A.lst (r.cut lo hi) hp
    exact q _ _ _ g A' r'
  · cases e
noncomputable def lenU(u:U)(L:UH):Option Nat:=match u with
  | .str y=>if small y.length=true then some y.length else none
  | .tup l=>some l.length
  | .ref n=>(Am L n).map List.length
  | _=>none
noncomputable def Au:SC:=fun us L=>match us with
  | [u]=>(lenU u L).map fun (n:Nat)=>(U.int (n:Int),L)
  | _=>none
theorem C1{K:PySem.W.Frag}:Q1 K (fun xs H Q=>∃ x n,xs=[x]∧Akf K x H n∧Q (.int n) H) Au:=by
  intro H α L us xs z L' Q A r e q
  unfold Au at e
  split at e
  · rename_i u
    obtain ⟨n,e1,e⟩:=Option.map_eq_some_iff.mp e
    cases e
    obtain ⟨x,rfl,rx⟩:=r.one
    refine ⟨x,n,rfl,?_,q _ H α (.refl _ _) A rfl⟩
    cases u with
    | str y=>
      unfold lenU at e1
      simp only at e1
      split at e1
      · rename_i hs;cases e1;unfold RepU at rx;subst rx;exact ⟨Cq hs,rfl⟩
      · cases e1
    | tup l=>
      cases e1
      unfold RepU at rx
      obtain ⟨a,ys,rfl,sq,r2⟩:=rx
      exact .inr ⟨ys,sq,r2.length⟩
    | ref k=>
      obtain ⟨l,hl,e2⟩:=Option.map_eq_some_iff.mp e1
      subst e2
      obtain ⟨a,ys,ea,sq,r2⟩:=Gs A hl
      obtain ⟨a',ea',rfl⟩:=rx.ref_of A
      rw[ea] at ea';cases ea'
      exact .inl ⟨ys,sq,r2.length⟩
    | _=>cases e1
  · cases e
noncomputable def toI:U→Option Int
  | .int i=>some i
  | _=>none
theorem Iy{K:PySem.W.Frag}{H:Hp}{α:List Addr}:∀ {us:List U} {xs:List V} {ns:List Int},RepL K H α us xs→mapO toI us=some ns→xs=ns.map V.int
  | [],xs,ys,r,h=>by unfold RepL at r;subst r;cases h;rfl
  | u::us,xs,ys,r,h=>by
    unfold RepL at r
    obtain ⟨x,xr,rfl,r1,r2⟩:=r
    obtain ⟨y,e1,h⟩:=Option.bind_eq_some_iff.mp h
    obtain ⟨yr,e2,h⟩:=Option.map_eq_some_iff.mp h
    subst h
    cases u <;> simp only[toI] at e1 <;> first
      | (cases e1;unfold RepU at r1;subst r1;rw[Iy r2 e2];rfl)
      | cases e1
noncomputable def R3:List Int→Int
  | []=>0
  | [a]=>a
  | a::r=>max a (R3 r)
theorem Wi:∀ (ns:List Int) (M:Int),M∈ns→(∀ a,a∈ns→a≤M)→R3 ns=M
  | [],M,h,_=>by cases h
  | [a],M,h,_=>by simp at h;exact h.symm
  | a::b::r,M,h,hm=>by
    show max a (R3 (b::r))=M
    by_cases hb:M∈b::r
    · rw[Wi (b::r) M hb fun c hc=>hm c (List.mem_cons_of_mem _ hc)]
      have:=hm a (List.mem_cons_self ..)
      omega
    · rcases List.mem_cons.mp h with rfl | h
      · have hle:∀ (l:List Int),l≠[]→(∀ c,c∈l→c≤M)→R3 l≤M:=by
          intro l
          induction l with
          | nil=>intro h;exact absurd rfl h
          | cons c t ih=>
            intro _ hc
            cases t with
            | nil=>exact hc c (List.mem_cons_self ..)
            | cons d t=>
              have h1:=hc c (List.mem_cons_self ..)
              have h2:=ih (by simp) fun e he=>hc e (List.mem_cons_of_mem _ he)
              show max c (R3 (d::t))≤M
              omega
        have:=hle (b::r) (by simp) fun c hc=>hm c (List.mem_cons_of_mem _ hc)
        omega
      · exact absurd h hb
section
variable {X:Cx}
theorem Y9(hc:X.calm=true):CallR X (.builtin "sum") (fun xs H Q=>∃ (p:Addr) (ns:List Int),xs=[.ref p]∧SqL X.K H p (ns.map V.int)∧Q (.int ns.sum) H):=by
  intro pins s σ H xs us Q I r h
  obtain ⟨p,ns,rfl,hq,q⟩:=h
  obtain ⟨u,rfl,rx⟩:=Ii r
  cases rx
  obtain ⟨its,r',pl,hz⟩:=I.list hq
  have hi:IntsAre its ns:=G7 r'
  obtain ⟨m,F⟩:=I.fr
  obtain ⟨xs,hx⟩:=hi.allInts.items
  have hl':s.heap.IsList p (intItems xs):=hx ▸ pl.isList
  refine sum_intListG (I.ok.hd hc) hl' fun h' tk t' hk=>?_
  have e1:ns=xs.toList.map (·.1):=by
    rw[← nums_intItems,← hx]
    exact (show numsOf its.toArray.toList=ns from hi.numsOf).symm
  have e2:preSum (numAt xs) xs.size=ns.sum:=by
    rw[preSum_eq,List.take_of_length_le (by simp),e1]
  rw[e2]
  exact ⟨.int ns.sum,H,I.kept hk,⟨_,rfl⟩,q⟩
theorem Ye(hc:X.calm=true):CallR X (.builtin "sum") (fun xs H Q=>∃ (p:Addr) (ns:List Int),xs=[.ref p]∧SqT X.K H p (ns.map V.int)∧Q (.int ns.sum) H):=by
  intro pins s σ H xs us Q I r h
  obtain ⟨p,ns,rfl,hq,q⟩:=h
  obtain ⟨u,rfl,rx⟩:=Ii r
  cases rx
  obtain ⟨its,r',pl,hz⟩:=I.tuple hq
  have hi:IntsAre its ns:=G7 r'
  obtain ⟨xs,hx⟩:=hi.allInts.items
  have hl':s.heap.IsTuple p (intItems xs):=hx ▸ pl
  refine PySem.W.ktm_sumG (I.ok.hd hc) hl' fun h' tk t' hk=>?_
  have e1:ns=xs.toList.map (·.1):=by
    rw[← nums_intItems,← hx]
    exact (show numsOf its.toArray.toList=ns from hi.numsOf).symm
  have e2:preSum (numAt xs) xs.size=ns.sum:=by
    rw[preSum_eq,List.take_of_length_le (by simp),e1]
  rw[e2]
  exact ⟨.int ns.sum,H,I.kept hk,⟨_,rfl⟩,q⟩
theorem Gh(hc:X.calm=true):CallR X (.builtin "sum") (fun xs H Q=>(∃ (p:Addr) (ns:List Int),xs=[.ref p]∧SqL X.K H p (ns.map V.int)∧Q (.int ns.sum) H)∨∃ (p:Addr) (ns:List Int),xs=[.ref p]∧SqT X.K H p (ns.map V.int)∧Q (.int ns.sum) H):=(Y9 hc).or (Ye hc)
theorem Aad(hc:X.calm=true):CallR X (.builtin "max") (fun xs H Q=>∃ (p:Addr) (ns:List Int),xs=[.ref p]∧SqL X.K H p (ns.map V.int)∧0 < ns.length∧Q (.int (R3 ns)) H):=by
  intro pins s σ H xs us Q I r h
  obtain ⟨p,ns,rfl,hq,hne,q⟩:=h
  obtain ⟨u,rfl,rx⟩:=Ii r
  cases rx
  obtain ⟨its,r',pl,hz⟩:=I.list hq
  have hi:IntsAre its ns:=G7 r'
  obtain ⟨xs,e⟩:=hi.allInts.items
  have hns:ns=xs.toList.map (·.1):=by rw[← hi.numsOf,← nums_intItems,← e]
  have hsz:0 < xs.size:=by
    have h3:=hne;rw[hns,List.length_map,Array.length_toList] at h3;exact h3
  have hl':s.heap.IsList p (intItems xs):=e ▸ pl.isList
  refine max_intList (I.ok.hd hc) hl' hsz fun v h' tk hv hk=>?_
  obtain ⟨t,rfl⟩:=intItems_at hv
  obtain ⟨h1,h2⟩:=argBest_gt (numAt xs) (xs.size - 1)
  have hM:=Wi ns (numAt xs (argBest (fun i j=>decide (numAt xs i > numAt xs j)) (xs.size - 1))) (by rw[hns,numAt_eq];exact getD_mem (by rw[List.length_map,Array.length_toList];omega)) (fun a ha=>by
    rw[hns] at ha
    obtain ⟨j,hj,rfl⟩:=mem_getD ha
    rw[List.length_map,Array.length_toList] at hj
    rw[← numAt_eq];exact h2 j (by omega))
  rw[hM] at q
  exact ⟨.int _,H,I.kept hk,⟨_,rfl⟩,q⟩
end
noncomputable def semSum:SC:=fun us L=>match us with
  | [.ref n]=>(Am L n).bind fun l=>(mapO toI l).map fun ns=>(.int ns.sum,L)
  | [.tup l]=>(mapO toI l).map fun ns=>(.int ns.sum,L)
  | _=>none
theorem G9{K:PySem.W.Frag}{H:Hp}{α:List Addr}{L:UH}{n:Nat}{l:List U}{x:V}(A:Abs K H α L)(hl:Am L n=some l)(rx:RepU K H α (.ref n) x):∃ a ys,x = .ref a∧SqL K H a ys∧RepL K H α l ys:=by
  obtain ⟨a,ys,ea,sq,r2⟩:=Gs A hl
  obtain ⟨a',ea',rfl⟩:=rx.ref_of A
  rw[ea] at ea';cases ea'
  exact ⟨a,ys,rfl,sq,r2⟩
theorem Kp{K:PySem.W.Frag}:Q1 K (fun xs H Q=>(∃ (p:Addr) (ns:List Int),xs=[.ref p]∧SqL K H p (ns.map V.int)∧Q (.int ns.sum) H)∨∃ (p:Addr) (ns:List Int),xs=[.ref p]∧SqT K H p (ns.map V.int)∧Q (.int ns.sum) H) semSum:=by
  intro H α L us xs z L' Q A r e q
  unfold semSum at e
  split at e
  · obtain ⟨l,hl,e⟩:=Option.bind_eq_some_iff.mp e
    obtain ⟨ns,e1,e⟩:=Option.map_eq_some_iff.mp e
    cases e
    obtain ⟨x,rfl,rx⟩:=r.one
    obtain ⟨a,ys,rfl,sq,r2⟩:=G9 A hl rx
    rw[Iy r2 e1] at sq
    exact .inl ⟨a,ns,rfl,sq,q _ H α (.refl _ _) A rfl⟩
  · obtain ⟨ns,e1,e⟩:=Option.map_eq_some_iff.mp e
    cases e
    obtain ⟨x,rfl,rx⟩:=r.one
    unfold RepU at rx
    obtain ⟨a,ys,rfl,sq,r2⟩:=rx
    rw[Iy r2 e1] at sq
    exact .inr ⟨a,ns,rfl,sq,q _ H α (.refl _ _) A rfl⟩
  · cases e
noncomputable def Ad1(g2:Int→Int→Int)(gl:List Int→Int):SC:=fun us L=>match us with
  | [.int i,.int j]=>some (.int (g2 i j),L)
  | [.ref n]=>(Am L n).bind fun l=>(mapO toI l).bind fun ns=>if ns.isEmpty=true then none else some (.int (gl ns),L)
  | _=>none
noncomputable def Jo:SC:=Ad1 (fun i j=>if j > i then j else i) R3
theorem Ajr{K:PySem.W.Frag}{g2:Int→Int→Int}{gl:List Int→Int}:Q1 K (fun xs H Q=>(∃ i j,xs=[.int i,.int j]∧Q (.int (g2 i j)) H)∨∃ (p:Addr) (ns:List Int),xs=[.ref p]∧SqL K H p (ns.map V.int)∧0 < ns.length∧Q (.int (gl ns)) H) (Ad1 g2 gl):=by
  intro H α L us xs z L' Q A r e q
  unfold Ad1 at e
  split at e
  · cases e
    obtain ⟨x,y,rfl,rx,ry⟩:=r.two
    unfold RepU at rx ry
    exact .inl ⟨_,_,by rw[rx,ry],q _ H α (.refl _ _) A rfl⟩
  · obtain ⟨l,hl,e⟩:=Option.bind_eq_some_iff.mp e
    obtain ⟨ns,e1,e⟩:=Option.bind_eq_some_iff.mp e
    split at e
    · cases e
    · rename_i hne
      cases e
      obtain ⟨x,rfl,rx⟩:=r.one
      obtain ⟨a,ys,rfl,sq,r2⟩:=G9 A hl rx
      rw[Iy r2 e1] at sq
      exact .inr ⟨a,ns,rfl,sq,by cases ns <;> simp_all,q _ H α (.refl _ _) A rfl⟩
  · cases e
theorem Pj{X:Cx}(hc:X.calm=true):CallR X (.builtin "max") (fun xs H Q=>(∃ i j,xs=[.int i,.int j]∧Q (.int (if j > i then j else i)) H)∨∃ (p:Addr) (ns:List Int),xs=[.ref p]∧SqL X.K H p (ns.map V.int)∧0 < ns.length∧Q (.int (R3 ns)) H):=(Yg hc).or (Aad hc)
theorem Xh{K:PySem.W.Frag}:Q1 K (fun xs H Q=>(∃ i j,xs=[.int i,.int j]∧Q (.int (if j > i then j else i)) H)∨∃ (p:Addr) (ns:List Int),xs=[.ref p]∧SqL K H p (ns.map V.int)∧0 < ns.length∧Q (.int (R3 ns)) H) Jo:=Ajr
noncomputable def H0:SC:=fun us L=>match us with
  | [.ref n]=>(Am L n).map fun l=>(.tup l,L)
  | [.tup l]=>some (.tup l,L)
  | _=>none
theorem Yc{K:PySem.W.Frag}:Q1 K (fun xs H Q=>∃ p ys,xs=[.ref p]∧((SqL K H p ys∧∀ l,H l=none→Q (.ref l) (upd H l (.tup ys)))∨(SqT K H p ys∧Q (.ref p) H))) H0:=by
  intro H α L us xs z L' Q A r e q
  unfold H0 at e
  split at e
  · obtain ⟨l,hl,e⟩:=Option.map_eq_some_iff.mp e
    cases e
    obtain ⟨x,rfl,rx⟩:=r.one
    obtain ⟨a,ys,rfl,sq,r2⟩:=G9 A hl rx
    refine ⟨a,ys,rfl,.inl ⟨sq,fun p hp=>?_⟩⟩
    obtain ⟨g,A',r'⟩:=A.tup r2 hp
    exact q _ _ _ g A' r'
  · cases e
    obtain ⟨x,rfl,rx⟩:=r.one
    have rx':=rx
    unfold RepU at rx
    obtain ⟨a,ys,rfl,sq,r2⟩:=rx
    exact ⟨a,ys,rfl,.inr ⟨sq,q _ H α (.refl _ _) A rx'⟩⟩
  · cases e
noncomputable def Cu:SM:=fun u us L=>match u,us with
  | .ref n,[y]=>(Dq L n).bind fun l=>if decide (l.length < sizeLine)=true then some (.non,L.set n (.lst (l++[y]))) else none
  | _,_=>none
theorem Mp{K:PySem.W.Frag}{H:Hp}{α:List Addr}{L:UH}{n:Nat}{l:List U}{x:V}(A:Abs K H α L)(hl:Dq L n=some l)(rx:RepU K H α (.ref n) x):∃ a ys,x = .ref a∧α[n]? = some a∧H a=some (.lst ys)∧RepL K H α l ys:=by
  obtain ⟨a,ys,ea,sq,r2⟩:=Kk A hl
  obtain ⟨a',ea',rfl⟩:=rx.ref_of A
  rw[ea] at ea';cases ea'
  exact ⟨a,ys,rfl,ea,sq,r2⟩
theorem Fh{K:PySem.W.Frag}:Ac7 K Wv Cu:=by
  intro H α L u us x xs z L' Q A ru r e q
  unfold Cu at e
  split at e
  · obtain ⟨l,hl,e⟩:=Option.bind_eq_some_iff.mp e
    split at e
    · rename_i hs
      cases e
      obtain ⟨y,rfl,ry⟩:=r.one
      obtain ⟨a,ys,rfl,ea,h,r2⟩:=Mp A hl ru
      obtain ⟨g,A'⟩:=A.setL hl ea h (r2.append (.cons ry .nil))
      exact ⟨a,ys,y,rfl,rfl,h,by rw[← r2.length];exact of_decide_eq_true hs,q _ _ _ g A' rfl⟩
    · cases e
  · cases e
noncomputable def Oh:SM:=fun u us L=>match u,us with
  | .ref n,[.int i]=>(Dq L n).bind fun l=>if -(2 ^ 63)≤i∧i < 2 ^ 63 then (seqIndex? i l.length).bind fun k=>(l[k]?).map fun y=>(y,L.set n (.lst (l.eraseIdx k))) else none
  | _,_=>none
theorem Afn{K:PySem.W.Frag}:Ac7 K Acl Oh:=by
  intro H α L u us x xs z L' Q A ru r e q
  unfold Oh at e
  split at e
  · obtain ⟨l,hl,e⟩:=Option.bind_eq_some_iff.mp e
    split at e
    · rename_i hs
      obtain ⟨k,ek,e⟩:=Option.bind_eq_some_iff.mp e
      obtain ⟨y,ey,e⟩:=Option.map_eq_some_iff.mp e
      cases e
      obtain ⟨v,rfl,rv⟩:=r.one
      unfold RepU at rv
      subst rv
      obtain ⟨a,ys,rfl,ea,h,r2⟩:=Mp A hl ru
      obtain ⟨w,ew,rw⟩:=r2.get ey
      obtain ⟨g,A'⟩:=A.setL hl ea h (r2.erase k)
      exact ⟨a,ys,_,k,w,rfl,rfl,h,hs.1,hs.2,by rw[← r2.length];exact ek,ew,q _ _ _ g A' (rw.mono g)⟩
    · cases e
  · cases e
noncomputable def gSub(fo fi:FE):FG:=fun v δ L=>(fo δ L).bind fun p=>(fi δ p.2).bind fun q=>match p.1,q.1 with
  | .ref n,.int k=>(Dq q.2 n).bind fun l=>(ixN l.length k).map fun j=>(δ,q.2.set n (.lst (l.set j v)))
  | _,_=>none
theorem Mo{X:Cx}{o i:Expr}{fo fi:FE}{pos:Pos}(ho:PEF X o fo)(hi:PEF X i fi)(ha:∀ v,assign (.Subscript o i pos) X.env v=(do let ov ← holding [v] (eval o X.env);let iv ← holding [v,ov] (eval i X.env);standAt pos;holding [v,ov,iv] (setItem ov iv v);release [v,ov,iv] []):=by intro _;rfl):PGF X (.Subscript o i pos) (MR.gSub fo fi):=by
  refine PG.imp (Ahn ho hi Ada ha) ?_
  rintro v σ H Q ⟨α,δ,L,u,A,S,r,δ',L',e,q⟩
  obtain ⟨⟨o',L1⟩,e1,e⟩:=Option.bind_eq_some_iff.mp e
  obtain ⟨⟨i',L2⟩,e2,e⟩:=Option.bind_eq_some_iff.mp e
  refine ⟨α,δ,L,A,S,o',L1,e1,fun x H1 α1 g1 A1 r1=>⟨α1,δ,L1,A1,S.mono g1,i',L2,e2,fun y H2 α2 g2 A2 r2=>?_⟩⟩
  simp only at e
  split at e
  · obtain ⟨l,hl,e⟩:=Option.bind_eq_some_iff.mp e
    obtain ⟨j,ej,e⟩:=Option.map_eq_some_iff.mp e
    cases e
    unfold RepU at r2
    subst r2
    obtain ⟨a,ys,rfl,ea,h,r3⟩:=Mp A2 hl (r1.mono g2)
    obtain ⟨g,A'⟩:=A2.setL hl ea h (r3.set ((r.mono g1).mono g2) j)
    exact ⟨a,ys,_,j,rfl,rfl,h,by rw[← r3.length];exact ej,q _ _ _ (g1.trans (g2.trans g)) A' (((S.mono g1).mono g2).mono g)⟩
  · cases e
noncomputable def Nm(u:U)(L:UH):Option String:=match u with
  | .non=>some "NoneType"
  | .bl _=>some "bool"
  | .int _=>some "int"
  | .str _=>some "str"
  | .tup _=>some "tuple"
  | .ref n=>match L[n]? with
    | some (.lst _)=>some "list"
    | some (.ro _)=>some "list"
    | some (.dic _)=>some "dict"
    | _=>none
noncomputable def isT(t c:String):Bool:=t == c || (t == "bool" && c == "int")
noncomputable def Rz:List String:=["NoneType","bool","int","str","tuple","list","dict"]
noncomputable def Kit(K:PySem.W.Frag)(c:String):Prop:=∀ t∈Rz,PySem.W.kitOne K (.type t) (.type c)=some (isT t c)
theorem We{K:PySem.W.Frag}{c:String}(h1:PySem.W.kitOne K (.type "NoneType") (.type c)=some (isT "NoneType" c))(h2:PySem.W.kitOne K (.type "bool") (.type c)=some (isT "bool" c))(h3:PySem.W.kitOne K (.type "int") (.type c)=some (isT "int" c))
    (h4:PySem.W.kitOne K (.type "str") (.type c)=some (isT "str" c)) (h5:PySem.W.kitOne K (.type "tuple") (.type c)=some (isT "tuple" c)) (h6:PySem.W.kitOne K (.type "list") (.type c)=some (isT "list" c)) (h7:PySem.W.kitOne K (.type "dict") (.type c)=some (isT "dict" c)):Kit K c:=by
  intro t ht
  simp only[Rz,List.mem_cons,List.not_mem_nil,or_false] at ht
  rcases ht with rfl | rfl | rfl | rfl | rfl | rfl | rfl <;> assumption
theorem Adn{K:PySem.W.Frag}:Kit K "bool" := We (by with_unfolding_all rfl) (by with_unfolding_all rfl) (by with_unfolding_all rfl) (by with_unfolding_all rfl) (by with_unfolding_all rfl) (by with_unfolding_all rfl) (by with_unfolding_all rfl)
theorem Af3{K:PySem.W.Frag}:Kit K "int" := We (by with_unfolding_all rfl) (by with_unfolding_all rfl) (by with_unfolding_all rfl) (by with_unfolding_all rfl) (by with_unfolding_all rfl) (by with_unfolding_all rfl) (by with_unfolding_all rfl)
theorem Ym{K:PySem.W.Frag}:Kit K "tuple" := We (by with_unfolding_all rfl) (by with_unfolding_all rfl) (by with_unfolding_all rfl) (by with_unfolding_all rfl) (by with_unfolding_all rfl) (by with_unfolding_all rfl) (by with_unfolding_all rfl)
noncomputable def TyV(K:PySem.W.Frag)(H:Hp)(x:V)(t:String):Prop:=match x with
  | .non=>t = "NoneType"
  | .bl _=>t = "bool"
  | .int _=>t = "int"
  | .str _=>t = "str"
  | .ref a=>(t = "list" ∧ ∃ xs,SqL K H a xs)∨(t = "tuple" ∧ ∃ xs,SqT K H a xs)∨(t = "dict" ∧ ∃ kvs,H a=some (.dK kvs))
  | _=>False
theorem Ac5{X:Cx}{c:String}:CallR X (.builtin "isinstance") (fun xs H Q=>∃ x t b,xs=[x,.ty c]∧TyV X.K H x t∧PySem.W.kitOne X.K (.type t) (.type c)=some b∧Q (.bl b) H):=by
  intro pins s σ H xs us Q I r h
  obtain ⟨x,t,b,rfl,ty,e,q⟩:=h
  obtain ⟨u,w',rfl,rx,ry⟩:=Ahl r
  cases ry
  have fin:∀ tk,EP X pins σ Q (.bool b) { s with toks:=tk }:=fun tk=>⟨.bl b,H,I.tok _,rfl,q⟩
  cases x with
  | non=>cases ty;exact Gq I rx (.non) e fin
  | bl y=>cases ty;exact Gq I rx (.bl y) e fin
  | int y=>cases ty;exact Gq I rx (.int y) e fin
  | str y=>cases ty;exact Gq I rx (.str y) e fin
  | ref a=>
    cases (show u=Value.ref a from rx)
    rcases ty with ⟨rfl,ys,sq⟩ | ⟨rfl,ys,sq⟩ | ⟨rfl,kvs,ea⟩
    · obtain ⟨its,_,⟨o,n,h1,h2,_⟩,_⟩:=I.list sq
      exact PySem.W.kia_one PySem.W.kitx_list I.kIn ⟨o,h1,h2⟩ e (fun z=>nomatch z) fin
    · obtain ⟨its,_,⟨o,h1,h2,_⟩,_⟩:=I.tuple sq
      exact PySem.W.kia_one PySem.W.kitx_tuple I.kIn ⟨o,h1,h2⟩ e (fun z=>nomatch z) fin
    · exact Gq I rx (.dK ea) e fin
  | byt y=>cases ty
  | flt y=>cases ty
  | ty y=>cases ty
theorem Aat{K:PySem.W.Frag}{H:Hp}{α:List Addr}{L:UH}{u:U}{x:V}{t:String}(A:Abs K H α L)(r:RepU K H α u x)(h:Nm u L=some t):TyV K H x t∧t∈Rz:=by
  cases u with
  | non=>unfold RepU at r;subst r;cases h;exact ⟨rfl,by decide⟩
  | bl b=>unfold RepU at r;subst r;cases h;exact ⟨rfl,by decide⟩
  | int i=>unfold RepU at r;subst r;cases h;exact ⟨rfl,by decide⟩
  | str y=>unfold RepU at r;subst r;cases h;exact ⟨rfl,by decide⟩
  | tup l=>unfold RepU at r;obtain ⟨a,xs,rfl,sq,_⟩:=r;cases h;exact ⟨.inr (.inl ⟨rfl,xs,sq⟩),by decide⟩
  | ref n=>
    unfold RepU at r
    obtain ⟨a,ea,rfl⟩:=r
    unfold Nm at h
    simp only at h
    split at h
    · rename_i e;cases h;obtain ⟨xs,h,_⟩:=A.rep n a _ ea e;exact ⟨.inl ⟨rfl,xs,.of h⟩,by decide⟩
    · rename_i e;cases h;obtain ⟨xs,h,_⟩:=A.rep n a _ ea e;exact ⟨.inl ⟨rfl,xs,h.sq⟩,by decide⟩
    · rename_i e;cases h;obtain ⟨xs,h,_⟩:=A.rep n a _ ea e;exact ⟨.inr (.inr ⟨rfl,xs,h⟩),by decide⟩
    · cases h
noncomputable def Acq(c:String)(f:FE):FE:=fun δ L=>(f δ L).bind fun p=>(Nm p.1 p.2).map fun t=>(.bl (isT t c),p.2)
theorem U5{X:Cx}{e:Expr}{fe:FE}{p p2 pos:Pos}{cn:Str}{c:String}(hk:Kit X.K c)(he:PEF X e fe)(hg:Gl X "isinstance")(hm:X.mg "isinstance" = none)(hg2:Gl X cn)(hm2:X.mg cn=none)(hv2:bootBuiltins cn=some (.type c))
    (hn:cn ≠ "__name__" := by decide) (hdb:(cn == ("__debug__" : Str))=false:=by decide)
    (hs:starEach [e,.Name cn p2] X.env=(false,eval e X.env)::starEach [.Name cn p2] X.env:=by rfl) (hs2:starEach [.Name cn p2] X.env=(false,eval (.Name cn p2) X.env)::starEach [] X.env:=by rfl)
    (hpl:(backTo pos (starEach [.Name cn p2] X.env)).any (·.1)=false:=by rfl):PEF X (.Call (.Name "isinstance" p) [e,.Name cn p2] [] pos) (Acq c fe):=by
  refine PE.imp (Ic (Ac5 (c:=c)) hg hm (by decide +kernel) (Ea he (Ea (Xl hg2 hm2 hv2 (v:=.ty c) rfl hn hdb) Lc hs2) hs) (by decide) (by decide) hs hpl) ?_
  rintro σ H Q ⟨α,δ,L,A,S,z,L3,e,q⟩
  obtain ⟨⟨u,L1⟩,e1,e⟩:=Option.bind_eq_some_iff.mp e
  obtain ⟨t,e2,e⟩:=Option.map_eq_some_iff.mp e
  cases e
  refine ⟨α,δ,L,A,S,u,_,e1,fun x H1 α1 g1 A1 r1=>?_⟩
  obtain ⟨h1,h2⟩:=Aat A1 r1 e2
  exact ⟨x,t,_,rfl,h1,hk t h2,q _ H1 α1 g1 A1 rfl⟩
theorem Aji{K:PySem.W.Frag}{F:FN}{H:Hp}{a:Addr}{ns:List Int}{E:XK}(ho:Aep H)(hS:SqL K H a (ns.map V.int))(h:∃ L',F [.ref 0] [.ro (ns.map U.int)]=some (.bl true,L')):spF K 1 F [.ref a] H (fun v _=>v = .bl true) E:=by
  obtain ⟨L',e⟩:=h
  have ro:RO K H a (ns.map V.int):=by
    rcases hS with (q | ⟨o,q⟩) | q
    · rcases ho a with z | ⟨o,xs,z⟩
      · rw[z] at q;cases q
      · rw[z] at q;cases q
    · exact .inl ⟨o,q⟩
    · exact .inr q
  refine ⟨[a],[.ro (ns.map U.int)],[.ref 0],⟨rfl,fun i j b o o' e1 e2 e3 e4=>?_,fun i b o e1 e2=>?_⟩,.cons ?_ .nil,rfl,.bl true,L',e,fun v H' α' _ _ r=>r⟩
  · cases i with
    | zero=>cases j with
      | zero=>exact .inl rfl
      | succ j=>simp at e2
    | succ i=>simp at e1
  · cases i with
    | zero=>simp at e1 e2;subst e1;subst e2;exact ⟨_,ro,RepL.ints ns⟩
    | succ i=>simp at e1
  · unfold RepU;exact ⟨a,rfl,rfl⟩
theorem Jv(env:PySem.Env):∀ (names:List (Str×NameKind)) (cs:List (Str×Addr)),(∀ y∈names,y.2 = .free→∃ c,env.cells.lookup y.1=some c)→(∀ x c,cs.lookup x=some c→env.cells.lookup x=some c) →
    ∃ cl:List (Str×Addr),(forIn names cs fun (x:Str×NameKind) r=>if (x.2 == NameKind.free)=true then do let c ← cellOf env x.1;pure (ForInStep.yield ((x.1,c)::r)) else pure (ForInStep.yield r):Sem (List (Str×Addr)))=pure cl ∧
      (∀ x c,cl.lookup x=some c→env.cells.lookup x=some c)∧(∀ y∈names,y.2 = .free→∃ c,cl.lookup y.1=some c)∧∀ x,(∃ c,cs.lookup x=some c)→∃ c,cl.lookup x=some c
  | [],cs,_,h2=>⟨cs,rfl,h2,(fun _ h=>nomatch h),fun _ h=>h⟩
  | (n,k)::r,cs,h1,h2=>by
    cases hk:k == NameKind.free with
    | true=>
      have hk':k = .free:=by simpa using hk
      obtain ⟨c,hc⟩:=h1 (n,k) (List.mem_cons_self ..) hk'
      have look:∀ x c',List.lookup x ((n,c)::cs)=some c'→env.cells.lookup x=some c':=fun x c' e=>by
        rw[List.lookup_cons] at e
        cases hx:x == n with
        | true => rw [hx] at e; simp at e; subst e; have : x = n := by simpa using hx
                  rw[this];exact hc
        | false=>rw[hx] at e;exact h2 x c' e
      obtain ⟨cl,e,p1,p2,p3⟩:=Jv env r ((n,c)::cs) (fun y hy=>h1 y (List.mem_cons_of_mem _ hy)) look
      refine ⟨cl,?_,p1,fun y hy hf=>?_,fun x hx=>?_⟩
      · rw[List.forIn_cons]
        have e0:(cellOf env n:Sem Addr)=pure c:=by unfold cellOf;rw[hc]
        simp only[hk,if_true,e0]
        exact e
      · rcases List.mem_cons.mp hy with rfl | hy
        · exact p3 n ⟨c,by simp⟩
        · exact p2 y hy hf
      · refine p3 x ?_
        rw[List.lookup_cons]
        cases hx':x == n with
        | true=>exact ⟨c,rfl⟩
        | false=>exact hx
    | false=>
      obtain ⟨cl,e,p1,p2,p3⟩:=Jv env r cs (fun y hy=>h1 y (List.mem_cons_of_mem _ hy)) h2
      refine ⟨cl,?_,p1,fun y hy hf=>?_,p3⟩
      · rw[List.forIn_cons]
        simp only[hk,Bool.false_eq_true,if_false]
        exact e
      · rcases List.mem_cons.mp hy with rfl | hy
        · rw[show k=NameKind.free from hf] at hk;cases hk
        · exact p2 y hy hf
theorem Jj{scope:Scope}{env:PySem.Env}(h:∀ y∈scope.names,y.2 = .free→∃ c,env.cells.lookup y.1=some c) :
    ∃ cl,closureFor scope env=pure cl∧(∀ x c,cl.lookup x=some c→env.cells.lookup x=some c)∧∀ y∈scope.names,y.2 = .free→∃ c,cl.lookup y.1=some c:=by
  obtain ⟨cl,e,p1,p2,_⟩:=Jv env scope.names [] h (fun x c e=>by simp at e)
  refine ⟨cl,?_,p1,p2⟩
  unfold closureFor
  show (forIn scope.names [] _ >>= fun cs=>pure cs)=pure cl
  have:(forIn scope.names ([]:List (Str×Addr)) (fun (x:Str×NameKind) (r:List (Str×Addr))=>if (x.2 == NameKind.free)=true then do let c ← cellOf env x.1;pure (ForInStep.yield ((x.1,c)::r)) else pure (ForInStep.yield r)):Sem (List (Str×Addr))) >>= (fun cs=>pure cs)=pure cl:=by rw[e];rfl
  exact this
noncomputable def blk(X:Cx)(scope:Scope)(cl:List (Str×Addr))(C:Addr)(N':List Str)(s2:Shared)(H2:Hp)(fp:List Addr)(pins:List (Addr×Obj)):Cx:=
  { X with env:=compEnvC scope cl C X.env,N:=N',s₀:=s2,H₀:=H2,outer:=X.stack,ex:=fp,fn:=fun _=>false,pn:=X.pn++pins,xe:=fun _ _=>False }
theorem HOk.adopt{P:Program}{w:World}{H:Hp}{h:Heap}{a:Addr}{o:HO}(x:HOk P w H h)(hn:H a=none)(new:ObjOk P w (upd H a o) h a o):HOk P w (upd H a o) h:=fun b u e=>by
  by_cases hb:b=a
  · subst hb;rw[upd_same] at e;cases e;exact new
  · rw[Aw hb] at e
    exact (x b u e).stay (fun c v _ q=>q) (fun c q=>by rw[Aw (A8 q hn)];exact q) fun c xs q=>by rw[Aw (A8 q hn)];exact q
theorem Un.adopt{fs ex:List Addr}{H H1:Hp}{h h1:Heap}{a:Addr}{o:HO}(u:Un fs ex H H1 h h1)(hn:H1 a=none)(ha:h.get? a=none):Un fs ex H (upd H1 a o) h h1 where
  keep:=u.keep
  slot:=u.slot
  free:=fun b ob q n hx=>by
    have:b≠a:=fun z=>by rw[z,ha] at q;cases q
    rw[Aw this];exact u.free b ob q n hx
  there:=u.there
  tups:=fun b xs q=>by have q':=u.tups b xs q;rw[Aw (A8 q' hn)];exact q'
  frzs:=fun b ob xs q=>by have q':=u.frzs b ob xs q;rw[Aw (A8 q' hn)];exact q'
  tbls:=fun b ps q=>by
    obtain ⟨m,q'⟩:=u.tbls b ps q
    exact ⟨m,by rw[Aw (A8 q' hn)];exact q'⟩
structure CompSc(X:Cx)(scope:Scope)(N':List Str)(ix:List (Option Nat)):Prop where
  kind:scope.kind = .function
  cell:(scope.names.all fun y=>y.2 != .cell)=true
  loc:(scope.names.all fun y=>y.2 != .local || scope.names.lookup y.1 == some .local)=true
  free:(scope.names.all fun y=>y.2 != .free || (X.env.kindOf y.1 == some .cell || X.env.kindOf y.1 == some .free))=true
  ixs:((N'.zip ix).all fun p=>match p.2 with | none=>true | some i=>(X.N[i]? == some p.1)&&(scope.names.lookup p.1 == some .free))=true
  len:N'.length=ix.length
noncomputable def inner(ix:List (Option Nat))(σ:L2.St):L2.St:=ix.map fun o=>o.bind fun i=>(σ[i]?).join
noncomputable def Ad2(J:It)(g:TG)(tt:TT)(te:TE)(σ':L2.St)(H:Hp)(Fin:List V→Hp→Prop):Prop:=∃ W:Nat→Nat→List V→L2.St→Hp→Prop,(∃ m,W 0 m [] σ' H)∧∀ i m acc σ1 H1,W i m acc σ1 H1 →
  (J.stop i H1∧Fin acc H1)∨(J.go i H1∧∀ x H3,J.yld i H1 x H3→g x σ1 H3 fun σ2 H4=>tt σ2 H4 fun b H5=>
    if b=true then te σ2 H5 fun y H6=>acc.length < sizeLine∧∃ m',m' < m∧W (i+1) m' (acc++[y]) σ2 H6 else ∃ m',m' < m∧W (i+1) m' acc σ2 H5)
section
variable {X:Cx}{scope:Scope}{N':List Str}{ix:List (Option Nat)}{pins:List (Addr×Obj)}{σ:L2.St}{H2:Hp}{s2:Shared}{cl:List (Str×Addr)}{fp:List Addr}
theorem Fd{β:Type}{x:Str}{v:β}:∀ {l:List (Str×β)},l.lookup x=some v→(x,v)∈l
  | [],h=>by simp at h
  | (n,k)::r,h=>by
    rw[List.lookup_cons] at h
    cases hx:x == n with
    | true => rw [hx] at h; simp at h; have : x = n := by simpa using hx
              subst this;subst h;exact List.mem_cons_self ..
    | false=>rw[hx] at h;exact List.mem_cons_of_mem _ (Fd h)
theorem Fb{env:PySem.Env}{x:Str}:∀ {names:List (Str×NameKind)} {k:NameKind},(names.map fun (n,k)=>if (k == NameKind.free&&env.scope.kind == .function&&env.kindOf n == some .cell) then (n,NameKind.cell) else (n,k)).lookup x=some k →
    names.lookup x=some k∨(names.lookup x=some .free∧k = .cell)
  | [],k,h=>by simp at h
  | (n,k')::r,k,h=>by
    have ih:=@Fb env x r k
    rw[List.map_cons] at h
    cases hx:x == n with
    | true=>
      rw[List.lookup_cons,hx]
      simp only at h ⊢
      split at h
      · rename_i hc
        rw[List.lookup_cons,hx] at h
        simp at h
        simp only[Bool.and_eq_true] at hc
        have:k' = .free:=by simpa using hc.1.1
        subst this
        exact .inr ⟨rfl,h.symm⟩
      · rw[List.lookup_cons,hx] at h
        exact .inl h
    | false=>
      rw[List.lookup_cons,hx]
      simp only at h ⊢
      split at h
      · rw[List.lookup_cons,hx] at h;exact ih h
      · rw[List.lookup_cons,hx] at h;exact ih h
theorem Er{env:PySem.Env}{x:Str}:∀ {names:List (Str×NameKind)},names.lookup x=some .free →
    (names.map fun (n,k)=>if (k == NameKind.free&&env.scope.kind == .function&&env.kindOf n == some .cell) then (n,NameKind.cell) else (n,k)).lookup x=some .free∨(names.map fun (n,k)=>if (k == NameKind.free&&env.scope.kind == .function&&env.kindOf n == some .cell) then (n,NameKind.cell) else (n,k)).lookup x=some .cell
  | [],h=>by simp at h
  | (n,k')::r,h=>by
    have ih:=@Er env x r
    rw[List.map_cons]
    cases hx:x == n with
    | true=>
      rw[List.lookup_cons,hx] at h
      simp at h
      subst h
      simp only
      split
      · right;rw[List.lookup_cons,hx]
      · left;rw[List.lookup_cons,hx]
    | false=>
      rw[List.lookup_cons,hx] at h
      have:=ih h
      simp only
      split
      · rw[List.lookup_cons,hx];exact this
      · rw[List.lookup_cons,hx];exact this
theorem Yw(S:CompSc X scope N' ix)(hcalm:X.calm=true)(I2:Inv X pins σ H2 s2)(hcl:∀ x c,cl.lookup x=some c→X.env.cells.lookup x=some c)(hcl2:∀ y∈scope.names,y.2 = .free→∃ c,cl.lookup y.1=some c)
    (f2:∀ b∈fp,Je X pins H2 b) (hfp:∀ b∈fp,b < s2.heap.objs.size) {C:Addr} {h4:Heap} {m:Str→Option Value} {t4:Nat} (hC:s2.heap.objs.size≤C) (hns:h4.Ns C m) (keep:∀ b o,s2.heap.get? b=some o→h4.get? b=some o) :
    Inv (blk X scope cl C N' s2 H2 fp pins) [] (inner ix σ) H2 { s2 with heap:=h4,toks:=t4 }:=by
  have hkindC:(relabel scope X.env).kind = .function:=S.kind
  have ok:(blk X scope cl C N' s2 H2 fp pins).Ok:=
    { mod:=I2.ok.mod
      kind:=hkindC
      glob:=I2.ok.glob
      blt:=I2.ok.blt
      above:=hC
      inj:=fun x y c e1 e2=>I2.ok.inj x y c (hcl x c e1) (hcl y c e2)
      has:=fun x h=>by
        have h':(relabel scope X.env).names.lookup x=some .cell∨(relabel scope X.env).names.lookup x=some .free:=h
        have hfree:scope.names.lookup x=some .free:=by
          rcases h' with h' | h'
          · rcases Fb h' with q | ⟨q,_⟩
            · have:=List.all_eq_true.mp S.cell _ (Fd q)
              simp at this
            · exact q
          · rcases Fb h' with q | ⟨q,z⟩
            · exact q
            · cases z
        exact hcl2 _ (Fd hfree) rfl
      cab:=fun x c h=>by cases h
      hd:=fun _=>I2.ok.hd hcalm
      frames:=I2.ok.frames
      stk:=.inl rfl
      exf:=fun b hb=>⟨Nat.ne_of_lt (Nat.lt_of_lt_of_le (hfp b hb) hC),fun x c e=>(f2 b hb).2.2.2.2.1 x c (hcl x c e)⟩
      bs:=fun b o e=>I2.bs b o e
      bsz:=Nat.le_trans I2.ok.bsz I2.sz
      noex:=fun b o e hb=>by
        rcases (f2 b hb).2.2.2.1 with z | z
        · exact I2.ok.noex b o e z
        · exact absurd (Nat.lt_of_lt_of_le (Heap.lt_size (I2.ok.bs b o e).1) z) (Nat.lt_irrefl _)
      exfs:=fun b hb z=>by
        rcases List.mem_cons.mp (I2.stkSub b z) with q | q
        · exact (f2 b hb).2.1 q
        · exact (f2 b hb).2.2.1 q
      funs:=I2.stack
      frf:=I2.stkFree }
  obtain ⟨m0,hn0,hl0⟩:=id I2.loc
  refine ⟨ok,rfl,I2.bare,Un.kept keep,⟨m,hns,fun j x v e1 e2 e3=>?_⟩,fun x c e=>?_,I2.hok.fresh hC,fun x c e=>I2.freeC x c (hcl x c e),fun p hp=>?_,I2.hok.kept keep,?_⟩
  · -- a name that the block takes along
    have e1':N'[j]? = some x:=e1
    have e2':(inner ix σ)[j]? = some (some v):=e2
    unfold inner at e2'
    rw[List.getElem?_map] at e2'
    cases hx:ix[j]? with
    | none=>rw[hx] at e2';simp at e2'
    | some o=>
      rw[hx] at e2'
      cases o with
      | none=>simp at e2'
      | some i=>
        simp at e2'
        have hz:(x,some i)∈N'.zip ix:=List.mem_of_getElem? (i:=j) (by rw[List.getElem?_zip_eq_some];exact ⟨e1',hx⟩)
        have hz':=List.all_eq_true.mp S.ixs _ hz
        simp only[Bool.and_eq_true,beq_iff_eq] at hz'
        obtain ⟨hXN,hfr⟩:=hz'
        have hσ:σ[i]? = some (some v):=by
          cases q:σ[i]? with
          | none=>rw[q] at e2';simp at e2'
          | some o=>rw[q] at e2';simp at e2';rw[e2']
        have hk:=List.all_eq_true.mp S.free _ (Fd hfr)
        simp at hk
        have hvis:Vis X.env.scope x:=by
          rcases hk with q | q
          · exact .inr (.inl q)
          · exact .inr (.inr q)
        obtain ⟨u,r,look⟩:=hl0 i x v hXN hσ hvis
        rcases look with ⟨q,_⟩ | ⟨_,c,ec,hc⟩
        · rcases hk with z | z
          · rw[z] at q;cases q
          · rw[z] at q;cases q
        · obtain ⟨c',ec'⟩:=hcl2 _ (Fd hfr) rfl
          have:c'=c:=by have:=hcl x c' ec';rw[ec] at this;cases this;rfl
          subst this
          refine ⟨u,r,.inr ⟨?_,c',ec',?_⟩⟩
          · rcases Er (env:=X.env) hfr with q | q
            · exact .inr q
            · exact .inl q
          · obtain ⟨oc,ho,hd⟩:=hc
            exact ⟨oc,keep _ _ ho,hd⟩
  · obtain ⟨v,oc,ho,hd⟩:=I2.cell x c (hcl x c e)
    exact ⟨v,oc,keep _ _ ho,hd⟩
  · have hp':p∈X.pn++pins:=by simpa[blk] using hp
    obtain ⟨q1,q2,q3,q4,q5⟩:=I2.pin p hp'
    refine ⟨keep _ _ q1,q2,Nat.ne_of_lt (Nat.lt_of_lt_of_le (Heap.lt_size q1) hC),fun z=>?_,q5⟩
    rcases List.mem_cons.mp (I2.stkSub p.1 z) with q | q
    · exact q3 q
    · exact q4 q
  · show (inner ix σ).length=N'.length
    rw[S.len];simp[inner]
end
section
variable {X:Cx}{scope:Scope}{N':List Str}{ix:List (Option Nat)}{pins:List (Addr×Obj)}{σ:L2.St}{H2:Hp}{s2:Shared}{cl:List (Str×Addr)}{fp:List Addr}
noncomputable def Qt(X':Cx)(ifs:List Expr)(tt:TT):Prop:=∀ (pins:List (Addr×Obj)) (s:Shared) (σ:L2.St) (H:Hp) (Q:Bool→Hp→Prop) (E:Value→Shared→Prop),Inv X' pins σ H s→tt σ H Q→(∀ e s,X'.xe e s→E e s) →
  wpAny (model X'.prog X'.w) X'.A (forIn ifs true fun c r=>if r=true then do let ok ← isTrue c X'.env (eval c X'.env);pure (ForInStep.yield ok) else pure (ForInStep.yield r)) (TP X' pins σ Q) E s
noncomputable def Aen:TT:=fun _ H Q=>Q true H
theorem P6{X':Cx}:Qt X' [] Aen:=fun pins s σ H Q E I h _=>wpAny_tests_nil ⟨H,I,h⟩
theorem X3{X':Cx}{c:Expr}{tt:TT}(h:PT X' c tt):Qt X' [c] tt:=fun pins s σ H Q E I q hE=>wpAny_tests_one (wpAny_mono (h pins s σ H Q I q) (fun _ _ z=>z) hE)
noncomputable def Co(its:List Value)(n:Nat):Obj:={ cls:=.type "list",data:=.seq its.toArray n }
theorem Yo{elt tg iter:Expr}{ifs:List Expr}{pos:Pos}{it D C:Addr}{J:It}{tn:Nat→Heap→Prop}{g:TG}{tt:TT}{te:TE}{Fin:List V→Hp→Prop}{R:Result→Shared→Prop}{X':Cx}
    (hX:X'.A=X.A∧X'.prog=X.prog∧X'.w=X.w∧X'.K=X.K∧X'.calm=true∧∀ e s,¬ X'.xe e s) (T:Turn X.prog X.w X.K tg J fp it tn) (hg:PG X' tg g) (ht:Qt X' ifs tt) (he:PE X' elt te)
    (hD1:s2.heap.objs.size≤D) (hDC:D≠C) (hC:s2.heap.objs.size≤C) (hfp:∀ b∈fp,Je X' [] H2 b∧b≠D) (hDf:∀ H,H D=none→Je X' [] H D)
    {s:Shared} {σ1:L2.St} {H1:Hp} {n0:Nat} (I:Inv X' [(D,Co [] n0)] σ1 H1 s) (st:tn 0 s.heap) (fr:∀ b∈fp,H1 b=none) (hloop:Ad2 J g tt te σ1 H1 Fin)
    (hR:∀ (s':Shared) (σ':L2.St) (H':Hp) (acc:List V) (its:List Value) (n:Nat),Inv X' [(D,Co its n)] σ' H' s'→Vals acc its→acc.length≤sizeLine→Fin acc H'→R (.ok .next) s') :
    codeAny (model X.prog X.w) X.A (.compLoop (.ListComp elt [⟨tg,iter,ifs,0⟩] scope pos) 0 (.ref it) (.ref D) X'.env) R s:=by
  obtain ⟨W,⟨m0,w0⟩,turn⟩:=hloop
  obtain ⟨hXA,hXp,hXw,hXK,hXc,hxe⟩:=hX
  have hfpo:∀ (o:Obj) (H:Hp),(∀ b∈fp,H b=none)→∀ b∈fp,Je X' [(D,o)] H b:=fun o H hn b hb=>by
    obtain ⟨⟨_,q1,q2,q3,q4,q5⟩,q6⟩:=hfp b hb
    refine ⟨hn b hb,q1,q2,q3,q4,fun p hp=>?_⟩
    rcases List.mem_append.mp hp with z | z
    · exact q5 p (List.mem_append_left _ z)
    · have:p=(D,o):=by simpa using z
      rw[this];exact fun z=>q6 z.symm
  refine codeAny_loop rfl (fun n s=>∃ i acc its k σ1 H1,Inv X' [(D,Co its k)] σ1 H1 s∧Vals acc its∧acc.length≤sizeLine∧tn i s.heap∧(∀ b∈fp,H1 b=none)∧W i n acc σ1 H1) (fun n s hI=>?_) m0 ⟨0,[],[],n0,σ1,H1,I,.nil,Nat.zero_le _,st,fr,w0⟩
  show wpAny _ X.A ((compTurn (.ListComp elt [⟨tg,iter,ifs,0⟩] scope pos) 0 (.ref it) (.ref D) X'.env).onRaise (fun x=>do noteFrame x X'.env;theTreesLotGoes x)) _ _ s
  refine wpAny_noted ?_
  rw[compTurn_list]
  obtain ⟨i,acc,its,k,σ1,H1,I,hv,hz,st,fr,w1⟩:=hI
  refine wpAny_bind (wpAny_standAt (wpAny_bind ?_))
  rcases turn i n acc σ1 H1 w1 with ⟨stop,fin⟩ | ⟨go,step⟩
  · have h:=T.done X' hXp hXw hXK hXc i _ s σ1 H1 (notedBy (model X.prog X.w) X.A X'.env fun e s'=>R (.error e) s') I (hfpo _ H1 fr) st stop
    rw[hXA] at h
    refine thn h fun r s4 zz=>?_
    obtain ⟨hr,I4⟩:=zz
    subst hr
    exact wpAny_pure (hR s4 σ1 H1 acc its k I4 hv hz fin)
  · have h:=T.item X' hXp hXw hXK hXc i _ s σ1 H1 (notedBy (model X.prog X.w) X.A X'.env fun e s'=>R (.error e) s') I (hfpo _ H1 fr) st go
    rw[hXA] at h
    refine thn h fun r s4 zz=>?_
    obtain ⟨u,hr,h4⟩:=zz
    subst hr
    refine wpAny_bind (thn h4 fun _ s5 zz=>?_)
    obtain ⟨x,H5,I5,r5,y5,st5,fr5⟩:=zz
    have I5':=I5.pinned (hfpo _ H5 fr5) (T.obj _ _ st5)
    have hg5:=hg _ s5 σ1 H5 x u _ I5' r5 (step x H5 y5)
    rw[hXp,hXw,hXA] at hg5
    refine wpAny_bind (wpAny_mono hg5 (fun _ s6 zz=>?_) fun e s z=>absurd z (hxe e s))
    obtain ⟨σ6,H6,I6,q6⟩:=zz
    have ht6:=ht _ s6 σ6 H6 _ (notedBy (model X.prog X.w) X.A X'.env fun e s'=>R (.error e) s') I6 q6 (fun e s z=>absurd z (hxe e s))
    rw[hXp,hXw,hXA] at ht6
    refine wpAny_bind (thn ht6 fun b s7 zz=>?_)
    obtain ⟨H7,I7,q7⟩:=zz
    have back:∀ {σ8:L2.St} {H8:Hp} {s8:Shared},Inv X' ([(D,Co its k)]++Nb fp s5.heap) σ8 H8 s8→tn (i+1) s8.heap∧(∀ b∈fp,H8 b=none)∧s8.heap.get? D=some (Co its k)∧H8 D=none:=fun {σ8 H8 s8} I8=>by
      refine ⟨T.keep _ _ _ st5 fun b hb o e=>(I8.pin (b,o) (List.mem_append_right _ (List.mem_append_right _ (Hk hb e)))).1,fun b hb=>?_,?_,?_⟩
      · obtain ⟨o,e,d⟩:=T.obj _ _ st5 b hb
        exact (I8.pin (b,o) (List.mem_append_right _ (List.mem_append_right _ (Hk hb e)))).2.1
      · exact (I8.pin (D,Co its k) (List.mem_append_right _ (List.mem_append_left _ (List.mem_singleton.mpr rfl)))).1
      · exact (I8.pin (D,Co its k) (List.mem_append_right _ (List.mem_append_left _ (List.mem_singleton.mpr rfl)))).2.1
    cases b with
    | false=>
      obtain ⟨m',hm,w8⟩:=(q7:if false=true then _ else _)
      obtain ⟨st8,fr8,_,_⟩:=back I7
      refine wpAny_pure ⟨rfl,m',hm,i+1,acc,its,k,σ6,H7,?_,hv,hz,st8,fr8,w8⟩
      exact I7.pins_of fun p hp=>I7.pin p (List.mem_append_right _ (List.mem_append_left _ hp))
    | true=>
      have q7':te σ6 H7 fun y H6=>acc.length < sizeLine∧∃ m',m' < n∧W (i+1) m' (acc++[y]) σ6 H6:=q7
      have he7:=he _ s7 σ6 H7 _ I7 q7'
      rw[hXp,hXw,hXA] at he7
      refine wpAny_bind (wpAny_bind (wpAny_mono he7 (fun y s8 zz=>zz.elim fun v H8 I8 r8 zq=>?_) fun e s z=>absurd z (hxe e s)))
      obtain ⟨hlt,m',hm,w8⟩:=zq
      obtain ⟨st8,fr8,hDo,hDn⟩:=back I8
      have hlen:=hv.length
      have hisl:s8.heap.IsList D its.toArray:=⟨_,hDo,rfl,k,rfl⟩
      refine wpAny_bind ?_
      obtain ⟨k',hd'⟩:∃ k',Obj.mapSeq (·.push y) (Co its k)=Co (its++[y]) k':=⟨_,by simp[Co,Obj.mapSeq];rfl⟩
      refine wpAny_call_entry slot_list_append hisl.typeIs entry_list_append ?_ (args_list_append _ _)
      show wpAny _ _ (updateSeq D (·.push y) >>= fun _=>ret .none) _ _ s8
      refine wpAny_bind (wpAny_updateSeq hDo rfl (wpAny_pure ⟨.none,rfl,?_⟩))
      have hk9:∀ b o,b≠D→s8.heap.get? b=some o→(s8.heap.update D (Obj.mapSeq (·.push y))).get? b=some o:=fun b o hb e=>(Heap.SameBut.update (h:=s8.heap) (a:=D) ..).2 b hb |>.trans e
      have hD9:(s8.heap.update D (Obj.mapSeq (·.push y))).get? D=some (Co (its++[y]) k'):=by
        rw[← hd'];exact Heap.get?_update_self _ hDo (by rw[hd'];exact Obj.isFreed_of_seq (xs:=(its++[y]).toArray) (n:=k') rfl)
      have I8':Inv X' [] σ6 H8 s8:=I8.pins_of fun p hp=>by cases hp
      obtain ⟨d0,d1,d2,d3,d4,d5⟩:=hDf H8 hDn
      have I9:Inv X' [] σ6 H8 { s8 with heap:=s8.heap.update D (Obj.mapSeq (·.push y)) }:=I8'.turned (t':=s8.toks) hk9 hDn d1 d3 d4 d5
      have I10:=I9.pins_of (pins':=[(D,Co (its++[y]) k')]) fun p hp=>by
        have:p=(D,Co (its++[y]) k'):=by simpa using hp
        subst this
        exact ⟨hD9,hDn,d1,d2,fun v z=>by simp[Co] at z⟩
      refine wpAny_pure (wpAny_pure ⟨rfl,m',hm,i+1,acc++[v],its++[y],k',σ6,H8,I10,Vals.append hv (.cons r8 .nil),by rw[List.length_append];simp;omega,?_,fr8,w8⟩)
      refine T.keep _ _ _ st8 fun b hb o e=>hk9 b o (hfp b hb).2 e
end
section
variable {X:Cx}{scope:Scope}{N':List Str}{ix:List (Option Nat)}
noncomputable def Ads(ix:List (Option Nat))(wi:TI)(g:TG)(tt:TT)(te:TE):TE:=fun σ H Q=>wi σ H fun J H1=>Ad2 J g tt te (inner ix σ) H1 fun acc H2=>∀ p,H2 p=none→Q (.ref p) (upd H2 p (.lst acc))
theorem Qg{elt tg iter:Expr}{ifs:List Expr}{pos:Pos}{g:TG}{tt:TT}{te:TE}{pins:List (Addr×Obj)}{σ:L2.St}{H2:Hp}{s2:Shared}{cl:List (Str×Addr)}{fp:List Addr}{it:Addr}{J:It}{tn:Nat→Heap→Prop}{E:Value→Shared→Prop}{Fin:List V→Hp→Prop}{RR:Value→Addr→Result→Shared→Prop}
    (S:CompSc X scope N' ix) (hcalm:X.calm=true) (hcl:∀ x c,cl.lookup x=some c→X.env.cells.lookup x=some c) (hcl2:∀ y∈scope.names,y.2 = .free→∃ c,cl.lookup y.1=some c)
    (hg:∀ C,PG (blk X scope cl C N' s2 H2 fp pins) tg g) (ht:∀ C,Qt (blk X scope cl C N' s2 H2 fp pins) ifs tt) (he:∀ C,PE (blk X scope cl C N' s2 H2 fp pins) elt te)
    (I2:Inv X pins σ H2 s2) (T:Turn X.prog X.w X.K tg J fp it tn) (st2:tn 0 s2.heap) (f2:∀ b∈fp,Je X pins H2 b) (hloop:Ad2 J g tt te (inner ix σ) H2 Fin)
    (hRR:∀ (D C:Addr) (s':Shared) (H':Hp) (acc:List V),Inv X pins σ (upd H' D (.lst acc)) s'→H' D=none→(∃ m,s'.heap.Ns C m)→(upd H' D (.lst acc)) C=none→Je X pins (upd H' D (.lst acc)) C→Fin acc H'→RR (.ref D) C (.ok .next) s') :
    wpAny (model X.prog X.w) X.A (newList []) (fun acc s₃=>wpAny (model X.prog X.w) X.A (newFunctionEnv scope X.env.globals cl [] X.env.qual none .none (some X.env)) (fun cenv s₄=>
      codeAny (model X.prog X.w) X.A (.compStart (.ListComp elt [⟨tg,iter,ifs,0⟩] scope pos) 0 (.ref it) acc { cenv with scope:=relabel scope X.env }) (RR acc cenv.locals) s₄) E s₃) E s2:=by
  have hcell:∀ y∈scope.names,y.2≠.cell:=fun y hy z=>by
    have:=List.all_eq_true.mp S.cell y hy
    rw[z] at this;simp at this
  refine wpAny_newObj_type (wpAny_newFunctionEnv hcell (by intro y hy;simp at hy) (fun h₁ hns₁ hsb₁=>?_) S.kind)
  dsimp only at hns₁ hsb₁ ⊢
  generalize hH2:s2.heap.push { cls:=.type "list",dict:=none,data:=.seq ([]:List Value).toArray } = HP at hns₁ hsb₁ ⊢
  have hCs:HP.objs.size=s2.heap.objs.size+1:=by rw[← hH2,Heap.size_push]
  have hDC:s2.heap.objs.size≠HP.objs.size:=by rw[hCs];exact Nat.ne_of_lt (Nat.lt_succ_self _)
  have hCle:s2.heap.objs.size≤HP.objs.size:=by rw[hCs];exact Nat.le_succ _
  have old:∀ b o,s2.heap.get? b=some o→h₁.get? b=some o:=fun b o e=>hsb₁.extBut b o (Nat.ne_of_lt (Nat.lt_of_lt_of_le (Heap.lt_size e) hCle)) (Heap.get?_push_of_some _ (hH2 ▸ Heap.get?_push_of_some _ e))
  have hacc:h₁.get? s2.heap.objs.size=some (Co [] 0):=hsb₁.extBut _ _ hDC (Heap.get?_push_of_some _ (hH2 ▸ Heap.get?_push_size _ rfl))
  have hfp:∀ b∈fp,b < s2.heap.objs.size:=fun b hb=>by
    obtain ⟨o,e,_⟩:=T.obj _ _ st2 b hb
    exact Heap.lt_size e
  generalize hDg:s2.heap.objs.size=D at hDC hacc
  generalize hCg:HP.objs.size=C at *
  have hDle:s2.heap.objs.size≤D:=Nat.le_of_eq hDg
  have hD2:s2.heap.get? D=none:=by
    cases q:s2.heap.get? D with
    | none=>rfl
    | some o=>exact absurd (Nat.lt_of_lt_of_le (Heap.lt_size q) hDle) (Nat.lt_irrefl _)
  have I4:=Yw (t4:=s2.toks+([]:List (Str×Value)).length) S hcalm I2 hcl hcl2 f2 hfp hCle hns₁ old
  have above:∀ a,s2.heap.objs.size≤a→a∉frs X.stack∧(∀ x c,X.env.cells.lookup x=some c→c≠a)∧(∀ p∈X.pn++pins,p.1≠a)∧a≠X.env.locals:=fun a ha=>by
    refine ⟨fun z=>?_,fun x c e z=>?_,fun p hp z=>?_,?_⟩
    · rcases List.mem_cons.mp (I2.stkSub a z) with q | q
      · exact absurd (Nat.lt_of_lt_of_le I2.lt (q ▸ ha)) (Nat.lt_irrefl _)
      · exact I2.nofs ha q
    · obtain ⟨v,q⟩:=I2.cell x c e
      exact absurd (Nat.lt_of_lt_of_le q.lt (z ▸ ha)) (Nat.lt_irrefl _)
    · exact absurd (Nat.lt_of_lt_of_le (Heap.lt_size (I2.pin p hp).1) (z ▸ ha)) (Nat.lt_irrefl _)
    · intro z;exact absurd (Nat.lt_of_lt_of_le I2.lt (z ▸ ha)) (Nat.lt_irrefl _)
  have hfpX:∀ b∈fp,Je (blk X scope cl C N' s2 H2 fp pins) [] H2 b∧b≠D:=fun b hb=>by
    obtain ⟨q0,q1,q2,q3,q4,q5⟩:=f2 b hb
    have hlt:=hfp b hb
    refine ⟨⟨q0,Nat.ne_of_lt (Nat.lt_of_lt_of_le hlt hCle),fun z=>?_,.inl hb,fun x c e=>q4 x c (hcl x c e),fun p hp=>q5 p (by simpa[blk] using hp)⟩,Nat.ne_of_lt (Nat.lt_of_lt_of_le hlt hDle)⟩
    rcases List.mem_cons.mp (I2.stkSub b z) with q | q
    · exact q1 q
    · exact q2 q
  have hDf:∀ H:Hp,H D=none→Je (blk X scope cl C N' s2 H2 fp pins) [] H D:=fun H hn=>by
    obtain ⟨a1,a2,a3,a4⟩:=above D hDle
    exact ⟨hn,hDC,a1,.inr hDle,fun x c e=>a2 x c (hcl x c e),fun p hp=>a3 p (by simpa[blk] using hp)⟩
  have hDn2:H2 D=none:=I2.hok.fresh hDle
  have I5:Inv (blk X scope cl C N' s2 H2 fp pins) [(D,Co [] 0)] (inner ix σ) H2 { s2 with heap:=h₁,toks:=s2.toks+([]:List (Str×Value)).length }:=I4.pins_of fun p hp=>by
    have:p=(D,Co [] 0):=by simpa using hp
    subst this
    obtain ⟨_,d1,d2,_⟩:=hDf H2 hDn2
    exact ⟨hacc,hDn2,d1,d2,fun v z=>by simp[Co] at z⟩
  have st5:tn 0 h₁:=T.keep _ _ _ st2 fun b _ o e=>old b o e
  have loop:codeAny (model X.prog X.w) X.A (.compLoop (.ListComp elt [⟨tg,iter,ifs,0⟩] scope pos) 0 (.ref it) (.ref D) (blk X scope cl C N' s2 H2 fp pins).env) (RR (.ref D) C) { s2 with heap:=h₁,toks:=s2.toks+([]:List (Str×Value)).length }:=by
    refine Yo (X':=blk X scope cl C N' s2 H2 fp pins) ⟨rfl,rfl,rfl,rfl,hcalm,fun _ _ z=>z⟩ T (hg C) (ht C) (he C) hDle hDC hCle hfpX hDf I5 st5 (fun b hb=>(f2 b hb).1) hloop ?_
    intro s' σ' H' acc its n I hv hz fin
    obtain ⟨hDo,hDn,_⟩:=I.pin (D,Co its n) (List.mem_append_right _ (List.mem_singleton.mpr rfl))
    have hbase:Un (frs X.stack) fp H2 H' s2.heap s'.heap:=I.base
    have hok:HOk X.prog X.w (upd H' D (.lst acc)) s'.heap:=HOk.adopt I.hok hDn ⟨hz,its,n,hv,hDo⟩
    have IX:Inv X pins σ (upd H' D (.lst acc)) s':=I2.call' I.os (Un.adopt hbase hDn hD2) hok I.bare fun b hb=>⟨(f2 b hb).2.2.2.1,(f2 b hb).2.1,(f2 b hb).2.2.2.2.1,(f2 b hb).2.2.2.2.2⟩
    obtain ⟨m,hm,_⟩:=I.loc
    have hCn:(upd H' D (.lst acc)) C=none:=by rw[Aw (Ne.symm hDC)];exact I.free
    obtain ⟨a1,a2,a3,a4⟩:=above C hCle
    refine hRR D C s' H' acc IX hDn ⟨m,hm⟩ hCn ⟨hCn,a4,fun z=>?_,.inr (Nat.le_trans I2.sz hCle),a2,a3⟩ fin
    exact I2.nofs hCle z
  have e1:({ newEnv scope C X.env.globals cl X.env.qual none .none (some X.env) builtinsNs with scope:=relabel scope X.env }:PySem.Env)=(blk X scope cl C N' s2 H2 fp pins).env:=rfl
  exact codeAny_compStart_list loop (T.self _ 0 _ _ _ st5 loop)
theorem CompSc.names{scope:Scope}(S:CompSc X scope N' ix):∀ x∈scope.names,x.2 = .local→scope.names.lookup x.1=some .local:=fun x hx hl=>by
  have:=List.all_eq_true.mp S.loc x hx
  rw[hl] at this
  simpa using this
theorem CompSc.clos{scope:Scope}(S:CompSc X scope N' ix)(ok:X.Ok):∃ cl,closureFor scope X.env=pure cl∧(∀ x c,cl.lookup x=some c→X.env.cells.lookup x=some c)∧∀ y∈scope.names,y.2 = .free→∃ c,cl.lookup y.1=some c:=by
  refine Jj fun y hy hf=>?_
  have:=List.all_eq_true.mp S.free y hy
  rw[hf] at this
  simp at this
  exact ok.has y.1 this
theorem Xo{elt tg iter:Expr}{ifs:List Expr}{pos:Pos}{wi:TI}{g:TG}{tt:TT}{te:TE}(S:CompSc X scope N' ix)(hcalm:X.calm=true)(hi:PI X tg iter wi)
    (hg:∀ cl C s2 H2 fp pins,PG (blk X scope cl C N' s2 H2 fp pins) tg g) (ht:∀ cl C s2 H2 fp pins,Qt (blk X scope cl C N' s2 H2 fp pins) ifs tt) (he:∀ cl C s2 H2 fp pins,PE (blk X scope cl C N' s2 H2 fp pins) elt te)
    (hs:∀ x,foldedSetIterable iter X.env x=pure x:=by intro _;rfl):PE X (.ListComp elt [⟨tg,iter,ifs,0⟩] scope pos) (Ads ix wi g tt te):=by
  intro pins s σ H Q I h
  obtain ⟨cl,hclos,hcl,hcl2⟩:=S.clos I.ok
  rw[eval_ListComp]
  refine wpAny_comprehension_free (use:=none) rfl hs hclos S.kind S.names (thn (hi pins s σ H _ I h) fun v s1 h1=>thn h1 fun itv s2 h2=>?_)
  obtain ⟨it,fp,tn,J,H2,e,I2,T,st2,f2,loop⟩:=h2
  subst e
  refine Qg (RR:=fun acc C=>compPost (model X.prog X.w) X.A X.xe none (EP X pins σ Q) acc C) S hcalm hcl hcl2 (fun C=>hg cl C s2 H2 fp pins) (fun C=>ht cl C s2 H2 fp pins) (fun C=>he cl C s2 H2 fp pins) I2 T st2 f2 loop ?_
  intro D C s' H' acc IX hDn ⟨m,hm⟩ hCn hC fin
  refine ⟨m,hm,fun h' hsb=>?_⟩
  obtain ⟨c0,c1,c2,c3,c4,c5⟩:=hC
  exact ⟨.ref D,_,IX.turned (t':=s'.toks) (fun b o hb e=>hsb.2 b hb |>.trans e) c0 c1 c3 c4 c5,rfl,fin D hDn⟩
theorem Aeg{i:Nat}{y:Str}{py spos:Pos}{elt tg iter:Expr}{ifs:List Expr}{pos:Pos}{wi:TI}{g:TG}{tt:TT}{te:TE}(hN:X.N.Nodup)(hiN:X.N[i]? = some y)(hx:Loc X.env.scope y)(hf:X.fn y=true∨X.env.scope.names.lookup y=some .local)
    (S:CompSc X scope N' ix) (hcalm:X.calm=true) (hi:PI X tg iter wi)
    (hg:∀ cl C s2 H2 fp pins,PG (blk X scope cl C N' s2 H2 fp pins) tg g) (ht:∀ cl C s2 H2 fp pins,Qt (blk X scope cl C N' s2 H2 fp pins) ifs tt) (he:∀ cl C s2 H2 fp pins,PE (blk X scope cl C N' s2 H2 fp pins) elt te)
    (hsw:swapsWith (.ListComp elt [⟨tg,iter,ifs,0⟩] scope pos) (some (.Name y py)) spos.line X.env=pure true)
    (hs:∀ x,foldedSetIterable iter X.env x=pure x:=by intro _;rfl):PS X (.Assign [.Name y py] (.ListComp elt [⟨tg,iter,ifs,0⟩] scope pos) spos) (Agz (Ads ix wi g tt te) (Tv i)):=by
  intro pins s σ H Dn I h
  obtain ⟨cl,hclos,hcl,hcl2⟩:=S.clos I.ok
  rw[exec_Assign_Name_used _ _ _ _ hsw]
  refine wpAny_bind (wpAny_standAt (wpAny_bind ?_))
  show wpAny _ X.A (do let _ ← comprehension (.ListComp elt [⟨tg,iter,ifs,0⟩] scope pos) scope X.env _ (newList []) false (eval iter X.env) (some (assign (.Name y py) X.env))) _ _ s
  refine wpAny_bind (wpAny_mono (wpAny_comprehension_free (Q:=fun _ s'=>SP X pins Dn .next s') (use:=some (assign (.Name y py) X.env)) rfl hs hclos S.kind S.names (thn (hi pins s σ H _ I h) fun v s1 h1=>thn h1 fun itv s2 h2=>?_)) (fun _ s' hq=>wpAny_pure (wpAny_pure hq)) fun _ _ e=>e)
  obtain ⟨it,fp,tn,J,H2,e,I2,T,st2,f2,loop⟩:=h2
  subst e
  refine Qg (RR:=fun acc C=>compPost (model X.prog X.w) X.A X.xe (some (assign (.Name y py) X.env)) (fun _ s'=>SP X pins Dn .next s') acc C) S hcalm hcl hcl2 (fun C=>hg cl C s2 H2 fp pins) (fun C=>ht cl C s2 H2 fp pins) (fun C=>he cl C s2 H2 fp pins) I2 T st2 f2 loop ?_
  intro D C s' H' acc IX hDn ⟨m,hm⟩ hCn hC fin
  obtain ⟨c0,c1,c2,c3,c4,c5⟩:=hC
  obtain ⟨oC,es,ep,hoC,hdC,hrest⟩:=id hm
  have IP:Inv X (pins++[(C,oC)]) σ (upd H' D (.lst acc)) s':=IX.pins_of fun p hp=>by
    rcases List.mem_append.mp hp with z | z
    · exact IX.pin p (List.mem_append_right _ z)
    · have:p=(C,oC):=by simpa using z
      subst this
      exact ⟨hoC,c0,c1,c2,fun v z=>by rw[hdC] at z;cases z⟩
  have hq:Tv i (.ref D) σ (upd H' D (.lst acc)) Dn.nx:=fin D hDn
  refine thn (Xp (i:=i) (pos:=py) hN hiN hx hf (pins++[(C,oC)]) s' σ _ (.ref D) (.ref D) Dn.nx IP rfl hq) fun _ s'' zz=>?_
  obtain ⟨σ'',H'',I'',q''⟩:=zz
  obtain ⟨p1,p2,p3,p4,p5⟩:=I''.pin (C,oC) (List.mem_append_right _ (List.mem_append_right _ (List.mem_singleton.mpr rfl)))
  refine ⟨m,⟨oC,es,ep,p1,hdC,hrest⟩,fun h' hsb=>?_⟩
  exact ⟨σ'',H'',(I''.unpinned).turned (t':=s''.toks) (fun b o hb e=>hsb.2 b hb |>.trans e) p2 p3 c3 c4 c5,q''⟩
end
noncomputable def Ke(tt:Option FT):FT:=fun δ L=>match tt with
  | none=>some (true,L)
  | some f=>f δ L
noncomputable def Ol(it:IU)(g:FG)(tt:Option FT)(fe:FE):Nat→Nat→List U→UE→UH→Option (List U×UH)
  | 0,_,_,_,_=>none
  | m+1,k,acc,δ,L=>match it.at k L with
    | none=>none
    | some none=>some (acc,L)
    | some (some u)=>(g u δ L).bind fun p=>(Ke tt p.1 p.2).bind fun q=>if q.1=true then (fe p.1 q.2).bind fun r=>if decide (acc.length < sizeLine)=true then Ol it g tt fe m (k+1) (acc++[r.1]) p.1 r.2 else none
      else Ol it g tt fe m (k+1) acc p.1 q.2
noncomputable def Jq(ix:List (Option Nat))(δ:UE):UE:=ix.map fun o=>o.bind fun i=>(δ[i]?).join
noncomputable def Fe(ix:List (Option Nat))(fi:FI)(g:FG)(tt:Option FT)(fe:FE):FE:=fun δ L=>(fi δ L).bind fun p=>(Ol p.1 g tt fe (p.1.size p.2+1) 0 [] (Jq ix δ) p.2).map fun q=>(.ref q.2.length,q.2++[.lst q.1])
theorem RepS.inner{K:PySem.W.Frag}{H:Hp}{α:List Addr}{δ:UE}{σ:L2.St}(S:RepS K H α δ σ)(ix:List (Option Nat)):RepS K H α (Jq ix δ) (MR.inner ix σ):=by
  refine ⟨by simp[Jq,MR.inner],fun j u e=>?_⟩
  unfold Jq at e
  unfold MR.inner
  rw[List.getElem?_map] at e ⊢
  cases hx:ix[j]? with
  | none=>rw[hx] at e;simp at e
  | some o=>
    rw[hx] at e
    cases o with
    | none=>simp at e
    | some i=>
      simp at e
      have:δ[i]? = some (some u):=by
        cases q:δ[i]? with
        | none=>rw[q] at e;simp at e
        | some o=>rw[q] at e;simp at e;rw[e]
      obtain ⟨v,hv,r⟩:=S.at_ i u this
      exact ⟨v,by simp[hv],r⟩
noncomputable def lTo(K:PySem.W.Frag)(tt:Option FT):TT:=match tt with
  | none=>Aen
  | some f=>lT K f
inductive CI(K:PySem.W.Frag)(it:IU)(g:FG)(tt:Option FT)(fe:FE)(H1:Hp)(α1:List Addr)(ys:List U)(L2:UH)(k m:Nat)(acc:List V)(σ2:_root_.L2.St)(H2:Hp):Prop
  | mk (α2:List Addr) (δ2:UE) (M:UH) (us:List U) (g2:Gr H1 α1 H2 α2) (A2:Abs K H2 α2 M) (S2:RepS K H2 α2 δ2 σ2) (r2:RepL K H2 α2 us acc) (e:Ol it g tt fe m k us δ2 M=some (ys,L2)):CI K it g tt fe H1 α1 ys L2 k m acc σ2 H2
theorem Q2{K:PySem.W.Frag}{ix:List (Option Nat)}{fi:FI}{g:FG}{tt:Option FT}{fe:FE}:∀ σ H Q,lE K (Fe ix fi g tt fe) σ H Q→Ads ix (lI K fi) (lG K g) (lTo K tt) (lE K fe) σ H Q:=by
  rintro σ H Q ⟨α,δ,L,A,S,z,L3,e,q⟩
  obtain ⟨⟨it,L1⟩,e1,e⟩:=Option.bind_eq_some_iff.mp e
  obtain ⟨⟨ys,L2⟩,e2,e⟩:=Option.map_eq_some_iff.mp e
  cases e
  refine ⟨α,δ,L,A,S,it,L1,e1,fun J H1 α1 g1 A1 hJ=>?_⟩
  refine ⟨CI K it g tt fe H1 α1 ys L2,⟨_,α1,_,L1,[],.refl _ _,A1,(S.mono g1).inner ix,.nil,e2⟩,?_⟩
  rintro k m acc σ2 H2 ⟨α2,δ2,M,us,g2,A2,S2,r2,e3⟩
  cases m with
  | zero=>cases e3
  | succ m=>
    obtain ⟨hgo,hstop⟩:=hJ H2 α2 M g2 A2 k
    unfold Ol at e3
    cases hat:it.at k M with
    | none=>rw[hat] at e3;cases e3
    | some o=>
      cases o with
      | none=>
        rw[hat] at e3
        cases e3
        refine .inl ⟨hstop hat,fun p hp=>?_⟩
        obtain ⟨g3,A3,r3⟩:=A2.lst r2 hp
        exact q _ _ _ (g1.trans (g2.trans g3)) A3 r3
      | some u=>
        rw[hat] at e3
        obtain ⟨go,yld⟩:=hgo u hat
        obtain ⟨⟨δ3,L3⟩,e4,e3⟩:=Option.bind_eq_some_iff.mp e3
        obtain ⟨⟨b,L4⟩,e5,e3⟩:=Option.bind_eq_some_iff.mp e3
        refine .inr ⟨go,fun x H3 y3=>?_⟩
        obtain ⟨g3,A3,r3⟩:=yld x H3 y3
        refine ⟨α2,δ2,M,u,A3,S2.mono g3,r3,δ3,L3,e4,fun σ4 H4 α4 g4 A4 S4=>?_⟩
        have after:∀ H5 α5,Gr H4 α4 H5 α5→Abs K H5 α5 L4→(if b=true then lE K fe σ4 H5 (fun y H6=>acc.length < sizeLine∧∃ m',m' < m+1∧CI K it g tt fe H1 α1 ys L2 (k+1) m' (acc++[y]) σ4 H6) else ∃ m',m' < m+1∧CI K it g tt fe H1 α1 ys L2 (k+1) m' acc σ4 H5):=fun H5 α5 g5 A5=>by
          have gA:=g2.trans (g3.trans (g4.trans g5))
          have gB:=g3.trans (g4.trans g5)
          cases b with
          | false=>exact Sy ⟨m,Nat.lt_succ_self _,α5,δ3,L4,us,gA,A5,S4.mono g5,r2.mono gB,e3⟩
          | true=>
            obtain ⟨⟨w,L5⟩,e6,e3⟩:=Option.bind_eq_some_iff.mp e3
            simp only at e3
            split at e3
            · rename_i hlt
              refine Tz ⟨α5,δ3,L4,A5,S4.mono g5,w,L5,e6,fun y H6 α6 g6 A6 r6=>?_⟩
              exact ⟨by rw[← r2.length];exact of_decide_eq_true hlt,m,Nat.lt_succ_self _,α6,δ3,L5,us++[w],gA.trans g6,A6,(S4.mono g5).mono g6,(r2.mono (gB.trans g6)).append (.cons r6 .nil),e3⟩
            · cases e3
        cases tt with
        | none=>
          cases e5
          exact after H4 α4 (.refl _ _) A4
        | some f=>exact ⟨α4,δ3,L3,A4,S4,b,L4,e5,fun H5 α5 g5 A5=>after H5 α5 g5 A5⟩
section
variable {X:Cx}{scope:Scope}{N':List Str}{ix:List (Option Nat)}{elt tg iter c:Expr}{pos:Pos}{fi:FI}{g:FG}{ft:FT}{fe:FE}
theorem Ag3(S:CompSc X scope N' ix)(hcalm:X.calm=true)(hi:PIF X tg iter fi)(hg:∀ cl C s2 H2 fp pins,PGF (blk X scope cl C N' s2 H2 fp pins) tg g)(he:∀ cl C s2 H2 fp pins,PEF (blk X scope cl C N' s2 H2 fp pins) elt fe)
    (hs:∀ x,foldedSetIterable iter X.env x=pure x:=by intro _;rfl):PEF X (.ListComp elt [⟨tg,iter,[],0⟩] scope pos) (Fe ix fi g none fe):=
  PE.imp (Xo (g:=lG X.K g) (te:=lE X.K fe) (tt:=Aen) S hcalm hi hg (fun _ _ _ _ _ _=>P6) he hs) Q2
theorem Ti(S:CompSc X scope N' ix)(hcalm:X.calm=true)(hi:PIF X tg iter fi)(hg:∀ cl C s2 H2 fp pins,PGF (blk X scope cl C N' s2 H2 fp pins) tg g)(ht:∀ cl C s2 H2 fp pins,PTF (blk X scope cl C N' s2 H2 fp pins) c ft)(he:∀ cl C s2 H2 fp pins,PEF (blk X scope cl C N' s2 H2 fp pins) elt fe)
    (hs:∀ x,foldedSetIterable iter X.env x=pure x:=by intro _;rfl):PEF X (.ListComp elt [⟨tg,iter,[c],0⟩] scope pos) (Fe ix fi g (some ft) fe):=
  PE.imp (Xo (g:=lG X.K g) (te:=lE X.K fe) (tt:=lT X.K ft) S hcalm hi hg (fun _ _ _ _ _ _=>X3 (ht _ _ _ _ _ _)) he hs) (Q2 (tt:=some ft))
theorem Aii{K:PySem.W.Frag}{i:Nat}{fc:FE}{t:TE}(ht:∀ σ H Q,lE K fc σ H Q→t σ H Q):∀ D σ H,lS K (Az fc (gN i)) D σ H→Agz t (Tv i) D σ H:=by
  rintro D σ H ⟨α,δ,L,A,S,fl,L',e,q⟩
  obtain ⟨⟨u,L1⟩,e1,e⟩:=Option.bind_eq_some_iff.mp e
  obtain ⟨⟨δ2,L2⟩,e2,e⟩:=Option.map_eq_some_iff.mp e
  cases e
  cases e2
  exact ht σ H _ ⟨α,δ,L,A,S,u,_,e1,fun v H1 α1 g1 A1 r1=>q _ H1 α1 g1 A1 ((S.mono g1).set i r1)⟩
theorem Uw{i:Nat}{y:Str}{py spos:Pos}(hN:X.N.Nodup)(S:CompSc X scope N' ix)(hcalm:X.calm=true)(hi:PIF X tg iter fi)(hg:∀ cl C s2 H2 fp pins,PGF (blk X scope cl C N' s2 H2 fp pins) tg g)(he:∀ cl C s2 H2 fp pins,PEF (blk X scope cl C N' s2 H2 fp pins) elt fe)
    (hiN:X.N[i]? = some y:=by rfl) (hx:Loc X.env.scope y:=by first | exact Or.inl rfl | exact Or.inr rfl) (hf:X.fn y=true∨X.env.scope.names.lookup y=some .local:=by first | exact .inl rfl | exact .inr rfl)
    (hsw:swapsWith (.ListComp elt [⟨tg,iter,[],0⟩] scope pos) (some (.Name y py)) spos.line X.env=pure true:=by rfl)
    (hs:∀ x,foldedSetIterable iter X.env x=pure x:=by intro _;rfl):PSF X (.Assign [.Name y py] (.ListComp elt [⟨tg,iter,[],0⟩] scope pos) spos) (Az (Fe ix fi g none fe) (gN i)):=
  PS.imp (Aeg (i:=i) (g:=lG X.K g) (te:=lE X.K fe) (tt:=Aen) hN hiN hx hf S hcalm hi hg (fun _ _ _ _ _ _=>P6) he hsw hs) (Aii Q2)
end
section
variable {X:Cx}{pins:List (Addr×Obj)}{σ:L2.St}{H:Hp}{s:Shared}{h':Heap}
theorem Inv.turnNew{ch:List Addr}{p:Addr}{o:HO}{t':Nat}(I:L2.Inv X pins σ H s)(hch:∀ b∈ch,Je X pins H b)(k:∀ b o,b∉ch→s.heap.get? b=some o→h'.get? b=some o)(hp:s.heap.objs.size≤p)(new:ObjOk X.prog X.w (upd H p o) h' p o) :
    L2.Inv X pins σ (upd H p o) { s with heap:=h',toks:=t' }:=by
  have hn:H p=none:=I.hok.fresh hp
  have nch:∀ b u,H b=some u→b∉ch:=fun b u e hb=>by rw[(hch b hb).1] at e;cases e
  have st:=Stay.new hn o
  refine I.step (g':=s.gens) (d':=s.drawn) (ch:=ch) (fun b hb=>?_) (fun b o _ _ hc e _=>k b o hc e) (fun b o _ _ hc e _=>⟨o.slots,k b o hc e⟩) (fun b u hc e n=>?_) (fun b u hc e=>⟨u,k b u hc e⟩) st.1 st.2 (fun b ps e=>⟨#[],?_⟩) (fun m hm=>?_) (fun b u e=>?_) I.bare
  · obtain ⟨_,f1,_,f3,f4,f5⟩:=hch b hb
    exact ⟨f3,f1,f4,f5⟩
  · rw[Aw (Nat.ne_of_lt (Nat.lt_of_lt_of_le (Heap.lt_size e) hp))];exact n
  · rw[Aw (A8 e hn),e];simp
  · obtain ⟨o1,es,ep,ho,r⟩:=hm
    exact ⟨o1,es,ep,k _ o1 (fun z=>(hch _ z).2.1 rfl) ho,r⟩
  · by_cases hb:b=p
    · subst hb;rw[upd_same] at e;cases e;exact new
    · rw[Aw hb] at e
      refine (I.hok b u e).stay (fun c v hc q=>k c v ?_ q) (fun c q=>by rw[Aw (A8 q hn)];exact q) fun c xs q=>by rw[Aw (A8 q hn)];exact q
      rcases hc with z | z
      · rw[z];exact nch b u e
      · exact nch c _ z
end
noncomputable def Ite(K:PySem.W.Frag)(a:Addr):It:=
  ⟨fun i H=>∃ xs x,SqL K H a xs∧xs[i]? = some x,fun i H x H'=>∃ p v,H p=none∧x = .ref p∧H'=upd H p (.tup [.int i,v])∧∀ xs,SqL K H a xs→xs[i]? = some v,fun i H=>∃ xs,SqL K H a xs∧xs.length≤i⟩
theorem Y4{P:Program}{w:World}{K:PySem.W.Frag}{elts:List Expr}{x1}{pos:Pos}(a e it:Addr)(hne:e≠it):Turn P w K (.Tuple elts x1 pos) (Ite K a) [e,it] e (fun i h=>(∃ old,IsEnum h e it i old)∧h.IsListIter it a i) where
  mem:=by simp
  obj:=fun i h st b hb=>by
    obtain ⟨⟨old,he⟩,o,ho,hc,hd⟩:=st
    rcases List.mem_cons.mp hb with rfl | hb
    · exact ⟨_,he,fun v z=>by simp at z⟩
    · have:b=it:=by simpa using hb
      subst this
      exact ⟨o,ho,fun v z=>by rw[hd] at z;cases z⟩
  keep:=fun i h h' st k=>by
    obtain ⟨⟨old,he⟩,o,ho,hc,hd⟩:=st
    exact ⟨⟨old,k e (by simp) _ he⟩,o,k it (by simp) _ ho,hc,hd⟩
  item:=by
    intro X hP hw hK hc i pins s σ H E I hf st hg
    subst hP hw hK
    obtain ⟨⟨old,he⟩,hit⟩:=st
    obtain ⟨xs,v,sq,hx⟩:=hg
    obtain ⟨its,hv,pl,hz⟩:=I.list sq
    obtain ⟨u,hu,r⟩:=hv.get hx
    refine wpAny_pyNext_enum_item he hit pl.isList (by simpa using hu) hne fun h' o1 o2 o3 o4 o5=>?_
    refine ⟨_,rfl,?_⟩
    have hfr:H s.heap.objs.size=none:=I.hok.fresh (Nat.le_refl _)
    have I1:L2.Inv X pins σ (upd H s.heap.objs.size (.tup [.int i,v])) { s with heap:=h',toks:=s.toks+1 }:=
      Inv.turnNew (ch:=[e,it]) I hf (fun b o hb q=>o5 b o (fun z=>hb (by simp[z])) (fun z=>hb (by simp[z])) q) (Nat.le_refl _)
        (show ObjOk X.prog X.w _ h' _ (.tup [.int i,v]) from ⟨by show 2≤sizeLine;decide,[.int i s.toks,u],.cons ⟨_,rfl⟩ (.cons r .nil),⟨_,o3,rfl,_,rfl⟩⟩)
    refine wpAny_letOwnedTupleGo_enum o1 fun h2 e2 sb2=>?_
    have hne2:∀ b∈[e,it],b≠s.heap.objs.size:=fun b hb z=>by
      rcases List.mem_cons.mp hb with q | q
      · have:=Heap.lt_size he;rw[← q,z] at this;exact Nat.lt_irrefl _ this
      · have q:b=it:=by simpa using q
        obtain ⟨o,ho,_⟩:=hit
        have:=Heap.lt_size ho;rw[← q,z] at this;exact Nat.lt_irrefl _ this
    have hnone:∀ b∈[e,it],(upd H s.heap.objs.size (.tup [.int i,v])) b=none:=fun b hb=>by rw[Aw (hne2 b hb)];exact (hf b hb).1
    obtain ⟨f0,f1,f2,f3,f4,f5⟩:=hf e (by simp)
    have I2:=I1.turned (t':=s.toks+1) (h':=h2) (it:=e) (fun b o hb q=>sb2.2 b hb |>.trans q) (hnone e (by simp)) f1 f3 f4 f5
    obtain ⟨oi,hoi,hci,hdi⟩:=o2
    refine ⟨.ref s.heap.objs.size,_,I2,rfl,⟨_,v,hfr,rfl,rfl,fun ys sq'=>?_⟩,⟨⟨_,e2⟩,oi,(sb2.2 it (Ne.symm hne)).trans hoi,hci,hdi⟩,hnone⟩
    rw[I.list_inj sq' sq];exact hx
  done:=by
    intro X hP hw hK hc i pins s σ H E I hf st hg
    subst hP hw hK
    obtain ⟨⟨old,he⟩,hit⟩:=st
    obtain ⟨xs,sq,hx⟩:=hg
    obtain ⟨its,hv,pl,hz⟩:=I.list sq
    obtain ⟨f0,f1,f2,f3,f4,f5⟩:=hf it (by simp)
    have hlen:=hv.length
    refine wpAny_pyNext_enum_end (I.ok.hd hc) he hit pl.isList (by simp;omega) fun h' eb=>⟨rfl,I.turned (t':=s.toks) (fun b o hb q=>eb b o hb q) f0 f1 f3 f4 f5⟩
  self:=fun _ _ _ _ _ st h=>by obtain ⟨⟨old,he⟩,_⟩:=st;exact wpAny_pyIter_enum he h
section
variable {X:Cx}{elts:List Expr}{x1:Nat}{tpos:Pos}
theorem Qc:bootBuiltins "enumerate" = some (.type "enumerate"):=by decide +kernel
noncomputable def Alp(K:PySem.W.Frag)(ta:TA):TI:=fun σ H R=>ta σ H fun vs H1=>∃ a xs,vs=[.ref a]∧SqL K H1 a xs∧R (Ite K a) H1
theorem Afu{a:Expr}{ta:TA}{p pos:Pos}(hg:Gl X "enumerate")(hm:X.mg "enumerate" = none)(ha:PA X [a] ta)(hs:starEach [a] X.env=[(false,eval a X.env)]:=by rfl):PI X (.Tuple elts x1 tpos) (.Call (.Name "enumerate" p) [a] [] pos) (Alp X.K ta):=by
  intro pins s σ H R I h
  refine Call_ (C6 I hg hm Qc (PyProof.Rows.callWith_type1 (thn (ha pos pins s σ H _ I h) fun us s1 ⟨vs,H1,I1,r1,q1⟩=>?_) hs rfl))
  obtain ⟨l,xs,rfl,sq,q⟩:=q1
  obtain ⟨u,rfl,ru⟩:=Ii r1
  cases ru
  obtain ⟨its,hv,pl,hz⟩:=I1.list sq
  refine call_enumerate_list pl.isList fun h' o1 o2 o3 o4=>?_
  have I2:L2.Inv X pins σ H1 { s1 with heap:=h' }:=I1.kept (t':=s1.toks) o4
  refine wpAny_pyIter_enum o1 ⟨_,_,_,_,H1,rfl,I2,Y4 l (s1.heap.objs.size+1) s1.heap.objs.size (Nat.ne_of_gt (Nat.lt_succ_self _)),⟨⟨_,o1⟩,o2⟩,fun b hb=>?_,q⟩
  have hb':s1.heap.objs.size≤b:=by
    simp only[List.mem_cons,List.not_mem_nil,or_false] at hb
    rcases hb with rfl | rfl
    · exact Nat.le_succ _
    · exact Nat.le_refl _
  exact L2.Inv.fpOk I1 hb' (I1.hok.fresh hb')
noncomputable def Ak5(g:FA):FI:=fun δ L=>(g δ L).bind fun p=>match p.1 with
  | [.ref n]=>(Am p.2 n).map fun _=>(.enm n,p.2)
  | _=>none
noncomputable def Amq(g:FA):FI:=fun δ L=>(g δ L).bind fun p=>match p.1 with
  | [.ref n,.ref m]=>(Am p.2 n).bind fun _=>(Am p.2 m).map fun _=>(.zip2 n m,p.2)
  | _=>none
theorem Nk{K:PySem.W.Frag}{H:Hp}{α:List Addr}{L:UH}{n:Nat}{a:Addr}{us:List U}(A:Abs K H α L)(ea:α[n]? = some a)(h:Am L n=some us):∃ xs,SqL K H a xs∧RepL K H α us xs:=by
  obtain ⟨a',xs,ea',sq,r⟩:=Gs A h
  rw[ea] at ea';cases ea'
  exact ⟨xs,sq,r⟩
theorem Agn{K:PySem.W.Frag}{H:Hp}{α:List Addr}{n:Nat}{a:Addr}(hinj:∀ (H:Hp) xs ys,SqL K H a xs→SqL K H a ys→True)(ea:α[n]? = some a):K7 K (Ite K a) (.enm n) H α:=by
  intro H2 α2 L2 g A2 k
  have ea2:=g.at ea
  refine ⟨fun u eu=>?_,fun eu=>?_⟩
  · obtain ⟨us,hs,eu⟩:=Option.map_eq_some_iff.mp eu
    obtain ⟨xs,sq,r⟩:=Nk A2 ea2 hs
    obtain ⟨w,hw,eu⟩:=Option.map_eq_some_iff.mp eu
    subst eu
    obtain ⟨x,hx,rx⟩:=r.get hw
    refine ⟨⟨xs,x,sq,hx⟩,?_⟩
    rintro y H3 ⟨p,v,hp,rfl,rfl,hy⟩
    have:=hy xs sq
    rw[hx] at this;cases this
    exact A2.tup (.cons rfl (.cons rx .nil)) hp
  · obtain ⟨us,hs,eu⟩:=Option.map_eq_some_iff.mp eu
    obtain ⟨xs,sq,r⟩:=Nk A2 ea2 hs
    have:us[k]? = none:=by simpa using eu
    exact ⟨xs,sq,by rw[← r.length];exact List.getElem?_eq_none_iff.mp this⟩
end
theorem Vals.rev{xs:List V}{us:List Value}(h:Vals xs us):Vals xs.reverse us.reverse:=by
  induction h with
  | nil=>exact .nil
  | cons h1 _ ih=>rw[List.reverse_cons,List.reverse_cons];exact ih.append (.cons h1 .nil)
theorem RepL.rev{K:PySem.W.Frag}{H:Hp}{α:List Addr}:∀ {us:List U} {xs:List V},RepL K H α us xs→RepL K H α us.reverse xs.reverse
  | [],xs,r=>by unfold RepL at r;subst r;exact .nil
  | u::us,xs,r=>by
    unfold RepL at r
    obtain ⟨x,xr,rfl,r1,r2⟩:=r
    rw[List.reverse_cons,List.reverse_cons]
    exact (RepL.rev r2).append (.cons r1 .nil)
end MR
namespace HT
open PySem PySem.Spec PyProof.Rows
section
variable {prog:Program}{w:World}{A:Around}{E:Value→Shared→Prop}{s:Shared}
end
end HT
namespace MR
open PySem PySem.Spec PyProof.Rows L2
section
variable {X:Cx}{e st:Expr}{fa fs:FE}{p2 pos:Pos}
noncomputable def Amv(f:FE):FE:=fun δ L=>(f δ L).bind fun p=>match p.1 with | .ref n=>(Am p.2 n).map fun l=>(.ref p.2.length,p.2++[.lst l.reverse]) | .tup l=>some (.tup l.reverse,p.2) | _=>none
end
structure ClsF(K:PySem.W.Frag)(C:Str)(Ca:Addr):Prop where
  ns:PySem.W.nsIn K mainGlobals C=some (some (.ref Ca))
  cl:Cls K Ca
theorem ClsF.eq{K:PySem.W.Frag}{C:Str}{Ca Cb:Addr}(T:ClsF K C Ca)(h:PySem.W.nsIn K mainGlobals C=some (some (.ref Cb))):Cb=Ca:=by
  have:=T.ns.symm.trans h
  simpa using this.symm
section
variable {X:Cx}{o e value:Expr}{es:List Expr}{f m C x:Str}{p pos pos' apos:Pos}{Ca fa:Addr}{fd:FuncData}{ps:List Str}{k n:Nat}{F:FN}{fe fo fv:FE}{g:FA}
end
end MR
namespace ZT
open PySem PySem.Spec PyProof.Rows
open Sem (wp)
noncomputable def SqK(b:Bool)(h:Heap)(l:Addr)(xs:Array Value):Prop:=match b with
  | true=>h.IsList l xs
  | false=>h.IsTuple l xs
noncomputable def ItK(b:Bool)(h:Heap)(jt l:Addr)(k:Nat):Prop:=match b with
  | true=>h.IsListIter jt l k
  | false=>h.IsTupleIter jt l k
theorem SqK.keep{b:Bool}{h h':Heap}{l:Addr}{xs:Array Value}(x:SqK b h l xs)(e:∀ o,h.get? l=some o→h'.get? l=some o):SqK b h' l xs:=by
  cases b with
  | true=>obtain ⟨o,ho,r⟩:=x;exact ⟨o,e _ ho,r⟩
  | false=>obtain ⟨o,ho,r⟩:=x;exact ⟨o,e _ ho,r⟩
theorem ItK.keep{b:Bool}{h h':Heap}{jt l:Addr}{k:Nat}(x:ItK b h jt l k)(e:∀ o,h.get? jt=some o→h'.get? jt=some o):ItK b h' jt l k:=by
  cases b with
  | true=>obtain ⟨o,ho,r⟩:=x;exact ⟨o,e _ ho,r⟩
  | false=>obtain ⟨o,ho,r⟩:=x;exact ⟨o,e _ ho,r⟩
theorem ItK.lt{b:Bool}{h:Heap}{jt l:Addr}{k:Nat}(x:ItK b h jt l k):jt < h.objs.size:=by
  cases b with
  | true=>obtain ⟨o,ho,r⟩:=x;exact Heap.lt_size ho
  | false=>obtain ⟨o,ho,r⟩:=x;exact Heap.lt_size ho
theorem ItK.obj{b:Bool}{h:Heap}{jt l:Addr}{k:Nat}(x:ItK b h jt l k):∃ o,h.get? jt=some o∧o.data = .fields #[.ref l,.int k 0]:=by
  cases b with
  | true=>obtain ⟨o,ho,_,r⟩:=x;exact ⟨o,ho,r⟩
  | false=>obtain ⟨o,ho,_,r⟩:=x;exact ⟨o,ho,r⟩
section
variable {prog:Program}{w:World}{A:Around}{E:Value→Shared→Prop}{s:Shared}
theorem Adg{jt t:Addr}{k:Nat}{its:Array Value}{v:Value}{Q:Value→Shared→Prop}(hj:s.heap.IsTupleIter jt t k)(ht:s.heap.IsTuple t its)(hv:its[k]? = some v)
    (hQ:∀ h',h'.IsTupleIter jt t (k+1)→Heap.SameBut jt s.heap h'→Q v { s with heap:=h' }):wpAny (model prog w) A (Builtin.SmallTypes.nextOf (.ref jt)) Q E s:=by
  obtain ⟨ob,hob,hcl,hda⟩:=id hj
  obtain ⟨ot,hot,_,nt,hdt⟩:=ht
  unfold Builtin.SmallTypes.nextOf
  refine wpAny_bind (wpAny_callSpecial?_slot (name:=Str.ofString "__next__") hj.typeIs F.slot_tuple_iterator_next (wpAny_call_entry F.slot_tuple_iterator_next hj.typeIs F.entry_tuple_iterator_next ?_ (F.args_tuple_iterator_next_1 _)))
  show wpAny _ _ (field (.ref jt) 0 >>= _) _ _ s
  refine wpAny_bind (wpAny_field hob hda (x:=.ref t) rfl ?_)
  show wpAny _ _ (if (Value.ref t == Value.none)=true then _ else _) _ _ s
  rw[if_neg (show ¬ ((Value.ref t == Value.none)=true) from (fun z=>Bool.false_ne_true z))]
  show wpAny _ _ (field (.ref jt) 1 >>= _) _ _ s
  refine wpAny_bind (wpAny_field hob hda (x:=.int k 0) rfl ?_)
  show wpAny _ _ (seqItems? (.ref t) >>= fun z=>_) _ _ s
  refine wpAny_bind (wpAny_seqItems hot hdt ?_)
  simp only[Int.toNat_natCast,hv]
  refine wpAny_bind (wpAny_setField hob hda (by simp) (wpAny_pure ⟨v,rfl,wpAny_pure (hQ _ ?_ (Heap.SameBut.update ..))⟩))
  exact ⟨_,Heap.get?_update_self _ hob (Obj.isFreed_of_fields (Obj.data_mapFields hda _)),(Obj.cls_mapFields ..).trans hcl,by rw[Obj.data_mapFields hda];simp[rawInt]⟩
theorem T9{jt t:Addr}{k:Nat}{its:Array Value}{Q:Value→Shared→Prop}(hh:A.handled=none)(hj:s.heap.IsTupleIter jt t k)(ht:s.heap.IsTuple t its)(hv:its[k]? = none)
    (hE:∀ h' e,Heap.ExtBut jt s.heap h'→(∃ ob,h'.get? e=some ob∧ob.cls = .type "StopIteration")→E (.ref e) { s with heap:=h' }):wpAny (model prog w) A (Builtin.SmallTypes.nextOf (.ref jt)) Q E s:=by
  obtain ⟨ob,hob,hcl,hda⟩:=id hj
  obtain ⟨ot,hot,_,nt,hdt⟩:=ht
  unfold Builtin.SmallTypes.nextOf
  refine wpAny_bind (wpAny_callSpecial?_slot (name:=Str.ofString "__next__") hj.typeIs F.slot_tuple_iterator_next (wpAny_call_entry F.slot_tuple_iterator_next hj.typeIs F.entry_tuple_iterator_next ?_ (F.args_tuple_iterator_next_1 _)))
  show wpAny _ _ (field (.ref jt) 0 >>= _) _ _ s
  refine wpAny_bind (wpAny_field hob hda (x:=.ref t) rfl ?_)
  show wpAny _ _ (if (Value.ref t == Value.none)=true then _ else _) _ _ s
  rw[if_neg (show ¬ ((Value.ref t == Value.none)=true) from (fun z=>Bool.false_ne_true z))]
  show wpAny _ _ (field (.ref jt) 1 >>= _) _ _ s
  refine wpAny_bind (wpAny_field hob hda (x:=.int k 0) rfl ?_)
  show wpAny _ _ (seqItems? (.ref t) >>= fun z=>_) _ _ s
  refine wpAny_bind (wpAny_seqItems hot hdt ?_)
  simp only[Int.toNat_natCast,hv]
  refine wpAny_bind (wpAny_rule (wpAny_bind (wpAny_setField hob hda (by simp) ?_)))
  show wpAny _ _ (newExc (.type "StopIteration") [] >>= fun z=>_) _ _ _
  refine wpAny_bind ?_
  simp only[newExc,newTuple];refine wpAny_bind (wpAny_newObj_type ?_ (by size_fits))
  refine wpAny_bind (m:=firstArgMember _ _) (wpAny_of_eq (a:=Value.none) (by first | rfl | (simp only[firstArgMember];rfl)) (wpAny_newObj_type ?_ (by size_fits)))
  simp only[raiseNew];refine wpAny_bind (wpAny_handled ?_)
  first | rw[show A.in1.handled=none from hh] | (rw[hh])
  exact wpAny_bind (wpAny_pure (wpAny_throw (hE _ _ (((Heap.SameBut.update ..).extBut.push _).push _) ⟨_,Heap.get?_push_size _ rfl,rfl⟩)))
theorem SqK.but{b:Bool}{h h':Heap}{l c:Addr}{xs:Array Value}(x:SqK b h l xs)(e:Heap.ExtBut c h h')(hne:l≠c):SqK b h' l xs:=x.keep fun o q=>e l o hne q
theorem ItK.but{b:Bool}{h h':Heap}{jt l c:Addr}{k:Nat}(x:ItK b h jt l k)(e:Heap.ExtBut c h h')(hne:jt≠c):ItK b h' jt l k:=x.keep fun o q=>e jt o hne q
variable {b1 b2:Bool}{z TI TO j1 j2 l1 l2:Addr}{k1 k2:Nat}{xs ys:Array Value}{a b:Value}
end
section
variable {prog:Program}{w:World}{A:Around}{E:Value→Shared→Prop}{s:Shared}
end
end ZT
namespace MR
open PySem PySem.Spec PyProof.Rows L2
noncomputable def SK(bb:Bool)(K:PySem.W.Frag)(H:Hp)(a:Addr)(xs:List V):Prop:=match bb with
  | true=>SqL K H a xs
  | false=>SqT K H a xs
theorem SK.at{X:Cx}{pins:List (Addr×Obj)}{σ:L2.St}{H:Hp}{s:Shared}{bb:Bool}{a:Addr}{xs:List V}(I:L2.Inv X pins σ H s)(h:SK bb X.K H a xs):∃ its:List Value,Vals xs its∧ZT.SqK bb s.heap a its.toArray∧xs.length≤sizeLine:=by
  cases bb with
  | true=>obtain ⟨its,r,p,z⟩:=I.list h;exact ⟨its,r,p.isList,z⟩
  | false=>obtain ⟨its,r,p,z⟩:=I.tuple h;exact ⟨its,r,p,z⟩
theorem SK.inj{X:Cx}{pins:List (Addr×Obj)}{σ:L2.St}{H:Hp}{s:Shared}{bb:Bool}{a:Addr}{xs ys:List V}(I:L2.Inv X pins σ H s)(h:SK bb X.K H a xs)(h':SK bb X.K H a ys):xs=ys:=by
  cases bb with
  | true=>exact I.list_inj h h'
  | false=>exact I.tuple_inj h h'
section
variable {X:Cx}{elts:List Expr}{x1:Nat}{tpos:Pos}
end
end MR
namespace MR
open PySem PySem.Spec PyProof.Rows PySem.Calls L2
section
variable {X:Cx}
end
section
variable {X:Cx}
noncomputable def W9:V→List V→Hp→VK→Prop:=fun x vs H Q=>∃ l xs i y,x = .ref l∧vs=[.int i,y]∧H l=some (.lst xs)∧0≤i∧i < 2 ^ 63∧xs.length < sizeLine∧Q .non (upd H l (.lst (xs.take (min i.toNat xs.length)++y::xs.drop (min i.toNat xs.length))))
theorem X7:MtM X "list.insert" W9:=by
  intro pins s σ H x vs v us Q I rx rv h
  obtain ⟨l,xs,i,y,rfl,rfl,hH,h1,h2,hz,q⟩:=h
  cases rx
  obtain ⟨u,w,rfl,ru,rw'⟩:=rv.two
  obtain ⟨t,rfl⟩:=ru
  obtain ⟨z,its,n,r,hl,e⟩:=I.lstM hH
  have hf:Builtin.List.listFitsIndex i=true:=by
    unfold Builtin.List.listFitsIndex
    simp only[Bool.and_eq_true,decide_eq_true_eq]
    omega
  refine call_meets F.slot_list_insert ⟨_,e,rfl⟩ F.entry_list_insert (F.args_list_insert_3 _ _ _)
    (AutoSeq1.list_insert_list_int_val_1 l its.toArray n i t w (by simp[hf]) (by rw[List.size_toArray];omega)) ⟨e,?_⟩
  refine ⟨.non,_,I.lset (its':=its.take (min i.toNat xs.length)++w::its.drop (min i.toNat xs.length)) hH e ?_ ((r.take _).append (.cons rw' (r.drop _))) ?_,rfl,q⟩
  · show (its.toArray.extract 0 (if i < 0 then (i+(its.toArray.size:Int)).toNat else min i.toNat its.toArray.size)).push w++its.toArray.extract (if i < 0 then (i+(its.toArray.size:Int)).toNat else min i.toNat its.toArray.size)=_
    rw[if_neg (by omega),PySem.W.kl_ins_eq,List.size_toArray,← hl]
  · rw[List.length_append,List.length_cons,List.length_take,List.length_drop]
    omega
end
noncomputable def Ge:SM:=fun u us L=>match u,us with
  | .ref n,[.int i,y]=>(Dq L n).bind fun l=>if 0≤i∧i < 2 ^ 63∧l.length < sizeLine then some (.non,L.set n (.lst (l.take (min i.toNat l.length)++y::l.drop (min i.toNat l.length)))) else none
  | _,_=>none
theorem V9{K:PySem.W.Frag}:Ac7 K W9 Ge:=by
  intro H α L u us x xs z L' Q A ru r e q
  unfold Ge at e
  split at e
  · rename_i n i y0
    obtain ⟨l,hl,e⟩:=Option.bind_eq_some_iff.mp e
    split at e
    · rename_i hs
      cases e
      obtain ⟨v,y,rfl,rv,ry⟩:=r.two
      unfold RepU at rv
      subst rv
      obtain ⟨a,ys,rfl,ea,h,r2⟩:=Mp A hl ru
      have hlen:=r2.length
      obtain ⟨g,A'⟩:=A.setL hl ea h ((r2.take (min i.toNat l.length)).append (.cons ry (r2.drop (min i.toNat l.length))))
      have q1:=q _ _ _ g A' rfl
      rw[hlen] at q1 hs
      exact ⟨a,ys,_,y,rfl,rfl,h,hs.1,hs.2.1,hs.2.2,q1⟩
    · cases e
  · cases e
end MR
namespace ZT
open PySem PySem.Spec PyProof.Rows
open Sem (wp)
theorem Il(l:Addr)(items:Array Value) :
    Meets (Builtin.«enumerate.__new__» ⟨[.type "enumerate",.ref l],[]⟩) (fun _ R s=>s.heap.IsTuple l items ∧
      R (.ok (.ret (.ref (s.heap.push { cls:=.type "tuple_iterator",data:=.fields #[.ref l,.int 0 0] }).objs.size)))
        { s with heap:=(s.heap.push { cls:=.type "tuple_iterator",data:=.fields #[.ref l,.int 0 0] }).push { cls:=.type "enumerate",data:=.fields #[.none,.bool false,.ref s.heap.objs.size,rawInt 0,.none,.none] } }):=
  .of_wp fun prog w A R s h=>by
    obtain ⟨hp,g,d,tk,os⟩:=s;obtain ⟨hl,h⟩:=h
    have hsub:=sub_enumerate
    have hL:Heap.IsTuple (Shared.heap ⟨hp,g,d,tk,os⟩) l items:=hl
    wp_walk using wpAny_pyIter_tuple hL
    refine wpAny_stack_any fun st=>wpAny_pure ?_
    split
    · rename_i c _ _ _ _ _
      cases (c == Value.type "enumerate")
      · wp_walk using wpAny_pyIter_tuple hL
        exact ⟨_,rfl,h⟩
      · wp_walk using wpAny_pyIter_tuple hL
        exact ⟨_,rfl,h⟩
    · wp_walk using wpAny_pyIter_tuple hL
      exact ⟨_,rfl,h⟩
section
variable {prog:Program}{w:World}{A:Around}{E:Value→Shared→Prop}{s:Shared}
theorem Ia{l:Addr}{items:Array Value}{Q:Value→Shared→Prop}(hL:s.heap.IsTuple l items)
    (h:∀ h',IsEnum h' (s.heap.objs.size+1) s.heap.objs.size 0 .none→h'.IsTupleIter s.heap.objs.size l 0→h'.objs.size=s.heap.objs.size+2 →
      (∀ b o,s.heap.get? b=some o→h'.get? b=some o)→Q (.ref (s.heap.objs.size+1)) { s with heap:=h' }) :
    wpAny (model prog w) A (call (.type "enumerate") [.ref l]) Q E s:=by
  refine callType_new F.called_enumerate (by decide) (F.typeCall_enumerate_1 _) (F.newCall_enumerate_1 _) (fun obj=>F.args_object_init_2 obj _) F.entry_enumerate_new
    (Il l items) ⟨hL,?_⟩
  have hz:(s.heap.push { cls:=.type "tuple_iterator",data:=.fields #[.ref l,.int 0 0] }).objs.size=s.heap.objs.size+1:=Heap.size_push ..
  show _∧_
  rw[hz]
  have he:IsEnum ((s.heap.push { cls:=.type "tuple_iterator",data:=.fields #[.ref l,.int 0 0] }).push
      { cls:=.type "enumerate",data:=.fields #[.none,.bool false,.ref s.heap.objs.size,rawInt 0,.none,.none] }) (s.heap.objs.size+1) s.heap.objs.size 0 .none:=by
    have:=Heap.get?_push_size (s.heap.push { cls:=.type "tuple_iterator",data:=.fields #[.ref l,.int 0 0] })
      (o:={ cls:=.type "enumerate",data:=.fields #[.none,.bool false,.ref s.heap.objs.size,rawInt 0,.none,.none] }) rfl
    rw[hz] at this;exact this
  refine ⟨⟨_,he,rfl⟩,h _ he ⟨_,Heap.get?_push_of_some _ (Heap.get?_push_size _ rfl),rfl,rfl⟩ (by rw[Heap.size_push,hz]) fun b o x=>Heap.get?_push_of_some _ (Heap.get?_push_of_some _ x)⟩
end
theorem Td{prog:Program}{w:World}{A:Around}(hh:A.handled=none)(it l:Addr)(hne:l≠it)(items:Array Value) :
    Draws prog w A it [it,l] items.size (fun i v=>items[i]? = some v) (fun i h=>h.IsTupleIter it l i∧h.IsTuple l items) where
  live:=fun _ _ st=>let ⟨o,ho,_⟩:=st.1;⟨o,ho⟩
  frame:=fun _ _ _ st hk=>⟨st.1.at fun o e=>hk it (by simp) o e,st.2.at fun o e=>hk l (by simp) o e⟩
  item:=fun i s Q E hi st hQ=>by
    refine Adg st.1 st.2 (v:=items[i]) (by simp[hi]) fun h' hit' hs'=>?_
    exact hQ _ h' s.toks (by simp[hi]) ⟨hit',st.2.extBut hs'.extBut hne⟩ hs'
  done:=fun s Q E st hE=>T9 hh st.1 st.2 (by simp) hE
section
variable {prog:Program}{w:World}{A:Around}{E:Value→Shared→Prop}{s:Shared}
theorem R7{e it l:Addr}{n:Nat}{i:Int}{items:Array Value}{old:Value}{Q:Option Value→Shared→Prop}(hh:A.handled=none)
    (he:IsEnum s.heap e it i old) (hit:s.heap.IsTupleIter it l n) (hl:s.heap.IsTuple l items) (hn:items.size≤n)
    (hQ:∀ h',Heap.ExtBut it s.heap h'→Q none { s with heap:=h' }):wpAny (model prog w) A (pyNext (.ref e)) Q E s:=by
  have hT:s.TypeIs (.ref e) "enumerate" := ⟨_,he,rfl⟩
  unfold pyNext
  refine wpAny_bind (wpAny_attempt (wpAny_callSpecial?_slot (name:=Str.ofString "__next__") hT F.slot_enumerate_next
    (wpAny_call_entry F.slot_enumerate_next hT F.entry_enumerate_next ?_ (F.args_enumerate_next_1 _))))
  show wpAny _ _ (field (.ref e) 2 >>= _) _ _ _
  refine wpAny_bind (wpAny_field he rfl (x:=.ref it) rfl ?_)
  refine wpAny_bind (T9 (A:=Around.in1 A) hh hit hl (by simp;omega) fun h' x he' hx'=>?_)
  obtain ⟨o,ho,hc⟩:=hx'
  refine wpAny_bind (wpAny_isInstance (T := "StopIteration") (b:=true) ⟨o,ho,hc⟩ isSubtype_stop ?_)
  exact wpAny_pure (hQ _ he')
end
end ZT
namespace MR
open PySem PySem.Spec PyProof.Rows L2
noncomputable def Aij(K:PySem.W.Frag)(a:Addr):It:=
  ⟨fun i H=>∃ xs x,SqT K H a xs∧xs[i]? = some x,fun i H x H'=>∃ p v,H p=none∧x = .ref p∧H'=upd H p (.tup [.int i,v])∧∀ xs,SqT K H a xs→xs[i]? = some v,fun i H=>∃ xs,SqT K H a xs∧xs.length≤i⟩
theorem V4{P:Program}{w:World}{K:PySem.W.Frag}{elts:List Expr}{x1}{pos:Pos}(a e it:Addr)(hne:e≠it):Turn P w K (.Tuple elts x1 pos) (Aij K a) [e,it] e (fun i h=>(∃ old,IsEnum h e it i old)∧h.IsTupleIter it a i) where
  mem:=by simp
  obj:=fun i h st b hb=>by
    obtain ⟨⟨old,he⟩,o,ho,hc,hd⟩:=st
    rcases List.mem_cons.mp hb with rfl | hb
    · exact ⟨_,he,fun v z=>by simp at z⟩
    · have:b=it:=by simpa using hb
      subst this
      exact ⟨o,ho,fun v z=>by rw[hd] at z;cases z⟩
  keep:=fun i h h' st k=>by
    obtain ⟨⟨old,he⟩,o,ho,hc,hd⟩:=st
    exact ⟨⟨old,k e (by simp) _ he⟩,o,k it (by simp) _ ho,hc,hd⟩
  item:=by
    intro X hP hw hK hc i pins s σ H E I hf st hg
    subst hP hw hK
    obtain ⟨⟨old,he⟩,hit⟩:=st
    obtain ⟨xs,v,sq,hx⟩:=hg
    obtain ⟨its,hv,pl,hz⟩:=I.tuple sq
    obtain ⟨u,hu,r⟩:=hv.get hx
    have hae:e≠a:=fun q=>by
      subst q
      obtain ⟨o,ho,hc,_⟩:=pl
      have:some o=some _:=ho.symm.trans he
      cases this
      simp at hc
    have hai:a≠it:=fun q=>by
      subst q
      obtain ⟨o,ho,hc,_⟩:=pl
      obtain ⟨o',ho',hc',_⟩:=hit
      have:some o=some o':=ho.symm.trans ho'
      cases this
      rw[hc] at hc';simp at hc'
    have hlt:i < its.toArray.size:=by
      have:=(List.getElem?_eq_some_iff.mp hu).1
      simpa using this
    refine wpAny_pyNext_enum_itemD (ZT.Td (A:=Around.in1 _) (I.ok.hd hc) it a hai its.toArray) he ⟨hit,pl⟩ hlt hne (by simp[hne,hae]) fun x h' tk px o1 o2 o3 o4 o5=>?_
    have hxu:x=u:=by
      have:its[i]? = some x:=by simpa using px
      rw[hu] at this;cases this;rfl
    subst hxu
    refine ⟨_,rfl,?_⟩
    have hfr:H s.heap.objs.size=none:=I.hok.fresh (Nat.le_refl _)
    have I1:L2.Inv X pins σ (upd H s.heap.objs.size (.tup [.int i,v])) { s with heap:=h',toks:=tk+1 }:=
      Inv.turnNew (ch:=[e,it]) I hf (fun b o hb q=>o5 b o (fun z=>hb (by simp[z])) (fun z=>hb (by simp[z])) q) (Nat.le_refl _)
        (show ObjOk X.prog X.w _ h' _ (.tup [.int i,v]) from ⟨by show 2≤sizeLine;decide,[.int i tk,x],.cons ⟨_,rfl⟩ (.cons r .nil),⟨_,o3,rfl,_,rfl⟩⟩)
    refine wpAny_letOwnedTupleGo_enum o1 fun h2 e2 sb2=>?_
    have hne2:∀ b∈[e,it],b≠s.heap.objs.size:=fun b hb z=>by
      rcases List.mem_cons.mp hb with q | q
      · have:=Heap.lt_size he;rw[← q,z] at this;exact Nat.lt_irrefl _ this
      · have q:b=it:=by simpa using q
        obtain ⟨o,ho,_⟩:=hit
        have:=Heap.lt_size ho;rw[← q,z] at this;exact Nat.lt_irrefl _ this
    have hnone:∀ b∈[e,it],(upd H s.heap.objs.size (.tup [.int i,v])) b=none:=fun b hb=>by rw[Aw (hne2 b hb)];exact (hf b hb).1
    obtain ⟨f0,f1,f2,f3,f4,f5⟩:=hf e (by simp)
    have I2:=I1.turned (t':=tk+1) (h':=h2) (it:=e) (fun b o hb q=>sb2.2 b hb |>.trans q) (hnone e (by simp)) f1 f3 f4 f5
    obtain ⟨oi,hoi,hci,hdi⟩:=o2.1
    refine ⟨.ref s.heap.objs.size,_,I2,rfl,⟨_,v,hfr,rfl,rfl,fun ys sq'=>?_⟩,⟨⟨_,e2⟩,oi,(sb2.2 it (Ne.symm hne)).trans hoi,hci,hdi⟩,hnone⟩
    rw[I.tuple_inj sq' sq];exact hx
  done:=by
    intro X hP hw hK hc i pins s σ H E I hf st hg
    subst hP hw hK
    obtain ⟨⟨old,he⟩,hit⟩:=st
    obtain ⟨xs,sq,hx⟩:=hg
    obtain ⟨its,hv,pl,hz⟩:=I.tuple sq
    obtain ⟨f0,f1,f2,f3,f4,f5⟩:=hf it (by simp)
    have hlen:=hv.length
    exact ZT.R7 (I.ok.hd hc) he hit pl (by simp;omega) fun h' eb=>⟨rfl,I.turned (t':=s.toks) (fun b o hb q=>eb b o hb q) f0 f1 f3 f4 f5⟩
  self:=fun _ _ _ _ _ st h=>by obtain ⟨⟨old,he⟩,_⟩:=st;exact wpAny_pyIter_enum he h
section
variable {X:Cx}{elts:List Expr}{x1:Nat}{tpos:Pos}
noncomputable def Ajd(K:PySem.W.Frag)(ta:TA):TI:=fun σ H R=>ta σ H fun vs H1=>∃ a xs,vs=[.ref a]∧SqT K H1 a xs∧R (Aij K a) H1
theorem Ad7{a:Expr}{ta:TA}{p pos:Pos}(hg:Gl X "enumerate")(hm:X.mg "enumerate" = none)(ha:PA X [a] ta)(hs:starEach [a] X.env=[(false,eval a X.env)]:=by rfl):PI X (.Tuple elts x1 tpos) (.Call (.Name "enumerate" p) [a] [] pos) (Ajd X.K ta):=by
  intro pins s σ H R I h
  refine Call_ (C6 I hg hm Qc (PyProof.Rows.callWith_type1 (thn (ha pos pins s σ H _ I h) fun us s1 ⟨vs,H1,I1,r1,q1⟩=>?_) hs rfl))
  obtain ⟨l,xs,rfl,sq,q⟩:=q1
  obtain ⟨u,rfl,ru⟩:=Ii r1
  cases ru
  obtain ⟨its,hv,pl,hz⟩:=I1.tuple sq
  refine ZT.Ia pl fun h' o1 o2 o3 o4=>?_
  have I2:L2.Inv X pins σ H1 { s1 with heap:=h' }:=I1.kept (t':=s1.toks) o4
  refine wpAny_pyIter_enum o1 ⟨_,_,_,_,H1,rfl,I2,V4 l (s1.heap.objs.size+1) s1.heap.objs.size (Nat.ne_of_gt (Nat.lt_succ_self _)),⟨⟨_,o1⟩,o2⟩,fun b hb=>?_,q⟩
  have hb':s1.heap.objs.size≤b:=by
    simp only[List.mem_cons,List.not_mem_nil,or_false] at hb
    rcases hb with rfl | rfl
    · exact Nat.le_succ _
    · exact Nat.le_refl _
  exact L2.Inv.fpOk I1 hb' (I1.hok.fresh hb')
noncomputable def Lr(us:List U):List U:=us.mapIdx fun i u=>.tup [.int i,u]
noncomputable def Im(g:FA):FI:=fun δ L=>(g δ L).bind fun p=>match p.1 with
  | [.ref n]=>(Am p.2 n).map fun _=>(.enm n,p.2)
  | [.tup us]=>some (.seq (Lr us),p.2)
  | _=>none
theorem Adw{K:PySem.W.Frag}{H:Hp}{α:List Addr}{a:Addr}{us:List U}{xs:List V}(sq:SqT K H a xs)(r:RepL K H α us xs):K7 K (Aij K a) (.seq (Lr us)) H α:=by
  intro H2 α2 L2 g A2 k
  have m:=(show RepU K H α (.tup us) (.ref a) by unfold RepU;exact ⟨a,xs,rfl,sq,r⟩).mono g
  unfold RepU at m
  obtain ⟨c',xs,e,sq2,r2⟩:=m
  cases e
  refine ⟨fun u eu=>?_,fun eu=>?_⟩
  · have eu:(Lr us)[k]? = some u:=by simpa[IU.at] using eu
    unfold Lr at eu
    rw[List.getElem?_mapIdx] at eu
    obtain ⟨w,hw,eu⟩:=Option.map_eq_some_iff.mp eu
    subst eu
    obtain ⟨x,hx,rx⟩:=r2.get hw
    refine ⟨⟨xs,x,sq2,hx⟩,?_⟩
    rintro y H3 ⟨p,v,hp,rfl,rfl,hy⟩
    have:=hy xs sq2
    rw[hx] at this;cases this
    exact A2.tup (.cons rfl (.cons rx .nil)) hp
  · have eu:(Lr us)[k]? = none:=by simpa[IU.at] using eu
    unfold Lr at eu
    rw[List.getElem?_mapIdx] at eu
    have:us[k]? = none:=by simpa using eu
    exact ⟨xs,sq2,by rw[← r2.length];exact List.getElem?_eq_none_iff.mp this⟩
theorem P4{a:Expr}{g:FA}{p pos:Pos}(hg:Gl X "enumerate")(hm:X.mg "enumerate" = none)(ha:PAF X [a] g)(hs:starEach [a] X.env=[(false,eval a X.env)]:=by rfl):PIF X (.Tuple elts x1 tpos) (.Call (.Name "enumerate" p) [a] [] pos) (Im g):=by
  refine PI.imp (PI.or (Afu hg hm ha hs) (Ad7 hg hm ha hs)) ?_
  rintro σ H R ⟨α,δ,L,A,S,i,L3,e,q⟩
  obtain ⟨⟨us,L1⟩,e1,e⟩:=Option.bind_eq_some_iff.mp e
  simp only at e
  split at e
  · obtain ⟨l,hl,e⟩:=Option.map_eq_some_iff.mp e
    cases e
    refine .inl ⟨α,δ,L,A,S,_,_,e1,fun xs H1 α1 g1 A1 r1=>?_⟩
    obtain ⟨x,rfl,rx⟩:=r1.one
    obtain ⟨a',ys,rfl,sq,r2⟩:=G9 A1 hl rx
    obtain ⟨a2,ea,ha2⟩:=rx.ref_of A1
    cases ha2
    exact ⟨a',ys,rfl,sq,q _ H1 α1 g1 A1 (Agn (fun _ _ _ _ _=>trivial) ea)⟩
  · cases e
    refine .inr ⟨α,δ,L,A,S,_,_,e1,fun xs H1 α1 g1 A1 r1=>?_⟩
    obtain ⟨x,rfl,rx⟩:=r1.one
    unfold RepU at rx
    obtain ⟨a',ys,rfl,sq,r2⟩:=rx
    exact ⟨a',ys,rfl,sq,q _ H1 α1 g1 A1 (Adw sq r2)⟩
  · cases e
end
structure CompScC(X:Cx)(scope:Scope)(N':List Str)(ix:List (Option Nat)):Prop where
  kind:scope.kind = .function
  own:(scope.names.all fun y=>scope.names.lookup y.1 == some y.2)=true
  free:(scope.names.all fun y=>y.2 != .free || (X.env.kindOf y.1 == some .cell || X.env.kindOf y.1 == some .free))=true
  ixs:((N'.zip ix).all fun p=>match p.2 with | none=>true | some i=>(X.N[i]? == some p.1)&&(scope.names.lookup p.1 == some .free))=true
  len:N'.length=ix.length
section
variable {X:Cx}{scope:Scope}{N':List Str}{ix:List (Option Nat)}{pins:List (Addr×Obj)}{σ:L2.St}{H2:Hp}{s2:Shared}{cl:List (Str×Addr)}{fp:List Addr}
theorem CompScC.lk(S:CompScC X scope N' ix){x:Str}{k:NameKind}(h:(x,k)∈scope.names):scope.names.lookup x=some k:=by
  have:=List.all_eq_true.mp S.own _ h
  simpa using this
theorem CompScC.names(S:CompScC X scope N' ix):∀ x∈scope.names,x.2 = .local→scope.names.lookup x.1=some .local:=fun x hx hl=>by
  have:=S.lk (x:=x.1) (k:=x.2) hx
  rw[hl] at this
  exact this
theorem CompScC.clos(S:CompScC X scope N' ix)(ok:X.Ok):∃ cl,closureFor scope X.env=pure cl∧(∀ x c,cl.lookup x=some c→X.env.cells.lookup x=some c)∧∀ y∈scope.names,y.2 = .free→∃ c,cl.lookup y.1=some c:=by
  refine Jj fun y hy hf=>?_
  have:=List.all_eq_true.mp S.free y hy
  rw[hf] at this
  simp at this
  exact ok.has y.1 this
end
section
variable {X:Cx}{scope:Scope}{N':List Str}{ix:List (Option Nat)}{elt tg iter c:Expr}{pos:Pos}{fi:FI}{g:FG}{ft:FT}{fe:FE}
end
section
variable {X:Cx}{tg:Expr}
end
end MR
namespace ZT
open PySem PySem.Spec PyProof.Rows
open Sem (wp)
theorem P5:typeLookup (.type "list_reverseiterator") "__len__" = pure none:=by rw[typeLookup_type,builtinLookup_eq_fast];kernel_rfl
theorem S8:typeLookup (.type "list_reverseiterator") "__length_hint__" = pure (some (.builtin "list_reverseiterator.__length_hint__")):=by rw[typeLookup_type,builtinLookup_eq_fast];kernel_rfl
section
variable {prog:Program}{w:World}{A:Around}{s:Shared}{R:Result→Shared→Prop}
variable {I:Addr}{fp wr:List Addr}{G:Array GenState→Array GenState→Prop}{n:Nat}{P:Nat→Value→Prop}{St:Nat→Shared→Prop}
theorem Vt(W:WalksS prog w A.in1 I fp wr G n P St)(hT:∀ i s,St i s→s.TypeIs (.ref I) "list_reverseiterator")(S:Addr)(res:Value)(c₀:Nat)(hst:St 0 s)(hSf:S∉fp)(hI:I∈fp)
    (hS:s.heap.get? S=some { cls:=.type "list",data:=.seq #[] c₀ })
    (hR:∀ s' acc' c',Moved (S::wr) G s s'→s'.heap.get? S=some { cls:=.type "list",dict:=none,data:=.seq acc' c',slots:=#[] }→ItemsOf P acc' n→R (.ok (.ret res)) s') (hn:n≤sizeLine) :
    wpAny (model prog w) A.in1 (Builtin.List.listExtendWith (.ref S) (.ref I) res)
      (fun fin s'=>match fin with | .done f=>R (.ok f) s' | .again c'=>c'.quiet=true∧codeAny (model prog w) A c' R s') (fun e s'=>R (.error e) s') s:=by
  have hSI:S≠I:=fun e=>hSf (e ▸ hI)
  unfold Builtin.List.listExtendWith
  refine wpAny_bind (wpAny_typeOf (hT 0 _ hst) ?_)
  have h1:Builtin.List.listSameRef (.ref S) (.ref I)=false:=by simp[Builtin.List.listSameRef,hSI]
  have h2:(Value.type "list_reverseiterator" == Value.type "list")=false:=by decide
  have h3:(Value.type "list_reverseiterator" == Value.type "tuple")=false:=by decide
  simp only[h1,h2,h3,Bool.or_false,Bool.false_eq_true,if_false]
  refine wpAny_bind (W.self 0 _ _ _ hst ?_)
  refine wpAny_bind (wpAny_holding ?_)
  unfold Builtin.List.listLengthHint
  refine wpAny_bind (wpAny_specialOf (hT 0 _ hst) P5 ?_)
  show wpAny _ A.in1 (specialOf (Value.ref I) (Str.ofString "__length_hint__") >>= _) _ _ _
  refine wpAny_bind (wpAny_specialOf (hT 0 _ hst) S8 ?_)
  generalize hid:("list_reverseiterator.__length_hint__" : String)=id0
  wp_delta
  rw[show splitId id0=some ("list_reverseiterator","__length_hint__") from by subst hid;decide +kernel]
  subst hid
  refine wpAny_bind (wpAny_isInstance (b:=true) (hT 0 _ hst) (by rw[isSubtype_type];kernel_rfl) ?_)
  refine wpAny_pure ?_
  rw[if_neg (by decide)]
  refine wpAny_pure ⟨plainId_quiet F.plain_extend_loop _,codeAny_extend_loopS W hn _ hSf _ n 0 _ _ _ rfl (Nat.zero_le _) hst hS (ItemsOf.nil P) fun s' acc' c' hm hS' hacc=>hR s' acc' c' hm hS' hacc⟩
theorem Pa(W:WalksS prog w A.in1 I fp wr G n P St)(hT:∀ i s,St i s→s.TypeIs (.ref I) "list_reverseiterator")(S:Addr)(hst:St 0 s)(hSf:S∉fp)(hI:I∈fp)
    (hS:s.heap.get? S=some { cls:=.type "list",data:=.seq #[] })
    (hR:∀ s' acc' c',Moved (S::wr) G s s'→s'.heap.get? S=some { cls:=.type "list",dict:=none,data:=.seq acc' c',slots:=#[] }→ItemsOf P acc' n→R (.ok (.ret .none)) s') (hn:n≤sizeLine) :
    wpAny (model prog w) A.in1 (Builtin.«list.__init__» ⟨[.ref S,.ref I],[]⟩)
      (fun fin s'=>match fin with | .done f=>R (.ok f) s' | .again c'=>c'.quiet=true∧codeAny (model prog w) A c' R s') (fun e s'=>R (.error e) s') s:=by
  show wpAny _ A.in1 (do let old ← Builtin.List.listItems (.ref S);Builtin.List.listUpdate (.ref S) (fun _=>#[]);letGo old.toList.reverse;Builtin.List.listExtendWith (.ref S) (.ref I) .none) _ _ s
  refine wpAny_bind ?_
  unfold Builtin.List.listItems
  refine wpAny_bind (wpAny_seqItems hS rfl (wpAny_pure ?_))
  show wpAny _ A.in1 (updateSeq S (fun _=>#[]) >>= fun _=>letGo (#[]:Array Value).toList.reverse >>= fun _=>Builtin.List.listExtendWith (.ref S) (.ref I) .none) _ _ s
  refine wpAny_bind (wpAny_updateSeq hS rfl ?_)
  have hS₂:=Heap.get?_update_self (Obj.mapSeq (fun _=>(#[]:Array Value))) hS rfl
  have oth:∀ b o,b≠S→s.heap.get? b=some o→(s.heap.update S (Obj.mapSeq (fun _=>(#[]:Array Value)))).get? b=some o:=
    fun b o hb e=>(Heap.get?_update_other _ _ (Ne.symm hb)).trans e
  refine wpAny_bind (wpAny_letGo ?_)
  refine Vt (hn:=hn) W hT S .none _ (W.frame 0 s _ s.toks hst (Nat.le_refl _) fun b hb o e=>oth b o (fun h=>hSf (h ▸ hb)) e) hSf hI hS₂ fun s' acc' c' hm hS' hacc=>?_
  exact hR s' acc' c' (Moved.trans W.gtrans ((Moved.refl W.grefl).then_heap (Nat.le_refl _) fun b o hb e=>oth b o (fun h=>hb (h ▸ List.mem_cons_self)) e) hm) hS' hacc
end
section
variable {prog:Program}{w:World}{A:Around}{E:Value→Shared→Prop}{s:Shared}
variable {I:Addr}{fp wr:List Addr}{G:Array GenState→Array GenState→Prop}{n:Nat}{P:Nat→Value→Prop}{St:Nat→Shared→Prop}
theorem O6{Q:Value→Shared→Prop}(W:WalksS prog w A.in1.in1 I fp wr G n P St)(hT:∀ i s,St i s→s.TypeIs (.ref I) "list_reverseiterator")(hst:St 0 s)(hfp:∀ b∈fp,b < s.heap.objs.size)(hI:I∈fp)
    (hQ:∀ s' acc' c',Moved (s.heap.objs.size::wr) G { s with heap:=s.heap.push { cls:=.type "list",data:=.seq #[] } } s' →
      s'.heap.get? s.heap.objs.size=some { cls:=.type "list",dict:=none,data:=.seq acc' c',slots:=#[] }→ItemsOf P acc' n→Q (.ref s.heap.objs.size) s') (hn:n≤sizeLine) :
    wpAny (model prog w) A (call (.type "list") [.ref I]) Q E s:=by
  have hSf:s.heap.objs.size∉fp:=fun hm=>Nat.lt_irrefl _ (hfp _ hm)
  refine callType_codes (Q₁:=fun obj s₁=>obj = .ref s.heap.objs.size∧s₁ = { s with heap:=s.heap.push { cls:=.type "list",data:=.seq #[] } }) F.called_list (F.typeCall_list_1 _) F.entry_list_init
    (code_list_new _ ⟨rfl,rfl⟩) fun obj s₁ h₁=>?_
  obtain ⟨rfl,rfl⟩:=h₁
  have hS:(s.heap.push { cls:=.type "list",data:=.seq #[] }).get? s.heap.objs.size=some { cls:=.type "list",data:=.seq #[] }:=Heap.get?_push_size _ rfl
  refine ⟨⟨_,hS,rfl⟩,F.args_list_init_2 _ _,Pa (hn:=hn) W hT _ (W.frame 0 s _ s.toks hst (Nat.le_refl _) fun b _ o e=>Heap.get?_push_of_some _ e) hSf hI hS fun s' acc' c' hm hS' hacc=>?_⟩
  exact ⟨rfl,hQ s' acc' c' hm hS' hacc⟩
theorem Uu{Q:List Value→Shared→Prop}
    (W:WalksS prog w A.in1 I fp wr G n P St) (hT:∀ i s,St i s→s.TypeIs (.ref I) "list_reverseiterator") (hst:St 0 s) (hfp:∀ b∈fp,b < s.heap.objs.size) (hI:I∈fp)
    (hQ:∀ s' acc,Moved wr G s s'→ItemsOf P acc n→Q acc.toList s') (hn:n≤sizeLine):wpAny (model prog w) A (collect (.ref I)) Q E s:=by
  have hSf:s.heap.objs.size∉fp:=fun hm=>Nat.lt_irrefl _ (hfp _ hm)
  unfold collect
  refine wpAny_bind (wpAny_runValue (codeAny_builtin F.entry_proto_collect ?_))
  rw[Around.under_plainId F.plain_proto_collect _]
  show wpAny _ A.in1 (newList [] >>= fun l=>again (.builtin "list.__iadd__" ⟨[l,.ref I],[]⟩)) _ _ s
  refine wpAny_bind (wpAny_newObj_type ?_)
  refine wpAny_pure ⟨plainId_quiet F.plain_list_iadd _,codeAny_builtin F.entry_list_iadd ?_⟩
  rw[Around.under_plainId F.plain_list_iadd _]
  have hst₁:=W.frame 0 s (s.heap.push { cls:=.type "list",data:=.seq ([]:List Value).toArray }) s.toks hst (Nat.le_refl _) fun b _ o e=>Heap.get?_push_of_some _ e
  have hS₁:(s.heap.push { cls:=.type "list",data:=.seq ([]:List Value).toArray }).get? s.heap.objs.size=some { cls:=.type "list",data:=.seq ([]:List Value).toArray }:=Heap.get?_push_size _ rfl
  show wpAny _ A.in1 (Builtin.List.listExtendWith (.ref s.heap.objs.size) (.ref I) (.ref s.heap.objs.size)) _ _ _
  have hSI:s.heap.objs.size≠I:=fun e=>hSf (e ▸ hI)
  unfold Builtin.List.listExtendWith
  refine wpAny_bind (wpAny_typeOf (hT 0 _ hst₁) ?_)
  have h1:Builtin.List.listSameRef (.ref s.heap.objs.size) (.ref I)=false:=by simp[Builtin.List.listSameRef,hSI]
  have h2:(Value.type "list_reverseiterator" == Value.type "list")=false:=by decide
  have h3:(Value.type "list_reverseiterator" == Value.type "tuple")=false:=by decide
  simp only[h1,h2,h3,Bool.or_false,Bool.false_eq_true,if_false]
  refine wpAny_bind (W.self 0 _ _ _ hst₁ ?_)
  refine wpAny_bind (wpAny_holding ?_)
  unfold Builtin.List.listLengthHint
  refine wpAny_bind (wpAny_specialOf (hT 0 _ hst₁) P5 ?_)
  show wpAny _ A.in1 (specialOf (Value.ref I) (Str.ofString "__length_hint__") >>= _) _ _ _
  refine wpAny_bind (wpAny_specialOf (hT 0 _ hst₁) S8 ?_)
  generalize hid:("list_reverseiterator.__length_hint__" : String)=id0
  wp_delta
  rw[show splitId id0=some ("list_reverseiterator","__length_hint__") from by subst hid;decide +kernel]
  subst hid
  refine wpAny_bind (wpAny_isInstance (b:=true) (hT 0 _ hst₁) (by rw[isSubtype_type];kernel_rfl) ?_)
  refine wpAny_pure ?_
  rw[if_neg (by decide)]
  refine wpAny_pure ⟨plainId_quiet F.plain_extend_loop _,codeAny_extend_loopS W hn _ hSf _ n 0 _ _ _ rfl (Nat.zero_le _) hst₁ hS₁ (ItemsOf.nil P) fun s' acc' c' hm hS' hacc=>?_⟩
  show wpAny _ A (load s.heap.objs.size >>= _) _ _ s'
  refine wpAny_bind (wpAny_load hS' ?_)
  exact wpAny_pure (hQ s' acc' (Moved.drop_new (o:={ cls:=.type "list",data:=.seq ([]:List Value).toArray }) (tk:=s.toks) hm (Nat.le_refl _)) hacc)
theorem Jw{Q₁:Value→Shared→Prop}(W:WalksS prog w A.in1.in1 I fp wr G n P St)(hT:∀ i s,St i s→s.TypeIs (.ref I) "list_reverseiterator")(hst:St 0 s)(hfp:∀ b∈fp,b < s.heap.objs.size)(hI:I∈fp)
    (h:∀ s' acc,Moved wr G s s'→ItemsOf P acc n→Q₁ (.ref s'.heap.objs.size) { s' with heap:=s'.heap.push { cls:=.type "tuple",data:=.seq acc } }) (hsz:n≤sizeLine) :
    codeAny (model prog w) A (.call (.builtin "tuple.__new__") ⟨[.type "tuple",.ref I],[]⟩) (wants Q₁ E) s:=by
  refine codeAny_of_tree ?_
  show wpAny _ A.in1 (do checkBuiltinCall "tuple.__new__" ⟨[.type "tuple",.ref I],[]⟩;again (.builtin "tuple.__new__" ⟨[.type "tuple",.ref I],[]⟩)) _ _ s
  refine wpAny_bind (wpAny_of_eq (F.newCall_tuple_1 _) (wpAny_pure ⟨plainId_quiet F.plain_tuple_new _,codeAny_builtin F.entry_tuple_new ?_⟩))
  rw[Around.under_plainId F.plain_tuple_new _]
  have hsub:=sub_tuple_self
  have hinit:=init_tuple_lookup
  have hmh:=madeHere_tuple
  have hTI:=hT 0 s hst
  wp_walk using wpAny_typeOf hTI,Uu (hn:=hsz) W hT hst hfp hI
  intro s' acc hm hacc
  show wpAny _ _ (Builtin.Tuple.tupleExact acc.toList.toArray >>= fun v=>ret v) _ _ _
  unfold Builtin.Tuple.tupleExact
  refine wpAny_bind (wpAny_newObj_type ?_ (by show acc.toList.toArray.size≤sizeLine;simp only[Array.toArray_toList];rw[hacc.1];exact hsz))
  refine wpAny_pure ?_
  have e:acc.toList.toArray=acc:=by simp
  rw[e]
  exact h s' acc hm hacc
theorem M7{Q:Value→Shared→Prop}(W:WalksS prog w A.in1.in1.in1 I fp wr G n P St)(hT:∀ i s,St i s→s.TypeIs (.ref I) "list_reverseiterator")(hst:St 0 s)(hfp:∀ b∈fp,b < s.heap.objs.size)(hI:I∈fp)
    (hQ:∀ s' acc,Moved wr G s s'→ItemsOf P acc n→Q (.ref s'.heap.objs.size) { s' with heap:=s'.heap.push { cls:=.type "tuple",data:=.seq acc } }) (hsz:n≤sizeLine) :
    wpAny (model prog w) A (call (.type "tuple") [.ref I]) Q E s:=by
  refine callType_codes (Q₁:=fun obj s₁=>s₁.TypeIs obj "tuple" ∧ Q obj s₁) F.called_tuple (F.typeCall_tuple_1 _) F.entry_object_init
    (Jw (hsz:=hsz) W hT hst hfp hI fun s' acc hm hacc=>⟨⟨_,Heap.get?_push_size _ rfl,rfl⟩,hQ s' acc hm hacc⟩) fun obj s₁ h₁=>?_
  exact ⟨h₁.1,F.args_object_init_2 obj _,object_init_meets F.called_tuple.init.lookup F.called_tuple.made (by decide) prog w A.in1 _ s₁ ⟨h₁.1,rfl,h₁.2⟩⟩
end
end ZT
namespace MR
open PySem PySem.Spec PyProof.Rows PySem.Calls L2
section
variable {X:Cx}
theorem Ji:bootBuiltins "reversed" = some (.type "reversed"):=by decide +kernel
theorem Ng:bootBuiltins "list" = some (.type "list"):=by decide +kernel
theorem Uj:bootBuiltins "tuple" = some (.type "tuple"):=by decide +kernel
theorem Qp{its:List Value}{acc:Array Value}(h:ItemsOf (fun i v=>its.toArray[its.toArray.size - 1 - i]? = some v) acc its.toArray.size):acc.toList=its.reverse:=by
  obtain ⟨h1,h2⟩:=h
  apply List.ext_getElem?
  intro i
  have hz:its.toArray.size=its.length:=by simp
  by_cases hi:i < its.length
  · have hs:i < acc.size:=by rw[h1,hz];exact hi
    have:=h2 i acc[i] (Array.getElem?_eq_getElem hs)
    rw[hz,List.getElem?_toArray] at this
    rw[Array.getElem?_toList,Array.getElem?_eq_getElem hs,List.getElem?_reverse hi,this]
  · rw[List.getElem?_eq_none (by simp;omega),List.getElem?_eq_none (by simp;omega)]
noncomputable def Alu(K:PySem.W.Frag)(ta:TA):TE:=fun σ H Q=>ta σ H fun vs H1=>∃ q ys,vs=[.ref q]∧SqL K H1 q ys∧∀ l,H1 l=none→Q (.ref l) (upd H1 l (.lst ys.reverse))
noncomputable def Akw(K:PySem.W.Frag)(ta:TA):TE:=fun σ H Q=>ta σ H fun vs H1=>∃ q ys,vs=[.ref q]∧SqL K H1 q ys∧∀ l,H1 l=none→Q (.ref l) (upd H1 l (.tup ys.reverse))
theorem Aeq{a:Expr}{ta:TA}{p p' pos pos':Pos}(hc:X.calm=true)(hgL:Gl X "list")(hmL:X.mg "list" = none)(hg:Gl X "reversed")(hm:X.mg "reversed" = none)(ha:PA X [a] ta)(hs:starEach [a] X.env=[(false,eval a X.env)]:=by rfl)
    (hs2:starEach [.Call (.Name "reversed" p') [a] [] pos'] X.env=[(false,eval (.Call (.Name "reversed" p') [a] [] pos') X.env)]:=by rfl):PE X (.Call (.Name "list" p) [.Call (.Name "reversed" p') [a] [] pos'] [] pos) (Alu X.K ta):=by
  intro pins s σ H Q I h
  refine wpAny_Call_Name_kw (C6 I hgL hmL Ng ?_)
  refine PyProof.Rows.callWith_type1 ?_ hs2 rfl
  rw[hs2]
  refine Calls.spliced_cons ?_
  refine wpAny_Call_Name_kw (C6 I hg hm Ji (PyProof.Rows.callWith_type1 (thn (ha pos' pins s σ H _ I h) fun us s1 ⟨vs,H1,I1,r1,q1⟩=>?_) hs rfl))
  obtain ⟨l,ys,rfl,sq,q⟩:=q1
  obtain ⟨u,rfl,ru⟩:=Ii r1
  cases ru
  obtain ⟨its,hv,pl,hz⟩:=I1.list sq
  have hlt:l < s1.heap.objs.size:=by obtain ⟨_,e,_⟩:=pl.isList;exact Heap.lt_size e
  refine call_reversed_list pl.isList ?_
  refine Calls.spliced_nil ?_
  have hlen:=hv.length
  refine ZT.O6 (n:=its.toArray.size) ((Walks.listRev (A:=Around.in1 (Around.in1 X.A)) (I1.ok.hd hc) s1.heap.objs.size l (Nat.ne_of_lt hlt) its.toArray).toS) (fun i s st=>st.2.1.typeIs)
    ⟨Nat.zero_le _,⟨_,Heap.get?_push_size _ rfl,rfl,by simp[revObj]⟩,pl.isList.push _⟩ (fun b hb=>?_) (by simp) (fun s' acc c' hm' hS hacc=>?_) (by simp;omega)
  · simp only[List.mem_cons,List.not_mem_nil,or_false] at hb
    have hz2:(s1.heap.push (revObj l ((its.toArray.size:Int) - 1))).objs.size=s1.heap.objs.size+1:=Heap.size_push ..
    show b < (s1.heap.push (revObj l ((its.toArray.size:Int) - 1))).objs.size
    rw[hz2]
    rcases hb with rfl | rfl
    · exact Nat.lt_succ_self _
    · exact Nat.lt_succ_of_lt hlt
  · have hz2:(s1.heap.push (revObj l ((its.toArray.size:Int) - 1))).objs.size=s1.heap.objs.size+1:=Heap.size_push ..
    obtain ⟨h',g',d',tk',os'⟩:=s'
    have e1:g'=s1.gens:=hm'.gens
    have e2:d'=s1.drawn:=hm'.drawn
    have e3:os'=s1.os:=hm'.os
    subst e1 e2 e3
    have hS':h'.get? (s1.heap.push (revObj l ((its.toArray.size:Int) - 1))).objs.size=some { cls:=.type "list",dict:=none,data:=.seq acc c',slots:=#[] }:=hS
    have kp:∀ b o,s1.heap.get? b=some o→h'.get? b=some o:=fun b o e=>hm'.heap b o (fun hb=>by
      have hb':b < s1.heap.objs.size:=Heap.lt_size e
      simp only[List.mem_cons,List.not_mem_nil,or_false] at hb
      rcases hb with z | z
      · have z':b=(s1.heap.push (revObj l ((its.toArray.size:Int) - 1))).objs.size:=z
        rw[hz2] at z';rw[z'] at hb';exact absurd (Nat.lt_of_succ_lt hb') (Nat.lt_irrefl _)
      · rw[z] at hb';exact absurd hb' (Nat.lt_irrefl _)) (Heap.get?_push_of_some _ (Heap.get?_push_of_some _ e))
    have hle:s1.heap.objs.size≤(s1.heap.push (revObj l ((its.toArray.size:Int) - 1))).objs.size:=by rw[hz2];exact Nat.le_succ _
    have hacc':=Qp hacc
    have hacc2:acc=its.reverse.toArray:=by rw[← hacc']
    have new:ObjOk X.prog X.w (upd H1 (s1.heap.push (revObj l ((its.toArray.size:Int) - 1))).objs.size (.lst ys.reverse)) h' (s1.heap.push (revObj l ((its.toArray.size:Int) - 1))).objs.size (.lst ys.reverse):=
      ⟨by rw[List.length_reverse];exact hz,its.reverse,c',Vals.reverse hv,by rw[hS',hacc2]⟩
    exact ⟨.ref (s1.heap.push (revObj l ((its.toArray.size:Int) - 1))).objs.size,_,I1.laid (t':=tk') kp hle new,rfl,q _ (I1.hok.fresh hle)⟩
theorem Agf{a:Expr}{ta:TA}{p p' pos pos':Pos}(hc:X.calm=true)(hgL:Gl X "tuple")(hmL:X.mg "tuple" = none)(hg:Gl X "reversed")(hm:X.mg "reversed" = none)(ha:PA X [a] ta)(hs:starEach [a] X.env=[(false,eval a X.env)]:=by rfl)
    (hs2:starEach [.Call (.Name "reversed" p') [a] [] pos'] X.env=[(false,eval (.Call (.Name "reversed" p') [a] [] pos') X.env)]:=by rfl):PE X (.Call (.Name "tuple" p) [.Call (.Name "reversed" p') [a] [] pos'] [] pos) (Akw X.K ta):=by
  intro pins s σ H Q I h
  refine wpAny_Call_Name_kw (C6 I hgL hmL Uj ?_)
  refine PyProof.Rows.callWith_type1 ?_ hs2 rfl
  rw[hs2]
  refine Calls.spliced_cons ?_
  refine wpAny_Call_Name_kw (C6 I hg hm Ji (PyProof.Rows.callWith_type1 (thn (ha pos' pins s σ H _ I h) fun us s1 ⟨vs,H1,I1,r1,q1⟩=>?_) hs rfl))
  obtain ⟨l,ys,rfl,sq,q⟩:=q1
  obtain ⟨u,rfl,ru⟩:=Ii r1
  cases ru
  obtain ⟨its,hv,pl,hz⟩:=I1.list sq
  have hlt:l < s1.heap.objs.size:=by obtain ⟨_,e,_⟩:=pl.isList;exact Heap.lt_size e
  refine call_reversed_list pl.isList ?_
  refine Calls.spliced_nil ?_
  have hlen:=hv.length
  refine ZT.M7 (n:=its.toArray.size) ((Walks.listRev (A:=Around.in1 (Around.in1 (Around.in1 X.A))) (I1.ok.hd hc) s1.heap.objs.size l (Nat.ne_of_lt hlt) its.toArray).toS) (fun i s st=>st.2.1.typeIs)
    ⟨Nat.zero_le _,⟨_,Heap.get?_push_size _ rfl,rfl,by simp[revObj]⟩,pl.isList.push _⟩ (fun b hb=>?_) (by simp) (fun s' acc hm' hacc=>?_) (by simp;omega)
  · simp only[List.mem_cons,List.not_mem_nil,or_false] at hb
    have hz2:(s1.heap.push (revObj l ((its.toArray.size:Int) - 1))).objs.size=s1.heap.objs.size+1:=Heap.size_push ..
    show b < (s1.heap.push (revObj l ((its.toArray.size:Int) - 1))).objs.size
    rw[hz2]
    rcases hb with rfl | rfl
    · exact Nat.lt_succ_self _
    · exact Nat.lt_succ_of_lt hlt
  · obtain ⟨h',g',d',tk',os'⟩:=s'
    have e1:g'=s1.gens:=hm'.gens
    have e2:d'=s1.drawn:=hm'.drawn
    have e3:os'=s1.os:=hm'.os
    subst e1 e2 e3
    have kp:∀ b o,s1.heap.get? b=some o→h'.get? b=some o:=fun b o e=>hm'.heap b o (fun hb=>by
      have hb':b < s1.heap.objs.size:=Heap.lt_size e
      simp only[List.mem_cons,List.not_mem_nil,or_false] at hb
      rw[hb] at hb';exact absurd hb' (Nat.lt_irrefl _)) (Heap.get?_push_of_some _ e)
    have hacc':=Qp hacc
    have hacc2:acc=its.reverse.toArray:=by rw[← hacc']
    have I2:L2.Inv X pins σ H1 { s1 with heap:=h',toks:=tk' }:=I1.kept (t':=tk') kp
    have I3:L2.Inv X pins σ (upd H1 h'.objs.size (.tup ys.reverse)) { s1 with heap:=h'.push { cls:=.type "tuple",data:=.seq acc },toks:=tk' }:=
      I2.laid (t':=tk') (fun b o e=>Heap.get?_push_of_some _ e) (Nat.le_refl _) (show ObjOk X.prog X.w _ _ _ (.tup ys.reverse) from ⟨by rw[List.length_reverse];exact hz,its.reverse,Vals.reverse hv,by rw[hacc2];exact TupN.new _ _⟩)
    exact ⟨.ref h'.objs.size,_,I3,rfl,q _ (I2.hok.fresh (Nat.le_refl _))⟩
noncomputable def Xa(g:FA):FE:=fun δ L=>(g δ L).bind fun p=>match p.1 with
  | [.ref n]=>(Am p.2 n).map fun l=>(.ref p.2.length,p.2++[.lst l.reverse])
  | _=>none
noncomputable def Xk(g:FA):FE:=fun δ L=>(g δ L).bind fun p=>match p.1 with
  | [.ref n]=>(Am p.2 n).map fun l=>(.tup l.reverse,p.2)
  | _=>none
theorem Afy{a:Expr}{g:FA}{p p' pos pos':Pos}(hc:X.calm=true)(hgL:Gl X "list")(hmL:X.mg "list" = none)(hg:Gl X "reversed")(hm:X.mg "reversed" = none)(ha:PAF X [a] g)(hs:starEach [a] X.env=[(false,eval a X.env)]:=by rfl)
    (hs2:starEach [.Call (.Name "reversed" p') [a] [] pos'] X.env=[(false,eval (.Call (.Name "reversed" p') [a] [] pos') X.env)]:=by rfl):PEF X (.Call (.Name "list" p) [.Call (.Name "reversed" p') [a] [] pos'] [] pos) (Xa g):=by
  refine PE.imp (Aeq hc hgL hmL hg hm ha hs hs2) ?_
  rintro σ H Q ⟨α,δ,L,A,S,u,L3,e,q⟩
  obtain ⟨⟨us,L1⟩,e1,e⟩:=Option.bind_eq_some_iff.mp e
  refine ⟨α,δ,L,A,S,us,L1,e1,fun xs H1 α1 g1 A1 r1=>?_⟩
  simp only at e
  split at e
  · obtain ⟨l,hl,e⟩:=Option.map_eq_some_iff.mp e
    cases e
    obtain ⟨x,rfl,rx⟩:=r1.one
    obtain ⟨a',ys,rfl,sq,r2⟩:=G9 A1 hl rx
    refine ⟨a',ys,rfl,sq,fun p hp=>?_⟩
    obtain ⟨g',A',r'⟩:=A1.lst (RepL.reverse r2) hp
    exact q _ _ _ (g1.trans g') A' r'
  · cases e
theorem Ae7{a:Expr}{g:FA}{p p' pos pos':Pos}(hc:X.calm=true)(hgL:Gl X "tuple")(hmL:X.mg "tuple" = none)(hg:Gl X "reversed")(hm:X.mg "reversed" = none)(ha:PAF X [a] g)(hs:starEach [a] X.env=[(false,eval a X.env)]:=by rfl)
    (hs2:starEach [.Call (.Name "reversed" p') [a] [] pos'] X.env=[(false,eval (.Call (.Name "reversed" p') [a] [] pos') X.env)]:=by rfl):PEF X (.Call (.Name "tuple" p) [.Call (.Name "reversed" p') [a] [] pos'] [] pos) (Xk g):=by
  refine PE.imp (Agf hc hgL hmL hg hm ha hs hs2) ?_
  rintro σ H Q ⟨α,δ,L,A,S,u,L3,e,q⟩
  obtain ⟨⟨us,L1⟩,e1,e⟩:=Option.bind_eq_some_iff.mp e
  refine ⟨α,δ,L,A,S,us,L1,e1,fun xs H1 α1 g1 A1 r1=>?_⟩
  simp only at e
  split at e
  · obtain ⟨l,hl,e⟩:=Option.map_eq_some_iff.mp e
    cases e
    obtain ⟨x,rfl,rx⟩:=r1.one
    obtain ⟨a',ys,rfl,sq,r2⟩:=G9 A1 hl rx
    refine ⟨a',ys,rfl,sq,fun p hp=>?_⟩
    obtain ⟨g',A',r'⟩:=A1.tup (RepL.reverse r2) hp
    exact q _ _ _ (g1.trans g') A' r'
  · cases e
end
noncomputable def Itd(hi:Int)(n:Nat):It:=⟨fun i _=>i < n,fun i H x H'=>H'=H∧x = .int (hi - i),fun i _=>n≤i⟩
theorem Aao{P:Program}{w:World}{K:PySem.W.Frag}{tg:Expr}(it:Addr)(hi:Int)(n:Nat):Turn P w K tg (Itd hi n) [it] it (fun i h=>IsRangeIter h it (hi+(i:Nat) * (-1)) ((n:Int) - (i:Nat)) (-1)) where
  mem:=by simp
  obj:=fun i h st b hb=>by
    have e:b=it:=by simpa using hb
    subst e
    exact ⟨_,st,fun v z=>by
      have z':Data.fields _=Data.cell v:=z
      cases z'⟩
  keep:=fun i h h' st k=>k it (by simp) _ st
  item:=by
    intro X hP hw hK hc i pins s σ H E I hf st hg
    subst hP hw hK
    obtain ⟨f0,f1,f2,f3,f4,f5⟩:=hf it (by simp)
    have W:=Walks.range (prog:=X.prog) (w:=X.w) (I.ok.hd hc) it hi (-1) n
    refine W.item i s _ _ hg st fun v h' tk hv st' kk=>?_
    obtain ⟨t,rfl⟩:=hv
    have I1:L2.Inv X pins σ H { s with heap:=h',toks:=tk }:=I.turned (fun b o hb e=>kk b o (by simpa using hb) e) f0 f1 f3 f4 f5
    refine ⟨_,rfl,W4 (s:={ s with heap:=h',toks:=tk }) (n := "range_iterator") st' rfl rfl (by decide) ⟨.int (hi - i),H,I1,⟨t,?_⟩,⟨rfl,rfl⟩,st',fun b hb=>(hf b hb).1⟩⟩
    have:hi+(i:Int) * (-1)=hi - i:=by omega
    rw[this]
  done:=by
    intro X hP hw hK hc i pins s σ H E I hf st hg
    subst hP hw hK
    obtain ⟨f0,f1,f2,f3,f4,f5⟩:=hf it (by simp)
    exact wpAny_pyNext_range_end (I.ok.hd hc) st (by have:n≤i:=hg;omega) fun h' eb=>⟨rfl,I.turned (t':=s.toks) (fun b o hb e=>eb b o hb e) f0 f1 f3 f4 f5⟩
  self:=fun _ _ _ _ _ st h=>wpAny_pyIter_rangeiter st h
end MR
namespace ZT
open PySem PySem.Spec PyProof.Rows HT
section
variable {prog:Program}{w:World}{A:Around}{E:Value→Shared→Prop}{s:Shared}
end
end ZT
namespace MR
open PySem PySem.Spec PyProof.Rows PySem.Calls L2
section
variable {X:Cx}{tg:Expr}
theorem Q0(a b:Int):Builtin.Range.rangeSize a b (-1)=if b < a then a - b else 0:=by
  unfold Builtin.Range.rangeSize
  simp only[show ¬ ((-1:Int) > 0) by decide,if_false,show -(-1:Int)=1 by decide,Int.ediv_one]
  split <;> omega
theorem Vo{a b:Int}(ha:-(2 ^ 62)≤a)(ha':a < 2 ^ 62)(hb:-(2 ^ 62)≤b)(hb':b < 2 ^ 62):Builtin.Range.small a b (-1)=true:=by
  unfold Builtin.Range.small
  rw[Q0]
  simp only[Builtin.Range.rangeFitsLong,Bool.and_eq_true,Bool.or_eq_true,decide_eq_true_eq,beq_iff_eq,show ¬ ((-1:Int) > 0) by decide,if_false]
  split <;> omega
theorem Aam{pins:List (Addr×Obj)}{σ:L2.St}{H:Hp}{s:Shared}{R:It→Hp→Prop}{E:Value→Shared→Prop}{hi lo:Int}{t u v:Tok}{tk:Nat}(I:L2.Inv X pins σ H s)(h1:-(2 ^ 62)≤hi)(h2:hi < 2 ^ 62)(h3:-(2 ^ 62)≤lo)(h4:lo < 2 ^ 62)
    (q:R (Itd hi (hi - lo).toNat) H):wpAny (model X.prog X.w) X.A (pyIter (.ref s.heap.objs.size)) (PIE X pins σ tg R) E { s with heap:=s.heap.push { cls:=.type "range",data:=.fields #[.int hi t,.int lo u,.int (-1) v] },toks:=tk }:=by
  refine wpAny_pyIter_range (IsRange.new ..) (Vo h1 h2 h3 h4) ?_
  have I1:L2.Inv X pins σ H { s with heap:=s.heap.push { cls:=.type "range",data:=.fields #[.int hi t,.int lo u,.int (-1) v] },toks:=tk }:=I.kept fun b o e=>Heap.get?_push_of_some _ e
  refine ⟨(s.heap.push { cls:=.type "range",data:=.fields #[.int hi t,.int lo u,.int (-1) v] }).objs.size,[(s.heap.push { cls:=.type "range",data:=.fields #[.int hi t,.int lo u,.int (-1) v] }).objs.size],_,_,H,rfl,
    I1.kept (t':=tk) fun b o e=>Heap.get?_push_of_some _ e,Aao _ hi (hi - lo).toNat,?_,fun b hb=>?_,q⟩
  · have e1:hi+((0:Nat):Int) * (-1)=hi:=by simp
    have e2:(((hi - lo).toNat:Nat):Int) - ((0:Nat):Int)=Builtin.Range.rangeSize hi lo (-1):=by rw[Q0];split <;> omega
    show IsRangeIter _ _ (hi+((0:Nat):Int) * (-1)) ((((hi - lo).toNat:Nat):Int) - ((0:Nat):Int)) (-1)
    rw[e1,e2]
    exact Heap.get?_push_size _ rfl
  · have e:b=(s.heap.push { cls:=.type "range",data:=.fields #[.int hi t,.int lo u,.int (-1) v] }).objs.size:=by simpa using hb
    subst e
    exact L2.Inv.fpOk I1 (Nat.le_refl _) (I1.hok.fresh (Nat.le_refl _))
noncomputable def Aky(ta:TA):TI:=fun σ H R=>ta σ H fun vs H1=>∃ i j:Int,vs=[.int i,.int j,.int (-1)]∧(-(2 ^ 62)≤i∧i < 2 ^ 62∧-(2 ^ 62)≤j∧j < 2 ^ 62)∧R (Itd i (i - j).toNat) H1
theorem Ys{a b c:Expr}{ta:TA}{p pos:Pos}(hg:Gl X "range")(hm:X.mg "range" = none)(ha:PA X [a,b,c] ta)(hs:starEach [a,b,c] X.env=(false,eval a X.env)::starEach [b,c] X.env:=by rfl)(hpl:(backTo pos (starEach [b,c] X.env)).any (·.1)=false:=by rfl) :
    PI X tg (.Call (.Name "range" p) [a,b,c] [] pos) (Aky ta):=by
  intro pins s σ H R I h
  refine Call_ (C6 I hg hm boot_range (PyProof.Rows.callWith_type1 (thn (ha pos pins s σ H _ I h) fun us s1 ⟨vs,H1,I1,r1,q1⟩=>?_) hs hpl))
  obtain ⟨i,j,e,⟨q1,q2,q3,q4⟩,q⟩:=q1
  subst e
  cases r1 with
  | cons r rr=>
    cases rr with
    | cons r' rr=>
      cases rr with
      | cons r'' rr=>
        cases rr
        obtain ⟨t,rfl⟩:=r
        obtain ⟨t',rfl⟩:=r'
        obtain ⟨t'',rfl⟩:=r''
        exact call_range_3 (by decide) (Aam I1 q1 q2 q3 q4 q) (.inl (PyProof.noPylong_small (by omega)))
noncomputable def Cf(hi:Int)(n:Nat):List U:=(List.range n).map fun (i:Nat)=>.int (hi - (i:Int))
noncomputable def Kf(g:FA):FI:=fun δ L=>(g δ L).bind fun p=>match p.1 with
  | [.int i,.int j,.int k]=>if k = -1∧-1000000≤i∧i≤1000000∧-1000000≤j∧j≤1000000 then some (.seq (Cf i (i - j).toNat),p.2) else none
  | _=>none
theorem Af7{K:PySem.W.Frag}{H:Hp}{α:List Addr}(hi:Int)(n:Nat):K7 K (Itd hi n) (.seq (Cf hi n)) H α:=by
  intro H2 α2 L2 g A2 k
  refine ⟨fun u eu=>?_,fun eu=>?_⟩
  · have eu:(Cf hi n)[k]? = some u:=by simpa[IU.at] using eu
    unfold Cf at eu
    rw[List.getElem?_map] at eu
    obtain ⟨c,hc,eu⟩:=Option.map_eq_some_iff.mp eu
    have hk:k < n:=by
      have:=(List.getElem?_eq_some_iff.mp hc).1
      simpa using this
    rw[List.getElem?_range hk] at hc
    cases hc
    subst eu
    refine ⟨hk,?_⟩
    rintro y H3 ⟨rfl,rfl⟩
    exact ⟨.refl _ _,A2,rfl⟩
  · have eu:(Cf hi n)[k]? = none:=by simpa[IU.at] using eu
    have:(Cf hi n).length≤k:=List.getElem?_eq_none_iff.mp eu
    show n≤k
    simpa[Cf] using this
theorem Jt{a b c:Expr}{g:FA}{p pos:Pos}(hg:Gl X "range")(hm:X.mg "range" = none)(ha:PAF X [a,b,c] g)(hs:starEach [a,b,c] X.env=(false,eval a X.env)::starEach [b,c] X.env:=by rfl)(hpl:(backTo pos (starEach [b,c] X.env)).any (·.1)=false:=by rfl):PIF X tg (.Call (.Name "range" p) [a,b,c] [] pos) (Kf g):=by
  refine PI.imp (Ys hg hm ha hs hpl) ?_
  rintro σ H R ⟨α,δ,L,A,S,i,L3,e,q⟩
  obtain ⟨⟨us,L1⟩,e1,e⟩:=Option.bind_eq_some_iff.mp e
  refine ⟨α,δ,L,A,S,us,L1,e1,fun xs H1 α1 g1 A1 r1=>?_⟩
  simp only at e
  split at e
  · split at e
    · rename_i hj
      cases e
      obtain ⟨rfl,h1,h2,h3,h4⟩:=hj
      unfold RepL at r1
      obtain ⟨x,xr,rfl,rx,r1⟩:=r1
      unfold RepL at r1
      obtain ⟨y,yr,rfl,ry,r1⟩:=r1
      unfold RepL at r1
      obtain ⟨z,zr,rfl,rz,r1⟩:=r1
      unfold RepL at r1
      subst r1
      unfold RepU at rx ry rz
      subst rx ry rz
      exact ⟨_,_,rfl,⟨by omega,by omega,by omega,by omega⟩,q _ H1 α1 g1 A1 (Af7 _ _)⟩
    · cases e
  · cases e
end
section
variable {X:Cx}
end
noncomputable def Ae9:S2:=fun u w L=>match u,w with
  | .tup [],.tup b=>some (.tup b,L)
  | u,w=>Ao u w L
@[simp] theorem Ahf(i j:Int)(L:UH):Ae9 (.int i) (.int j) L=some (.int (i+j),L):=rfl
end MR
namespace MR
open PySem PyProof.Rows L2
section
variable {X:Cx}
end
noncomputable def toS:U→Option Str
  | .str a=>some a
  | _=>none
end MR
namespace MR
open PySem PySem.W PyProof.Rows L2
end MR
namespace Att
open PySem PySem.W PySem.Calls PyProof.Rows L2 MR
end Att
namespace MR
open PySem PyProof.Rows L2
noncomputable def g0(us ws:List Value):List Value:=match us with | []=>ws | _=>[]
section
variable {X:Cx}{k:Nat}{f:Addr}{fd:FuncData}{p:Str}{ps:List Str}{x:Str}{pp pos kpos:Pos}{e:Expr}{kws:List Keyword}{nm:Option Str}
theorem PK.imp{t t':TA}(h:PK X kws t)(hi:∀ σ H Q,t' σ H Q→t σ H Q):PK X kws t':=fun pos pins s σ H Q I q=>h pos pins s σ H Q I (hi σ H Q q)
end
end MR
namespace MR
open PySem PySem.Spec PyProof.Rows PySem.Calls L2
section
variable {X:Cx}
end
noncomputable def Pg(lo:Int)(n:Nat):List V:=(List.range n).map fun i=>V.int (lo+(i:Nat))
theorem Aau{lo:Int}{n:Nat}{acc:Array Value}(h:ItemsOf (fun i v=>∃ t,v=Value.int (lo+(i:Nat) * 1) t) acc n):Vals (Pg lo n) acc.toList:=by
  obtain ⟨h1,h2⟩:=h
  have key:∀ (k:Nat) (l:List Value) (m:Nat),l.length=k→(∀ i v,l[i]? = some v→∃ t,v=Value.int (lo+((m+i:Nat):Int)) t)→Vals ((List.range' m k).map fun i=>V.int (lo+((i:Nat):Int))) l:=by
    intro k
    induction k with
    | zero=>intro l m hl _;cases l with | nil=>exact .nil | cons _ _=>simp at hl
    | succ k ih=>
      intro l m hl hv
      cases l with
      | nil=>simp at hl
      | cons v l=>
        rw[List.range'_succ,List.map_cons]
        obtain ⟨t,ht⟩:=hv 0 v rfl
        refine .cons ⟨t,by rw[ht];rfl⟩ (ih l (m+1) (by simpa using hl) fun i w hw=>?_)
        obtain ⟨t',ht'⟩:=hv (i+1) w (by simpa using hw)
        refine ⟨t',?_⟩
        rw[ht']
        have:m+(i+1)=m+1+i:=by omega
        rw[this]
  have:=key n acc.toList 0 (by simpa using h1) (fun i v hv=>by
    obtain ⟨t,ht⟩:=h2 i v (by simpa using hv)
    refine ⟨t,?_⟩
    rw[ht,Int.mul_one,Nat.zero_add])
  unfold Pg
  rw[List.range_eq_range']
  exact this
section
variable {X:Cx}
theorem Abo{pins:List (Addr×Obj)}{σ:L2.St}{H:Hp}{s:Shared}{Q:VK}{lo hi:Int}{t u v:Tok}{tk:Nat}(hc:X.calm=true)(I:L2.Inv X pins σ H s)(h1:-(2 ^ 62)≤lo)(h2:lo < 2 ^ 62)(h3:-(2 ^ 62)≤hi)(h4:hi < 2 ^ 62)(hn:(hi - lo).toNat≤1000000)
    (q:∀ l,H l=none→Q (.ref l) (upd H l (.lst (Pg lo (hi - lo).toNat)))) :
    wpAny (model X.prog X.w) X.A (call (.type "list") [.ref s.heap.objs.size]) (EP X pins σ Q) X.xe { s with heap:=s.heap.push { cls:=.type "range",data:=.fields #[.int lo t,.int hi u,.int 1 v] },toks:=tk }:=by
  have I1:L2.Inv X pins σ H { s with heap:=s.heap.push { cls:=.type "range",data:=.fields #[.int lo t,.int hi u,.int 1 v] },toks:=tk }:=I.kept fun b o e=>Heap.get?_push_of_some _ e
  refine call_list_range (n:=(hi - lo).toNat) (I.ok.hd hc) (IsRange.new ..) (small_one h1 h2 h3 h4) (by rw[rangeSize_one];split <;> omega) (by omega) fun h' tk' acc c' hk hS hacc=>?_
  have hz2:(s.heap.push { cls:=.type "range",data:=.fields #[.int lo t,.int hi u,.int 1 v] }).objs.size=s.heap.objs.size+1:=Heap.size_push ..
  have hv:=Aau hacc
  have kp:∀ b o,(s.heap.push { cls:=.type "range",data:=.fields #[.int lo t,.int hi u,.int 1 v] }).get? b=some o→h'.get? b=some o:=hk
  have hlen:(Pg lo (hi - lo).toNat).length≤sizeLine:=by
    unfold Pg sizeLine
    rw[List.length_map,List.length_range];omega
  have new:ObjOk X.prog X.w (upd H (s.heap.push { cls:=.type "range",data:=.fields #[.int lo t,.int hi u,.int 1 v] }).objs.size (.lst (Pg lo (hi - lo).toNat))) h' (s.heap.push { cls:=.type "range",data:=.fields #[.int lo t,.int hi u,.int 1 v] }).objs.size (.lst (Pg lo (hi - lo).toNat)):=
    ⟨hlen,acc.toList,c',hv,by simpa using hS⟩
  exact ⟨.ref (s.heap.push { cls:=.type "range",data:=.fields #[.int lo t,.int hi u,.int 1 v] }).objs.size,_,I1.laid (t':=tk') kp (Nat.le_refl _) new,rfl,q _ (I1.hok.fresh (Nat.le_refl _))⟩
end
theorem Agm{K:PySem.W.Frag}{H:Hp}{α:List Addr}(lo:Int)(n:Nat):RepL K H α (Ay lo n) (Pg lo n):=by
  unfold Ay Pg
  generalize List.range n=ks
  induction ks with
  | nil=>exact .nil
  | cons k ks ih=>exact .cons (by unfold RepU;rfl) ih
end MR
namespace MR
open PySem PyProof.Rows L2
theorem RepL.init{K:PySem.W.Frag}{H:Hp}{α:List Addr}:∀ {us:List U} {xs:List V},RepL K H α us xs→RepL K H α us.dropLast xs.dropLast
  | [],xs,r=>by unfold RepL at r;subst r;exact .nil
  | [u],xs,r=>by
    unfold RepL at r
    obtain ⟨x,xr,rfl,rx,r⟩:=r
    unfold RepL at r
    subst r
    exact .nil
  | u::w::us,xs,r=>by
    unfold RepL at r
    obtain ⟨x,xr,rfl,rx,r⟩:=r
    have r':=r
    unfold RepL at r'
    obtain ⟨y,yr,rfl,ry,_⟩:=r'
    exact .cons rx (RepL.init r)
noncomputable def toK:U→Option Key
  | .int i=>some (.inl i)
  | .str x=>some (.inr x)
  | _=>none
theorem Sm{K:PySem.W.Frag}{H:Hp}{α:List Addr}{u:U}{x:V}{k:Key}(r:RepU K H α u x)(h:toK u=some k):x=kV k:=by
  cases u <;> simp only[toK] at h <;> first | (cases h;unfold RepU at r;exact r) | cases h
noncomputable def Gi(kvs:List (Key×U))(k:Key):Option U:=(kvs.find? fun kv=>decide (kv.1=k)).map (·.2)
noncomputable def Adh(kvs:List (Key×U))(k:Key)(v:U):List (Key×U):=
  if (kvs.any fun kv=>decide (kv.1=k))=true then kvs.map (fun kv=>if kv.1=k then (kv.1,v) else kv) else kvs++[(k,v)]
section
variable {K:PySem.W.Frag}{H:Hp}{α:List Addr}
noncomputable def RepKV(K:PySem.W.Frag)(H:Hp)(α:List Addr)(kvs:List (Key×U))(vs:List (Key×V)):Prop:=kvs.map (·.1)=vs.map (·.1)∧RepL K H α (kvs.map (·.2)) (vs.map (·.2))
theorem RepKV.nil:RepKV K H α [] []:=⟨rfl,.nil⟩
theorem RepKV.cons{kv:Key×U}{kvs:List (Key×U)}{vs:List (Key×V)}(h:RepKV K H α (kv::kvs) vs):∃ x vs',vs=(kv.1,x)::vs'∧RepU K H α kv.2 x∧RepKV K H α kvs vs':=by
  obtain ⟨h1,h2⟩:=h
  cases vs with
  | nil=>simp at h1
  | cons w vs'=>
    simp only[List.map_cons,List.cons.injEq] at h1
    rw[List.map_cons,List.map_cons] at h2
    unfold RepL at h2
    obtain ⟨x,xr,hx,rx,r⟩:=h2
    injection hx with e1 e2
    subst e1
    refine ⟨w.2,vs',by rw[h1.1],rx,h1.2,?_⟩
    rw[e2];exact r
theorem RepKV.mk{k:Key}{u:U}{x:V}{kvs:List (Key×U)}{vs:List (Key×V)}(r:RepU K H α u x)(h:RepKV K H α kvs vs):RepKV K H α ((k,u)::kvs) ((k,x)::vs):=
  ⟨by simp[h.1],by rw[List.map_cons,List.map_cons];exact .cons r h.2⟩
theorem RepKV.val{k:Key}{u:U}:∀ {kvs:List (Key×U)} {vs:List (Key×V)},RepKV K H α kvs vs→Gi kvs k=some u→∃ x,Hq vs k=some x∧RepU K H α u x
  | [],vs,_,e=>by simp[Gi] at e
  | kv::kvs,vs,r,e=>by
    obtain ⟨x,vs',rfl,rx,r'⟩:=r.cons
    unfold Gi at e
    unfold Hq
    rw[List.find?_cons] at e ⊢
    by_cases h:kv.1=k
    · simp only[h,decide_true,Option.map_some] at e ⊢
      cases e
      exact ⟨x,rfl,rx⟩
    · simp only[h,decide_false] at e ⊢
      exact RepKV.val r' e
theorem RepKV.any{k:Key}:∀ {kvs:List (Key×U)} {vs:List (Key×V)},RepKV K H α kvs vs→(kvs.any fun kv=>decide (kv.1=k))=(vs.any fun kv=>decide (kv.1=k))
  | [],vs,r=>by
    obtain ⟨h1,_⟩:=r
    cases vs with
    | nil=>rfl
    | cons _ _=>simp at h1
  | kv::kvs,vs,r=>by
    obtain ⟨x,vs',rfl,rx,r'⟩:=r.cons
    rw[List.any_cons,List.any_cons,RepKV.any r']
theorem RepKV.len{kvs:List (Key×U)}{vs:List (Key×V)}(r:RepKV K H α kvs vs):kvs.length=vs.length:=by
  have:=congrArg List.length r.1
  simpa using this
theorem RepKV.upd{k:Key}{u:U}{x:V}(ru:RepU K H α u x):∀ {kvs:List (Key×U)} {vs:List (Key×V)},RepKV K H α kvs vs→RepKV K H α (kvs.map fun kv=>if kv.1=k then (kv.1,u) else kv) (vs.map fun kv=>if kv.1=k then (kv.1,x) else kv)
  | [],vs,r=>by
    obtain ⟨h1,_⟩:=r
    cases vs with
    | nil=>exact .nil
    | cons _ _=>simp at h1
  | kv::kvs,vs,r=>by
    obtain ⟨y,vs',rfl,ry,r'⟩:=r.cons
    rw[List.map_cons,List.map_cons]
    by_cases h:kv.1=k
    · rw[if_pos h,if_pos h]
      exact .mk ru (RepKV.upd ru r')
    · rw[if_neg h,if_neg h]
      exact .mk ry (RepKV.upd ru r')
theorem RepKV.add{k:Key}{u:U}{x:V}(ru:RepU K H α u x):∀ {kvs:List (Key×U)} {vs:List (Key×V)},RepKV K H α kvs vs→RepKV K H α (kvs++[(k,u)]) (vs++[(k,x)])
  | [],vs,r=>by
    obtain ⟨h1,_⟩:=r
    cases vs with
    | nil=>exact .mk ru .nil
    | cons _ _=>simp at h1
  | kv::kvs,vs,r=>by
    obtain ⟨y,vs',rfl,ry,r'⟩:=r.cons
    exact .mk ry (RepKV.add ru r')
theorem RepKV.put{k:Key}{u:U}{x:V}{kvs:List (Key×U)}{vs:List (Key×V)}(ru:RepU K H α u x)(r:RepKV K H α kvs vs):RepKV K H α (Adh kvs k u) (Hr vs k x):=by
  unfold Adh Hr
  rw[r.any]
  split
  · exact r.upd ru
  · exact r.add ru
theorem RepKV.mono{H':Hp}{α':List Addr}{kvs:List (Key×U)}{vs:List (Key×V)}(r:RepKV K H α kvs vs)(g:Gr H α H' α'):RepKV K H' α' kvs vs:=⟨r.1,r.2.mono g⟩
end
noncomputable def Fs(L:UH)(n:Nat):Option (List (Key×U)):=match L[n]? with
  | some (.dic kvs)=>some kvs
  | _=>none
theorem Js{L:UH}{n:Nat}{kvs:List (Key×U)}(h:Fs L n=some kvs):L[n]? = some (.dic kvs):=by
  unfold Fs at h
  split at h
  · rename_i e;cases h;exact e
  · cases h
theorem Sj{K:PySem.W.Frag}{H:Hp}{α:List Addr}{L:UH}{n:Nat}{x:V}{kvs:List (Key×U)}(A:Abs K H α L)(h:Fs L n=some kvs)(r:RepU K H α (.ref n) x):∃ a vs,x = .ref a∧α[n]? = some a∧H a=some (.dK vs)∧RepKV K H α kvs vs:=by
  unfold RepU at r
  obtain ⟨a,ea,rfl⟩:=r
  obtain ⟨vs,e,k1,k2⟩:=A.rep n a _ ea (Js h)
  exact ⟨a,vs,rfl,ea,e,k1,k2⟩
theorem Abs.setD{K:PySem.W.Frag}{H:Hp}{α:List Addr}{L:UH}{n:Nat}{a:Addr}{vs ws:List (Key×V)}{kvs kws:List (Key×U)}(A:Abs K H α L)(h:Fs L n=some kvs)(ea:α[n]? = some a)(e:H a=some (.dK vs))(r:RepKV K H α kws ws) :
    Gr H α (upd H a (.dK ws)) α∧Abs K (upd H a (.dK ws)) α (L.set n (.dic kws)):=by
  have g:Gr H α (upd H a (.dK ws)) α:=⟨⟨[],by simp⟩,.write e (by exact trivial) _⟩
  obtain ⟨A',_⟩:=A.put (o:=.dK ws) (u:=.dic kws) ea (Js h) rfl rfl e (by exact trivial) ⟨ws,upd_same,(r.mono g).1,(r.mono g).2⟩
  exact ⟨g,A'⟩
section
variable {X:Cx}{o i value:Expr}{pos pos':Pos}{fo fi fv:FE}
noncomputable def Abq:FE:=fun _ L=>some (.ref L.length,L++[.dic []])
theorem Aef:PEF X (.Dict [] [] pos) Abq:=by
  refine PE.imp Ab6 ?_
  rintro σ H Q ⟨α,δ,L,A,S,z,L3,e,q⟩
  cases e
  intro p hp
  have g:Gr H α (upd H p (.dK [])) (α ++ [p]):=⟨⟨[p],rfl⟩,.new hp _⟩
  obtain ⟨A',_⟩:=A.new (o:=.dK []) (u:=.dic []) hp ⟨[],upd_same,rfl,.nil⟩
  refine q _ _ _ g A' ?_
  unfold RepU
  exact ⟨p,by rw[← A.len];simp,rfl⟩
noncomputable def Abr(fo fi fv:FE):FS:=fun δ L=>(fv δ L).bind fun p=>(fo δ p.2).bind fun q=>(fi δ q.2).bind fun r=>match q.1 with
  | .ref n=>(toK r.1).bind fun k=>(Fs r.2 n).bind fun kvs=>if kvs.length < 1000000 then some (.nx δ,r.2.set n (.dic (Adh kvs k p.1))) else none
  | _=>none
theorem Adf(hu:X.A.units+64 < cLine)(ho:PEF X o fo)(hi:PEF X i fi)(hv:PEF X value fv)(hs:swapsWith value (some (.Subscript o i pos')) pos.line X.env=pure false:=by rfl):PSF X (.Assign [.Subscript o i pos'] value pos) (Abr fo fi fv):=by
  refine PS.imp (Agq (by omega) ho hi hv hs) ?_
  rintro D σ H ⟨α,δ,L,A,S,fl,L',e,q⟩
  obtain ⟨⟨v,L1⟩,e1,e⟩:=Option.bind_eq_some_iff.mp e
  obtain ⟨⟨u,L2⟩,e2,e⟩:=Option.bind_eq_some_iff.mp e
  obtain ⟨⟨w,L3⟩,e3,e⟩:=Option.bind_eq_some_iff.mp e
  refine ⟨α,δ,L,A,S,v,L1,e1,fun xv H1 α1 g1 A1 rv=>⟨α1,δ,L1,A1,S.mono g1,u,L2,e2,fun x H2 α2 g2 A2 rx=>⟨α2,δ,L2,A2,(S.mono g1).mono g2,w,L3,e3,fun y H3 α3 g3 A3 ry=>?_⟩⟩⟩
  simp only at e
  split at e
  · obtain ⟨k,hk,e⟩:=Option.bind_eq_some_iff.mp e
    obtain ⟨kvs,hd,e⟩:=Option.bind_eq_some_iff.mp e
    split at e
    · rename_i hl
      cases e
      obtain ⟨a,vs,rfl,ea,ha,rk⟩:=Sj A3 hd (rx.mono g3)
      have rv':=rv.mono (g2.trans g3)
      obtain ⟨g4,A4⟩:=A3.setD hd ea ha (rk.put (k:=k) rv')
      refine ⟨a,_,rfl,?_,q σ _ α3 ((g1.trans (g2.trans g3)).trans g4) A4 ((((S.mono g1).mono g2).mono g3).mono g4)⟩
      rw[Sm ry hk]
      exact DPut.k ha (by rw[← rk.len];unfold sizeLine;omega)
    · cases e
  · cases e
end
theorem Am2{β:Type}{P:List β→Prop}(h:P [])(us:List β)(hl:us.length=0):P us:=by
  cases us with
  | nil=>exact h
  | cons=>cases hl
theorem Ajx{β:Type}{n:Nat}{P:List β→Prop}(h:∀ (a:β) (us:List β),us.length=n→P (a::us))(us:List β)(hl:us.length=n+1):P us:=by
  cases us with
  | nil=>cases hl
  | cons a us=>exact h a us (Nat.succ.inj hl)
theorem Mi{β:Type}{P:List β→Prop}(h:∀ a,P [a]):∀ us:List β,us.length=1→P us:=Ajx fun a=>Am2 (h a)
theorem X9{β:Type}{P:List β→Prop}(h:∀ a b,P [a,b]):∀ us:List β,us.length=2→P us:=Ajx fun a=>Mi (h a)
theorem Aj2{β:Type}{P:List β→Prop}(h:∀ a b c,P [a,b,c]):∀ us:List β,us.length=3→P us:=Ajx fun a=>X9 (h a)
section
variable {X:Cx}{elts:List Expr}{x1:Nat}{tpos:Pos}
end
end MR
namespace MR
open PySem L2
@[simp] theorem fVar_eq(i:Nat)(δ:UE)(L:UH):Ad i δ L=(δ[i]?).join.map fun u=>(u,L):=rfl
@[simp] theorem fC_eq(u:U)(δ:UE)(L:UH):fC u δ L=some (u,L):=rfl
@[simp] theorem f2_eq(s:S2)(a b:FE)(δ:UE)(L:UH):f2 s a b δ L=(a δ L).bind fun p=>(b δ p.2).bind fun q=>s p.1 q.1 q.2:=rfl
@[simp] theorem G2(f:FE)(δ:UE)(L:UH):Bx f δ L=(f δ L).bind fun p=>match p.1 with | .bl k=>some (k,p.2) | _=>none:=rfl
@[simp] theorem Amf(f g:FT)(δ:UE)(L:UH):Ah7 f g δ L=(f δ L).bind fun p=>if p.1=true then g δ p.2 else some (false,p.2):=rfl
@[simp] theorem Ro(f g:FT)(δ:UE)(L:UH):fOr f g δ L=(f δ L).bind fun p=>if p.1=true then some (true,p.2) else g δ p.2:=rfl
@[simp] theorem fNot_eq(f:FT)(δ:UE)(L:UH):N8 f δ L=(f δ L).map fun p=>(!p.1,p.2):=rfl
@[simp] theorem K1(f g:FE)(δ:UE)(L:UH):Lv f g δ L=(f δ L).bind fun p=>match p.1 with | .bl k=>if k=true then g δ p.2 else some (.bl false,p.2) | _=>none:=rfl
@[simp] theorem Ami(f g:FE)(δ:UE)(L:UH):Ams f g δ L=(f δ L).bind fun p=>match p.1 with | .bl k=>if k=true then some (.bl true,p.2) else g δ p.2 | _=>none:=rfl
@[simp] theorem Al1(f:FE)(δ:UE)(L:UH):Ac8 f δ L=(f δ L).bind fun p=>match p.1 with | .bl k=>some (.bl (!k),p.2) | _=>none:=rfl
@[simp] theorem fIf_eq(c:FT)(f g:FE)(δ:UE)(L:UH):fIf c f g δ L=(c δ L).bind fun p=>if p.1=true then f δ p.2 else g δ p.2:=rfl
@[simp] theorem fNil_eq(δ:UE)(L:UH):Ag δ L=some ([],L):=rfl
@[simp] theorem fCons_eq(f:FE)(g:FA)(δ:UE)(L:UH):Ac f g δ L=(f δ L).bind fun p=>(g δ p.2).map fun q=>(p.1::q.1,q.2):=rfl
@[simp] theorem Afh(g:FA)(δ:UE)(L:UH):Vc g δ L=(g δ L).bind fun p=>if small p.1.length=true then some (.tup p.1,p.2) else none:=rfl
@[simp] theorem fLst_eq(g:FA)(δ:UE)(L:UH):C2 g δ L=(g δ L).bind fun p=>if small p.1.length=true then some (.ref p.2.length,p.2++[.lst p.1]) else none:=rfl
@[simp] theorem fCall_eq(s:SC)(g:FA)(δ:UE)(L:UH):Ax s g δ L=(g δ L).bind fun p=>s p.1 p.2:=rfl
@[simp] theorem fOwn_eq(n:Nat)(F:FN)(g:FA)(δ:UE)(L:UH):A9 n F g δ L=(g δ L).bind fun p=>if p.1.length=n then F p.1 p.2 else none:=rfl
@[simp] theorem fMeth_eq(T:String)(s:SM)(f:FE)(g:FA)(δ:UE)(L:UH):Gk T s f g δ L=(f δ L).bind fun p=>if tyU T p.1 p.2=true then (g δ p.2).bind fun q=>s p.1 q.1 q.2 else none:=rfl
@[simp] theorem Ud(f:FE)(δ:UE)(L:UH):Jl f δ L=(f δ L).bind fun p=>match p.1 with | .int i=>some (some i,p.2) | _=>none:=rfl
@[simp] theorem Ahz(δ:UE)(L:UH):Mv δ L=some (none,L):=rfl
@[simp] theorem Aa1(s:SS)(f:FE)(l h:FO)(δ:UE)(L:UH):fSl s f l h δ L=(f δ L).bind fun p=>(l δ p.2).bind fun q=>(h δ q.2).bind fun r=>s p.1 q.1 r.1 r.2:=rfl
@[simp] theorem fNeg_eq(f:FE)(δ:UE)(L:UH):Dy f δ L=(f δ L).bind fun p=>match p.1 with | .int i=>some (.int (-i),p.2) | _=>none:=rfl
@[simp] theorem fTru_eq(f:FE)(δ:UE)(L:UH):Lk f δ L=(f δ L).bind fun p=>(Aaw p.1 p.2).map fun k=>(k,p.2):=rfl
@[simp] theorem fIsi_eq(c:String)(f:FE)(δ:UE)(L:UH):Acq c f δ L=(f δ L).bind fun p=>(Nm p.1 p.2).map fun t=>(.bl (isT t c),p.2):=rfl
@[simp] theorem Alo(δ:UE)(L:UH):Dr δ L=some (.nx δ,L):=rfl
@[simp] theorem Afw(f g:FS)(δ:UE)(L:UH):Bf f g δ L=(f δ L).bind fun p=>match p.1 with | .nx δ'=>g δ' p.2 | fl=>some (fl,p.2):=rfl
@[simp] theorem fRet_eq(f:FE)(δ:UE)(L:UH):C8 f δ L=(f δ L).map fun p=>(.rt p.1,p.2):=rfl
@[simp] theorem Ee(f:FE)(δ:UE)(L:UH):Et f δ L=(f δ L).map fun p=>(.nx δ,p.2):=rfl
@[simp] theorem Amb(δ:UE)(L:UH):Akk δ L=some (.rt .non,L):=rfl
@[simp] theorem Rt(c:FT)(f g:FS)(δ:UE)(L:UH):G0 c f g δ L=(c δ L).bind fun p=>if p.1=true then f δ p.2 else g δ p.2:=rfl
@[simp] theorem gN_eq(i:Nat)(u:U)(δ:UE)(L:UH):gN i u δ L=some (δ.set i (some u),L):=rfl
@[simp] theorem Amk(δ:UE)(L:UH):MR.gNil [] δ L=some (δ,L):=rfl
@[simp] theorem Ak4(f:FG)(g:FGs)(u:U)(r:List U)(δ:UE)(L:UH):MR.gCons f g (u::r) δ L=(f u δ L).bind fun p=>g r p.1 p.2:=rfl
@[simp] theorem Ame(n:Nat)(g:FGs)(us:List U)(δ:UE)(L:UH):MR.gTup n g (.tup us) δ L=if us.length=n then g us δ L else none:=rfl
@[simp] theorem Amh(a b:FE)(v:U)(δ:UE)(L:UH):MR.gSub a b v δ L=(a δ L).bind fun p=>(b δ p.2).bind fun q=>match p.1,q.1 with
  | .ref n,.int k=>(Dq q.2 n).bind fun l=>(ixN l.length k).map fun j=>(δ,q.2.set n (.lst (l.set j v)))
  | _,_=>none:=rfl
@[simp] theorem Cj(f:FE)(g:FG)(δ:UE)(L:UH):Az f g δ L=(f δ L).bind fun p=>(g p.1 δ p.2).map fun q=>(.nx q.1,q.2):=rfl
@[simp] theorem Rf(fi:FI)(g:FG)(b:FS)(δ:UE)(L:UH):Dx fi g b δ L=(fi δ L).bind fun p=>K9 p.1 g b (p.1.size p.2+1) 0 δ p.2:=rfl
@[simp] theorem Abz(f:FE)(δ:UE)(L:UH):Dm f δ L=(f δ L).bind fun p=>(Nw p.1 p.2).map fun i=>(i,p.2):=rfl
@[simp] theorem Ad8(g:FA)(δ:UE)(L:UH):C3 g δ L=(g δ L).bind fun p=>match p.1 with
  | [.int j]=>if -(2 ^ 62)≤j∧j < 2 ^ 62 then some (.seq (Ay 0 j.toNat),p.2) else none
  | _=>none:=rfl
@[simp] theorem semAdd_int(i j:Int)(L:UH):Ao (.int i) (.int j) L=some (.int (i+j),L):=rfl
@[simp] theorem semSub_int(i j:Int)(L:UH):A7 (.int i) (.int j) L=some (.int (i - j),L):=rfl
@[simp] theorem Ail(i j:Int)(L:UH):Ig (.int i) (.int j) L=if Hm i j=true then some (.int (i * j),L) else none:=rfl
@[simp] theorem semDiv_int(i j:Int)(L:UH):Hx (.int i) (.int j) L=if Po i j=true then some (.int (i / j),L) else none:=rfl
@[simp] theorem Aid(i j:Int)(L:UH):Ha (.int i) (.int j) L=if decide (0 < j)=true then some (.int (i % j),L) else none:=rfl
@[simp] theorem Ajh(i j:Int)(L:UH):O2 (.int i) (.int j) L=if P8 i j=true then some (.int (i ^ j.toNat),L) else none:=rfl
@[simp] theorem Aj8(i j:Int)(L:UH):Wm (.int i) (.int j) L=some (.bl (decide (i≤j)),L):=rfl
@[simp] theorem Aj9(i j:Int)(L:UH):Eh (.int i) (.int j) L=some (.bl (decide (i < j)),L):=rfl
@[simp] theorem Aj7(i j:Int)(L:UH):T6 (.int i) (.int j) L=some (.bl (decide (j < i)),L):=rfl
@[simp] theorem Aj5(i j:Int)(L:UH):Kh (.int i) (.int j) L=some (.bl (decide (j≤i)),L):=rfl
@[simp] theorem Qk(i j:Int)(L:UH):Dk (.int i) (.int j) L=some (.bl (i == j),L):=rfl
@[simp] theorem Aj6(i j:Int)(L:UH):Ip (.int i) (.int j) L=some (.bl (!(i == j)),L):=rfl
@[simp] theorem Akm(i j:Bool)(L:UH):Dk (.bl i) (.bl j) L=some (.bl (i == j),L):=rfl
@[simp] theorem Ak0(i j:Bool)(L:UH):Ip (.bl i) (.bl j) L=some (.bl (!(i == j)),L):=rfl
@[simp] theorem Akb(i j:Bool)(L:UH):Al4 false (.bl i) (.bl j) L=some (.bl (i == j),L):=rfl
@[simp] theorem Aaj(l:List U)(i:Int)(L:UH):Ap (.tup l) (.int i) L=(L2.atI l i).map fun z=>(z,L):=rfl
@[simp] theorem semIx_ref(n:Nat)(i:Int)(L:UH):Ap (.ref n) (.int i) L=(Am L n).bind fun l=>(L2.atI l i).map fun z=>(z,L):=rfl
@[simp] theorem truU_bl(b:Bool)(L:UH):Aaw (.bl b) L=some b:=rfl
theorem An{L:UH}{n:Nat}{us:List U}(h:L[n]? = some (.lst us)):Am L n=some us:=by unfold Am;rw[h]
theorem D0{L:UH}{n:Nat}{us:List U}(h:L[n]? = some (.lst us)):Dq L n=some us:=by unfold Dq;rw[h]
theorem Ce{n:Nat}(h:n≤16777216):small n=true:=by unfold small sizeLine;exact decide_eq_true (by omega)
theorem J6{β:Type}{l:List β}{i:Int}(h0:0≤i)(h:i < l.length):L2.atI l i=l[i.toNat]?:=by
  unfold L2.atI ixN
  rw[if_pos h0,if_pos h];rfl
theorem Mu{i j:Int}(h1:-1000000000000000000≤i)(h2:i≤1000000000000000000):Hm i j=true:=by
  unfold Hm;simp only[Bool.or_eq_true,Bool.and_eq_true,decide_eq_true_eq];left;constructor <;> omega
theorem Afg{i j:Int}(h1:-1000000000000000000≤j)(h2:j≤1000000000000000000):Hm i j=true:=by
  unfold Hm;simp only[Bool.or_eq_true,Bool.and_eq_true,decide_eq_true_eq];right;constructor <;> omega
theorem Ko{i j:Int}(h1:0 < j)(h2:j < 1152921504606846976):Po i j=true:=by
  unfold Po;simp only[Bool.and_eq_true,decide_eq_true_eq];exact ⟨h1,h2⟩
end MR
namespace Lw
open PySem L2 MR
noncomputable def Tu:FS:=(C8 (C2 (Ac (fSl semSl (Ad 0) Mv (Jl (fC (.int 63)))) (Ac (fC (.int 0)) (Ac (fC (.int 0)) (Ac (fC (.int 0)) (Ac (Ax semSum (Ac (fSl semSl (Ad 0) Mv (Jl (fC (.int 63)))) Ag)) Ag)))))))
noncomputable def Hv:FN:=fnU 1 1 Tu
noncomputable def Wn:FS:=(Bf (Az (f2 Ao (f2 Ha (Ad 0) (fC (.int 2147483629))) (f2 Ig (f2 Ig (fC (.int 1000003)) (Ad 1)) (Ad 1))) (gN 2)) (Bf (Az (f2 Ha (f2 Ao (Ad 2) (f2 Ig (fC (.int 7919)) (Ad 1))) (fC (.int 2147483629))) (gN 2)) (Bf (Az (f2 Ha (f2 Ig (Ad 2) (Ad 2)) (fC (.int 2147483587))) (gN 2)) (C8 (f2 Hx (f2 Ha (f2 Ig (Ad 2) (f2 Ao (Ad 2) (fC (.int 40961)))) (fC (.int 2147483563))) (fC (.int 4)))))))
noncomputable def J8:FN:=fnU 3 2 Wn
noncomputable def Ik:FS:=(Bf (G0 (Ah7 (Bx (f2 Dk (f2 Ap (Ad 0) (fC (.int 2))) (fC (.int 0)))) (Bx (f2 Eh (f2 Ap (Ad 0) (fC (.int 1))) (Ax Au (Ac (f2 Ap (Ad 0) (fC (.int 0))) Ag))))) (Bf (Az (f2 Ap (f2 Ap (Ad 0) (fC (.int 0))) (f2 Ap (Ad 0) (fC (.int 1)))) (gN 2)) (Bf (Az (f2 Ao (f2 Ap (Ad 0) (fC (.int 1))) (fC (.int 1))) (MR.gSub (Ad 0) (fC (.int 1)))) (Bf (G0 (Bx (f2 Eh (Ad 2) (f2 O2 (fC (.int 10)) (fC (.int 18))))) (C8 (f2 Ha (A9 2 J8 (Ac (Ad 2) (Ac (f2 Ap (Ad 0) (fC (.int 1))) Ag))) (Ad 1))) Dr) (Az (Ad 2) (MR.gSub (Ad 0) (fC (.int 2))))))) Dr) (Bf (G0 (Bx (f2 T6 (f2 Ap (Ad 0) (fC (.int 2))) (fC (.int 0)))) (Bf (Az (f2 Ha (f2 Ap (Ad 0) (fC (.int 2))) (Ad 1)) (gN 3)) (Bf (Az (f2 Hx (f2 Ap (Ad 0) (fC (.int 2))) (Ad 1)) (MR.gSub (Ad 0) (fC (.int 2)))) (C8 (Ad 3)))) Dr) (Bf (Az (f2 Ao (f2 Ap (Ad 0) (fC (.int 3))) (fC (.int 1))) (MR.gSub (Ad 0) (fC (.int 3)))) (C8 (f2 Ha (A9 2 J8 (Ac (f2 Ap (Ad 0) (fC (.int 4))) (Ac (f2 Ao (f2 Ap (Ad 0) (fC (.int 3))) (fC (.int 683))) Ag))) (Ad 1))))))
noncomputable def A0:FN:=fnU 4 2 Ik
structure Ex(d:Nat)(L L':UH):Prop where
  le:L.length≤L'.length
  at_:∀ i,i < L.length→i≠d→L'[i]? = L[i]?
theorem Ex.refl(d:Nat)(L:UH):Ex d L L:=⟨Nat.le_refl _,fun _ _ _=>rfl⟩
theorem Ex.trans{d:Nat}{L L1 L2:UH}(a:Ex d L L1)(b:Ex d L1 L2):Ex d L L2:=
  ⟨Nat.le_trans a.le b.le,fun i h1 h2=>by rw[b.at_ i (Nat.lt_of_lt_of_le h1 a.le) h2,a.at_ i h1 h2]⟩
theorem Ex.new(d:Nat)(L:UH)(x:List HU):Ex d L (L++x):=⟨by simp,fun i h _=>by rw[List.getElem?_append_left h]⟩
theorem Ex.put(d:Nat)(L:UH)(o:HU):Ex d L (L.set d o):=⟨by simp,fun i _ h=>by rw[List.getElem?_set_ne (Ne.symm h)]⟩
structure Deck(L:UH)(d:Nat)(B:Int):Prop where
  ex:∃ (sn:Nat) (cells:List Int) (a b c e:Int),L[d]? = some (.lst [.ref sn,.int a,.int b,.int c,.int e])∧L[sn]? = some (.lst (cells.map U.int))∧sn < d∧cells.length≤63∧0≤a∧a≤cells.length∧0≤b∧0≤c∧c≤B
theorem Deck.lt{L:UH}{d:Nat}{B:Int}(h:Deck L d B):d < L.length:=by
  obtain ⟨sn,cells,a,b,c,e,h1,_⟩:=h.ex
  exact (List.getElem?_eq_some_iff.mp h1).1
theorem Deck.mono{L:UH}{d:Nat}{B B':Int}(h:Deck L d B)(hb:B≤B'):Deck L d B':=by
  obtain ⟨sn,cells,a,b,c,e,h1,h2,h3,h4,h5,h6,h7,h8,h9⟩:=h.ex
  exact ⟨sn,cells,a,b,c,e,h1,h2,h3,h4,h5,h6,h7,h8,by omega⟩
theorem Deck.new{L:UH}{d:Nat}{B:Int}(h:Deck L d B)(x:List HU):Deck (L++x) d B:=by
  obtain ⟨sn,cells,a,b,c,e,h1,h2,h3⟩:=h.ex
  exact ⟨sn,cells,a,b,c,e,by rw[List.getElem?_append_left (List.getElem?_eq_some_iff.mp h1).1];exact h1,by rw[List.getElem?_append_left (List.getElem?_eq_some_iff.mp h2).1];exact h2,h3⟩
theorem Deck.set{L:UH}{d:Nat}{B:Int}(h:Deck L d B){n:Nat}(hn:d < n)(o:HU):Deck (L.set n o) d B:=by
  obtain ⟨sn,cells,a,b,c,e,h1,h2,h3,h4⟩:=h.ex
  exact ⟨sn,cells,a,b,c,e,by rw[List.getElem?_set_ne (by omega)];exact h1,by rw[List.getElem?_set_ne (by omega)];exact h2,h3,h4⟩
theorem Ex.set{d:Nat}{L L':UH}(h:Ex d L L'){n:Nat}(hn:L.length≤n)(o:HU):Ex d L (L'.set n o):=
  ⟨by rw[List.length_set];exact h.le,fun i h1 h2=>by rw[List.getElem?_set_ne (by omega)];exact h.at_ i h1 h2⟩
theorem Ex.get{d:Nat}{L L':UH}{i:Nat}{o:HU}(h:Ex d L L')(e:L[i]? = some o)(hi:i≠d):L'[i]? = some o:=by
  rw[h.at_ i (List.getElem?_eq_some_iff.mp e).1 hi];exact e
theorem Ac0(c k:Int)(L:UH)(h0:0≤k)(h1:k≤1000000000000000000):∃ r,J8 [.int c,.int k] L=some (.int r,L)∧0≤r:=by
  have e1:∀ x:Int,0≤x % 2147483629∧x % 2147483629 < 2147483629:=fun x=>⟨Int.emod_nonneg _ (by decide),Int.emod_lt_of_pos _ (by decide)⟩
  have e2:∀ x:Int,0≤x % 2147483587∧x % 2147483587 < 2147483587:=fun x=>⟨Int.emod_nonneg _ (by decide),Int.emod_lt_of_pos _ (by decide)⟩
  have e3:∀ x:Int,0≤x % 2147483563∧x % 2147483563 < 2147483563:=fun x=>⟨Int.emod_nonneg _ (by decide),Int.emod_lt_of_pos _ (by decide)⟩
  generalize hA:(c % 2147483629+1000003 * k * k+7919 * k) % 2147483629=A
  have hA':=e1 (c % 2147483629+1000003 * k * k+7919 * k)
  rw[hA] at hA'
  generalize hB:A * A % 2147483587=Bn
  have hB':=e2 (A * A)
  rw[hB] at hB'
  refine ⟨(Bn * (Bn+40961) % 2147483563) / 4,?_,Int.ediv_nonneg (e3 _).1 (by decide)⟩
  have m1:Hm 1000003 k=true:=Mu (by decide) (by decide)
  have m2:Hm (1000003 * k) k=true:=Afg (by omega) (by omega)
  have m3:Hm 7919 k=true:=Mu (by decide) (by decide)
  have m4:Hm A A=true:=Mu (by omega) (by omega)
  have m5:Hm Bn (Bn+40961)=true:=Mu (by omega) (by omega)
  have d1:∀ x:Int,Po x 4=true:=fun x=>Ko (by decide) (by decide)
  simp[J8,fnU,Wn,m1,m2,m3,hA,m4,hB,m5,d1]
theorem Agi{L:UH}{d:Nat}{B many:Int}(D:Deck L d B)(hB:B≤100000000000000000)(h0:0 < many)(h1:many < 1073741824) :
    ∃ r L',A0 [.ref d,.int many] L=some (.int r,L')∧0≤r∧r < many∧Deck L' d (B+1)∧Ex d L L':=by
  obtain ⟨sn,cells,a,b,c,e,hd,hs,hlt0,hl,ha0,ha1,hb0,hc0,hc1⟩:=D.ex
  have hne:sn≠d:=Nat.ne_of_lt hlt0
  have hdl:d < L.length:=(List.getElem?_eq_some_iff.mp hd).1
  have q1:=An hd
  have q2:=D0 hd
  have q3:=An hs
  have md:∀ x:Int,0≤x % many∧x % many < many:=fun x=>⟨Int.emod_nonneg _ (by omega),Int.emod_lt_of_pos _ h0⟩
  have i0:∀ (x0 x1 x2 x3 x4:U),L2.atI [x0,x1,x2,x3,x4] 0=some x0:=fun _ _ _ _ _=>rfl
  have i1:∀ (x0 x1 x2 x3 x4:U),L2.atI [x0,x1,x2,x3,x4] 1=some x1:=fun _ _ _ _ _=>rfl
  have i2:∀ (x0 x1 x2 x3 x4:U),L2.atI [x0,x1,x2,x3,x4] 2=some x2:=fun _ _ _ _ _=>rfl
  have i3:∀ (x0 x1 x2 x3 x4:U),L2.atI [x0,x1,x2,x3,x4] 3=some x3:=fun _ _ _ _ _=>rfl
  have i4:∀ (x0 x1 x2 x3 x4:U),L2.atI [x0,x1,x2,x3,x4] 4=some x4:=fun _ _ _ _ _=>rfl
  have j1:ixN 5 1=some 1:=rfl
  have j2:ixN 5 2=some 2:=rfl
  have j3:ixN 5 3=some 3:=rfl
  have set1:∀ (o:HU) (us:List U),o = .lst us→Am (L.set d o) d=some us∧Dq (L.set d o) d=some us:=fun o us ho=>by
    have:(L.set d o)[d]? = some (.lst us):=by rw[List.getElem?_set_self hdl,ho]
    exact ⟨An this,D0 this⟩
  have keep:∀ (x1 x2 x3:Int) (o:HU),o = .lst [.ref sn,.int x1,.int x2,.int x3,.int e]→0≤x1→x1≤cells.length→0≤x2→0≤x3→x3≤B+1→Deck (L.set d o) d (B+1)∧Ex d L (L.set d o):=fun x1 x2 x3 o ho g1 g2 g3 g4 g5=>
    ⟨⟨sn,cells,x1,x2,x3,e,by rw[List.getElem?_set_self hdl,ho],by rw[List.getElem?_set_ne (Ne.symm hne)];exact hs,hlt0,hl,g1,g2,g3,g4,g5⟩,Ex.put d L o⟩
  have seto:∀ (o:HU) (i:Nat),i≠d→Am (L.set d o) i=Am L i:=fun o i hi=>by
    unfold Am;rw[List.getElem?_set_ne (Ne.symm hi)]
  have lens:Au [.ref sn] L=some (.int cells.length,L):=by simp[Au,lenU,q3]
  by_cases hb:b=0
  · subst hb
    by_cases hal:a < cells.length
    · have hat:L2.atI (cells.map U.int) a=some (.int (cells[a.toNat]'(by omega))):=by
        rw[J6 ha0 (by simpa using hal),List.getElem?_map,List.getElem?_eq_getElem (by omega)];rfl
      generalize hcell:cells[a.toNat]'(by omega)=cell at hat
      have s1:=set1 (.lst [.ref sn,.int (a+1),.int 0,.int c,.int e]) _ rfl
      by_cases hc:cell < 1000000000000000000
      · obtain ⟨r,er,hr⟩:=Ac0 cell (a+1) (L.set d (.lst [.ref sn,.int (a+1),.int 0,.int c,.int e])) (by omega) (by omega)
        have hk:=keep (a+1) 0 c _ rfl (by omega) (by omega) (by omega) hc0 (by omega)
        refine ⟨r % many,_,?_,(md r).1,(md r).2,hk.1,hk.2⟩
        simp[A0,fnU,Ik,q1,q2,i0,i1,i2,i3,i4,lens,hal,q3,hat,j1,s1,hc,er,h0,show P8 10 18=true from rfl]
      · have s2:=set1 (.lst [.ref sn,.int (a+1),.int cell,.int c,.int e]) _ rfl
        have hcp:0 < cell:=by omega
        have hk:=keep (a+1) (cell / many) c _ rfl (by omega) (by omega) (Int.ediv_nonneg (by omega) (by omega)) hc0 (by omega)
        refine ⟨cell % many,_,?_,(md cell).1,(md cell).2,hk.1,hk.2⟩
        simp[A0,fnU,Ik,q1,q2,i0,i1,i2,i3,i4,lens,hal,q3,hat,j1,j2,s1,hc,h0,show P8 10 18=true from rfl,s2,hcp,Ko h0 (Int.lt_trans h1 (by decide))]
    · have hk:=keep a 0 (c+1) _ rfl ha0 ha1 (by omega) (by omega) (by omega)
      have s1:=set1 (.lst [.ref sn,.int a,.int 0,.int (c+1),.int e]) _ rfl
      obtain ⟨r,er,hr⟩:=Ac0 e (c+1+683) (L.set d (.lst [.ref sn,.int a,.int 0,.int (c+1),.int e])) (by omega) (by omega)
      refine ⟨r % many,_,?_,(md r).1,(md r).2,hk.1,hk.2⟩
      simp[A0,fnU,Ik,q1,q2,i0,i1,i2,i3,i4,lens,hal,q3,j3,s1,h0,er]
  · have hb':0 < b:=by omega
    have hk:=keep a (b / many) c _ rfl ha0 ha1 (Int.ediv_nonneg (by omega) (by omega)) hc0 (by omega)
    refine ⟨b % many,_,?_,(md b).1,(md b).2,hk.1,hk.2⟩
    simp[A0,fnU,Ik,q1,q2,i0,i1,i2,i3,i4,hb,hb',j2,h0,Ko h0 (Int.lt_trans h1 (by decide))]
theorem Deck.start(ns:List Int)(L:UH)(n:Nat)(hn:L[n]? = some (.ro (ns.map U.int)))(hl:ns.length≤63):∃ d L',Hv [.ref n] L=some (.ref d,L')∧Deck L' d 0∧L.length≤d∧(∀ i,i < L.length→L'[i]? = L[i]?):=by
  have hq:Am L n=some (ns.map U.int):=by unfold Am;rw[hn]
  have hcut:Vy (ns.map U.int) none (some 63)=ns.map U.int:=by
    unfold Vy HT.sIx
    simp only[List.length_map,List.drop_zero]
    rw[if_neg (by decide)]
    exact List.take_of_length_le (by simp;omega)
  have hI:∀ l:List Int,mapO toI (l.map U.int)=some l:=by
    intro l
    induction l with
    | nil=>rfl
    | cons a r ih=>simp[mapO,toI,ih]
  have hlt:n < L.length:=(List.getElem?_eq_some_iff.mp hn).1
  refine ⟨L.length+2,L++[.lst (ns.map U.int)]++[.lst (ns.map U.int)]++[.lst [.ref L.length,.int 0,.int 0,.int 0,.int ns.sum]],?_,⟨L.length,ns,0,0,0,ns.sum,by simp,by simp[List.getElem?_append],by omega,hl,by omega,by omega,by omega,by omega,by omega⟩,by omega,fun i hi=>by rw[List.append_assoc,List.append_assoc,List.getElem?_append_left hi]⟩
  have hq2:Am (L++[HU.lst (ns.map U.int)]) n=some (ns.map U.int):=by unfold Am;rw[List.getElem?_append_left hlt,hn]
  have hq3:Am (L++[HU.lst (ns.map U.int),HU.lst (ns.map U.int)]) (L.length+1)=some (ns.map U.int):=by unfold Am;rw[List.getElem?_append_right (by omega)];simp
  simp[Hv,fnU,Tu,semSl,hq,hcut,hq2,semSum,hq3,hI,Ce]
end Lw
namespace MR
open PySem L2
noncomputable def Wd(g:FG)(body:FS)(u:U)(δ:UE)(L:UH)(R:UE→UH→Prop):Prop:=∃ δ1 L1,g u δ L=some (δ1,L1)∧∃ δ2 L2,(body δ1 L1=some (.nx δ2,L2)∨body δ1 L1=some (.ct δ2,L2))∧R δ2 L2
theorem K4{it:IU}{g:FG}{body:FS}{us:List U}(P:Nat→UE→UH→Prop)(hat:∀ k δ L,k≤us.length→P k δ L→it.at k L=some us[k]?)
    (step:∀ k u δ L,us[k]? = some u→P k δ L→Wd g body u δ L (P (k+1))) :
    ∀ (m k:Nat) (δ:UE) (L:UH),us.length < m+k→k≤us.length→P k δ L→∃ δ' L',K9 it g body m k δ L=some (.nx δ',L')∧P us.length δ' L'
  | 0,k,δ,L,h1,h2,_=>by omega
  | m+1,k,δ,L,h1,h2,hP=>by
    have hk:=hat k δ L h2 hP
    unfold K9
    rw[hk]
    cases hu:us[k]? with
    | none=>
      have:k=us.length:=by have:=List.getElem?_eq_none_iff.mp hu;omega
      subst this
      exact ⟨δ,L,rfl,hP⟩
    | some u=>
      have hlt:k < us.length:=(List.getElem?_eq_some_iff.mp hu).1
      obtain ⟨δ1,L1,e1,δ2,L2,e2,hP2⟩:=step k u δ L hu hP
      obtain ⟨δ',L',e3,hP3⟩:=K4 P hat step m (k+1) δ2 L2 (by omega) (by omega) hP2
      refine ⟨δ',L',?_,hP3⟩
      rcases e2 with e2 | e2
      · simp only[e1,Option.bind_some,e2,e3]
      · simp only[e1,Option.bind_some,e2,e3]
theorem Dd{fi:FI}{g:FG}{body:FS}{us:List U}{δ:UE}{L L0:UH}(P:Nat→UE→UH→Prop)(hi:fi δ L=some (.seq us,L0))(h0:P 0 δ L0)(step:∀ k u δ L,us[k]? = some u→P k δ L→Wd g body u δ L (P (k+1))) :
    ∃ δ' L',Dx fi g body δ L=some (.nx δ',L')∧P us.length δ' L':=by
  obtain ⟨δ',L',e,h⟩:=K4 (it:=.seq us) (g:=g) (body:=body) (us:=us) P (fun _ _ _ _ _=>rfl) step (us.length+1) 0 δ L0 (by omega) (by omega) h0
  exact ⟨δ',L',by rw[Rf,hi];exact e,h⟩
theorem Q9{fi:FI}{g:FG}{body:FS}{us:List U}{n:Nat}{δ:UE}{L L0:UH}(P:Nat→UE→UH→Prop)(hi:fi δ L=some (.ref n,L0))(h0:P 0 δ L0)(hl:∀ k δ L,P k δ L→Am L n=some us)(step:∀ k u δ L,us[k]? = some u→P k δ L→Wd g body u δ L (P (k+1))) :
    ∃ δ' L',Dx fi g body δ L=some (.nx δ',L')∧P us.length δ' L':=by
  have hat:∀ k δ L,k≤us.length→P k δ L→(IU.ref n).at k L=some us[k]?:=fun k δ L _ hp=>by
    have:=hl k δ L hp
    unfold Am at this
    unfold IU.at
    simp only
    split at this
    · rename_i e;cases this;first | rw[e] | rfl
    · rename_i e;cases this;first | rw[e] | rfl
    · cases this
  have hsz:(IU.ref n).size L0=us.length:=by
    have:=hl 0 δ L0 h0
    unfold Am at this
    unfold IU.size
    simp only
    split at this
    · rename_i e;cases this;first | rw[e] | rfl
    · rename_i e;cases this;first | rw[e] | rfl
    · cases this
  obtain ⟨δ',L',e,h⟩:=K4 (it:=.ref n) (g:=g) (body:=body) (us:=us) P hat step (us.length+1) 0 δ L0 (by omega) (by omega) h0
  exact ⟨δ',L',by rw[Rf,hi];simp only[Option.bind_some,hsz];exact e,h⟩
theorem Qq{L:UH}{n:Nat}{us:List U}(h:Am L n=some us):Nw (.ref n) L=some (.ref n):=by
  unfold Am at h
  unfold Nw
  simp only
  split at h
  · rename_i e;first | rw[e] | rfl
  · rename_i e;first | rw[e] | rfl
  · cases h
theorem Hg{lo:Int}{n k:Nat}{u:U}(h:(Ay lo n)[k]? = some u):k < n∧u = .int (lo+k):=by
  unfold Ay at h
  rw[List.getElem?_map] at h
  by_cases hk:k < n
  · rw[List.getElem?_range hk] at h
    simp at h
    exact ⟨hk,h.symm⟩
  · rw[List.getElem?_eq_none (by simpa using hk)] at h
    simp at h
theorem G3{lo:Int}{n:Nat}:(Ay lo n).length=n:=by simp[Ay]
@[simp] theorem Akh(g:FA)(δ:UE)(L:UH):Ak5 g δ L=(g δ L).bind fun p=>match p.1 with
  | [.ref n]=>(Am p.2 n).map fun _=>(.enm n,p.2)
  | _=>none:=rfl
@[simp] theorem Amj(g:FA)(δ:UE)(L:UH):Amq g δ L=(g δ L).bind fun p=>match p.1 with
  | [.ref n,.ref m]=>(Am p.2 n).bind fun _=>(Am p.2 m).map fun _=>(.zip2 n m,p.2)
  | _=>none:=rfl
@[simp] theorem Amg(f:FE)(δ:UE)(L:UH):Amv f δ L=(f δ L).bind fun p=>match p.1 with | .ref n=>(Am p.2 n).map fun l=>(.ref p.2.length,p.2++[.lst l.reverse]) | .tup l=>some (.tup l.reverse,p.2) | _=>none:=rfl
@[simp] theorem Abu(g:FA)(δ:UE)(L:UH):Pu g δ L=(g δ L).bind fun p=>match p.1 with
  | [.int i,.int j]=>if (-(2 ^ 62)≤i∧i < 2 ^ 62)∧(-(2 ^ 62)≤j∧j < 2 ^ 62) then some (.seq (Ay i (j - i).toNat),p.2) else none
  | _=>none:=by first | rfl | (unfold Pu;rfl)
theorem Ob{it:IU}{g:FG}{tt:Option FT}{fe:FE}{us:List U}(P:Nat→List U→UE→UH→Prop)(hat:∀ k acc δ L,k≤us.length→P k acc δ L→it.at k L=some us[k]?)
    (step:∀ k u acc δ L,us[k]? = some u→P k acc δ L→∃ δ1 L1,g u δ L=some (δ1,L1)∧∃ b L2,Ke tt δ1 L1=some (b,L2)∧(b=true→∃ r L3,fe δ1 L2=some (r,L3)∧acc.length < 16777216∧P (k+1) (acc++[r]) δ1 L3)∧(b=false→P (k+1) acc δ1 L2)) :
    ∀ (m k:Nat) (acc:List U) (δ:UE) (L:UH),us.length < m+k→k≤us.length→P k acc δ L→∃ ys δ' L',Ol it g tt fe m k acc δ L=some (ys,L')∧P us.length ys δ' L'
  | 0,k,acc,δ,L,h1,h2,_=>by omega
  | m+1,k,acc,δ,L,h1,h2,hP=>by
    have hk:=hat k acc δ L h2 hP
    unfold Ol
    rw[hk]
    cases hu:us[k]? with
    | none=>
      have:k=us.length:=by have:=List.getElem?_eq_none_iff.mp hu;omega
      subst this
      exact ⟨acc,δ,L,rfl,hP⟩
    | some u=>
      have hlt:k < us.length:=(List.getElem?_eq_some_iff.mp hu).1
      obtain ⟨δ1,L1,e1,b,L2,e2,h3,h4⟩:=step k u acc δ L hu hP
      cases b with
      | true=>
        obtain ⟨r,L3,e3,hl,hP2⟩:=h3 rfl
        obtain ⟨ys,δ',L',e4,hP3⟩:=Ob P hat step m (k+1) (acc++[r]) δ1 L3 (by omega) (by omega) hP2
        refine ⟨ys,δ',L',?_,hP3⟩
        have hz:decide (acc.length < sizeLine)=true:=decide_eq_true (by unfold sizeLine;omega)
        simp only[e1,Option.bind_some,e2,e3,if_true,hz,e4]
      | false=>
        obtain ⟨ys,δ',L',e4,hP3⟩:=Ob P hat step m (k+1) acc δ1 L2 (by omega) (by omega) (h4 rfl)
        refine ⟨ys,δ',L',?_,hP3⟩
        simp only[e1,Option.bind_some,e2,e4,Bool.false_eq_true,if_false]
theorem Akx{ix:List (Option Nat)}{fi:FI}{it:IU}{g:FG}{tt:Option FT}{fe:FE}{us:List U}{δ:UE}{L L0:UH}(P:Nat→List U→UE→UH→Prop)(hi:fi δ L=some (it,L0))(hsz:us.length≤it.size L0)(h0:P 0 [] (Jq ix δ) L0)
    (hat:∀ k acc δ L,k≤us.length→P k acc δ L→it.at k L=some us[k]?)
    (step:∀ k u acc δ L,us[k]? = some u→P k acc δ L→∃ δ1 L1,g u δ L=some (δ1,L1)∧∃ b L2,Ke tt δ1 L1=some (b,L2)∧(b=true→∃ r L3,fe δ1 L2=some (r,L3)∧acc.length < 16777216∧P (k+1) (acc++[r]) δ1 L3)∧(b=false→P (k+1) acc δ1 L2)) :
    ∃ ys δ' L',Fe ix fi g tt fe δ L=some (.ref L'.length,L'++[.lst ys])∧P us.length ys δ' L':=by
  obtain ⟨ys,δ',L',e,h⟩:=Ob P hat step (it.size L0+1) 0 [] (Jq ix δ) L0 (by omega) (by omega) h0
  refine ⟨ys,δ',L',?_,h⟩
  unfold Fe
  simp only[hi,Option.bind_some,e,Option.map_some]
theorem Abv{n k:Nat}{L:UH}{us:List U}(h:Am L n=some us):(IU.ref n).at k L=some us[k]?:=by
  unfold Am at h
  unfold IU.at
  simp only
  split at h
  · rename_i e;cases h;first | rw[e] | rfl
  · rename_i e;cases h;first | rw[e] | rfl
  · cases h
theorem Te{n:Nat}{L:UH}{us:List U}(h:Am L n=some us):(IU.ref n).size L=us.length:=by
  unfold Am at h
  unfold IU.size
  simp only
  split at h
  · rename_i e;cases h;first | rw[e] | rfl
  · rename_i e;cases h;first | rw[e] | rfl
  · cases h
theorem Gn{β:Type}{ix:List (Option Nat)}{fi:FI}{it:IU}{g:FG}{tt:Option FT}{fe:FE}{δ:UE}{L L0:UH}(as:List β)(rep:β→U)(f:β→Bool)(e:β→U)(E:UE→Prop)(hi:fi δ L=some (it,L0))(hsz:as.length≤it.size L0)(hl:as.length < 16777216)(h0:E (Jq ix δ))
    (hat:∀ k x,it.at k (L0++x)=some (as.map rep)[k]?)
    (step:∀ (a:β) δ x,a∈as→E δ→∃ δ1,g (rep a) δ (L0++x)=some (δ1,L0++x)∧E δ1∧∃ y,Ke tt δ1 (L0++x)=some (f a,L0++x++y)∧(f a=true→∃ z,fe δ1 (L0++x++y)=some (e a,L0++x++y++z))) :
    ∃ x,Fe ix fi g tt fe δ L=some (.ref (L0++x).length,L0++x++[.lst ((as.filter f).map e)]):=by
  obtain ⟨ys,δ',L',e1,⟨h1,h2,x,rfl⟩,h3⟩:=Akx (us:=as.map rep) (ix:=ix) (tt:=tt) (g:=g) (fe:=fe) (δ:=δ) (fun k acc δ L=>(acc=((as.take k).filter f).map e∧E δ∧∃ x,L=L0++x)∧acc.length≤k) hi (by simpa using hsz) ⟨⟨rfl,h0,[],by simp⟩,by simp⟩
    (fun k acc δ L _ zz=>by obtain ⟨⟨_,_,x,hx⟩,_⟩:=zz;rw[hx];exact hat k x)
    (fun k u acc δ L hu zz=>by
      obtain ⟨⟨ha,hE,x,hx⟩,hlen⟩:=zz
      subst hx
      rw[List.getElem?_map] at hu
      obtain ⟨a,hk,rfl⟩:=Option.map_eq_some_iff.mp hu
      have hk':=(List.getElem?_eq_some_iff.mp hk).1
      obtain ⟨δ1,g1,E1,y,t1,r1⟩:=step a δ x (List.mem_of_getElem? hk) hE
      have ht:as.take (k+1)=as.take k++[a]:=by
        rw[List.take_add_one,hk];rfl
      refine ⟨δ1,_,g1,f a,_,t1,fun hf=>?_,fun hf=>?_⟩
      · obtain ⟨z,q⟩:=r1 hf
        refine ⟨_,_,q,by omega,⟨?_,E1,x++y++z,by simp⟩,by simp;omega⟩
        rw[ha,ht];simp[hf]
      · refine ⟨⟨?_,E1,x++y,by simp⟩,by omega⟩
        rw[ha,ht];simp[hf])
  refine ⟨x,?_⟩
  rw[e1,h1]
  simp
theorem seqAt_app{L x:UH}{n:Nat}{us:List U}(h:Am L n=some us):Am (L++x) n=some us:=by
  unfold Am at h ⊢
  cases hn:L[n]? with
  | none=>rw[hn] at h;cases h
  | some o=>rw[List.getElem?_append_left (List.getElem?_eq_some_iff.mp hn).1,hn];rw[hn] at h;exact h
noncomputable def Pl:Nat→U→Prop
  | _,.non=>True
  | _,.int _=>True
  | _,.str x=>PyData.strOk x=true
  | n+1,.tup l=>∀ u∈l,Pl n u
  | _,_=>False
mutual
noncomputable def pd:U→PyData
  | .non=>.none
  | .bl b=>.bool b
  | .int i=>.int i
  | .str x=>.str x
  | .tup l=>.tuple (pds l)
  | .ref _=>.none
noncomputable def pds:List U→List PyData
  | []=>[]
  | u::r=>pd u::pds r
end
theorem N9{n:Nat}{l:List U}:Pl (n+1) (.tup l)↔∀ u∈l,Pl n u:=by rw[Pl]
theorem Ml{L:UH}{n m:Nat}(ih:∀ u,Pl n u→toP L m u=some (pd u)):∀ l:List U,(∀ u∈l,Pl n u)→mapO (toP L m) l=some (pds l)
  | [],_=>rfl
  | u::r,h=>by
    simp only[mapO,ih u (h u (List.mem_cons_self ..)),Ml ih r (fun x hx=>h x (List.mem_cons_of_mem _ hx)),Option.bind_some,Option.map_some,pds]
theorem M8(L:UH):∀ (n m:Nat) (u:U),n < m→Pl n u→toP L m u=some (pd u)
  | n,0,u,h,_=>by omega
  | n,m+1,.non,_,_=>rfl
  | n,m+1,.int _,_,_=>rfl
  | n,m+1,.str _,_,_=>rfl
  | n,m+1,.bl _,_,h=>by cases n <;> exact absurd h (by simp[Pl])
  | n,m+1,.ref _,_,h=>by cases n <;> exact absurd h (by simp[Pl])
  | 0,m+1,.tup l,_,h=>absurd h (by simp[Pl])
  | n+1,m+1,.tup l,hm,h=>by
    have:=Ml (L:=L) (n:=n) (m:=m) (fun u hu=>M8 L n m u (by omega) hu) l (N9.mp h)
    show (mapO (toP L m) l).map PyData.tuple=_
    rw[this]
    rfl
theorem Mw{n:Nat}(ih:∀ u,Pl n u→PyData.canLay0 (pd u)=true∧PyData.depth (pd u)≤n):∀ l:List U,(∀ u∈l,Pl n u)→PyData.canLayAll0 (pds l)=true∧PyData.depthAll (pds l)≤n
  | [],_=>⟨rfl,Nat.zero_le _⟩
  | u::r,h=>by
    obtain ⟨a1,a2⟩:=ih u (h u (List.mem_cons_self ..))
    obtain ⟨b1,b2⟩:=Mw ih r (fun x hx=>h x (List.mem_cons_of_mem _ hx))
    refine ⟨by simp[pds,PyData.canLayAll0,a1,b1],?_⟩
    simp only[pds,PyData.depthAll]
    omega
theorem Oy:∀ (n:Nat) (u:U),Pl n u→PyData.canLay0 (pd u)=true∧PyData.depth (pd u)≤n
  | n,.non,_=>by simp[pd,PyData.canLay0,PyData.depth]
  | n,.int _,_=>by simp[pd,PyData.canLay0,PyData.depth]
  | n,.str x,h=>by
    have h':PyData.strOk x=true:=by cases n <;> simpa[Pl] using h
    simp[pd,PyData.canLay0,PyData.depth,h']
  | n,.bl _,h=>by cases n <;> exact absurd h (by simp[Pl])
  | n,.ref _,h=>by cases n <;> exact absurd h (by simp[Pl])
  | 0,.tup l,h=>absurd h (by simp[Pl])
  | n+1,.tup l,h=>by
    obtain ⟨a,b⟩:=Mw (fun u hu=>Oy n u hu) l (N9.mp h)
    simp only[pd,PyData.canLay0,PyData.depth]
    exact ⟨a,by omega⟩
theorem Ju{n:Nat}(ih:∀ u w,Pl n u→Pl n w→(PyData.eqv (pd u) (pd w)=true↔u=w)):∀ l m:List U,(∀ u∈l,Pl n u)→(∀ u∈m,Pl n u)→(PyData.eqvAll (pds l) (pds m)=true↔l=m)
  | [],[],_,_=>by simp[pds,PyData.eqvAll]
  | [],_::_,_,_=>by simp[pds,PyData.eqvAll]
  | _::_,[],_,_=>by simp[pds,PyData.eqvAll]
  | u::l,w::m,h1,h2=>by
    simp only[pds,PyData.eqvAll,Bool.and_eq_true,ih u w (h1 u (List.mem_cons_self ..)) (h2 w (List.mem_cons_self ..)),Ju ih l m (fun x hx=>h1 x (List.mem_cons_of_mem _ hx)) (fun x hx=>h2 x (List.mem_cons_of_mem _ hx)),List.cons.injEq]
theorem Rg:∀ (n:Nat) (u w:U),Pl n u→Pl n w→(PyData.eqv (pd u) (pd w)=true↔u=w)
  | n,.bl _,_,h,_=>by cases n <;> exact absurd h (by simp[Pl])
  | n,.ref _,_,h,_=>by cases n <;> exact absurd h (by simp[Pl])
  | n,_,.bl _,_,h=>by cases n <;> exact absurd h (by simp[Pl])
  | n,_,.ref _,_,h=>by cases n <;> exact absurd h (by simp[Pl])
  | 0,.tup _,_,h,_=>absurd h (by simp[Pl])
  | 0,_,.tup _,_,h=>absurd h (by simp[Pl])
  | n+1,.tup l,.tup m,h1,h2=>by
    simp only[pd,PyData.eqv,U.tup.injEq]
    exact Ju (fun u w=>Rg n u w) l m (N9.mp h1) (N9.mp h2)
  | n,.non,.non,_,_=>by simp[pd,PyData.eqv]
  | n,.non,.int _,_,_=>by simp[pd,PyData.eqv]
  | n,.non,.str _,_,_=>by simp[pd,PyData.eqv]
  | n+1,.non,.tup _,_,_=>by simp[pd,PyData.eqv]
  | n,.int _,.non,_,_=>by simp[pd,PyData.eqv]
  | n,.int _,.int _,_,_=>by simp[pd,PyData.eqv]
  | n,.int _,.str _,_,_=>by simp[pd,PyData.eqv]
  | n+1,.int _,.tup _,_,_=>by simp[pd,PyData.eqv]
  | n,.str _,.non,_,_=>by simp[pd,PyData.eqv]
  | n,.str _,.int _,_,_=>by simp[pd,PyData.eqv]
  | n,.str _,.str _,_,_=>by simp[pd,PyData.eqv]
  | n+1,.str _,.tup _,_,_=>by simp[pd,PyData.eqv]
  | n+1,.tup _,.non,_,_=>by simp[pd,PyData.eqv]
  | n+1,.tup _,.int _,_,_=>by simp[pd,PyData.eqv]
  | n+1,.tup _,.str _,_,_=>by simp[pd,PyData.eqv]
noncomputable def eqB(u w:U):Bool:=PyData.eqv (pd u) (pd w)
theorem Aek{u w:U}(h1:Pl 6 u)(h2:Pl 6 w):eqB u w=true↔u=w:=Rg 6 u w h1 h2
theorem Abb{u:U}(h1:Pl 6 u):eqB u u=true:=(Aek h1 h1).mpr rfl
theorem Aiq{u w:U}(L:UH)(h1:Pl 6 u)(h2:Pl 6 w):eqP u w L=some (eqB u w):=by
  obtain ⟨a1,a2⟩:=Oy 6 u h1
  obtain ⟨b1,b2⟩:=Oy 6 w h2
  have s1:SeqAt.shaped (pd u)=true:=by unfold SeqAt.shaped;rw[a1];simp;omega
  have s2:SeqAt.shaped (pd w)=true:=by unfold SeqAt.shaped;rw[b1];simp;omega
  unfold eqP
  simp only[M8 L 6 8 u (by decide) h1,M8 L 6 8 w (by decide) h2,Option.bind_some,s1,s2,and_self,if_true,eqB]
theorem Ack{u w:U}(L:UH)(h1:Pl 6 u)(h2:Pl 6 w):Dk u w L=some (.bl (eqB u w),L):=by unfold Dk;rw[Aiq L h1 h2];rfl
noncomputable def Vn(us ws:List U):Bool:=PyData.eqvAll (pds us) (pds ws)
theorem Ts{us ws:List U}(h1:∀ u∈us,Pl 6 u)(h2:∀ u∈ws,Pl 6 u):Vn us ws=true↔us=ws:=Ju (fun u w=>Rg 6 u w) us ws h1 h2
theorem W5{n m:Nat}{us ws:List U}{L:UH}(e1:Am L n=some us)(e2:Am L m=some ws)(h1:∀ u∈us,Pl 6 u)(h2:∀ u∈ws,Pl 6 u):eqP (.ref n) (.ref m) L=some (Vn us ws):=by
  obtain ⟨a1,a2⟩:=Mw (Oy 6) us h1
  obtain ⟨b1,b2⟩:=Mw (Oy 6) ws h2
  have s1:SeqAt.shaped (.list (pds us))=true:=by unfold SeqAt.shaped;simp[PyData.canLay0,PyData.depth,a1];omega
  have s2:SeqAt.shaped (.list (pds ws))=true:=by unfold SeqAt.shaped;simp[PyData.canLay0,PyData.depth,b1];omega
  have t1:toP L 8 (.ref n)=some (.list (pds us)):=by
    show (Am L n).bind (fun l=>(mapO (toP L 7) l).map PyData.list)=_
    rw[e1]
    simp only[Option.bind_some,Ml (fun u hu=>M8 L 6 7 u (by decide) hu) us h1,Option.map_some]
  have t2:toP L 8 (.ref m)=some (.list (pds ws)):=by
    show (Am L m).bind (fun l=>(mapO (toP L 7) l).map PyData.list)=_
    rw[e2]
    simp only[Option.bind_some,Ml (fun u hu=>M8 L 6 7 u (by decide) hu) ws h2,Option.map_some]
  unfold eqP
  simp only[t1,t2,Option.bind_some,s1,s2,and_self,if_true,PyData.eqv,Vn]
theorem Y1{n m:Nat}{us ws:List U}{L:UH}(e1:Am L n=some us)(e2:Am L m=some ws)(h1:∀ u∈us,Pl 6 u)(h2:∀ u∈ws,Pl 6 u):Dk (.ref n) (.ref m) L=some (.bl (Vn us ws),L):=by unfold Dk;rw[W5 e1 e2 h1 h2];rfl
theorem Qo{n m:Nat}{us ws:List U}{L:UH}(e1:Am L n=some us)(e2:Am L m=some ws)(h1:∀ u∈us,Pl 6 u)(h2:∀ u∈ws,Pl 6 u):Ip (.ref n) (.ref m) L=some (.bl (!Vn us ws),L):=by unfold Ip;rw[W5 e1 e2 h1 h2];rfl
theorem Pl.int(n:Nat)(i:Int):Pl n (.int i):=by cases n <;> exact trivial
theorem Afa{g:FA}{δ:UE}{L L':UH}{j:Int}(hg:g δ L=some ([.int j],L'))(h0:0≤j)(h1:j < 1000000):C3 g δ L=some (.seq (Ay 0 j.toNat),L'):=by
  rw[Ad8,hg]
  simp only[Option.bind_some]
  rw[if_pos ⟨by omega,by omega⟩]
theorem Fg{g:FA}{δ:UE}{L L':UH}{n:Nat}(hg:g δ L=some ([.int n],L'))(h1:n < 1000000):C3 g δ L=some (.seq (Ay 0 n),L'):=by
  have:=Afa hg (by omega) (by omega)
  rwa [Int.toNat_natCast] at this
end MR
namespace Lw
open PySem L2 MR
end Lw
namespace MR
open PySem PySem.Spec PyProof.Rows L2
section
variable {X:Cx}{pins:List (Addr×Obj)}{σ:L2.St}{H H':Hp}{s:Shared}
theorem Inv.freeze{a:Addr}{o:Obj}{kvs:List (Key×V)}(I:L2.Inv X pins σ H s)(e:H a=some (.dK kvs))(ho:s.heap.get? a=some o):L2.Inv X pins σ (upd H a (.frz o (.dK kvs))) s:=by
  have tp:∀ b u,H b=some u→(∀ ks,u≠.dK ks)→upd H a (.frz o (.dK kvs)) b=some u:=fun b u q n=>by
    rw[Aw (fun z=>by subst z;rw[e] at q;cases q;exact n _ rfl)];exact q
  refine I.un (t':=s.toks) (h':=s.heap) ⟨fun b ob q n _ _=>q,fun b ob q n _ _=>⟨ob.slots,q⟩,fun b ob q n _=>?_,fun b ob q _=>⟨ob,q⟩,fun b xs q=>tp b _ q fun ks z=>(nomatch z),fun b ob u q=>tp b _ q fun ks z=>(nomatch z),fun b ps q=>⟨#[],by rw[tp b _ q fun ks z=>(nomatch z)];simp⟩⟩ fun b u q=>?_
  · rw[Aw (fun z=>by subst z;rw[e] at n;cases n)];exact n
  · have own:∀ c,H c=some (.own b)→upd H a (.frz o (.dK kvs)) c=some (.own b):=fun c z=>tp c _ z fun ks z=>(nomatch z)
    have tups:∀ c xs,H c=some (.tup xs)→upd H a (.frz o (.dK kvs)) c=some (.tup xs):=fun c xs z=>tp c _ z fun ks z=>(nomatch z)
    by_cases hb:b=a
    · subst hb
      rw[upd_same] at q
      cases q
      exact ⟨ho,(I.hok b _ e).stay (fun _ _ _ z=>z) own tups⟩
    · rw[Aw hb] at q
      exact (I.hok b u q).stay (fun _ _ _ z=>z) own tups
noncomputable def Thaw(H H' H2:Hp):Prop:=∀ b,H2 b=H' b∨∃ o vs,H' b=some (.frz o (.dK vs))∧H2 b=some (.dK vs)∧∀ o u,H b≠some (.frz o u)
theorem Thaw.stay{H2:Hp}(t:Thaw H H' H2){b:Addr}{u:Option HO}(e:H' b=u)(n:∀ o ks,u≠some (.frz o (.dK ks))):H2 b=u:=by
  rcases t b with z | ⟨o,vs,z,_⟩
  · rw[z];exact e
  · rw[e] at z;exact absurd z (n _ _)
theorem Inv.thaw{pins0:List (Addr×Obj)}{σ0:L2.St}{s0:Shared}{H2:Hp}(I0:L2.Inv X pins0 σ0 H s0)(I:L2.Inv X pins σ H' s)(t:Thaw H H' H2):L2.Inv X pins σ H2 s:=by
  have nn:∀ b,H' b=none→H2 b=none:=fun b e=>t.stay e fun _ _ z=>(nomatch z)
  refine ⟨I.ok,I.os,I.bare,⟨I.base.keep,I.base.slot,fun b o e n hx=>nn b (I.base.free b o e n hx),I.base.there,fun b xs e=>t.stay (I.base.tups b xs e) fun _ _ z=>(nomatch z),fun b o u e=>?_,fun b ps e=>?_⟩,I.loc,I.cell,nn _ I.free,fun x c e=>nn _ (I.freeC x c e),fun p hp=>?_,fun a o e=>?_,I.len⟩
  · have h0:=I0.base.frzs b o u e
    rcases t b with z | ⟨o',vs,_,_,z⟩
    · rw[z];exact I.base.frzs b o u e
    · exact absurd h0 (z _ _)
  · obtain ⟨more,q⟩:=I.base.tbls b ps e
    exact ⟨more,t.stay q fun _ _ z=>(nomatch z)⟩
  · obtain ⟨h1,h2,h3⟩:=I.pin p hp
    exact ⟨h1,nn _ h2,h3⟩
  · have own:∀ c,H' c=some (.own a)→H2 c=some (.own a):=fun c z=>t.stay z fun _ _ z=>(nomatch z)
    have tups:∀ c xs,H' c=some (.tup xs)→H2 c=some (.tup xs):=fun c xs z=>t.stay z fun _ _ z=>(nomatch z)
    rcases t a with z | ⟨o',vs,z1,z2,_⟩
    · rw[z] at e
      exact (I.hok a o e).stay (fun _ _ _ z=>z) own tups
    · rw[z2] at e
      cases e
      exact (show ObjOk X.prog X.w H' s.heap a (.dK vs) from (I.hok a _ z1).2).stay (fun _ _ _ z=>z) own tups
end
section
variable {K:PySem.W.Frag}{H H':Hp}{α:List Addr}
mutual
theorem RepU.via(g:∀ a xs,SqT K H a xs→SqT K H' a xs):∀ (u:U) (v:V),RepU K H α u v→RepU K H' α u v
  | .non,_,h=>h
  | .bl _,_,h=>h
  | .int _,_,h=>h
  | .str _,_,h=>h
  | .tup l,v,h=>by
    unfold RepU at h ⊢
    obtain ⟨a,xs,e,s,r⟩:=h
    exact ⟨a,xs,e,g _ _ s,RepL.via g l xs r⟩
  | .ref n,v,h=>by
    unfold RepU at h ⊢
    exact h
theorem RepL.via(g:∀ a xs,SqT K H a xs→SqT K H' a xs):∀ (l:List U) (xs:List V),RepL K H α l xs→RepL K H' α l xs
  | [],xs,h=>h
  | u::l,xs,h=>by
    unfold RepL at h ⊢
    obtain ⟨x,r,e,h1,h2⟩:=h
    exact ⟨x,r,e,RepU.via g u x h1,RepL.via g l r h2⟩
end
end
noncomputable def Ib:Option HU→Option HU→Option HU
  | some (.dic _),some (.rod kvs)=>some (.dic kvs)
  | _,x=>x
noncomputable def Cp:UH→UH→UH
  | [],L'=>L'
  | _::_,[]=>[]
  | .dic _::L,.rod kvs::L'=>.dic kvs::Cp L L'
  | _::L,x::L'=>x::Cp L L'
theorem K8:∀ (L L':UH),(Cp L L').length=L'.length
  | [],L'=>by unfold Cp;rfl
  | a::L,[]=>by unfold Cp;rfl
  | a::L,x::L'=>by
    cases a <;> cases x <;> simp[Cp,K8 L L']
theorem O0:∀ (L L':UH) (n:Nat),(Cp L L')[n]? = Ib L[n]? L'[n]?
  | [],L',n=>by
    unfold Cp
    cases h:L'[n]? <;> simp[Ib]
  | a::L,[],n=>by
    unfold Cp
    cases h:(a::L)[n]? with
    | none=>simp[Ib]
    | some w=>cases w <;> simp[Ib]
  | a::L,x::L',0=>by
    cases a <;> cases x <;> simp[Cp,Ib]
  | a::L,x::L',n+1=>by
    have:=O0 L L' n
    cases a <;> cases x <;> simpa[Cp] using this
theorem Nv{a:Option HU}{x y:HU}(h:Ib a (some x)=some y):y.isRo=x.isRo∧(x.isRo=true→y=x):=by
  unfold Ib at h
  split at h
  · rename_i h1 h2
    cases h2;cases h
    exact ⟨rfl,fun z=>(nomatch z)⟩
  · cases h;exact ⟨rfl,fun _=>rfl⟩
theorem Kl{K:PySem.W.Frag}{H H':Hp}{α α':List Addr}{L L':UH}(A:Abs K H α L)(g:Gr H α H' α')(A':Abs K H' α' L') :
    ∃ H2,Thaw H H' H2∧Gr H α H2 α'∧Abs K H2 α' (Cp L L')∧(∀ u v,RepU K H' α' u v→RepU K H2 α' u v):=by
  classical
  let T:Addr→Prop:=fun b=>∃ (n:Nat) (kvs kws:List (Key×U)),α'[n]? = some b∧L[n]? = some (HU.dic kvs)∧L'[n]? = some (HU.rod kws)
  let H2:Hp:=fun b=>if T b then (match H' b with | some (.frz o (.dK vs))=>some (.dK vs) | x=>x) else H' b
  have Tfrz:∀ b,T b→∃ o vs,H' b=some (.frz o (.dK vs)):=by
    rintro b ⟨n,kvs,kws,e1,e2,e3⟩
    obtain ⟨o,vs,q,_⟩:=A'.rep n b _ e1 e3
    exact ⟨o,vs,q⟩
  have Told:∀ b,T b→∃ vs,H b=some (.dK vs):=by
    rintro b ⟨n,kvs,kws,e1,e2,e3⟩
    obtain ⟨a,ea,vs,q,_⟩:=A.addr e2
    have:=g.at ea
    rw[e1] at this;cases this
    exact ⟨vs,q⟩
  have on:∀ b o vs,T b→H' b=some (.frz o (.dK vs))→H2 b=some (.dK vs):=fun b o vs t e=>by
    show (if T b then _ else _)=_
    rw[if_pos t,e]
  have off:∀ b,¬ T b→H2 b=H' b:=fun b t=>by
    show (if T b then _ else _)=_
    rw[if_neg t]
  have th:Thaw H H' H2:=fun b=>by
    by_cases t:T b
    · obtain ⟨o,vs,e⟩:=Tfrz b t
      obtain ⟨ws,e0⟩:=Told b t
      exact .inr ⟨o,vs,e,on b o vs t e,fun o u z=>by rw[e0] at z;cases z⟩
    · exact .inl (off b t)
  have sq:∀ a xs,SqT K H' a xs→SqT K H2 a xs:=fun a xs h=>by
    rcases h with (h | ⟨o,h⟩) | h
    · exact .inl (.inl (th.stay h fun _ _ z=>(nomatch z)))
    · exact .inl (.inr ⟨o,th.stay h fun _ _ z=>(nomatch z)⟩)
    · exact .inr h
  have gr:Gr H α H2 α':=⟨g.pre,fun b xs q=>th.stay (g.st.1 b xs q) fun _ _ z=>(nomatch z),fun b o u q=>by
    rcases th b with z | ⟨_,_,_,_,z⟩
    · rw[z];exact g.st.2 b o u q
    · exact absurd q (z _ _)⟩
  refine ⟨H2,th,gr,⟨?_,fun i j a o o' e1 e2 e3 e4=>?_,fun i a o e1 e2=>?_⟩,fun u v r=>RepU.via sq u v r⟩
  · rw[K8];exact A'.len
  · rw[O0] at e3 e4
    cases q1:L'[i]? with
    | none=>rw[q1] at e3;unfold Ib at e3;split at e3 <;> cases e3;rename_i z;cases z
    | some x1=>
      cases q2:L'[j]? with
      | none=>rw[q2] at e4;unfold Ib at e4;split at e4 <;> cases e4;rename_i z;cases z
      | some x2=>
        rw[q1] at e3
        rw[q2] at e4
        rw[(Nv e3).1,(Nv e4).1]
        exact A'.inj i j a x1 x2 e1 e2 q1 q2
  · rw[O0] at e2
    cases q1:L'[i]? with
    | none=>rw[q1] at e2;unfold Ib at e2;split at e2 <;> cases e2;rename_i z;cases z
    | some x1=>
      rw[q1] at e2
      have hr:=A'.rep i a x1 e1 q1
      by_cases t:T a
      · obtain ⟨o',vs,ef⟩:=Tfrz a t
        obtain ⟨n,kvs,kws,n1,n2,n3⟩:=id t
        rcases A'.inj i n a x1 _ e1 n1 q1 n3 with z | z | z
        · subst z
          rw[q1] at n3;cases n3
          rw[n2] at e2
          cases e2
          obtain ⟨o2,ws,f1,f2,f3⟩:=hr
          exact ⟨ws,on a o2 ws t f1,f2,RepL.via sq _ _ f3⟩
        · have:=(Nv e2).2 z
          subst this
          cases o with
          | ro us=>
            obtain ⟨xs,f1,f2⟩:=hr
            refine ⟨xs,?_,RepL.via sq _ _ f2⟩
            rcases f1 with ⟨o2,f1⟩ | f1
            · rw[ef] at f1;cases f1
            · exact .inr f1
          | _=>cases z
        · cases z
      · have same:o=x1:=by
          unfold Ib at e2
          split at e2
          · rename_i h1 h2
            cases h2
            exact absurd ⟨i,_,_,e1,h1,q1⟩ t
          · cases e2;rfl
        subst same
        have ea:=off a t
        cases o with
        | lst us=>obtain ⟨xs,f1,f2⟩:=hr;exact ⟨xs,by rw[ea];exact f1,RepL.via sq _ _ f2⟩
        | ro us=>
          obtain ⟨xs,f1,f2⟩:=hr
          refine ⟨xs,?_,RepL.via sq _ _ f2⟩
          rcases f1 with ⟨o2,f1⟩ | f1
          · exact .inl ⟨o2,by rw[ea];exact f1⟩
          · exact .inr f1
        | dic kvs=>obtain ⟨vs,f1,f2,f3⟩:=hr;exact ⟨vs,by rw[ea];exact f1,f2,RepL.via sq _ _ f3⟩
        | rod kvs=>obtain ⟨o2,vs,f1,f2,f3⟩:=hr;exact ⟨o2,vs,by rw[ea];exact f1,f2,RepL.via sq _ _ f3⟩
        | ins C fs=>obtain ⟨Ca,dx,vs,n,f1,f2,f3⟩:=hr;exact ⟨Ca,dx,vs,n,by rw[ea];exact f1,f2,RepL.via sq _ _ f3⟩
        | exc C fr fs=>obtain ⟨Ca,dd,vs,n,f1,f0,f2,f3⟩:=hr;exact ⟨Ca,dd,vs,n,by rw[ea];exact f1,f0.stay fun b o ws q=>th.stay q fun _ _ z=>(nomatch z),f2,RepL.via sq _ _ f3⟩
structure DObj(P:Program)(w:World)(o:Obj)(kvs:List (Key×V))(vs:List (Key×Value))(ep:Nat):Prop where
  rel:KV kvs vs
  at_:∀ (h:Heap) (d:Addr),h.get? d=some o→h.DictAt (Bv P w) d vs ep
noncomputable def Itv(d:Addr)(o:Obj)(xs:List V):It:=⟨fun i H=>(∃ u,H d=some (.frz o u))∧i < xs.length,fun i H x H'=>H'=H∧xs[i]? = some x,fun i H=>(∃ u,H d=some (.frz o u))∧xs.length≤i⟩
theorem Agt{P:Program}{w:World}{k:Key}{v:Value}(h:(Bv P w).is k v=true):RelV (kV k) v:=by
  rw[Uy] at h
  rcases B2 h with ⟨i,t,rfl,rfl⟩ | ⟨x,t,rfl,rfl⟩
  · exact ⟨t,rfl⟩
  · exact ⟨t,rfl⟩
theorem KV.at_:∀ {kvs:List (Key×V)} {vs:List (Key×Value)} {i:Nat} {p:Key×Value},KV kvs vs→vs[i]? = some p→∃ q,kvs[i]? = some q∧q.1=p.1∧RelV q.2 p.2
  | _,_,i,p,.nil,e=>by simp at e
  | _,_,0,p,.cons r t,e=>by simp at e;subst e;exact ⟨_,rfl,r⟩
  | _,_,i+1,p,.cons r t,e=>by simpa using KV.at_ (i:=i) t (by simpa using e)
section
variable {P:Program}{w:World}{K:PySem.W.Frag}{d it:Addr}{o:Obj}{kvs:List (Key×V)}{vs:List (Key×Value)}{ep:Nat}
theorem Yd{tg:Expr}(D:DObj P w o kvs vs ep):Turn P w K tg (Itv d o (kvs.map fun kv=>kV kv.1)) [it] it (fun i h=>h.IsKeyIter it d i vs.length ep) where
  mem:=by simp
  obj:=fun i h st b hb=>by
    have e:b=it:=by simpa using hb
    subst e
    obtain ⟨o,e,c,d⟩:=st
    exact ⟨o,e,fun v z=>by rw[d] at z;cases z⟩
  keep:=fun i h h' st k=>st.at fun o e=>k it (by simp) o e
  item:=by
    intro X hP hw hK hc i pins s σ H E I hf st hg
    subst hP hw hK
    obtain ⟨⟨u,hd⟩,hi⟩:=hg
    have da:=D.at_ s.heap d (I.hok d _ hd).1
    have hl:=KV.length D.rel
    have hi':i < vs.length:=by rw[← hl];simpa using hi
    obtain ⟨⟨k,x⟩,hx⟩:∃ p,vs[i]? = some p:=⟨vs[i],by simp[hi']⟩
    obtain ⟨q,hq,q1,q2⟩:=KV.at_ D.rel hx
    obtain ⟨f0,f1,f2,f3,f4,f5⟩:=hf it (by simp)
    refine wpAny_pyNext_dict_item st da hx fun key h' hkey st' sb=>?_
    have I1:L2.Inv X pins σ H { s with heap:=h' }:=I.turned (t':=s.toks) (fun b o hb e=>(sb.2 b hb).trans e) f0 f1 f3 f4 f5
    refine ⟨key,rfl,letGo_keyiter (s':={ s with heap:=h' }) st' ⟨kV k,H,I1,Agt hkey,⟨rfl,?_⟩,st',fun b hb=>(hf b hb).1⟩⟩
    rw[List.getElem?_map,hq]
    simp only[Option.map_some,q1]
  done:=by
    intro X hP hw hK hc i pins s σ H E I hf st hg
    subst hP hw hK
    obtain ⟨⟨u,hd⟩,hi⟩:=hg
    have da:=D.at_ s.heap d (I.hok d _ hd).1
    have hl:=KV.length D.rel
    obtain ⟨f0,f1,f2,f3,f4,f5⟩:=hf it (by simp)
    exact wpAny_pyNext_dict_end (I.ok.hd hc) st da (List.getElem?_eq_none (by rw[← hl];simpa using hi)) fun h' eb=>⟨rfl,I.turned (t':=s.toks) (fun b o hb e=>eb b o hb e) f0 f1 f3 f4 f5⟩
  self:=fun _ _ _ _ _ st h=>wpAny_pyIter_keyiter st h
end
section
variable {X:Cx}{tg o e:Expr}{apos cpos:Pos}{td:TE}
structure M0(X:Cx)(o:Expr)(m:Str)(apos cpos:Pos):Prop where
  base:attributeBase o m X.env (eval o X.env)=eval o X.env
  few:((backTo cpos (starEach [] X.env)).all (fun x=>!x.1)&&(backToKw cpos (keywordEach [] X.env)).all (fun x=>x.1.isSome)
    && decide (([]:List Expr).length+([]:List Keyword).length+(if ([]:List Keyword).isEmpty then 0 else 1) < 30))=true
  line:(apos.endLine == cpos.line)=true
  trees:backTo cpos (starEach [] X.env)=[]
theorem Agy{pins:List (Addr×Obj)}{σ:L2.St}{H:Hp}{s:Shared}{a:Addr}{kvs:List (Key×V)}(I:L2.Inv X pins σ H s)(e:H a=some (.dK kvs)) :
    (a == sysModules)=false∧∃ ob vs ep,s.heap.get? a=some ob∧DObj X.prog X.w ob kvs vs ep:=by
  obtain ⟨z,hd,vs,rel,ob,es,ep,h1,h2⟩:=Adb I.hok e
  exact ⟨hd,ob,vs,ep,h1,rel,fun h d hg=>⟨ob,es,hg,h2⟩⟩
noncomputable def Alr(td:TE):TI:=fun σ H R=>td σ H fun x H1=>∃ a kvs,x = .ref a∧H1 a=some (.dK kvs)∧∀ ob,R (Itv a ob (kvs.map fun kv=>kV kv.1)) (upd H1 a (.frz ob (.dK kvs)))
theorem Af5{pins:List (Addr×Obj)}{σ:L2.St}{H:Hp}{s:Shared}{a:Addr}{ob:Obj}{kvs:List (Key×V)}(I:L2.Inv X pins σ H s)(e:H a=some (.dK kvs)) :
    ∀ b∈[s.heap.objs.size],Je X pins (upd H a (.frz ob (.dK kvs))) b:=fun b hb=>by
  have q:b=s.heap.objs.size:=by simpa using hb
  subst q
  have hn:=I.hok.fresh (Nat.le_refl _)
  exact L2.Inv.fpOk I (Nat.le_refl _) (by rw[Aw (fun z=>by rw[z,e] at hn;cases hn)];exact hn)
theorem Agg(hl:PE X o td):PI X tg o (Alr td):=by
  intro pins s σ H R I h
  refine thn (hl pins s σ H _ I h) fun v s1 zz=>zz.elim fun x H1 I1 r1 zq=>?_
  obtain ⟨a,kvs,ex,ea,q⟩:=zq
  subst ex
  obtain rfl:v=Value.ref a:=r1
  obtain ⟨hd,ob,vs,ep,ho,D⟩:=Agy I1 ea
  have da:=D.at_ _ _ ho
  refine wpAny_pyIter_dict hd da ?_
  have I2:L2.Inv X pins σ H1 { s1 with heap:=s1.heap.push { cls:=.type "dict_keyiterator",data:=.fields #[.ref a,.int 0 0,.int vs.length 0,.int ep 0] } }:=I1.kept (t':=s1.toks) fun b o e=>Heap.get?_push_of_some _ e
  exact ⟨s1.heap.objs.size,[s1.heap.objs.size],_,_,_,rfl,Inv.freeze I2 ea (Heap.get?_push_of_some _ ho),Yd D,⟨_,Heap.get?_push_size _ rfl,rfl,rfl⟩,Af5 I1 ea,q ob⟩
end
noncomputable def kU:Key→U
  | .inl i=>.int i
  | .inr x=>.str x
theorem Aih{K:PySem.W.Frag}{H:Hp}{α:List Addr}(k:Key):RepU K H α (kU k) (kV k):=by
  cases k <;> (unfold RepU kU kV;rfl)
noncomputable def Ma(kvs:List (Key×U)):List U:=kvs.map fun kv=>kU kv.1
noncomputable def P7(v:List (Key×U)→List U)(f:FE):FI:=fun δ L=>(f δ L).bind fun p=>match p.1 with
  | .ref n=>(Fs p.2 n).map fun kvs=>(.seq (v kvs),p.2.set n (.rod kvs))
  | _=>none
section
variable {K:PySem.W.Frag}{H:Hp}{α:List Addr}{L:UH}{a:Addr}{ob:Obj}
theorem Nj:∀ {kvs:List (Key×U)} {vs:List (Key×V)},RepKV K H α kvs vs→RepL K H α (Ma kvs) (vs.map fun kv=>kV kv.1)
  | [],vs,r=>by
    have:=r.1
    cases vs with
    | nil=>exact .nil
    | cons _ _=>simp at this
  | kv::kvs,vs,r=>by
    obtain ⟨x,vs',rfl,rx,r'⟩:=r.cons
    exact .cons (Aih _) (Nj r')
theorem Aft{u:HO}{us:List U}{xs:List V}(e:H a=some (.frz ob u))(r:RepL K H α us xs):K7 K (Itv a ob xs) (.seq us) H α:=by
  intro H2 α2 L2 g A2 k
  have e2:=g.st.2 _ _ _ e
  have r2:=r.mono g
  refine ⟨fun w eu=>?_,fun eu=>?_⟩
  · have eu:us[k]? = some w:=by simpa[IU.at] using eu
    obtain ⟨x,hx,rx⟩:=r2.get eu
    refine ⟨⟨⟨u,e2⟩,(List.getElem?_eq_some_iff.mp hx).1⟩,?_⟩
    rintro y H3 ⟨rfl,hy⟩
    rw[hx] at hy;cases hy
    exact ⟨.refl _ _,A2,rx⟩
  · have eu:us[k]? = none:=by simpa[IU.at] using eu
    exact ⟨⟨u,e2⟩,by rw[← r2.length];exact List.getElem?_eq_none_iff.mp eu⟩
theorem V7{n:Nat}{kvs:List (Key×U)}{vs:List (Key×V)}(A:Abs K H α L)(h:Fs L n=some kvs)(ea:α[n]? = some a)(e:H a=some (.dK vs))(r:RepKV K H α kvs vs)(ob:Obj) :
    Gr H α (upd H a (.frz ob (.dK vs))) α∧Abs K (upd H a (.frz ob (.dK vs))) α (L.set n (.rod kvs)):=by
  have g:Gr H α (upd H a (.frz ob (.dK vs))) α:=⟨⟨[],by simp⟩,.write e (by exact trivial) _⟩
  obtain ⟨A',_⟩:=A.put (o:=.frz ob (.dK vs)) (u:=.rod kvs) ea (Js h) rfl rfl e (by exact trivial) ⟨ob,vs,upd_same,(r.mono g).1,(r.mono g).2⟩
  exact ⟨g,A'⟩
end
section
variable {X:Cx}{tg o:Expr}{apos cpos:Pos}{fo:FE}
theorem Y0{v:List (Key×U)→List U}{J:Addr→Obj→List (Key×V)→It}(hJ:∀ (H:Hp) (α:List Addr) (a:Addr) (ob:Obj) (u:HO) (kvs:List (Key×U)) (vs:List (Key×V)),H a=some (.frz ob u)→RepKV X.K H α kvs vs→K7 X.K (J a ob vs) (.seq (v kvs)) H α)
    {σ:L2.St} {H:Hp} {R:It→Hp→Prop} (h:lI X.K (P7 v fo) σ H R):lE X.K fo σ H fun x H1=>∃ a kvs,x = .ref a∧H1 a=some (.dK kvs)∧∀ ob,R (J a ob kvs) (upd H1 a (.frz ob (.dK kvs))):=by
  obtain ⟨α,δ,L,A,S,i,L3,e,q⟩:=h
  obtain ⟨⟨u,L1⟩,e1,e⟩:=Option.bind_eq_some_iff.mp e
  simp only at e
  split at e
  · obtain ⟨kvs,hd,e⟩:=Option.map_eq_some_iff.mp e
    cases e
    refine ⟨α,δ,L,A,S,_,_,e1,fun x H1 α1 g1 A1 r1=>?_⟩
    obtain ⟨a,vs,rfl,ea,ha,rk⟩:=Sj A1 hd r1
    refine ⟨a,vs,rfl,ha,fun ob=>?_⟩
    obtain ⟨g2,A2⟩:=V7 A1 hd ea ha rk ob
    exact q _ _ _ (g1.trans g2) A2 (hJ _ _ _ _ _ _ _ upd_same (rk.mono g2))
  · cases e
noncomputable def Alc(a:Addr)(ob:Obj)(vs:List (Key×V)):It:=Itv a ob (vs.map fun kv=>kV kv.1)
theorem Aa9(ho:PEF X o fo):PIF X tg o (P7 Ma fo):=
  PI.imp (Agg ho) fun _ _ _ h=>Y0 (J:=Alc) (fun _ _ _ _ _ _ _ e r=>Aft e (Nj r)) h
theorem S6(k:Key):∀ kvs:List (Key×U),(kvs.find? fun kv=>decide (kv.1=k)).isSome=kvs.any fun kv=>decide (kv.1=k)
  | []=>rfl
  | kv::kvs=>by
    rw[List.find?_cons,List.any_cons]
    by_cases h:kv.1=k
    · simp[h]
    · simp only[h,decide_false,Bool.false_or]
      exact S6 k kvs
theorem RepKV.some{K:PySem.W.Frag}{H:Hp}{α:List Addr}{kvs:List (Key×U)}{vs:List (Key×V)}(r:RepKV K H α kvs vs)(k:Key):(Gi kvs k).isSome=(Hq vs k).isSome:=by
  have h1:(Gi kvs k).isSome=kvs.any fun kv=>decide (kv.1=k):=by
    unfold Gi
    rw[Option.isSome_map]
    exact S6 k kvs
  rw[h1,r.any,Nc]
end
noncomputable def Ahi(kvs:List (Key×U))(k:Key):List (Key×U):=kvs.filter fun kv=>decide (kv.1≠k)
theorem RepKV.drop{K:PySem.W.Frag}{H:Hp}{α:List Addr}(k:Key):∀ {kvs:List (Key×U)} {vs:List (Key×V)},RepKV K H α kvs vs→RepKV K H α (Ahi kvs k) (Wq vs k)
  | [],vs,r=>by
    have:=r.1
    cases vs with
    | nil=>exact .nil
    | cons _ _=>simp at this
  | kv::kvs,vs,r=>by
    obtain ⟨x,vs',rfl,rx,r'⟩:=r.cons
    unfold Ahi Wq
    rw[List.filter_cons,List.filter_cons]
    by_cases h:kv.1=k
    · simp only[h,ne_eq,not_true_eq_false,decide_false,Bool.false_eq_true,if_false]
      exact RepKV.drop k r'
    · simp only[h,ne_eq,not_false_eq_true,decide_true,if_true]
      exact .mk rx (RepKV.drop k r')
end MR
namespace MR
open PySem PyProof.Rows L2
theorem Ov:∀ L:UH,Cp L L=L
  | []=>by unfold Cp;rfl
  | x::L=>by cases x <;> simp[Cp,Ov L]
theorem Pw:∀ (L:UH) (n:Nat) (kvs:List (Key×U)),L[n]? = some (.dic kvs)→Cp L (L.set n (.rod kvs))=L
  | [],n,kvs,h=>by simp at h
  | x::L,0,kvs,h=>by
    simp at h;subst h
    simp[Cp,Ov]
  | x::L,n+1,kvs,h=>by
    have:=Pw L n kvs (by simpa using h)
    cases x <;> simp[Cp,this]
theorem Aev{v:List (Key×U)→List U}{fo:FE}{δ:UE}{L:UH}{n:Nat}{kvs:List (Key×U)}(hf:fo δ L=some (.ref n,L))(hn:L[n]? = some (.dic kvs)):P7 v fo δ L=some (.seq (v kvs),L.set n (.rod kvs)):=by
  have hd:Fs L n=some kvs:=by unfold Fs;rw[hn]
  unfold P7
  rw[hf]
  simp only[Option.bind_some,hd,Option.map_some]
end MR
namespace MR
open PySem PySem.Spec PyProof.Rows L2
noncomputable def XObj(e Ca:Addr)(dd:Option Addr)(h:Heap)(vs:Array Value):Prop:=∃ o:Obj,h.get? e=some o∧o.cls = .ref Ca∧o.dict=dd∧o.data = .fields vs∧1 < vs.size∧o.slots=#[]
noncomputable def Tra(N:Nat)(e Ca:Addr)(dd:Option Addr)(fl:Value)(h:Heap):Prop:=∃ vs T oT ts,XObj e Ca dd h vs∧vs[1]? = some (.ref T)∧N≤T∧T≠e∧h.get? T=some oT∧oT.data = .fields ts∧ts[3]? = some fl
noncomputable def Raw(e Ca:Addr)(dd:Option Addr)(h:Heap):Prop:=∃ vs,XObj e Ca dd h vs∧vs[1]? = some .none
noncomputable def Fly(N:Nat)(e Ca:Addr)(dd:Option Addr)(h:Heap):Prop:=N≤h.objs.size∧(Raw e Ca dd h∨∃ fl,Tra N e Ca dd fl h)
theorem XObj.excIs{e Ca:Addr}{dd:Option Addr}{h:Heap}{vs:Array Value}(x:XObj e Ca dd h vs):B5 e Ca dd false h:=by
  obtain ⟨o,h1,h2,h3,h4,h5,h6⟩:=x
  exact ⟨o,vs,h1,h2,h3,h4,h5,h6,fun z=>nomatch z⟩
theorem Fly.excIs{N:Nat}{e Ca:Addr}{dd:Option Addr}{h:Heap}(x:Fly N e Ca dd h):B5 e Ca dd false h:=by
  rcases x.2 with ⟨vs,q,_⟩ | ⟨_,vs,_,_,_,q,_⟩
  · exact q.excIs
  · exact q.excIs
theorem Tra.excIs{N:Nat}{e Ca:Addr}{dd:Option Addr}{fl:Value}{h:Heap}(x:Tra N e Ca dd fl h):B5 e Ca dd false h:=by
  obtain ⟨vs,_,_,_,q,_⟩:=x
  exact q.excIs
structure Stp(N:Nat)(fs:List Addr)(e:Addr)(h h':Heap):Prop where
  keep:∀ b o,b < N→b∉fs→b≠e→h.get? b=some o→h'.get? b=some o
  slot:∀ b o,b∈fs→h.get? b=some o→∃ sl,h'.get? b=some { o with slots:=sl }
  all:∀ b o,h.get? b=some o→∃ o',h'.get? b=some o'
  sz:h.objs.size≤h'.objs.size
theorem Stp.refl{N:Nat}{fs:List Addr}{e:Addr}{h:Heap}:Stp N fs e h h:=⟨fun _ _ _ _ _ q=>q,fun b o _ q=>⟨o.slots,q⟩,fun _ o q=>⟨o,q⟩,Nat.le_refl _⟩
theorem Stp.trans{N:Nat}{fs:List Addr}{e:Addr}{h h1 h2:Heap}(x:Stp N fs e h h1)(y:Stp N fs e h1 h2):Stp N fs e h h2:=
  ⟨fun b o l n z q=>y.keep b o l n z (x.keep b o l n z q),fun b o m q=>let ⟨_,q1⟩:=x.slot b o m q;let ⟨sl,q2⟩:=y.slot b _ m q1;⟨sl,q2⟩,fun b o q=>let ⟨o1,q1⟩:=x.all b o q;y.all b o1 q1,Nat.le_trans x.sz y.sz⟩
theorem Ln{h:Heap}{a b:Addr}{f:Obj→Obj}{o oa:Obj}(q:h.get? b=some o)(qa:h.get? a=some oa)(hf:(f oa).isFreed=false):∃ o',(h.update a f).get? b=some o':=by
  by_cases z:a=b
  · subst z;exact ⟨_,Heap.get?_update_self f qa hf⟩
  · exact ⟨o,(Heap.get?_update_other h f z).trans q⟩
section
variable {M:Model}{A:Around}{E:Value→Shared→Prop}{s:Shared}{base:Heap}{N:Nat}{env:PySem.Env}{outer:List PySem.Env}{L e Ca:Addr}{dd:Option Addr}
theorem Ue{o:Obj}{vs:Array Value}{h:Heap}{k:Nat}{x:Value}(hd:o.data = .fields vs)(hq:(o.cls = .ref Ca∧o.dict=dd)∧1 < vs.size∧o.slots=#[])(hg:h.get? e=some (o.mapFields (·.setIfInBounds k x))) :
    XObj e Ca dd h (vs.setIfInBounds k x):=by
  obtain ⟨cl,di,da,sl⟩:=o
  dsimp only at hd hq
  subst hd
  exact ⟨_,hg,hq.1.1,hq.1.2,rfl,by rw[Array.size_setIfInBounds];exact hq.2.1,hq.2.2⟩
theorem Ab8{h:Heap}{l:List PySem.Env}{b:Addr}{o:Obj}{vs:Array Value}(fr:h.FunFrames base l)(q:h.get? b=some o)(hd:o.data = .fields vs):b∉frs l:=fun m=>by
  obtain ⟨_,o',ho,hnf⟩:=fr.mem m
  rw[q] at ho
  cases ho
  exact hnf vs hd
theorem Og{head:Value}{hadNext:Bool}{vs:Array Value}{Q:Unit→Shared→Prop}(hfr:A.frames=some (env::outer))(hf:env.frame=some L)
    (hN:N≤s.heap.objs.size) (fr:s.heap.FunFrames base (env::outer)) (hx:XObj e Ca dd s.heap vs)
    (hQ:∀ h',Tra N e Ca dd (rawInt L) h'→Stp N (frs (env::outer)) e s.heap h'→h'.FunFrames base (env::outer)→Q () { s with heap:=h' }) :
    wpAny M A (do setField (.ref e) 1 (← EntryCells.newEntry head (← frameOf env) .none (rawInt L) .none (← entryPlaceOf L hadNext))) Q E s:=by
  obtain ⟨oe,he,hc,hdd,hd,hsz,hsl⟩:=hx
  have noFr:e∉frs (env::outer):=Ab8 fr he hd
  refine wpAny_bind (wpAny_frameOf_fun hfr fr hf fun h1 so=>?_)
  refine wpAny_bind (wpAny_entryPlaceOf fun pl hpl=>?_)
  unfold EntryCells.newEntry newFields
  refine wpAny_bind (wpAny_newObj_type ?_ (hpl.sizeOk5 _ _ _ _ _))
  generalize hT:({ cls:=.type "traceback",dict:=none,data:=.fields ([head,.ref L,.none,rawInt L,.none]++(if pl.isEmpty then List.replicate 6 Value.none else pl)).toArray }:Obj)=oT
  have e1:h1.get? e=some oe:=(so.2.1 e noFr).trans he
  have e2:(h1.push oT).get? e=some oe:=Heap.get?_push_of_some oT e1
  have z1:h1.objs.size=s.heap.objs.size:=so.1
  have hne:h1.objs.size≠e:=Nat.ne_of_gt (Heap.lt_size e1)
  have hd3:=Obj.data_mapFields hd (·.setIfInBounds 1 (Value.ref h1.objs.size))
  have e3:=Heap.get?_update_self (Obj.mapFields (·.setIfInBounds 1 (Value.ref h1.objs.size))) e2 (Obj.isFreed_of_fields hd3)
  have hTf:oT.isFreed=false:=by subst hT;rfl
  have t3:((h1.push oT).update e (Obj.mapFields (·.setIfInBounds 1 (Value.ref h1.objs.size)))).get? h1.objs.size=some oT:=(Heap.get?_update_other _ _ (Ne.symm hne)).trans (Heap.get?_push_size h1 hTf)
  have up:∀ b o,b≠e→h1.get? b=some o→((h1.push oT).update e (Obj.mapFields (·.setIfInBounds 1 (Value.ref h1.objs.size)))).get? b=some o:=fun b o hb q=>by
    rw[Heap.get?_update_other _ _ (Ne.symm hb)]
    exact Heap.get?_push_of_some oT q
  refine wpAny_setField e2 hd hsz (hQ _ ?_ ⟨fun b o _ hb hbe q=>up b o hbe ((so.2.1 b hb).trans q),fun b o hb q=>?_,fun b o q=>?_,?_⟩ (fr.of_keeps fun b o q hnf=>?_))
  · refine ⟨_,h1.objs.size,oT,_,Ue hd ⟨⟨hc,hdd⟩,hsz,hsl⟩ e3,by simp[hsz],by rw[z1];exact hN,hne,t3,by subst hT;rfl,?_⟩
    first
      | (simp;done)
      | (rcases hpl with rfl | ⟨_,_,_,_,_,_,_,rfl⟩ <;> simp)
  · obtain ⟨sl,q2⟩:=so.2.2 b o q
    exact ⟨sl,up b _ (fun z=>noFr (z ▸ hb)) q2⟩
  · obtain ⟨sl,q2⟩:=so.2.2 b o q
    exact Ln (Heap.get?_push_of_some oT q2) e2 (Obj.isFreed_of_fields (Obj.data_mapFields hd _))
  · rw[Heap.size_after_update,Heap.size_push,z1];exact Nat.le_succ _
  · obtain ⟨sl,q2⟩:=so.2.2 b o q
    exact ⟨_,up b _ (fun z=>by rw[z,he] at q;cases q;exact hnf vs hd) q2,rfl⟩
theorem Aax{Q:Unit→Shared→Prop}(hfr:A.frames=some (env::outer))(hf:env.frame=some L)(fr:s.heap.FunFrames base (env::outer))(F:Fly N e Ca dd s.heap)
    (hQ:∀ h',Tra N e Ca dd (rawInt L) h'→Stp N (frs (env::outer)) e s.heap h'→h'.FunFrames base (env::outer)→Q () { s with heap:=h' }):wpAny M A (noteFrame (.ref e) env) Q E s:=by
  unfold noteFrame
  simp only[hf]
  rcases F.2 with ⟨vs,hx,h1⟩ | ⟨fl,vs,T,oT,ts,hx,h1,hB,hne,hT,hdT,h3⟩
  · obtain ⟨oe,he,hc,hdd,hd,hsz,hsl⟩:=id hx
    refine wpAny_bind (wpAny_field he hd h1 ?_)
    rw[if_neg (by decide)]
    exact Og hfr hf F.1 fr hx hQ
  · obtain ⟨oe,he,hc,hdd,hd,hsz,hsl⟩:=id hx
    refine wpAny_bind (wpAny_field he hd h1 ?_)
    rw[if_pos (show (Value.ref T != Value.none)=true from by simp)]
    refine wpAny_bind (wpAny_field hT hdT h3 ?_)
    by_cases hfl:(fl == rawInt L)=true
    · rw[if_pos hfl]
      have hfl':fl=rawInt L:=by simpa using hfl
      subst hfl'
      exact wpAny_pure (hQ s.heap ⟨vs,T,oT,ts,hx,h1,hB,hne,hT,hdT,h3⟩ .refl fr)
    rw[if_neg hfl]
    refine wpAny_bind (wpAny_setField hT hdT (Array.getElem?_eq_some_iff.mp h3).1 ?_)
    have other:∀ b,b≠T→(s.heap.update T (Obj.mapFields (·.setIfInBounds 3 Value.none))).get? b=s.heap.get? b:=fun b hb=>Heap.get?_update_other _ _ (Ne.symm hb)
    have noT:∀ b o,s.heap.get? b=some o→(∀ ws,o.data≠.fields ws)→b≠T:=fun b o q n z=>by
      rw[z,hT] at q;cases q;exact n ts hdT
    refine Og (N:=N) (s:={ s with heap:=s.heap.update T (Obj.mapFields (·.setIfInBounds 3 Value.none)) }) hfr hf (by show N≤(s.heap.update T _).objs.size;rw[Heap.size_after_update];exact F.1)
      (fr.of_keeps fun b o q n=>⟨o,(other b (noT b o q n)).trans q,rfl⟩) ⟨oe,(other e (Ne.symm hne)).trans he,hc,hdd,hd,hsz,hsl⟩ fun h' F' up fr'=>hQ h' F' ⟨fun b o l n z q=>?_,fun b o m q=>?_,fun b o q=>?_,?_⟩ fr'
    · exact up.keep b o l n z ((other b (fun y=>absurd l (by rw[y];exact Nat.not_lt.mpr hB))).trans q)
    · exact up.slot b o m ((other b fun y=>Ab8 fr hT hdT (y ▸ m)).trans q)
    · obtain ⟨o1,q1⟩:=Ln (f:=Obj.mapFields (·.setIfInBounds 3 Value.none)) q hT (Obj.isFreed_of_fields (Obj.data_mapFields hdT _))
      exact up.all b o1 q1
    · have:=up.sz
      rw[show ({ s with heap:=s.heap.update T (Obj.mapFields (·.setIfInBounds 3 Value.none)) }:Shared).heap.objs.size=s.heap.objs.size from Heap.size_after_update _ _ _] at this
      exact this
theorem Me{fl:Value}{frm:Option Addr}{l:List PySem.Env}{Q:Unit→Shared→Prop}(fr:s.heap.FunFrames base l)(F:Tra N e Ca dd fl s.heap)
    (hQ:∀ h',Tra N e Ca dd (frm.elim Value.none fun f=>rawInt f) h'→Stp N (frs l) e s.heap h'→h'.FunFrames base l→Q () { s with heap:=h' }):wpAny M A (setFlight (.ref e) frm) Q E s:=by
  obtain ⟨vs,T,oT,ts,hx,h1,hB,hne,hT,hdT,h3⟩:=F
  obtain ⟨oe,he,hc,hdd,hd,hsz,hsl⟩:=id hx
  unfold setFlight
  refine wpAny_bind (wpAny_field he hd h1 ?_)
  rw[if_pos (show (Value.ref T != Value.none)=true from by simp)]
  have hs3:3 < ts.size:=(Array.getElem?_eq_some_iff.mp h3).1
  have noT:∀ b o,s.heap.get? b=some o→(∀ ws,o.data≠.fields ws)→b≠T:=fun b o q n z=>by
    rw[z,hT] at q;cases q;exact n ts hdT
  have other:∀ b,b≠T→(s.heap.update T (Obj.mapFields (·.setIfInBounds 3 (frm.elim Value.none fun f=>rawInt f)))).get? b=s.heap.get? b:=fun b hb=>Heap.get?_update_other _ _ (Ne.symm hb)
  refine wpAny_setField hT hdT hs3 (hQ _ ?_ ⟨fun b o l n z q=>(other b (fun y=>absurd l (by rw[y];exact Nat.not_lt.mpr hB))).trans q,fun b o m q=>⟨o.slots,(other b fun y=>Ab8 fr hT hdT (y ▸ m)).trans q⟩,fun b o q=>Ln q hT (Obj.isFreed_of_fields (Obj.data_mapFields hdT _)),by rw[Heap.size_after_update];exact Nat.le_refl _⟩ (fr.of_keeps fun b o q n=>⟨o,(other b (noT b o q n)).trans q,rfl⟩))
  exact ⟨vs,T,_,_,⟨oe,(other e (Ne.symm hne)).trans he,hc,hdd,hd,hsz,hsl⟩,h1,hB,hne,Heap.get?_update_self _ hT (Obj.isFreed_of_fields (Obj.data_mapFields hdT _)),Obj.data_mapFields hdT _,by simp[hs3]⟩
theorem W0{Q:Unit→Shared→Prop}(hfr:A.frames=some (env::outer))(hf:env.frame=some L)(fr:s.heap.FunFrames base (env::outer))(F:Fly N e Ca dd s.heap)
    (hQ:∀ h',Fly N e Ca dd h'→Stp N (frs (env::outer)) e s.heap h'→h'.FunFrames base (env::outer)→Q () { s with heap:=h' }):wpAny M A (noteFrame (.ref e) env) (fun _ s'=>wpAny M A (setFlight (.ref e) none) Q E s') E s:=by
  refine Aax hfr hf fr F fun h1 F1 u1 fr1=>?_
  refine Me (s:={ s with heap:=h1 }) fr1 F1 fun h2 F2 u2 fr2=>hQ h2 ⟨Nat.le_trans F.1 (Nat.le_trans u1.sz u2.sz),.inr ⟨_,F2⟩⟩ (u1.trans u2) fr2
theorem V0{Q:Unit→Shared→Prop}(hfr:A.frames=some (env::outer))(hf:env.frame=some L)(fr:s.heap.FunFrames base (env::outer))(F:Fly N e Ca dd s.heap)
    (hQ:∀ h',Fly N e Ca dd h'→Stp N (frs (env::outer)) e s.heap h'→h'.FunFrames base (env::outer)→Q () { s with heap:=h' }):wpAny M A (leaving env (.ref e)) Q E s:=by
  unfold leaving
  exact wpAny_bind (W0 hfr hf fr F hQ)
end
theorem Xb{P:Program}{w:World}{H:Hp}{h h':Heap}{N:Nat}{fs:List Addr}{e Ca:Addr}{dd:Option Addr}(ok:HOk P w H h)(hf:∀ b∈fs,H b=none)(tr:∀ b o,H b=some o→b < N)(S:Stp N fs e h h')
    (me:H e=some (.ext (B5 e Ca dd false))) (x:B5 e Ca dd false h'):HOk P w H h':=fun a o q=>by
  by_cases ha:a=e
  · subst ha
    rw[me] at q
    cases q
    obtain ⟨o,vs,h1,r⟩:=id x
    refine ⟨x,⟨o,h1⟩,fun h1 h2 ⟨o1,ws,q1,r1⟩ k=>⟨o1,ws,k _ q1,r1⟩⟩
  · refine (ok a o q).stay (fun b u hb z=>?_) (fun _ z=>z) fun _ _ z=>z
    have hbt:∃ ob,H b=some ob:=by
      rcases hb with hb | hb
      · exact ⟨o,by rw[hb];exact q⟩
      · exact ⟨_,hb⟩
    obtain ⟨ob,hob⟩:=hbt
    refine S.keep b u (tr b ob hob) (fun m=>by rw[hf b m] at hob;cases hob) ?_ z
    rintro rfl
    rcases hb with hb | hb
    · exact ha hb.symm
    · rw[me] at hb;cases hb
theorem Un.stp{fs fs':List Addr}{H H':Hp}{h0 h h':Heap}{N:Nat}{e:Addr}(u:Un fs [] H H' h0 h)(S:Stp N fs' e h h')(hN:∀ b o,h0.get? b=some o→b < N∧(b∉fs→b∉fs'))(hs:∀ b∈fs,b∈fs')(me:H' e≠none):Un fs [] H H' h0 h' where
  keep:=fun b o q n hb hx=>S.keep b o (hN b o q).1 ((hN b o q).2 hb) (fun z=>me (by rw[← z];exact u.free b o q n hx)) (u.keep b o q n hb hx)
  slot:=fun b o q n hb hx=>by
    obtain ⟨sl,q1⟩:=u.slot b o q n hb hx
    obtain ⟨sl2,q2⟩:=S.slot b _ (hs b hb) q1
    exact ⟨sl2,q2⟩
  free:=u.free
  there:=fun b o q hx=>let ⟨o1,q1⟩:=u.there b o q hx;S.all b o1 q1
  tups:=u.tups
  frzs:=u.frzs
  tbls:=u.tbls
structure Bd(X:Cx)(pins:List (Addr×Obj))(N:Nat):Prop where
  s0:X.s₀.heap.objs.size≤N
  lo:X.env.locals < N
  ce:∀ x c,X.env.cells.lookup x=some c→c < N
  pi:∀ p∈X.pn++pins,p.1 < N
theorem Bd.of{X:Cx}{pins:List (Addr×Obj)}{σ:L2.St}{H:Hp}{s:Shared}{N:Nat}(I:L2.Inv X pins σ H s)(h:s.heap.objs.size≤N):Bd X pins N:=
  ⟨Nat.le_trans I.sz h,Nat.lt_of_lt_of_le I.lt h,fun x c q=>by
    obtain ⟨v,o,ho,_⟩:=I.cell x c q
    exact Nat.lt_of_lt_of_le (Heap.lt_size ho) h,fun p hp=>Nat.lt_of_lt_of_le (Heap.lt_size (I.pin p hp).1) h⟩
structure FlX(X:Cx)(pins:List (Addr×Obj))(σ:L2.St)(H:Hp)(e Ca:Addr)(dd:Option Addr)(N:Nat)(s:Shared):Prop where
  inv:L2.Inv X pins σ H s
  bd:Bd X pins N
  fly:Fly N e Ca dd s.heap
  tr:∀ b o,H b=some o→b < N
  me:H e=some (.ext (B5 e Ca dd false))
section
variable {X:Cx}{pins:List (Addr×Obj)}{σ:L2.St}{H:Hp}{s:Shared}{e Ca:Addr}{dd:Option Addr}{N:Nat}{h':Heap}
theorem FlX.stk(F:FlX X pins σ H e Ca dd N s):∀ b∈frs X.stack,H b=none:=F.inv.stkFree
theorem Inv.stepX{t':Nat}(I:L2.Inv X pins σ H s)(bd:Bd X pins N)(tr:∀ b o,H b=some o→b < N)(me:H e=some (.ext (B5 e Ca dd false)))(S:Stp N (frs X.stack) e s.heap h')(fl:B5 e Ca dd false h'):L2.Inv X pins σ H { s with heap:=h',toks:=t' }:=by
  refine I.call (g':=s.gens) (d':=s.drawn) (t':=t') (h':=h') (ch:=(List.range s.heap.objs.size).filter (N≤·)) ⟨fun b o q n hb hx=>?_,fun b o q n hb hx=>S.slot b o hb q,fun _ _ _ n _=>n,fun b o q _=>S.all b o q,fun _ _ z=>z,fun _ _ _ z=>z,fun b ps z=>⟨#[],by rw[z];simp⟩⟩ (Xb I.hok I.stkFree tr S me fl) I.bare (fun b hb=>?_)
  · refine S.keep b o ?_ hb (fun z=>by rw[z,me] at n;cases n) q
    by_cases hl:b < N
    · exact hl
    · exact absurd (List.mem_filter.mpr ⟨List.mem_range.mpr (Heap.lt_size q),by simpa using hl⟩) hx
  · have hb:N≤b:=by simpa using (List.mem_filter.mp hb).2
    refine ⟨.inr (Nat.le_trans bd.s0 hb),fun z=>absurd bd.lo (by rw[← z];exact Nat.not_lt.mpr hb),fun x c q z=>absurd (bd.ce x c q) (by rw[z];exact Nat.not_lt.mpr hb),fun p hp z=>absurd (bd.pi p hp) (by rw[z];exact Nat.not_lt.mpr hb)⟩
theorem FlX.step(F:FlX X pins σ H e Ca dd N s)(S:Stp N (frs X.stack) e s.heap h')(fl:Fly N e Ca dd h'):FlX X pins σ H e Ca dd N { s with heap:=h' }:=
  ⟨Inv.stepX (t':=s.toks) F.inv F.bd F.tr F.me S fl.excIs,F.bd,fl,F.tr,F.me⟩
end
noncomputable def CFl(P:Program)(w:World)(K:PySem.W.Frag)(outer:List PySem.Env)(H:Hp)(α:List Addr)(s:Shared)(n:Nat)(L':UH)(e:Value)(s':Shared):Prop:=
  ∃ ea Ca dd N H' α',e = .ref ea∧s'.os=s.os∧AllBare s'.gens∧Un (frs outer) [] H H' s.heap s'.heap∧HOk P w H' s'.heap∧s.heap.objs.size≤N∧Fly N ea Ca dd s'.heap∧(∀ b o,H' b=some o→b < N) ∧
    H' ea=some (.ext (B5 ea Ca dd false))∧Gr H α H' α'∧Abs K H' α' L'∧α'[n]? = some ea
noncomputable abbrev XN:=List U→UH→Option (Nat×UH)
structure FnX(P:Program)(w:World)(K:PySem.W.Frag)(mg:Str→Option Value)(base:Heap)(k:Nat)(f:Addr)(fd:FuncData)(ps:List Str)(x:XN):Prop where
  run:∀ (A:Around) (outer:List PySem.Env) (s:Shared) (H:Hp) (args:Args) (us:List Value) (vs:List V) (α:List Addr) (L:UH) (ws:List U) (n:Nat) (L':UH),Room k A→Env0 P w K mg base A outer s H→BindsTo s fd args (ps.zip us)→Vals vs us →
    Abs K H α L→RepL K H α ws vs→ws.length=ps.length→x ws L=some (n,L')→codeAny (model P w) A (.call (.ref f) args) (fun r s'=>∃ e,r = .error e∧CFl P w K outer H α s n L' e s') s
noncomputable abbrev XS:=UE→UH→Option (Nat×UE×UH)
noncomputable abbrev XE:=UE→UH→Option (Nat×UH)
noncomputable def FXP(X:Cx)(pins:List (Addr×Obj))(H:Hp)(α:List Addr)(n:Nat)(δ':UE)(L':UH)(e:Value)(s':Shared):Prop:=
  ∃ ea Ca dd N σ' H' α',e = .ref ea∧FlX X pins σ' H' ea Ca dd N s'∧Gr H α H' α'∧Abs X.K H' α' L'∧RepS X.K H' α' δ' σ'∧α'[n]? = some ea
theorem FXP.from{X:Cx}{pins:List (Addr×Obj)}{H H1:Hp}{α α1:List Addr}{n:Nat}{δ':UE}{L':UH}{e:Value}{s':Shared}(g:Gr H α H1 α1)(h:FXP X pins H1 α1 n δ' L' e s'):FXP X pins H α n δ' L' e s':=by
  obtain ⟨ea,Ca,dd,N,σ',H',α',h1,h2,h3,r⟩:=h
  exact ⟨ea,Ca,dd,N,σ',H',α',h1,h2,g.trans h3,r⟩
noncomputable def PXE(X:Cx)(e:Expr)(x:XE):Prop:=∀ (pins:List (Addr×Obj)) (s:Shared) (σ:L2.St) (H:Hp) (α:List Addr) (δ:UE) (L:UH) (n:Nat) (L':UH),L2.Inv X pins σ H s→Abs X.K H α L→RepS X.K H α δ σ→x δ L=some (n,L') →
  wpAny (model X.prog X.w) X.A (eval e X.env) (fun _ _=>False) (FXP X pins H α n δ L') s
noncomputable def PXS(X:Cx)(st:Stmt)(x:XS):Prop:=∀ (pins:List (Addr×Obj)) (s:Shared) (σ:L2.St) (H:Hp) (α:List Addr) (δ:UE) (L:UH) (n:Nat) (δ':UE) (L':UH),L2.Inv X pins σ H s→Abs X.K H α L→RepS X.K H α δ σ→x δ L=some (n,δ',L') →
  wpAny (model X.prog X.w) X.A (exec st X.env) (fun _ _=>False) (FXP X pins H α n δ' L') s
noncomputable def Rq(X:Cx)(sts:List Stmt)(x:XS):Prop:=∀ (pins:List (Addr×Obj)) (s:Shared) (σ:L2.St) (H:Hp) (α:List Addr) (δ:UE) (L:UH) (n:Nat) (δ':UE) (L':UH),L2.Inv X pins σ H s→Abs X.K H α L→RepS X.K H α δ σ→x δ L=some (n,δ',L') →
  wpAny (model X.prog X.w) X.A (execs sts X.env) (fun _ _=>False) (FXP X pins H α n δ' L') s
section
variable {X:Cx}{e:Expr}{es:List Expr}{st:Stmt}{pins:List (Addr×Obj)}{s:Shared}{σ:L2.St}{H:Hp}{α:List Addr}{δ:UE}{L L':UH}{E:Value→Shared→Prop}
theorem PEF.go{f:FE}{u:U}{Q:Value→Shared→Prop}(h:PEF X e f)(hx:∀ e s,X.xe e s→False)(I:L2.Inv X pins σ H s)(A:Abs X.K H α L)(S:RepS X.K H α δ σ)(hf:f δ L=some (u,L'))
    (q:∀ x v H' α' s',L2.Inv X pins σ H' s'→Gr H α H' α'→Abs X.K H' α' L'→RepU X.K H' α' u v→RelV v x→Q x s'):wpAny (model X.prog X.w) X.A (eval e X.env) Q E s:=
  wpAny_mono (h pins s σ H (fun v H'=>∃ α',Gr H α H' α'∧Abs X.K H' α' L'∧RepU X.K H' α' u v) I ⟨α,δ,L,A,S,u,L',hf,fun v H' α' g A' r=>⟨α',g,A',r⟩⟩) (fun x s' ⟨v,H',I',rv,α',g,A',r⟩=>q x v H' α' s' I' g A' r rv) fun _ _ z=>(hx _ _ z).elim
theorem PTF.go{f:FT}{b:Bool}{Q:Bool→Shared→Prop}(h:PTF X e f)(hx:∀ e s,X.xe e s→False)(I:L2.Inv X pins σ H s)(A:Abs X.K H α L)(S:RepS X.K H α δ σ)(hf:f δ L=some (b,L'))
    (q:∀ H' α' s',L2.Inv X pins σ H' s'→Gr H α H' α'→Abs X.K H' α' L'→Q b s'):wpAny (model X.prog X.w) X.A (isTrue e X.env (eval e X.env)) Q E s:=
  wpAny_mono (h pins s σ H (fun b' H'=>b'=b∧∃ α',Gr H α H' α'∧Abs X.K H' α' L') I ⟨α,δ,L,A,S,b,L',hf,fun H' α' g A'=>⟨rfl,α',g,A'⟩⟩) (fun x s' ⟨H',I',hb,α',g,A'⟩=>by subst hb;exact q H' α' s' I' g A') fun _ _ z=>(hx _ _ z).elim
theorem PAF.go{f:FA}{us:List U}{pos:Pos}{Q:List Value→Shared→Prop}(h:PAF X es f)(hx:∀ e s,X.xe e s→False)(I:L2.Inv X pins σ H s)(A:Abs X.K H α L)(S:RepS X.K H α δ σ)(hf:f δ L=some (us,L'))
    (q:∀ xs vs H' α' s',L2.Inv X pins σ H' s'→Gr H α H' α'→Abs X.K H' α' L'→RepL X.K H' α' us vs→Vals vs xs→Q xs s'):wpAny (model X.prog X.w) X.A (spliced (backTo pos (starEach es X.env))) Q E s:=
  wpAny_mono (h pos pins s σ H (fun vs H'=>∃ α',Gr H α H' α'∧Abs X.K H' α' L'∧RepL X.K H' α' us vs) I ⟨α,δ,L,A,S,us,L',hf,fun vs H' α' g A' r=>⟨α',g,A',r⟩⟩) (fun x s' ⟨vs,H',I',rv,α',g,A',r⟩=>q x vs H' α' s' I' g A' r rv) fun _ _ z=>(hx _ _ z).elim
end
section
variable {X:Cx}{e:Expr}{es:List Expr}{st:Stmt}{rest:List Stmt}{pos:Pos}
noncomputable def xNo:XS:=fun _ _=>none
theorem Alh:PXS X st xNo:=fun _ _ _ _ _ _ _ _ _ _ _ _ _ z=>nomatch z
noncomputable def Ph(f:FS)(x y:XS):XS:=fun δ L=>match x δ L with
  | some r=>some r
  | none=>match f δ L with
    | some (.nx δ',L')=>y δ' L'
    | _=>none
theorem Aca{f:FS}{x y:XS}(h:PSF X st f)(h1:PXS X st x)(h2:Rq X rest y)(hx:∀ e s,X.xe e s→False:=by exact fun _ _ z=>z):Rq X (st::rest) (Ph f x y):=by
  intro pins s σ H α δ L n δ' L' I A S q
  unfold Ph at q
  cases q1:x δ L with
  | some r=>
    rw[q1] at q
    cases q
    exact wpAny_execs_cons (wpAny_mono (h1 pins s σ H α δ L n δ' L' I A S q1) (fun _ _ z=>z.elim) fun _ _ z=>z)
  | none=>
    rw[q1] at q
    simp only at q
    split at q
    · rename_i δ1 L1 q2
      refine wpAny_execs_cons (wpAny_mono (h pins s σ H { nx:=fun σ1 H1=>∃ α1,Gr H α H1 α1∧Abs X.K H1 α1 L1∧RepS X.K H1 α1 δ1 σ1,rt:=fun _ _=>False } I ⟨α,δ,L,A,S,.nx δ1,L1,q2,fun σ1 H1 α1 g1 A1 S1=>⟨α1,g1,A1,S1⟩⟩) (fun fl s1 hs=>?_) fun _ _ z=>(hx _ _ z).elim)
      cases fl with
      | next=>
        obtain ⟨σ1,H1,I1,α1,g1,A1,S1⟩:=hs
        exact wpAny_mono (h2 pins s1 σ1 H1 α1 δ1 L1 n δ' L' I1 A1 S1 q) (fun _ _ z=>z.elim) fun _ _ z=>z.from g1
      | ret v=>obtain ⟨_,_,_,_,_,z⟩:=hs;exact z.elim
      | brk=>obtain ⟨_,_,_,z⟩:=hs;exact z.elim
      | cont=>obtain ⟨_,_,_,z⟩:=hs;exact z.elim
    · cases q
theorem Wk{x:XS}(h1:PXS X st x):Rq X [st] x:=by
  intro pins s σ H α δ L n δ' L' I A S q
  exact wpAny_execs_cons (wpAny_mono (h1 pins s σ H α δ L n δ' L' I A S q) (fun _ _ z=>z.elim) fun _ _ z=>z)
noncomputable def xOf(x:XE):XS:=fun δ L=>(x δ L).map fun r=>(r.1,δ,r.2)
theorem Aj1{x:XE}{δ δ':UE}{L L':UH}{n:Nat}(q:xOf x δ L=some (n,δ',L')):x δ L=some (n,L')∧δ' = δ:=by
  unfold xOf at q
  obtain ⟨r,h1,h2⟩:=Option.map_eq_some_iff.mp q
  cases h2
  exact ⟨h1,rfl⟩
theorem Af2{x:XE}(h:PXE X e x)(hs:swapsWith e none pos.line X.env=pure false:=by rfl):PXS X (.Expr e pos) (xOf x):=by
  intro pins s σ H α δ L n δ' L' I A S q
  obtain ⟨q,rfl⟩:=Aj1 q
  exact wpAny_Expr_any (wpAny_mono (h pins s σ H α δ' L n L' I A S q) (fun _ _ z=>z.elim) fun _ _ z=>z) I.quiet hs
noncomputable def xIf(c:FT)(x y:XS):XS:=fun δ L=>match c δ L with
  | some (b,L1)=>if b=true then x δ L1 else y δ L1
  | none=>none
theorem Alv{c:Expr}{a b:List Stmt}{tc:FT}{x y:XS}(hc:PTF X c tc)(ha:Rq X a x)(hb:Rq X b y)(hx:∀ e s,X.xe e s→False:=by exact fun _ _ z=>z):PXS X (.If c a b pos) (xIf tc x y):=by
  intro pins s σ H α δ L n δ' L' I A S q
  unfold xIf at q
  split at q
  · rename_i k L1 q1
    refine wpAny_If (hc.go hx I A S q1 fun H1 α1 s1 I1 g1 A1=>?_)
    cases k with
    | true=>exact wpAny_mono (ha pins s1 σ H1 α1 δ L1 n δ' L' I1 A1 (S.mono g1) q) (fun _ _ z=>z.elim) fun _ _ z=>z.from g1
    | false=>exact wpAny_mono (hb pins s1 σ H1 α1 δ L1 n δ' L' I1 A1 (S.mono g1) q) (fun _ _ z=>z.elim) fun _ _ z=>z.from g1
  · cases q
theorem Ajj{sts:List Stmt}:Rq X sts xNo:=fun _ _ _ _ _ _ _ _ _ _ _ _ _ z=>nomatch z
end
section
variable {X:Cx}{e o:Expr}{es:List Expr}{p pos apos:Pos}{x m C:Str}{k n:Nat}{f fa Ca:Addr}{fd:FuncData}{ps:List Str}{F:XN}{g:FA}{fo:FE}
theorem Aie{pins:List (Addr×Obj)}{σ:L2.St}{H:Hp}{α:List Addr}{δ:UE}{L L':UH}{s:Shared}{us:List Value}{vs:List V}{ws:List U}{r:Nat}{Q:Value→Shared→Prop}(hF:FnX X.prog X.w X.K X.mg X.base k f fd ps F)(hr:Room k X.A)(hb:Binds X.K fd ps [])
    (I:L2.Inv X pins σ H s) (A:Abs X.K H α L) (S:RepS X.K H α δ σ) (rv:Vals vs us) (rl:RepL X.K H α ws vs) (hl:ws.length=ps.length) (q:F ws L=some (r,L')) :
    wpAny (model X.prog X.w) X.A (call (.ref f) us) Q (FXP X pins H α r δ L') s:=by
  have h1:us.length=ps.length:=by rw[← rv.length,← rl.length];exact hl
  have hbt:BindsTo s fd ⟨us,[]⟩ (ps.zip us):=by have:=hb s us I.kIn (by rw[List.append_nil];exact h1);rwa [List.append_nil] at this
  refine wpAny_call (codeAny_mono (hF.run X.A X.stack s H ⟨us,[]⟩ us vs α L ws r L' hr I.env0 hbt rv A rl hl q) fun res s' hq=>?_)
  obtain ⟨ev,rfl,ea,Cx,dd,N,H',α',rfl,os,bare,un,hok,hN,fl,tr,me,g',A',at'⟩:=hq
  refine ⟨ea,Cx,dd,N,σ,H',α',rfl,⟨?_,.of I hN,fl,tr,me⟩,g',A',S.mono g',at'⟩
  exact I.call' os un hok bare fun b z=>absurd z (by simp)
noncomputable def Ah1(n:Nat)(F:XN)(g:FA):XE:=fun δ L=>(g δ L).bind fun p=>if p.1.length=n then F p.1 p.2 else none
theorem Age(hF:FnX X.prog X.w X.K X.mg X.base k f fd ps F)(hr:Room k X.A)(hg:Gl X x)(hm:X.mg x=some (.ref f))(hk:PySem.W.keepIn X.K (.ref f)=true)(hb:Binds X.K fd ps [])(ha:PAF X (e::es) g)
    (hn:n=ps.length:=by rfl) (hx:∀ e s,X.xe e s→False:=by exact fun _ _ z=>z) (hdb:(x == ("__debug__" : Str))=false:=by decide) (he:starEach (e::es) X.env=(false,eval e X.env)::starEach es X.env:=by rfl) (hpl:(backTo pos (starEach es X.env)).any (·.1)=false:=by rfl) :
    PXE X (.Call (.Name x p) (e::es) [] pos) (Ah1 n F g):=by
  intro pins s σ H α δ L r L' I A S q
  obtain ⟨⟨ws,L1⟩,q1,q⟩:=Option.bind_eq_some_iff.mp q
  simp only at q
  split at q
  · rename_i hl
    refine wpAny_Call_Name_kw (Jb I hg hm ?_ hdb)
    refine PySem.W.callWith_K (h₀:=X.base) I.ok.mod.kin hk (ha.go hx I A S q1 fun us vs H1 α1 s1 I1 g1 A1 rl rv=>⟨I1.kIn,?_⟩) he hpl
    exact wpAny_mono (Aie (Q:=fun _ _=>False) (δ:=δ) hF hr hb I1 A1 (S.mono g1) rv rl (hl.trans hn) q) (fun _ _ z=>z) fun _ _ z=>z.from g1
  · cases q
end
noncomputable def fnX(N m:Nat)(x:XS):XN:=fun us L=>if us.length=m then (x (us.map some++List.replicate (N - us.length) none) L).map fun r=>(r.1,r.2.2) else none
section
variable {P:Program}{w:World}{K:PySem.W.Frag}{mg:Str→Option Value}{base:Heap}
theorem Fun.okX{x qual:Str}{st:Stmt}{f:Addr}{fd:FuncData}{N ps:List Str}{k:Nat}{body:XS}(F:Fun K x qual st f fd)(S:FnScope N ps (Aj st))
    (hbody:∀ (cdv:Value) (A:Around) (outer:List PySem.Env) (s:Shared) (H:Hp) (E:XK),Room k (A.deeper (envOfC qual (Aj st) s.heap.objs.size f cdv))→Rq (Sn CX0 P w K mg base N qual (Aj st) f cdv A outer s H E).nox (Bc st) body) :
    FnX P w K mg base (k+1) f fd ps (fnX N.length ps.length body):=by
  obtain ⟨oc,od,kV,doc,pm,an,cdv,ct,osl,rfl,lk,hcd⟩:=F.ex
  refine ⟨fun A outer s H args us vs α L ws n L' hr e0 hb rv Ab rl hl q=>?_⟩
  unfold fnX at q
  rw[if_pos hl] at q
  obtain ⟨⟨n1,δ1,L1⟩,qb,q2⟩:=Option.map_eq_some_iff.mp q
  cases q2
  have hvl:vs.length=ps.length:=by rw[← rl.length];exact hl
  have KX:K.In s.heap:=e0.mod.kin.keeps fun b o e=>(e0.bs b o e).1
  have lim:s.heap.NoLimit:=e0.mod.nolimit.keeps fun b o e=>(e0.bs b o e).1
  have hkind:∀ y∈ps.zip us,(Aj st).names.lookup y.1=some .local∨((Aj st).names.lookup y.1=some .cell∧((cellsFrom (s.heap.objs.size+1) (Aj st).names []).lookup y.1).isSome=true):=fun ⟨y,v⟩ hy=>by
    rcases S.par y (List.of_mem_zip hy).1 with z | z
    · exact .inl z
    · exact .inr ⟨z,PySem.W.cellsFrom_some _ _ _ (.inl z)⟩
  refine codeAny_call_function hr.depth (KX _ _ lk) rfl S.co S.gen rfl (PySem.W.codeRec_of KX hcd) (hb _ _ _ _ ?_)
  refine wpAny_newFunctionEnv_cells S.kind hkind fun env he s1 xc=>?_
  subst he
  refine ⟨lim.keeps xc.toInCall.keep,codeAny_func ?_⟩
  have I:L2.Inv (Sn CX0 P w K mg base N qual (Aj st) f cdv A outer s H E0) [] (start N vs) H s1:=Qv S hr.hd e0 hvl rv xc
  refine wpAny_mono (hbody cdv A outer s H E0 (hr.deeper _) [] s1 (start N vs) H α _ L n1 δ1 L1 (I.wish _) Ab (RepS.start N rl) qb) (fun _ _ z=>z.elim) fun e s' hs=>?_
  obtain ⟨ea,Ca,dd,Nn,σ',H',α',rfl,Fl,g',A',S',at'⟩:=hs
  refine V0 (Around.frames_deeper e0.frames) rfl Fl.inv.stack Fl.fly fun h2 fl2 st2 fr2=>?_
  have J:=Fl.inv
  refine ⟨_,rfl,ea,Ca,dd,Nn,H',α',rfl,J.os,J.bare,?_,Xb J.hok J.stkFree Fl.tr st2 Fl.me fl2.excIs,Fl.bd.s0,fl2,Fl.tr,Fl.me,g',A',at'⟩
  refine Un.stp (fs:=frs outer) J.base st2 (fun b o hb=>⟨Nat.lt_of_lt_of_le (Heap.lt_size hb) Fl.bd.s0,fun nb m=>?_⟩) (fun b hb=>?_) (by rw[Fl.me];intro z;cases z)
  · rcases List.mem_cons.mp (J.stkSub b m) with z | z
    · exact absurd (Heap.lt_size hb) (by rw[z];exact Nat.not_lt.mpr J.ok.above)
    · exact nb z
  · show b∈frs (_::outer)
    unfold frs
    rw[List.filterMap_cons]
    exact List.mem_cons_of_mem _ hb
end
noncomputable def bmV:List Value:=[.type "ValueError",.type "Exception",.type "BaseException",.type "object"]
noncomputable def Aes(d:Data):Option ClassData:=match d with
  | .cls cd=>some cd
  | _=>none
theorem Ag1{d:Data}{cd:ClassData}(h:Aes d=some cd):d = .cls cd:=by
  unfold Aes at h
  split at h
  · cases h;rfl
  · cases h
noncomputable def Mh(K:PySem.W.Frag)(C:Addr):Bool:=match K.lookup C with
  | some o=>(o.cls == .type "type" && (match Aes o.data with | some cd=>!cd.hasDel&&(cd.mro.head? == some (.ref C)&&PySem.W.tailIn K bmV cd.mro.tail) | none=>false))&&(o.slots.toList.length == 6&&o.slots.toList[4]? == some (some (.builtin "ValueError.__new__")))
  | none=>false
theorem six{α:Type}{l:List α}{k:α}(h:l.length=6)(e:l[4]? = some k):∃ k0 k1 k2 k3 k5,l=[k0,k1,k2,k3,k,k5]:=by
  rcases l with _ | ⟨k0,l⟩
  · cases h
  rcases l with _ | ⟨k1,l⟩
  · cases h
  rcases l with _ | ⟨k2,l⟩
  · cases h
  rcases l with _ | ⟨k3,l⟩
  · cases h
  rcases l with _ | ⟨k4,l⟩
  · cases h
  rcases l with _ | ⟨k5,l⟩
  · cases h
  rcases l with _ | ⟨_,l⟩
  · cases e;exact ⟨k0,k1,k2,k3,k5,rfl⟩
  · cases h
theorem Mj{K:PySem.W.Frag}{h:Heap}{C:Addr}(X:K.In h)(q:Mh K C=true):∃ nm qn N bs bm hdct sn sub ab col dd k0 k1 k2 k3 k5,
    h.get? C=some (excClassObj nm qn C N bs bm hdct sn sub ab col dd k0 k1 k2 k3 k5 "ValueError.__new__")∧OwnTail h bmV bm:=by
  unfold Mh at q
  cases ho:K.lookup C with
  | none=>rw[ho] at q;cases q
  | some o=>
    rw[ho] at q
    obtain ⟨q1,q2⟩:=Bool.and_eq_true_iff.mp q
    obtain ⟨q1,q3⟩:=Bool.and_eq_true_iff.mp q1
    obtain ⟨q4,q5⟩:=Bool.and_eq_true_iff.mp q2
    obtain ⟨cls,dd,dat,⟨l⟩⟩:=o
    obtain ⟨k0,k1,k2,k3,k5,e6⟩:=six (beq_iff_eq.mp q4) (beq_iff_eq.mp q5)
    obtain rfl:l=_:=e6
    obtain rfl:=beq_iff_eq.mp q1
    cases hd:Aes dat with
    | none=>simp only[hd] at q3;cases q3
    | some cd=>
      simp only[hd] at q3
      obtain ⟨nm,bs,mro,ns,qn,hdt,sn,sub,ab,col,del⟩:=cd
      obtain rfl:=Ag1 hd
      obtain ⟨q6,q7⟩:=Bool.and_eq_true_iff.mp q3
      obtain ⟨q7,ht⟩:=Bool.and_eq_true_iff.mp q7
      cases mro with
      | nil=>cases beq_iff_eq.mp q7
      | cons D bm=>
        cases beq_iff_eq.mp q7
        cases del with
        | true=>cases q6
        | false=>exact ⟨nm,qn,ns,bs,bm,hdt,sn,sub,ab,col,dd,k0,k1,k2,k3,k5,X _ _ ho,PySem.W.tail_of_in X ht⟩
noncomputable abbrev Abi(rest:List Value):Obj:={ cls:=.type "tuple",data:=.seq rest.toArray }
noncomputable abbrev Vu(C t:Addr):Obj:={ cls:=.ref C,data:=.fields #[.ref t,.none,.none,.none,.bool false,.none] }
noncomputable abbrev Fz(h:Heap)(C:Addr)(rest:List Value):Heap:=(h.push (Abi rest)).push (Vu C h.objs.size)
section
variable {prog:Program}{w:World}{A:Around}{E:Value→Shared→Prop}{K:PySem.W.Frag}{C f:Addr}{rest:List Value}
theorem exHeap_e{h:Heap}:(Fz h C rest).get? (h.objs.size+1)=some (Vu C h.objs.size):=by
  have:=Heap.get?_push_size (h.push (Abi rest)) (o:=Vu C h.objs.size) rfl
  rwa [Heap.size_push] at this
theorem Tf{h:Heap}{b:Addr}{o:Obj}(q:h.get? b=some o):(Fz h C rest).get? b=some o:=Heap.get?_push_of_some _ (Heap.get?_push_of_some _ q)
theorem Aab{h:Heap}{g:Array GenState}{d:Drawn}{t:Nat}{os:OsState}{Q:Fin→Shared→Prop}(X:K.In h)(q:Mh K C=true)(hf:PySem.W.findIn K (.ref C) "__init__" = some (some (.ref f)))(ht:PySem.W.typeIn K (.ref f)=some (.type "function"))(hl:rest.length≤sizeLine)
    (k:wpAny (model prog w) A (call (.ref f) (.ref (h.objs.size+1)::rest)) (fun r s'=>r = .none∧Q (.done (.ret (.ref (h.objs.size+1)))) s') E ⟨Fz h C rest,g,d,t,os⟩) :
    wpAny (model prog w) A (Builtin.«type.__call__» ⟨.ref C::rest,[]⟩) Q E ⟨h,g,d,t,os⟩:=by
  obtain ⟨nm,qn,N,bs,bm,hdct,sn,sub,ab,col,dd,k0,k1,k2,k3,k5,hC,T⟩:=Mj X q
  have FV:ExcBaseFacts "ValueError" "ValueError.__new__" "ValueError.__init__" bmV:=PySem.F.excBase_ValueError
  repeat (first | with_reducible refine wpAny_loadPart_at hC ?_ | with_reducible refine wpAny_madeBy_exc hC ?_ | wp_step)
  refine codeAny_call_builtin_code (Code.quiet_builtin _ FV.quiet) (wpAny_check_new_subT FV T hC ?_)
  refine codeAny_exc_new_subT FV T hC ?_ hl
  show wpAny _ _ _ _ _ _
  have hC1:=Heap.get?_push_of_some { cls:=.ref C,data:=.fields #[.ref h.objs.size,.none,.none,.none,.bool false,.none] } (Heap.get?_push_of_some { cls:=.type "tuple",data:=.seq rest.toArray } hC)
  have X1:K.In (Fz h C rest):=X.keeps fun b o e=>Tf e
  have hget:((h.push { cls:=.type "tuple",data:=.seq rest.toArray }).push { cls:=.ref C,data:=.fields #[.ref h.objs.size,.none,.none,.none,.bool false,.none] }).get? (h.objs.size+1)=some { cls:=.ref C,data:=.fields #[.ref h.objs.size,.none,.none,.none,.bool false,.none] }:=exHeap_e
  have hcC:(Value.ref C::bm).contains (.ref C)=true:=by simp
  unfold isInstance
  repeat (first | with_reducible refine wpAny_loadPart_at hget ?_ | (with_reducible refine wpAny_isSubtype_exc hC1 ?_;rw[hcC]) | wp_step)
  show wpAny _ _ (typeLookup (.ref C) _) _ _ _
  refine PySem.W.Looks.here (s:=⟨Fz h C rest,g,d,t,os⟩) (PySem.W.looks_findIn X1 hf) ?_
  refine wpAny_holding (wpAny_bind ?_)
  unfold bindSpecial
  refine wpAny_bind (PySem.W.Looks.here (s:=⟨Fz h C rest,g,d,t,os⟩) (PySem.W.looks_typeIn X1 ht) ?_)
  rw[if_pos (by decide)]
  refine wpAny_pure (wpAny_bind (wpAny_mono k (fun r s' hr=>?_) fun _ _ x=>x))
  obtain ⟨rfl,hQ⟩:=hr
  wp_walk
  exact hQ
theorem Adt{s:Shared}{Q:Value→Shared→Prop}(X:K.In s.heap)(q:Mh K C=true)(hf:PySem.W.findIn K (.ref C) "__init__" = some (some (.ref f)))(ht:PySem.W.typeIn K (.ref f)=some (.type "function"))(hl:rest.length≤sizeLine)
    (k:wpAny (model prog w) (A.under (.builtin "type.__call__" ⟨.ref C::rest,[]⟩)) (call (.ref f) (.ref (s.heap.objs.size+1)::rest)) (fun r s'=>r = .none∧Q (.ref (s.heap.objs.size+1)) s') E { s with heap:=Fz s.heap C rest }) :
    wpAny (model prog w) A (call (.ref C) rest) Q E s:=by
  obtain ⟨h,g,d,t,os⟩:=s
  obtain ⟨nm,qn,N,bs,bm,hdct,sn,sub,ab,col,dd,k0,k1,k2,k3,k5,hC,T⟩:=Mj X q
  have x1:=tc_lookup
  have x2:=tc_bind (.ref C)
  have hT:(⟨h,g,d,t,os⟩:Shared).TypeIs (.ref C) "type" := ⟨_,hC,rfl⟩
  refine wpAny_call (codeAny_of_tree ?_)
  show wpAny _ _ (callAny (.ref C) _) _ _ _
  repeat (any_goals (first | assumption | with_reducible refine wpAny_loadPart_at hC ?_ | wp_step))
  refine ⟨rfl,?_⟩
  exact codeAny_call_builtin_at (Code.quiet_builtin _ (by decide +kernel)) entry_typeCall (wpAny_check_type_call_sub hC (Aab X q hf ht hl k))
end
theorem M4{P:Program}{w:World}{H:Hp}{h:Heap}{e Ca:Addr}{dd:Option Addr}{fr:Bool}(x:B5 e Ca dd fr h):ObjOk P w H h e (.ext (B5 e Ca dd fr)):=by
  obtain ⟨o,vs,h1,r⟩:=id x
  exact ⟨x,⟨o,h1⟩,fun h1 h2 ⟨o1,ws,q1,r1⟩ k=>⟨o1,ws,k _ q1,r1⟩⟩
structure MkX(K:PySem.W.Frag)(C f:Addr):Prop where
  ex:Mh K C=true
  init:PySem.W.findIn K (.ref C) "__init__" = some (some (.ref f))
  fn:PySem.W.isFn K (.ref f)=true
  kp:PySem.W.keepIn K (.ref C)=true
noncomputable def Ait(Ca:Addr)(sp:Sp)(t:TA):TE:=fun σ H Q=>t σ H fun vs H1=>vs.length≤sizeLine∧∀ x,H1 x=none→sp (.ref x::vs) (upd H1 x (.ext (B5 x Ca none true))) (fun v H2=>v = .non∧Q (.ref x) H2) E0
section
variable {X:Cx}{k n:Nat}{f Ca:Addr}{fd:FuncData}{ps:List Str}{sp:Sp}{C x:Str}{p pos apos:Pos}{e:Expr}{es:List Expr}{t:TA}
theorem Xw{pins:List (Addr×Obj)}{σ:L2.St}{H:Hp}{s:Shared}{Q:VK}{us:List Value}{vs:List V}(M:MkX X.K Ca f)(F:FnOk X.prog X.w X.K X.mg X.base CX0 k f fd ps sp)(hr:Room (k+1) X.A)(hb:Binds X.K fd ps [])
    (I:L2.Inv X pins σ H s) (r:Vals vs us) (hz:vs.length≤sizeLine) (h:∀ x,H x=none→sp (.ref x::vs) (upd H x (.ext (B5 x Ca none true))) (fun v H2=>v = .non∧Q (.ref x) H2) E0) :
    wpAny (model X.prog X.w) X.A (call (.ref Ca) us) (EP X pins σ Q) X.xe s:=by
  have hq:=h (s.heap.objs.size+1) (I.hok.fresh (Nat.le_succ _))
  have x0:B5 (s.heap.objs.size+1) Ca none true (Fz s.heap Ca us):=⟨_,_,exHeap_e,rfl,rfl,rfl,by simp,rfl,fun _=>rfl⟩
  have I2:L2.Inv X pins σ (upd H (s.heap.objs.size+1) (.ext (B5 (s.heap.objs.size+1) Ca none true))) { s with heap:=Fz s.heap Ca us,toks:=s.toks }:=I.laid (fun b u q=>Tf q) (Nat.le_succ _) (M4 x0)
  have r2:Vals (V.ref (s.heap.objs.size+1)::vs) (Value.ref (s.heap.objs.size+1)::us):=.cons rfl r
  have hl:(Value.ref (s.heap.objs.size+1)::us++[]).length=ps.length:=by rw[List.append_nil,← r2.length];exact F.len _ _ _ _ hq
  have hbt:=hb { s with heap:=Fz s.heap Ca us,toks:=s.toks } (Value.ref (s.heap.objs.size+1)::us) I2.kIn hl
  rw[List.append_nil] at hbt
  refine Adt (f:=f) I.kIn M.ex M.init (beq_iff_eq.mp M.fn) (by rw[← r.length];exact hz) ?_
  refine wpAny_call (codeAny_mono (F.run _ X.stack _ _ ⟨_,[]⟩ _ _ _ E0 (hr.make Ca us []) (I2.env0.make Ca us []) hbt r2 hq) fun r s' hq'=>?_)
  cases r with
  | error e=>exact False.elim hq'
  | ok fl=>
    cases fl with
    | ret u=>
      obtain ⟨v,H',I3,rv,ev,q3⟩:=I2.after hq'
      subst ev
      exact ⟨rv,⟨V.ref (s.heap.objs.size+1),H',I3,rfl,q3⟩⟩
    | next=>exact False.elim hq'
    | brk=>exact False.elim hq'
    | cont=>exact False.elim hq'
theorem Adv(M:MkX X.K Ca f)(F:FnOk X.prog X.w X.K X.mg X.base CX0 k f fd ps sp)(hr:Room (k+1) X.A)(hg:Gl X x)(hm:X.mg x=some (.ref Ca))(hb:Binds X.K fd ps [])
    (ha:PA X (e::es) t) (hdb:(x == ("__debug__" : Str))=false:=by decide) (he:starEach (e::es) X.env=(false,eval e X.env)::starEach es X.env:=by rfl) (hpl:(backTo pos (starEach es X.env)).any (·.1)=false:=by rfl) :
    PE X (.Call (.Name x p) (e::es) [] pos) (Ait Ca sp t):=by
  intro pins s σ H Q I h
  refine wpAny_Call_Name_kw (Jb I hg hm ?_ hdb)
  refine PySem.W.callWith_K (h₀:=X.base) I.ok.mod.kin M.kp (thn (ha pos pins s σ H _ I h) fun us s1 zz=>zz.elim fun vs H1 I1 r zq=>⟨I1.kIn,?_⟩) he hpl
  obtain ⟨z,q⟩:=zq
  exact Xw M F hr hb I1 r z q
noncomputable def Oc(C:Str)(k:Nat)(F:FN)(g:FA):FE:=fun δ L=>(g δ L).bind fun p=>if p.1.length+1=k∧p.1.length≤100 then (F (.ref p.2.length::p.1) (p.2++[.exc C true []])).bind fun q=>match q.1 with | .non=>some (.ref p.2.length,q.2) | _=>none else none
theorem Adl{F:FN}{g:FA}(hns:PySem.W.nsIn X.K mainGlobals C=some (some (.ref Ca)))(M:MkX X.K Ca f)(hF:FnOk X.prog X.w X.K X.mg X.base CX0 k f fd ps (spF X.K n F))(hr:Room (k+1) X.A)(hg:Gl X C)(hm:X.mg C=some (.ref Ca))(hb:Binds X.K fd ps [])
    (ha:PAF X (e::es) g) (hdb:(C == ("__debug__" : Str))=false:=by decide) (he:starEach (e::es) X.env=(false,eval e X.env)::starEach es X.env:=by rfl) (hpl:(backTo pos (starEach es X.env)).any (·.1)=false:=by rfl) :
    PEF X (.Call (.Name C p) (e::es) [] pos) (Oc C n F g):=by
  refine PE.imp (Adv M hF hr hg hm hb ha hdb he hpl) ?_
  rintro σ H Q ⟨α,δ,L,A,S,z,L3,ee,q⟩
  obtain ⟨⟨us,L1⟩,e1,ee⟩:=Option.bind_eq_some_iff.mp ee
  simp only at ee
  split at ee
  · rename_i hlen
    obtain ⟨⟨w,L2⟩,e2,ee⟩:=Option.bind_eq_some_iff.mp ee
    cases w with
    | non=>
      cases ee
      refine ⟨α,δ,L,A,S,us,L1,e1,fun xs H1 α1 g1 A1 r1=>⟨?_,fun x nx=>?_⟩⟩
      · rw[← r1.length];exact Nat.le_of_lt (Qn (by omega))
      obtain ⟨Ab,gb⟩:=A1.new (o:=.ext (B5 x Ca none true)) (u:=.exc C true []) nx ⟨Ca,none,[],hns,upd_same,rfl,rfl,.nil⟩
      have rx:RepU X.K (upd H1 x (.ext (B5 x Ca none true))) (α1++[x]) (.ref L1.length) (.ref x):=by
        unfold RepU
        exact ⟨x,by rw[← A1.len];simp,rfl⟩
      refine ⟨α1++[x],L1++[.exc C true []],.ref L1.length::us,Ab,.cons rx (r1.mono gb),by simpa using hlen.1,.non,L2,e2,fun v H3 α3 g3 A3 r3=>?_⟩
      have hv:v = .non:=by unfold RepU at r3;exact r3
      exact ⟨hv,q _ H3 α3 (g1.trans (gb.trans g3)) A3 (rx.mono g3)⟩
    | _=>cases ee
  · cases ee
end
noncomputable def Ab0(K:PySem.W.Frag)(B:Addr):Bool:=match PySem.W.findCls K (.ref B) (.type "type") "__init__" with
  | some (.val (.builtin id))=>id == "ValueError.__init__"
  | _=>false
structure BInit(K:PySem.W.Frag)(B:Addr):Prop where
  sp:PySem.W.specialIn K (.ref B) "__getattribute__" = some (some (.builtin "type.__getattribute__"))
  rd:PySem.W.readsIn K B (.type "type")=true
  fd:Ab0 K B=true
theorem BInit.found{K:PySem.W.Frag}{B:Addr}(b:BInit K B):PySem.W.findCls K (.ref B) (.type "type") "__init__" = some (.val (.builtin "ValueError.__init__")):=by
  have h:=b.fd
  unfold Ab0 at h
  split at h
  · rename_i id q
    rw[q,beq_iff_eq.mp h]
  · cases h
noncomputable def Aib(K:PySem.W.Frag)(t:TA):TE:=fun σ H Q=>t σ H fun vs H1=>∃ a Ca dd fr y,vs=[.ref a,y]∧H1 a=some (.ext (B5 a Ca dd fr))∧Mh K Ca=true∧Q .non H1
section
variable {X:Cx}{B:Addr}{x:Str}{p pos apos:Pos}{a b:Expr}{t:TA}
theorem V2{pins:List (Addr×Obj)}{σ:L2.St}{H:Hp}{s:Shared}{Q:VK}{ea Ca:Addr}{dd:Option Addr}{fr:Bool}{v:Value}(I:L2.Inv X pins σ H s)(he:H ea=some (.ext (B5 ea Ca dd fr)))(hc:Mh X.K Ca=true)(q:Q .non H) :
    wpAny (model X.prog X.w) X.A (call (.builtin "ValueError.__init__") [.ref ea,v]) (EP X pins σ Q) X.xe s:=by
  have x:=(I.hok ea _ he).1
  obtain ⟨o,vs,h1,h2,h3,h4,h5,h6,h7⟩:=id x
  obtain ⟨nm,qn,N,bs,bm,hdct,sn,sub,ab,col,dd',k0,k1,k2,k3,k5,hC,T⟩:=Mj I.kIn hc
  have FV:ExcBaseFacts "ValueError" "ValueError.__new__" "ValueError.__init__" bmV:=PySem.F.excBase_ValueError
  obtain ⟨h,g,d,tk,os⟩:=s
  refine wpAny_call (codeAny_call_builtin FV.init.plain FV.initEntry (wpAny_check_init_subT FV T hC h1 h2 ?_))
  unfold Builtin.«BaseException.__init__»
  dsimp only
  obtain ⟨v0,hv0⟩:∃ v0,vs[0]? = some v0:=⟨vs[0],Array.getElem?_eq_getElem (by omega)⟩
  unfold newTuple Builtin.BaseException.bexcPut
  rw[if_neg (by decide)]
  refine wpAny_bind (wpAny_newObj_type ?_ (by show (1:Nat)≤sizeLine;decide))
  have e2:(h.push { cls:=.type "tuple",data:=.seq #[v] }).get? ea=some o:=Heap.get?_push_of_some _ h1
  have fin:∀ s':Shared,s'=⟨(h.push { cls:=.type "tuple",data:=.seq #[v] }).update ea (Obj.mapFields (·.setIfInBounds 0 (Value.ref h.objs.size))),g,d,tk,os⟩→EP X pins σ Q .none s':=fun s' hs=>by
    subst hs
    have hd3:=Obj.data_mapFields h4 (·.setIfInBounds 0 (Value.ref h.objs.size))
    have e3:=Heap.get?_update_self (Obj.mapFields (·.setIfInBounds 0 (Value.ref h.objs.size))) e2 (Obj.isFreed_of_fields hd3)
    refine ⟨.non,H,?_,rfl,q⟩
    have hupd:upd H ea (.ext (B5 ea Ca dd fr))=H:=by
      funext b
      unfold upd
      split
      · rename_i hb;rw[hb,he]
      · rfl
    have J:=I.write (h':=(h.push { cls:=.type "tuple",data:=.seq #[v] }).update ea (Obj.mapFields (·.setIfInBounds 0 (Value.ref h.objs.size)))) (x:=ea) (e:=ea) (o:=.ext (B5 ea Ca dd fr)) (t':=tk) (by rw[he];exact True.intro) (.inl rfl) (fun b u hb z=>by
      rw[Heap.get?_update_other _ _ (Ne.symm hb)]
      exact Heap.get?_push_of_some _ z) ⟨_,e3⟩ (M4 (by obtain ⟨o2,g1,g2,g3,g4,g5,g6⟩:=Ue h4 ⟨⟨h2,h3⟩,h5,h6⟩ e3;exact ⟨o2,_,g1,g2,g3,g4,g5,g6,fun z=>by rw[Array.getElem?_setIfInBounds_ne (by decide)];exact h7 z⟩))
    rw[hupd] at J
    exact J
  refine wpAny_bind (wpAny_bind (wpAny_field e2 h4 hv0 (wpAny_bind (wpAny_setField e2 h4 (by omega) ?_))))
  cases v0 with
  | ref a0=>exact wpAny_letGo (wpAny_pure (fin _ rfl))
  | _=>exact wpAny_pure (wpAny_pure (fin _ rfl))
theorem Aa4{pl:Sem Bool}(Bi:BInit X.K B)(hg:Gl X x)(hm:X.mg x=some (.ref B))(ha:PA X [a,b] t)(hdb:(x == ("__debug__" : Str))=false:=by decide)
    (hst:starEach [a,b] X.env=(false,eval a X.env)::starEach [b] X.env:=by rfl) (hpl:(backTo pos (starEach [b] X.env)).any (·.1)=false:=by rfl)
    (ht:eval (.Call (.Attribute (.Name x p) "__init__" apos) [a,b] [] pos) X.env=(do
      let ov ← eval (.Name x p) X.env
      standAt apos.atName
      let (f,first) ← holding [ov] (getMethod ov "__init__" pl)
      callWith pos f first (backTo pos (starEach [a,b] X.env)) (backToKw pos (keywordEach [] X.env))):=by rfl) :
    PE X (.Call (.Attribute (.Name x p) "__init__" apos) [a,b] [] pos) (Aib X.K t):=by
  intro pins s σ H Q I h
  refine PySem.W.methodCall_KW (pl:=pl) (Jb I hg hm ?_ hdb) ht
  refine PySem.W.method_cls I.kIn Bi.sp (PySem.W.cls_value I.kIn Bi.rd Bi.found (by decide +kernel) ?_)
  have I1:=I.tok (s.toks+1)
  have hA:=ha pos pins { s with toks:=s.toks+1 } σ H _ I1 h
  rw[hst] at hA ⊢
  refine Calls.callWith_builtin (by show (false || (backTo pos (starEach [b] X.env)).any (·.1))=false;rw[hpl] <;> rfl) (Calls.evalArgs_plain ?_)
  refine thn hA fun us s2 zz=>zz.elim fun vs H2 I2 r2 zq=>?_
  obtain ⟨ea,Ca,dd,fr,y,hv,he,hc,q2⟩:=zq
  subst hv
  obtain ⟨u1,u2,rfl,ru1,ru2⟩:=r2.two
  obtain rfl:u1=Value.ref ea:=ru1
  exact V2 I2 he hc q2
noncomputable def AllX(K:PySem.W.Frag)(Cs:List Str):Prop:=∀ C∈Cs,∀ Ca,PySem.W.nsIn K mainGlobals C=some (some (.ref Ca))→Mh K Ca=true
noncomputable def Kz(Cs:List Str)(g:FA):FE:=fun δ L=>(g δ L).bind fun p=>match p.1 with
  | [.ref n,_]=>match p.2[n]? with
    | some (.exc C _ _)=>if C∈Cs then some (.non,p.2) else none
    | _=>none
  | _=>none
theorem Abt{pl:Sem Bool}{Cs:List Str}{g:FA}(hC:AllX X.K Cs)(Bi:BInit X.K B)(hg:Gl X x)(hm:X.mg x=some (.ref B))(ha:PAF X [a,b] g)(hdb:(x == ("__debug__" : Str))=false:=by decide)
    (hst:starEach [a,b] X.env=(false,eval a X.env)::starEach [b] X.env:=by rfl) (hpl:(backTo pos (starEach [b] X.env)).any (·.1)=false:=by rfl)
    (ht:eval (.Call (.Attribute (.Name x p) "__init__" apos) [a,b] [] pos) X.env=(do
      let ov ← eval (.Name x p) X.env
      standAt apos.atName
      let (f,first) ← holding [ov] (getMethod ov "__init__" pl)
      callWith pos f first (backTo pos (starEach [a,b] X.env)) (backToKw pos (keywordEach [] X.env))):=by rfl) :
    PEF X (.Call (.Attribute (.Name x p) "__init__" apos) [a,b] [] pos) (Kz Cs g):=by
  refine PE.imp (Aa4 (pl:=pl) Bi hg hm ha hdb hst hpl ht) ?_
  rintro σ H Q ⟨α,δ,L,A,S,z,L3,ee,q⟩
  obtain ⟨⟨us,L1⟩,e1,ee⟩:=Option.bind_eq_some_iff.mp ee
  refine ⟨α,δ,L,A,S,us,L1,e1,fun xs H1 α1 g1 A1 r1=>?_⟩
  simp only at ee
  split at ee
  · rename_i n w
    split at ee
    · rename_i C fr fs hL
      split at ee
      · rename_i hin
        cases ee
        obtain ⟨x1,x2,rfl,rx1,rx2⟩:=r1.two
        obtain ⟨a,ea,Ca,dd,vs,hns,ha,_⟩:=A1.addr hL
        obtain ⟨a',ea',rfl⟩:=rx1.ref_of A1
        rw[ea] at ea';cases ea'
        exact ⟨a,Ca,dd,fr,x2,rfl,ha,hC C hin Ca hns,q _ H1 α1 g1 A1 rfl⟩
      · cases ee
    · cases ee
  · cases ee
end
theorem Abw{M:Model}{A:Around}{E:Value→Shared→Prop}{s:Shared}{env:PySem.Env}{K:PySem.W.Frag}{x:Sem Value}{Q:Flow→Shared→Prop}{Ca ea:Addr}(hh:A.handled=none)
    (h:wpAny M A x (fun v s1=>∃ ea Ca dd,v = .ref ea∧K.In s1.heap∧Mh K Ca=true∧B5 ea Ca dd true s1.heap∧E (.ref ea) s1) E s):wpAny M A (raiseStmt env (some x) none) Q E s:=by
  unfold raiseStmt
  refine wpAny_bind (wpAny_mono h (fun v s1 h1=>?_) fun _ _ z=>z)
  obtain ⟨ea,Ca,dd,rfl,X,hc,⟨o,vs,h1,h2,h3,h4,h5,h6,h7⟩,hE⟩:=h1
  obtain ⟨cl,di,da,sl⟩:=o
  dsimp only at h2 h3 h4 h6
  subst h2 h3 h4 h6
  obtain ⟨nm,qn,N,bs,bm,hdct,sn,sub,ab,col,dd',k0,k1,k2,k3,k5,hC,T⟩:=Mj X hc
  have hb:(Value.ref Ca::bm).contains (.type "BaseException")=true:=by rw[List.contains_cons,T.hasType PySem.F.excBase_ValueError.hasBase,Bool.or_true]
  obtain ⟨hp,g,d,tk,os⟩:=s1
  have h8:=h7 rfl
  repeat (first | with_reducible refine wpAny_loadPart_at h1 ?_ | with_reducible refine wpAny_loadPart_at hC ?_ | (with_reducible refine wpAny_isSubtype_exc hC ?_;rw[hb]) | with_reducible refine wpAny_field h1 rfl h8 ?_ | wp_step)
  exact wpAny_raiseNew_none hh hE
noncomputable def R4(Cs:List Str)(fe:FE):XS:=fun δ L=>(fe δ L).bind fun p=>match p.1 with
  | .ref n=>match p.2[n]? with
    | some (.exc C true fs)=>if C∈Cs then some (n,δ,p.2.set n (.exc C false fs)) else none
    | _=>none
  | _=>none
section
variable {X:Cx}{e:Expr}{pos:Pos}{fe:FE}{Cs:List Str}
theorem Ado(hA:AllX X.K Cs)(he:PEF X e fe)(hc:X.calm=true:=by rfl)(hx:∀ e s,X.xe e s→False:=by exact fun _ _ z=>z):PXS X (.Raise (some e) none pos) (R4 Cs fe):=by
  intro pins s σ H α δ L n δ' L' I A S q
  obtain ⟨⟨u,L1⟩,q1,q2⟩:=Option.bind_eq_some_iff.mp q
  simp only at q2
  split at q2
  · rename_i m
    split at q2
    · rename_i C fs hL
      split at q2
      · rename_i hin
        cases q2
        rw[arm_exec_Raise]
        show wpAny _ _ (do standAt pos;raiseStmt X.env (some (do let v ← eval e X.env;standAt pos;pure v)) none) _ _ _
        refine wpAny_bind (wpAny_standAt (Abw (K:=X.K) (Ca:=0) (ea:=0) (I.ok.hd hc) (wpAny_bind (he.go hx I A S q1 fun x v H1 α1 s1 I1 g1 A1 r1 rv=>wpAny_bind (wpAny_standAt (wpAny_pure ?_))))))
        obtain ⟨a,ea,Ca,dd,vs,hns,ha,hd,hk,rr⟩:=A1.addr hL
        obtain ⟨a',ea',rfl⟩:=r1.ref_of A1
        rw[ea] at ea';cases ea'
        obtain rfl:x=Value.ref a:=rv
        have hex:=(I1.hok a _ ha).1
        refine ⟨a,Ca,dd,rfl,I1.kIn,hA C hin Ca hns,hex,?_⟩
        obtain ⟨o,ws,h1,h2,h3,h4,h5,h6,h7⟩:=id hex
        have hxf:B5 a Ca dd false s1.heap:=⟨o,ws,h1,h2,h3,h4,h5,h6,fun z=>nomatch z⟩
        have g2:Gr H1 α1 (upd H1 a (.ext (B5 a Ca dd false))) α1:=⟨⟨[],by simp⟩,.write ha (by exact trivial) _⟩
        obtain ⟨A2,_⟩:=A1.put (o:=.ext (B5 a Ca dd false)) (u:=.exc C false fs) ea hL rfl rfl ha (by exact trivial) ⟨Ca,dd,vs,hns,upd_same,hd.stay (fun b o ws q=>g2.st.2 b o _ q),hk,rr.mono g2⟩
        have I2:=I1.write (h':=s1.heap) (t':=s1.toks) (x:=a) (e:=a) (o:=.ext (B5 a Ca dd false)) (by rw[ha];exact True.intro) (.inl rfl) (fun b u _ z=>z) ⟨_,h1⟩ (M4 hxf)
        refine ⟨a,Ca,dd,s1.heap.objs.size,σ,_,α1,rfl,⟨I2,.of I1 (Nat.le_refl _),⟨Nat.le_refl _,.inl ⟨ws,⟨o,h1,h2,h3,h4,h5,h6⟩,h7 rfl⟩⟩,fun b o2 hb=>I2.hok.lt hb,upd_same⟩,g1.trans g2,A2,(S.mono g1).mono g2,ea⟩
      · cases q2
    · cases q2
  · cases q2
end
noncomputable abbrev hld(X:Cx)(e:Addr):Cx:={ X with A:=X.A.mark (some (.ref e)),calm:=false }
theorem Ok.hld{X:Cx}(ok:X.Ok)(e:Addr):(hld X e).Ok:=
  ⟨ok.mod,ok.kind,ok.glob,ok.blt,ok.above,ok.inj,ok.has,ok.cab,(fun z=>(nomatch z)),ok.frames,ok.stk,ok.exf,ok.bs,ok.bsz,ok.noex,ok.exfs,ok.funs,ok.frf⟩
theorem Inv.hld{X:Cx}{pins:List (Addr×Obj)}{σ:L2.St}{H:Hp}{s:Shared}(I:L2.Inv X pins σ H s)(e:Addr):L2.Inv (hld X e) pins σ H s:=⟨Ok.hld I.ok e,I.os,I.bare,I.base,I.loc,I.cell,I.free,I.freeC,I.pin,I.hok,I.len⟩
theorem Inv.unhld{X:Cx}{pins:List (Addr×Obj)}{σ:L2.St}{H:Hp}{s:Shared}{e:Addr}(ok:X.Ok)(I:L2.Inv (MR.hld X e) pins σ H s):L2.Inv X pins σ H s:=⟨ok,I.os,I.bare,I.base,I.loc,I.cell,I.free,I.freeC,I.pin,I.hok,I.len⟩
theorem Aex{X:Cx}{pins:List (Addr×Obj)}{σ:L2.St}{H:Hp}{s:Shared}{M:Model}{A:Around}{E:Value→Shared→Prop}{i:Nat}{n:Str}{pos:Pos}{Q:Unit→Shared→Prop}(I:L2.Inv X pins σ H s)(hN:X.N.Nodup)(hi:X.N[i]? = some n)(hl:X.env.kindOf n=some .local)
    (q:∀ s',L2.Inv X pins (σ.set i none) H s'→Q () s'):wpAny M A (do bindName X.env n .none;unbindBehindTheSuite X.env n pos) Q E s:=by
  obtain ⟨m,hn,hloc⟩:=id I.loc
  have hcls:(X.env.scope.kind == .class || (X.env.scope.kind == .module&&X.env.locals != X.env.globals))=false:=by rw[I.ok.kind];rfl
  obtain ⟨oL,_,_,hoL,_⟩:=id hn
  refine wpAny_nameGoes_keeps hl hn hcls fun h' v hn' hs=>q _ ?_
  have far:∀ b o,X.s₀.heap.get? b=some o→b≠X.env.locals:=fun b o e=>Nat.ne_of_lt (Nat.lt_of_lt_of_le (Heap.lt_size e) I.ok.above)
  refine ⟨I.ok,I.os,I.bare,⟨fun b o e n hb hx=>(hs.2 b (far b o e)).trans (I.base.keep b o e n hb hx),fun b o e n hb hx=>?_,I.base.free,fun b o e hx=>?_,I.base.tups,I.base.frzs,I.base.tbls⟩,⟨_,hn',fun j y w e1 e2 e3=>?_⟩,fun y c e=>?_,I.free,I.freeC,fun p hp=>?_,fun b ob e=>?_,by simpa using I.len⟩
  · obtain ⟨sl,e1⟩:=I.base.slot b o e n hb hx
    exact ⟨sl,(hs.2 b (far b o e)).trans e1⟩
  · obtain ⟨o',e1⟩:=I.base.there b o e hx
    exact ⟨o',(hs.2 b (far b o e)).trans e1⟩
  · have hj:j≠i:=by
      rintro rfl
      by_cases hz:j < σ.length
      · rw[List.getElem?_set_self hz] at e2;cases e2
      · rw[List.getElem?_eq_none (by simpa using hz)] at e2;cases e2
    rw[List.getElem?_set_ne (Ne.symm hj)] at e2
    obtain ⟨u,r,l⟩:=hloc j y w e1 e2 e3
    refine ⟨u,r,?_⟩
    rcases l with ⟨k,e⟩ | ⟨k,c,e,z⟩
    · refine .inl ⟨k,?_⟩
      have:y≠n:=fun e=>hj (Oa hN e1 (e ▸ hi))
      simp[this,e]
    · exact .inr ⟨k,c,e,z.sameBut hs (I.cne y c e)⟩
  · obtain ⟨w,z⟩:=I.cell y c e
    exact ⟨w,z.sameBut hs (I.cne y c e)⟩
  · obtain ⟨e,n,ne,nf,d⟩:=I.pin p hp
    exact ⟨(hs.2 p.1 ne).trans e,n,ne,nf,d⟩
  · refine (I.hok b ob e).stay (fun c w hc z=>(hs.2 c ?_).trans z) (fun _ z=>z) fun _ _ z=>z
    rintro rfl
    rcases hc with hc | hc
    · rw[← hc,I.free] at e;cases e
    · rw[I.free] at hc;cases hc
theorem RepS.unset{K:PySem.W.Frag}{H:Hp}{α:List Addr}{δ:UE}{σ:L2.St}(h:RepS K H α δ σ)(i:Nat):RepS K H α (δ.set i none) (σ.set i none):=
  ⟨by simp[h.len],fun j w e=>by
    by_cases hj:i=j
    · subst hj
      by_cases hi:i < δ.length
      · rw[List.getElem?_set_self hi] at e;cases e
      · rw[List.getElem?_eq_none (by simpa using hi)] at e;cases e
    · rw[List.getElem?_set_ne hj] at e
      obtain ⟨v',q,r'⟩:=h.at_ j w e
      exact ⟨v',by rw[List.getElem?_set_ne hj];exact q,r'⟩⟩
theorem Vk{M:Model}{A:Around}{E:Value→Shared→Prop}{s:Shared}{base:Heap}{N:Nat}{l:List PySem.Env}{e Ca:Addr}{dd:Option Addr}{Q:Unit→Shared→Prop}(fr:s.heap.FunFrames base l)(F:Fly N e Ca dd s.heap)
    (hQ:∀ h',Fly N e Ca dd h'→Stp N (frs l) e s.heap h'→h'.FunFrames base l→Q () { s with heap:=h' }):wpAny M A (setFlight (.ref e) none) Q E s:=by
  rcases F.2 with ⟨vs,hx,h1⟩ | ⟨fl,T⟩
  · obtain ⟨oe,he,hc,hdd,hd,hsz,hsl⟩:=id hx
    unfold setFlight
    refine wpAny_bind (wpAny_field he hd h1 ?_)
    rw[if_neg (by decide)]
    exact wpAny_pure (hQ s.heap F ⟨fun _ _ _ _ _ z=>z,fun b o _ z=>⟨o.slots,z⟩,fun b o z=>⟨o,z⟩,Nat.le_refl _⟩ fr)
  · exact Me fr T fun h2 F2 u2 fr2=>hQ h2 ⟨Nat.le_trans F.1 u2.sz,.inr ⟨_,F2⟩⟩ u2 fr2
noncomputable def AllM(K:PySem.W.Frag)(Cs:List Str)(D:Addr):Prop:=∀ C∈Cs,∀ Ca,PySem.W.nsIn K mainGlobals C=some (some (.ref Ca))→PySem.W.exmOne K (.ref Ca) (.ref D)=some true
noncomputable def Yk(b:FS)(x:XS)(Cs:List Str)(i:Nat)(suite:FS):FS:=fun δ L=>match x δ L with
  | some (n,δ1,L1)=>match L1[n]? with
    | some (.exc C _ _)=>if C∈Cs then (suite (δ1.set i (some (.ref n))) L1).bind fun p=>match p.1 with
        | .nx δ2=>some (.nx (δ2.set i none),p.2)
        | _=>none
      else none
    | _=>none
  | none=>b δ L
section
variable {X:Cx}{body suite:List Stmt}{b0:Stmt}{x n:Str}{np hpos pos:Pos}{D:Addr}{Cs:List Str}{fb fs:FS}{xb:XS}{i:Nat}
theorem Afk(hM:AllM X.K Cs D)(hN:X.N.Nodup)(hb:Nl X body fb)(hx:Rq X body xb)(hs:∀ e,Nl (hld X e) (b0::suite) fs)(hg:Gl X x)(hm:X.mg x=some (.ref D))
    (hi:X.N[i]? = some n:=by rfl) (hl:X.env.kindOf n=some .local:=by rfl) (hxe:∀ e s,X.xe e s→False:=by exact fun _ _ z=>z) (hst:X.stack=X.env::X.outer:=by rfl) (hfr:X.env.frame=some X.env.locals:=by rfl)
    (hdb:(x == ("__debug__" : Str))=false:=by decide):PSF X (.Try body [.ExceptHandler (some (.Name x np)) (some n) (b0::suite) hpos] [] [] pos) (Yk fb xb Cs i fs):=by
  intro pins s σ H E I h
  obtain ⟨α,δ,L,A,S,fl,L',ee,q⟩:=h
  refine wpAny_Try_except ?_
  unfold Yk at ee
  cases q1:xb δ L with
  | none=>
    rw[q1] at ee
    refine wpAny_mono (hb pins s σ H E I ⟨α,δ,L,A,S,fl,L',ee,q⟩) (fun f s1 h1=>?_) fun _ _ z=>(hxe _ _ z).elim
    cases f with
    | next=>exact wpAny_execs_nil h1
    | ret v=>exact h1
    | brk=>exact h1
    | cont=>exact h1
  | some r=>
    obtain ⟨k,δ1,L1⟩:=r
    rw[q1] at ee
    simp only at ee
    split at ee
    · rename_i C fr0 fs0 hL
      split at ee
      · rename_i hin
        obtain ⟨⟨fl2,L2⟩,e2,e3⟩:=Option.bind_eq_some_iff.mp ee
        cases fl2 with
        | nx δ2=>
          cases e3
          refine wpAny_mono (hx pins s σ H α δ L k δ1 L1 I A S q1) (fun _ _ z=>z.elim) fun ev s1 hf=>?_
          obtain ⟨ea,Ca,dd,N,σ1,H1,α1,rfl,Fl,g1,A1,S1,at1⟩:=hf
          have hfrm:X.A.frames=some (X.env::X.outer):=by rw[← hst];exact Fl.inv.ok.frames
          have hstk:s1.heap.FunFrames X.base (X.env::X.outer):=by rw[← hst];exact Fl.inv.stack
          refine W0 hfrm hfr hstk Fl.fly fun h2 F2 u2 fr2=>?_
          have Fl2:=Fl.step (h':=h2) (by rw[hst];exact u2) F2
          have J2:=Inv.hld Fl2.inv ea
          obtain ⟨ox,vx,y1,y2,_⟩:=id F2.excIs
          obtain ⟨a,ea',Cb,dd',vs,hns,hav,_⟩:=A1.addr hL
          rw[at1] at ea';cases ea'
          have hCa:Cb=Ca:=by
            have hh:=Fl.me
            rw[hav] at hh
            have:=(Fl2.inv.hok ea _ hav).1
            obtain ⟨o3,_,z1,z2,_⟩:=this
            rw[y1] at z1;cases z1
            rw[y2] at z2;cases z2;rfl
          subst hCa
          have LT:PySem.W.Looks (model X.prog X.w) h2 (typeOf (.ref ea)) (.ref Cb):=by
            have z:PySem.W.Looks (model X.prog X.w) h2 (typeOf (.ref ea)) ox.cls:=(PySem.W.Looks.ld y1).andThen .now
            rw[y2] at z
            exact z
          refine wpAny_handleBy_cons (codeAny_handlers_test ?_) (by intro z;cases z)
          refine Jb (X:=hld X ea) J2 hg hm ?_ hdb
          refine PySem.W.Looks.here (s:={ s1 with heap:=h2 }) (PySem.W.exm_one Fl2.inv.kIn LT (hM C hin Cb hns)) ?_
          refine codeAny_handlers_suite_as ?_
          refine Vk (s:={ s1 with heap:=h2 }) fr2 F2 fun h3 F3 u3 fr3=>?_
          have Fl3:=Fl2.step (h':=h3) (by rw[hst];exact u3) F3
          have J3:=Inv.hld Fl3.inv ea
          refine Oe (X:=hld X ea) (v:=.ref ea) J3 hN hi (.inl hl) rfl (fun s4 J4=>?_) (.inr hl)
          refine wpAny_mono (hs ea pins s4 _ H1 { nx:=fun σ2 H2=>∃ α2,Gr H1 α1 H2 α2∧Abs X.K H2 α2 L2∧RepS X.K H2 α2 δ2 σ2,rt:=fun _ _=>False } J4 ⟨α1,_,L1,A1,S1.set i (u:=.ref k) (v:=.ref ea) (by unfold RepU;exact ⟨ea,at1,rfl⟩),.nx δ2,L2,e2,fun σ2 H2 α2 g2 A2 S2=>⟨α2,g2,A2,S2⟩⟩) (fun f s5 h5=>?_) fun _ _ z=>(hxe _ _ z).elim
          cases f with
          | next=>
            obtain ⟨σ2,H2,J5,α2,g2,A2,S2⟩:=h5
            have I5:=Inv.unhld I.ok J5
            refine Aex I5 hN hi hl fun s6 I6=>?_
            exact ⟨_,H2,I6,q _ H2 α2 (g1.trans g2) A2 (S2.unset i)⟩
          | ret v=>obtain ⟨_,_,_,_,_,z⟩:=h5;exact z.elim
          | brk=>obtain ⟨_,_,_,z⟩:=h5;exact z.elim
          | cont=>obtain ⟨_,_,_,z⟩:=h5;exact z.elim
        | rt w=>cases e3
        | bk w=>cases e3
        | ct w=>cases e3
      · cases ee
    · cases ee
end
noncomputable def Aia(K:PySem.W.Frag)(C:Addr):Bool:=Mh K C&&PySem.W.findIn K (.ref C) "__getattribute__" == some (some (.builtin "BaseException.__getattribute__"))&&PySem.W.findIn K (.ref C) "__getattr__" == some none &&
  PySem.W.subIn K (.ref C) (.type "BaseException") == some true&&PySem.W.findIn K (.ref C) "__class__" == some (some (.builtin "object.__class__"))&&PySem.W.mroIn K C (.type "object") == some true&&PySem.W.hasDictIn K C &&
  PySem.W.specialIn K (.builtin "object.__class__") "__get__" == some (some (.builtin "getset_descriptor.__get__"))&&PySem.W.takesIn K (.builtin "object.__class__") == some true
structure ExcA(K:PySem.W.Frag)(C:Addr):Prop where
  ex:Mh K C=true
  ga:PySem.W.findIn K (.ref C) "__getattribute__" = some (some (.builtin "BaseException.__getattribute__"))
  gk:PySem.W.findIn K (.ref C) "__getattr__" = some none
  sb:PySem.W.subIn K (.ref C) (.type "BaseException")=some true
  cl:PySem.W.findIn K (.ref C) "__class__" = some (some (.builtin "object.__class__"))
  mo:PySem.W.mroIn K C (.type "object")=some true
  hd:PySem.W.hasDictIn K C=true
  sg:PySem.W.specialIn K (.builtin "object.__class__") "__get__" = some (some (.builtin "getset_descriptor.__get__"))
  tk:PySem.W.takesIn K (.builtin "object.__class__")=some true
theorem Afq{K:PySem.W.Frag}{C:Addr}(h:Aia K C=true):ExcA K C:=by
  unfold Aia at h
  simp only[Bool.and_eq_true,beq_iff_eq] at h
  obtain ⟨⟨⟨⟨⟨⟨⟨⟨a,b⟩,c⟩,d⟩,e⟩,f⟩,g⟩,i⟩,j⟩:=h
  exact ⟨a,b,c,d,e,f,g,i,j⟩
noncomputable def isX(C D:Str):Bool:=C == D || D == "BelowError" || D == "ValueError"
noncomputable def Y6(K:PySem.W.Frag)(D:Str):Option Value:=match PySem.W.nsIn K mainGlobals D with
  | some (some (.ref a))=>some (.ref a)
  | some none=>if D == "ValueError" then some (.type "ValueError") else none
  | _=>none
noncomputable def Oi(K:PySem.W.Frag)(Cs Ds:List Str):Bool:=Cs.all fun C=>match PySem.W.nsIn K mainGlobals C with
  | some (some (.ref a))=>Aia K a&&Ds.all fun D=>match Y6 K D with
    | some v=>PySem.W.kitOne K (.ref a) v == some (isX C D)&&(!isX C D || PySem.W.exmOne K (.ref a) v == some true)
    | none=>false
  | _=>false
section
variable {K:PySem.W.Frag}{Cs Ds:List Str}
theorem Iv(T:Oi K Cs Ds=true){C:Str}{Ca:Addr}(hC:C∈Cs)(hn:PySem.W.nsIn K mainGlobals C=some (some (.ref Ca))):ExcA K Ca∧∀ D∈Ds,∃ v,Y6 K D=some v∧PySem.W.kitOne K (.ref Ca) v=some (isX C D)∧(isX C D=true→PySem.W.exmOne K (.ref Ca) v=some true):=by
  have h:=List.all_eq_true.mp T C hC
  rw[hn] at h
  simp only[Bool.and_eq_true] at h
  refine ⟨Afq h.1,fun D hD=>?_⟩
  have h2:=List.all_eq_true.mp h.2 D hD
  split at h2
  · rename_i v hv
    simp only[Bool.and_eq_true,beq_iff_eq,Bool.or_eq_true,Bool.not_eq_true'] at h2
    exact ⟨v,hv,h2.1,fun z=>h2.2.resolve_left (by rw[z];exact Bool.noConfusion)⟩
  · cases h2
theorem AllX.of(T:Oi K Cs Ds=true):AllX K Cs:=fun C hC Ca hn=>(Iv T hC hn).1.ex
theorem Ks{D:Str}{Da:Addr}(h:PySem.W.nsIn K mainGlobals D=some (some (.ref Da))):Y6 K D=some (.ref Da):=by unfold Y6;rw[h]
theorem AllM.of{D:Str}{Da:Addr}(T:Oi K Cs Ds=true)(hD:D∈Ds)(hn:PySem.W.nsIn K mainGlobals D=some (some (.ref Da)))(ha:Cs.all (fun C=>isX C D)=true):AllM K Cs Da:=fun C hC Ca hc=>by
  obtain ⟨v,hv,_,h2⟩:=(Iv T hC hc).2 D hD
  rw[Ks hn] at hv
  cases hv
  exact h2 (List.all_eq_true.mp ha C hC)
theorem AllM.sub{Es:List Str}{D:Str}{Da:Addr}(T:Oi K Cs Ds=true)(hs:∀ C∈Es,C∈Cs)(hD:D∈Ds)(hn:PySem.W.nsIn K mainGlobals D=some (some (.ref Da)))(ha:Es.all (fun C=>isX C D)=true):AllM K Es Da:=fun C hC Ca hc=>by
  obtain ⟨v,hv,_,h2⟩:=(Iv T (hs C hC) hc).2 D hD
  rw[Ks hn] at hv
  cases hv
  exact h2 (List.all_eq_true.mp ha C hC)
end
section
variable {prog:Program}{w:World}{A:Around}{E:Value→Shared→Prop}{s:Shared}{K:PySem.W.Frag}{x C:Addr}{ox:Obj}{od:Option Obj}{name:Str}
theorem Ahy{fill expr:Bool}{tk:Tok}{Q:Value→Shared→Prop}(X:K.In s.heap)(T:ExcA K C)(I:PySem.W.InstAt s.heap x ox C od)
    (h:wpAny (model prog w) A.in1 (Builtin.«object.__getattribute__» ⟨[.ref x,.str name tk],[]⟩) (fun fin s'=>match fin with | .done (.ret v)=>wpAny (model prog w) A (handedOut v) Q E s' | _=>False) (fun _ _=>False) s) :
    wpAny (model prog w) A (getAttrBy (.ref x) (.str name tk) fill expr) Q E s:=by
  have FB:=PySem.F.attr_ValueError
  have hB:(Value.builtin "BaseException.__getattribute__" == Value.builtin "object.__getattribute__")=false:=by decide +kernel
  unfold getAttrBy
  refine wpAny_holding (wpAny_bind (I.type.here (wpAny_bind ((PySem.W.looks_findIn X T.ga).here ?_))))
  dsimp only
  rw[hB,Bool.and_false,if_neg (by decide)]
  unfold getAttrByItsOwn
  refine wpAny_bind ((PySem.W.looks_hook X (mc:=.ref C) (r:=none) (by rw[if_pos (show onTheHeap (.ref C)=true from rfl)];exact T.gk)).here (wpAny_bind (wpAny_attempt (wpAny_holding ?_))))
  unfold callGetattribute
  rw[show (expr&&onTheHeap (Value.builtin "BaseException.__getattribute__"))=false from Bool.and_false _,if_neg (by decide)]
  unfold boundAndCalled
  rw[FB.ga.bind]
  refine wpAny_bind (wpAny_pure ?_)
  show wpAny _ _ (call (.builtin "BaseException.__getattribute__") [.ref x,.str name tk]) _ _ _
  refine wpAny_call (codeAny_call_builtin FB.ga.plain PySem.F.entry_bexc_ga ?_)
  refine @PySem.W.check_slot (model prog w) _ _ s "BaseException.__getattribute__" "BaseException" "__getattribute__" (.ref x) [.str name tk] [] _ (by decide +kernel) (by decide +kernel) (I.type.andThen (PySem.W.looks_subIn X T.sb)) (PySem.F.args_bexc_ga (.ref x) (.str name tk)) ?_
  refine wpAny_mono h (fun fin s' z=>?_) fun _ _ z=>z.elim
  rcases fin with (_ | _ | _ | _) | _ <;> first | exact z | exact z.elim
theorem Ai5{r:Builtin.ObjectAttr.Found}{tk:Tok}{Q:Fin→Shared→Prop}(X:K.In s.heap)(I:PySem.W.InstAt s.heap x ox C od)(hf:PySem.W.findObj K C od name=some r)
    (h:match r with
      | .value v=>Q (.done (.ret v)) s
      | .bind g a=>wpAny (model prog w) A (call g [a,.ref x,.ref C]) (fun v s'=>Q (.done (.ret v)) s') E s
      | .missing=>False):wpAny (model prog w) A (Builtin.«object.__getattribute__» ⟨[.ref x,.str name tk],[]⟩) Q E s:=by
  unfold Builtin.«object.__getattribute__»
  refine wpAny_bind (wpAny_pure ?_)
  refine wpAny_bind (wpAny_pure ?_)
  refine wpAny_bind (I.type.here (wpAny_bind ((PySem.W.looks_find X I hf).here ?_)))
  cases r with
  | value v=>exact wpAny_pure h
  | bind g a=>
    show wpAny _ _ (holding [a] (call g [a,.ref x,.ref C]) >>= ret) _ _ _
    exact wpAny_bind (wpAny_holding (wpAny_mono h (fun v s' z=>wpAny_pure z) fun _ _ z=>z))
  | missing=>exact h.elim
theorem Tj(T:ExcA K C):PySem.W.KitX K (.ref x) (.ref C) (fun h=>PySem.W.InstAt h x ox C od) where
  ty:=fun _ _ _ I=>I.type
  it:=fun _ _ X _=>by
    obtain ⟨cd,hc,_⟩:=PySem.W.any_some T.hd
    unfold PySem.W.clsIn at hc
    split at hc
    · rename_i ho
      intro A' Q' E' s' k q
      unfold isType loadHead
      exact wpAny_bind (wpAny_loadPart (k _ _ (X _ _ ho)) (wpAny_pure q))
    · cases hc
  ne:=fun h tp dd its n sl X htp=>by
    obtain ⟨cd,hc,_⟩:=PySem.W.any_some T.hd
    refine Bool.eq_false_iff.mpr fun q=>?_
    have e:C=tp:=Value.ref.inj (beq_iff_eq.mp q)
    subst e
    unfold PySem.W.clsIn at hc
    split at hc
    · rename_i ho
      have z:=(X _ _ ho).symm.trans htp
      cases z
    · cases hc
  ca:=fun {prog w A E Q s} X I k=>by
    have hf:PySem.W.findObj K C od "__class__" = some (.bind (.builtin "getset_descriptor.__get__") (.builtin "object.__class__")):=by
      obtain ⟨cd,hc,_⟩:=PySem.W.any_some T.hd
      unfold PySem.W.findObj
      rw[hc,Option.bind_some,T.cl,Option.bind_some]
      dsimp only
      rw[T.sg,Option.bind_some]
      dsimp only
      rw[T.tk,Option.bind_some]
    unfold getAttr? getAttrBy?
    refine wpAny_bind (wpAny_mkText (wpAny_bind (wpAny_attempt (Ahy (s:={ s with toks:=s.toks+1 }) X T I (Ai5 (s:={ s with toks:=s.toks+1 }) X I hf ?_)))))
    refine wpAny_call (PySem.W.class_get (s:={ s with toks:=s.toks+1 }) X I T.mo ?_)
    exact PySem.W.handed_on rfl (wpAny_pure k)
end
section
variable {X:Cx}{Cs Ds:List Str}
theorem Xi{P:Program}{w:World}{H:Hp}{h:Heap}{a Ca:Addr}{dd:Option Addr}{fr:Bool}{vs:List (Str×V)}(ok:HOk P w H h)(he:H a=some (.ext (B5 a Ca dd fr)))(hd:DictIs H dd vs) :
    ∃ ox od,PySem.W.InstAt h a ox Ca od∧ox.dict=dd:=by
  obtain ⟨o,ws,h1,h2,h3,h4,_⟩:=(ok a _ he).1
  have no:PySem.W.notCls o=true:=by unfold PySem.W.notCls;rw[h4]
  cases dd with
  | none=>exact ⟨o,none,⟨h1,h2,no,by rw[h3];trivial⟩,h3⟩
  | some dx=>
    obtain ⟨_,od,q⟩:=hd
    exact ⟨o,some od,⟨h1,h2,no,by rw[h3];exact (ok dx _ q).1⟩,h3⟩
noncomputable def vOf:Value→Option V
  | .ref a=>some (.ref a)
  | .type T=>some (.ty T)
  | _=>none
theorem T3:CallR X (.builtin "isinstance") (fun xs H Q=>∃ a Ca dd fr vs c v b,xs=[.ref a,v]∧vOf c=some v∧H a=some (.ext (B5 a Ca dd fr))∧DictIs H dd vs∧ExcA X.K Ca∧PySem.W.kitOne X.K (.ref Ca) c=some b∧Q (.bl b) H):=by
  intro pins s σ H xs us Q I r h
  obtain ⟨a,Ca,dd,fr,vs,c,v,b,rfl,hc,ha,hd,T,e,q⟩:=h
  obtain ⟨u,u2,rfl,rx,ry⟩:=r.two
  obtain rfl:u=Value.ref a:=rx
  have hu:u2=c:=by
    cases c <;> simp[vOf] at hc <;> subst hc <;> exact ry
  subst hu
  obtain ⟨ox,od,J,_⟩:=Xi I.hok ha hd
  exact PySem.W.kia_one (Tj (ox:=ox) (od:=od) T) I.kIn J e (fun z=>nomatch z) fun tk=>⟨.bl b,H,I.tok _,rfl,q⟩
theorem Pp:∀ {ds:List Addr} {its:List Value},Vals (ds.map V.ref) its→its=ds.map Value.ref
  | [],_,.nil=>rfl
  | _::ds,_,.cons r t=>by
    rw[Pp t]
    exact congrArg (· :: _) r
theorem Yp:CallR X (.builtin "isinstance") (fun xs H Q=>∃ (a Ca:Addr) (dd:Option Addr) (fr:Bool) (vs:List (Str×V)) (tp:Addr) (ds:List Addr) (b:Bool),xs=[.ref a,.ref tp]∧H tp=some (.tup (ds.map V.ref))∧H a=some (.ext (B5 a Ca dd fr))∧DictIs H dd vs∧ExcA X.K Ca∧PySem.W.kitAny X.K (.ref Ca) (ds.map Value.ref)=some b∧Q (.bl b) H):=by
  intro pins s σ H xs us Q I r h
  obtain ⟨a,Ca,dd,fr,vs,tp,ds,b,rfl,ht,ha,hd,T,e,q⟩:=h
  obtain ⟨u,u2,rfl,rx,ry⟩:=r.two
  obtain rfl:u=Value.ref a:=rx
  obtain rfl:u2=Value.ref tp:=ry
  obtain ⟨ox,od,J,_⟩:=Xi I.hok ha hd
  obtain ⟨_,its,rv,o,ho,hcl,n,hda⟩:=I.hok tp _ ht
  rw[Pp rv] at hda
  obtain ⟨cl,di,da,sl⟩:=o
  dsimp only at hcl hda
  obtain ⟨hcl,hdi⟩:=Prod.mk.inj hcl
  subst hcl hda
  exact PySem.W.kia_tup (Tj (ox:=ox) (od:=od) T) I.kIn J ho e (fun z=>nomatch z) fun tk=>⟨.bl b,H,I.tok _,rfl,q⟩
noncomputable def Pk(Cs:List Str)(u:U)(L:UH):Option (Nat×Str×List (Str×U)):=match u with
  | .ref n=>match L[n]? with
    | some (.exc C _ fs)=>if C∈Cs then some (n,C,fs) else none
    | _=>none
  | _=>none
theorem T8{u:U}{L:UH}{n:Nat}{C:Str}{fs:List (Str×U)}(h:Pk Cs u L=some (n,C,fs)):u = .ref n∧C∈Cs∧∃ fr,L[n]? = some (.exc C fr fs):=by
  unfold Pk at h
  split at h
  · split at h
    · rename_i e
      split at h
      · rename_i hc
        cases h
        exact ⟨rfl,hc,_,e⟩
      · cases h
    · cases h
  · cases h
noncomputable def Q3(Cs:List Str)(D:Str)(f:FE):FE:=fun δ L=>(f δ L).bind fun p=>(Pk Cs p.1 p.2).map fun t=>(.bl (isX t.2.1 D),p.2)
theorem Wt{σ:L2.St}{H:Hp}{Q:VK}{K:PySem.W.Frag}{D:Str}{fe:FE}{c:Value}{v:V}(T:Oi K Cs Ds=true)(hD:D∈Ds)(hc:Y6 K D=some c)(hv:vOf c=some v)(h:lE K (Q3 Cs D fe) σ H Q) :
    tCB (fun xs H Q=>∃ a Ca dd fr vs c v b,xs=[.ref a,v]∧vOf c=some v∧H a=some (.ext (B5 a Ca dd fr))∧DictIs H dd vs∧ExcA K Ca∧PySem.W.kitOne K (.ref Ca) c=some b∧Q (.bl b) H) (Acg (lE K fe) (Acg (tC v) Alb)) σ H Q:=by
  obtain ⟨α,δ,L,A,S,z,L3,e,q⟩:=h
  obtain ⟨⟨u,L1⟩,e1,e⟩:=Option.bind_eq_some_iff.mp e
  obtain ⟨⟨n,C,fs⟩,e2,e⟩:=Option.map_eq_some_iff.mp e
  cases e
  obtain ⟨rfl,hC,fr,hL⟩:=T8 e2
  refine ⟨α,δ,L,A,S,_,_,e1,fun x H1 α1 g1 A1 r1=>?_⟩
  obtain ⟨a,ea,Ca,dd,vs,hns,ha,hd,hk,rr⟩:=A1.addr hL
  obtain ⟨a',ea',rfl⟩:=r1.ref_of A1
  rw[ea] at ea';cases ea'
  obtain ⟨TA,TD⟩:=Iv T hC hns
  obtain ⟨c',hc',hk',_⟩:=TD D hD
  rw[hc] at hc';cases hc'
  exact ⟨a,Ca,dd,fr,vs,c,v,_,rfl,hv,ha,hd,TA,hk',q _ H1 α1 g1 A1 rfl⟩
theorem Ah6{e:Expr}{fe:FE}{p p2 pos:Pos}{D:Str}{Da:Addr}(T:Oi X.K Cs Ds=true)(hD:D∈Ds)(hns:PySem.W.nsIn X.K mainGlobals D=some (some (.ref Da)))(he:PEF X e fe)(hg:Gl X "isinstance")(hm:X.mg "isinstance" = none)(hg2:Gl X D)(hm2:X.mg D=some (.ref Da))
    (hdb:(D == ("__debug__" : Str))=false:=by decide)
    (hs:starEach [e,.Name D p2] X.env=(false,eval e X.env)::starEach [.Name D p2] X.env:=by rfl) (hs2:starEach [.Name D p2] X.env=(false,eval (.Name D p2) X.env)::starEach [] X.env:=by rfl)
    (hpl:(backTo pos (starEach [.Name D p2] X.env)).any (·.1)=false:=by rfl):PEF X (.Call (.Name "isinstance" p) [e,.Name D p2] [] pos) (Q3 Cs D fe):=
  PE.imp (Ic T3 hg hm (by decide +kernel) (Ea he (Ea (Xc hg2 hm2 (v:=.ref Da) rfl hdb) Lc hs2) hs) (by decide) (by decide) hs hpl) fun σ H Q h=>Wt T hD (Ks hns) rfl h
theorem Ae3{e:Expr}{fe:FE}{p p2 pos:Pos}(T:Oi X.K Cs Ds=true)(hD:("ValueError" : Str)∈Ds)(hns:PySem.W.nsIn X.K mainGlobals "ValueError" = some none)(he:PEF X e fe)(hg:Gl X "isinstance")(hm:X.mg "isinstance" = none)(hg2:Gl X "ValueError")(hm2:X.mg "ValueError" = none)
    (hs:starEach [e,.Name "ValueError" p2] X.env=(false,eval e X.env)::starEach [.Name "ValueError" p2] X.env:=by rfl) (hs2:starEach [.Name "ValueError" p2] X.env=(false,eval (.Name "ValueError" p2) X.env)::starEach [] X.env:=by rfl)
    (hpl:(backTo pos (starEach [.Name "ValueError" p2] X.env)).any (·.1)=false:=by rfl):PEF X (.Call (.Name "isinstance" p) [e,.Name "ValueError" p2] [] pos) (Q3 Cs "ValueError" fe):=
  PE.imp (Ic T3 hg hm (by decide +kernel) (Ea he (Ea (Xl hg2 hm2 (u:=.type "ValueError") (by decide +kernel) (v:=.ty "ValueError") rfl) Lc hs2) hs) (by decide) (by decide) hs hpl) fun σ H Q h=>Wt (c:=.type "ValueError") T hD (by unfold Y6;rw[hns];rfl) rfl h
inductive Names(X:Cx):List Str→List Addr→List Expr→Prop where
  | nil:Names X [] [] []
  | cons {D:Str} {Da:Addr} {Dn:List Str} {ds:List Addr} {es:List Expr} {p2:Pos} (hns:PySem.W.nsIn X.K mainGlobals D=some (some (.ref Da))) (hg2:Gl X D) (hm2:X.mg D=some (.ref Da)) (t:Names X Dn ds es)
      (hdb:(D == ("__debug__" : Str))=false:=by decide) (hs:starEach (.Name D p2::es) X.env=(false,eval (.Name D p2) X.env)::starEach es X.env:=by rfl):Names X (D::Dn) (Da::ds) (.Name D p2::es)
theorem Names.pa{Dn:List Str}{ds:List Addr}{es:List Expr}(h:Names X Dn ds es):PA X es (fun _ H Q=>Q (ds.map V.ref) H):=by
  induction h with
  | nil=>exact Lc
  | cons hns hg2 hm2 t hdb hs ih=>exact Ea (Xc hg2 hm2 (v:=.ref _) rfl hdb) ih hs
theorem Names.kit{Dn:List Str}{ds:List Addr}{es:List Expr}(h:Names X Dn ds es)(T:Oi X.K Cs Ds=true)(hD:∀ D∈Dn,D∈Ds){C:Str}{Ca:Addr}(hC:C∈Cs)(hn:PySem.W.nsIn X.K mainGlobals C=some (some (.ref Ca))) :
    PySem.W.kitAny X.K (.ref Ca) (ds.map Value.ref)=some (Dn.any (isX C)):=by
  induction h with
  | nil=>rfl
  | cons hns hg2 hm2 t hdb hs ih=>
    obtain ⟨v,hv,hk,_⟩:=(Iv T hC hn).2 _ (hD _ List.mem_cons_self)
    rw[Ks hns] at hv
    cases hv
    have ih:=ih fun D h=>hD D (List.mem_cons_of_mem _ h)
    simp only[List.map_cons,PySem.W.kitAny,List.any_cons]
    rw[hk]
    cases hb:isX C _ with
    | true=>simp
    | false=>simp[ih]
noncomputable def Qa(Cs Dn:List Str)(f:FE):FE:=fun δ L=>(f δ L).bind fun p=>(Pk Cs p.1 p.2).map fun t=>(.bl (Dn.any (isX t.2.1)),p.2)
theorem Names.len{Dn:List Str}{ds:List Addr}{es:List Expr}(h:Names X Dn ds es):ds.length=Dn.length:=by
  induction h with
  | nil=>rfl
  | cons _ _ _ _ _ _ ih=>simp[ih]
theorem Agl{e:Expr}{fe:FE}{p p2 pos:Pos}{k:Nat}{Dn:List Str}{ds:List Addr}{es:List Expr}(T:Oi X.K Cs Ds=true)(hD:∀ D∈Dn,D∈Ds)(hN:Names X Dn ds es)(he:PEF X e fe)(hg:Gl X "isinstance")(hm:X.mg "isinstance" = none)(hlen:Dn.length≤100:=by decide)
    (hs:starEach [e,.Tuple es k p2] X.env=(false,eval e X.env)::starEach [.Tuple es k p2] X.env:=by rfl) (hs2:starEach [.Tuple es k p2] X.env=(false,eval (.Tuple es k p2) X.env)::starEach [] X.env:=by rfl)
    (hpl:(backTo pos (starEach [.Tuple es k p2] X.env)).any (·.1)=false:=by rfl):PEF X (.Call (.Name "isinstance" p) [e,.Tuple es k p2] [] pos) (Qa Cs Dn fe):=by
  refine PE.imp (Ic Yp hg hm (by decide +kernel) (Ea he (Ea (Ad5 hN.pa) Lc hs2) hs) (by decide) (by decide) hs hpl) ?_
  rintro σ H Q ⟨α,δ,L,A,S,z,L3,e,q⟩
  obtain ⟨⟨u,L1⟩,e1,e⟩:=Option.bind_eq_some_iff.mp e
  obtain ⟨⟨n,C,fs⟩,e2,e⟩:=Option.map_eq_some_iff.mp e
  cases e
  obtain ⟨rfl,hC,fr,hL⟩:=T8 e2
  refine ⟨α,δ,L,A,S,_,_,e1,fun x H1 α1 g1 A1 r1=>⟨?_,fun tp ntp=>?_⟩⟩
  · rw[List.length_map,hN.len];exact Nat.le_of_lt (Qn (by omega))
  have g2:Gr H1 α1 (upd H1 tp (.tup (ds.map V.ref))) α1:=⟨⟨[],by simp⟩,.new ntp _⟩
  have A2:Abs X.K (upd H1 tp (.tup (ds.map V.ref))) α1 L1:=⟨A1.len,A1.inj,fun i a o e1 e2=>(A1.rep i a o e1 e2).other g2 (.inr fun u q=>by rw[Aw (A8 q ntp)];exact q)⟩
  obtain ⟨a,ea,Ca,dd,vs,hns,ha,hd,hk,rr⟩:=A2.addr hL
  obtain ⟨a',ea',rfl⟩:=r1.ref_of A1
  rw[ea] at ea';cases ea'
  exact ⟨a,Ca,dd,fr,vs,tp,ds,_,rfl,upd_same,ha,hd,(Iv T hC hns).1,hN.kit T hD hC hns,q _ _ α1 (g1.trans g2) A2 rfl⟩
end
section
variable {X:Cx}{e:Expr}{pos pos':Pos}{x:Str}{xe:XE}
theorem Yu{st:Stmt}{rest:List Stmt}{y:XS}(h1:PXS X st y):Rq X (st::rest) (Ph Lj y xNo):=by
  intro pins s σ H α δ L n δ' L' I A S q
  have q1:y δ L=some (n,δ',L'):=by
    unfold Ph at q
    cases h:y δ L with
    | some r=>rw[h] at q;exact q
    | none=>rw[h] at q;cases q
  exact wpAny_execs_cons (wpAny_mono (h1 pins s σ H α δ L n δ' L' I A S q1) (fun _ _ z=>z.elim) fun _ _ z=>z)
end
end MR
namespace MR
open PySem PySem.Spec PyProof.Rows PySem.Calls L2
section
variable {X:Cx}
end
noncomputable def Ff(n:Int):Bool:=decide (-100000000000000000000≤n)&&decide (n≤100000000000000000000)
theorem Agk{n:Int}(h:Ff n=true):n.natAbs.log2 < 1920:=by
  unfold Ff at h
  simp only[Bool.and_eq_true,decide_eq_true_eq] at h
  have h1:n.natAbs≤100000000000000000000:=by omega
  by_cases h0:n.natAbs=0
  · rw[h0];decide
  · rw[Nat.log2_lt h0]
    refine Nat.lt_of_le_of_lt h1 ?_
    have:(100000000000000000000:Nat) < 2 ^ 100:=by decide
    exact Nat.lt_of_lt_of_le this (Nat.pow_le_pow_right (by decide) (by decide))
noncomputable def Vh(n:Int):Str:=Str.ofString (toString n)
noncomputable def Amt(t:TE):TE:=fun σ H Q=>t σ H fun v H1=>(∃ x,v = .str x∧x.length≤sizeLine∧Q (.str x) H1)∨∃ n,v = .int n∧Ff n=true∧Q (.str (Vh n)) H1
section
variable {X:Cx}
theorem Aj0{e:Expr}{t:TE}{pos:Pos}(h:PE X e t):PE X (.FormattedValue e (-1) none pos) (Amt t):=by
  intro pins s σ H Q I q
  refine FormattedValue_plain (thn (h pins s σ H _ I q) fun v s1 zz=>?_)
  obtain ⟨x,H1,I1,r1,q1⟩:=zz
  rcases q1 with ⟨a,rfl,hl,q⟩ | ⟨n,rfl,hn,q⟩
  · obtain ⟨t',rfl⟩:=r1
    exact formatField_str (fun t'' tk=>⟨.str a,H1,I1.tok tk,⟨_,rfl⟩,q⟩) hl
  · obtain ⟨t',rfl⟩:=r1
    exact formatField_int_small (Agk hn) ⟨.str (Vh n),H1,I1.tok _,⟨_,rfl⟩,q⟩
noncomputable def tJ:Str→List TE→L2.St→Hp→VK→Prop
  | out,[],_,H,Q=>out.length≤sizeLine∧Q (.str out) H
  | out,t::r,σ,H,Q=>t σ H fun v H1=>∃ x,v = .str x∧(out++x).length≤sizeLine∧tJ (out++x) r σ H1 Q
inductive PEs(X:Cx):List Expr→List TE→Prop
  | nil:PEs X [] []
  | cons {e:Expr} {t:TE} {es:List Expr} {ts:List TE} (h:PE X e t) (r:PEs X es ts):PEs X (e::es) (t::ts)
theorem Yn{es:List Expr}{ts:List TE}(h:PEs X es ts):∀ (pins:List (Addr×Obj)) (s:Shared) (σ:L2.St) (H:Hp) (Q:VK) (out:Str),Inv X pins σ H s →
    tJ out ts σ H Q→wpAny (model X.prog X.w) X.A (joinParts out (evalEach es X.env)) (EP X pins σ Q) X.xe s:=by
  induction h with
  | nil=>
    intro pins s σ H Q out I q
    obtain ⟨hl,q⟩:=q
    exact joinParts_nil ⟨.str out,H,I.tok _,⟨_,rfl⟩,q⟩ hl
  | @cons e t es ts h r ih=>
    intro pins s σ H Q out I q
    show wpAny _ _ (joinParts out (eval e X.env::evalEach es X.env)) _ _ _
    refine joinParts_cons (thn (h pins s σ H _ I q) fun v s1 zz=>?_)
    obtain ⟨x,H1,I1,r1,y,ey,hl,q1⟩:=zz
    subst ey
    obtain ⟨t',rfl⟩:=r1
    exact ⟨hl,ih pins s1 σ H1 Q (out++y) I1 q1⟩
theorem X8{v1 v2:Expr}{es:List Expr}{ts:List TE}{pos:Pos}(h:PEs X (v1::v2::es) ts):PE X (.JoinedStr (v1::v2::es) pos) (tJ Str.empty ts):=fun pins s σ H Q I q=>
  JoinedStr_many (Yn h pins s σ H Q Str.empty I q)
end
noncomputable def Q6(f:FE):FE:=fun δ L=>(f δ L).bind fun p=>match p.1 with
  | .str x=>if small x.length=true then some (.str x,p.2) else none
  | .int n=>if Ff n=true then some (.str (Vh n),p.2) else none
  | _=>none
theorem Vv{X:Cx}{e:Expr}{f:FE}{pos:Pos}(h:PEF X e f):PEF X (.FormattedValue e (-1) none pos) (Q6 f):=by
  refine PE.imp (Aj0 h) ?_
  rintro σ H Q ⟨α,δ,L,A,S,z,L3,e,q⟩
  obtain ⟨⟨u,L1⟩,e1,e⟩:=Option.bind_eq_some_iff.mp e
  refine ⟨α,δ,L,A,S,u,L1,e1,fun x H1 α1 g1 A1 r1=>?_⟩
  simp only at e
  split at e
  · split at e
    · rename_i hc
      cases e
      unfold RepU at r1
      subst r1
      exact .inl ⟨_,rfl,Cq hc,q _ _ _ g1 A1 (by unfold RepU;rfl)⟩
    · cases e
  · split at e
    · rename_i hc
      cases e
      unfold RepU at r1
      subst r1
      exact .inr ⟨_,rfl,hc,q _ _ _ g1 A1 (by unfold RepU;rfl)⟩
    · cases e
  · cases e
noncomputable def goJ:Str→List FE→UE→UH→Option (U×UH)
  | out,[],_,L=>some (.str out,L)
  | out,f::r,δ,L=>(f δ L).bind fun p=>match p.1 with
    | .str x=>if small (out++x).length=true then goJ (out++x) r δ p.2 else none
    | _=>none
noncomputable def Rj(fs:List FE):FE:=fun δ L=>goJ Str.empty fs δ L
inductive PFs(X:Cx):List Expr→List FE→Prop
  | nil:PFs X [] []
  | cons {e:Expr} {f:FE} {es:List Expr} {fs:List FE} (h:PEF X e f) (r:PFs X es fs):PFs X (e::es) (f::fs)
theorem PFs.pes{X:Cx}{es:List Expr}{fs:List FE}(h:PFs X es fs):PEs X es (fs.map (lE X.K)):=by
  induction h with
  | nil=>exact .nil
  | cons h r ih=>exact .cons h ih
theorem Abg{K:PySem.W.Frag}:∀ (fs:List FE) (out:Str) (σ:L2.St) (H:Hp) (Q:VK) (α:List Addr) (δ:UE) (L:UH) (z:U) (L3:UH),Abs K H α L→RepS K H α δ σ→goJ out fs δ L=some (z,L3)→out.length≤sizeLine →
    (∀ v H' α',Gr H α H' α'→Abs K H' α' L3→RepU K H' α' z v→Q v H')→tJ out (fs.map (lE K)) σ H Q
  | [],out,σ,H,Q,α,δ,L,z,L3,A,S,e,hl,q=>by
    cases e
    exact ⟨hl,q _ H α (.refl _ _) A (by unfold RepU;rfl)⟩
  | f::r,out,σ,H,Q,α,δ,L,z,L3,A,S,e,hl,q=>by
    unfold goJ at e
    obtain ⟨⟨u,L1⟩,e1,e⟩:=Option.bind_eq_some_iff.mp e
    refine ⟨α,δ,L,A,S,u,L1,e1,fun x H1 α1 g1 A1 r1=>?_⟩
    simp only at e
    split at e
    · split at e
      · rename_i x' hc
        unfold RepU at r1
        subst r1
        exact ⟨x',rfl,Cq hc,Abg r (out++x') σ H1 Q α1 δ L1 z L3 A1 (S.mono g1) e (Cq hc) fun v H' α' g A' r'=>q v H' α' (g1.trans g) A' r'⟩
      · cases e
    · cases e
theorem Y7{X:Cx}{v1 v2:Expr}{es:List Expr}{fs:List FE}{pos:Pos}(h:PFs X (v1::v2::es) fs):PEF X (.JoinedStr (v1::v2::es) pos) (Rj fs):=by
  refine PE.imp (X8 h.pes) ?_
  rintro σ H Q ⟨α,δ,L,A,S,z,L3,e,q⟩
  exact Abg fs Str.empty σ H Q α δ L z L3 A S e (Nat.zero_le _) q
end MR
namespace MR
open PySem PySem.Spec PyProof.Rows L2
section
variable {X:Cx}
end
section
variable {prog:Program}{w:World}{A:Around}{E:Value→Shared→Prop}{s:Shared}{K:PySem.W.Frag}{x C:Addr}{name:Str}{v:Value}{vs:Array Value}
end
section
variable {X:Cx}{o e value:Expr}{f:Str}{p pos pos':Pos}{to tv:TE}
end
section
variable {X:Cx}{o e value:Expr}{f:Str}{p pos pos':Pos}{fo fv fe:FE}{Cs Ds:List Str}
end
end MR
namespace MR
open PySem PySem.Spec PyProof.Rows PySem.Calls L2
section
variable {X:Cx}
end
end MR
namespace ZT
open PySem PySem.Spec PyProof.Rows PySem.W
open Sem (wp)
section
variable {prog:Program}{w:World}{A:Around}{E:Value→Shared→Prop}{s:Shared}{T:String}{r d:Addr}{n:Nat}{P:Nat→Value→Prop}{OK:Heap→Prop}
end
end ZT
namespace MR
open PySem PySem.Spec PyProof.Rows PySem.Calls L2
section
variable {X:Cx}{o:Expr}{apos cpos p pos:Pos}{td:TE}{fo:FE}
end
end MR
namespace MR
open PySem PySem.Spec PyProof.Rows L2
noncomputable def Alz(H:Hp)(D:Ends):Ends where
  nx:=fun σ H'=>∃ H2,Thaw H H' H2∧D.nx σ H2
  bk:=fun σ H'=>∃ H2,Thaw H H' H2∧D.bk σ H2
  ct:=fun σ H'=>∃ H2,Thaw H H' H2∧D.ct σ H2
  rt:=fun v H'=>∃ H2,Thaw H H' H2∧D.rt v H2
theorem Ae6{X:Cx}{st:Stmt}{t:TS}(h:PS X st t):PS X st (fun D σ H=>t (Alz H D) σ H):=fun pins s σ H D I q=>
  thn (h pins s σ H _ I q) fun f s1 hf=>by
    unfold SP at hf ⊢
    split at hf
    · obtain ⟨σ',H',I',H2,th,q⟩:=hf;exact ⟨σ',H2,Inv.thaw I I' th,q⟩
    · obtain ⟨σ',H',I',H2,th,q⟩:=hf;exact ⟨σ',H2,Inv.thaw I I' th,q⟩
    · obtain ⟨σ',H',I',H2,th,q⟩:=hf;exact ⟨σ',H2,Inv.thaw I I' th,q⟩
    · obtain ⟨v,σ',H',I',r,H2,th,q⟩:=hf;exact ⟨v,σ',H2,Inv.thaw I I' th,r,q⟩
noncomputable def Sd(f:FS):FS:=fun δ L=>(f δ L).map fun p=>(p.1,Cp L p.2)
theorem Aa7{X:Cx}{st:Stmt}{f:FS}(h:PSF X st f):PSF X st (Sd f):=by
  refine PS.imp (Ae6 h) ?_
  rintro D σ H ⟨α,δ,L,A,S,fl,L3,e,q⟩
  obtain ⟨⟨fl',L1⟩,e1,e⟩:=Option.map_eq_some_iff.mp e
  cases e
  refine ⟨α,δ,L,A,S,fl',L1,e1,?_⟩
  cases fl' with
  | nx δ'=>
    intro σ' H1 α1 g1 A1 S1
    obtain ⟨H2,th,g2,A2,r2⟩:=Kl A g1 A1
    exact ⟨H2,th,q σ' H2 α1 g2 A2 ⟨S1.len,fun i u e=>by obtain ⟨v,a,b⟩:=S1.at_ i u e;exact ⟨v,a,r2 _ _ b⟩⟩⟩
  | bk δ'=>
    intro σ' H1 α1 g1 A1 S1
    obtain ⟨H2,th,g2,A2,r2⟩:=Kl A g1 A1
    exact ⟨H2,th,q σ' H2 α1 g2 A2 ⟨S1.len,fun i u e=>by obtain ⟨v,a,b⟩:=S1.at_ i u e;exact ⟨v,a,r2 _ _ b⟩⟩⟩
  | ct δ'=>
    intro σ' H1 α1 g1 A1 S1
    obtain ⟨H2,th,g2,A2,r2⟩:=Kl A g1 A1
    exact ⟨H2,th,q σ' H2 α1 g2 A2 ⟨S1.len,fun i u e=>by obtain ⟨v,a,b⟩:=S1.at_ i u e;exact ⟨v,a,r2 _ _ b⟩⟩⟩
  | rt u=>
    intro v H1 α1 g1 A1 r1
    obtain ⟨H2,th,g2,A2,r2⟩:=Kl A g1 A1
    exact ⟨H2,th,q v H2 α1 g2 A2 (r2 _ _ r1)⟩
noncomputable def M3(L:UH)(n:Nat):Option (List (Key×U)):=match L[n]? with
  | some (.dic kvs)=>some kvs
  | some (.rod kvs)=>some kvs
  | _=>none
theorem N0{K:PySem.W.Frag}{H:Hp}{α:List Addr}{L:UH}{n:Nat}{x:V}{kvs:List (Key×U)}(A:Abs K H α L)(h:M3 L n=some kvs)(r:RepU K H α (.ref n) x):∃ a vs,x = .ref a∧α[n]? = some a∧Rd H a (.dK vs)∧RepKV K H α kvs vs:=by
  unfold RepU at r
  obtain ⟨a,ea,rfl⟩:=r
  unfold M3 at h
  split at h
  · rename_i kvs' e
    cases h
    obtain ⟨vs,q,k1,k2⟩:=A.rep n a _ ea e
    exact ⟨a,vs,rfl,ea,.inl q,k1,k2⟩
  · rename_i kvs' e
    cases h
    obtain ⟨o,vs,q,k1,k2⟩:=A.rep n a _ ea e
    exact ⟨a,vs,rfl,ea,.inr ⟨o,q⟩,k1,k2⟩
  · cases h
theorem RepKV.valO{K:PySem.W.Frag}{H:Hp}{α:List Addr}{k:Key}:∀ {kvs:List (Key×U)} {vs:List (Key×V)},RepKV K H α kvs vs→Gi kvs k=none→Hq vs k=none
  | [],vs,r,_=>by
    obtain ⟨h1,_⟩:=r
    cases vs with
    | nil=>rfl
    | cons _ _=>simp at h1
  | kv::kvs,vs,r,e=>by
    obtain ⟨x,vs',rfl,rx,r'⟩:=r.cons
    unfold Gi at e
    unfold Hq
    rw[List.find?_cons] at e ⊢
    by_cases h:kv.1=k
    · simp only[h,decide_true,Option.map_some] at e
      cases e
    · simp only[h,decide_false] at e ⊢
      exact RepKV.valO r' e
section
variable {X:Cx}{o i e f:Expr}{pos apos cpos:Pos}{fo fi fe fx:FE}
noncomputable def M9(fo fi:FE):FE:=fun δ L=>(fo δ L).bind fun p=>(fi δ p.2).bind fun q=>match p.1 with
  | .ref n=>(toK q.1).bind fun k=>(M3 q.2 n).bind fun kvs=>(Gi kvs k).map fun u=>(u,q.2)
  | _=>none
theorem Ac3(hu:X.A.units+64 < cLine)(ho:PEF X o fo)(hi:PEF X i fi)(hs:Ah5 i):PEF X (.Subscript o i pos) (M9 fo fi):=by
  refine PE.imp (Aer (by omega) ho hi hs) ?_
  rintro σ H Q ⟨α,δ,L,A,S,z,L3,e,q⟩
  obtain ⟨⟨u,L1⟩,e1,e⟩:=Option.bind_eq_some_iff.mp e
  obtain ⟨⟨w,L2⟩,e2,e⟩:=Option.bind_eq_some_iff.mp e
  refine ⟨α,δ,L,A,S,u,L1,e1,fun x H1 α1 g1 A1 r1=>⟨α1,δ,L1,A1,S.mono g1,w,L2,e2,fun y H2 α2 g2 A2 r2=>?_⟩⟩
  simp only at e
  split at e
  · obtain ⟨k,hk,e⟩:=Option.bind_eq_some_iff.mp e
    obtain ⟨kvs,hd,e⟩:=Option.bind_eq_some_iff.mp e
    obtain ⟨v,hv,e⟩:=Option.map_eq_some_iff.mp e
    cases e
    obtain ⟨a,vs,rfl,ea,ha,rk⟩:=N0 A2 hd (r1.mono g2)
    obtain ⟨x',hx',rx'⟩:=rk.val hv
    exact ⟨a,x',rfl,.inl ⟨vs,k,ha,Sm r2 hk,hx'.symm⟩,q _ _ _ (g1.trans g2) A2 rx'⟩
  · cases e
noncomputable def Ij(fo fe fx:FE):FE:=fun δ L=>(fo δ L).bind fun p=>match p.1 with
  | .ref n=>(M3 p.2 n).bind fun _=>(fe δ p.2).bind fun q=>(fx δ q.2).bind fun r=>(toK q.1).bind fun k=>(M3 r.2 n).map fun kvs=>((Gi kvs k).getD r.1,r.2)
  | _=>none
theorem Sz(hu:X.A.units+64 < cLine)(ho:PEF X o fo)(he:PEF X e fe)(hf:PEF X f fx)(m:M2 X o "get" apos e f cpos):PEF X (.Call (.Attribute o "get" apos) [e,f] [] cpos) (Ij fo fe fx):=by
  refine PE.imp (Acd (by omega) ho he hf m) ?_
  rintro σ H Q ⟨α,δ,L,A,S,z,L3,e,q⟩
  obtain ⟨⟨u,L1⟩,e1,e⟩:=Option.bind_eq_some_iff.mp e
  simp only at e
  split at e
  · obtain ⟨kvs0,hd0,e⟩:=Option.bind_eq_some_iff.mp e
    obtain ⟨⟨w,L2⟩,e2,e⟩:=Option.bind_eq_some_iff.mp e
    obtain ⟨⟨d,L3'⟩,e3,e⟩:=Option.bind_eq_some_iff.mp e
    obtain ⟨k,hk,e⟩:=Option.bind_eq_some_iff.mp e
    obtain ⟨kvs,hd,e⟩:=Option.map_eq_some_iff.mp e
    cases e
    refine ⟨α,δ,L,A,S,_,L1,e1,fun x H1 α1 g1 A1 r1=>?_⟩
    obtain ⟨a,vs0,rfl,ea0,ha0,rk0⟩:=N0 A1 hd0 r1
    refine ⟨a,rfl,.inl ⟨vs0,ha0⟩,α1,δ,L1,A1,S.mono g1,w,L2,e2,fun y H2 α2 g2 A2 r2=>⟨α2,δ,L2,A2,(S.mono g1).mono g2,d,L3',e3,fun z H3 α3 g3 A3 r3=>?_⟩⟩
    obtain ⟨a',vs,e',ea,ha,rk⟩:=N0 A3 hd (r1.mono (g2.trans g3))
    cases e'
    refine ⟨Hq vs k,.inl ⟨vs,k,ha,Sm r2 hk,rfl⟩,?_⟩
    cases hv:Gi kvs k with
    | none=>
      rw[rk.valO hv]
      refine q _ _ _ (g1.trans (g2.trans g3)) A3 ?_
      rw[hv];exact r3
    | some v=>
      obtain ⟨x',hx',rx'⟩:=rk.val hv
      rw[hx']
      refine q _ _ _ (g1.trans (g2.trans g3)) A3 ?_
      rw[hv];exact rx'
  · cases e
noncomputable def Nf(fk fv:FE):FE:=fun δ L=>(fk δ (L++[.dic []])).bind fun p=>(fv δ p.2).bind fun q=>(toK p.1).bind fun k=>(Fs q.2 L.length).bind fun kvs=>match kvs with
  | []=>some (.ref L.length,q.2.set L.length (.dic [(k,q.1)]))
  | _=>none
theorem Ac6(hk:PEF X e fe)(hv:PEF X f fx):PEF X (.Dict [some e] [f] pos) (Nf fe fx):=by
  refine PE.imp (Agc (Abx hk hv Afi) rfl rfl (by simp) (by show 1≤15;omega)) ?_
  rintro σ H Q ⟨α,δ,L,A,S,z,L3,e,q⟩
  intro p hp
  have g:Gr H α (upd H p (.dK [])) (α ++ [p]):=⟨⟨[p],rfl⟩,.new hp _⟩
  obtain ⟨A',_⟩:=A.new (o:=.dK []) (u:=.dic []) hp ⟨[],upd_same,rfl,.nil⟩
  obtain ⟨⟨u,L1⟩,e1,e⟩:=Option.bind_eq_some_iff.mp e
  obtain ⟨⟨w,L2⟩,e2,e⟩:=Option.bind_eq_some_iff.mp e
  obtain ⟨k,hk,e⟩:=Option.bind_eq_some_iff.mp e
  obtain ⟨kvs,hd,e⟩:=Option.bind_eq_some_iff.mp e
  simp only at e
  split at e
  · cases e
    refine ⟨α ++ [p],δ,_,A',S.mono g,u,L1,e1,fun x H1 α1 g1 A1 r1=>⟨α1,δ,L1,A1,(S.mono g).mono g1,w,L2,e2,fun y H2 α2 g2 A2 r2=>?_⟩⟩
    have hn:α2[L.length]? = some p:=(g1.trans g2).at (by rw[← A.len];simp)
    obtain ⟨a,vs,ex,ea,ha,rk⟩:=Sj A2 hd (x:=.ref p) (by unfold RepU;exact ⟨p,hn,rfl⟩)
    cases ex
    have hvs:vs=[]:=by
      obtain ⟨h1,_⟩:=rk
      cases vs with
      | nil=>rfl
      | cons _ _=>simp at h1
    subst hvs
    obtain ⟨g3,A3⟩:=A2.setD hd ea ha (RepKV.mk (k:=k) r2 .nil)
    refine ⟨ha,[(k,y)],?_,by show 1≤15;omega,?_⟩
    · rw[Sm (r1.mono g2) hk];rfl
    · refine q _ _ α2 (((g.trans g1).trans g2).trans g3) A3 ?_
      unfold RepU
      exact ⟨p,hn,rfl⟩
  · cases e
end
end MR
namespace MR
open PySem PySem.Spec PyProof.Rows PySem.Calls L2
section
variable {X:Cx}
noncomputable def Ai0(ta:TA):TE:=fun σ H Q=>ta σ H fun vs H1=>∃ i j:Int,vs=[.int i,.int j]∧(-(2 ^ 62)≤i∧i < 2 ^ 62∧-(2 ^ 62)≤j∧j < 2 ^ 62∧(j - i).toNat≤1000000)∧∀ l,H1 l=none→Q (.ref l) (upd H1 l (.lst (Pg i (j - i).toNat)))
theorem Ab2{a b:Expr}{ta:TA}{p p' pos pos':Pos}(hc:X.calm=true)(hgL:Gl X "list")(hmL:X.mg "list" = none)(hg:Gl X "range")(hm:X.mg "range" = none)(ha:PA X [a,b] ta)(hs:starEach [a,b] X.env=[(false,eval a X.env),(false,eval b X.env)]:=by rfl)(hs1:starEach [b] X.env=[(false,eval b X.env)]:=by rfl)
    (hs2:starEach [.Call (.Name "range" p') [a,b] [] pos'] X.env=[(false,eval (.Call (.Name "range" p') [a,b] [] pos') X.env)]:=by rfl):PE X (.Call (.Name "list" p) [.Call (.Name "range" p') [a,b] [] pos'] [] pos) (Ai0 ta):=by
  intro pins s σ H Q I h
  refine wpAny_Call_Name_kw (C6 I hgL hmL Ng ?_)
  refine PyProof.Rows.callWith_type1 ?_ hs2 rfl
  rw[hs2]
  refine Calls.spliced_cons ?_
  refine wpAny_Call_Name_kw (C6 I hg hm boot_range (PyProof.Rows.callWith_type1 (thn (ha pos' pins s σ H _ I h) fun us s1 ⟨vs,H1,I1,r1,q1⟩=>?_) (by rw[hs,hs1]) (by rw[hs1];rfl)))
  obtain ⟨i,j,rfl,⟨i0,i1,j0,j1,hn⟩,q⟩:=q1
  cases r1 with
  | cons r rr=>
    cases rr with
    | cons r' rr=>
      cases rr
      obtain ⟨t,rfl⟩:=r
      obtain ⟨t',rfl⟩:=r'
      refine call_range_2 ?_
      refine Calls.spliced_nil ?_
      exact Abo (lo:=i) (hi:=j) hc I1 i0 i1 j0 j1 hn q
end
noncomputable def Hy(g:FA):FE:=fun δ L=>(g δ L).bind fun p=>match p.1 with
  | [.int i,.int j]=>if -(2 ^ 62)≤i∧i < 2 ^ 62∧-(2 ^ 62)≤j∧j < 2 ^ 62∧(j - i).toNat≤1000000 then some (.ref p.2.length,p.2++[.lst (Ay i (j - i).toNat)]) else none
  | _=>none
theorem Uo{X:Cx}{a b:Expr}{g:FA}{p p' pos pos':Pos}(hc:X.calm=true)(hgL:Gl X "list")(hmL:X.mg "list" = none)(hg:Gl X "range")(hm:X.mg "range" = none)(ha:PAF X [a,b] g)(hs:starEach [a,b] X.env=[(false,eval a X.env),(false,eval b X.env)]:=by rfl)(hs1:starEach [b] X.env=[(false,eval b X.env)]:=by rfl)
    (hs2:starEach [.Call (.Name "range" p') [a,b] [] pos'] X.env=[(false,eval (.Call (.Name "range" p') [a,b] [] pos') X.env)]:=by rfl):PEF X (.Call (.Name "list" p) [.Call (.Name "range" p') [a,b] [] pos'] [] pos) (Hy g):=by
  refine PE.imp (Ab2 hc hgL hmL hg hm ha hs hs1 hs2) ?_
  rintro σ H Q ⟨α,δ,L,A,S,z,L3,e,q⟩
  obtain ⟨⟨us,L1⟩,e1,e⟩:=Option.bind_eq_some_iff.mp e
  refine ⟨α,δ,L,A,S,us,L1,e1,fun xs H1 α1 g1 A1 r1=>?_⟩
  simp only at e
  split at e
  · split at e
    · rename_i hj
      cases e
      obtain ⟨x,y,rfl,rx,ry⟩:=r1.two
      unfold RepU at rx ry
      subst rx
      subst ry
      refine ⟨_,_,rfl,hj,fun l hl=>?_⟩
      obtain ⟨g2,A2,r2⟩:=A1.lst (Agm (K:=X.K) (H:=H1) (α:=α1) _ _) hl
      exact q _ _ _ (g1.trans g2) A2 r2
    · cases e
  · cases e
end MR
namespace SO
open PySem PySem.W PyProof.Rows
noncomputable def On{α:Type}(n:Nat)(lt:Nat→Nat→Bool)(P:α→Prop):KasT α→Prop
  | .ret a=>P a
  | .ask i j k=>i < n∧j < n∧On n lt P (k (lt i j))
theorem On.bind{α β:Type}{n:Nat}{lt:Nat→Nat→Bool}{P:α→Prop}{Q:β→Prop}{f:α→KasT β}(hf:∀ a,P a→On n lt Q (f a)):∀ {t:KasT α},On n lt P t→On n lt Q (t.bind f)
  | .ret a,h=>hf a h
  | .ask i j k,h=>⟨h.1,h.2.1,On.bind hf h.2.2⟩
theorem On.imp{α:Type}{n:Nat}{lt:Nat→Nat→Bool}{P Q:α→Prop}(hf:∀ a,P a→Q a):∀ {t:KasT α},On n lt P t→On n lt Q t
  | .ret a,h=>hf a h
  | .ask i j k,h=>⟨h.1,h.2.1,On.imp hf h.2.2⟩
theorem On.wp{α:Type}{n:Nat}{lt:Nat→Nat→Bool}{P:α→Prop}{cmp:Nat→Nat→(Bool→Shared→Prop)→Shared→Prop}{s:Shared}{Q:α→Shared→Prop}(hc:∀ i j C,i < n→j < n→C (lt i j) s→cmp i j C s)(hq:∀ a,P a→Q a s):∀ {t:KasT α},On n lt P t→t.kasWp cmp Q s
  | .ret a,h=>hq a h
  | .ask i j k,h=>hc i j _ h.1 h.2.1 (On.wp hc hq h.2.2)
structure Wo(lt:Nat→Nat→Bool):Prop where
  asym:∀ i j,lt i j=true→lt j i=false
  tr:∀ i j k,lt j i=false→lt k j=false→lt k i=false
section
variable {lt:Nat→Nat→Bool}{n:Nat}
noncomputable def Le(lt:Nat→Nat→Bool)(i j:Nat):Prop:=lt j i=false
noncomputable def Eqv(lt:Nat→Nat→Bool)(i j:Nat):Prop:=Le lt i j∧Le lt j i
theorem Wo.refl(W:Wo lt)(i:Nat):Le lt i i:=by
  unfold Le
  cases h:lt i i with
  | false=>rfl
  | true=>have:=W.asym i i h;rw[h] at this;cases this
theorem Wo.le(W:Wo lt){i j:Nat}(h:lt i j=true):Le lt i j:=W.asym i j h
theorem Wo.trans(W:Wo lt){i j k:Nat}(h1:Le lt i j)(h2:Le lt j k):Le lt i k:=W.tr i j k h1 h2
noncomputable def at0(p:Array Nat)(i:Nat):Nat:=p.getD i 0
theorem Od{p q:Array Nat}{i j:Nat}(h:p[i]? = q[j]?):at0 p i=at0 q j:=by
  unfold at0
  rw[Array.getD_eq_getD_getElem?,Array.getD_eq_getD_getElem?,h]
structure Pm(n:Nat)(p:Array Nat):Prop where
  size:p.size=n
  perm:p.toList.Perm (List.range n)
theorem Pm.bd{p:Array Nat}(h:Pm n p)(h0:0 < n)(i:Nat):at0 p i < n:=by
  unfold at0
  rw[Array.getD_eq_getD_getElem?]
  cases hi:p[i]? with
  | none=>exact h0
  | some x=>
    have:x∈p.toList:=by
      rw[← Array.getElem?_toList] at hi
      exact List.mem_of_getElem? hi
    exact List.mem_range.mp (h.perm.mem_iff.mp this)
noncomputable def Up(lt:Nat→Nat→Bool)(p:Array Nat)(k:Nat):Prop:=∀ i j,i≤j→j < k→Le lt (at0 p i) (at0 p j)
noncomputable def Dn(lt:Nat→Nat→Bool)(p:Array Nat)(k:Nat):Prop:=∀ i j,i≤j→j < k→Le lt (at0 p j) (at0 p i)
theorem Up.one(W:Wo lt)(p:Array Nat):Up lt p 1:=fun i j h1 h2=>by
  have:i=j:=by omega
  subst this;exact W.refl _
theorem Up.snoc(W:Wo lt){p:Array Nat}{m:Nat}(h:Up lt p m)(hm:1≤m)(hl:Le lt (at0 p (m - 1)) (at0 p m)):Up lt p (m+1):=fun i j h1 h2=>by
  by_cases hj:j < m
  · exact h i j h1 hj
  · have hj:j=m:=by omega
    subst hj
    by_cases hi:i=j
    · subst hi;exact W.refl _
    · exact W.trans (h i (j - 1) (by omega) (by omega)) hl
theorem Dn.snoc(W:Wo lt){p:Array Nat}{m:Nat}(h:Dn lt p m)(hm:1≤m)(hl:Le lt (at0 p m) (at0 p (m - 1))):Dn lt p (m+1):=fun i j h1 h2=>by
  by_cases hj:j < m
  · exact h i j h1 hj
  · have hj:j=m:=by omega
    subst hj
    by_cases hi:i=j
    · subst hi;exact W.refl _
    · exact W.trans hl (h i (j - 1) (by omega) (by omega))
theorem H9{p:Array Nat}{i j:Nat}(hj:j≤p.size)(k:Nat):at0 (kas_rev p i j) k=if i≤k∧k < j then at0 p (i+j - 1 - k) else at0 p k:=by
  have h:=getElem?_mirror_all (xs:=p) (i:=i) hj k
  unfold kas_rev
  split
  · rename_i hc;rw[if_pos hc] at h;exact Od h
  · rename_i hc;rw[if_neg hc] at h;exact Od h
theorem Pm.rev{p:Array Nat}(h:Pm n p)(i j:Nat):Pm n (kas_rev p i j):=⟨by unfold kas_rev;rw[mirror_size];exact h.size,(mirror_perm p i j _).toList.trans h.perm⟩
theorem Pm.bub{p:Array Nat}(h:Pm n p)(i j:Nat):Pm n (bubble p i j):=⟨by rw[bubble_size];exact h.size,(bubble_perm p i j).toList.trans h.perm⟩
theorem Ab9{p:Array Nat}{k l:Nat}(hk:k < p.size)(hl:l≤k)(i:Nat):at0 (bubble p k (k - l)) i=if i=l then at0 p k else if l < i∧i≤k then at0 p (i - 1) else at0 p i:=by
  have h:=getElem?_bubble (xs:=p) hk (k - l) (by omega) i
  have e:k - (k - l)=l:=by omega
  rw[e] at h
  split
  · rename_i hc;rw[if_pos hc] at h;exact Od h
  · rename_i hc
    rw[if_neg hc] at h
    split
    · rename_i hd;rw[if_pos hd] at h;exact Od h
    · rename_i hd;rw[if_neg hd] at h;exact Od h
theorem Vl(W:Wo lt){p:Array Nat}{nrem:Nat}(h0:0 < n)(hp:Pm n p):∀ (f m:Nat),1≤m→m+f=nrem→Up lt p m→On n lt (fun m'=>m≤m'∧m'≤nrem∧Up lt p m'∧(m'=nrem∨lt (at0 p m') (at0 p (m' - 1))=true)) (kas_asc p f m)
  | 0,m,h1,hf,hu=>⟨Nat.le_refl _,by omega,hu,.inl (by omega)⟩
  | f+1,m,h1,hf,hu=>by
    refine ⟨hp.bd h0 _,hp.bd h0 _,?_⟩
    show On n lt _ (if lt (at0 p m) (at0 p (m - 1))=true then KasT.ret m else kas_asc p f (m+1))
    cases hl:lt (at0 p m) (at0 p (m - 1)) with
    | true=>exact ⟨Nat.le_refl _,by omega,hu,.inr hl⟩
    | false=>
      exact (Vl W h0 hp f (m+1) (by omega) (by omega) (hu.snoc W h1 hl)).imp fun m' ⟨a,b,c⟩=>⟨by omega,b,c⟩
noncomputable def Tl(lt:Nat→Nat→Bool)(p:Array Nat)(m q:Nat):Prop:=∀ i,m - (q+1)≤i→i < m→Eqv lt (at0 p i) (at0 p (m - 1))
theorem Tl.rev(W:Wo lt){p:Array Nat}{m q:Nat}(h:Tl lt p m q)(hq:q < m)(hm:m≤p.size)(k:Nat):Eqv lt (at0 (kas_rev p (m - (q+1)) m) k) (at0 p k):=by
  rw[H9 hm]
  split
  · rename_i hc
    have a:=h (m - (q+1)+m - 1 - k) (by omega) (by omega)
    have b:=h k hc.1 hc.2
    exact ⟨W.trans a.1 b.2,W.trans b.1 a.2⟩
  · exact ⟨W.refl _,W.refl _⟩
theorem Dn.eqv(W:Wo lt){p p':Array Nat}{m:Nat}(h:Dn lt p m)(he:∀ k,Eqv lt (at0 p' k) (at0 p k)):Dn lt p' m:=fun i j h1 h2=>W.trans (he j).1 (W.trans (h i j h1 h2) (he i).2)
theorem Mn(W:Wo lt){nrem:Nat}(h0:0 < n)(hz:nrem≤n):∀ (f:Nat) (p:Array Nat) (m q:Nat),Pm n p→1≤m→m+f=nrem→Dn lt p m→q < m→Tl lt p m q →
    On n lt (fun r=>Pm n r.1∧1≤r.2.1∧r.2.1≤nrem∧Dn lt r.1 r.2.1∧r.2.2 < r.2.1∧Tl lt r.1 r.2.1 r.2.2) (kas_desc f p m q)
  | 0,p,m,q,hp,h1,hf,hd,hq,ht=>⟨hp,h1,(by show m≤nrem;omega),hd,hq,ht⟩
  | f+1,p,m,q,hp,h1,hf,hd,hq,ht=>by
    refine ⟨hp.bd h0 _,hp.bd h0 _,?_⟩
    show On n lt _ (if lt (at0 p m) (at0 p (m - 1))=true then _ else _)
    have tl0:∀ p':Array Nat,Tl lt p' (m+1) 0:=fun p' i i1 i2=>by
      have:i=m:=by omega
      subst this
      rw[Nat.add_sub_cancel];exact ⟨W.refl _,W.refl _⟩
    cases hl:lt (at0 p m) (at0 p (m - 1)) with
    | true=>
      have hms:m≤p.size:=by rw[hp.size];omega
      rw[if_pos rfl]
      by_cases hq0:q > 0
      · rw[if_pos hq0]
        have he:=ht.rev W hq hms
        have hm':at0 (kas_rev p (m - (q+1)) m) m=at0 p m:=by rw[H9 hms,if_neg (by omega)]
        have hd':=(hd.eqv W he).snoc W h1 (by rw[hm'];exact W.trans (W.le hl) (he (m - 1)).2)
        exact Mn W h0 hz f _ (m+1) 0 (hp.rev _ _) (by omega) (by omega) hd' (by omega) (tl0 _)
      · rw[if_neg hq0]
        exact Mn W h0 hz f p (m+1) 0 hp (by omega) (by omega) (hd.snoc W h1 (W.le hl)) (by omega) (tl0 _)
    | false=>
      rw[if_neg (by simp)]
      refine ⟨hp.bd h0 _,hp.bd h0 _,?_⟩
      show On n lt _ (if lt (at0 p (m - 1)) (at0 p m)=true then _ else _)
      cases hl2:lt (at0 p (m - 1)) (at0 p m) with
      | true=>rw[if_pos rfl];exact ⟨hp,h1,(by show m≤nrem;omega),hd,hq,ht⟩
      | false=>
        rw[if_neg (by simp)]
        refine Mn W h0 hz f p (m+1) (q+1) hp (by omega) (by omega) (hd.snoc W h1 hl2) (by omega) fun i i1 i2=>?_
        rw[Nat.add_sub_cancel]
        by_cases hi:i=m
        · subst hi;exact ⟨W.refl _,W.refl _⟩
        · have a:=ht i (by omega) (by omega)
          exact ⟨W.trans a.1 hl,W.trans hl2 a.2⟩
theorem Wy(W:Wo lt){m nrem:Nat}{p:Array Nat}(h0:0 < n)(hz:nrem≤n)(hp:Pm n p)(h1:1≤m)(hm:m≤nrem)(hd:Dn lt p m):On n lt (fun r=>Pm n r.2∧1≤r.1∧r.1≤nrem∧Up lt r.2 r.1) (kas_tail3 m nrem p):=by
  have hms:m≤p.size:=by rw[hp.size];omega
  have hu:Up lt (kas_rev p 0 m) m:=fun i j i1 i2=>by
    rw[H9 hms,H9 hms,if_pos (by omega),if_pos (by omega)]
    exact hd _ _ (by omega) (by omega)
  unfold kas_tail3
  exact On.bind (fun a ⟨a1,a2,a3,_⟩=>⟨hp.rev _ _,by omega,a2,a3⟩) (Vl (nrem:=nrem) W h0 (hp.rev 0 m) (nrem - m) m h1 (by omega) hu)
theorem Md(W:Wo lt){m nrem:Nat}{p:Array Nat}(h0:0 < n)(hz:nrem≤n)(hp:Pm n p)(hm:m+1≤nrem)(hd:Dn lt p (m+1)):On n lt (fun r=>Pm n r.2∧1≤r.1∧r.1≤nrem∧Up lt r.2 r.1) (kas_descPart m nrem p):=by
  unfold kas_descPart
  have tl0:Tl lt p (m+1) 0:=fun i i1 i2=>by
    have:i=m:=by omega
    subst this
    rw[Nat.add_sub_cancel];exact ⟨W.refl _,W.refl _⟩
  refine On.bind (fun r ⟨a1,a2,a3,a4,a5,a6⟩=>?_) (Mn W h0 hz (nrem - (m+1)) p (m+1) 0 hp (by omega) (by omega) hd (by omega) tl0)
  have hms:r.2.1≤r.1.size:=by rw[a1.size];omega
  split
  · exact Wy W h0 hz (a1.rev _ _) a2 a3 (a4.eqv W (a6.rev W a5 hms))
  · exact Wy W h0 hz a1 a2 a3 a4
theorem Adm(W:Wo lt){nrem:Nat}{p:Array Nat}(h0:0 < n)(hz:nrem≤n)(h1:1≤nrem)(hp:Pm n p):On n lt (fun r=>Pm n r.2∧1≤r.1∧r.1≤nrem∧Up lt r.2 r.1) (kas_count nrem p):=by
  unfold kas_count
  refine On.bind (fun m ⟨a1,a2,a3,a4⟩=>?_) (Vl (nrem:=nrem) W h0 hp (nrem - 1) 1 (Nat.le_refl _) (by omega) (Up.one W p))
  by_cases hm:(m == nrem)=true
  · rw[if_pos hm];exact ⟨hp,by omega,a2,a3⟩
  · rw[if_neg hm]
    have hne:m≠nrem:=by simpa using hm
    have hlt:lt (at0 p m) (at0 p (m - 1))=true:=a4.resolve_left hne
    by_cases hm1:m > 1
    · rw[if_pos hm1]
      refine ⟨hp.bd h0 _,hp.bd h0 _,?_⟩
      show On n lt _ (if lt (at0 p 0) (at0 p (m - 1))=true then _ else _)
      cases hl:lt (at0 p 0) (at0 p (m - 1)) with
      | true=>rw[if_pos rfl];exact ⟨hp,by omega,a2,a3⟩
      | false=>
        rw[if_neg (by simp)]
        have hms:m≤p.size:=by rw[hp.size];omega
        have hall:∀ i j,i < m→j < m→Le lt (at0 p i) (at0 p j):=fun i j i1 j1=>W.trans (a3 i (m - 1) (by omega) (by omega)) (W.trans hl (a3 0 j (by omega) j1))
        refine Md W h0 hz (hp.rev 0 m) (by omega) ?_
        have hd:Dn lt (kas_rev p 0 m) m:=fun i j i1 i2=>by
          rw[H9 hms,H9 hms,if_pos (by omega),if_pos (by omega)]
          exact hall _ _ (by omega) (by omega)
        refine hd.snoc W (by omega) ?_
        rw[H9 hms,H9 hms,if_neg (by omega),if_pos (by omega)]
        exact W.trans (W.le hlt) (hall _ _ (by omega) (by omega))
    · rw[if_neg hm1]
      have:m=1:=by omega
      subst this
      refine Md W h0 hz hp (by omega) ?_
      have hd:Dn lt p 1:=fun i j h1 h2=>by
        have:i=j:=by omega
        subst this;exact W.refl _
      exact hd.snoc W (Nat.le_refl _) (W.le hlt)
theorem N5(W:Wo lt){p:Array Nat}{k:Nat}(h0:0 < n)(hp:Pm n p)(hu:Up lt p k):∀ (f l r:Nat),l≤r→r≤k→r - l≤f→(∀ i,i < l→Le lt (at0 p i) (at0 p k))→(∀ i,r≤i→i < k→Le lt (at0 p k) (at0 p i)) →
    On n lt (fun l'=>l'≤k∧(∀ i,i < l'→Le lt (at0 p i) (at0 p k))∧∀ i,l'≤i→i < k→Le lt (at0 p k) (at0 p i)) (kas_place p k f l r)
  | 0,l,r,h1,h2,h3,h4,h5=>⟨by omega,h4,fun i i1 i2=>h5 i (by omega) i2⟩
  | f+1,l,r,h1,h2,h3,h4,h5=>by
    unfold kas_place
    by_cases hlr:l ≥ r
    · rw[if_pos hlr];exact ⟨by omega,h4,fun i i1 i2=>h5 i (by omega) i2⟩
    · rw[if_neg hlr]
      refine ⟨hp.bd h0 _,hp.bd h0 _,?_⟩
      show On n lt _ (if lt (at0 p k) (at0 p ((l+r) / 2))=true then _ else _)
      cases hl:lt (at0 p k) (at0 p ((l+r) / 2)) with
      | true=>
        rw[if_pos rfl]
        exact N5 W h0 hp hu f l ((l+r) / 2) (by omega) (by omega) (by omega) h4 fun i i1 i2=>W.trans (W.le hl) (hu _ _ i1 i2)
      | false=>
        rw[if_neg (by simp)]
        exact N5 W h0 hp hu f ((l+r) / 2+1) r (by omega) h2 (by omega) (fun i i1=>W.trans (hu i ((l+r) / 2) (by omega) (by omega)) hl) h5
theorem Acp(W:Wo lt)(h0:0 < n):∀ (f:Nat) (p:Array Nat) (k:Nat),Pm n p→Up lt p k→k+f=n→On n lt (fun p'=>Pm n p'∧Up lt p' n) (kas_bin f p k)
  | 0,p,k,hp,hu,hk=>⟨hp,(show k=n by omega) ▸ hu⟩
  | f+1,p,k,hp,hu,hk=>by
    unfold kas_bin
    refine On.bind (fun l ⟨a1,a2,a3⟩=>?_) (N5 W h0 hp hu k 0 k (by omega) (Nat.le_refl _) (by omega) (fun i h=>by omega) fun i h1 h2=>by omega)
    have hks:k < p.size:=by rw[hp.size];omega
    refine Acp W h0 f _ (k+1) (hp.bub _ _) (fun i j i1 i2=>?_) (by omega)
    rw[Ab9 hks a1,Ab9 hks a1]
    by_cases hi:i=l
    · rw[if_pos hi]
      by_cases hj:j=l
      · rw[if_pos hj];exact W.refl _
      · rw[if_neg hj,if_pos (by omega)];exact a3 _ (by omega) (by omega)
    · rw[if_neg hi]
      by_cases hi2:l < i∧i≤k
      · rw[if_pos hi2,if_neg (by omega),if_pos (by omega)]
        exact hu _ _ (by omega) (by omega)
      · rw[if_neg hi2]
        by_cases hj:j=l
        · rw[if_pos hj];exact a2 _ (by omega)
        · rw[if_neg hj]
          by_cases hj2:l < j∧j≤k
          · rw[if_pos hj2];exact hu _ _ (by omega) (by omega)
          · rw[if_neg hj2];exact hu _ _ i1 (by omega)
theorem Af1(W:Wo lt)(h0:0 < n):On n lt (fun p=>Pm n p∧Up lt p n) (kas_sort n):=by
  unfold kas_sort
  have hp:Pm n (List.toArray (List.range n)):=⟨by simp,by simp⟩
  refine On.bind (fun r ⟨a1,a2,a3,a4⟩=>?_) (Adm W h0 (Nat.le_refl n) h0 hp)
  by_cases hr:r.1 < n
  · rw[if_pos hr]
    have hm:max r.1 1=r.1:=by omega
    rw[hm]
    exact Acp W h0 _ _ _ a1 a4 (by omega)
  · rw[if_neg hr]
    have:r.1=n:=by omega
    exact ⟨a1,by rw[← this];exact a4⟩
end
end SO
namespace SO
open PySem PySem.W PySem.Calls PyProof.Rows
section
variable {P:Program}{w:World}{A:Around}{E:Value→Shared→Prop}{s:Shared}{vs:List Value}{lt:Nat→Nat→Bool}{κ:SortKind}
noncomputable def Kb(a:Addr)(h h':Heap):Prop:=∀ b o,b≠a→h.get? b=some o→h'.get? b=some o
theorem Kb.trans{a:Addr}{h h1 h2:Heap}(x:Kb a h h1)(y:Kb a h1 h2):Kb a h h2:=fun b o hb e=>y b o hb (x b o hb e)
theorem R5(h:Heap)(a:Addr)(f:Obj→Obj):Kb a h (h.update a f):=fun b o hb e=>((Heap.SameBut.update h a f).2 b hb).trans e
theorem Mm(a:Addr)(h:Heap)(o:Obj):Kb a h (h.push o):=fun _ _ _ e=>Heap.get?_push_of_some _ e
noncomputable def Mf(vs:List Value)(p:Array Nat):List Value:=p.toList.map fun i=>vs.getD i Value.none
theorem U0(vs:List Value):Mf vs (List.toArray (List.range vs.length))=vs:=by
  unfold Mf
  apply List.ext_getElem
  · simp
  · intro i h1 h2
    simp[h2]
theorem Adi{a:Addr}{c0:Nat}{F:PySem.Fin→Shared→Prop}(W:Wo lt)(ho:s.heap.get? a=some (seqObj "list" vs.toArray c0))(h64:vs.length < 64)
    (hkind:2≤vs.length→∀ (h':Heap) (Q:SortKind→Shared→Prop),Kb a s.heap h'→Q κ { s with heap:=h' }→wpAny (model P w) A (keyKind' vs.toArray) Q E { s with heap:=h' })
    (hask:∀ (h':Heap) (i j:Nat) (C:Bool→Shared→Prop),Kb a s.heap h'→i < vs.length→j < vs.length→C (lt i j) { s with heap:=h' }→kas_ask P w A κ vs i j C { s with heap:=h' })
    (hq:∀ (p:Array Nat) (h':Heap) (c:Nat),Pm vs.length p→Up lt p vs.length→Kb a s.heap h'→h'.get? a=some (seqObj "list" (Mf vs p).toArray c)→F (.done (.ret .none)) { s with heap:=h' }) :
    wpAny (model P w) A (Builtin.«list.sort» ⟨[.ref a],[]⟩) F E s:=by
  obtain ⟨c1,h1⟩:∃ c1,(s.heap.update a (Obj.mapSeq fun _=>(#[]:Array Value))).get? a=some (seqObj "list" #[] c1):=⟨_,get?_update_seq ho fun _=>#[]⟩
  have k1:Kb a s.heap (((s.heap.update a (Obj.mapSeq fun _=>(#[]:Array Value))).push (seqObj "tuple" vs.toArray 0)).push (seqObj "list" #[] 0)):=((R5 _ _ _).trans (Mm _ _ _)).trans (Mm _ _ _)
  have h3:(((s.heap.update a (Obj.mapSeq fun _=>(#[]:Array Value))).push (seqObj "tuple" vs.toArray 0)).push (seqObj "list" #[] 0)).get? a=some (seqObj "list" #[] c1):=Heap.get?_push_of_some _ (Heap.get?_push_of_some _ h1)
  rw[list_sort_plain]
  refine wpAny_bind (listItems_at ho rfl (wpAny_bind (listUpdate_at ho rfl (wpAny_bind (seqEpoch_at h1 rfl (wpAny_bind (wpAny_newTuple (wpAny_bind (wpAny_newList (wpAny_holding ?_) (Nat.zero_le _))) ?z2)))) ?z1 (Nat.zero_le _))))
  case z1=>rw[List.size_toArray,sizeLine_eq];omega
  case z2=>show vs.length≤_;rw[sizeLine_eq];omega
  show wpAny (model P w) A _ F E ({ s with heap:=((s.heap.update a (Obj.mapSeq fun _=>(#[]:Array Value))).push (seqObj "tuple" vs.toArray 0)).push (seqObj "list" #[] 0) }:Shared)
  generalize ((s.heap.update a (Obj.mapSeq fun _=>(#[]:Array Value))).push (seqObj "tuple" vs.toArray 0)).push (seqObj "list" #[] 0)=hp at k1 h3
  dsimp only
  have fin:∀ (p:Array Nat) (st:SortSt),Pm vs.length p→Up lt p vs.length→(arrOf st).map (·.2)=(Mf vs p).toArray→failedOf st=none→wpAny (model P w) A (do
      let touched:=(← seqEpoch a) != c1
      Builtin.List.listUpdate (.ref a) fun _=>(arrOf st).map (·.2)
      if let some e:=failedOf st then rule "list.sort.comparison-raised";throw e
      if touched then rule "list.sort.modified";raiseError "ValueError" "list modified during sort"
      ret .none) F E { s with heap:=hp }:=by
    intro p st hpm hup hout hfail
    have hlen:(Mf vs p).length=vs.length:=by unfold Mf;rw[List.length_map,Array.length_toList,hpm.size]
    obtain ⟨c2,h4⟩:∃ c2,(hp.update a (Obj.mapSeq fun _=>(Mf vs p).toArray)).get? a=some (seqObj "list" (Mf vs p).toArray c2):=⟨_,get?_update_seq h3 fun _=>(Mf vs p).toArray⟩
    rw[hout,hfail]
    refine wpAny_bind (seqEpoch_at h3 rfl (wpAny_bind (listUpdate_at h3 rfl ?_ (Nat.zero_le _) ?z3)))
    case z3=>rw[List.size_toArray,hlen,sizeLine_eq];omega
    simp only[bne_self_eq_false,Bool.false_eq_true,if_false]
    exact wpAny_pure (hq p _ c2 hpm hup (k1.trans (R5 _ _ _)) h4)
  by_cases hsmall:vs.toArray.size < 2
  · rw[if_pos hsmall,if_pos hsmall]
    have hs2:vs.length < 2:=by simpa using hsmall
    refine wpAny_bind (wpAny_pure ?_)
    rw[StateT.run_pure]
    refine wpAny_bind (wpAny_pure (fin (List.toArray (List.range vs.length)) (SortSt.mk' general' (vs.toArray.zip vs.toArray) #[] 7 none) ⟨by simp,by simp⟩ ?_ ?_ rfl))
    · intro i j hij hj
      have:i=j:=by omega
      subst this;exact W.refl _
    · rw[U0]
      show (vs.toArray.zip vs.toArray).map (·.2)=vs.toArray
      apply Array.ext
      · simp
      · intro i i1 i2;simp
  · rw[if_neg hsmall,if_neg hsmall]
    have hs2:2≤vs.length:=by simp at hsmall;omega
    refine wpAny_bind (hkind hs2 hp _ k1 ?_)
    have on:=(Af1 (n:=vs.length) W (by omega)).wp (cmp:=kas_ask P w A κ vs) (s:={ s with heap:=hp }) (Q:=fun p s'=>(Pm vs.length p∧Up lt p vs.length)∧s' = { s with heap:=hp }) (fun i j C hi hj hC=>hask hp i j C k1 hi hj hC) fun p h=>⟨h,rfl⟩
    refine wpAny_bind (wpAny_mono (kat_run (Q:=fun st s'=>∃ p:Array Nat,arrOf st=p.map (kas_item (vs.toArray.zip vs.toArray))∧failedOf st=none∧(Pm vs.length p∧Up lt p vs.length)∧s' = { s with heap:=hp }) rfl hs2 h64 (fun p st s' _ q1 q2 q3=>⟨p,q1,q2,q3⟩) on) ?_ fun _ _ e=>e)
    rintro ⟨⟨⟩,st⟩ s' ⟨p,q1,q2,⟨q3,q4⟩,rfl⟩
    exact fin p st q3 q4 (kat_snds rfl q1) q2
end
end SO
namespace LS
open PySem PyProof PyProof.Rows
noncomputable def Ae0:Bool→Keyed→Array Keyed→Nat→Nat→Nat→StateT SortSt Sem (Option Nat):=sortPriv% PySem.Builtin.gallop
abbrev Al8(st:SortSt)(g:Nat):SortSt:=SortSt.mk' (kindOf st) (arrOf st) (pendingOf st) g (failedOf st)
section
variable {prog:Program}{w:World}{A:Around}{E:Value→Shared→Prop}{s:Shared}
end
noncomputable def nk(p:Keyed):Int:=numOf p.1
noncomputable def IK(p:Keyed):Prop:=∃ n t,p.1 = .int n t
noncomputable def Srt(l:List Keyed):Prop:=l.Pairwise fun p q=>nk p≤nk q
section
variable {prog:Program}{w:World}{A:Around}{E:Value→Shared→Prop}{s:Shared}
end
structure J(L out x y:List Keyed):Prop where
  perm:(out++(x++y)).Perm L
  sx:Srt (out++x)
  sy:Srt (out++y)
theorem Iz{x y:List Keyed}:Srt (x++y)↔Srt x∧Srt y∧∀ p∈x,∀ q∈y,nk p≤nk q:=List.pairwise_append
theorem J.ga{L out x1 x2 y:List Keyed}(h:J L out (x1++x2) y)(hl:∀ p∈x1,∀ q∈y,nk p≤nk q):J L (out++x1) x2 y:=by
  have a:=h.sx
  have b:=Iz.mp h.sy
  refine ⟨by simpa[List.append_assoc] using h.perm,by simpa[List.append_assoc] using a,?_⟩
  rw[← List.append_assoc] at a
  refine Iz.mpr ⟨(Iz.mp a).1,b.2.1,?_⟩
  intro p hp q hq
  rcases List.mem_append.mp hp with hp | hp
  · exact b.2.2 p hp q hq
  · exact hl p hp q hq
theorem J.swap{L out x y:List Keyed}(h:J L out x y):J L out y x:=⟨(List.perm_append_comm.append_left out).trans h.perm,h.sy,h.sx⟩
theorem J.gb{L out x y1 y2:List Keyed}(h:J L out x (y1++y2))(hl:∀ p∈y1,∀ q∈x,nk p≤nk q):J L (out++y1) x y2:=(h.swap.ga hl).swap
noncomputable def Fin(L:List Keyed)(r:Array Keyed):Prop:=r.toList.Perm L∧Srt r.toList
abbrev lA(a b out:Array Keyed)(ia ib:Nat):Array Keyed:=out++b.extract ib b.size++a.extract ia a.size
abbrev GS:Type:=Option (Array Keyed)×Array Keyed×Nat×Nat×Nat×Nat×Nat
abbrev AS:Type:=Option (Array Keyed)×Array Keyed×Nat×Nat×Nat×Nat
section
variable {prog:Program}{w:World}{A:Around}{E:Value→Shared→Prop}{s:Shared}{L:List Keyed}{a b:Array Keyed}{st:SortSt}
structure Lo(L:List Keyed)(a b out:Array Keyed)(ia ib:Nat):Prop where
  ha:ia+1 < a.size
  hb:ib < b.size
  j:J L out.toList (a.toList.drop ia) (b.toList.drop ib)
structure Ms(a b:Array Keyed)(st:SortSt):Prop where
  kind:kindOf st=oneType'
  ka:∀ p∈a.toList,IK p
  kb:∀ p∈b.toList,IK p
noncomputable def Sg(st st':SortSt):Prop:=∃ g,st'=Al8 st g
theorem Sg.kind{st st':SortSt}(h:Sg st st'):kindOf st'=kindOf st:=by obtain ⟨g,rfl⟩:=h;rfl
theorem Sg.set{st st':SortSt}(h:Sg st st')(g:Nat):Sg st (Al8 st' g):=by obtain ⟨g',rfl⟩:=h;exact ⟨g,rfl⟩
theorem Ms.of{st st':SortSt}(h:Ms a b st)(e:Sg st st'):Ms a b st':=⟨e.kind.trans h.kind,h.ka,h.kb⟩
noncomputable def PG(L:List Keyed)(a b:Array Keyed)(st:SortSt)(m:Nat)(r:ForInStep GS)(st':SortSt):Prop:=
  Sg st st'∧match r with
  | .done (some r,_)=>Fin L r
  | .done (none,out,ia,ib,_)=>Lo L a b out ia ib∧m≤ia+ib
  | .yield (none,out,ia,ib,_)=>Lo L a b out ia ib∧m≤ia+ib
  | .yield (some _,_)=>False
noncomputable def PA(L:List Keyed)(a b:Array Keyed)(st:SortSt)(m:Nat)(r:ForInStep AS)(st':SortSt):Prop:=
  Sg st st'∧match r with
  | .done (some r,_)=>Fin L r
  | .done (none,out,ia,ib,_)=>Lo L a b out ia ib∧m≤ia+ib
  | .yield (none,out,ia,ib,_)=>Lo L a b out ia ib∧m≤ia+ib
  | .yield (some _,_)=>False
end
abbrev HG:Type:=Option (Array Keyed)×Nat×Nat×Array Keyed×Nat×Nat×Nat
abbrev HO:Type:=Option (Array Keyed)×Nat×Nat×Array Keyed×Nat
abbrev dnH(a b out:Array Keyed)(na nb:Nat):Array Keyed:=a.extract 0 na++b.extract 0 nb++out.reverse
abbrev fB(a b out:Array Keyed)(na nb:Nat):Array Keyed:=b.extract 0 nb++a.extract 0 na++out.reverse
noncomputable def hi3(a b:Array Keyed)(g k k2:Nat)(out:Array Keyed)(na nb:Nat):StateT SortSt Sem (ForInStep HG):=do
  let p ← elem' a (na - 1)
  if (na - 1 == 0)=true then pure (.done (some (dnH a b (out.push p) (na - 1) nb),na - 1,nb,out.push p,g,k,k2)) else
  if (decide (k < 7)&&decide (k2 < 7))=true then pure (.done (none,na - 1,nb,out.push p,g,k,k2)) else pure (.yield (none,na - 1,nb,out.push p,g,k,k2))
noncomputable def hi2(a b:Array Keyed)(g k bc:Nat)(out:Array Keyed)(na nb:Nat):StateT SortSt Sem (ForInStep HG):=do
  let p ← elem' b (nb - 1)
  if (nb - 1 == 1)=true then pure (.done (some (fB a b (out.push p) na (nb - 1)),na,nb - 1,out.push p,g,k,bc)) else do
  let q ← elem' a (na - 1)
  let x ← Ae0 true q b 0 (nb - 1) (nb - 1 - 1)
  match x with
  | some t=>
    if nb - 1 - t > 0 then
      if (t == 1)=true then
        pure (.done (some (fB a b (out.push p++(b.extract t (nb - 1)).reverse) na t),na,t,out.push p++(b.extract t (nb - 1)).reverse,g,k,nb - 1 - t))
      else if (t == 0)=true then
        pure (.done (some (dnH a b (out.push p++(b.extract t (nb - 1)).reverse) na t),na,t,out.push p++(b.extract t (nb - 1)).reverse,g,k,nb - 1 - t))
      else hi3 a b g k (nb - 1 - t) (out.push p++(b.extract t (nb - 1)).reverse) na t
    else hi3 a b g k (nb - 1 - t) (out.push p) na (nb - 1)
  | _=>pure (.done (some (dnH a b (out.push p) na (nb - 1)),na,nb - 1,out.push p,g,k,bc))
structure JH(L R x y:List Keyed):Prop where
  perm:(x++y++R).Perm L
  sx:Srt (x++R)
  sy:Srt (y++R)
theorem JH.ga{L R x1 x2 y:List Keyed}(h:JH L R (x1++x2) y)(hl:∀ p∈x2,∀ q∈y,nk q≤nk p):JH L (x2++R) x1 y:=by
  have a:=h.sx
  have b:=Iz.mp h.sy
  refine ⟨?_,by simpa[List.append_assoc] using a,?_⟩
  · refine List.Perm.trans ?_ h.perm
    rw[List.append_assoc,List.append_assoc,List.append_assoc]
    refine List.Perm.append_left x1 ?_
    rw[← List.append_assoc,← List.append_assoc]
    exact List.Perm.append_right R List.perm_append_comm
  · rw[List.append_assoc] at a
    refine Iz.mpr ⟨b.1,(Iz.mp a).2.1,?_⟩
    intro p hp q hq
    rcases List.mem_append.mp hq with hq | hq
    · exact hl q hq p hp
    · exact b.2.2 p hp q hq
theorem JH.swap{L R x y:List Keyed}(h:JH L R x y):JH L R y x:=⟨(List.perm_append_comm.append_right R).trans h.perm,h.sy,h.sx⟩
theorem JH.gb{L R x y1 y2:List Keyed}(h:JH L R x (y1++y2))(hl:∀ p∈y2,∀ q∈x,nk q≤nk p):JH L (y2++R) x y1:=(h.swap.ga hl).swap
section
variable {prog:Program}{w:World}{A:Around}{E:Value→Shared→Prop}{s:Shared}{L:List Keyed}{a b:Array Keyed}{st:SortSt}
structure Hi(L:List Keyed)(a b out:Array Keyed)(na nb:Nat):Prop where
  h1:0 < na
  h2:1 < nb
  ha:na≤a.size
  hb:nb≤b.size
  j:JH L out.toList.reverse (a.toList.take na) (b.toList.take nb)
end
section
variable {prog:Program}{w:World}{A:Around}{E:Value→Shared→Prop}{s:Shared}
structure Kn(st:SortSt):Prop where
  kind:kindOf st=oneType'
  fl:failedOf st=none
  ik:∀ p∈(arrOf st).toList,IK p
end
abbrev CA:Type:=Option (Option Nat)×Nat
abbrev CD:Type:=Option (Option Nat)×Nat×Nat
noncomputable def cA(lo:Nat)(_:Nat)(c:CA):StateT SortSt Sem (ForInStep CA):=do
  let x ← ltAt' (lo+c.2) (lo+c.2 - 1)
  match x with
  | some smaller=>if smaller=true then pure (.done (none,c.2)) else pure (.yield (none,c.2+1))
  | _=>pure (.done (some none,c.2))
noncomputable def c3(lo nrem n:Nat):StateT SortSt Sem (Option Nat):=do
  reverseSlice' lo (lo+n)
  let d ← forIn [n:nrem] ((none,n):CA) (cA lo)
  match d.1 with
  | some r=>pure r
  | none=>pure (some d.2)
noncomputable def cD(lo:Nat)(_:Nat)(c:CD):StateT SortSt Sem (ForInStep CD):=do
  let x ← ltAt' (lo+c.2.1) (lo+c.2.1 - 1)
  match x with
  | some smaller=>
    if smaller=true then
      if c.2.2 > 0 then do
        reverseSlice' (lo+c.2.1 - (c.2.2+1)) (lo+c.2.1)
        pure (.yield (none,c.2.1+1,0))
      else pure (.yield (none,c.2.1+1,0))
    else do
      let y ← ltAt' (lo+c.2.1 - 1) (lo+c.2.1)
      match y with
      | some larger=>if larger=true then pure (.done (none,c.2.1,c.2.2)) else pure (.yield (none,c.2.1+1,c.2.2+1))
      | _=>pure (.done (some none,c.2.1,c.2.2))
  | _=>pure (.done (some none,c.2.1,c.2.2))
noncomputable def c2(lo nrem n:Nat):StateT SortSt Sem (Option Nat):=do
  liftM (rule "list.sort.descending-run")
  let d ← forIn [n+1:nrem] ((none,n+1,0):CD) (cD lo)
  match d.1 with
  | some r=>pure r
  | none=>
    if d.2.2 > 0 then do
      reverseSlice' (lo+d.2.1 - (d.2.2+1)) (lo+d.2.1)
      c3 lo nrem d.2.1
    else c3 lo nrem d.2.1
structure Rb(lo:Nat)(st0 st:SortSt):Prop where
  perm:(arrOf st).Perm (arrOf st0)
  low:∀ k,k < lo→(arrOf st)[k]? = (arrOf st0)[k]?
  kind:kindOf st=kindOf st0
  fl:failedOf st=failedOf st0
  pend:pendingOf st=pendingOf st0
theorem Rb.size{lo:Nat}{st0 st:SortSt}(h:Rb lo st0 st):(arrOf st).size=(arrOf st0).size:=h.perm.size_eq
theorem Rb.set{lo:Nat}{st0 st:SortSt}(h:Rb lo st0 st){xs:Array Keyed}(hp:xs.Perm (arrOf st))(hl:∀ k,k < lo→xs[k]? = (arrOf st)[k]?):Rb lo st0 (setArr st xs):=
  ⟨hp.trans h.perm,fun k hk=>(hl k hk).trans (h.low k hk),h.kind,h.fl,h.pend⟩
theorem Rb.kn{lo:Nat}{st0 st:SortSt}(h:Rb lo st0 st)(k:Kn st0):Kn st:=
  ⟨h.kind.trans k.kind,h.fl.trans k.fl,fun p hp=>k.ik p ((Array.perm_iff_toList_perm.mp h.perm).mem_iff.mp hp)⟩
noncomputable def So(xs:Array Keyed)(lo n:Nat):Prop:=∀ i j,i≤j→j < n→K xs (lo+i)≤K xs (lo+j)
noncomputable def Ni(xs:Array Keyed)(lo n:Nat):Prop:=∀ i j,i≤j→j < n→K xs (lo+j)≤K xs (lo+i)
theorem So.one{xs:Array Keyed}{lo:Nat}:So xs lo 1:=fun i j h1 h2=>by
  have:i=j:=by omega
  subst this;exact Int.le_refl _
theorem So.more{xs:Array Keyed}{lo n:Nat}(h:So xs lo n)(hn:0 < n)(hl:K xs (lo+n - 1)≤K xs (lo+n)):So xs lo (n+1):=fun i j h1 h2=>by
  by_cases hj:j < n
  · exact h i j h1 hj
  · have:j=n:=by omega
    subst this
    by_cases hi:i=j
    · subst hi;exact Int.le_refl _
    · have:=h i (j - 1) (by omega) (by omega)
      rw[show lo+(j - 1)=lo+j - 1 by omega] at this
      omega
theorem Ni.more{xs:Array Keyed}{lo n:Nat}(h:Ni xs lo n)(hn:0 < n)(hl:K xs (lo+n)≤K xs (lo+n - 1)):Ni xs lo (n+1):=fun i j h1 h2=>by
  by_cases hj:j < n
  · exact h i j h1 hj
  · have:j=n:=by omega
    subst this
    by_cases hi:i=j
    · subst hi;exact Int.le_refl _
    · have:=h i (j - 1) (by omega) (by omega)
      rw[show lo+(j - 1)=lo+j - 1 by omega] at this
      omega
theorem Ni.congr{xs ys:Array Keyed}{lo n:Nat}(h:Ni xs lo n)(e:∀ k,K ys k=K xs k):Ni ys lo n:=fun i j h1 h2=>by rw[e,e];exact h i j h1 h2
section
variable {prog:Program}{w:World}{A:Around}{E:Value→Shared→Prop}{s:Shared}{st0:SortSt}{lo:Nat}
end
abbrev MI:Type:=Option Unit×Unit
abbrev RO:Type:=Option Unit×Nat
noncomputable def mI(pw:Nat)(_:Nat)(_:MI):StateT SortSt Sem (ForInStep MI):=do
  let s ← get
  match (if (pendingOf s).size > 1 then (pendingOf s)[(pendingOf s).size - 2]? else none) with
  | some (_,_,older)=>
    if older≤pw then pure (.done (none,())) else do
    let b ← mergeAt' ((pendingOf s).size - 2)
    if (!b)=true then pure (.done (some (),())) else pure (.yield (none,()))
  | _=>pure (.done (none,()))
noncomputable def r3(lo n:Nat):StateT SortSt Sem (ForInStep RO):=do
  modify fun s=>setPending s ((pendingOf s).push (lo,n,0))
  pure (.yield (none,lo+n))
noncomputable def r2(size lo n:Nat):StateT SortSt Sem (ForInStep RO):=do
  let s ← get
  match (pendingOf s).back? with
  | some (s1,n1,_)=>do
    let c ← forIn [0:size] ((none,()):MI) (mI (power' size (2 * s1+n1) (2 * s1+n1+n1+n) size))
    match c.1 with
    | some r=>pure (.done (some r,lo))
    | none=>do
      modify fun s=>setPending s ((pendingOf s).modify ((pendingOf s).size - 1) fun x=>(x.1,x.2.1,power' size (2 * s1+n1) (2 * s1+n1+n1+n) size))
      r3 lo n
  | _=>r3 lo n
noncomputable def r1(size:Nat)(_:Nat)(c:RO):StateT SortSt Sem (ForInStep RO):=
  if c.2 ≥ size then pure (.done (none,c.2)) else do
  let x ← countRun' c.2 (size - c.2)
  match x with
  | some found=>
    if found < minRun' size size 0 then do
      liftM (rule "list.sort.binary-insertion")
      let b ← binarySort' c.2 (min (size - c.2) (minRun' size size 0)) found
      if (!b)=true then pure (.done (some (),c.2)) else r2 size c.2 (min (size - c.2) (minRun' size size 0))
    else r2 size c.2 found
  | _=>pure (.done (some (),c.2))
noncomputable def f1(_:Nat)(_:MI):StateT SortSt Sem (ForInStep MI):=do
  let s ← get
  if (pendingOf s).size≤1 then pure (.done (none,())) else do
  let b ← mergeAt' (if (if (pendingOf s).size - 2 > 0 then (pendingOf s)[(pendingOf s).size - 2 - 1]?.map (·.2.1) else none).any (· < ((pendingOf s)[(pendingOf s).size - 2+1]?.elim 0 (·.2.1)))
    then (pendingOf s).size - 2 - 1 else (pendingOf s).size - 2)
  if (!b)=true then pure (.done (some (),())) else pure (.yield (none,()))
section
variable {prog:Program}{w:World}{A:Around}{E:Value→Shared→Prop}{s:Shared}{st0:SortSt}{lo:Nat}
end
abbrev Pn:Type:=Nat×Nat×Nat
noncomputable def RL(xs:Array Keyed):Nat→List Pn→Nat→Prop
  | s,[],e=>s=e
  | s,x::t,e=>x.1=s∧0 < x.2.1∧So xs s x.2.1∧RL xs (s+x.2.1) t e
theorem RL.le{xs:Array Keyed}:∀ {l:List Pn} {s e:Nat},RL xs s l e→s+l.length≤e
  | [],s,e,h=>by have:s=e:=h;simp[this]
  | x::t,s,e,h=>by have:=RL.le h.2.2.2;have:=h.2.1;simp;omega
theorem So.congr{xs ys:Array Keyed}{s n:Nat}(h:So xs s n)(e:∀ k,s≤k→k < s+n→K ys k=K xs k):So ys s n:=fun i j a b=>by
  rw[e _ (by omega) (by omega),e _ (by omega) (by omega)];exact h i j a b
theorem RL.congr{xs ys:Array Keyed}:∀ {l:List Pn} {s e:Nat},RL xs s l e→(∀ k,s≤k→k < e→K ys k=K xs k)→RL ys s l e
  | [],s,e,h,_=>h
  | x::t,s,e,h,hc=>by
    have l1:=RL.le h.2.2.2
    exact ⟨h.1,h.2.1,h.2.2.1.congr fun k a b=>hc k a (by omega),RL.congr h.2.2.2 fun k a b=>hc k (by omega) b⟩
section
variable {prog:Program}{w:World}{A:Around}{E:Value→Shared→Prop}{s:Shared}{st0:SortSt}{lo:Nat}
end
section
variable {prog:Program}{w:World}{A:Around}{E:Value→Shared→Prop}{s:Shared}{a₀:Array Keyed}
structure Rn(a₀:Array Keyed)(e:Nat)(st:SortSt):Prop where
  kn:Kn st
  perm:(arrOf st).Perm a₀
  rl:RL (arrOf st) 0 (pendingOf st).toList e
  le:e≤a₀.size
theorem Rn.size{e:Nat}{st:SortSt}(h:Rn a₀ e st):(arrOf st).size=a₀.size:=h.perm.size_eq
theorem Rn.of{st st':SortSt}{lo:Nat}(h:Rn a₀ lo st)(b:Rb lo st st'):Rn a₀ lo st':=by
  refine ⟨b.kn h.kn,b.perm.trans h.perm,?_,h.le⟩
  rw[b.pend]
  exact h.rl.congr fun k _ hk=>K_congr (b.low k hk)
end
end LS
namespace SO
open PySem PySem.W PySem.Calls PyProof.Rows
section
variable {P:Program}{w:World}{A:Around}{E:Value→Shared→Prop}{s:Shared}{vs:List Value}
end
end SO
namespace MR
open PySem PySem.Spec PyProof.Rows PySem.Calls L2 SO
noncomputable def Gy(ns:List Int):List Int:=ns.mergeSort (fun a b=>decide (a≤b))
theorem Ny(ns:List Int):(Gy ns).Perm ns:=List.mergeSort_perm _ _
theorem Aby(ns:List Int):(Gy ns).Pairwise (·≤·):=by
  have:=List.pairwise_mergeSort (le:=fun a b:Int=>decide (a≤b)) (fun a b c h1 h2=>by simp at h1 h2 ⊢;omega) (fun a b=>by simp;omega) ns
  exact this.imp fun h=>by simpa using h
theorem Aee{a b:List Int}(h:a.Perm b)(ha:a.Pairwise (·≤·))(hb:b.Pairwise (·≤·)):a=b:=
  h.eq_of_pairwise (fun x y _ _ h1 h2=>Int.le_antisymm h1 h2) ha hb
theorem Um{a b:List Int}(h:a.Perm b)(hb:b.Pairwise (·≤·)):Gy a=b:=Aee ((Ny a).trans h) (Aby a) hb
section
variable {X:Cx}
end
end MR
namespace SO
open PySem PySem.W PySem.Calls PyProof.Rows
section
variable {P:Program}{w:World}{A:Around}{E:Value→Shared→Prop}{s:Shared}{vs:List Value}
theorem Aae{a:Addr}{c0:Nat}{ns:List Int}{F:PySem.Fin→Shared→Prop}(ho:s.heap.get? a=some (seqObj "list" vs.toArray c0))(hI:IntsAre vs ns)(h64:vs.length < 64)
    (hq:∀ (out:List Value) (ns':List Int) (h':Heap) (c:Nat),IntsAre out ns'→ns'.Perm ns→ns'.Pairwise (·≤·)→Kb a s.heap h'→h'.get? a=some (seqObj "list" out.toArray c)→F (.done (.ret .none)) { s with heap:=h' }) :
    wpAny (model P w) A (Builtin.«list.sort» ⟨[.ref a],[]⟩) F E s:=by
  obtain ⟨c1,h1⟩:∃ c1,(s.heap.update a (Obj.mapSeq fun _=>(#[]:Array Value))).get? a=some (seqObj "list" #[] c1):=⟨_,get?_update_seq ho fun _=>#[]⟩
  have h3:(((s.heap.update a (Obj.mapSeq fun _=>(#[]:Array Value))).push (seqObj "tuple" vs.toArray 0)).push (seqObj "list" #[] 0)).get? a=some (seqObj "list" #[] c1):=Heap.get?_push_of_some _ (Heap.get?_push_of_some _ h1)
  refine list_sort_tree ho hI h64 fun out ns' a1 a2 a3=>?_
  obtain ⟨c2,h4⟩:∃ c2,(sortedHeap s.heap a vs out).get? a=some (seqObj "list" out c2):=⟨_,get?_update_seq h3 fun _=>out⟩
  exact hq out.toList ns' _ c2 a1 a2 a3 ((((R5 _ _ _).trans (Mm _ _ _)).trans (Mm _ _ _)).trans (R5 _ _ _)) (by rw[h4])
end
end SO
namespace MR
open PySem PySem.Spec PyProof.Rows PySem.Calls L2 SO
section
variable {X:Cx}
theorem Vq(hc:X.calm=true):CallR X (.builtin "sorted") (fun xs H Q=>∃ (l:Addr) (ns:List Int),xs=[.ref l]∧ns.length < 64∧SqT X.K H l (ns.map V.int) ∧
    ∀ (p:Addr),H p=none→Q (.ref p) (upd H p (.lst ((Gy ns).map V.int)))):=by
  intro pins s σ H xs us Q I r h
  obtain ⟨l,ns,rfl,h64,hq,q⟩:=h
  obtain ⟨u,rfl,rx⟩:=Ii r
  cases rx
  obtain ⟨its,rv,tp,hz⟩:=I.tuple hq
  obtain ⟨o,ho,hcl,cn,hd⟩:=tp
  have hI:IntsAre its ns:=G7 rv
  have hlen:=rv.length
  rw[List.length_map] at hlen
  refine call_function_entry kind_sorted plain_sorted entry_sorted (args_sorted1 _) ?_
  unfold Builtin.«sorted»
  refine wpAny_bind (m:=checkCount "sorted" 1 1 _) (wpAny_pure (wpAny_bind (wpAny_collect_seq l (.inr rfl) ho hcl hd (fun h1 kp=>?_) (by rw[List.size_toArray,sizeLine_eq];omega))))
  rw[show its.toArray.toList=its from by simp]
  refine wpAny_bind (wpAny_newList ?_ (by rw[sizeLine_eq];omega))
  have e2:(h1.push (seqObj "list" its.toArray 0)).get? h1.objs.size=some (seqObj "list" its.toArray 0):=Heap.get?_push_size _ rfl
  have e3:∀ b o,h1.get? b=some o→(h1.push (seqObj "list" its.toArray 0)).get? b=some o:=fun b o q=>Heap.get?_push_of_some _ q
  have e4:∀ (h':Heap),Kb h1.objs.size (h1.push (seqObj "list" its.toArray 0)) h'→∀ b o,h1.get? b=some o→h'.get? b=some o:=fun h' k b o q=>
    k b o (Nat.ne_of_lt (Heap.lt_size q)) (e3 b o q)
  show wpAny _ _ _ _ _ ({ s with heap:=h1.push (seqObj "list" its.toArray 0) }:Shared)
  generalize h1.push (seqObj "list" its.toArray 0)=hp at e2 e3 e4
  refine wpAny_bind (wpAny_holding (wpAny_call_entry slot_list_sort ⟨_,e2,rfl⟩ entry_list_sort (Aae (s:={ s with heap:=hp }) e2 hI (by omega) fun out ns' h' c a1 a2 a3 a4 a5=>⟨_,rfl,?_⟩) (args_list_sort _)))
  have J0:L2.Inv X pins σ H { s with heap:=h1 }:=I.kept (t':=s.toks) kp
  have en:ns'=Gy ns:=(Um a2.symm a3).symm
  subst en
  have hsz:((Gy ns).map V.int).length≤sizeLine:=by
    rw[List.length_map,(Ny ns).length_eq]
    rw[List.length_map] at hz
    exact hz
  have I1:Inv X pins σ (upd H h1.objs.size (.lst ((Gy ns).map V.int))) { s with heap:=h' }:=J0.laid (t':=s.toks) (e4 h' a4) (Nat.le_refl _) ⟨hsz,out,c,Py a1,a5⟩
  exact wpAny_pure ⟨_,rfl,.ref h1.objs.size,_,I1,rfl,q _ (J0.hok.fresh (Nat.le_refl _))⟩
end
noncomputable def semSortJ:SC:=fun us L=>match us with
  | [.tup l]=>(mapO toI l).bind fun ns=>if ns.length < 64 then some (.ref L.length,L++[.lst ((Gy ns).map U.int)]) else none
  | _=>none
theorem Aak{K:PySem.W.Frag}:Q1 K (fun xs H Q=>∃ (l:Addr) (ns:List Int),xs=[.ref l]∧ns.length < 64∧SqT K H l (ns.map V.int) ∧
    ∀ (p:Addr),H p=none→Q (.ref p) (upd H p (.lst ((Gy ns).map V.int)))) semSortJ:=by
  intro H α L us xs z L' Q A r e q
  unfold semSortJ at e
  split at e
  · obtain ⟨ns,hns,e⟩:=Option.bind_eq_some_iff.mp e
    split at e
    · rename_i h64
      cases e
      obtain ⟨x,rfl,rx⟩:=r.one
      unfold RepU at rx
      obtain ⟨a,ys,rfl,sq,r2⟩:=rx
      rw[Iy r2 hns] at sq
      refine ⟨a,ns,rfl,h64,sq,fun p hp=>?_⟩
      have rl:RepL K H α ((Gy ns).map U.int) ((Gy ns).map V.int):=by
        generalize Gy ns=ws
        induction ws with
        | nil=>exact .nil
        | cons w ws ih=>exact .cons (by unfold RepU;rfl) ih
      obtain ⟨g2,A2,r3⟩:=A.lst rl hp
      exact q _ _ _ g2 A2 r3
    · cases e
  · cases e
end MR
namespace SW
open PySem
noncomputable def Rs(xs:Array Nat):Prop:=xs.toList.Pairwise (· < ·)
theorem Ahc{xs:Array Nat}(h:Rs xs){i j:Nat}(hij:i < j)(hj:j < xs.size):xs[i]'(by omega) < xs[j]:=by
  have:=List.pairwise_iff_getElem.mp h i j (by simpa using (by omega:i < xs.size)) (by simpa using hj) hij
  simpa using this
theorem Ahe{xs:Array Nat}(h:Rs xs){i j:Nat}(hij:i≤j)(hj:j < xs.size):xs[i]'(by omega)≤xs[j]:=by
  rcases Nat.lt_or_eq_of_le hij with g | g
  · exact Nat.le_of_lt (Ahc h g hj)
  · subst g;exact Nat.le_refl _
theorem Adz{xs:Array Nat}(h:Rs xs)(j:Nat):∀ (fuel lo hi:Nat),hi - lo≤fuel→lo≤hi→hi≤xs.size→(∀ i (_:i < xs.size),i < lo→xs[i] < j)→(∀ i (_:i < xs.size),hi≤i→j≤xs[i]) →
    SetTable.below.go xs j fuel lo hi≤xs.size∧(∀ i (_:i < xs.size),i < SetTable.below.go xs j fuel lo hi→xs[i] < j)∧(∀ i (_:i < xs.size),SetTable.below.go xs j fuel lo hi≤i→j≤xs[i]):=by
  intro fuel
  induction fuel with
  | zero=>
    intro lo hi h1 h2 h3 h4 h5
    have:lo=hi:=by omega
    subst this
    unfold SetTable.below.go
    exact ⟨h3,h4,h5⟩
  | succ n ih=>
    intro lo hi h1 h2 h3 h4 h5
    unfold SetTable.below.go
    split
    · rename_i hlt
      have hm:(lo+hi) / 2 < xs.size:=by omega
      have e:xs.getD ((lo+hi) / 2) j=xs[(lo+hi) / 2]:=by simp[Array.getD,hm]
      dsimp only
      rw[e]
      split
      · rename_i hx
        exact ih _ _ (by omega) (by omega) h3 (fun i hi' hlt'=>Nat.lt_of_le_of_lt (Ahe h (by omega) hm) hx) h5
      · rename_i hx
        exact ih _ _ (by omega) (by omega) (by omega) h4 (fun i hi' hle=>Nat.le_trans (Nat.not_lt.mp hx) (Ahe h hle hi'))
    · have:lo=hi:=by omega
      subst this
      exact ⟨h3,h4,h5⟩
theorem Uc{xs:Array Nat}(h:Rs xs)(j:Nat):SetTable.below xs j≤xs.size∧(∀ i (_:i < xs.size),i < SetTable.below xs j→xs[i] < j)∧(∀ i (_:i < xs.size),SetTable.below xs j≤i→j≤xs[i]):=by
  unfold SetTable.below
  exact Adz h j _ _ _ (by omega) (Nat.zero_le _) (Nat.le_refl _) (fun i _ h=>by omega) (fun i h1 h2=>by omega)
theorem Vx{xs:Array Nat}(h:Rs xs):SetTable.below xs 0=0:=by
  obtain ⟨a,b,c⟩:=Uc h 0
  rcases Nat.eq_zero_or_pos (SetTable.below xs 0) with e | e
  · exact e
  · exact absurd (b 0 (by omega) e) (Nat.not_lt_zero _)
theorem Vg{xs:Array Nat}(h:Rs xs){i:Nat}(hi:i < xs.size):SetTable.below xs (xs[i]+1)=i+1:=by
  obtain ⟨a,b,c⟩:=Uc h (xs[i]+1)
  rcases Nat.lt_trichotomy (SetTable.below xs (xs[i]+1)) (i+1) with e | e | e
  · have:=c i hi (by omega);omega
  · exact e
  · have h1:=b (i+1) (by omega) e
    have h2:=Ahc h (i:=i) (j:=i+1) (by omega) (by omega)
    omega
structure Tb(t:SetTable)(led:Bool):Prop where
  rs:Rs t.place
  du:t.dummies=#[]
  le:t.led=led
theorem Afv{α:Type}(f:Nat→Nat):∀ (fuel k:Nat) (left:List α) (out:Array α),fuel=left.length→(pickOrder.go f fuel k left out).toList.Perm (out.toList++left):=by
  intro fuel
  induction fuel with
  | zero=>
    intro k left out e
    have:left=[]:=List.length_eq_zero_iff.mp e.symm
    subst this
    unfold pickOrder.go
    simp
  | succ n ih=>
    intro k left out e
    unfold pickOrder.go
    have hl:f k % left.length < left.length:=Nat.mod_lt _ (by omega)
    rw[List.getElem?_eq_getElem hl]
    dsimp only
    refine (ih _ _ _ (by rw[List.length_eraseIdx,if_pos hl];omega)).trans ?_
    rw[Array.toList_push,List.append_assoc]
    refine List.Perm.append_left _ ?_
    rw[List.eraseIdx_eq_take_drop_succ,List.singleton_append]
    have e2:left=left.take (f k % left.length)++left[f k % left.length]::left.drop (f k % left.length+1):=by rw[List.getElem_cons_drop,List.take_append_drop]
    exact (List.perm_middle.symm).trans (List.Perm.of_eq e2.symm)
theorem Lh{α:Type}(f:Nat→Nat)(xs:Array α):(pickOrder f xs).toList.Perm xs.toList:=by
  unfold pickOrder
  have:=Afv f xs.size 0 xs.toList #[] (by simp)
  simpa using this
end SW
namespace SW
open PySem PySem.Spec PyProof.Rows
noncomputable def kOf:Value→Int
  | .int k _=>k
  | _=>0
noncomputable def Aml(es:Array (Int×Value)):Prop:=∀ e∈es.toList,∃ k tk,e=(hashInt k,Value.int k tk)
noncomputable def IsSet(h:Heap)(a:Addr)(led:Bool)(σ:List Int):Prop:=
  ∃ o es ep t,h.get? a=some o∧o.ExactSet∧o.data = .set es ep t∧Aml es∧(es.toList.map fun e=>kOf e.2).Perm σ∧es.size < scanBound∧t.fits es.size=true∧Tb t led
theorem Afz{h:Heap}{a:Addr}{o:Obj}{es:Array (Int×Value)}{ep:Nat}{t:SetTable}(ho:h.get? a=some o)(hd:o.data = .set es ep t)(fs:Array (Int×Value))(u:SetTable) :
    (h.update a (Obj.putSet fs u)).get? a=some { o with data:=.set fs (ep+1) u }:=by
  have q:=Heap.get?_update_self (Obj.putSet fs u) ho (by rw[putSet_of fs u hd];rfl)
  rw[putSet_of fs u hd] at q
  exact q
section
variable {prog:Program}{w:World}{A:Around}{E:Value→Shared→Prop}{s:Shared}{led:Bool}{σ:List Int}{a:Addr}
end
theorem Tn:Manifest.owners.lookup (String.ofList ['r','o','t','a','r','e','t','i','_','t','e','s'].reverse)=some Manifest.sig_set_iterator:=by kernel_rfl
theorem Bl:Slot "set_iterator" "__next__" "set_iterator.__next__" :=
  .of (owner := "set_iterator") (n := "__next__") (by rw[typeLookup_type,builtinLookup_eq_fast];kernel_rfl) (by decide +kernel) (by decide +kernel) (by decide +kernel) (by first | exact .inl (by decide +kernel) | exact .inr (by decide +kernel)) (by rw[isSubtype_type];kernel_rfl)
theorem Ec:entryFor table "set_iterator.__next__" = some Builtin.«set_iterator.__next__» := entryFor_of_tree (by kernel_rfl)
theorem Eu(a:Value):argsOk "set_iterator.__next__" ⟨[a],[]⟩:=by
  unfold argsOk;rw[signature?_of (id := "set_iterator.__next__") (n:=['_','_','t','x','e','n','_','_']) (o:=['r','o','t','a','r','e','t','i','_','t','e','s']) (by kernel_rfl) Tn];kernel_rfl
theorem Kd:Slot "set_iterator" "__iter__" "set_iterator.__iter__" :=
  .of (owner := "set_iterator") (n := "__iter__") (by rw[typeLookup_type,builtinLookup_eq_fast];kernel_rfl) (by decide +kernel) (by decide +kernel) (by decide +kernel) (by first | exact .inl (by decide +kernel) | exact .inr (by decide +kernel)) (by rw[isSubtype_type];kernel_rfl)
theorem Q4(a:Value):argsOk "set_iterator.__iter__" ⟨[a],[]⟩:=by
  unfold argsOk;rw[signature?_of (id := "set_iterator.__iter__") (n:=['_','_','r','e','t','i','_','_']) (o:=['r','o','t','a','r','e','t','i','_','t','e','s']) (by kernel_rfl) Tn];kernel_rfl
theorem O9:entryFor table "set_iterator.__iter__" = some Builtin.«dict_keyiterator.__iter__» :=
  entryFor_alias (id' := "dict_keyiterator.__iter__") (by kernel_rfl) (by first | rfl | decide +kernel | (unfold String.splitOn;simp +decide [String.splitOnAux])) (by decide +kernel) (by kernel_rfl)
theorem Se:entryFor table "set.__iter__" = some Builtin.«frozenset.__iter__» :=
  entryFor_alias (id' := "frozenset.__iter__") (by kernel_rfl) (by first | rfl | decide +kernel | (unfold String.splitOn;simp +decide [String.splitOnAux])) (by decide +kernel) (by kernel_rfl)
noncomputable def itO(first:Value)(i:Int)(a:Addr)(n ep:Nat):Obj:={ cls:=.type "set_iterator",dict:=none,data:=.fields #[first,rawInt i,.ref a,rawInt n,rawInt ep],slots:=#[] }
noncomputable def SetAt(h:Heap)(a:Addr)(es:Array (Int×Value))(ep:Nat)(t:SetTable):Prop:=∃ o,h.get? a=some o∧o.ExactSet∧o.data = .set es ep t
section
variable {prog:Program}{w:World}{A:Around}{E:Value→Shared→Prop}{s:Shared}{a I:Addr}{es:Array (Int×Value)}{ep:Nat}{t:SetTable}
theorem Mx{Q:Bool→Shared→Prop}(h:Q (w.params.followText "set-order") s):wpAny (model prog w) A setsByText Q E s:=by
  unfold setsByText
  exact wpAny_bind (wpAny_askSetting (wpAny_pure h))
theorem Fm{Q:Array (Int×Value)→Shared→Prop}(hS:SetAt s.heap a es ep t)(hf:t.fits es.size=true)(h:Q es s):wpAny (model prog w) A (setEntries a) Q E s:=by
  obtain ⟨o,ho,hex,hd⟩:=hS
  unfold setEntries
  exact wpAny_bind (wpAny_setState_of ho hd hf (wpAny_pure h))
theorem P0{slot i:Nat}{Q:Option (Value×Nat)→Shared→Prop}(hS:SetAt s.heap a es ep t)(hf:t.fits es.size=true)(hb:w.params.followText "set-order" = true)
    (h:Q (((pickOrder (w.params.setOrder a ep) es)[i]?).map fun e=>(e.2,slot)) s):wpAny (model prog w) A (setNext a slot i ep) Q E s:=by
  obtain ⟨o,ho,hex,hd⟩:=hS
  unfold setNext
  refine wpAny_bind (wpAny_setState_of ho hd hf (wpAny_bind (Mx ?_)))
  rw[hb]
  simp only[if_true,bne_self_eq_false,Bool.false_eq_true,if_false]
  refine wpAny_bind ?_
  unfold setWalk
  refine wpAny_bind (wpAny_setState_of ho hd hf (wpAny_bind (Mx ?_)))
  rw[hb]
  simp only[if_true]
  exact wpAny_bind (wpAny_askSetting (wpAny_pure (wpAny_pure h)))
theorem T1{slot i k:Nat}{Q:Option (Value×Nat)→Shared→Prop}(hS:SetAt s.heap a es ep t)(hf:t.fits es.size=true)(hb:w.params.followText "set-order" = false)(hd':(!t.plain&&decide (es.size > 1))=false)(hl:t.led=true)
    (h:Q (match es[SetTable.below t.place slot]?,t.place[SetTable.below t.place slot]? with
      | some (_,x),some j=>some (x,j+1)
      | _,_=>none) s):wpAny (model prog w) A (setNext a slot i k) Q E s:=by
  obtain ⟨o,ho,hex,hd⟩:=hS
  unfold setNext
  refine wpAny_bind (wpAny_setState_of ho hd hf (wpAny_bind (Mx ?_)))
  rw[hb]
  simp only[Bool.false_eq_true,if_false]
  show wpAny _ _ (if (!t.plain&&decide (es.size > 1))=true then _ else _) _ _ _
  rw[hd',if_neg (by simp)]
  show wpAny _ _ ((if (!t.led && !es.isEmpty)=true then _ else _) >>= _) _ _ _
  rw[hl]
  simp only[Bool.not_true,Bool.false_and,Bool.false_eq_true,if_false]
  exact wpAny_bind (wpAny_pure (wpAny_pure h))
theorem Vb{k:Nat}{x:Int×Value}{Q:Value→Shared→Prop}(hS:SetAt s.heap a es ep t)(hf:t.fits es.size=true)(hx:es[k]? = some x)(h:Q x.2 s):wpAny (model prog w) A (setNextDrawn a k ep) Q E s:=by
  obtain ⟨o,ho,hex,hd⟩:=hS
  unfold setNextDrawn
  refine wpAny_bind (wpAny_setState_of ho hd hf ?_)
  simp only[bne_self_eq_false,Bool.false_eq_true,if_false,hx]
  exact wpAny_pure h
end
section
variable {prog:Program}{w:World}{A:Around}{E:Value→Shared→Prop}{s:Shared}{a I T:Addr}{es:Array (Int×Value)}{ep:Nat}{t:SetTable}
theorem K0{first:Value}{i:Int}{n:Nat}(hI:s.heap.get? I=some (itO first i a n ep)):s.TypeIs (.ref I) "set_iterator" := ⟨_,hI,rfl⟩
theorem T2{slot i nx:Nat}{x:Value}{Q:Option Value→Shared→Prop}(hI:s.heap.get? I=some (itO (rawInt slot) i a es.size ep))(hS:SetAt s.heap a es ep t)(hf:t.fits es.size=true)
    (hn:∀ (B:Around) (E':Value→Shared→Prop) (Q':Option (Value×Nat)→Shared→Prop),Q' (some (x,nx)) s→wpAny (model prog w) B (setNext a slot i ep) Q' E' s)
    (hQ:∀ h',h'.get? I=some (itO (rawInt nx) ((i:Int)+1) a es.size ep)→(∀ b o,b≠I→s.heap.get? b=some o→h'.get? b=some o)→Q (some x) { s with heap:=h' }):wpAny (model prog w) A (pyNext (.ref I)) Q E s:=by
  have hT:=K0 hI
  unfold pyNext
  refine wpAny_bind (wpAny_attempt (wpAny_callSpecial?_slot (name:=Str.ofString "__next__") hT Bl (wpAny_call_entry Bl hT Ec ?_ (Eu _))))
  unfold Builtin.«set_iterator.__next__»
  refine wpAny_bind (wpAny_of_eq (a:=(Value.ref I,[])) rfl ?_)
  dsimp only
  refine wpAny_bind (wpAny_fieldsOf hI rfl ?_)
  show wpAny _ _ (setEntries a >>= _) _ _ _
  refine wpAny_bind (Fm hS hf ?_)
  simp only[bne_self_eq_false,Bool.false_eq_true,if_false]
  show wpAny _ _ (setNext a ((slot:Int)).toNat ((i:Int)).toNat ((ep:Int)).toNat >>= _) _ _ _
  rw[Int.toNat_natCast,Int.toNat_natCast,Int.toNat_natCast]
  refine wpAny_bind (hn _ _ _ ?_)
  dsimp only
  refine wpAny_bind (wpAny_setField_rec hI (by simp) fun h1 e1 k1=>?_)
  refine wpAny_bind (wpAny_setField_rec (s:={ s with heap:=h1 }) e1 (by simp) fun h2 e2 k2=>?_)
  first
  | refine wpAny_pure ⟨x,rfl,wpAny_pure (hQ h2 ?_ fun b o hb e=>k2.extBut b o hb (k1.extBut b o hb e))⟩
  | refine wpAny_bind (wpAny_pure (wpAny_pure ⟨x,rfl,wpAny_pure (hQ h2 ?_ fun b o hb e=>k2.extBut b o hb (k1.extBut b o hb e))⟩))
  rw[e2]
  rfl
theorem W7{slot i:Nat}{Q:Option Value→Shared→Prop}(hh:A.handled=none)(hI:s.heap.get? I=some (itO (rawInt slot) i a es.size ep))(hS:SetAt s.heap a es ep t)(hf:t.fits es.size=true)
    (hn:∀ (B:Around) (E':Value→Shared→Prop) (Q':Option (Value×Nat)→Shared→Prop),Q' none s→wpAny (model prog w) B (setNext a slot i ep) Q' E' s)
    (hQ:∀ h',(∀ b o,b≠I→s.heap.get? b=some o→h'.get? b=some o)→Q none { s with heap:=h' }):wpAny (model prog w) A (pyNext (.ref I)) Q E s:=by
  have hT:=K0 hI
  unfold pyNext
  refine wpAny_bind (wpAny_attempt (wpAny_callSpecial?_slot (name:=Str.ofString "__next__") hT Bl (wpAny_call_entry Bl hT Ec ?_ (Eu _))))
  unfold Builtin.«set_iterator.__next__»
  refine wpAny_bind (wpAny_of_eq (a:=(Value.ref I,[])) rfl ?_)
  dsimp only
  refine wpAny_bind (wpAny_fieldsOf hI rfl ?_)
  show wpAny _ _ (setEntries a >>= _) _ _ _
  refine wpAny_bind (Fm hS hf ?_)
  simp only[bne_self_eq_false,Bool.false_eq_true,if_false]
  show wpAny _ _ (setNext a ((slot:Int)).toNat ((i:Int)).toNat ((ep:Int)).toNat >>= _) _ _ _
  rw[Int.toNat_natCast,Int.toNat_natCast,Int.toNat_natCast]
  refine wpAny_bind (hn _ _ _ ?_)
  dsimp only
  refine wpAny_bind (wpAny_setField_rec hI (by simp) fun h1 e1 k1=>?_)
  refine wpAny_bind ?_
  simp only[newExc,newTuple]
  refine wpAny_bind (wpAny_newObj_type ?_ (by size_fits))
  refine wpAny_bind (m:=firstArgMember _ _) (wpAny_of_eq (a:=Value.none) (by first | rfl | (simp only[firstArgMember];rfl)) ?_)
  refine wpAny_newObj_type ?_ (by size_fits)
  simp only[raiseNew]
  refine wpAny_bind (wpAny_handled ?_)
  first | rw[show A.in1.handled=none from hh] | rw[hh]
  refine wpAny_bind (wpAny_pure (wpAny_throw ?_))
  refine wpAny_bind (wpAny_isInstance (T := "StopIteration") (b:=true) ⟨_,Heap.get?_push_size _ rfl,rfl⟩ isSubtype_stop ?_)
  exact wpAny_pure (hQ _ fun b o hb e=>Heap.get?_push_of_some _ (Heap.get?_push_of_some _ (k1.extBut b o hb e)))
theorem Ac1{ps:List Nat}{i k:Nat}{x:Int×Value}{Q:Option Value→Shared→Prop}(hI:s.heap.get? I=some (itO (.ref T) i a es.size ep))(hS:SetAt s.heap a es ep t)(hf:t.fits es.size=true)
    (hT':s.heap.IsTuple T (ps.map fun (k:Nat)=>rawInt k).toArray) (hk:ps[i]? = some k) (hx:es[k]? = some x)
    (hQ:∀ h',h'.get? I=some (itO (.ref T) ((i:Int)+1) a es.size ep)→(∀ b o,b≠I→s.heap.get? b=some o→h'.get? b=some o)→Q (some x.2) { s with heap:=h' }):wpAny (model prog w) A (pyNext (.ref I)) Q E s:=by
  have hT:=K0 hI
  obtain ⟨ot,hot,_,nt,hdt⟩:=hT'
  unfold pyNext
  refine wpAny_bind (wpAny_attempt (wpAny_callSpecial?_slot (name:=Str.ofString "__next__") hT Bl (wpAny_call_entry Bl hT Ec ?_ (Eu _))))
  unfold Builtin.«set_iterator.__next__»
  refine wpAny_bind (wpAny_of_eq (a:=(Value.ref I,[])) rfl ?_)
  dsimp only
  refine wpAny_bind (wpAny_fieldsOf hI rfl ?_)
  show wpAny _ _ (setEntries a >>= _) _ _ _
  refine wpAny_bind (Fm hS hf ?_)
  simp only[bne_self_eq_false,Bool.false_eq_true,if_false]
  show wpAny _ _ (seqItems? (.ref T) >>= _) _ _ _
  refine wpAny_bind (wpAny_seqItems hot hdt ?_)
  have e1:((ps.map fun (k:Nat)=>rawInt k).toArray)[((i:Int)).toNat]? = some (rawInt k):=by
    rw[Int.toNat_natCast,List.getElem?_toArray,List.getElem?_map,hk];rfl
  dsimp only
  rw[e1]
  show wpAny _ _ (setNextDrawn a ((k:Int)).toNat ((ep:Int)).toNat >>= _) _ _ _
  rw[Int.toNat_natCast,Int.toNat_natCast]
  refine wpAny_bind (Vb hS hf hx ?_)
  refine wpAny_bind (wpAny_setField_rec hI (by simp) fun h1 e1 k1=>?_)
  first
  | refine wpAny_pure ⟨x.2,rfl,wpAny_pure (hQ h1 ?_ fun b o hb e=>k1.extBut b o hb e)⟩
  | refine wpAny_bind (wpAny_pure (wpAny_pure ⟨x.2,rfl,wpAny_pure (hQ h1 ?_ fun b o hb e=>k1.extBut b o hb e)⟩))
  rw[e1]
  rfl
theorem Afc{ps:List Nat}{i:Nat}{Q:Option Value→Shared→Prop}(hh:A.handled=none)(hI:s.heap.get? I=some (itO (.ref T) i a es.size ep))(hS:SetAt s.heap a es ep t)(hf:t.fits es.size=true)
    (hT':s.heap.IsTuple T (ps.map fun (k:Nat)=>rawInt k).toArray) (hk:ps[i]? = none)
    (hQ:∀ h',(∀ b o,b≠I→s.heap.get? b=some o→h'.get? b=some o)→Q none { s with heap:=h' }):wpAny (model prog w) A (pyNext (.ref I)) Q E s:=by
  have hT:=K0 hI
  obtain ⟨ot,hot,_,nt,hdt⟩:=hT'
  unfold pyNext
  refine wpAny_bind (wpAny_attempt (wpAny_callSpecial?_slot (name:=Str.ofString "__next__") hT Bl (wpAny_call_entry Bl hT Ec ?_ (Eu _))))
  unfold Builtin.«set_iterator.__next__»
  refine wpAny_bind (wpAny_of_eq (a:=(Value.ref I,[])) rfl ?_)
  dsimp only
  refine wpAny_bind (wpAny_fieldsOf hI rfl ?_)
  show wpAny _ _ (setEntries a >>= _) _ _ _
  refine wpAny_bind (Fm hS hf ?_)
  simp only[bne_self_eq_false,Bool.false_eq_true,if_false]
  show wpAny _ _ (seqItems? (.ref T) >>= _) _ _ _
  refine wpAny_bind (wpAny_seqItems hot hdt ?_)
  have e1:((ps.map fun (k:Nat)=>rawInt k).toArray)[((i:Int)).toNat]? = none:=by
    rw[Int.toNat_natCast,List.getElem?_toArray,List.getElem?_map,hk];rfl
  dsimp only
  rw[e1]
  dsimp only
  refine wpAny_bind (wpAny_setField_rec hI (by simp) fun h1 e1 k1=>?_)
  refine wpAny_bind (wpAny_setField_rec (s:={ s with heap:=h1 }) e1 (by simp) fun h2 e2 k2=>?_)
  refine wpAny_bind ?_
  simp only[newExc,newTuple]
  refine wpAny_bind (wpAny_newObj_type ?_ (by size_fits))
  refine wpAny_bind (m:=firstArgMember _ _) (wpAny_of_eq (a:=Value.none) (by first | rfl | (simp only[firstArgMember];rfl)) ?_)
  refine wpAny_newObj_type ?_ (by size_fits)
  simp only[raiseNew]
  refine wpAny_bind (wpAny_handled ?_)
  first | rw[show A.in1.handled=none from hh] | rw[hh]
  refine wpAny_bind (wpAny_pure (wpAny_throw ?_))
  refine wpAny_bind (wpAny_isInstance (T := "StopIteration") (b:=true) ⟨_,Heap.get?_push_size _ rfl,rfl⟩ isSubtype_stop ?_)
  exact wpAny_pure (hQ _ fun b o hb e=>Heap.get?_push_of_some _ (Heap.get?_push_of_some _ (k2.extBut b o hb (k1.extBut b o hb e))))
theorem Rm{first:Value}{i:Int}{n:Nat}{Q:Value→Shared→Prop}(hI:s.heap.get? I=some (itO first i a n ep))(h:Q (.ref I) s):wpAny (model prog w) A (pyIter (.ref I)) Q E s:=by
  have hT:=K0 hI
  refine wpAny_pyIter_slot hT Kd (wpAny_call_entry Kd hT O9 ?_ (Q4 _))
  show wpAny _ _ (ret (.ref I)) _ _ s
  exact wpAny_pure ⟨_,rfl,"set_iterator",_,hT,Bl.lookup,h⟩
end
section
variable {prog:Program}{w:World}{A:Around}{E:Value→Shared→Prop}{s:Shared}{a I T:Addr}{es:Array (Int×Value)}{ep:Nat}{t:SetTable}
theorem SetAt.at{h h':Heap}(x:SetAt h a es ep t)(e:∀ o,h.get? a=some o→h'.get? a=some o):SetAt h' a es ep t:=let ⟨o,ho,r⟩:=x;⟨o,e _ ho,r⟩
noncomputable def PI(xs:List (Int×Value))(i:Nat)(v:Value):Prop:=∃ e,xs[i]? = some e∧v=e.2
theorem Yt(hh:A.handled=none)(hf:t.fits es.size=true)(hb:w.params.followText "set-order" = true)(hne:a≠I) :
    Walks prog w A I [I,a] [I] es.size (PI (pickOrder (w.params.setOrder a ep) es).toList) (fun i h=>h.get? I=some (itO (rawInt (0:Nat)) i a es.size ep)∧SetAt h a es ep t) where
  sub:=fun b hb=>by simp at hb;simp[hb]
  frame:=fun _ _ _ st hk=>⟨hk I (by simp) _ st.1,st.2.at fun o e=>hk a (by simp) o e⟩
  item:=fun i s Q E hi st hQ=>by
    have hl:(pickOrder (w.params.setOrder a ep) es).toList.length=es.size:=by rw[(Lh _ es).length_eq,Array.length_toList]
    have hx:(pickOrder (w.params.setOrder a ep) es).toList[i]? = some ((pickOrder (w.params.setOrder a ep) es).toList[i]'(by omega)):=List.getElem?_eq_getElem _
    refine T2 st.1 st.2 hf (x:=((pickOrder (w.params.setOrder a ep) es).toList[i]'(by omega)).2) (nx:=0) (fun B E' Q' q=>P0 st.2 hf hb ?_) fun h' e1 k1=>hQ _ h' s.toks ⟨_,hx,rfl⟩ ⟨e1,st.2.at fun o e=>k1 a o hne e⟩ fun b o hb e=>k1 b o (fun h=>hb (by simp[h])) e
    rw[← Array.getElem?_toList,hx]
    exact q
  done:=fun s Q E st hQ=>by
    refine W7 hh st.1 st.2 hf (fun B E' Q' q=>P0 st.2 hf hb ?_) fun h' k1=>hQ h' s.toks fun b o hb e=>k1 b o (fun h=>hb (by simp[h])) e
    have hl:(pickOrder (w.params.setOrder a ep) es).toList.length=es.size:=by rw[(Lh _ es).length_eq,Array.length_toList]
    rw[← Array.getElem?_toList,List.getElem?_eq_none (by omega)]
    exact q
  self:=fun _ _ _ _ st hQ=>Rm st.1 hQ
theorem Acy(hh:A.handled=none)(hf:t.fits es.size=true)(hb:w.params.followText "set-order" = false)(hd:(!t.plain&&decide (es.size > 1))=false)(tb:Tb t true)(hne:a≠I) :
    Walks prog w A I [I,a] [I] es.size (PI es.toList) (fun i h=>∃ slot:Nat,h.get? I=some (itO (rawInt slot) i a es.size ep)∧SetTable.below t.place slot=i∧SetAt h a es ep t) where
  sub:=fun b hb=>by simp at hb;simp[hb]
  frame:=fun _ _ _ ⟨sl,s1,s2,s3⟩ hk=>⟨sl,hk I (by simp) _ s1,s2,s3.at fun o e=>hk a (by simp) o e⟩
  item:=fun i s Q E hi st hQ=>by
    obtain ⟨sl,s1,s2,s3⟩:=st
    have hps:t.place.size=es.size:=by
      simp only[SetTable.fits,Bool.and_eq_true,beq_iff_eq] at hf
      exact hf.1
    have hx:es[i]? = some es[i]:=Array.getElem?_eq_getElem hi
    have hp:t.place[i]? = some (t.place[i]'(by omega)):=Array.getElem?_eq_getElem _
    refine T2 s1 s3 hf (x:=es[i].2) (nx:=t.place[i]'(by omega)+1) (fun B E' Q' q=>T1 s3 hf hb hd tb.le ?_) fun h' e1 k1=>hQ _ h' s.toks ⟨es[i],by rw[Array.getElem?_toList];exact hx,rfl⟩ ⟨_,e1,Vg tb.rs _,s3.at fun o e=>k1 a o hne e⟩ fun b o hb e=>k1 b o (fun h=>hb (by simp[h])) e
    rw[s2,hx,hp]
    exact q
  done:=fun s Q E st hQ=>by
    obtain ⟨sl,s1,s2,s3⟩:=st
    refine W7 hh s1 s3 hf (fun B E' Q' q=>T1 s3 hf hb hd tb.le ?_) fun h' k1=>hQ h' s.toks fun b o hb e=>k1 b o (fun h=>hb (by simp[h])) e
    rw[s2,Array.getElem?_eq_none (Nat.le_refl _)]
    exact q
  self:=fun _ _ _ _ ⟨_,s1,_⟩ hQ=>Rm s1 hQ
theorem Acn{ps:List Nat}(hh:A.handled=none)(hf:t.fits es.size=true)(hp:ps.Perm (List.range es.size))(hne:a≠I)(hnT:T≠I) :
    Walks prog w A I [I,a,T] [I] es.size (PI (ps.map fun k=>es.toList.getD k (0,.none))) (fun i h=>h.get? I=some (itO (.ref T) i a es.size ep)∧SetAt h a es ep t∧h.IsTuple T (ps.map fun (k:Nat)=>rawInt k).toArray) where
  sub:=fun b hb=>by simp at hb;simp[hb]
  frame:=fun _ _ _ st hk=>⟨hk I (by simp) _ st.1,st.2.1.at fun o e=>hk a (by simp) o e,st.2.2.at fun o e=>hk T (by simp) o e⟩
  item:=fun i s Q E hi st hQ=>by
    have hl:ps.length=es.size:=by rw[hp.length_eq,List.length_range]
    have hk:ps[i]? = some (ps[i]'(by omega)):=List.getElem?_eq_getElem _
    have hk2:ps[i]'(by omega) < es.size:=List.mem_range.mp (hp.mem_iff.mp (List.getElem_mem _))
    refine Ac1 st.1 st.2.1 hf st.2.2 hk (Array.getElem?_eq_getElem hk2) fun h' e1 k1=>hQ _ h' s.toks ⟨es[ps[i]'(by omega)],?_,rfl⟩ ⟨e1,st.2.1.at fun o e=>k1 a o hne e,st.2.2.at fun o e=>k1 T o hnT e⟩ fun b o hb e=>k1 b o (fun h=>hb (by simp[h])) e
    rw[List.getElem?_map,hk,Option.map_some,List.getD_eq_getElem?_getD,Array.getElem?_toList,Array.getElem?_eq_getElem hk2]
    rfl
  done:=fun s Q E st hQ=>by
    have hl:ps.length=es.size:=by rw[hp.length_eq,List.length_range]
    exact Afc hh st.1 st.2.1 hf st.2.2 (List.getElem?_eq_none (by omega)) fun h' k1=>hQ h' s.toks fun b o hb e=>k1 b o (fun h=>hb (by simp[h])) e
  self:=fun _ _ _ _ st hQ=>Rm st.1 hQ
theorem X2{src:Source}{n:Nat}{Q:Nat→Shared→Prop}(hn:n≠0)(h:∀ i d,i < n→Q i { s with drawn:=d }):wpAny (model prog w) A (choose src n) Q E s:=
  fun _ _ _=>⟨hn,h _ _ (Nat.mod_lt _ (Nat.pos_of_ne_zero hn))⟩
theorem Xn{α:Type}:∀ (n:Nat) (xs:List α) (s:Shared) {Q:List α→Shared→Prop},n=xs.length→(∀ ys d,ys.Perm xs→Q ys { s with drawn:=d })→wpAny (model prog w) A (drawOrder n xs) Q E s
  | 0,xs,s,Q,e,h=>by
    have:xs=[]:=List.length_eq_zero_iff.mp e.symm
    subst this
    unfold drawOrder
    have e:s = { s with drawn:=s.drawn }:=by cases s;rfl
    rw[e]
    exact wpAny_pure (h [] _ (List.Perm.refl _))
  | n+1,[],s,Q,e,h=>by cases e
  | n+1,x::xs,s,Q,e,h=>by
    unfold drawOrder
    refine wpAny_bind (X2 (by simp) fun i d hi=>?_)
    rw[List.getElem?_eq_getElem hi]
    dsimp only
    refine wpAny_bind (Xn n _ _ (by rw[List.length_eraseIdx,if_pos hi];omega) fun ys d' hp=>wpAny_pure (h _ d' ?_))
    refine (hp.cons _).trans ?_
    generalize x::xs=l at hi
    rw[List.eraseIdx_eq_take_drop_succ]
    have e2:l=l.take i++l[i]::l.drop (i+1):=by rw[List.getElem_cons_drop,List.take_append_drop]
    exact (List.perm_middle.symm).trans (List.Perm.of_eq e2.symm)
theorem Ae8{led:Bool}{Q:Value→Shared→Prop}(hS:SetAt s.heap a es ep t)(hf:t.fits es.size=true)(tb:Tb t led)(hl:led = !w.params.followText "set-order")(hz:es.size≤sizeLine)
    (h:∀ (J:Addr) (h1:Heap) (d1:Drawn) (fp:List Addr) (St:Nat→Heap→Prop) (xs:List (Int×Value)),xs.Perm es.toList→s.heap.objs.size≤J→(∀ b o,s.heap.get? b=some o→h1.get? b=some o)→(∀ b∈fp,b=a∨s.heap.objs.size≤b) →
      (∀ B:Around,B.handled=none→Walks prog w B J fp [J] es.size (PI xs) St)→St 0 h1→Q (.ref J) { s with heap:=h1,drawn:=d1 }):wpAny (model prog w) A (pyIter (.ref a)) Q E s:=by
  obtain ⟨o,ho,hex,hd⟩:=id hS
  have hT:s.TypeIs (.ref a) "set" := ⟨o,ho,hex.1⟩
  have hlt:=Heap.lt_size ho
  refine wpAny_pyIter_slot hT PySem.F.slot_set_iter (wpAny_call_entry PySem.F.slot_set_iter hT Se ?_ (PySem.F.args_set_iter_1 _))
  unfold Builtin.«frozenset.__iter__»
  refine wpAny_bind (wpAny_of_eq (a:=a) rfl ?_)
  refine wpAny_bind ?_
  unfold Builtin.Frozenset.sizeOf
  refine wpAny_bind (Fm hS hf (wpAny_pure ?_))
  refine wpAny_bind ?_
  unfold setDrawn
  refine wpAny_bind (wpAny_setState_of ho hd hf (wpAny_bind (Mx (wpAny_pure ?_))))
  dsimp only
  show wpAny _ _ (if (!w.params.followText "set-order" && (!t.plain&&decide (es.size > 1)))=true then _ else _) _ _ _
  cases hb:w.params.followText "set-order" with
  | true=>
    simp only[Bool.not_true,Bool.false_and,Bool.false_eq_true,if_false]
    refine wpAny_bind (wpAny_pure (wpAny_bind (wpAny_setEpoch_of ho hd hf ?_)))
    have hne:a≠s.heap.objs.size:=Nat.ne_of_lt hlt
    have e0:s = { s with drawn:=s.drawn }:=by cases s;rfl
    refine wpAny_bind (wpAny_newObj_type (wpAny_pure ⟨_,rfl,"set_iterator",_,⟨_,Heap.get?_push_size _ rfl,rfl⟩,Bl.lookup,?_⟩))
    exact h s.heap.objs.size _ s.drawn [s.heap.objs.size,a] _ _ (Lh _ es) (Nat.le_refl _) (fun b o e=>Heap.get?_push_of_some _ e) (fun b hb=>by simp at hb;rcases hb with e | e;exact .inr (Nat.le_of_eq e.symm);exact .inl e)
      (fun B hB=>Yt (t:=t) hB hf hb hne) ⟨Heap.get?_push_size _ rfl,hS.at fun o e=>Heap.get?_push_of_some _ e⟩
  | false=>
    rw[hb] at hl
    cases hdr:(!t.plain&&decide (es.size > 1)) with
    | false=>
      simp only[Bool.not_false,Bool.and_false,Bool.false_eq_true,if_false]
      refine wpAny_bind (wpAny_pure (wpAny_bind (wpAny_setEpoch_of ho hd hf ?_)))
      have hne:a≠s.heap.objs.size:=Nat.ne_of_lt hlt
      refine wpAny_bind (wpAny_newObj_type (wpAny_pure ⟨_,rfl,"set_iterator",_,⟨_,Heap.get?_push_size _ rfl,rfl⟩,Bl.lookup,?_⟩))
      subst hl
      exact h s.heap.objs.size _ s.drawn [s.heap.objs.size,a] _ _ (List.Perm.refl _) (Nat.le_refl _) (fun b o e=>Heap.get?_push_of_some _ e) (fun b hb=>by simp at hb;rcases hb with e | e;exact .inr (Nat.le_of_eq e.symm);exact .inl e)
        (fun B hB=>Acy (t:=t) hB hf hb hdr tb hne) ⟨0,Heap.get?_push_size _ rfl,Vx tb.rs,hS.at fun o e=>Heap.get?_push_of_some _ e⟩
    | true=>
      simp only[Bool.not_false,Bool.and_self,if_true]
      refine wpAny_bind (Xn _ _ _ (List.length_range).symm fun ps d hp=>?_)
      have hlp:ps.length=es.size:=by rw[hp.length_eq,List.length_range]
      refine wpAny_bind (wpAny_newTuple ?_ (by rw[List.length_map];omega))
      have g1:∀ b o,s.heap.get? b=some o→(s.heap.push { cls:=.type "tuple",data:=.seq (ps.map fun (k:Nat)=>rawInt k).toArray }).get? b=some o:=fun b o e=>Heap.get?_push_of_some _ e
      have gT:(s.heap.push { cls:=.type "tuple",data:=.seq (ps.map fun (k:Nat)=>rawInt k).toArray }).IsTuple s.heap.objs.size (ps.map fun (k:Nat)=>rawInt k).toArray:=⟨_,Heap.get?_push_size _ rfl,rfl,0,rfl⟩
      have gz:(s.heap.push { cls:=.type "tuple",data:=.seq (ps.map fun (k:Nat)=>rawInt k).toArray }).objs.size=s.heap.objs.size+1:=Heap.size_push _ _
      show wpAny _ _ _ _ _ ({ s with heap:=s.heap.push { cls:=.type "tuple",data:=.seq (ps.map fun (k:Nat)=>rawInt k).toArray },drawn:=d }:Shared)
      generalize s.heap.push { cls:=.type "tuple",data:=.seq (ps.map fun (k:Nat)=>rawInt k).toArray } = hp1 at g1 gT gz
      refine wpAny_bind (wpAny_setEpoch_of (g1 _ _ ho) hd hf ?_)
      refine wpAny_bind (wpAny_newObj_type (wpAny_pure ⟨_,rfl,"set_iterator",_,⟨_,Heap.get?_push_size _ rfl,rfl⟩,Bl.lookup,?_⟩))
      have hpm:(ps.map fun k=>es.toList.getD k (0,.none)).Perm es.toList:=by
        refine (hp.map _).trans (List.Perm.of_eq ?_)
        apply List.ext_getElem
        · simp
        · intro i h1 h2
          have:i < es.size:=by simpa using h1
          simp[this]
      exact h hp1.objs.size _ d [hp1.objs.size,a,s.heap.objs.size] _ _ hpm (by omega) (fun b o e=>Heap.get?_push_of_some _ (g1 b o e)) (fun b hb=>by simp at hb;rcases hb with e | e | e;exact .inr (e ▸ (by omega:s.heap.objs.size≤hp1.objs.size));exact .inl e;exact .inr (Nat.le_of_eq e.symm))
        (fun B hB=>Acn (t:=t) (T:=s.heap.objs.size) hB hf hp (Nat.ne_of_lt (Nat.lt_of_lt_of_le hlt (by omega))) (Nat.ne_of_lt (by omega:s.heap.objs.size < hp1.objs.size))) ⟨Heap.get?_push_size _ rfl,hS.at fun o e=>Heap.get?_push_of_some _ (g1 _ _ e),gT.push _⟩
end
section
variable {prog:Program}{w:World}{A:Around}{E:Value→Shared→Prop}{s:Shared}{a:Addr}{led:Bool}{σ:List Int}
theorem Aa5{Q:Bool→Shared→Prop}(hT:s.TypeIs (.ref a) "set")(h:Q false s):wpAny (model prog w) A (Builtin.List.listLengthHint (.ref a)) Q E s:=by
  unfold Builtin.List.listLengthHint
  refine wpAny_bind (wpAny_specialOf hT PySem.F.slot_set_len.lookup ?_)
  generalize hid:("set.__len__" : String)=id0
  wp_delta
  rw[show splitId id0=some ("set","__len__") from by subst hid;decide +kernel]
  subst hid
  refine wpAny_bind (wpAny_isInstance (T := "set") (b:=true) hT (by rw[isSubtype_type];kernel_rfl) ?_)
  refine wpAny_ite_split (fun hab=>absurd hab (by decide)) (fun _=>?_)
  refine wpAny_ite_split (fun _=>?_) (fun hab=>absurd (by decide +kernel) hab)
  exact wpAny_bind (wpAny_typeOf hT (wpAny_pure h))
theorem Aci{xs:List (Int×Value)}{acc:Array Value}(h:ItemsOf (PI xs) acc xs.length):acc.toList=xs.map (·.2):=by
  apply List.ext_getElem?
  intro i
  by_cases hi:i < xs.length
  · have h1:acc[i]? = some (acc[i]'(by have:=h.1;omega)):=Array.getElem?_eq_getElem _
    obtain ⟨e,e1,e2⟩:=h.2 i _ h1
    rw[Array.getElem?_toList,h1,List.getElem?_map,e1,e2]
    rfl
  · rw[List.getElem?_eq_none (by rw[Array.length_toList,h.1];omega),List.getElem?_eq_none (by simp;omega)]
end
theorem IsSet.at{h h':Heap}{a:Addr}{led:Bool}{σ:List Int}(x:IsSet h a led σ)(e:∀ o,h.get? a=some o→h'.get? a=some o):IsSet h' a led σ:=let ⟨o,es,ep,t,ho,r⟩:=x;⟨o,es,ep,t,e _ ho,r⟩
section
variable {prog:Program}{w:World}{A:Around}{R:Result→Shared→Prop}{I:Addr}{fp wr:List Addr}{G:Array GenState→Array GenState→Prop}{n:Nat}{P:Nat→Value→Prop}{St:Nat→Shared→Prop}
end
section
variable {prog:Program}{w:World}{A:Around}{E:Value→Shared→Prop}{s:Shared}
theorem Afo(a:Value){Q:Value→Shared→Prop}(h:Q (.ref s.heap.objs.size) { s with heap:=s.heap.push { cls:=.type "set",dict:=none,data:=.set #[] 0 (.fresh 0 0 (!w.params.followText "set-order")) } }) :
    codeAny (model prog w) A (.call (.builtin "set.__new__") ⟨[.type "set",a],[]⟩) (wants Q E) s:=by
  refine codeAny_of_tree ?_
  show wpAny _ A.in1 (do checkBuiltinCall "set.__new__" ⟨[.type "set",a],[]⟩;again (Code.builtin "set.__new__" ⟨[.type "set",a],[]⟩)) _ _ s
  refine wpAny_bind (wpAny_of_eq (PySem.F.newCall_set_1 a) (wpAny_pure ⟨plainId_quiet PySem.F.plain_set_new _,codeAny_builtin PySem.F.entry_set_new ?_⟩))
  rw[Around.under_plainId PySem.F.plain_set_new _]
  unfold Builtin.«set.__new__» Builtin.Frozenset.newClass
  have hsub:=sub_set_self
  obtain ⟨hp,g,d,tk,os⟩:=s
  dsimp only
  wp_walk
  refine wpAny_askSetting (wpAny_pure ?_)
  dsimp only
  simp only[newObj]
  exact wpAny_bind (wpAny_alloc (wpAny_pure (wpAny_pure h)))
end
end SW
namespace MR
open PySem PySem.Spec PyProof.Rows PySem.Calls L2 SO
section
variable {X:Cx}
theorem Yh{pins:List (Addr×Obj)}{s:Shared}{σ:L2.St}{H:Hp}{d:Drawn}(I:L2.Inv X pins σ H s):L2.Inv X pins σ H { s with drawn:=d }:=by
  cases I
  constructor <;> assumption
end
end MR
namespace SW
open PySem PySem.Spec PyProof.Rows
noncomputable def Aco(hs:Array Int)(i:Nat):Int:=(hs[i]?).getD 0
noncomputable def Ey(t:SetTable)(hs:Array Int)(h:Int):Option (SetTable×Array Int):=
  if t.fits hs.size=true∧t.gaveWay=false then
    match t.probe (Aco hs) h (t.probeStart h) with
    | some (.empty j none)=>
      if (t.put j).1.fits (hs.size+1)=true then
        if (t.put j).1.tooFull=true then
          match (t.put j).1.relaid (SetTable.insertAt hs (t.put j).2 h) (SetTable.grown (hs.size+1)) with
          | some (u,order)=>if coversAll order (hs.size+1)=true∧u.fits (hs.size+1)=true∧SetTable.sizeAbove (SetTable.grown (hs.size+1))≤sizeLine then some (u,order.filterMap ((SetTable.insertAt hs (t.put j).2 h)[·]?)) else none
          | none=>none
        else some ((t.put j).1,SetTable.insertAt hs (t.put j).2 h)
      else none
    | _=>none
  else none
theorem map_ins{α β:Type}(f:α→β)(xs:Array α)(p:Nat)(x:α):(SetTable.insertAt xs p x).map f=SetTable.insertAt (xs.map f) p (f x):=by
  apply Array.ext'
  rw[Array.toList_map,SetTable.toList_insertAt,SetTable.toList_insertAt,Array.toList_map]
  simp
theorem Nq{α:Type}(xs:Array α)(p:Nat)(x:α):(SetTable.insertAt xs p x).size=xs.size+1:=by
  rw[← Array.length_toList,(SetTable.insertAt_perm xs p x).length_eq,Array.toList_push]
  simp
theorem Yl{α β:Type}(f:α→β)(xs:Array α)(order:Array Nat):(order.filterMap (xs[·]?)).map f=order.filterMap ((xs.map f)[·]?):=by
  apply Array.ext'
  rw[Array.toList_map,Array.toList_filterMap,Array.toList_filterMap,List.map_filterMap]
  congr 1
  funext i
  rw[Array.getElem?_map]
theorem O5{α:Type}(xs:Array α){order:Array Nat}(h:coversAll order xs.size=true):(order.filterMap (xs[·]?)).toList.Perm xs.toList:=by
  have hp:List.Perm order.toList (List.range xs.size):=List.isPerm_iff.mp h
  rw[Array.toList_filterMap]
  exact (hp.filterMap _).trans (by rw[filterMap_getElem?_range])
section
variable {prog:Program}{w:World}{A:Around}{E:Value→Shared→Prop}{s:Shared}{a x:Addr}{es:Array (Int×Value)}{ep:Nat}{t:SetTable}
theorem Km{Q:(Array (Int×Value)×Nat×SetTable)→Shared→Prop}(hS:SetAt s.heap a es ep t)(hf:t.fits es.size=true)(h:Q (es,ep,t) s):wpAny (model prog w) A (setState a) Q E s:=by
  obtain ⟨o,ho,_,hd⟩:=hS
  exact wpAny_setState_of ho hd hf h
theorem Adx{ks:List Int}{Q:Bool→Shared→Prop}(hx:IsTupleKey (intKind prog w) s.heap ks x)(h:Q true s):wpAny (model prog w) A (hashByValue 8 (.ref x)) Q E s:=by
  have hT:=hx.typeIs
  obtain ⟨o,items,n,ho,_,hd,hi⟩:=hx
  unfold hashByValue
  refine wpAny_bind (wpAny_specialOf hT PySem.F.slot_tuple_hash.lookup ?_)
  show wpAny _ _ (seqItems? (.ref x) >>= _) _ _ _
  refine wpAny_bind (wpAny_seqItems ho hd ?_)
  simp only[Option.getD_some]
  refine wpAny_bind ?_
  rw[← Array.forIn_toList]
  refine wpAny_forIn_list _ (fun rest (b:Option Bool×PUnit) s'=>b.1=none∧(∃ left,ItemsAre (intKind prog w) left rest)∧s'=s) _ ?_ ?_ _ _ ?_
  · rintro y rest ⟨b1,b2⟩ s' ⟨hb,⟨left,hl⟩,rfl⟩
    cases hl with
    | @cons k _ ks' _ h1 hl'=>
      obtain ⟨tk,rfl⟩:=Value.isInt_shape h1
      refine wpAny_bind (m:=hashByValue 7 (.int k tk)) (wpAny_pure ?_)
      first
        | exact wpAny_pure ⟨rfl,⟨ks',hl'⟩,rfl⟩
        | exact wpAny_bind (wpAny_pure (wpAny_pure ⟨rfl,⟨ks',hl'⟩,rfl⟩))
  · rintro ⟨b1,b2⟩ s' ⟨hb,_,rfl⟩
    simp only at hb
    subst hb
    exact wpAny_pure h
  · exact ⟨rfl,⟨ks,hi⟩,rfl⟩
end
section
variable {prog:Program}{w:World}{A:Around}{E:Value→Shared→Prop}{s:Shared}{a x:Addr}{es:Array (Int×Value)}{ep:Nat}{t:SetTable}
theorem Sv{Q:Unit→Shared→Prop}(hS:SetAt s.heap a es ep t)(fs:Array (Int×Value))(u:SetTable)(hz:fs.size≤sizeLine)(h:∀ h',SetAt h' a fs (ep+1) u→Heap.SameBut a s.heap h'→Q () { s with heap:=h' }):wpAny (model prog w) A (storeSet a fs u) Q E s:=by
  obtain ⟨o,ho,hex,hd⟩:=hS
  exact wpAny_storeSet_of ho hd (h _ ⟨_,Afz ho hd fs u,hex,rfl⟩ (Heap.SameBut.update ..)) hz
theorem Ag4{ks:List Int}{h:Int}{u:SetTable}{hs:Array Int}{Q:Bool→Shared→Prop}(hS:SetAt s.heap a es ep t)(hx:IsTupleKey (intKind prog w) s.heap ks x)(hne:x≠a)(hpl:t.plain=true)(hz:es.size+1≤1000)(hsim:Ey t (es.map (·.1)) h=some (u,hs))
    (hq:∀ (h':Heap) (fs:Array (Int×Value)) (ep':Nat),Heap.SameBut a s.heap h'→SetAt h' a fs ep' u→fs.map (·.1)=hs→fs.toList.Perm ((es.push (h,.ref x)).toList)→Q true { s with heap:=h' }):wpAny (model prog w) A (setAddHashed a (.ref x) h) Q E s:=by
  unfold Ey at hsim
  rw[Array.size_map] at hsim
  split at hsim
  · rename_i hc
    obtain ⟨hf,hgw⟩:=hc
    split at hsim
    · rename_i j hp
      split at hsim
      · rename_i hf2
        have hsh:(fun i=>((es[i]?).map (·.1)).getD 0)=Aco (es.map (·.1)):=by
          funext i
          unfold Aco
          rw[Array.getElem?_map]
        have hzl:es.size+1≤sizeLine:=by rw[sizeLine_eq];omega
        have hsz:=Nq es (t.put j).2 (h,Value.ref x)
        unfold setAddHashed
        refine wpAny_holding ?_
        unfold setAddHashedIn
        refine wpAny_bind (Km hS hf ?_)
        show wpAny _ _ (setSearch a (.ref x) h true >>= _) _ _ _
        refine wpAny_bind ?_
        unfold setSearch setSearchFrom
        refine wpAny_bind (Km hS hf ?_)
        dsimp only
        rw[hgw]
        simp only[Bool.false_eq_true,if_false,Option.getD_none]
        rw[← hsh] at hp
        generalize hpr:t.probe _ h (t.probeStart h)=pr
        have hpr2:pr=some (.empty j none):=by rw[← hpr];exact hp
        subst hpr2
        dsimp only
        refine wpAny_pure ?_
        dsimp only
        refine wpAny_bind (Km hS hf ?_)
        dsimp only
        have hpl2:(t.put j).1.plain=true:=hpl
        rw[hpl2]
        simp only[if_true]
        refine wpAny_bind (Adx hx ?_)
        simp only[if_true]
        refine wpAny_bind (Sv hS _ _ (by rw[hsz];exact hzl) fun h1 S1 k1=>?_)
        split at hsim
        · rename_i hfull
          rw[hfull]
          simp only[Bool.not_false,Bool.true_and,if_true]
          split at hsim
          · rename_i u2 order hre
            split at hsim
            · rename_i hc2
              obtain ⟨c1,c2,c3⟩:=hc2
              cases hsim
              unfold setRelay
              refine wpAny_bind ?_
              refine wpAny_bind (Km (s:={ s with heap:=h1 }) S1 (by rw[hsz];exact hf2) ?_)
              dsimp only
              rw[if_neg (Nat.not_lt.mpr c3),map_ins,hre]
              have hcz:coversAll order (SetTable.insertAt es (t.put j).2 (h,Value.ref x)).size=true:=by rw[hsz];exact c1
              have hpm:=O5 (SetTable.insertAt es (t.put j).2 (h,Value.ref x)) hcz
              have hos:(order.filterMap ((SetTable.insertAt es (t.put j).2 (h,Value.ref x))[·]?)).size=(SetTable.insertAt es (t.put j).2 (h,Value.ref x)).size:=by
                rw[← Array.length_toList,hpm.length_eq,Array.length_toList]
              refine wpAny_bind ?_
              show wpAny _ _ (if ((order.filterMap ((SetTable.insertAt es (t.put j).2 (h,Value.ref x))[·]?)).size != (SetTable.insertAt es (t.put j).2 (h,Value.ref x)).size)=true then _ else _) _ _ _
              rw[hos]
              simp only[bne_self_eq_false,Bool.false_eq_true,if_false]
              refine wpAny_pure ?_
              refine Sv (s:={ s with heap:=h1 }) S1 _ _ (by rw[hos,hsz];exact hzl) fun h2 S2 k2=>wpAny_pure ?_
              refine hq h2 _ _ (k1.trans k2) S2 ?_ (hpm.trans (SetTable.insertAt_perm ..))
              rw[Yl,map_ins]
            · cases hsim
          · cases hsim
        · rename_i hfull
          cases hsim
          have hfull':(t.put j).1.tooFull=false:=by simpa using hfull
          rw[hfull']
          simp only[Bool.not_false,Bool.true_and,Bool.false_eq_true,if_false]
          exact wpAny_pure (hq h1 _ _ k1 S1 (map_ins _ _ _ _) (SetTable.insertAt_perm ..))
      · cases hsim
    · cases hsim
  · cases hsim
end
noncomputable def hT(ks:List Int):Int:=reduceHash (Builtin.Tuple.tupleHashOf (ks.map hashInt))
noncomputable def Eo(led:Bool):Nat→(Nat→Int)→Option (SetTable×Array Int)
  | 0,_=>some (.fresh 0 0 led,#[])
  | n+1,h=>(Eo led n h).bind fun p=>Ey p.1 p.2 (h n)
theorem Aav{t u:SetTable}{hs hs':Array Int}{h:Int}(e:Ey t hs h=some (u,hs')):u.plain=t.plain:=by
  unfold Ey at e
  split at e
  · split at e
    · split at e
      · split at e
        · split at e
          · rename_i u2 order hre
            split at e
            · cases e
              unfold SetTable.relaid SetTable.laid at hre
              obtain ⟨ow,_,hre⟩:=Option.bind_eq_some_iff.mp hre
              simp only[Option.pure_def,Option.some.injEq,Prod.mk.injEq] at hre
              obtain ⟨rfl,_⟩:=hre
              rfl
            · cases e
          · cases e
        · cases e;rfl
      · cases e
    · cases e
  · cases e
theorem Acm{t u:SetTable}{hs hs':Array Int}{h:Int}(e:Ey t hs h=some (u,hs')):u.fits hs'.size=true:=by
  unfold Ey at e
  split at e
  · split at e
    · rename_i j hp
      split at e
      · rename_i hf
        split at e
        · split at e
          · rename_i u2 order hre
            split at e
            · rename_i hc
              cases e
              have hz:=Nq hs (t.put j).2 h
              have hq:(order.filterMap ((SetTable.insertAt hs (t.put j).2 h)[·]?)).size=hs.size+1:=by
                rw[← Array.length_toList,(O5 _ (by rw[hz];exact hc.1)).length_eq,Array.length_toList,hz]
              rw[hq]
              exact hc.2.1
            · cases e
          · cases e
        · cases e;rw[Nq];exact hf
      · cases e
    · cases e
  · cases e
noncomputable def SetT(h:Heap)(a:Addr)(led:Bool)(n:Nat)(ts:Nat→List Int)(ad:Nat→Addr):Prop:=
  ∃ es ep t,SetAt h a es ep t∧Eo led n (fun i=>hT (ts i))=some (t,es.map (·.1))∧t.plain=true∧es.toList.Perm ((List.range n).map fun i=>(hT (ts i),Value.ref (ad i)))
theorem SetT.at{h h':Heap}{a:Addr}{led:Bool}{n:Nat}{ts:Nat→List Int}{ad:Nat→Addr}(x:SetT h a led n ts ad)(e:∀ o,h.get? a=some o→h'.get? a=some o):SetT h' a led n ts ad:=let ⟨es,ep,t,hS,r⟩:=x;⟨es,ep,t,hS.at e,r⟩
noncomputable def KeysAt(prog:Program)(w:World)(h:Heap)(n:Nat)(ts:Nat→List Int)(ad:Nat→Addr):Prop:=∀ i,i < n→IsTupleKey (intKind prog w) h (ts i) (ad i)
theorem KeysAt.keep{prog:Program}{w:World}{h h':Heap}{n:Nat}{ts:Nat→List Int}{ad:Nat→Addr}(x:KeysAt prog w h n ts ad)(k:∀ i,i < n→∀ o,h.get? (ad i)=some o→h'.get? (ad i)=some o):KeysAt prog w h' n ts ad:=fun i hi=>by
  obtain ⟨o,items,m,ho,r⟩:=x i hi
  exact ⟨o,items,m,k i hi o ho,r⟩
section
variable {prog:Program}{w:World}{A:Around}{R:Result→Shared→Prop}{I:Addr}{fp wr:List Addr}{G:Array GenState→Array GenState→Prop}{n:Nat}{P:Nat→Value→Prop}{St:Nat→Shared→Prop}{ts:Nat→List Int}{ad:Nat→Addr}
theorem Xv{led:Bool}(W:WalksS prog w A.in1 I fp wr G n P St)(hu:A.units+1 < cLine)(S:Addr)(hSf:S∉fp)(hval:∀ i v,P i v→v = .ref (ad i))(hb:n≤1000)(had:∀ i,i < n→ad i≠S∧ad i∉wr)(hsim:(Eo led n fun i=>hT (ts i)).isSome=true) :
    ∀ (k i:Nat) (s:Shared),n - i=k→i≤n→St i s→SetT s.heap S led i ts ad→KeysAt prog w s.heap n ts ad →
      (∀ s',Moved (S::wr) G s s'→SetT s'.heap S led n ts ad→R (.ok (.ret .none)) s') →
      codeAny (model prog w) A (.builtin "set.update.loop" ⟨[.ref S,.ref I],[]⟩) R s:=by
  have hSw:S∉wr:=fun h=>hSf (W.sub _ h)
  have hsub:∀ b∈wr,b∈S::wr:=fun b hb=>List.mem_cons_of_mem _ hb
  have some_at:∀ m,m≤n→∃ p,Eo led m (fun i=>hT (ts i))=some p:=by
    intro m hm
    obtain ⟨d,rfl⟩:∃ d,n=m+d:=⟨n - m,by omega⟩
    clear hm had hb W
    induction d with
    | zero=>exact Option.isSome_iff_exists.mp hsim
    | succ d ih=>
      refine ih ?_
      obtain ⟨p,hp⟩:=Option.isSome_iff_exists.mp hsim
      obtain ⟨q,hq,_⟩:=Option.bind_eq_some_iff.mp (show (Eo led (m+d) fun i=>hT (ts i)).bind _=some p from hp)
      rw[hq];rfl
  intro k
  induction k with
  | zero=>
    intro i s hk hi hst hS hK hR
    obtain rfl:i=n:=by omega
    refine codeAny_builtin F.entry_set_update_loop ?_
    rw[Around.under_plainId F.plain_set_update_loop _]
    show wpAny _ A.in1 (pyNext (.ref I) >>= _) _ _ s
    refine wpAny_bind (W.done s _ _ hst fun s' hm=>?_)
    show wpAny _ A.in1 (ret Value.none) _ _ s'
    exact wpAny_pure (hR s' (hm.mono hsub) (hS.at fun o e=>hm.heap S _ hSw e))
  | succ k ih=>
    intro i s hk hi hst hS hK hR
    have hlt:i < n:=by omega
    refine codeAny_builtin F.entry_set_update_loop ?_
    rw[Around.under_plainId F.plain_set_update_loop _]
    show wpAny _ A.in1 (pyNext (.ref I) >>= _) _ _ s
    refine wpAny_bind (W.item i s _ _ hlt hst fun v s' hP hst' hm=>?_)
    obtain rfl:=hval i v hP
    have hS':SetT s'.heap S led i ts ad:=hS.at fun o e=>hm.heap S _ hSw e
    have hK':KeysAt prog w s'.heap n ts ad:=hK.keep fun j hj o e=>hm.heap _ _ (had j hj).2 e
    show wpAny _ A.in1 (holding [Value.ref (ad i)] (setAdd S (.ref (ad i))) >>= _) _ _ s'
    refine wpAny_bind (wpAny_holding ?_)
    unfold setAdd
    refine wpAny_holding (wpAny_bind (wpAny_pyHash_tuple (knd:=intKind prog w) (by exact hu) (hK' i hlt) ?_))
    obtain ⟨es,ep,t,hA,hrun,hpl,hpm⟩:=hS'
    obtain ⟨⟨u,hs⟩,hnext⟩:=some_at (i+1) hlt
    have hstep:Ey t (es.map (·.1)) (hT (ts i))=some (u,hs):=by
      have:(Eo led i fun i=>hT (ts i)).bind (fun p=>Ey p.1 p.2 (hT (ts i)))=some (u,hs):=hnext
      rw[hrun] at this
      exact this
    have hlen:es.size=i:=by rw[← Array.length_toList,hpm.length_eq];simp
    refine Ag4 (s:={ s' with toks:=s'.toks+((ts i).length+1) }) (ks:=ts i) hA (hK' i hlt) (had i hlt).1 hpl (by omega) hstep fun h' fs ep' hsb hA2 hfs hp2=>?_
    have hS2:SetT h' S led (i+1) ts ad:=by
      refine ⟨fs,ep',u,hA2,by rw[hnext,hfs],(Aav hstep).trans hpl,hp2.trans ?_⟩
      rw[Array.toList_push,List.range_succ,List.map_append]
      exact List.Perm.append hpm (List.Perm.refl _)
    refine wpAny_pure ⟨plainId_quiet F.plain_set_update_loop _,ih (i+1) _ (by omega) hlt (W.frame _ s' _ _ hst' (Nat.le_add_right _ _) fun b hb o e=>?_) hS2 (hK'.keep fun j hj o e=>?_) fun s'' hm'' hS''=>?_⟩
    · rw[hsb.2 b (fun h:b=S=>hSf (by rw[← h];exact hb))];exact e
    · rw[hsb.2 _ (had j hj).1];exact e
    · refine hR s'' (Moved.trans W.gtrans ((hm.mono hsub).then_heap (Nat.le_add_right _ _) fun b o hb e=>?_) hm'') hS''
      rw[hsb.2 b (fun h:b=S=>hb (by rw[h];exact List.mem_cons_self))];exact e
end
section
variable {prog:Program}{w:World}{A:Around}{E:Value→Shared→Prop}{s:Shared}{a:Addr}{led:Bool}
theorem Uh{es:Array (Int×Value)}{ep:Nat}{t:SetTable}{Q:List Value→Shared→Prop}(hh:A.handled=none)(hSA:SetAt s.heap a es ep t)(hf:t.fits es.size=true)(htb:Tb t led)(hl:led = !w.params.followText "set-order")(hz:es.size≤sizeLine)
    (hQ:∀ (h':Heap) (tk:Nat) (d:Drawn) (xs:List (Int×Value)),(∀ b o,s.heap.get? b=some o→h'.get? b=some o)→xs.Perm es.toList→Q (xs.map (·.2)) { s with heap:=h',toks:=tk,drawn:=d }):wpAny (model prog w) A (collect (.ref a)) Q E s:=by
  obtain ⟨o,ho,hex,hd⟩:=hSA
  unfold collect
  refine wpAny_bind (wpAny_runValue (codeAny_builtin PySem.F.entry_proto_collect ?_))
  rw[Around.under_plainId PySem.F.plain_proto_collect _]
  show wpAny _ A.in1 (newList [] >>= fun l=>again (.builtin "list.__iadd__" ⟨[l,Value.ref a],[]⟩)) _ _ s
  refine wpAny_bind (wpAny_newObj_type (wpAny_pure ⟨plainId_quiet PySem.F.plain_list_iadd _,codeAny_builtin PySem.F.entry_list_iadd ?_⟩))
  rw[Around.under_plainId PySem.F.plain_list_iadd _]
  show wpAny _ A.in1 (Builtin.List.listExtendWith (.ref s.heap.objs.size) (.ref a) (.ref s.heap.objs.size)) _ _ _
  have hla:=Heap.lt_size ho
  have gS:(s.heap.push { cls:=.type "list",data:=.seq ([]:List Value).toArray }).get? s.heap.objs.size=some { cls:=.type "list",data:=.seq ([]:List Value).toArray }:=Heap.get?_push_size _ rfl
  have g0:∀ b o,s.heap.get? b=some o→(s.heap.push { cls:=.type "list",data:=.seq ([]:List Value).toArray }).get? b=some o:=fun b o e=>Heap.get?_push_of_some _ e
  have gz:(s.heap.push { cls:=.type "list",data:=.seq ([]:List Value).toArray }).objs.size=s.heap.objs.size+1:=Heap.size_push _ _
  show wpAny _ _ _ _ _ ({ s with heap:=s.heap.push { cls:=.type "list",data:=.seq ([]:List Value).toArray } }:Shared)
  generalize s.heap.push { cls:=.type "list",data:=.seq ([]:List Value).toArray } = h0 at gS g0 gz
  have hT:∀ (r:Shared),(∀ b o,h0.get? b=some o→r.heap.get? b=some o)→r.TypeIs (.ref a) "set" := fun r k=>⟨o,k _ _ (g0 _ _ ho),hex.1⟩
  unfold Builtin.List.listExtendWith
  refine wpAny_bind (wpAny_typeOf (T := "set") (hT _ fun _ _ e=>e) ?_)
  have h1:Builtin.List.listSameRef (.ref s.heap.objs.size) (.ref a)=false:=by
    simp only[Builtin.List.listSameRef,beq_eq_false_iff_ne]
    exact Nat.ne_of_gt hla
  have h2:(Value.type "set" == Value.type "list")=false:=by decide
  have h3:(Value.type "set" == Value.type "tuple")=false:=by decide
  simp only[h1,h2,h3,Bool.or_false,Bool.false_eq_true,if_false]
  refine wpAny_bind (Ae8 (s:={ s with heap:=h0 }) ⟨o,g0 _ _ ho,hex,hd⟩ hf htb hl hz fun J hJ d1 fp St xs hpm hJl hk hfp W st=>?_)
  have hJl:h0.objs.size≤J:=hJl
  have hxl:xs.length=es.size:=by rw[hpm.length_eq,Array.length_toList]
  have hSJ:s.heap.objs.size≠J:=Nat.ne_of_lt (Nat.lt_of_lt_of_le (by omega) hJl)
  have hSf:s.heap.objs.size∉fp:=fun hm=>by
    rcases hfp _ hm with e | e
    · exact absurd e (Nat.ne_of_gt hla)
    · have e:h0.objs.size≤s.heap.objs.size:=e
      omega
  have key:∀ (h:Heap) (c:Nat) (tk:Nat),St 0 h→(∀ b o,b≠s.heap.objs.size→hJ.get? b=some o→h.get? b=some o)→h.get? s.heap.objs.size=some { cls:=.type "list",data:=.seq #[] c } →
      codeAny (model prog w) A (.builtin "list.extend.loop" ⟨[.ref s.heap.objs.size,.ref J,.ref s.heap.objs.size],[]⟩) (wants (fun v s'=>wpAny (model prog w) A (match v with
        | .ref a=>do match (← load a).data with
          | .seq xs _=>pure xs.toList
          | _=>unsupported "internal:collect"
        | _=>unsupported "internal:collect") Q E s') E) { s with heap:=h,toks:=tk,drawn:=d1 }:=by
    intro h c tk hst hkp hSl
    refine codeAny_extend_loopS (W A.in1 hh).toS hz _ hSf _ es.size 0 _ #[] c rfl (Nat.zero_le _) hst hSl (ItemsOf.nil _) fun s' acc' c' hm hS' hacc=>?_
    rw[Moved.eq_with hm]
    show wpAny _ A (load s.heap.objs.size >>= _) _ _ _
    refine wpAny_bind (wpAny_load hS' (wpAny_pure ?_))
    rw[← hxl] at hacc
    rw[Aci hacc]
    refine hQ s'.heap s'.toks d1 xs (fun b o e=>hm.heap b o (fun hmem=>?_) (hkp b o (Nat.ne_of_lt (Heap.lt_size e)) (hk _ _ (g0 _ _ e)))) hpm
    rcases List.mem_cons.mp hmem with e' | hmem
    · exact absurd (Heap.lt_size e) (by rw[e'];exact Nat.lt_irrefl _)
    · rw[List.mem_singleton] at hmem
      exact absurd (Nat.lt_of_lt_of_le (Heap.lt_size e) (Nat.le_trans (by omega:s.heap.objs.size≤h0.objs.size) hJl)) (by rw[hmem];exact Nat.lt_irrefl _)
  have gS1:=hk _ _ gS
  refine wpAny_bind (wpAny_holding (Aa5 (hT _ hk) ?_))
  refine wpAny_ite_split (fun _=>?_) (fun _=>wpAny_pure ⟨plainId_quiet PySem.F.plain_extend_loop _,key _ 0 _ st (fun b o _ e=>e) gS1⟩)
  refine wpAny_bind (wpAny_rule (wpAny_bind ?_))
  show wpAny _ _ (updateSeq s.heap.objs.size (·.push .none) >>= fun _=>updateSeq s.heap.objs.size (·.pop)) _ _ _
  refine wpAny_bind (wpAny_updateSeq gS1 rfl ?_)
  have gS2:=Heap.get?_update_self (Obj.mapSeq (·.push Value.none)) gS1 rfl
  refine wpAny_updateSeq (hz:=by seq_fits) gS2 rfl ?_
  have gS3:=Heap.get?_update_self (Obj.mapSeq (·.pop)) gS2 rfl
  refine wpAny_pure ⟨plainId_quiet PySem.F.plain_extend_loop _,key _ _ _ ?_ (fun b o hb e=>?_) gS3⟩
  · refine (W A hh).frame 0 _ _ st fun b hb o e=>?_
    have hbS:b≠s.heap.objs.size:=fun h=>hSf (h ▸ hb)
    exact (Heap.get?_update_other _ _ (Ne.symm hbS)).trans ((Heap.get?_update_other _ _ (Ne.symm hbS)).trans e)
  · exact (Heap.get?_update_other _ _ (Ne.symm hb)).trans ((Heap.get?_update_other _ _ (Ne.symm hb)).trans e)
end
section
variable {prog:Program}{w:World}{A:Around}{E:Value→Shared→Prop}{s:Shared}
theorem Sl{t:Addr}{items:Array Value}{ts:Nat→List Int}{ad:Nat→Addr}{Q:Value→Shared→Prop}(hh:A.handled=none)(hu:A.units+8 < cLine)(ht:s.heap.IsList t items)(hi:∀ (i:Nat) (v:Value),items[i]? = some v→v = .ref (ad i))(hb:items.size≤1000)(hK:KeysAt prog w s.heap items.size ts ad)(hsim:∀ led,(Eo led items.size fun i=>hT (ts i)).isSome=true)
    (h:∀ (h':Heap) (tk:Nat),SetT h' s.heap.objs.size (!w.params.followText "set-order") items.size ts ad→(∀ b o,s.heap.get? b=some o→h'.get? b=some o)→Q (.ref s.heap.objs.size) { s with heap:=h',toks:=tk }) :
    wpAny (model prog w) A (call (.type "set") [.ref t]) Q E s:=by
  obtain ⟨c,tl,hmro⟩:=PySem.F.called_set.mro
  have hmade:=PySem.F.called_set.made
  have hsub:=PySem.F.called_set.sub
  refine wpAny_call (codeAny_of_tree ?_)
  show wpAny _ _ (callAny (.type "set") _) _ _ _
  refine wpAny_pure ⟨Code.quiet_builtin _ (by decide +kernel),codeAny_builtin PySem.F.entry_type_call ?_⟩
  rw[Around.under_plain (weight_type_call_type "set" [.ref t] []) rfl]
  have h1:=PySem.F.called_set.notType
  have h2:=PySem.F.called_set.canCreate
  have hct:=PySem.F.typeCall_set_1 (.ref t)
  repeat (any_goals (first | assumption | wp_step))
  generalize hled:(!w.params.followText "set-order")=led at h
  refine codeAny_mono (Afo (.ref t) (E:=E) (Q:=fun obj s₁=>obj = .ref s.heap.objs.size∧s₁ = { s with heap:=s.heap.push { cls:=.type "set",dict:=none,data:=.set #[] 0 (.fresh 0 0 led) } }) (by rw[hled];exact ⟨rfl,rfl⟩)) fun r s₁ hr=>?_
  cases r with
  | error e=>exact hr
  | ok fl=>
    cases fl with
    | ret obj=>
      obtain ⟨rfl,rfl⟩:=hr
      have hS:(s.heap.push { cls:=.type "set",dict:=none,data:=.set #[] 0 (.fresh 0 0 led) }).get? s.heap.objs.size=some { cls:=.type "set",dict:=none,data:=.set #[] 0 (.fresh 0 0 led) }:=Heap.get?_push_size _ rfl
      have hT:Shared.TypeIs { s with heap:=s.heap.push { cls:=.type "set",dict:=none,data:=.set #[] 0 (.fresh 0 0 led) } } (.ref s.heap.objs.size) "set" := ⟨_,hS,rfl⟩
      have hli:=PySem.F.called_set.init.lookup
      have hbi:=PySem.F.called_set.init.bind (.ref s.heap.objs.size)
      repeat (any_goals (first | assumption | wp_step))
      refine codeAny_mono (codeAny_call_builtin (R:=wants (fun r s₂=>r = .none∧∃ h' tk,s₂ = { s with heap:=h',toks:=tk }∧SetT h' s.heap.objs.size led items.size ts ad∧(∀ b o,s.heap.get? b=some o→h'.get? b=some o)) E) PySem.F.called_set.init.plain PySem.F.entry_set_init (check_set_init_1 hT ?_)) fun r₂ s₂ hr₂=>?_
      · obtain ⟨ol,hol,hcl,nl,hdl⟩:=ht
        obtain ⟨ocls,odict,odata,oslots⟩:=ol
        simp only at hcl hdl
        subst hcl;subst hdl
        have hol':(s.heap.push { cls:=.type "set",dict:=none,data:=.set #[] 0 (.fresh 0 0 led) }).get? t=some { cls:=.type "list",dict:=odict,data:=.seq items nl,slots:=oslots }:=Heap.get?_push_of_some _ hol
        have hsls:=PySem.F.sub_list_set
        have hslf:=PySem.F.sub_list_frozenset
        have hne:(Value.type "list" == Value.type "dict")=false:=by decide
        have hl1:(s.heap.push { cls:=.type "set",dict:=none,data:=.set #[] 0 (.fresh 0 0 led) }).IsList t items:=⟨_,hol',rfl,nl,rfl⟩
        unfold Builtin.«set.__init__» noKeywords Builtin.Frozenset.updateFrom
        generalize hPI:pyIter=PI
        wp_walk
        subst hPI
        refine wpAny_pyIter_list hl1 ?_
        refine wpAny_bind (wpAny_runValue ?_)
        have hlS:t < s.heap.objs.size:=Heap.lt_size hol
        have hh3:A.in1.in1.in1.handled=none:=by simp[hh]
        have hneI:t≠(s.heap.push { cls:=.type "set",dict:=none,data:=.set #[] 0 (.fresh 0 0 led) }).objs.size:=by
          rw[Heap.size_push];exact Nat.ne_of_lt (Nat.lt_succ_of_lt hlS)
        have hSf:s.heap.objs.size∉[(s.heap.push { cls:=.type "set",dict:=none,data:=.set #[] 0 (.fresh 0 0 led) }).objs.size,t]:=by
          rw[Heap.size_push];simp only[List.mem_cons,List.mem_singleton,List.not_mem_nil,or_false,not_or]
          exact ⟨Nat.ne_of_lt (Nat.lt_succ_self _),Nat.ne_of_gt hlS⟩
        refine Xv (led:=led) ((Walks.list hh3 _ t hneI items).toS) (by show A.units+1+1+1 < cLine;omega) s.heap.objs.size hSf hi hb ?had (hsim led) (items.size - 0) 0 _ (by omega) (Nat.zero_le _) ⟨⟨_,Heap.get?_push_size _ rfl,rfl,rfl⟩,(hl1.push _)⟩ ?hS0 ?hK0 ?hR
        case had=>
          intro i hi2
          obtain ⟨o,_,_,ho,_⟩:=hK i hi2
          have hla:=Heap.lt_size ho
          refine ⟨Nat.ne_of_lt hla,?_⟩
          simp only[List.mem_singleton]
          rw[Heap.size_push]
          exact Nat.ne_of_lt (Nat.lt_succ_of_lt hla)
        case hK0=>exact hK.keep fun i hi2 o e=>Heap.get?_push_of_some _ (Heap.get?_push_of_some _ e)
        case hS0=>
          have hget:((s.heap.push { cls:=.type "set",dict:=none,data:=.set #[] 0 (.fresh 0 0 led) }).push { cls:=.type "list_iterator",data:=.fields #[.ref t,.int 0 0] }).get? s.heap.objs.size
              = some { cls:=.type "set",dict:=none,data:=.set #[] 0 (.fresh 0 0 led) }:=Heap.get?_push_of_some _ hS
          exact ⟨#[],0,_,⟨_,hget,⟨rfl,rfl,rfl⟩,rfl⟩,by simp[Eo],rfl,List.Perm.refl _⟩
        case hR=>
          intro s' hm hS'
          obtain ⟨h',g',d',tk',os'⟩:=s'
          have eg:g'=s.gens:=hm.gens
          have ed:d'=s.drawn:=hm.drawn
          have eo:os'=s.os:=hm.os
          subst eg;subst ed;subst eo
          show wpAny _ _ _ _ _ _
          refine wpAny_pure ?_
          show wpAny _ _ (ret Value.none) _ _ _
          refine wpAny_pure ⟨rfl,h',tk',rfl,hS',fun b o e=>?_⟩
          have hb:=Heap.lt_size e
          have hb1:b≠s.heap.objs.size:=Nat.ne_of_lt hb
          have hb2:b≠(s.heap.push { cls:=.type "set",dict:=none,data:=.set #[] 0 (.fresh 0 0 led) }).objs.size:=by
            rw[Heap.size_push];exact Nat.ne_of_lt (Nat.lt_succ_of_lt hb)
          exact hm.heap b o (by simp only[List.mem_cons,List.mem_singleton,List.not_mem_nil,or_false,not_or];exact ⟨hb1,hb2⟩) (Heap.get?_push_of_some _ (Heap.get?_push_of_some _ e))
      · cases r₂ with
        | error e=>exact hr₂
        | ok fl₂=>
          cases fl₂ with
          | ret r=>
            obtain ⟨rfl,h',tk,rfl,hS',hk'⟩:=hr₂
            repeat (any_goals (first | assumption | wp_step))
            exact h _ _ hS' hk'
          | _=>exact hr₂.elim
    | _=>exact hr.elim
end
theorem U8{α β:Type}{f:α→β}{xs ys:List β}(h:xs.Perm ys):∀ {l:List α},ys=l.map f→∃ l':List α,l'.Perm l∧xs=l'.map f:=by
  induction h with
  | nil=>
    intro l e
    have:l=[]:=by cases l with | nil=>rfl | cons=>simp at e
    subst this
    exact ⟨[],List.Perm.refl _,rfl⟩
  | cons x _ ih=>
    intro l e
    cases l with
    | nil=>simp at e
    | cons z l=>
      simp only[List.map_cons,List.cons.injEq] at e
      obtain ⟨l',h1,h2⟩:=ih e.2
      exact ⟨z::l',h1.cons z,by rw[List.map_cons,e.1,h2]⟩
  | swap x y r=>
    intro l e
    match l,e with
    | z1::z2::l,e=>
      simp only[List.map_cons,List.cons.injEq] at e
      exact ⟨z2::z1::l,List.Perm.swap ..,by rw[List.map_cons,List.map_cons,e.1,e.2.1,e.2.2]⟩
  | trans _ _ ih1 ih2=>
    intro l e
    obtain ⟨l2,h1,h2⟩:=ih2 e
    obtain ⟨l3,h3,h4⟩:=ih1 h2
    exact ⟨l3,h3.trans h1,h4⟩
end SW
namespace MR
open PySem PySem.Spec PyProof.Rows PySem.Calls L2 SO
noncomputable def ltT:List Int→List Int→Bool
  | _,[]=>false
  | [],_::_=>true
  | a::x,b::y=>if a == b then ltT x y else decide (a < b)
theorem Oj:∀ x y:List Int,ltT x y=true→ltT y x=false
  | x,[],h=>by unfold ltT at h;cases h
  | [],b::y,_=>by simp[ltT]
  | a::x,b::y,h=>by
    unfold ltT at h ⊢
    by_cases e:a=b
    · subst e
      simp only[beq_self_eq_true,if_true] at h ⊢
      exact Oj x y h
    · have h1:(a == b)=false:=by simpa using e
      have h2:(b == a)=false:=by simpa using fun q=>e q.symm
      simp only[h1,h2,Bool.false_eq_true,if_false,decide_eq_true_eq] at h ⊢
      simp only[decide_eq_false_iff_not];omega
theorem Uz:∀ x y z:List Int,ltT y x=false→ltT z y=false→ltT z x=false
  | [],_,z,_,_=>by unfold ltT;rfl
  | a::x,[],z,h,_=>by simp[ltT] at h
  | a::x,b::y,[],_,h=>by simp[ltT] at h
  | a::x,b::y,c::z,h1,h2=>by
    unfold ltT at h1 h2 ⊢
    by_cases e1:b=a
    · subst e1
      simp only[beq_self_eq_true,if_true] at h1
      by_cases e2:c=b
      · subst e2
        simp only[beq_self_eq_true,if_true] at h2 ⊢
        exact Uz x y z h1 h2
      · have q:(c == b)=false:=by simpa using e2
        simp only[q,Bool.false_eq_true,if_false] at h2 ⊢
        exact h2
    · have q1:(b == a)=false:=by simpa using e1
      simp only[q1,Bool.false_eq_true,if_false,decide_eq_false_iff_not] at h1
      by_cases e2:c=b
      · subst e2
        simp only[q1,Bool.false_eq_true,if_false,decide_eq_false_iff_not];exact h1
      · have q2:(c == b)=false:=by simpa using e2
        simp only[q2,Bool.false_eq_true,if_false,decide_eq_false_iff_not] at h2
        have e3:c≠a:=by omega
        have q3:(c == a)=false:=by simpa using e3
        simp only[q3,Bool.false_eq_true,if_false,decide_eq_false_iff_not];omega
theorem Tq:∀ x y:List Int,ltT x y=false→ltT y x=false→x=y
  | [],[],_,_=>rfl
  | a::x,[],_,h=>by simp[ltT] at h
  | [],b::y,h,_=>by simp[ltT] at h
  | a::x,b::y,h1,h2=>by
    unfold ltT at h1 h2
    by_cases e:a=b
    · subst e
      simp only[beq_self_eq_true,if_true] at h1 h2
      rw[Tq x y h1 h2]
    · have q1:(a == b)=false:=by simpa using e
      have q2:(b == a)=false:=by simpa using fun q=>e q.symm
      simp only[q1,q2,Bool.false_eq_true,if_false,decide_eq_false_iff_not] at h1 h2
      omega
noncomputable def leT(x y:List Int):Prop:=ltT y x=false
theorem Pz:∀ {a b:List (List Int)},a.Perm b→a.Pairwise leT→b.Pairwise leT→a=b
  | [],b,p,_,_=>p.nil_eq
  | x::r,[],p,_,_=>absurd p.length_eq (by simp)
  | x::r,y::t,p,ha,hb=>by
    have hx:x∈y::t:=p.mem_iff.mp (List.mem_cons_self ..)
    have hy:y∈x::r:=p.mem_iff.mpr (List.mem_cons_self ..)
    have e:x=y:=by
      rcases List.mem_cons.mp hx with h | h
      · exact h
      · rcases List.mem_cons.mp hy with h' | h'
        · exact h'.symm
        · exact Tq x y ((List.pairwise_cons.mp hb).1 x h) ((List.pairwise_cons.mp ha).1 y h')
    subst e
    rw[Pz p.cons_inv (List.pairwise_cons.mp ha).2 (List.pairwise_cons.mp hb).2]
noncomputable def X5(x:List Int):List (List Int)→List (List Int)
  | []=>[x]
  | y::r=>if ltT y x=true then y::X5 x r else x::y::r
theorem Lq(x:List Int):∀ l,(X5 x l).Perm (x::l)
  | []=>.refl _
  | y::r=>by
    unfold X5
    split
    · exact ((Lq x r).cons y).trans (.swap ..)
    · exact .refl _
theorem Ls(x:List Int):∀ l,l.Pairwise leT→(X5 x l).Pairwise leT
  | [],_=>List.pairwise_singleton ..
  | y::r,h=>by
    obtain ⟨h1,h2⟩:=List.pairwise_cons.mp h
    unfold X5
    split
    · rename_i hl
      refine List.pairwise_cons.mpr ⟨fun z hz=>?_,Ls x r h2⟩
      rcases List.mem_cons.mp ((Lq x r).mem_iff.mp hz) with e | e
      · subst e;exact Oj _ _ hl
      · exact h1 z e
    · rename_i hl
      have hl:leT x y:=by unfold leT;simpa using hl
      refine List.pairwise_cons.mpr ⟨fun z hz=>?_,h⟩
      rcases List.mem_cons.mp hz with e | e
      · subst e;exact hl
      · exact Uz x y z hl (h1 z e)
noncomputable def Ly:List (List Int)→List (List Int)
  | []=>[]
  | x::r=>X5 x (Ly r)
theorem N6:∀ l,(Ly l).Perm l
  | []=>.refl _
  | x::r=>(Lq x _).trans ((N6 r).cons x)
theorem Kc:∀ l,(Ly l).Pairwise leT
  | []=>.nil
  | x::r=>Ls x _ (Kc r)
inductive Tups(K:PySem.W.Frag)(H:Hp):List (List Int)→List V→Prop
  | nil:Tups K H [] []
  | cons {a:Addr} {n:Int} {t:List Int} {ts:List (List Int)} {ys:List V} (h:SqT K H a ((n::t).map V.int)) (r:Tups K H ts ys):Tups K H ((n::t)::ts) (.ref a::ys)
theorem Tups.len{K:PySem.W.Frag}{H:Hp}{ts:List (List Int)}{ys:List V}(r:Tups K H ts ys):ts.length=ys.length:=by
  induction r with
  | nil=>rfl
  | cons h r ih=>simp[ih]
theorem Tups.at_{K:PySem.W.Frag}{H:Hp}{ts:List (List Int)}{ys:List V}(r:Tups K H ts ys):∀ i,i < ts.length→∃ (a:Addr) (n:Int) (t:List Int),ts[i]? = some (n::t)∧ys[i]? = some (.ref a)∧SqT K H a ((n::t).map V.int):=by
  induction r with
  | nil=>intro i h;simp at h
  | @cons a n t ts ys h r ih=>
    intro i hi
    cases i with
    | zero=>exact ⟨a,n,t,rfl,rfl,h⟩
    | succ i=>simpa using ih i (by simpa using hi)
theorem Aa3{P:Program}{w:World}{A:Around}{b fin:Bool}{s:Shared}{Q:Bool→Shared→Prop}:∀ (ns ms:List Int) (xs ys:List Value) (i:Nat),Vals (ns.map V.int) xs→Vals (ms.map V.int) ys→fin=decide (ns.length < ms.length)→Q (ltT ns ms) s→PySem.W.KatLex P w A b fin Q (xs.zip ys) i s
  | [],ms,xs,ys,i,rx,ry,hf,q=>by
    rw[List.map_nil] at rx;cases rx
    rw[List.zip_nil_left]
    refine PySem.W.kat_nil ?_
    rw[hf]
    cases ms with
    | nil=>exact q
    | cons m ms=>simpa[ltT] using q
  | n::ns,[],xs,ys,i,rx,ry,hf,q=>by
    rw[List.map_nil] at ry;cases ry
    rw[List.zip_nil_right]
    refine PySem.W.kat_nil ?_
    rw[hf]
    simpa[ltT] using q
  | n::ns,m::ms,xs,ys,i,rx,ry,hf,q=>by
    rw[List.map_cons] at rx ry
    cases rx with
    | cons r1 r2=>
      cases ry with
      | cons s1 s2=>
        obtain ⟨t,rfl⟩:=r1
        obtain ⟨u,rfl⟩:=s1
        rw[List.zip_cons_cons]
        refine PySem.W.kat_cons (PySem.wpAny_eqBool_int ?_)
        unfold ltT at q
        cases e:(n == m) with
        | true=>
          rw[e,if_pos rfl] at q
          exact PySem.W.kat_yes (Aa3 ns ms _ _ (i+1) r2 s2 (by rw[hf];simp) q)
        | false=>
          rw[e,if_neg (by simp)] at q
          refine PySem.W.kat_no ?_
          cases (b&&i == 0) with
          | true=>exact oneLt_int q
          | false=>exact PySem.W.kat_one _ _ (lt_int q)
section
variable {X:Cx}
end
noncomputable def Aba:U→Option (List Int)
  | .tup l=>mapO toI l
  | _=>none
noncomputable def Fo(l:List Int):U:=.tup (l.map U.int)
theorem Wr:∀ {us:List U} {ts:List (List Int)},mapO Aba us=some ts→us=ts.map Fo
  | [],ts,e=>by simp only[mapO] at e;cases e;rfl
  | u::us,ts,e=>by
    simp only[mapO] at e
    obtain ⟨t,e1,e⟩:=Option.bind_eq_some_iff.mp e
    obtain ⟨tr,e2,e⟩:=Option.map_eq_some_iff.mp e
    subst e
    rw[List.map_cons,Wr e2]
    congr 1
    cases u with
    | tup l=>
      have:∀ (l:List U) (t:List Int),mapO toI l=some t→l=t.map U.int:=by
        intro l
        induction l with
        | nil=>intro t e;simp only[mapO] at e;cases e;rfl
        | cons a l ih=>
          intro t e
          simp only[mapO] at e
          obtain ⟨x,x1,e⟩:=Option.bind_eq_some_iff.mp e
          obtain ⟨y,y1,e⟩:=Option.map_eq_some_iff.mp e
          subst e
          rw[List.map_cons,← ih y y1]
          cases a <;> first | (cases x1;rfl) | cases x1
      unfold Fo
      rw[this l t e1]
    | _=>cases e1
end MR
namespace SW
open PySem PySem.Spec PyProof.Rows
theorem Aec{led:Bool}{h:Nat→Int}:∀ {n:Nat} {t:SetTable} {hs:Array Int},Eo led n h=some (t,hs)→t.fits hs.size=true
  | 0,t,hs,e=>by
    cases e
    rfl
  | n+1,t,hs,e=>by
    obtain ⟨p,_,e2⟩:=Option.bind_eq_some_iff.mp (show (Eo led n h).bind _=some (t,hs) from e)
    exact Acm e2
noncomputable def okL(led:Bool)(ts:List (List Int)):Bool:=match Eo led ts.length (fun i=>hT (ts.getD i [])) with
  | some (t,_)=>decide (t.place.toList.Pairwise (· < ·))&&(t.dummies == #[])&&(t.led == led)
  | none=>false
noncomputable def okT(ts:List (List Int)):Bool:=okL true ts&&okL false ts
theorem Abn{ts:List (List Int)}(h:okT ts=true)(led:Bool):okL led ts=true:=by
  unfold okT at h
  rw[Bool.and_eq_true] at h
  cases led
  · exact h.2
  · exact h.1
theorem W6{led:Bool}{ts:List (List Int)}(h:okL led ts=true):∃ t hs,Eo led ts.length (fun i=>hT (ts.getD i []))=some (t,hs)∧Tb t led:=by
  unfold okL at h
  split at h
  · rename_i t hs e
    simp only[Bool.and_eq_true,decide_eq_true_eq,beq_iff_eq] at h
    exact ⟨t,hs,e,h.1.1,h.1.2,h.2⟩
  · cases h
end SW
namespace MR
open PySem PySem.Spec PyProof.Rows PySem.Calls L2 SO
theorem N4{prog:Program}{w:World}:∀ {ns:List Int} {us:List Value},Vals (ns.map V.int) us→ItemsAre (intKind prog w) ns us
  | [],us,r=>by rw[List.map_nil] at r;cases r;exact .nil
  | n::ns,us,r=>by
    rw[List.map_cons] at r
    cases r with
    | cons r1 r2=>
      obtain ⟨t,rfl⟩:=r1
      exact .cons (intKind_is _ _ _ _) (N4 r2)
section
variable {X:Cx}
noncomputable def Akn(K:PySem.W.Frag)(H:Hp)(ts:List (List Int))(ys:List V):Prop:=ts.length=ys.length∧∀ i,i < ts.length→∃ a:Addr,ys[i]? = some (.ref a)∧SqT K H a ((ts.getD i []).map V.int)
noncomputable def Yy(K:PySem.W.Frag)(ta:TA):TE:=fun σ H Q=>ta σ H fun vs H1=>∃ (l:Addr) (ys:List V) (ts:List (List Int)),vs=[.ref l]∧SqL K H1 l ys∧Akn K H1 ts ys∧SW.okT ts=true∧ts.length < 64∧(ts.length < 2∨∀ i,i < ts.length→ts.getD i []≠[]) ∧
  ∀ (p:Addr) (ks:List Nat),H1 p=none→(ks.map fun i=>ts.getD i [])=Ly ts→(∀ k∈ks,k < ys.length)→Q (.ref p) (upd H1 p (.lst (ks.map fun i=>ys.getD i .non)))
theorem S7{a:Expr}{ta:TA}{p p' pos pos':Pos}(hc:X.calm=true)(hu:X.A.units+64 < cLine)(hgL:Gl X "sorted")(hmL:X.mg "sorted" = none)(hg:Gl X "set")(hm:X.mg "set" = none)(ha:PA X [a] ta)(hs:starEach [a] X.env=[(false,eval a X.env)]:=by rfl)
    (hs2:starEach [.Call (.Name "set" p') [a] [] pos'] X.env=[(false,eval (.Call (.Name "set" p') [a] [] pos') X.env)]:=by rfl):PE X (.Call (.Name "sorted" p) [.Call (.Name "set" p') [a] [] pos'] [] pos) (Yy X.K ta):=by
  intro pins s σ H Q I h
  refine wpAny_Call_Name_kw (C6 I hgL hmL PyProof.Rows.boot_sorted ?_)
  refine PyProof.Rows.callWith_builtin1 ?_ hs2 rfl
  rw[hs2]
  refine Calls.spliced_cons ?_
  refine wpAny_Call_Name_kw (C6 I hg hm boot_set (PyProof.Rows.callWith_type1 (thn (ha pos' pins s σ H _ I h) fun us s1 zz=>zz.elim fun vs H1 I1 r1 q1=>?_) hs rfl))
  obtain ⟨l,ys,ts,rfl,hq,⟨htl,hat⟩,hok,h64,hne,q⟩:=q1
  obtain ⟨u,rfl,ru⟩:=Ii r1
  cases ru
  obtain ⟨its,rv,pl,hz⟩:=I1.list hq
  have hlen:=rv.length
  have hsz:its.toArray.size=ts.length:=by simp;omega
  have hat2:∀ i,i < ts.length→∃ (b:Addr) (ws:List Value),its[i]? = some (.ref b)∧ys[i]? = some (.ref b)∧Vals ((ts.getD i []).map V.int) ws∧IsTup s1.heap b ws.toArray:=by
    intro i hi
    obtain ⟨b,e2,sq⟩:=hat i hi
    obtain ⟨v,e3,rr⟩:=rv.get e2
    cases rr
    obtain ⟨ws,r2,it,_⟩:=I1.tuple sq
    exact ⟨b,ws,e3,e2,r2,it⟩
  let ad:Nat→Addr:=fun i=>match its[i]? with | some (.ref b)=>b | _=>0
  have hadr:∀ i,i < ts.length→its[i]? = some (.ref (ad i)):=fun i hi=>by
    obtain ⟨b,ws,e1,_⟩:=hat2 i hi
    show its[i]? = some (.ref (match its[i]? with | some (.ref b)=>b | _=>0))
    rw[e1]
  have hadk:∀ i,i < ts.length→∃ ws,Vals ((ts.getD i []).map V.int) ws∧IsTup s1.heap (ad i) ws.toArray:=fun i hi=>by
    obtain ⟨b,ws,e1,_,r2,it⟩:=hat2 i hi
    have:=hadr i hi
    rw[e1] at this
    have hb:b=ad i:=by injection this with h;injection h
    exact ⟨ws,r2,hb ▸ it⟩
  refine SW.Sl (ts:=fun i=>ts.getD i []) (ad:=ad) (I1.ok.hd hc) (by omega) pl.isList (fun i v hv=>?_) (by rw[hsz];omega) (fun i hi=>?_) (fun led=>?_) fun h' tk hS hk=>?_
  · have hv':its[i]? = some v:=by simpa using hv
    have hi:i < ts.length:=by have:=(List.getElem?_eq_some_iff.mp hv').1;omega
    rw[hadr i hi] at hv'
    exact (Option.some.inj hv').symm
  · rw[hsz] at hi
    obtain ⟨ws,r2,o,ho,hcl,n,hd⟩:=hadk i hi
    exact ⟨o,ws.toArray,n,ho,hcl,hd,by simpa using N4 r2⟩
  · obtain ⟨t,hs',e,_⟩:=SW.W6 (SW.Abn hok led)
    rw[hsz,e];rfl
  · refine Calls.spliced_nil ?_
    rw[hsz] at hS
    obtain ⟨es,ep,t,hA,hrun,hpl,hpm⟩:=hS
    obtain ⟨t',hs',e',tb⟩:=SW.W6 (SW.Abn hok (!X.w.params.followText "set-order"))
    have:(t,es.map (·.1))=(t',hs'):=Option.some.inj (hrun.symm.trans e')
    cases this
    have hfit:=SW.Aec hrun
    rw[Array.size_map] at hfit
    have hel:es.size=ts.length:=by rw[← Array.length_toList,hpm.length_eq];simp
    have I2:L2.Inv X pins σ H1 { s1 with heap:=h',toks:=tk }:=I1.kept hk
    refine call_function_entry kind_sorted plain_sorted entry_sorted (args_sorted1 _) ?_
    unfold Builtin.«sorted»
    refine wpAny_bind (m:=checkCount "sorted" 1 1 _) (wpAny_pure (wpAny_bind (SW.Uh (s:={ s1 with heap:=h',toks:=tk }) (by first | exact I1.ok.hd hc | simpa using I1.ok.hd hc) hA hfit tb rfl (by rw[hel,sizeLine_eq];omega) fun h1 tk1 d xs kp hxp=>?_)))
    obtain ⟨π,hπ,hxs⟩:=SW.U8 (hxp.trans hpm) rfl
    have hvs:xs.map (·.2) = π.map fun i=>Value.ref (ad i):=by rw[hxs,List.map_map];rfl
    rw[hvs]
    have hπl:π.length=ts.length:=by rw[hπ.length_eq,List.length_range]
    have hπm:∀ i∈π,i < ts.length:=fun i hi=>List.mem_range.mp (hπ.mem_iff.mp hi)
    have hvl:(π.map fun i=>Value.ref (ad i)).length≤sizeLine:=by rw[List.length_map,hπl,sizeLine_eq];omega
    refine wpAny_bind (wpAny_newList ?_ hvl)
    have kall:∀ b o,s1.heap.get? b=some o→h1.get? b=some o:=fun b o e=>kp _ _ (hk _ _ e)
    generalize hvv:(π.map fun i=>Value.ref (ad i))=vv at *
    have hvvl:vv.length=ts.length:=by rw[← hvv,List.length_map,hπl]
    have e2:(h1.push (seqObj "list" vv.toArray 0)).get? h1.objs.size=some (seqObj "list" vv.toArray 0):=Heap.get?_push_size _ rfl
    have e3:∀ b o,h1.get? b=some o→(h1.push (seqObj "list" vv.toArray 0)).get? b=some o:=fun b o q=>Heap.get?_push_of_some _ q
    have e4:∀ (h2:Heap),Kb h1.objs.size (h1.push (seqObj "list" vv.toArray 0)) h2→∀ b o,h1.get? b=some o→h2.get? b=some o:=fun h2 k b o q=>
      k b o (Nat.ne_of_lt (Heap.lt_size q)) (e3 b o q)
    show wpAny _ _ _ _ _ ({ s1 with heap:=h1.push (seqObj "list" vv.toArray 0),toks:=tk1,drawn:=d }:Shared)
    generalize h1.push (seqObj "list" vv.toArray 0)=hp at e2 e3 e4
    have pat:∀ i,i < vv.length→∃ j,π[i]? = some j∧j < ts.length∧vv[i]? = some (.ref (ad j)):=by
      intro i hi
      have hi2:i < π.length:=by omega
      refine ⟨π[i],List.getElem?_eq_getElem hi2,hπm _ (List.getElem_mem hi2),?_⟩
      rw[← hvv,List.getElem?_map,List.getElem?_eq_getElem hi2];rfl
    have W:Wo fun i j=>ltT (ts.getD (π.getD i 0) []) (ts.getD (π.getD j 0) []):=⟨fun i j h=>Oj _ _ h,fun i j k h1 h2=>Uz _ _ _ h1 h2⟩
    refine wpAny_bind (wpAny_holding (wpAny_call_entry slot_list_sort ⟨_,e2,rfl⟩ entry_list_sort (Adi (κ:=tuples' (Value.type "int" != Value.type "tuple")) (s:={ s1 with heap:=hp,toks:=tk1,drawn:=d }) W e2 (by omega) ?kd ?ak ?en) (args_list_sort _)))
    case kd=>
      intro h2 h3 Q' kb q'
      have hne2:∀ i,i < ts.length→ts.getD i []≠[]:=hne.resolve_left (by omega)
      have mk:∀ (m:Nat),m≤vv.length→∃ fs:List Value,PySem.W.KatTups h3 (vv.drop (vv.length - m)) fs∧fs.length=m∧∀ v∈fs,PySem.W.Looks (model X.prog X.w) h3 (typeOf v) (.type "int"):=by
        intro m
        induction m with
        | zero=>intro _;exact ⟨[],by rw[Nat.sub_zero,List.drop_length];exact PySem.W.KatTups.nil,rfl,by simp⟩
        | succ m ih=>
          intro hm
          obtain ⟨fs,k1,k2,k3⟩:=ih (by omega)
          obtain ⟨j,_,hj,e1⟩:=pat (vv.length - (m+1)) (by omega)
          obtain ⟨ws,r2,o,ho,hcls,nn,hd⟩:=hadk j hj
          cases hts:ts.getD j [] with
          | nil=>exact absurd hts (hne2 j hj)
          | cons n t=>
            rw[hts,List.map_cons] at r2
            cases r2 with
            | @cons _ v0 _ vr rr rs=>
              obtain ⟨tk,rfl⟩:=rr
              have hdrop:vv.drop (vv.length - (m+1)) = .ref (ad j)::vv.drop (vv.length - m):=by
                have hlt:vv.length - (m+1) < vv.length:=by omega
                rw[List.drop_eq_getElem_cons hlt]
                have:vv[vv.length - (m+1)] = .ref (ad j):=by
                  rw[List.getElem?_eq_getElem hlt] at e1;exact Option.some.inj e1
                rw[this]
                congr 2;omega
              refine ⟨.int n tk::fs,?_,by simp[k2],fun v hv=>?_⟩
              · rw[hdrop]
                exact PySem.W.KatTups.cons (e4 _ kb _ _ (kall _ _ ho)) hcls hd rfl k1
              · rcases List.mem_cons.mp hv with e | e
                · subst e
                  exact PySem.W.Looks.now
                · exact k3 v e
      obtain ⟨fs,k1,k2,k3⟩:=mk vv.length (Nat.le_refl _)
      rw[Nat.sub_self,List.drop_zero] at k1
      exact PySem.W.kat_kind (s:={ s1 with heap:=h3,toks:=tk1,drawn:=d }) k1 (by omega) k3 rfl q'
    case ak=>
      intro h3 i j C kb hi hj hC
      obtain ⟨i',pi,hi',f1⟩:=pat i hi
      obtain ⟨j',pj,hj',f2⟩:=pat j hj
      obtain ⟨ws,r2,o,ho,_,c1,hd⟩:=hadk i' hi'
      obtain ⟨zs,s2,o',ho',_,c2,hd'⟩:=hadk j' hj'
      have g1:vv.getD i Value.none = .ref (ad i'):=by rw[List.getD_eq_getElem?_getD,f1];rfl
      have g2:vv.getD j Value.none = .ref (ad j'):=by rw[List.getD_eq_getElem?_getD,f2];rfl
      have p1:π.getD i 0=i':=by rw[List.getD_eq_getElem?_getD,pi];rfl
      have p2:π.getD j 0=j':=by rw[List.getD_eq_getElem?_getD,pj];rfl
      unfold PySem.W.kas_ask
      rw[g1,g2]
      refine PySem.W.kat_lt (s:={ s1 with heap:=h3,toks:=tk1,drawn:=d }) (e4 _ kb _ _ (kall _ _ ho)) hd (e4 _ kb _ _ (kall _ _ ho')) hd' ?_
      have hl1:=r2.length
      have hl2:=s2.length
      rw[List.length_map] at hl1 hl2
      refine Aa3 (ts.getD i' []) (ts.getD j' []) ws zs 0 r2 s2 ?_ ?_
      · rw[List.size_toArray,List.size_toArray,← hl1,← hl2]
      · rw[← p1,← p2];exact hC
    case en=>
      intro pp h3 c hpm2 hup kb hl2
      have hzp:pp.toList.length=ts.length:=by rw[Array.length_toList,hpm2.size,hvvl]
      have hpin:∀ k∈pp.toList,k < π.length:=fun k hk=>by
        have:=List.mem_range.mp (hpm2.perm.mem_iff.mp hk)
        omega
      have hks:((pp.toList.map fun i=>π.getD i 0).map fun i=>ts.getD i [])=Ly ts:=by
        refine Pz ?_ ?_ (Kc ts)
        · have hπg:(List.range vv.length).map (fun i=>π.getD i 0) = π:=by
            apply List.ext_getElem
            · simp;omega
            · intro i h1 h2
              simp[h2]
          have ht:(List.range ts.length).map (fun i=>ts.getD i [])=ts:=by
            apply List.ext_getElem
            · simp
            · intro i h1 h2
              simp[h2]
          refine (((hpm2.perm.map _).trans (by rw[hπg])).map _).trans (((hπ.map _).trans (by rw[ht])).trans (N6 ts).symm)
        · rw[List.map_map,List.pairwise_map,List.pairwise_iff_getElem]
          intro i j hi hj hij
          have:=hup i j (Nat.le_of_lt hij) (by omega)
          have ai:at0 pp i=pp.toList[i]:=by unfold at0;rw[Array.getD_eq_getD_getElem?,← Array.getElem?_toList,List.getElem?_eq_getElem hi];rfl
          have aj:at0 pp j=pp.toList[j]:=by unfold at0;rw[Array.getD_eq_getD_getElem?,← Array.getElem?_toList,List.getElem?_eq_getElem hj];rfl
          rw[ai,aj] at this
          exact this
      have hklt:∀ k∈pp.toList.map (fun i=>π.getD i 0),k < ys.length:=fun k hk=>by
        obtain ⟨i,hi,rfl⟩:=List.mem_map.mp hk
        have hi2:=hpin i hi
        have:π.getD i 0∈π:=by rw[List.getD_eq_getElem?_getD,List.getElem?_eq_getElem hi2];exact List.getElem_mem hi2
        have:=hπm _ this
        omega
      have hrel:Vals ((pp.toList.map fun i=>π.getD i 0).map fun i=>ys.getD i .non) (Mf vv pp):=by
        unfold Mf
        have:∀ ks:List Nat,(∀ k∈ks,k < π.length)→Vals ((ks.map fun i=>π.getD i 0).map fun i=>ys.getD i .non) (ks.map fun i=>vv.getD i Value.none):=by
          intro ks
          induction ks with
          | nil=>intro _;exact .nil
          | cons k ks ih=>
            intro hk
            obtain ⟨j,pj,hj,f1⟩:=pat k (by have:=hk k (List.mem_cons_self ..);omega)
            obtain ⟨b,ws,w1,w2,_⟩:=hat2 j hj
            rw[hadr j hj] at w1
            have hb:ad j=b:=by injection w1 with h;injection h
            refine .cons ?_ (ih fun x hx=>hk x (List.mem_cons_of_mem _ hx))
            have p1:π.getD k 0=j:=by rw[List.getD_eq_getElem?_getD,pj];rfl
            show L2.RelV (ys.getD (π.getD k 0) .non) (vv.getD k Value.none)
            rw[p1,List.getD_eq_getElem?_getD,List.getD_eq_getElem?_getD,w2,f1,hb]
            rfl
        exact this _ hpin
      have hsz2:((pp.toList.map fun i=>π.getD i 0).map fun i=>ys.getD i .non).length≤sizeLine:=by
        rw[List.length_map,List.length_map,hzp,sizeLine_eq];omega
      have J0:L2.Inv X pins σ H1 { s1 with heap:=h1,toks:=tk1,drawn:=d }:=Yh (I2.kept (t':=tk1) kp)
      have I3:Inv X pins σ (upd H1 h1.objs.size (.lst ((pp.toList.map fun i=>π.getD i 0).map fun i=>ys.getD i .non))) { s1 with heap:=h3,toks:=tk1,drawn:=d }:=J0.laid (t':=tk1) (e4 h3 kb) (Nat.le_refl _) ⟨hsz2,Mf vv pp,c,hrel,hl2⟩
      exact ⟨_,rfl,wpAny_pure ⟨_,rfl,.ref h1.objs.size,_,I3,rfl,q _ _ (J0.hok.fresh (Nat.le_refl _)) hks hklt⟩⟩
end
noncomputable def E7(g:FA):FE:=fun δ L=>(g δ L).bind fun p=>match p.1 with
  | [.ref n]=>(Am p.2 n).bind fun us=>(mapO Aba us).bind fun ts=>if SW.okT ts=true∧ts.length < 64∧(ts.length < 2∨(ts.all fun t=>!t.isEmpty)=true) then some (.ref p.2.length,p.2++[.lst ((Ly ts).map Fo)]) else none
  | _=>none
theorem T4{X:Cx}{a:Expr}{g:FA}{p p' pos pos':Pos}(hc:X.calm=true)(hu:X.A.units+64 < cLine)(hgL:Gl X "sorted")(hmL:X.mg "sorted" = none)(hg:Gl X "set")(hm:X.mg "set" = none)(ha:PAF X [a] g)(hs:starEach [a] X.env=[(false,eval a X.env)]:=by rfl)
    (hs2:starEach [.Call (.Name "set" p') [a] [] pos'] X.env=[(false,eval (.Call (.Name "set" p') [a] [] pos') X.env)]:=by rfl):PEF X (.Call (.Name "sorted" p) [.Call (.Name "set" p') [a] [] pos'] [] pos) (E7 g):=by
  refine PE.imp (S7 hc hu hgL hmL hg hm ha hs hs2) ?_
  rintro σ H Q ⟨α,δ,L,A,S,z,L3,e,q⟩
  obtain ⟨⟨us,L1⟩,e1,e⟩:=Option.bind_eq_some_iff.mp e
  refine ⟨α,δ,L,A,S,us,L1,e1,fun xs H1 α1 g1 A1 r1=>?_⟩
  simp only at e
  split at e
  · obtain ⟨l,hl,e⟩:=Option.bind_eq_some_iff.mp e
    obtain ⟨ts,hts,e⟩:=Option.bind_eq_some_iff.mp e
    split at e
    · rename_i hcc
      obtain ⟨c1,c2,c3⟩:=hcc
      cases e
      obtain ⟨x,rfl,rx⟩:=r1.one
      obtain ⟨a,ys,rfl,sq,r2⟩:=G9 A1 hl rx
      have hus:=Wr hts
      have hlu:=r2.length
      have hlt:l.length=ts.length:=by rw[hus,List.length_map]
      have tat:∀ k,k < ts.length→l[k]? = some (Fo (ts.getD k [])):=fun k hk=>by
        rw[hus,List.getElem?_map,List.getD_eq_getElem?_getD,List.getElem?_eq_getElem hk];rfl
      refine ⟨a,ys,ts,rfl,sq,⟨by omega,fun i hi=>?_⟩,c1,c2,?_,fun p ks hp hks hklt=>?_⟩
      · obtain ⟨x,ex,rx⟩:=r2.get (tat i hi)
        unfold Fo RepU at rx
        obtain ⟨b,vs,rfl,sq2,rl⟩:=rx
        have hv:=Iy rl (ns:=ts.getD i []) (by
          have:∀ l:List Int,mapO toI (l.map U.int)=some l:=by
            intro l
            induction l with
            | nil=>rfl
            | cons a r ih=>simp only[List.map_cons,mapO,toI,ih,Option.bind_some,Option.map_some]
          exact this _)
        rw[hv] at sq2
        exact ⟨b,ex,sq2⟩
      · rcases c3 with h | h
        · exact .inl h
        · refine .inr fun i hi hn=>?_
          have hm:ts.getD i []∈ts:=by rw[List.getD_eq_getElem?_getD,List.getElem?_eq_getElem hi];exact List.getElem_mem hi
          have:=List.all_eq_true.mp h _ hm
          rw[hn] at this
          simp at this
      · have rl:RepL X.K H1 α1 ((Ly ts).map Fo) (ks.map fun i=>ys.getD i .non):=by
          rw[← hks]
          have:∀ ks:List Nat,(∀ k∈ks,k < ys.length)→RepL X.K H1 α1 ((ks.map fun i=>ts.getD i []).map Fo) (ks.map fun i=>ys.getD i .non):=by
            intro ks
            induction ks with
            | nil=>intro _;exact .nil
            | cons k ks ih=>
              intro hk
              have hk0:=hk k (List.mem_cons_self ..)
              refine .cons ?_ (ih fun x hx=>hk x (List.mem_cons_of_mem _ hx))
              obtain ⟨x,ex,rx⟩:=r2.get (tat k (by omega))
              show RepU X.K H1 α1 (Fo (ts.getD k [])) (ys.getD k .non)
              rw[List.getD_eq_getElem?_getD (l:=ys),ex]
              exact rx
          exact this ks hklt
        obtain ⟨g2,A2,r3⟩:=A1.lst rl hp
        exact q _ _ _ (g1.trans g2) A2 r3
    · cases e
  · cases e
end MR
namespace Lw
open PySem L2 MR
noncomputable def Ed:FE:=(Ad 0)
noncomputable def Eb:FT:=(Bx (f2 Eh (Ad 0) (Ad 1)))
noncomputable def Hh:FS:=(Bf (Az (Ax Au (Ac (Fe [none,some 3] (Dm (Ad 2)) (gN 0) (some Eb) Ed) Ag)) (gN 4)) (Bf (Et (Gk "list" Cu (Ad 1) (Ac (f2 A7 (Ax Au (Ac (Ad 2) Ag)) (Ad 4)) Ag))) (Et (Gk "list" Ge (Ad 2) (Ac (Ad 4) (Ac (Ad 3) Ag))))))
noncomputable def Oq:FS:=(Bf (Az (C2 Ag) (gN 1)) (Bf (Az (C2 Ag) (gN 2)) (Bf (Dx (Dm (Ad 0)) (gN 3) Hh) (C8 (Ax H0 (Ac (Ad 1) Ag))))))
noncomputable def Dz:FN:=fnU 5 1 Oq
noncomputable def Jr:FS:=(Et (Kz ["NoPlace","NoAsk","NoPoints","NoCounts","NoName"] (Ac (Ad 0) (Ac (Ad 1) Ag))))
noncomputable def De:FN:=fnU 2 2 Jr
noncomputable def Cr:FS:=(G0 (fOr (Bx (f2 Eh (Ad 2) (fC (.int 0)))) (Bx (f2 T6 (Ad 2) (Ad 1)))) Lj Dr)
noncomputable def Jh:FS:=(Dx (Im (Ac (Ad 0) Ag)) (MR.gTup 2 (MR.gCons (gN 1) (MR.gCons (gN 2) MR.gNil))) Cr)
noncomputable def C7:FN:=fnU 3 1 Jh
noncomputable def Jp:FS:=(Et (Gk "list" Cu (Ad 2) (Ac (Gk "list" Oh (Ad 1) (Ac (f2 A7 (Ad 3) (f2 Ap (Ad 0) (Ad 3))) Ag)) Ag)))
noncomputable def Ub:FS:=(Bf (Et (A9 1 C7 (Ac (Ad 0) Ag))) (Bf (Az (Hy (Ac (fC (.int 1)) (Ac (f2 Ao (Ax Au (Ac (Ad 0) Ag)) (fC (.int 1))) Ag))) (gN 1)) (Bf (Az (C2 Ag) (gN 2)) (Bf (Dx (Kf (Ac (f2 A7 (Ax Au (Ac (Ad 0) Ag)) (fC (.int 1))) (Ac (Dy (fC (.int 1))) (Ac (Dy (fC (.int 1))) Ag)))) (gN 3) Jp) (C8 (Xk (Ac (Ad 2) Ag)))))))
noncomputable def Kx:FN:=fnU 4 1 Ub
noncomputable def Cd:FE:=(Ax semSum (Ac (fSl semSl (Ad 1) (Jl (Ax Jo (Ac (fC (.int 0)) (Ac (f2 A7 (Ad 0) (Ad 2)) Ag)))) (Jl (f2 Ao (Ad 0) (fC (.int 1))))) Ag))
noncomputable def Ei:FS:=(C8 (Fe [none,some 0,some 1] (C3 (Ac (f2 Ao (Ax Au (Ac (Ad 0) Ag)) (Ad 1)) Ag)) (gN 0) none Cd))
noncomputable def Bw:FN:=fnU 2 2 Ei
noncomputable def Dh:FS:=(Et (Gk "list" Cu (Ad 1) (Ac (A9 2 Bw (Ac (f2 Ap (Ad 1) (Dy (fC (.int 1)))) (Ac (Ad 2) Ag))) Ag)))
noncomputable def Gv:FS:=(Bf (Az (C2 (Ac (C2 (Ac (fC (.int 1)) Ag)) Ag)) (gN 1)) (Bf (Dx (Kf (Ac (f2 A7 (Ad 0) (fC (.int 1))) (Ac (Dy (fC (.int 1))) (Ac (Dy (fC (.int 1))) Ag)))) (gN 2) Dh) (C8 (Xa (Ac (Ad 1) Ag)))))
noncomputable def Bs:FN:=fnU 3 1 Gv
noncomputable def P9:FS:=(C8 (fIf (Bx (Nh Wm Eh (fC (.int 0)) (Ad 1) (Ax Au (Ac (Ad 0) Ag)))) (f2 Ap (Ad 0) (Ad 1)) (fC (.int 0))))
noncomputable def Bt:FN:=fnU 2 2 P9
noncomputable def Ew:FT:=(Bx (f2 Kh (Ad 6) (A9 2 Bt (Ac (f2 Ap (Ad 3) (f2 Ao (Ad 7) (fC (.int 1)))) (Ac (f2 A7 (Ad 5) (Ad 8)) Ag)))))
noncomputable def Fw:FS:=(Bf (Az (f2 A7 (Ad 6) (A9 2 Bt (Ac (f2 Ap (Ad 3) (f2 Ao (Ad 7) (fC (.int 1)))) (Ac (f2 A7 (Ad 5) (Ad 8)) Ag)))) (gN 6)) (Az (f2 Ao (Ad 8) (fC (.int 1))) (gN 8)))
noncomputable def Ht:FS:=(Bf (Az (fC (.int 0)) (gN 8)) (Bf (Fy Ew Fw 100000) (Bf (Et (Gk "list" Cu (Ad 4) (Ac (Ad 8) Ag))) (Az (f2 A7 (Ad 5) (Ad 8)) (gN 5)))))
noncomputable def Qu:FS:=(Bf (Az (A9 1 Bs (Ac (Ad 0) Ag)) (gN 3)) (Bf (G0 (fOr (Bx (f2 Eh (Ad 2) (fC (.int 0)))) (Bx (f2 Kh (Ad 2) (A9 2 Bt (Ac (f2 Ap (Ad 3) (fC (.int 0))) (Ac (Ad 1) Ag)))))) Lj Dr) (Bf (Az (C2 Ag) (gN 4)) (Bf (Az (Ad 1) (gN 5)) (Bf (Az (Ad 2) (gN 6)) (Bf (Dx (C3 (Ac (Ad 0) Ag)) (gN 7) Ht) (C8 (A9 1 Kx (Ac (Ad 4) Ag)))))))))
noncomputable def B4:FN:=fnU 9 3 Qu
noncomputable def J1:XS:=(Ph (Az (A9 1 Bs (Ac (Ad 0) Ag)) (gN 3)) xNo (Ph Lj (xIf (fOr (Bx (f2 Eh (Ad 2) (fC (.int 0)))) (Bx (f2 Kh (Ad 2) (A9 2 Bt (Ac (f2 Ap (Ad 3) (fC (.int 0))) (Ac (Ad 1) Ag)))))) (R4 ["NoPlace","NoAsk","NoPoints","NoCounts","NoName"] (Oc "NoPlace" 2 De (Ac (Rj [(fC (.str "there is no row ")),(Q6 (Ad 2)),(fC (.str " of ")),(Q6 (Ad 0)),(fC (.str " numbers with ")),(Q6 (Ad 1)),(fC (.str " in all"))]) Ag))) xNo) xNo))
noncomputable def Lm:XN:=fnX 9 3 J1
noncomputable def Ga:FS:=(Et (A9 3 B4 (Ac (Ad 0) (Ac (Ad 1) (Ac (Ad 2) Ag)))))
noncomputable def Du:XS:=(xOf (Ah1 3 Lm (Ac (Ad 0) (Ac (Ad 1) (Ac (Ad 2) Ag)))))
noncomputable def Fj:FS:=(Az (Ad 4) (gN 3))
noncomputable def Eg:FS:=(Bf (Az (fC .non) (gN 3)) (Bf (Yk Ga Du ["NoPlace","NoAsk","NoPoints","NoCounts","NoName"] 4 Fj) (Bf (G0 (fOr (Lk (Qa ["NoPlace","NoAsk","NoPoints","NoCounts","NoName"] ["NoAsk","NoCounts","NoName","NoPoints"] (Ad 3))) (N8 (Lk (Q3 ["NoPlace","NoAsk","NoPoints","NoCounts","NoName"] "ValueError" (Ad 3))))) (C8 (fC (.bl false))) Dr) (C8 (Q3 ["NoPlace","NoAsk","NoPoints","NoCounts","NoName"] "NoPlace" (Ad 3))))))
noncomputable def Ej:FN:=fnU 5 3 Eg
noncomputable def Fq:FS:=(Abr (Ad 3) (f2 Ao (Ad 4) (Ad 5)) (f2 Ao (Ij (Ad 3) (f2 Ao (Ad 4) (Ad 5)) (fC (.int 0))) (M9 (f2 Ap (Ad 1) (fC (.int 0))) (Ad 4))))
noncomputable def Ef:FS:=(Dx (C3 (Ac (f2 Ao (Ad 2) (fC (.int 1))) Ag)) (gN 5) Fq)
noncomputable def Fu:FS:=(Bf (Az Abq (gN 3)) (Bf (Sd (Dx (P7 Ma (f2 Ap (Ad 1) (fC (.int 0)))) (gN 4) Ef)) (Az (f2 Ao (C2 (Ac (Ad 3) Ag)) (Ad 1)) (gN 1))))
noncomputable def Qh:FS:=(Bf (Az (C2 (Ac (Nf (fC (.int 0)) (fC (.int 1))) Ag)) (gN 1)) (Bf (Dx (Kf (Ac (f2 A7 (Ad 0) (fC (.int 1))) (Ac (Dy (fC (.int 1))) (Ac (Dy (fC (.int 1))) Ag)))) (gN 2) Fu) (C8 (Ad 1))))
noncomputable def Gx:FN:=fnU 6 1 Qh
noncomputable def Ft:FS:=(Az (f2 Ao (Ad 3) (Ij (f2 Ap (Ad 1) (f2 Ao (Ad 4) (fC (.int 1)))) (f2 A7 (Ad 2) (Ad 6)) (fC (.int 0)))) (gN 3))
noncomputable def Hu:FS:=(Bf (Dx (C3 (Ac (Ad 5) Ag)) (gN 6) Ft) (Az (f2 A7 (Ad 2) (Ad 5)) (gN 2)))
noncomputable def Qd:FS:=(Bf (Az (A9 1 Gx (Ac (Ax Au (Ac (Ad 0) Ag)) Ag)) (gN 1)) (Bf (Az (Ax semSum (Ac (Ad 0) Ag)) (gN 2)) (Bf (Az (fC (.int 0)) (gN 3)) (Bf (Dx (Im (Ac (Ad 0) Ag)) (MR.gTup 2 (MR.gCons (gN 4) (MR.gCons (gN 5) MR.gNil))) Hu) (C8 (Ad 3))))))
noncomputable def G1:FN:=fnU 7 1 Qd
noncomputable def Sh:FS:=(C8 (Lv (Acq "int" (Ad 0)) (Ac8 (Acq "bool" (Ad 0)))))
noncomputable def G5:FN:=fnU 1 1 Sh
noncomputable def Gb:FE:=(Ad 0)
noncomputable def b_l_are_whole_1t:FT:=(N8 (Lk (A9 1 G5 (Ac (Ad 0) Ag))))
noncomputable def Jg:FS:=(C8 (Lv (Acq "tuple" (Ad 0)) (f2 Dk (Fe [none] (Dm (Ad 0)) (gN 0) (some b_l_are_whole_1t) Gb) (C2 Ag))))
noncomputable def C9:FN:=fnU 1 1 Jg
noncomputable def Gd:FS:=(Bf (Az (A9 3 B4 (Ac (Ad 0) (Ac (Ad 1) (Ac (Ad 2) Ag)))) (gN 3)) (Bf (G0 (fOr (N8 (Lk (A9 1 C9 (Ac (Ad 3) Ag)))) (Bx (f2 Ip (Ax semSortJ (Ac (Ad 3) Ag)) (Hy (Ac (fC (.int 1)) (Ac (f2 Ao (Ad 0) (fC (.int 1))) Ag)))))) (C8 (fC (.bl false))) Dr) (Bf (Az (A9 1 Dz (Ac (Ad 3) Ag)) (gN 4)) (C8 (Lv (f2 Dk (Ax semSum (Ac (Ad 4) Ag)) (Ad 1)) (Lv (f2 Dk (A9 1 G1 (Ac (Ad 4) Ag)) (Ad 2)) (f2 Dk (A9 3 B4 (Ac (Ad 0) (Ac (Ad 1) (Ac (Ad 2) Ag)))) (Ad 3))))))))
noncomputable def Iu:FN:=fnU 5 3 Gd
noncomputable def Hb:FS:=(Et (Gk "list" Cu (Ad 3) (Ac (Ax semSum (Ac (fSl semSl (Ad 1) (Jl (Ax Jo (Ac (fC (.int 0)) (Ac (f2 Ao (f2 A7 (Ad 4) (Ad 2)) (fC (.int 1))) Ag)))) (Jl (f2 Ao (Ad 4) (fC (.int 1))))) Ag)) Ag)))
noncomputable def He:FS:=(Bf (Az (C2 Ag) (gN 3)) (Bf (Dx (C3 (Ac (f2 A7 (f2 Ao (Ax Au (Ac (Ad 1) Ag)) (Ad 2)) (fC (.int 1))) Ag)) (gN 4) Hb) (Az (Ad 3) (gN 1))))
noncomputable def Ta:FS:=(Bf (Az (C2 (Ac (fC (.int 1)) Ag)) (gN 1)) (Bf (Dx (Pu (Ac (fC (.int 2)) (Ac (f2 Ao (Ad 0) (fC (.int 1))) Ag))) (gN 2) He) (C8 (Ad 1))))
noncomputable def Ku:FN:=fnU 5 1 Ta
noncomputable def Mz:FE:=(A9 1 Dz (Ac (Ad 0) Ag))
noncomputable def Ki:FE:=(A9 3 B4 (Ac (Ad 1) (Ac (Ad 2) (Ac (Ad 0) Ag))))
noncomputable def R6:FS:=(G0 (N8 (Lk (A9 3 Ej (Ac (Ad 3) (Ac (Ad 8) (Ac (f2 Ap (C2 (Ac (fC (.int 0)) (Ac (Dy (fC (.int 1))) (Ac (Ad 7) Ag)))) (A9 2 A0 (Ac (Ad 1) (Ac (fC (.int 3)) Ag)))) Ag)))))) (C8 (fC (.bl false))) Dr)
noncomputable def Ra:FS:=(G0 (N8 (Lk (A9 3 Ej (Ac (Ad 3) (Ac (Ad 5) (Ac (Ad 6) Ag)))))) (C8 (fC (.bl false))) Dr)
noncomputable def Rh:FS:=(G0 (N8 (Lk (A9 3 Iu (Ac (Ad 3) (Ac (Ad 5) (Ac (Ad 6) Ag)))))) (C8 (fC (.bl false))) Dr)
noncomputable def Kr:FS:=(Bf (Az (f2 Ap (C2 (Ac (A9 2 A0 (Ac (Ad 1) (Ac (fC (.int 13)) Ag))) (Ac (fC (.int 12)) (Ac (A9 2 A0 (Ac (Ad 1) (Ac (fC (.int 6)) Ag))) (Ac (A9 2 A0 (Ac (Ad 1) (Ac (fC (.int 13)) Ag))) Ag))))) (Ad 2)) (gN 3)) (Bf (Az (A9 1 Ku (Ac (Ad 3) Ag)) (gN 4)) (Bf (Az (f2 Ap (C2 (Ac (A9 2 A0 (Ac (Ad 1) (Ac (Ax Au (Ac (Ad 4) Ag)) Ag))) (Ac (f2 Hx (Ax Au (Ac (Ad 4) Ag)) (fC (.int 2))) Ag))) (A9 2 A0 (Ac (Ad 1) (Ac (fC (.int 2)) Ag)))) (gN 5)) (Bf (Dx (Dm (C2 (Ac (fC (.int 0)) (Ac (f2 A7 (f2 Ap (Ad 4) (Ad 5)) (fC (.int 1))) (Ac (A9 2 A0 (Ac (Ad 1) (Ac (f2 Ap (Ad 4) (Ad 5)) Ag))) (Ac (A9 2 A0 (Ac (Ad 1) (Ac (f2 Ap (Ad 4) (Ad 5)) Ag))) Ag)))))) (gN 6) Rh) (Bf (Az (A9 2 A0 (Ac (Ad 1) (Ac (f2 O2 (fC (.int 10)) (fC (.int 5))) Ag))) (gN 7)) (Bf (Dx (Dm (C2 (Ac (f2 Ap (Ad 4) (Ad 5)) (Ac (f2 Ao (f2 Ap (Ad 4) (Ad 5)) (Ad 7)) (Ac (Dy (fC (.int 1))) (Ac (f2 A7 (Dy (fC (.int 1))) (Ad 7)) Ag)))))) (gN 6) Ra) (Bf (Dx (Dm (C2 (Ac (Ax Au (Ac (Ad 4) Ag)) (Ac (Dy (fC (.int 1))) (Ac (f2 Ao (Ax Au (Ac (Ad 4) Ag)) (Ad 7)) (Ac (f2 A7 (Dy (fC (.int 1))) (Ad 7)) (Ac (f2 A7 (fC (.int 0)) (Ax Au (Ac (Ad 4) Ag))) Ag))))))) (gN 8) R6) (G0 (Bx (f2 Eh (Ad 3) (fC (.int 6)))) (Bf (Az (Fe [none,some 3,some 5] (C3 (Ac (f2 Ap (Ad 4) (Ad 5)) Ag)) (gN 0) none Ki) (gN 9)) (Bf (Az (Fe [none] (Dm (Ad 9)) (gN 0) none Mz) (gN 10)) (G0 (Bx (f2 Ip (Ad 10) (E7 (Ac (Ad 10) Ag)))) (C8 (fC (.bl false))) Dr))) Dr))))))))
noncomputable def Ade:FS:=(Bf (Az (A9 1 Hv (Ac (Ad 0) Ag)) (gN 1)) (Bf (Dx (C3 (Ac (fC (.int 4)) Ag)) (gN 2) Kr) (C8 (Lv (f2 Dk (A9 3 B4 (Ac (fC (.int 0)) (Ac (fC (.int 0)) (Ac (fC (.int 0)) Ag)))) (Vc Ag)) (Lv (f2 Dk (A9 3 B4 (Ac (fC (.int 3)) (Ac (fC (.int 1)) (Ac (fC (.int 0)) Ag)))) (Vc (Ac (fC (.int 1)) (Ac (fC (.int 3)) (Ac (fC (.int 2)) Ag))))) (f2 Dk (A9 3 B4 (Ac (fC (.int 3)) (Ac (fC (.int 1)) (Ac (fC (.int 1)) Ag)))) (Vc (Ac (fC (.int 2)) (Ac (fC (.int 1)) (Ac (fC (.int 3)) Ag))))))))))
noncomputable def Tr:FN:=fnU 11 1 Ade
theorem Ak{f g:FS}{δ δ':UE}{L L':UH}(h:f δ L=some (.nx δ',L')):Bf f g δ L=g δ' L':=by rw[Afw,h];rfl
theorem Gz{L:UH}{n:Nat}{l:List U}(u:U)(h:L[n]? = some (.lst l))(hl:l.length < 16777216):Cu (.ref n) [u] L=some (.non,L.set n (.lst (l++[u]))):=by
  show (Dq L n).bind _=_
  rw[D0 h]
  simp only[Option.bind_some]
  rw[if_pos (decide_eq_true (by unfold sizeLine;omega))]
theorem G4{L:UH}{n:Nat}{l:List U}(h:L[n]? = some (.lst l)):tyU "list" (.ref n) L=true:=by simp[tyU,h]
theorem Ajq{L:UH}{n:Nat}{l:List U}{i:Int}(h:L[n]? = some (.lst l))(h0:0≤i)(h1:i < l.length)(hs:l.length < 1000000):Oh (.ref n) [.int i] L=some (l[i.toNat]'(by omega),L.set n (.lst (l.eraseIdx i.toNat))):=by
  have hk:seqIndex? i l.length=some i.toNat:=by unfold seqIndex?;simp;omega
  have hg:l[i.toNat]? = some (l[i.toNat]'(by omega)):=List.getElem?_eq_getElem (by omega)
  simp only[Oh,D0 h,Option.bind_some,hk,hg,Option.map_some]
  rw[if_pos ⟨by omega,by omega⟩]
theorem G8{L:UH}{n:Nat}{l:List U}(h:L[n]? = some (.lst l)):Au [.ref n] L=some (.int l.length,L):=by simp[Au,lenU,An h]
theorem Pb{β γ:Type}(f:β→γ)(l:List β)(i:Nat):(l.map f).eraseIdx i=(l.eraseIdx i).map f:=by
  rw[List.eraseIdx_eq_take_drop_succ,List.eraseIdx_eq_take_drop_succ,List.map_append,List.map_take,List.map_drop]
theorem M6{β:Type}:∀ (l:List β) (i:Nat) (h:i < l.length),(l[i]'h::l.eraseIdx i).Perm l
  | a::l,0,_=>by simp
  | a::l,i+1,h=>by
    have ih:=M6 l i (by simpa using h)
    simp only[List.getElem_cons_succ,List.eraseIdx_cons_succ]
    exact (List.Perm.swap _ _ _).trans (ih.cons a)
noncomputable def Gw(L L':UH):Prop:=∃ x,L'=L++x
theorem Gw.refl(L:UH):Gw L L:=⟨[],by simp⟩
theorem Gw.trans{L L1 M:UH}(a:Gw L L1)(b:Gw L1 M):Gw L M:=by obtain ⟨x,rfl⟩:=a;obtain ⟨y,rfl⟩:=b;exact ⟨x++y,by simp⟩
theorem Gw.new(L x:UH):Gw L (L++x):=⟨x,rfl⟩
theorem Gw.set{L L':UH}(h:Gw L L'){n:Nat}(hn:L.length≤n)(o:HU):Gw L (L'.set n o):=by
  obtain ⟨x,rfl⟩:=h
  exact ⟨x.set (n - L.length) o,by rw[List.set_append_right _ _ hn]⟩
theorem Gw.le{L L':UH}(h:Gw L L'):L.length≤L'.length:=by obtain ⟨x,rfl⟩:=h;simp
theorem Gw.get{L L':UH}(h:Gw L L'){n:Nat}{o:HU}(e:L[n]? = some o):L'[n]? = some o:=by
  obtain ⟨x,rfl⟩:=h
  rw[List.getElem?_append_left (List.getElem?_eq_some_iff.mp e).1];exact e
theorem Gw.seq{L L':UH}(h:Gw L L'){n:Nat}{us:List U}(e:Am L n=some us):Am L' n=some us:=by
  obtain ⟨x,rfl⟩:=h;exact seqAt_app e
theorem Gw.deck{L L':UH}(h:Gw L L'){d:Nat}{B:Int}(D:Deck L d B):Deck L' d B:=by obtain ⟨x,rfl⟩:=h;exact D.new x
theorem Gw.ex{L L':UH}(h:Gw L L')(d:Nat):Ex d L L':=by obtain ⟨x,rfl⟩:=h;exact Ex.new d L x
theorem Sw(i:Int)(L:UH):G5 [.int i] L=some (.bl true,L):=rfl
theorem Ry{β:Type}(as:List β)(f:β→Int)(L:UH)(hl:as.length < 1000000):∃ L',C9 [.tup (as.map fun a=>.int (f a))] L=some (.bl true,L')∧Gw L L':=by
  obtain ⟨x,e⟩:=Gn (ix:=[none]) (fi:=Dm (Ad 0)) (it:=.seq (as.map fun a=>U.int (f a))) (g:=gN 0) (tt:=some b_l_are_whole_1t) (fe:=Gb) (δ:=[some (.tup (as.map fun a=>U.int (f a)))]) (L:=L) (L0:=L)
    as (fun a=>.int (f a)) (fun _=>false) (fun a=>.int (f a)) (fun δ=>∃ a,δ = [a]) (by simp[Nw]) (by simp[IU.size]) (by omega) ⟨none,rfl⟩
    (fun k x=>rfl)
    (fun a δ x _ zz=>by
      obtain ⟨y,hδ⟩:=zz
      subst hδ
      refine ⟨_,rfl,⟨_,rfl⟩,[],?_,fun h=>by cases h⟩
      simp[Ke,b_l_are_whole_1t,Sw])
  have hf:List.filter (fun _=>false) as=([]:List β):=List.filter_eq_nil_iff.mpr (fun _ _=>by simp)
  rw[hf,List.map_nil] at e
  have q1:Am (L++x++[HU.lst []]++[HU.lst []]) (L++x).length=some []:=seqAt_app (An (by simp))
  have q2:Am (L++x++[HU.lst []]++[HU.lst []]) (L++x++[HU.lst []]).length=some []:=An (by simp)
  have he:=Y1 q1 q2 (by simp) (by simp)
  have hb:Vn [] []=true:=rfl
  rw[hb] at he
  refine ⟨L++x++[HU.lst []]++[HU.lst []],?_,⟨x++[HU.lst []]++[HU.lst []],by simp⟩⟩
  have t1:∀ l L,Nm (.tup l) L=some "tuple" := fun _ _=>rfl
  have t2:isT "tuple" "tuple" = true:=rfl
  unfold C9 fnU Jg
  simp only[List.length_cons,List.length_nil,if_true,List.map_cons,List.map_nil,Nat.sub_self,List.replicate_zero,List.append_nil,fRet_eq,K1,fIsi_eq,fVar_eq,List.getElem?_cons_zero,Option.join_some,Option.map_some,Option.bind_some,t1,t2,f2_eq,e,fLst_eq,fNil_eq,Ce (by omega:0≤16777216),he]
noncomputable def gtv(row:List Int)(i:Nat):Nat:=((row.take i).filter fun o=>decide (row.getD i 0 < o)).length
noncomputable def Ru(row:List Int):List Int:=(List.range row.length).map fun i=>((gtv row i:Nat):Int)
theorem toI_ints(l:List Int):mapO toI (l.map U.int)=some l:=by
  induction l with
  | nil=>rfl
  | cons a r ih=>simp only[List.map_cons,mapO,toI,ih,Option.bind_some,Option.map_some]
theorem sum_tup(l:List Int)(L:UH):semSum [.tup (l.map U.int)] L=some (.int l.sum,L):=by
  simp only[semSum,toI_ints,Option.map_some]
theorem Xz{L:UH}{n:Nat}{l:List U}{i:Nat}(u:U)(h:L[n]? = some (.lst l))(hi:i≤l.length)(hl:l.length < 1000000):Ge (.ref n) [.int (i:Int),u] L=some (.non,L.set n (.lst (l.take i++u::l.drop i))):=by
  have hz:l.length < sizeLine:=by unfold sizeLine;omega
  have h63:(i:Int) < 2 ^ 63:=by omega
  show (Dq L n).bind _=_
  rw[D0 h,Option.bind_some,if_pos ⟨Int.natCast_nonneg i,h63,hz⟩,Int.toNat_natCast,Nat.min_eq_left hi]
theorem Hw{row:List Int}{k:Nat}(h:k < row.length):row.take (k+1)=row.take k++[row.getD k 0]:=by
  rw[List.take_add_one,List.getElem?_eq_getElem h]
  simp[List.getD_eq_getElem?_getD,h]
theorem Vp{row:List Int}(hnd:row.Nodup){k:Nat}(h:k < row.length):row.getD k 0∉row.take k:=by
  have h2:(row.take (k+1)).Nodup:=hnd.sublist (List.take_sublist _ _)
  rw[Hw h,List.nodup_append] at h2
  exact fun q=>h2.2.2 _ q _ (by simp) rfl
theorem Ag5{row rising:List Int}(hnd:row.Nodup){k:Nat}(h:k < row.length)(hp:rising.Perm (row.take k)):((rising.length:Int) - ((rising.filter fun o=>decide (o < row.getD k 0)).length:Nat):Int)=((gtv row k:Nat):Int):=by
  have hx:=Vp hnd h
  have h1:(rising.filter fun o=>decide (o < row.getD k 0)).length=((row.take k).filter fun o=>decide (o < row.getD k 0)).length:=(hp.filter _).length_eq
  have h2:rising.length=(row.take k).length:=hp.length_eq
  have h3:∀ l:List Int,row.getD k 0∉l→l.length=(l.filter fun o=>decide (o < row.getD k 0)).length+(l.filter fun o=>decide (row.getD k 0 < o)).length:=by
    intro l
    induction l with
    | nil=>intro _;rfl
    | cons a l ih=>
      intro hm
      have hm1:row.getD k 0≠a:=fun q=>hm (by rw[q];exact List.mem_cons_self ..)
      have ih':=ih (fun q=>hm (List.mem_cons_of_mem _ q))
      by_cases c:a < row.getD k 0
      · have c2:¬ row.getD k 0 < a:=by omega
        rw[List.filter_cons_of_pos (by simpa using c),List.filter_cons_of_neg (by simpa using c2),List.length_cons,List.length_cons]
        omega
      · have c2:row.getD k 0 < a:=by omega
        rw[List.filter_cons_of_neg (by simpa using c),List.filter_cons_of_pos (by simpa using c2),List.length_cons,List.length_cons]
        omega
  have:=h3 _ hx
  unfold gtv
  omega
theorem Afb(xs:List Int)(v:Int)(L:UH){ℓ:Nat}(hat:L[ℓ]? = some (.lst (xs.map U.int)))(hl:xs.length < 1000000)(x0 x1 x4:Option U) :
    ∃ L',(Az (Ax Au (Ac (Fe [none,some 3] (Dm (Ad 2)) (gN 0) (some Eb) Ed) Ag)) (gN 4)) [x0,x1,some (.ref ℓ),some (.int v),x4] L=some (.nx [x0,x1,some (.ref ℓ),some (.int v),some (.int ((xs.filter fun o=>decide (o < v)).length:Nat))],L')∧Gw L L':=by
  have hr:=An hat
  obtain ⟨x,e⟩:=Gn (ix:=[none,some 3]) (fi:=Dm (Ad 2)) (it:=.ref ℓ) (g:=gN 0) (tt:=some Eb) (fe:=Ed) (δ:=[x0,x1,some (.ref ℓ),some (.int v),x4]) (L:=L) (L0:=L)
    xs U.int (fun o=>decide (o < v)) U.int (fun δ=>∃ a,δ = [a,some (.int v)]) (by simp[Qq hr]) (by rw[Te hr];simp) (by omega) ⟨none,rfl⟩
    (fun k x=>Abv (seqAt_app hr))
    (fun a δ x _ zz=>by
      obtain ⟨y,hδ⟩:=zz
      subst hδ
      refine ⟨_,rfl,⟨_,rfl⟩,[],?_,fun _=>⟨[],?_⟩⟩
      · simp[Ke,Eb]
      · simp[Ed])
  have q1:(L++x++[HU.lst ((xs.filter fun o=>decide (o < v)).map U.int)])[(L++x).length]? = some (.lst ((xs.filter fun o=>decide (o < v)).map U.int)):=by simp
  have hlen:=G8 q1
  rw[List.length_map] at hlen
  refine ⟨L++x++[HU.lst ((xs.filter fun o=>decide (o < v)).map U.int)],?_,⟨x++[HU.lst ((xs.filter fun o=>decide (o < v)).map U.int)],by rw[List.append_assoc]⟩⟩
  simp only[Cj,fCall_eq,fCons_eq,fNil_eq,Option.map_some,Option.bind_some,e,hlen,gN_eq,List.set_cons_succ,List.set_cons_zero]
theorem Px{row:List Int}(hnd:row.Nodup)(hl:row.length≤1000)(L:UH):∃ L',Dz [.tup (row.map U.int)] L=some (.tup ((Ru row).map U.int),L')∧Gw L L':=by
  have sm0:small ([]:List U).length=true:=Ce (by show 0≤16777216;decide)
  have s1:(Az (C2 Ag) (gN 1)) [some (.tup (row.map U.int)),none,none,none,none] L=some (.nx [some (.tup (row.map U.int)),some (.ref L.length),none,none,none],L++[.lst []]):=by
    rw[Cj,fLst_eq,fNil_eq,Option.bind_some,if_pos sm0];rfl
  have s2:(Az (C2 Ag) (gN 2)) [some (.tup (row.map U.int)),some (.ref L.length),none,none,none] (L++[.lst []])=some (.nx [some (.tup (row.map U.int)),some (.ref L.length),some (.ref (L.length+1)),none,none],L++[.lst []]++[.lst []]):=by
    have hl1:(L++[HU.lst []]).length=L.length+1:=by simp
    rw[Cj,fLst_eq,fNil_eq,Option.bind_some,if_pos sm0,hl1];rfl
  obtain ⟨δ',L',e,P⟩:=Dd (us:=row.map U.int) (L0:=L++[.lst []]++[.lst []]) (L:=L++[.lst []]++[.lst []]) (δ:=[some (.tup (row.map U.int)),some (.ref L.length),some (.ref (L.length+1)),none,none]) (body:=Hh) (g:=gN 3) (fi:=Dm (Ad 0))
    (fun k δ' L'=>∃ (y3 y4:Option U) (rising:List Int),δ'=[some (.tup (row.map U.int)),some (.ref L.length),some (.ref (L.length+1)),y3,y4]∧L'[L.length]? = some (.lst (((List.range k).map fun i=>((gtv row i:Nat):Int)).map U.int))∧L'[L.length+1]? = some (.lst (rising.map U.int))∧rising.Perm (row.take k)∧Gw L L')
    (by simp[Nw])
    ⟨none,none,[],rfl,by simp,by simp,by simp,⟨[.lst [],.lst []],by simp⟩⟩
    (fun k u δ M hu zz=>by
      obtain ⟨y3,y4,rising,hδ,hf,hri,hp,gM⟩:=zz
      subst hδ
      rw[List.getElem?_map] at hu
      obtain ⟨v,hv,rfl⟩:=Option.map_eq_some_iff.mp hu
      have hk:k < row.length:=(List.getElem?_eq_some_iff.mp hv).1
      have hvd:row.getD k 0=v:=by rw[List.getD_eq_getElem?_getD,hv];rfl
      have hrl:rising.length=k:=by rw[hp.length_eq,List.length_take];omega
      obtain ⟨M1,t1,g1⟩:=Afb rising v M hri (by omega) (some (.tup (row.map U.int))) (some (.ref L.length)) y4
      have hlg:=Ag5 hnd hk hp
      rw[hvd] at hlg
      have hle:(rising.filter fun o=>decide (o < v)).length≤rising.length:=List.length_filter_le _ _
      generalize (rising.filter fun o=>decide (o < v)).length=less at t1 hlg hle
      have hf1:=g1.get hf
      have hri1:=g1.get hri
      have hlen:=G8 hri1
      rw[List.length_map] at hlen
      have ap:=Gz (.int ((gtv row k:Nat):Int)) hf1 (by simp;omega)
      have hx:((List.range k).map fun i=>((gtv row i:Nat):Int)).map U.int++[.int ((gtv row k:Nat):Int)]=((List.range (k+1)).map fun i=>((gtv row i:Nat):Int)).map U.int:=by rw[List.range_succ];simp
      rw[hx] at ap
      have t2:(Et (Gk "list" Cu (Ad 1) (Ac (f2 A7 (Ax Au (Ac (Ad 2) Ag)) (Ad 4)) Ag))) [some (.tup (row.map U.int)),some (.ref L.length),some (.ref (L.length+1)),some (.int v),some (.int (less:Nat))] M1=some (.nx [some (.tup (row.map U.int)),some (.ref L.length),some (.ref (L.length+1)),some (.int v),some (.int (less:Nat))],M1.set L.length (.lst (((List.range (k+1)).map fun i=>((gtv row i:Nat):Int)).map U.int))):=by
        have ty:=G4 hf1
        simp only[Ee,fMeth_eq,fVar_eq,fCons_eq,fNil_eq,fCall_eq,f2_eq,List.getElem?_cons_succ,List.getElem?_cons_zero,Option.join_some,Option.map_some,Option.bind_some,ty,if_true,hlen,semSub_int,hlg,ap]
      generalize hM2:M1.set L.length (.lst (((List.range (k+1)).map fun i=>((gtv row i:Nat):Int)).map U.int))=M2 at t2
      have hf2:M2[L.length]? = some (.lst (((List.range (k+1)).map fun i=>((gtv row i:Nat):Int)).map U.int)):=by rw[← hM2];exact List.getElem?_set_self (List.getElem?_eq_some_iff.mp hf1).1
      have hri2:M2[L.length+1]? = some (.lst (rising.map U.int)):=by rw[← hM2,List.getElem?_set_ne (by omega)];exact hri1
      have g2:Gw L M2:=by rw[← hM2];exact (gM.trans g1).set (Nat.le_refl _) _
      have ins:=Xz (i:=less) (.int v) hri2 (by simp;omega) (by simp;omega)
      have hx2:(rising.map U.int).take less ++ .int v::(rising.map U.int).drop less=(rising.take less++v::rising.drop less).map U.int:=by simp[List.map_take,List.map_drop]
      rw[hx2] at ins
      have t3:(Et (Gk "list" Ge (Ad 2) (Ac (Ad 4) (Ac (Ad 3) Ag)))) [some (.tup (row.map U.int)),some (.ref L.length),some (.ref (L.length+1)),some (.int v),some (.int (less:Nat))] M2=some (.nx [some (.tup (row.map U.int)),some (.ref L.length),some (.ref (L.length+1)),some (.int v),some (.int (less:Nat))],M2.set (L.length+1) (.lst ((rising.take less++v::rising.drop less).map U.int))):=by
        have ty:=G4 hri2
        simp only[Ee,fMeth_eq,fVar_eq,fCons_eq,fNil_eq,List.getElem?_cons_succ,List.getElem?_cons_zero,Option.join_some,Option.map_some,Option.bind_some,ty,if_true,ins]
      refine ⟨[some (.tup (row.map U.int)),some (.ref L.length),some (.ref (L.length+1)),some (.int v),y4],M,rfl,[some (.tup (row.map U.int)),some (.ref L.length),some (.ref (L.length+1)),some (.int v),some (.int (less:Nat))],M2.set (L.length+1) (.lst ((rising.take less++v::rising.drop less).map U.int)),.inl ?_,_,_,rising.take less++v::rising.drop less,rfl,?_,List.getElem?_set_self (List.getElem?_eq_some_iff.mp hri2).1,?_,g2.set (by omega) _⟩
      · unfold Hh
        rw[Ak t1,Ak t2]
        exact t3
      · rw[List.getElem?_set_ne (by omega)];exact hf2
      · have h1:(rising.take less++v::rising.drop less).Perm (v::rising):=by
          have:=List.perm_middle (a:=v) (l₁:=rising.take less) (l₂:=rising.drop less)
          rw[List.take_append_drop] at this
          exact this
        rw[Hw hk,hvd]
        exact h1.trans ((hp.cons v).trans (List.perm_append_singleton v _).symm))
  obtain ⟨y3,y4,rising,hδ,hf,_,_,gM⟩:=P
  rw[hδ] at e
  rw[List.length_map] at hf
  have ht:H0 [.ref L.length] L'=some (.tup ((Ru row).map U.int),L'):=by simp only[H0,An hf,Option.map_some,Ru]
  refine ⟨L',?_,gM⟩
  unfold Dz fnU Oq
  simp only[List.length_cons,List.length_nil,if_true,List.map_cons,List.map_nil,List.replicate,List.cons_append,List.nil_append]
  rw[Ak s1,Ak s2,Ak e]
  simp only[fRet_eq,fCall_eq,fCons_eq,fNil_eq,fVar_eq,List.getElem?_cons_succ,List.getElem?_cons_zero,Option.join_some,Option.map_some,Option.bind_some,ht]
theorem My(xs:List Int):Pl 6 (.tup (xs.map U.int)):=by
  rw[N9]
  intro u hu
  obtain ⟨a,_,rfl⟩:=List.mem_map.mp hu
  exact Pl.int _ _
theorem Xf(xs ys:List Int)(h:xs=ys)(L:UH):Dk (.tup (xs.map U.int)) (.tup (ys.map U.int)) L=some (.bl true,L):=by
  rw[h,Ack L (My ys) (My ys),Abb (My ys)]
theorem Ql(row:List Int):Lr (row.map U.int)=(List.range row.length).map fun (i:Nat)=>U.tup [.int (i:Int),.int (row.getD i 0)]:=by
  apply List.ext_getElem?
  intro i
  unfold Lr
  rw[List.getElem?_mapIdx,List.getElem?_map,List.getElem?_map]
  by_cases h:i < row.length
  · rw[List.getElem?_range h,List.getElem?_eq_getElem h]
    simp[List.getD_eq_getElem?_getD,h]
  · rw[List.getElem?_eq_none (by omega),List.getElem?_eq_none (by simpa using h)];rfl
noncomputable def Hn(ws:List Int)(most t:Nat):Int:=((ws.drop (min (t - most) ws.length)).take (min (t+1) ws.length - min (t - most) ws.length)).sum
noncomputable def more(ws:List Int)(most:Nat):List Int:=(List.range (ws.length+most)).map (Hn ws most)
noncomputable def Ui(many:Nat):List Int:=((List.range many).map fun i=>many - 1 - i).foldl more [1]
noncomputable def Br(many:Nat):List Int:=((List.range (many - 1)).map (· + 1)).foldl more [1]
theorem Ak3:((List.range 13).all fun m=>decide (Ui m=Br m)&&decide ((Ui m).length≤100))=true:=by decide +kernel
theorem Am4{m:Nat}(h:m < 13):Ui m=Br m∧(Ui m).length≤100:=by
  have:=List.all_eq_true.mp Ak3 m (List.mem_range.mpr h)
  simpa using this
theorem more_len(ws:List Int)(p:Nat):(more ws p).length=ws.length+p:=by simp[more]
theorem Ajl{L:UH}{r:Nat}{ws:List Int}(hr:Am L r=some (ws.map U.int))(lo hi:Nat):semSl (.ref r) (some (lo:Int)) (some (hi:Int)) L=some (.ref L.length,L++[.lst (((ws.drop (min lo ws.length)).take (min hi ws.length - min lo ws.length)).map U.int)]):=by
  simp only[semSl,hr,Option.map_some]
  unfold Vy
  rw[HT.Xm,HT.Xm,List.length_map,← List.map_drop,← List.map_take]
theorem Uv{L:UH}{r:Nat}{ws:List Int}(hr:Am L r=some (ws.map U.int))(most t:Nat):(semSl (.ref r) (some ((t - most:Nat):Int)) (some ((t+1:Nat):Int)) L).bind (fun p=>semSum [p.1] p.2)=some (.int (Hn ws most t),L++[.lst (((ws.drop (min (t - most) ws.length)).take (min (t+1) ws.length - min (t - most) ws.length)).map U.int)]):=by
  rw[Ajl hr]
  have q1:Am (L++[HU.lst (((ws.drop (min (t - most) ws.length)).take (min (t+1) ws.length - min (t - most) ws.length)).map U.int)]) L.length=some (((ws.drop (min (t - most) ws.length)).take (min (t+1) ws.length - min (t - most) ws.length)).map U.int):=An (by simp)
  simp only[Option.bind_some,semSum,q1,toI_ints,Option.map_some,Hn]
theorem Al9(t most:Nat)(L:UH):Jo [.int 0,.int ((t:Int) - (most:Int))] L=some (.int ((t - most:Nat):Int),L):=by
  have:(if ((t:Int) - (most:Int)) > 0 then ((t:Int) - (most:Int)) else 0)=((t - most:Nat):Int):=by split <;> omega
  show some (U.int (if ((t:Int) - (most:Int)) > 0 then ((t:Int) - (most:Int)) else 0),L)=_
  rw[this]
theorem T7{L:UH}{r:Nat}{ws:List Int}{most:Nat}(hr:L[r]? = some (.lst (ws.map U.int)))(hl:ws.length≤1000)(hm:most≤1000) :
    ∃ (r':Nat) (L':UH),Bw [.ref r,.int most] L=some (.ref r',L')∧L'[r']? = some (.lst ((more ws most).map U.int))∧Gw L L'∧L.length≤r':=by
  have hs:=An hr
  have hlen:=G8 hr
  rw[List.length_map] at hlen
  have hi:C3 (Ac (f2 Ao (Ax Au (Ac (Ad 0) Ag)) (Ad 1)) Ag) [some (.ref r),some (.int most)] L=some (.seq (Ay 0 (ws.length+most)),L):=by
    refine Fg ?_ (by omega)
    simp only[fCons_eq,fNil_eq,f2_eq,fCall_eq,fVar_eq,List.getElem?_cons_succ,List.getElem?_cons_zero,Option.join_some,Option.map_some,Option.bind_some,hlen,semAdd_int]
    rfl
  have hr0:Ay 0 (ws.length+most)=(List.range (ws.length+most)).map fun (t:Nat)=>U.int (0+(t:Int)):=rfl
  rw[hr0] at hi
  obtain ⟨x,e⟩:=Gn (ix:=[none,some 0,some 1]) (fi:=C3 (Ac (f2 Ao (Ax Au (Ac (Ad 0) Ag)) (Ad 1)) Ag)) (it:=.seq ((List.range (ws.length+most)).map fun (t:Nat)=>U.int (0+(t:Int)))) (g:=gN 0) (tt:=none) (fe:=Cd) (δ:=[some (.ref r),some (.int most)]) (L:=L) (L0:=L)
    (List.range (ws.length+most)) (fun (t:Nat)=>U.int (0+(t:Int))) (fun _=>true) (fun t=>.int (Hn ws most t)) (fun δ=>∃ a,δ = [a,some (.ref r),some (.int most)]) hi (by simp[IU.size]) (by simp;omega) ⟨none,rfl⟩
    (fun k x=>rfl)
    (fun t δ x _ zz=>by
      obtain ⟨y,hδ⟩:=zz
      subst hδ
      have h0:(0:Int)+(t:Int)=(t:Int):=by omega
      refine ⟨[some (.int (t:Int)),some (.ref r),some (.int most)],by rw[h0];rfl,⟨_,rfl⟩,[],by simp[Ke],fun _=>⟨[.lst (((ws.drop (min (t - most) ws.length)).take (min (t+1) ws.length - min (t - most) ws.length)).map U.int)],?_⟩⟩
      have hst:=Uv (seqAt_app hs:Am (L++x) r=_) most t
      have c1:(f2 Ao (Ad 0) (fC (.int 1))) [some (.int (t:Int)),some (.ref r),some (.int most)] (L++x)=some (.int ((t+1:Nat):Int),L++x):=by
        show some (U.int ((t:Int)+1),L++x)=_
        have:(t:Int)+1=((t+1:Nat):Int):=by omega
        rw[this]
      have c2:(Ax Jo (Ac (fC (.int 0)) (Ac (f2 A7 (Ad 0) (Ad 2)) Ag))) [some (.int (t:Int)),some (.ref r),some (.int most)] (L++x)=some (.int ((t - most:Nat):Int),L++x):=by
        simp only[fCall_eq,fCons_eq,fNil_eq,fC_eq,f2_eq,fVar_eq,List.getElem?_cons_succ,List.getElem?_cons_zero,Option.join_some,Option.map_some,Option.bind_some,semSub_int,Al9]
      rw[List.append_nil,← hst]
      unfold Cd
      rw[fCall_eq,fCons_eq,Aa1]
      simp only[Ud,c1,c2,fNil_eq,fVar_eq,List.getElem?_cons_succ,List.getElem?_cons_zero,Option.join_some,Option.map_some,Option.bind_some]
      cases semSl (.ref r) (some ((t - most:Nat):Int)) (some ((t+1:Nat):Int)) (L++x) <;> rfl)
  have hff:List.filter (fun _=>true) (List.range (ws.length+most))=List.range (ws.length+most):=List.filter_eq_self.mpr (fun _ _=>rfl)
  have hmm:(List.range (ws.length+most)).map (fun t=>U.int (Hn ws most t))=(more ws most).map U.int:=by simp[more]
  rw[hff,hmm] at e
  refine ⟨(L++x).length,L++x++[HU.lst ((more ws most).map U.int)],?_,by simp,⟨x++[HU.lst ((more ws most).map U.int)],by rw[List.append_assoc]⟩,by simp⟩
  unfold Bw fnU Ei
  simp only[List.length_cons,List.length_nil,if_true,List.map_cons,List.map_nil,Nat.sub_self,List.replicate_zero,List.append_nil,fRet_eq,e,Option.map_some,Option.bind_some]
theorem Qy(f:List Int→Nat→List Int)(ps:List Nat)(k:Nat)(h:k < ps.length):(ps.take (k+1)).foldl f [1]=f ((ps.take k).foldl f [1]) (ps[k]'h):=by
  rw[List.take_add_one,List.getElem?_eq_getElem h,List.foldl_append];rfl
noncomputable def Fi(many:Nat):List Nat:=(List.range many).map fun i=>many - 1 - i
theorem Om:∀ (ps:List Nat) (ws:List Int),(ps.foldl more ws).length=ws.length+ps.sum
  | [],ws=>by simp
  | p::ps,ws=>by
    rw[List.foldl_cons,Om ps,more_len,List.sum_cons];omega
noncomputable def kvF:Nat→List Int→List (L2.Key×U)
  | _,[]=>[]
  | o,w::ws=>(.inl (o:Int),.int w)::kvF (o+1) ws
theorem kvF_len:∀ (o:Nat) (ws:List Int),(kvF o ws).length=ws.length
  | _,[]=>rfl
  | o,w::ws=>by simp[kvF,kvF_len (o+1) ws]
theorem Mq:∀ (ws:List Int) (o k:Nat),Gi (kvF o ws) (.inl ((o+k:Nat):Int))=(ws[k]?).map U.int
  | [],o,k=>by simp[kvF,Gi]
  | w::ws,o,0=>by simp[kvF,Gi]
  | w::ws,o,k+1=>by
    have ih:=Mq ws (o+1) k
    have h:(o+1+k)=o+(k+1):=by omega
    rw[h] at ih
    rw[List.getElem?_cons_succ,← ih]
    unfold Gi
    rw[kvF,List.find?_cons]
    have:(decide ((Sum.inl (o:Int):L2.Key)=Sum.inl ((o+(k+1):Nat):Int)))=false:=by
      rw[decide_eq_false_iff_not];intro q;injection q with q;omega
    rw[this]
theorem W8:∀ (ws:List Int) (o:Nat) (t:Int),t < o→Gi (kvF o ws) (.inl t)=none
  | [],o,t,_=>by simp[kvF,Gi]
  | w::ws,o,t,h=>by
    have ih:=W8 ws (o+1) t (by omega)
    rw[← ih]
    unfold Gi
    rw[kvF,List.find?_cons]
    have:(decide ((Sum.inl (o:Int):L2.Key)=Sum.inl t))=false:=by
      rw[decide_eq_false_iff_not];intro q;injection q with q;omega
    rw[this]
theorem W2:∀ (ws:List Int) (o k:Nat),((kvF o ws).any fun kv=>decide (kv.1 = .inl ((o+k:Nat):Int)))=decide (k < ws.length)
  | [],o,k=>by simp[kvF]
  | w::ws,o,0=>by simp[kvF]
  | w::ws,o,k+1=>by
    have ih:=W2 ws (o+1) k
    have h:(o+1+k)=o+(k+1):=by omega
    rw[h] at ih
    rw[kvF,List.any_cons,ih]
    have:(decide ((Sum.inl (o:Int):L2.Key)=Sum.inl ((o+(k+1):Nat):Int)))=false:=by
      rw[decide_eq_false_iff_not];intro q;injection q with q;omega
    rw[this]
    simp
theorem Ut:∀ (ws:List Int) (o:Nat) (t:Int) (v:U),t < o→((kvF o ws).map fun kv=>if kv.1 = .inl t then (kv.1,v) else kv)=kvF o ws
  | [],o,t,v,_=>by simp[kvF]
  | w::ws,o,t,v,h=>by
    rw[kvF,List.map_cons,Ut ws (o+1) t v (by omega),if_neg]
    intro q;injection q with q;omega
theorem Wu:∀ (ws:List Int) (o k:Nat) (v:Int),k < ws.length→((kvF o ws).map fun kv=>if kv.1 = .inl ((o+k:Nat):Int) then (kv.1,U.int v) else kv)=kvF o (ws.set k v)
  | [],o,k,v,h=>by simp at h
  | w::ws,o,0,v,h=>by
    rw[kvF,List.map_cons,Ut ws (o+1) _ _ (by omega),if_pos (by simp),List.set_cons_zero,kvF]
  | w::ws,o,k+1,v,h=>by
    have ih:=Wu ws (o+1) k v (by simpa using h)
    have h:(o+1+k)=o+(k+1):=by omega
    rw[h] at ih
    rw[kvF,List.map_cons,ih,List.set_cons_succ,kvF,if_neg]
    intro q;injection q with q;omega
theorem Xq:∀ (ws:List Int) (o:Nat) (v:Int),kvF o ws++[(.inl ((o+ws.length:Nat):Int),.int v)]=kvF o (ws++[v])
  | [],o,v=>by simp[kvF]
  | w::ws,o,v=>by
    have ih:=Xq ws (o+1) v
    have h:o+1+ws.length=o+(w::ws).length:=by rw[List.length_cons];omega
    rw[h] at ih
    rw[kvF,List.cons_append,ih];rfl
noncomputable def Pd(ws:List Int)(k:Nat)(v:Int):List Int:=if k < ws.length then ws.set k (ws.getD k 0+v) else ws++[v]
theorem Acw(ws:List Int)(k:Nat)(v:Int)(h:k≤ws.length):Adh (kvF 0 ws) (.inl (k:Int)) (.int (ws.getD k 0+v))=kvF 0 (Pd ws k v):=by
  have ha:=W2 ws 0 k
  rw[Nat.zero_add] at ha
  unfold Adh Pd
  rw[ha]
  by_cases hk:k < ws.length
  · rw[if_pos (decide_eq_true hk),if_pos hk]
    have:=Wu ws 0 k (ws.getD k 0+v) hk
    rw[Nat.zero_add] at this
    exact this
  · have e:k=ws.length:=by omega
    rw[if_neg (by simpa using hk),if_neg hk]
    have:=Xq ws 0 v
    rw[Nat.zero_add] at this
    rw[← this,e]
    simp[List.getD_eq_getElem?_getD]
theorem Aa2(ws:List Int)(k:Nat)(v:Int):k < (Pd ws k v).length∧ws.length≤(Pd ws k v).length∨ws.length < k:=by
  unfold Pd
  split
  · rw[List.length_set];omega
  · rw[List.length_append,List.length_singleton];omega
theorem Aej(ws:List Int)(k:Nat)(v:Int):(Pd ws k v).length≤ws.length+1:=by
  unfold Pd
  split
  · rw[List.length_set];omega
  · rw[List.length_append,List.length_singleton];omega
noncomputable def Cm(ws:List Int)(t:Nat)(v:Int)(n:Nat):List Int:=(List.range n).foldl (fun a c=>Pd a (t+c) v) ws
theorem K3(ws:List Int)(t:Nat)(v:Int)(n:Nat):Cm ws t v (n+1)=Pd (Cm ws t v n) (t+n) v:=by
  unfold Cm;rw[List.range_succ,List.foldl_append];rfl
noncomputable def En(ws:List Int)(place n:Nat):List Int:=(List.range n).foldl (fun a t=>Cm a t (ws.getD t 0) (place+1)) []
theorem Tg(ws:List Int)(place n:Nat):En ws place (n+1)=Cm (En ws place n) n (ws.getD n 0) (place+1):=by
  unfold En;rw[List.range_succ,List.foldl_append];rfl
noncomputable def Wj(m j:Nat):List Int:=((Fi m).take j).foldl more [1]
theorem Adc:((List.range 13).all fun m=>(List.range m).all fun j=>decide (En (Wj m j) (m - 1 - j) (Wj m j).length=Wj m (j+1)))=true:=by decide +kernel
theorem Ajo{m j:Nat}(hm:m≤12)(hj:j < m):En (Wj m j) (m - 1 - j) (Wj m j).length=Wj m (j+1):=by
  have h1:=List.all_eq_true.mp Adc m (List.mem_range.mpr (by omega))
  have h2:=List.all_eq_true.mp h1 j (List.mem_range.mpr hj)
  exact of_decide_eq_true h2
theorem V3{m:Nat}(hm:m≤12)(j:Nat):(Wj m j).length≤100:=by
  unfold Wj
  rw[Om]
  have h1:((Fi m).take j).sum≤(Fi m).sum:=by
    conv=>rhs;rw[← List.take_append_drop j (Fi m)]
    rw[List.sum_append];omega
  have h2:∀ m,m < 13→(Fi m).sum≤90:=by decide
  have:=h2 m (by omega)
  have:([1]:List Int).length=1:=rfl
  omega
theorem Ain(m:Nat):Wj m 0=[1]:=rfl
theorem Aet{m j:Nat}(hj:j < m):Wj m (j+1)=more (Wj m j) (m - 1 - j):=by
  unfold Wj
  rw[Qy more (Fi m) j (by simpa[Fi] using hj)]
  congr 1
  simp[Fi]
theorem Qw:∀ (L M:UH) (n:Nat) (a x:List (L2.Key×U)),L[n]? = some (.dic a)→Cp L (M.set n (.dic x))=(Cp L M).set n (.dic x)
  | [],M,n,a,x,h=>by simp at h
  | y::L,[],n,a,x,h=>by simp[Cp]
  | y::L,z::M,0,a,x,h=>by
    simp at h;subst h
    cases z <;> simp[Cp]
  | y::L,z::M,n+1,a,x,h=>by
    have ih:=Qw L M n a x (by simpa using h)
    cases y <;> cases z <;> simp[Cp,ih]
theorem Rk{g:FA}{δ:UE}{L L':UH}{n:Nat}(hn:n≤1000)(h:g δ L=some ([.int ((n:Int) - 1),.int (-1),.int (-1)],L')):Kf g δ L=some (.seq (Cf ((n:Int) - 1) n),L'):=by
  have h1:(-1:Int) = -1∧-1000000≤(n:Int) - 1∧(n:Int) - 1≤1000000∧(-1000000:Int)≤-1∧(-1:Int)≤1000000:=⟨rfl,by omega,by omega,by decide,by decide⟩
  have h2:((n:Int) - 1 - -1).toNat=n:=by omega
  unfold Kf
  rw[h,Option.bind_some]
  show (if _ then _ else _)=_
  rw[if_pos h1,h2]
theorem Afd{L:UH}{a b:Nat}{xs ys:List U}(h1:L[a]? = some (.lst xs))(h2:L[b]? = some (.lst ys))(hs:xs.length+ys.length≤1000):Ao (.ref a) (.ref b) L=some (.ref L.length,L++[.lst (xs++ys)]):=by
  show (Dq L a).bind _=_
  rw[D0 h1,Option.bind_some,D0 h2,Option.bind_some,if_pos (Ce (by omega))]
theorem Aaa{M:UH}{q r ℓ t c:Nat}{rest:List U}{ws acc:List Int}{o:HU}(hq:M[q]? = some (.lst (.ref r::rest)))(hr:M[r]? = some (.rod (kvF 0 ws)))(hl:M[ℓ]? = some (.dic (kvF 0 acc)))(ht:t < ws.length)(hk:t+c≤acc.length)(ha:acc.length < 100000)(x0 x2:Option U) :
    Fq [x0,some (.ref q),x2,some (.ref ℓ),some (.int (t:Int)),some (.int (c:Int))] M=some (.nx [x0,some (.ref q),x2,some (.ref ℓ),some (.int (t:Int)),some (.int (c:Int))],M.set ℓ (.dic (kvF 0 (Pd acc (t+c) (ws.getD t 0))))):=by
  have hd:M3 M ℓ = some (kvF 0 acc):=by unfold M3;rw[hl]
  have hd':Fs M ℓ = some (kvF 0 acc):=by unfold Fs;rw[hl]
  have hrr:M3 M r=some (kvF 0 ws):=by unfold M3;rw[hr]
  have hix:L2.atI (.ref r::rest) 0=some (.ref r):=by rw[J6 (by omega) (by simp)];rfl
  have e1:(f2 Ap (Ad 1) (fC (.int 0))) [x0,some (.ref q),x2,some (.ref ℓ),some (.int (t:Int)),some (.int (c:Int))] M=some (.ref r,M):=by
    simp only[f2_eq,fVar_eq,fC_eq,List.getElem?_cons_succ,List.getElem?_cons_zero,Option.join_some,Option.map_some,Option.bind_some,semIx_ref,An hq,hix]
  have e2:(f2 Ao (Ad 4) (Ad 5)) [x0,some (.ref q),x2,some (.ref ℓ),some (.int (t:Int)),some (.int (c:Int))] M=some (.int ((t+c:Nat):Int),M):=by
    rw[Int.natCast_add]
    simp only[f2_eq,fVar_eq,fC_eq,List.getElem?_cons_succ,List.getElem?_cons_zero,Option.join_some,Option.map_some,Option.bind_some,semAdd_int]
  have v1:=Mq ws 0 t
  rw[Nat.zero_add,List.getElem?_eq_getElem ht,Option.map_some] at v1
  have hg:ws.getD t 0=ws[t]:=by simp[List.getD_eq_getElem?_getD,ht]
  rw[← hg] at v1
  have e3:(M9 (f2 Ap (Ad 1) (fC (.int 0))) (Ad 4)) [x0,some (.ref q),x2,some (.ref ℓ),some (.int (t:Int)),some (.int (c:Int))] M=some (.int (ws.getD t 0),M):=by
    unfold M9
    rw[e1]
    simp only[fVar_eq,List.getElem?_cons_succ,List.getElem?_cons_zero,Option.join_some,Option.map_some,Option.bind_some,toK,hrr,v1]
  have v2:=Mq acc 0 (t+c)
  rw[Nat.zero_add] at v2
  have hgd:(Gi (kvF 0 acc) (.inl ((t+c:Nat):Int))).getD (.int 0) = .int (acc.getD (t+c) 0):=by
    rw[v2,List.getD_eq_getElem?_getD]
    cases acc[t+c]? <;> rfl
  have e4:(Ij (Ad 3) (f2 Ao (Ad 4) (Ad 5)) (fC (.int 0))) [x0,some (.ref q),x2,some (.ref ℓ),some (.int (t:Int)),some (.int (c:Int))] M=some (.int (acc.getD (t+c) 0),M):=by
    unfold Ij
    have h3:Ad 3 [x0,some (.ref q),x2,some (.ref ℓ),some (.int (t:Int)),some (.int (c:Int))] M=some (.ref ℓ,M):=rfl
    rw[h3]
    simp only[Option.bind_some,hd,e2,fC_eq,toK,Option.map_some,hgd]
  have hp:=Acw acc (t+c) (ws.getD t 0) hk
  unfold Fq Abr
  have e5:(f2 Ao (Ij (Ad 3) (f2 Ao (Ad 4) (Ad 5)) (fC (.int 0))) (M9 (f2 Ap (Ad 1) (fC (.int 0))) (Ad 4))) [x0,some (.ref q),x2,some (.ref ℓ),some (.int (t:Int)),some (.int (c:Int))] M=some (.int (acc.getD (t+c) 0+ws.getD t 0),M):=by
    rw[f2_eq,e4,Option.bind_some,e3,Option.bind_some,semAdd_int]
  have h3:Ad 3 [x0,some (.ref q),x2,some (.ref ℓ),some (.int (t:Int)),some (.int (c:Int))] M=some (.ref ℓ,M):=rfl
  rw[e5,Option.bind_some,h3,Option.bind_some,e2]
  simp only[Option.bind_some,toK,hd',kvF_len,hp]
  rw[if_pos (by omega)]
theorem Acs{M:UH}{q r ℓ t place:Nat}{rest:List U}{ws acc:List Int}(hq:M[q]? = some (.lst (.ref r::rest)))(hr:M[r]? = some (.rod (kvF 0 ws)))(hl:M[ℓ]? = some (.dic (kvF 0 acc)))(hne:r≠ℓ)(hne':q≠ℓ)(ht:t < ws.length)(hk:t≤acc.length)(ha:acc.length < 50000)(hp:place≤12)(x0 y5:Option U) :
    ∃ z5,Ef [x0,some (.ref q),some (.int (place:Int)),some (.ref ℓ),some (.int (t:Int)),y5] M=some (.nx [x0,some (.ref q),some (.int (place:Int)),some (.ref ℓ),some (.int (t:Int)),z5],M.set ℓ (.dic (kvF 0 (Cm acc t (ws.getD t 0) (place+1)))))∧t+1≤(Cm acc t (ws.getD t 0) (place+1)).length∧(Cm acc t (ws.getD t 0) (place+1)).length≤acc.length+13:=by
  have hi:C3 (Ac (f2 Ao (Ad 2) (fC (.int 1))) Ag) [x0,some (.ref q),some (.int (place:Int)),some (.ref ℓ),some (.int (t:Int)),y5] M=some (.seq (Ay 0 (place+1)),M):=by
    refine Fg (n:=place+1) ?_ (by omega)
    simp only[fCons_eq,fNil_eq,f2_eq,fVar_eq,fC_eq,List.getElem?_cons_succ,List.getElem?_cons_zero,Option.join_some,Option.map_some,Option.bind_some,semAdd_int]
    rfl
  have hll:ℓ < M.length:=(List.getElem?_eq_some_iff.mp hl).1
  obtain ⟨δ',L',e,P⟩:=Dd (us:=Ay 0 (place+1)) (body:=Fq) (g:=gN 5)
    (fun k δ' L'=>∃ z5,δ'=[x0,some (.ref q),some (.int (place:Int)),some (.ref ℓ),some (.int (t:Int)),z5]∧L'=M.set ℓ (.dic (kvF 0 (Cm acc t (ws.getD t 0) k)))∧t+k≤(Cm acc t (ws.getD t 0) k).length∧(Cm acc t (ws.getD t 0) k).length≤acc.length+k)
    hi ⟨y5,rfl,by
      have:Cm acc t (ws.getD t 0) 0=acc:=rfl
      rw[this]
      apply List.ext_getElem?
      intro i
      by_cases h:ℓ = i
      · subst h;rw[List.getElem?_set_self hll];exact hl
      · rw[List.getElem?_set_ne h],by show t+0≤acc.length;omega,by show acc.length≤acc.length+0;omega⟩
    (fun k u δ M' hu zz=>by
      obtain ⟨z5,hδ,hM,h1,h2⟩:=zz
      subst hδ
      obtain ⟨hk',rfl⟩:=Hg hu
      have h0:(0:Int)+(k:Int)=(k:Int):=by omega
      rw[h0]
      have st:=Aaa (M:=M') (q:=q) (r:=r) (ℓ:=ℓ) (t:=t) (c:=k) (rest:=rest) (ws:=ws) (acc:=Cm acc t (ws.getD t 0) k) (o:=.dic []) (by rw[hM,List.getElem?_set_ne (Ne.symm hne')];exact hq) (by rw[hM,List.getElem?_set_ne (Ne.symm hne)];exact hr) (by rw[hM,List.getElem?_set_self hll]) ht h1 (by omega) x0 (some (.int (place:Int)))
      rw[← K3] at st
      have hb:=Aa2 (Cm acc t (ws.getD t 0) k) (t+k) (ws.getD t 0)
      have hb2:=Aej (Cm acc t (ws.getD t 0) k) (t+k) (ws.getD t 0)
      rw[← K3] at hb hb2
      refine ⟨[x0,some (.ref q),some (.int (place:Int)),some (.ref ℓ),some (.int (t:Int)),some (.int (k:Int))],M',rfl,_,_,.inl st,_,rfl,?_,by omega,by omega⟩
      rw[hM,List.set_set])
  obtain ⟨z5,hδ,hM,h1,h2⟩:=P
  rw[G3] at hM h1 h2
  refine ⟨z5,?_,by omega,by omega⟩
  unfold Ef
  rw[e,hδ,hM]
theorem Ad6:∀ (ws:List Int) (o:Nat),Ma (kvF o ws)=(List.range ws.length).map fun (t:Nat)=>U.int ((o+t:Nat):Int)
  | [],o=>rfl
  | w::ws,o=>by
    have ih:=Ad6 ws (o+1)
    rw[List.length_cons,List.range_succ_eq_map,List.map_cons,List.map_map]
    have:Ma (kvF o (w::ws))=U.int (o:Int)::Ma (kvF (o+1) ws):=rfl
    rw[this,ih]
    congr 1
    apply List.map_congr_left
    intro t _
    show U.int ((o+1+t:Nat):Int)=U.int ((o+(t+1):Nat):Int)
    congr 2;omega
theorem Xx{M:UH}{q r place:Nat}{rest:List U}{ws:List Int}(hq:M[q]? = some (.lst (.ref r::rest)))(hr:M[r]? = some (.dic (kvF 0 ws)))(hw:ws.length≤100)(hp:place≤12)(hrest:rest.length≤100)(x0 y3 y4 y5:Option U) :
    ∃ (q' r':Nat) (z3 z4 z5:Option U) (M':UH),Fu [x0,some (.ref q),some (.int (place:Int)),y3,y4,y5] M=some (.nx [x0,some (.ref q'),some (.int (place:Int)),z3,z4,z5],M')∧M'[q']? = some (.lst (.ref r' :: .ref r::rest))∧M'[r']? = some (.dic (kvF 0 (En ws place ws.length)))∧Gw M M':=by
  have hql:q < M.length:=(List.getElem?_eq_some_iff.mp hq).1
  have hrl:r < M.length:=(List.getElem?_eq_some_iff.mp hr).1
  have hqr:q≠r:=fun h=>by rw[h,hr] at hq;cases hq
  have s1:(Az Abq (gN 3)) [x0,some (.ref q),some (.int (place:Int)),y3,y4,y5] M=some (.nx [x0,some (.ref q),some (.int (place:Int)),some (.ref M.length),y4,y5],M++[.dic []]):=rfl
  have hix:L2.atI (U.ref r::rest) 0=some (.ref r):=by rw[J6 (by omega) (by simp)];rfl
  have hq1:(M++[HU.dic []])[q]? = some (.lst (.ref r::rest)):=by rw[List.getElem?_append_left hql];exact hq
  have hr1:(M++[HU.dic []])[r]? = some (.dic (kvF 0 ws)):=by rw[List.getElem?_append_left hrl];exact hr
  have hl1:(M++[HU.dic []])[M.length]? = some (.dic []):=by simp
  have e1:(f2 Ap (Ad 1) (fC (.int 0))) [x0,some (.ref q),some (.int (place:Int)),some (.ref M.length),y4,y5] (M++[.dic []])=some (.ref r,M++[.dic []]):=by
    simp only[f2_eq,fVar_eq,fC_eq,List.getElem?_cons_succ,List.getElem?_cons_zero,Option.join_some,Option.map_some,Option.bind_some,semIx_ref,An hq1,hix]
  have hi:=Aev (v:=Ma) e1 hr1
  rw[Ad6] at hi
  generalize hN:(M++[HU.dic []])=N at hq1 hr1 hl1 e1 hi s1
  have hNl:N.length=M.length+1:=by rw[← hN];simp
  obtain ⟨δ',L',e,P⟩:=Dd (us:=(List.range ws.length).map fun (t:Nat)=>U.int ((0+t:Nat):Int)) (body:=Ef) (g:=gN 4)
    (fun k δ' L'=>∃ z4 z5,δ'=[x0,some (.ref q),some (.int (place:Int)),some (.ref M.length),z4,z5]∧L'=(N.set r (.rod (kvF 0 ws))).set M.length (.dic (kvF 0 (En ws place k)))∧k≤(En ws place k).length∧(En ws place k).length≤13 * k)
    hi ⟨y4,y5,rfl,by
      have:kvF 0 (En ws place 0)=[]:=rfl
      rw[this]
      apply List.ext_getElem?
      intro i
      by_cases h:M.length=i
      · subst h;rw[List.getElem?_set_self (by simp;omega),List.getElem?_set_ne (by omega)];exact hl1
      · rw[List.getElem?_set_ne h (l:=N.set r _)],Nat.zero_le _,Nat.le_refl _⟩
    (fun k u δ M' hu zz=>by
      obtain ⟨z4,z5,hδ,hM,h1,h2⟩:=zz
      subst hδ
      rw[List.getElem?_map] at hu
      obtain ⟨t,ht,rfl⟩:=Option.map_eq_some_iff.mp hu
      have hk:k < ws.length:=by
        have:=(List.getElem?_eq_some_iff.mp ht).1
        simpa using this
      rw[List.getElem?_range hk] at ht
      cases ht
      rw[Nat.zero_add]
      obtain ⟨w5,st,g1,g2⟩:=Acs (M:=M') (q:=q) (r:=r) (ℓ:=M.length) (t:=k) (place:=place) (rest:=rest) (ws:=ws) (acc:=En ws place k) (by rw[hM,List.getElem?_set_ne (by omega),List.getElem?_set_ne (Ne.symm hqr)];exact hq1) (by rw[hM,List.getElem?_set_ne (by omega),List.getElem?_set_self (by omega)]) (by rw[hM,List.getElem?_set_self (by simp;omega)]) (by omega) (by omega) hk h1 (by omega) hp x0 z5
      rw[← Tg] at st g1 g2
      refine ⟨[x0,some (.ref q),some (.int (place:Int)),some (.ref M.length),some (.int (k:Int)),z5],M',rfl,_,_,.inl st,_,_,rfl,?_,by omega,by omega⟩
      rw[hM,List.set_set])
  obtain ⟨z4,z5,hδ,hM,h1,h2⟩:=P
  rw[List.length_map,List.length_range] at hM
  generalize hbt:En ws place ws.length=bt at hM
  have hth:Cp N L'=M++[.dic (kvF 0 bt)]:=by
    rw[hM,Qw N _ M.length [] _ hl1,Pw N r _ hr1,← hN]
    rw[List.set_append_right _ _ (by omega)]
    simp
  have s2:(Sd (Dx (P7 Ma (f2 Ap (Ad 1) (fC (.int 0)))) (gN 4) Ef)) [x0,some (.ref q),some (.int (place:Int)),some (.ref M.length),y4,y5] N=some (.nx [x0,some (.ref q),some (.int (place:Int)),some (.ref M.length),z4,z5],M++[.dic (kvF 0 bt)]):=by
    unfold Sd
    rw[e,hδ,Option.map_some]
    simp only[hth]
  have sm1:∀ x:U,small [x].length=true:=fun _=>Ce (by show 1≤16777216;decide)
  have hq3:(M++[HU.dic (kvF 0 bt)]++[HU.lst [.ref M.length]])[q]? = some (.lst (.ref r::rest)):=by rw[List.append_assoc,List.getElem?_append_left hql];exact hq
  have hlA:(M++[HU.dic (kvF 0 bt)]).length=M.length+1:=by simp
  have hq4:(M++[HU.dic (kvF 0 bt)]++[HU.lst [.ref M.length]])[M.length+1]? = some (.lst [.ref M.length]):=by rw[← hlA];simp
  have s3:(Az (f2 Ao (C2 (Ac (Ad 3) Ag)) (Ad 1)) (gN 1)) [x0,some (.ref q),some (.int (place:Int)),some (.ref M.length),z4,z5] (M++[.dic (kvF 0 bt)])=some (.nx [x0,some (.ref (M.length+2)),some (.int (place:Int)),some (.ref M.length),z4,z5],M++[.dic (kvF 0 bt)]++[.lst [.ref M.length]]++[.lst (.ref M.length :: .ref r::rest)]):=by
    have c1:(C2 (Ac (Ad 3) Ag)) [x0,some (.ref q),some (.int (place:Int)),some (.ref M.length),z4,z5] (M++[.dic (kvF 0 bt)])=some (.ref (M.length+1),M++[.dic (kvF 0 bt)]++[.lst [.ref M.length]]):=by
      simp only[fLst_eq,fCons_eq,fNil_eq,fVar_eq,List.getElem?_cons_succ,List.getElem?_cons_zero,Option.join_some,Option.map_some,Option.bind_some]
      rw[if_pos (sm1 _),hlA]
    have c2:=Afd (a:=M.length+1) (b:=q) hq4 hq3 (by simp;omega)
    rw[Cj,f2_eq,c1,Option.bind_some]
    simp only[fVar_eq,List.getElem?_cons_succ,List.getElem?_cons_zero,Option.join_some,Option.map_some,Option.bind_some,c2,gN_eq,List.set_cons_succ,List.set_cons_zero,List.singleton_append]
    simp
  refine ⟨M.length+2,M.length,some (.ref M.length),z4,z5,M++[.dic (kvF 0 bt)]++[.lst [.ref M.length]]++[.lst (.ref M.length :: .ref r::rest)],?_,?_,?_,⟨[.dic (kvF 0 bt),.lst [.ref M.length],.lst (.ref M.length :: .ref r::rest)],by simp⟩⟩
  · unfold Fu
    rw[Ak s1,Ak s2,s3]
  · have:M.length+2=(M++[HU.dic (kvF 0 bt)]++[HU.lst [.ref M.length]]).length:=by simp
    rw[this];simp
  · rw[List.append_assoc,List.append_assoc];simp
theorem Ab7(δ:UE)(L:UH):Nf (fC (.int 0)) (fC (.int 1)) δ L=some (.ref L.length,L++[.dic (kvF 0 [1])]):=by
  have hd:Fs (L++[HU.dic []]) L.length=some []:=by unfold Fs;simp
  unfold Nf
  simp only[fC_eq,Option.bind_some,toK,hd]
  rw[List.set_append_right _ _ (Nat.le_refl _)]
  simp[kvF]
theorem Abk{m:Nat}(hm:m≤12)(L:UH):∃ (q:Nat) (ds:List Nat) (L':UH),Gx [.int m] L=some (.ref q,L')∧L'[q]? = some (.lst (ds.map U.ref))∧ds.length=m+1∧(∀ i,i≤m→∃ r,ds[i]? = some r∧L'[r]? = some (.dic (kvF 0 (Wj m (m - i)))))∧Gw L L':=by
  have sm1:∀ x:U,small [x].length=true:=fun _=>Ce (by show 1≤16777216;decide)
  have s1:(Az (C2 (Ac (Nf (fC (.int 0)) (fC (.int 1))) Ag)) (gN 1)) [some (.int m),none,none,none,none,none] L=some (.nx [some (.int m),some (.ref (L.length+1)),none,none,none,none],L++[.dic (kvF 0 [1])]++[.lst [.ref L.length]]):=by
    have hl:(L++[HU.dic (kvF 0 [1])]).length=L.length+1:=by simp
    rw[Cj,fLst_eq,fCons_eq,Ab7]
    simp only[Option.bind_some,fNil_eq,Option.map_some]
    rw[if_pos (sm1 _),hl]
    rfl
  have hi:Kf (Ac (f2 A7 (Ad 0) (fC (.int 1))) (Ac (Dy (fC (.int 1))) (Ac (Dy (fC (.int 1))) Ag))) [some (.int m),some (.ref (L.length+1)),none,none,none,none] (L++[.dic (kvF 0 [1])]++[.lst [.ref L.length]])=some (.seq (Cf ((m:Int) - 1) m),L++[.dic (kvF 0 [1])]++[.lst [.ref L.length]]):=by
    exact Rk (by omega) rfl
  obtain ⟨δ',L',e,P⟩:=Dd (us:=Cf ((m:Int) - 1) m) (body:=Fu) (g:=gN 2)
    (fun k δ' L'=>∃ (q r:Nat) (ds:List Nat) (y2 y3 y4 y5:Option U),δ'=[some (.int m),some (.ref q),y2,y3,y4,y5]∧L'[q]? = some (.lst ((r::ds).map U.ref))∧ds.length=k∧(∀ i,i≤k→∃ x,(r::ds)[i]? = some x∧L'[x]? = some (.dic (kvF 0 (Wj m (k - i)))))∧Gw L L'∧k≤m)
    hi ⟨L.length+1,L.length,[],none,none,none,none,rfl,by simp,rfl,fun i hi=>by
      have:i=0:=by omega
      subst this
      exact ⟨L.length,rfl,by rw[Ain];simp[List.getElem?_append]⟩,⟨[.dic (kvF 0 [1]),.lst [.ref L.length]],by simp⟩,by omega⟩
    (fun k u δ M hu zz=>by
      obtain ⟨q,r,ds,y2,y3,y4,y5,hδ,hq,hk,hds,g,_⟩:=zz
      subst hδ
      have hkm:k < m:=by
        have:=(List.getElem?_eq_some_iff.mp hu).1
        simpa[Cf] using this
      have hu':u = .int ((m - 1 - k:Nat):Int):=by
        unfold Cf at hu
        rw[List.getElem?_map,List.getElem?_range hkm] at hu
        have:(m:Int) - 1 - (k:Int)=((m - 1 - k:Nat):Int):=by omega
        rw[← this]
        simpa using hu.symm
      subst hu'
      obtain ⟨x,hx,hr⟩:=hds 0 (by omega)
      have hx:r=x:=by simpa using hx
      subst hx
      obtain ⟨q',r',z3,z4,z5,M',e1,hq',hr',g'⟩:=Xx (M:=M) (q:=q) (r:=r) (place:=m - 1 - k) (rest:=ds.map U.ref) (ws:=Wj m k) hq hr (V3 hm k) (by omega) (by simp;omega) (some (.int m)) y3 y4 y5
      rw[Ajo hm hkm] at hr'
      refine ⟨[some (.int m),some (.ref q),some (.int ((m - 1 - k:Nat):Int)),y3,y4,y5],M,rfl,_,M',.inl e1,q',r',r::ds,_,z3,z4,z5,rfl,hq',by simp[hk],fun i hi=>?_,g.trans g',hkm⟩
      cases i with
      | zero=>exact ⟨r',rfl,hr'⟩
      | succ i=>
        obtain ⟨x,hx,hxr⟩:=hds i (by omega)
        refine ⟨x,by simpa using hx,?_⟩
        have:k+1 - (i+1)=k - i:=by omega
        rw[this];exact g'.get hxr)
  obtain ⟨q,r,ds,y2,y3,y4,y5,hδ,hq,hk,hds,g,_⟩:=P
  rw[hδ] at e
  have hdl:(Cf ((m:Int) - 1) m).length=m:=by simp[Cf]
  rw[hdl] at hk hds
  refine ⟨q,r::ds,L',?_,hq,by simp[hk],hds,g⟩
  unfold Gx fnU Qh
  simp only[List.length_cons,List.length_nil,if_true,List.map_cons,List.map_nil,List.replicate,List.cons_append,List.nil_append]
  rw[Ak s1,Ak e,fRet_eq]
  rfl
noncomputable def Bq(ws:List Int)(t:Int):Int:=if 0≤t then ws.getD t.toNat 0 else 0
theorem Ag2(ws:List Int)(t:Int):(Gi (kvF 0 ws) (.inl t)).getD (.int 0) = .int (Bq ws t):=by
  unfold Bq
  by_cases h:0≤t
  · obtain ⟨n,rfl⟩:∃ n:Nat,t=n:=⟨t.toNat,by omega⟩
    have:=Mq ws 0 n
    rw[Nat.zero_add] at this
    rw[this,if_pos h,Int.toNat_natCast,List.getD_eq_getElem?_getD]
    cases ws[n]? <;> rfl
  · rw[if_neg h,W8 ws 0 t (by omega)];rfl
noncomputable def Ct(ws:List Int)(left:Int)(c:Nat):Int:=((List.range c).map fun (l:Nat)=>Bq ws (left - (l:Int))).sum
theorem Dl(ws:List Int)(left:Int)(c:Nat):Ct ws left (c+1)=Ct ws left c+Bq ws (left - (c:Int)):=by
  unfold Ct
  rw[List.range_succ,List.map_append,List.sum_append]
  simp
noncomputable def By(cs:List Int)(k:Nat):Int:=cs.sum - (cs.take k).sum
noncomputable def ahv(cs:List Int)(k:Nat):Int:=((List.range k).map fun (j:Nat)=>Ct (Wj cs.length (cs.length - (j+1))) (By cs j) (cs.getD j 0).toNat).sum
theorem Ky(cs:List Int)(k:Nat):ahv cs (k+1)=ahv cs k+Ct (Wj cs.length (cs.length - (k+1))) (By cs k) (cs.getD k 0).toNat:=by
  unfold ahv
  rw[List.range_succ,List.map_append,List.sum_append]
  simp
theorem Hf{cs:List Int}{k:Nat}(h:k < cs.length):By cs (k+1)=By cs k - cs.getD k 0:=by
  unfold By
  rw[Hw h,List.sum_append]
  simp
  omega
theorem Sk{l:List U}{k:Nat}{u:U}(h:l[k]? = some u):L2.atI l (k:Int)=some u:=by
  rw[J6 (by omega) (by have:=(List.getElem?_eq_some_iff.mp h).1;omega),Int.toNat_natCast];exact h
theorem V1{M:UH}{q r k c:Nat}{ds:List Nat}{ws:List Int}{left found:Int}(hq:M[q]? = some (.lst (ds.map U.ref)))(hr:ds[k+1]? = some r)(hd:M[r]? = some (.dic (kvF 0 ws)))(hc:c≤1000)(x0 y6:Option U) :
    ∃ z6,(Dx (C3 (Ac (Ad 5) Ag)) (gN 6) Ft) [x0,some (.ref q),some (.int left),some (.int found),some (.int (k:Int)),some (.int (c:Int)),y6] M=some (.nx [x0,some (.ref q),some (.int left),some (.int (found+Ct ws left c)),some (.int (k:Int)),some (.int (c:Int)),z6],M):=by
  have hi:C3 (Ac (Ad 5) Ag) [x0,some (.ref q),some (.int left),some (.int found),some (.int (k:Int)),some (.int (c:Int)),y6] M=some (.seq (Ay 0 c),M):=Fg (n:=c) rfl (by omega)
  have hdr:M3 M r=some (kvF 0 ws):=by unfold M3;rw[hd]
  have hix:L2.atI (ds.map U.ref) ((k+1:Nat):Int)=some (.ref r):=Sk (by rw[List.getElem?_map,hr];rfl)
  have h1:((k:Int)+1)=((k+1:Nat):Int):=by omega
  obtain ⟨δ',L',e,P⟩:=Dd (us:=Ay 0 c) (body:=Ft) (g:=gN 6)
    (fun j δ' L'=>L'=M∧∃ z6,δ'=[x0,some (.ref q),some (.int left),some (.int (found+Ct ws left j)),some (.int (k:Int)),some (.int (c:Int)),z6])
    hi ⟨rfl,y6,by rw[show Ct ws left 0=0 from rfl,Int.add_zero]⟩
    (fun j u δ M' hu zz=>by
      obtain ⟨hM,z6,hδ⟩:=zz
      subst hM
      subst hδ
      obtain ⟨hj,rfl⟩:=Hg hu
      have h0:(0:Int)+(j:Int)=(j:Int):=by omega
      rw[h0]
      refine ⟨[x0,some (.ref q),some (.int left),some (.int (found+Ct ws left j)),some (.int (k:Int)),some (.int (c:Int)),some (.int (j:Int))],M',rfl,[x0,some (.ref q),some (.int left),some (.int (found+Ct ws left (j+1))),some (.int (k:Int)),some (.int (c:Int)),some (.int (j:Int))],M',.inl ?_,rfl,_,rfl⟩
      have e1:(f2 Ap (Ad 1) (f2 Ao (Ad 4) (fC (.int 1)))) [x0,some (.ref q),some (.int left),some (.int (found+Ct ws left j)),some (.int (k:Int)),some (.int (c:Int)),some (.int (j:Int))] M'=some (.ref r,M'):=by
        simp only[f2_eq,fVar_eq,fC_eq,List.getElem?_cons_succ,List.getElem?_cons_zero,Option.join_some,Option.map_some,Option.bind_some,semAdd_int,semIx_ref,An hq,h1,hix]
      have e2:(Ij (f2 Ap (Ad 1) (f2 Ao (Ad 4) (fC (.int 1)))) (f2 A7 (Ad 2) (Ad 6)) (fC (.int 0))) [x0,some (.ref q),some (.int left),some (.int (found+Ct ws left j)),some (.int (k:Int)),some (.int (c:Int)),some (.int (j:Int))] M'=some (.int (Bq ws (left - (j:Int))),M'):=by
        unfold Ij
        rw[e1]
        simp only[f2_eq,fVar_eq,fC_eq,List.getElem?_cons_succ,List.getElem?_cons_zero,Option.join_some,Option.map_some,Option.bind_some,hdr,semSub_int,toK,Ag2]
      unfold Ft
      rw[Cj,f2_eq]
      simp only[fVar_eq,List.getElem?_cons_succ,List.getElem?_cons_zero,Option.join_some,Option.map_some,Option.bind_some,e2,semAdd_int,gN_eq,List.set_cons_succ,List.set_cons_zero]
      rw[Dl,Int.add_assoc])
  obtain ⟨hM,z6,hδ⟩:=P
  rw[G3] at hδ
  rw[hM,hδ] at e
  exact ⟨z6,e⟩
theorem Ac9{cs:List Int}(hl:cs.length≤12)(hc:∀ c∈cs,0≤c∧c≤1000)(L:UH):∃ L',G1 [.tup (cs.map U.int)] L=some (.int (ahv cs cs.length),L')∧Gw L L':=by
  have hlen:Au [.tup (cs.map U.int)] L=some (.int cs.length,L):=by simp[Au,lenU]
  obtain ⟨q,ds,L1,e1,hq,hdl,hds,g1⟩:=Abk hl L
  have s1:(Az (A9 1 Gx (Ac (Ax Au (Ac (Ad 0) Ag)) Ag)) (gN 1)) [some (.tup (cs.map U.int)),none,none,none,none,none,none] L=some (.nx [some (.tup (cs.map U.int)),some (.ref q),none,none,none,none,none],L1):=by
    simp only[Cj,fOwn_eq,fCall_eq,fCons_eq,fNil_eq,fVar_eq,List.getElem?_cons_succ,List.getElem?_cons_zero,Option.join_some,Option.map_some,Option.bind_some,hlen,List.length_cons,List.length_nil,if_true,e1,gN_eq,List.set_cons_succ,List.set_cons_zero]
  have s2:(Az (Ax semSum (Ac (Ad 0) Ag)) (gN 2)) [some (.tup (cs.map U.int)),some (.ref q),none,none,none,none,none] L1=some (.nx [some (.tup (cs.map U.int)),some (.ref q),some (.int cs.sum),none,none,none,none],L1):=by
    simp only[Cj,fCall_eq,fCons_eq,fNil_eq,fVar_eq,List.getElem?_cons_succ,List.getElem?_cons_zero,Option.join_some,Option.map_some,Option.bind_some,sum_tup,gN_eq,List.set_cons_succ,List.set_cons_zero]
  have s3:(Az (fC (.int 0)) (gN 3)) [some (.tup (cs.map U.int)),some (.ref q),some (.int cs.sum),none,none,none,none] L1=some (.nx [some (.tup (cs.map U.int)),some (.ref q),some (.int cs.sum),some (.int 0),none,none,none],L1):=rfl
  have hi:(Im (Ac (Ad 0) Ag)) [some (.tup (cs.map U.int)),some (.ref q),some (.int cs.sum),some (.int 0),none,none,none] L1=some (.seq ((List.range cs.length).map fun (i:Nat)=>U.tup [.int (i:Int),.int (cs.getD i 0)]),L1):=by
    rw[← Ql];rfl
  obtain ⟨δ',L',e,P⟩:=Dd (us:=(List.range cs.length).map fun (i:Nat)=>U.tup [.int (i:Int),.int (cs.getD i 0)]) (body:=Hu) (g:=(MR.gTup 2 (MR.gCons (gN 4) (MR.gCons (gN 5) MR.gNil))))
    (fun k δ' L'=>L'=L1∧∃ z4 z5 z6,δ'=[some (.tup (cs.map U.int)),some (.ref q),some (.int (By cs k)),some (.int (ahv cs k)),z4,z5,z6])
    hi ⟨rfl,none,none,none,by
      have h1:By cs 0=cs.sum:=by unfold By;simp
      have h2:ahv cs 0=0:=rfl
      rw[h1,h2]⟩
    (fun k u δ M' hu zz=>by
      obtain ⟨hM,z4,z5,z6,hδ⟩:=zz
      subst hM
      subst hδ
      rw[List.getElem?_map] at hu
      obtain ⟨t,ht,rfl⟩:=Option.map_eq_some_iff.mp hu
      have hk:k < cs.length:=by
        have:=(List.getElem?_eq_some_iff.mp ht).1
        simpa using this
      rw[List.getElem?_range hk] at ht
      cases ht
      have hmem:cs.getD k 0∈cs:=by rw[List.getD_eq_getElem?_getD,List.getElem?_eq_getElem hk];exact List.getElem_mem hk
      obtain ⟨c0,c1⟩:=hc _ hmem
      obtain ⟨c,hcc⟩:∃ c:Nat,cs.getD k 0=c:=⟨(cs.getD k 0).toNat,by omega⟩
      obtain ⟨r,hr,hd⟩:=hds (k+1) (by omega)
      obtain ⟨w6,el⟩:=V1 (left:=By cs k) (found:=ahv cs k) hq hr hd (c:=c) (by omega) (some (.tup (cs.map U.int))) z6
      have hs:=Ky cs k
      rw[hcc,Int.toNat_natCast] at hs
      rw[← hs,← hcc] at el
      refine ⟨[some (.tup (cs.map U.int)),some (.ref q),some (.int (By cs k)),some (.int (ahv cs k)),some (.int (k:Int)),some (.int (cs.getD k 0)),z6],M',rfl,_,M',.inl ?_,rfl,some (.int (k:Int)),some (.int (cs.getD k 0)),w6,rfl⟩
      unfold Hu
      rw[Ak el,Hf hk]
      rfl)
  obtain ⟨hM,z4,z5,z6,hδ⟩:=P
  rw[List.length_map,List.length_range] at hδ
  rw[hM,hδ] at e
  refine ⟨L1,?_,g1⟩
  unfold G1 fnU Qd
  simp only[List.length_cons,List.length_nil,if_true,List.map_cons,List.map_nil,List.replicate,List.cons_append,List.nil_append]
  rw[Ak s1,Ak s2,Ak s3,Ak e,fRet_eq]
  rfl
theorem Jk{m:Nat}(hm:m≤12)(L:UH):∃ (q:Nat) (ds:List Nat) (L':UH),Bs [.int m] L=some (.ref q,L')∧L'[q]? = some (.lst (ds.map U.ref))∧ds.length=m+1∧(∀ i,i≤m→∃ r,ds[i]? = some r∧L'[r]? = some (.lst ((Wj m (m - i)).map U.int)))∧Gw L L':=by
  have sm1:∀ x:U,small [x].length=true:=fun _=>Ce (by show 1≤16777216;decide)
  have s1:(Az (C2 (Ac (C2 (Ac (fC (.int 1)) Ag)) Ag)) (gN 1)) [some (.int m),none,none] L=some (.nx [some (.int m),some (.ref (L.length+1)),none],L++[.lst [.int 1]]++[.lst [.ref L.length]]):=by
    have h1:(C2 (Ac (fC (.int 1)) Ag)) [some (.int m),none,none] L=some (.ref L.length,L++[.lst [.int 1]]):=by
      simp only[fLst_eq,fCons_eq,fC_eq,fNil_eq,Option.bind_some,Option.map_some]
      rw[if_pos (sm1 _)]
    have hl:(L++[HU.lst [.int 1]]).length=L.length+1:=by simp
    rw[Cj,fLst_eq,fCons_eq,h1]
    simp only[Option.bind_some,fNil_eq,Option.map_some]
    rw[if_pos (sm1 _),hl]
    rfl
  have hi:Kf (Ac (f2 A7 (Ad 0) (fC (.int 1))) (Ac (Dy (fC (.int 1))) (Ac (Dy (fC (.int 1))) Ag))) [some (.int m),some (.ref (L.length+1)),none] (L++[.lst [.int 1]]++[.lst [.ref L.length]])=some (.seq (Cf ((m:Int) - 1) m),L++[.lst [.int 1]]++[.lst [.ref L.length]]):=by
    exact Rk (by omega) rfl
  obtain ⟨δ',L',e,P⟩:=Dd (us:=Cf ((m:Int) - 1) m) (body:=Dh) (g:=gN 2)
    (fun k δ' L'=>∃ (y2:Option U) (rs:List Nat) (r:Nat),δ'=[some (.int m),some (.ref (L.length+1)),y2]∧L'[L.length+1]? = some (.lst ((rs++[r]).map U.ref))∧rs.length=k∧(∀ i,i≤k→∃ x,(rs++[r])[i]? = some x∧x≠L.length+1∧L'[x]? = some (.lst ((Wj m i).map U.int)))∧Gw L L'∧L.length+2≤L'.length∧k≤m)
    hi ⟨none,[],L.length,rfl,by simp,rfl,fun i hi=>by
      have:i=0:=by omega
      subst this
      exact ⟨L.length,rfl,by omega,by rw[Ain];simp[List.getElem?_append]⟩,⟨[.lst [.int 1],.lst [.ref L.length]],by simp⟩,by simp,by omega⟩
    (fun k u δ M hu zz=>by
      obtain ⟨y2,rs,r,hδ,hb,hk,hds,g,hlm,_⟩:=zz
      subst hδ
      have hkm:k < m:=by
        have:=(List.getElem?_eq_some_iff.mp hu).1
        simpa[Cf] using this
      have hu':u = .int ((m - 1 - k:Nat):Int):=by
        unfold Cf at hu
        rw[List.getElem?_map,List.getElem?_range hkm] at hu
        have:(m:Int) - 1 - (k:Int)=((m - 1 - k:Nat):Int):=by omega
        rw[← this]
        simpa using hu.symm
      subst hu'
      obtain ⟨x,hx,hne,hr⟩:=hds k (by omega)
      have hx:r=x:=by
        rw[List.getElem?_append_right (by omega),hk,Nat.sub_self] at hx
        simpa using hx
      subst hx
      have hwl:=V3 hm k
      obtain ⟨r',M',e1,hr',g',hge⟩:=T7 (most:=m - 1 - k) hr (by omega) (by omega)
      rw[← Aet hkm] at hr'
      have hix:L2.atI ((rs++[r]).map U.ref) (-1)=some (.ref r):=by
        have hl:((rs++[r]).map U.ref).length=rs.length+1:=by simp
        have hj:ixN (rs.length+1) (-1)=some rs.length:=by
          unfold ixN
          rw[if_neg (by omega),if_pos (by omega)]
          congr 1;omega
        unfold L2.atI
        rw[hl,hj,Option.bind_some]
        rw[List.map_append,List.getElem?_append_right (by simp)]
        simp
      have ty:=G4 hb
      have hb':=g'.get hb
      have ap:=Gz (.ref r') hb' (by simp;omega)
      have hx:(rs++[r]).map U.ref++[.ref r']=((rs++[r])++[r']).map U.ref:=by simp
      rw[hx] at ap
      have hlt:=(List.getElem?_eq_some_iff.mp hb').1
      refine ⟨[some (.int m),some (.ref (L.length+1)),some (.int ((m - 1 - k:Nat):Int))],M,rfl,[some (.int m),some (.ref (L.length+1)),some (.int ((m - 1 - k:Nat):Int))],M'.set (L.length+1) (.lst (((rs++[r])++[r']).map U.ref)),.inl ?_,_,rs++[r],r',rfl,List.getElem?_set_self hlt,by simp[hk],fun i hi=>?_,(g.trans g').set (by omega) _,by have:=g'.le;simp;omega,hkm⟩
      · unfold Dh
        have i1:(f2 Ap (Ad 1) (Dy (fC (.int 1)))) [some (.int m),some (.ref (L.length+1)),some (.int ((m - 1 - k:Nat):Int))] M=some (.ref r,M):=by
          simp only[f2_eq,fVar_eq,fC_eq,fNeg_eq,List.getElem?_cons_succ,List.getElem?_cons_zero,Option.join_some,Option.map_some,Option.bind_some,semIx_ref,An hb,hix]
        have i2:(A9 2 Bw (Ac (f2 Ap (Ad 1) (Dy (fC (.int 1)))) (Ac (Ad 2) Ag))) [some (.int m),some (.ref (L.length+1)),some (.int ((m - 1 - k:Nat):Int))] M=some (.ref r',M'):=by
          rw[fOwn_eq,fCons_eq,i1]
          simp only[Option.bind_some,fCons_eq,fVar_eq,fNil_eq,List.getElem?_cons_succ,List.getElem?_cons_zero,Option.join_some,Option.map_some,List.length_cons,List.length_nil,if_true,e1]
        rw[Ee,fMeth_eq]
        simp only[fVar_eq,List.getElem?_cons_succ,List.getElem?_cons_zero,Option.join_some,Option.map_some,Option.bind_some,ty,if_true]
        rw[fCons_eq,i2]
        simp only[Option.bind_some,fNil_eq,Option.map_some,ap]
      · by_cases hik:i≤k
        · obtain ⟨x,hx,hn,hxr⟩:=hds i hik
          refine ⟨x,by rw[List.getElem?_append_left (by have:=(List.getElem?_eq_some_iff.mp hx).1;exact this)];exact hx,hn,?_⟩
          rw[List.getElem?_set_ne (Ne.symm hn)];exact g'.get hxr
        · have:i=k+1:=by omega
          subst this
          refine ⟨r',by rw[List.getElem?_append_right (by simp[hk])];simp[hk],by omega,?_⟩
          rw[List.getElem?_set_ne (by omega)];exact hr')
  obtain ⟨y2,rs,r,hδ,hb,hk,hds,g,hlm,_⟩:=P
  rw[hδ] at e
  have hdl:(Cf ((m:Int) - 1) m).length=m:=by simp[Cf]
  rw[hdl] at hds hk
  have hrev:((rs++[r]).map U.ref).reverse=(rs++[r]).reverse.map U.ref:=by rw[List.map_reverse]
  refine ⟨L'.length,(rs++[r]).reverse,L'++[.lst ((rs++[r]).reverse.map U.ref)],?_,by simp,by simp[hk],fun i hi=>?_,g.trans (Gw.new _ _)⟩
  · have s3:(Xa (Ac (Ad 1) Ag)) [some (.int m),some (.ref (L.length+1)),y2] L'=some (.ref L'.length,L'++[.lst ((rs++[r]).reverse.map U.ref)]):=by
      unfold Xa
      simp only[fCons_eq,fNil_eq,fVar_eq,List.getElem?_cons_succ,List.getElem?_cons_zero,Option.join_some,Option.map_some,Option.bind_some,An hb,hrev]
    unfold Bs fnU Gv
    simp only[List.length_cons,List.length_nil,if_true,List.map_cons,List.map_nil,List.replicate,List.cons_append,List.nil_append]
    rw[Ak s1,Ak e,fRet_eq,s3]
    rfl
  · obtain ⟨x,hx,_,hxr⟩:=hds (m - i) (by omega)
    refine ⟨x,?_,(Gw.new L' _).get hxr⟩
    rw[List.getElem?_reverse (by simp;omega),← hx]
    congr 1
    simp;omega
theorem Jx{L:UH}{r:Nat}{ws:List Int}(t:Int)(hr:L[r]? = some (.lst (ws.map U.int))):Bt [.ref r,.int t] L=some (.int (Bq ws t),L):=by
  have hlen:=G8 hr
  rw[List.length_map] at hlen
  have hlc:(Ax Au (Ac (Ad 0) Ag)) [some (.ref r),some (.int t)] L=some (.int ws.length,L):=by
    simp only[fCall_eq,fCons_eq,fNil_eq,fVar_eq,List.getElem?_cons_zero,Option.join_some,Option.map_some,Option.bind_some,hlen]
  have tt:(Bx (Nh Wm Eh (fC (.int 0)) (Ad 1) (Ax Au (Ac (Ad 0) Ag)))) [some (.ref r),some (.int t)] L=some (decide (0≤t)&&decide (t < ws.length),L):=by
    rw[G2]
    unfold Nh
    cases h:decide (0≤t) <;> simp[h,hlc,hlen]
  unfold Bt fnU P9
  simp only[List.length_cons,List.length_nil,if_true,List.map_cons,List.map_nil,Nat.sub_self,List.replicate_zero,List.append_nil]
  rw[fRet_eq,fIf_eq,tt]
  unfold Bq
  by_cases h0:0≤t
  · rw[if_pos h0]
    by_cases h1:t < ws.length
    · have hg:ws.getD t.toNat 0=ws[t.toNat]'(by omega):=by simp[List.getD_eq_getElem?_getD,show t.toNat < ws.length by omega]
      have hix:L2.atI (ws.map U.int) t=some (.int (ws.getD t.toNat 0)):=by
        rw[J6 h0 (by simp;omega),List.getElem?_map,List.getElem?_eq_getElem (by omega),hg];rfl
      simp only[decide_eq_true h0,decide_eq_true h1,Bool.and_self,Option.bind_some,if_true,f2_eq,fVar_eq,List.getElem?_cons_succ,List.getElem?_cons_zero,Option.join_some,Option.map_some,semIx_ref,An hr,hix]
    · have hg:ws.getD t.toNat 0=0:=by rw[List.getD_eq_getElem?_getD,List.getElem?_eq_none (by omega)];rfl
      simp only[decide_eq_true h0,decide_eq_false h1,Bool.and_false,Option.bind_some,Bool.false_eq_true,if_false,fC_eq,hg,Option.map_some]
  · rw[if_neg h0]
    simp only[decide_eq_false h0,Bool.false_and,Option.bind_some,Bool.false_eq_true,if_false,fC_eq,Option.map_some]
noncomputable def bad(cs:List Int)(k:Nat):Bool:=decide (cs.getD k 0 < 0) || decide ((k:Int) < cs.getD k 0)
noncomputable def rb(cs:List Int):Nat→List Int→List Int
  | 0,_=>[]
  | n+1,l=>rb cs n (l.eraseIdx (n - (cs.getD n 0).toNat))++[l.getD (n - (cs.getD n 0).toNat) 0]
theorem Abl(cs:List Int):∀ n l,(rb cs n l).length=n
  | 0,_=>rfl
  | n+1,l=>by unfold rb;rw[List.length_append,Abl cs n];rfl
theorem Mt(cs:List Int):∀ n (l:List Int),l.length=n→(rb cs n l).Perm l
  | 0,l,h=>by rw[List.length_eq_zero_iff.mp h];exact List.Perm.refl _
  | n+1,l,h=>by
    unfold rb
    have hi:n - (cs.getD n 0).toNat < l.length:=by omega
    have e:l.getD (n - (cs.getD n 0).toNat) 0=l[n - (cs.getD n 0).toNat]:=by rw[List.getD_eq_getElem?_getD,List.getElem?_eq_getElem hi];rfl
    rw[e]
    have ih:=Mt cs n (l.eraseIdx (n - (cs.getD n 0).toNat)) (by rw[List.length_eraseIdx_of_lt hi];omega)
    exact (ih.append_right _).trans ((List.perm_append_singleton _ _).trans (M6 l _ hi))
theorem P1:∀ (l:List Int) (i:Nat) (h:i < l.length),l.Pairwise (· < ·)→((l.eraseIdx i).filter fun o=>decide (l[i] < o)).length=l.length - 1 - i
  | [],i,h,_=>by simp at h
  | x::t,0,h,hp=>by
    have h1:=(List.pairwise_cons.mp hp).1
    rw[List.eraseIdx_cons_zero,List.getElem_cons_zero,List.filter_eq_self.mpr fun o ho=>by simpa using h1 o ho]
    simp
  | x::t,i+1,h,hp=>by
    have h1:=(List.pairwise_cons.mp hp).1
    have ht:i < t.length:=by simpa using h
    rw[List.eraseIdx_cons_succ,List.getElem_cons_succ,List.filter_cons_of_neg (by have:=h1 _ (List.getElem_mem ht);simp;omega),P1 t i ht (List.pairwise_cons.mp hp).2]
    simp
    omega
theorem Aei(r:List Int)(v:Int):Ru (r++[v])=Ru r++[(((r.filter fun o=>decide (v < o)).length:Nat):Int)]:=by
  unfold Ru
  rw[List.length_append,List.length_singleton,List.range_succ,List.map_append,List.map_singleton]
  congr 1
  · refine List.map_congr_left fun i hi=>?_
    have hi':i < r.length:=List.mem_range.mp hi
    unfold gtv
    rw[List.take_append_of_le_length (by omega),List.getD_eq_getElem?_getD,List.getD_eq_getElem?_getD,List.getElem?_append_left hi']
  · unfold gtv
    rw[List.take_left' rfl]
    simp
theorem Wg(cs:List Int):∀ n (l:List Int),l.length=n→n≤cs.length→l.Pairwise (· < ·)→(∀ i,i < n→bad cs i=false)→Ru (rb cs n l)=cs.take n
  | 0,l,_,_,_,_=>rfl
  | n+1,l,h,hc,hp,hb=>by
    unfold rb
    have hbn:=hb n (by omega)
    unfold bad at hbn
    simp only[Bool.or_eq_false_iff,decide_eq_false_iff_not] at hbn
    have hi:n - (cs.getD n 0).toNat < l.length:=by omega
    have e:l.getD (n - (cs.getD n 0).toNat) 0=l[n - (cs.getD n 0).toNat]:=by rw[List.getD_eq_getElem?_getD,List.getElem?_eq_getElem hi];rfl
    have le:(l.eraseIdx (n - (cs.getD n 0).toNat)).length=n:=by rw[List.length_eraseIdx_of_lt hi];omega
    rw[Aei,Wg cs n _ le (by omega) (hp.sublist (List.eraseIdx_sublist _ _)) fun i hi=>hb i (by omega)]
    have pf:=((Mt cs n _ le).filter fun o=>decide (l.getD (n - (cs.getD n 0).toNat) 0 < o)).length_eq
    rw[pf,e,P1 l _ hi hp,Hw (by omega:n < cs.length)]
    congr 2
    omega
theorem Aje:((List.range 13).all fun m=>(List.range 13).all fun j=>(Wj m j).all fun c=>decide (0≤c))=true:=by decide +kernel
theorem Ak6{m j:Nat}(hm:m≤12)(hj:j≤12):∀ c∈Wj m j,0≤c:=by
  have:=List.all_eq_true.mp (List.all_eq_true.mp Aje m (List.mem_range.mpr (by omega))) j (List.mem_range.mpr (by omega))
  intro c hc
  exact of_decide_eq_true (List.all_eq_true.mp this c hc)
theorem Ad3{m j:Nat}(hm:m≤12)(hj:j≤12)(t:Int):0≤Bq (Wj m j) t:=by
  unfold Bq
  split
  · rw[List.getD_eq_getElem?_getD]
    cases h:(Wj m j)[t.toNat]? with
    | none=>exact Int.le_refl _
    | some c=>exact Ak6 hm hj c (List.mem_of_getElem? h)
  · exact Int.le_refl _
theorem Rr{m j:Nat}(hm:m≤12)(hj:j≤12)(left:Int):∀ a b,a≤b→Ct (Wj m j) left a≤Ct (Wj m j) left b
  | a,b,h=>by
    induction b with
    | zero=>rw[show a=0 by omega];exact Int.le_refl _
    | succ b ih=>
      by_cases c:a=b+1
      · rw[c];exact Int.le_refl _
      · have:=ih (by omega)
        rw[Dl]
        have:=Ad3 hm hj (left - (b:Int))
        omega
theorem Akq:((List.range 13).all fun m=>(List.range m).all fun j=>(List.range 121).all fun t=>decide (Bq (Wj m (j+1)) (t:Nat)=Ct (Wj m j) (t:Nat) (m - 1 - j+1)))=true:=by decide +kernel
theorem La{ws:List Int}{left:Int}:∀ c:Nat,(∀ l:Nat,l < c→Bq ws (left - (l:Int))=0)→Ct ws left c=0
  | 0,_=>rfl
  | c+1,h=>by rw[Dl,La c fun l hl=>h l (by omega),h c (by omega)];rfl
theorem Ow{m j:Nat}(hm:m≤12)(hj:j < m)(t:Int):Bq (Wj m (j+1)) t=Ct (Wj m j) t (m - 1 - j+1):=by
  by_cases h0:0≤t
  · by_cases h1:t≤120
    · have:=List.all_eq_true.mp (List.all_eq_true.mp (List.all_eq_true.mp Akq m (List.mem_range.mpr (by omega))) j (List.mem_range.mpr hj)) t.toNat (List.mem_range.mpr (by omega))
      have:=of_decide_eq_true this
      rwa [Int.toNat_of_nonneg h0] at this
    · have big:∀ (i:Nat) (u:Int),100≤u→Bq (Wj m i) u=0:=fun i u hu=>by
        unfold Bq
        have:=V3 hm i
        rw[if_pos (by omega),List.getD_eq_getElem?_getD,List.getElem?_eq_none (by omega)];rfl
      rw[big _ t (by omega),La _ fun l hl=>big _ _ (by omega)]
  · have neg:∀ (i:Nat) (u:Int),u < 0→Bq (Wj m i) u=0:=fun i u hu=>by unfold Bq;rw[if_neg (by omega)]
    rw[neg _ t (by omega),La _ fun l hl=>neg _ _ (by omega)]
theorem Pq(m:Nat)(t:Int):Bq (Wj m 0) t=if t=0 then 1 else 0:=by
  rw[Ain]
  unfold Bq
  by_cases h:t=0
  · subst h;rfl
  · rw[if_neg h]
    split
    · rw[List.getD_eq_getElem?_getD,List.getElem?_eq_none (by simp;omega)];rfl
    · rfl
theorem Ahb{m j:Nat}(hm:m≤12)(hj:j≤12)(left ahead:Int)(h0:0≤ahead):∀ n,ahead < Ct (Wj m j) left n→∃ c,c < n∧Ct (Wj m j) left c≤ahead∧ahead < Ct (Wj m j) left (c+1)
  | 0,h=>by have:Ct (Wj m j) left 0=0:=rfl;omega
  | n+1,h=>by
    by_cases c:ahead < Ct (Wj m j) left n
    · obtain ⟨d,d1,d2,d3⟩:=Ahb hm hj left ahead h0 n c
      exact ⟨d,by omega,d2,d3⟩
    · exact ⟨n,by omega,by omega,h⟩
noncomputable def Kg(cs:List Int):Prop:=∀ i,i < cs.length→bad cs i=false
theorem Rc{cs:List Int}(h:Kg cs){k:Nat}(hk:k < cs.length):0≤cs.getD k 0∧cs.getD k 0≤(k:Int):=by
  have:=h k hk
  unfold bad at this
  simp only[Bool.or_eq_false_iff,decide_eq_false_iff_not] at this
  omega
noncomputable abbrev rest(cs:List Int)(k:Nat):Int:=ahv cs cs.length - ahv cs k
theorem X4(cs:List Int):By cs cs.length=0:=by unfold By;rw[List.take_length];omega
theorem Rx{cs:List Int}(hm:cs.length≤12)(hg:Kg cs):∀ j k,k+j=cs.length→0≤rest cs k∧rest cs k < Bq (Wj cs.length j) (By cs k)
  | 0,k,h=>by
    have hk:k=cs.length:=by omega
    subst hk
    rw[Pq,if_pos (X4 cs)]
    unfold rest
    omega
  | j+1,k,h=>by
    obtain ⟨i1,i2⟩:=Rx hm hg j (k+1) (by omega)
    have hk:k < cs.length:=by omega
    obtain ⟨g1,g2⟩:=Rc hg hk
    have e:=Ky cs k
    rw[show cs.length - (k+1)=j by omega] at e
    rw[Hf hk] at i2
    have es:=Dl (Wj cs.length j) (By cs k) (cs.getD k 0).toNat
    rw[Int.toNat_of_nonneg g1] at es
    have u1:=Rr hm (by omega:j≤12) (By cs k) ((cs.getD k 0).toNat+1) (k+1) (by omega)
    have u0:=Rr hm (by omega:j≤12) (By cs k) 0 (cs.getD k 0).toNat (by omega)
    have z:Ct (Wj cs.length j) (By cs k) 0=0:=rfl
    rw[Ow hm (by omega),show cs.length - 1 - j+1=k+1 by omega]
    unfold rest at *
    omega
theorem Tp{m:Nat}(hm:m≤12):∀ j k (pre:List Int) (left ahead:Int),k+j=m→pre.length=k→(∀ i,i < k→bad pre i=false)→0≤ahead→ahead < Bq (Wj m j) left →
    ∃ ds:List Int,(pre++ds).length=m∧Kg (pre++ds)∧ds.sum=left∧ahead=rest (pre++ds) k
  | 0,k,pre,left,ahead,h,hp,hb,h0,h1=>by
    rw[Pq] at h1
    have hl:left=0:=by
      by_cases c:left=0
      · exact c
      · rw[if_neg c] at h1;omega
    rw[if_pos hl] at h1
    refine ⟨[],by simp;omega,?_,by simp[hl],?_⟩
    · rw[List.append_nil];intro i hi;exact hb i (by omega)
    · rw[List.append_nil]
      unfold rest
      rw[hp]
      omega
  | j+1,k,pre,left,ahead,h,hp,hb,h0,h1=>by
    rw[Ow hm (by omega),show m - 1 - j+1=k+1 by omega] at h1
    obtain ⟨c,c1,c2,c3⟩:=Ahb hm (by omega:j≤12) left ahead h0 (k+1) h1
    rw[Dl] at c3
    have hgc:(pre++[(c:Int)]).getD k 0=c:=by
      rw[List.getD_eq_getElem?_getD,List.getElem?_append_right (by omega),hp,Nat.sub_self];rfl
    obtain ⟨ds,d1,d2,d3,d4⟩:=Tp hm j (k+1) (pre++[(c:Int)]) (left - c) (ahead - Ct (Wj m j) left c) (by omega) (by simp;omega) (fun i hi=>by
      by_cases q:i < k
      · have:=hb i q
        unfold bad at this ⊢
        rw[List.getD_eq_getElem?_getD,List.getElem?_append_left (by omega),← List.getD_eq_getElem?_getD]
        exact this
      · have:i=k:=by omega
        subst this
        unfold bad
        rw[hgc]
        simp
        omega) (by omega) (by omega)
    rw[List.append_assoc,List.singleton_append] at d1 d2 d4
    refine ⟨(c:Int)::ds,d1,d2,by rw[List.sum_cons,d3];omega,?_⟩
    have hk:k < (pre++(c:Int)::ds).length:=by omega
    have e:=Ky (pre++(c:Int)::ds) k
    have gk:(pre++(c:Int)::ds).getD k 0=c:=by
      rw[List.getD_eq_getElem?_getD,List.getElem?_append_right (by omega),hp,Nat.sub_self];rfl
    have lk:By (pre++(c:Int)::ds) k=left:=by
      unfold By
      rw[List.take_left' hp,List.sum_append,List.sum_cons,d3]
      omega
    rw[gk,lk,d1,show m - (k+1)=j by omega,Int.toNat_natCast] at e
    unfold rest at d4 ⊢
    omega
theorem Ld{fe:FE}{v:U}{i:Nat}{δ:UE}{L L':UH}(e:fe δ L=some (v,L')):(Az fe (gN i)) δ L=some (.nx (δ.set i (some v)),L'):=by
  rw[Cj,e]
  simp only[Option.bind_some,gN_eq,Option.map_some]
theorem Sa{f:FN}{i:Nat}{u v:U}{δ:UE}{L L':UH}(h:Ad i δ L=some (u,L))(e:f [u] L=some (v,L')):(A9 1 f (Ac (Ad i) Ag)) δ L=some (v,L'):=by
  rw[fOwn_eq,fCons_eq,h]
  simp only[Option.bind_some,fNil_eq,Option.map_some,List.length_cons,List.length_nil,if_true,e]
theorem fn1{n:Nat}{b:FS}{u v:U}{L L':UH}(h:b (some u::List.replicate n none) L=some (.rt v,L')):fnU (n+1) 1 b [u] L=some (v,L'):=by
  unfold fnU
  simp only[List.length_cons,List.length_nil,if_true,List.map_cons,List.map_nil,List.cons_append,List.nil_append,Nat.add_sub_cancel,h]
  rfl
theorem Vw{fe:FE}{v:U}{δ:UE}{L L':UH}(e:fe δ L=some (v,L')):C8 fe δ L=some (.rt v,L'):=by
  rw[fRet_eq,e];rfl
theorem Mc{c:FT}{f:FS}{δ:UE}{L L':UH}(h:c δ L=some (false,L')):G0 c f Dr δ L=some (.nx δ,L'):=by
  rw[Rt,h];rfl
theorem Fv(l:List Int):∀ u∈l.map U.int,Pl 6 u:=fun u hu=>by
  obtain ⟨a,_,rfl⟩:=List.mem_map.mp hu
  exact Pl.int _ _
theorem Yx(l:List Int):Vn (l.map U.int) (l.map U.int)=true:=(Ts (Fv l) (Fv l)).mpr rfl
theorem Ah2{c:FT}{f g:FS}{δ:UE}{L L':UH}(h:c δ L=some (true,L')):G0 c f g δ L=f δ L':=by
  rw[Rt,h];rfl
theorem Aeh{f:FN}{fa fb:FE}{u w v:U}{δ:UE}{L L1 L2 L':UH}(h:fa δ L=some (u,L1))(h2:fb δ L1=some (w,L2))(e:f [u,w] L2=some (v,L')):(A9 2 f (Ac fa (Ac fb Ag))) δ L=some (v,L'):=by
  rw[fOwn_eq,fCons_eq,h,Option.bind_some,fCons_eq,h2]
  simp only[Option.bind_some,fNil_eq,Option.map_some,List.length_cons,List.length_nil,if_true,e]
theorem nxt{L:UH}{d i:Nat}{B many:Int}{δ:UE}{fb:FE}(D:Deck L d B)(hB:B≤100000000000000000)(h0:0 < many)(h1:many < 1073741824)(hv:Ad i δ L=some (.ref d,L))(hb:fb δ L=some (.int many,L)) :
    ∃ (r:Nat) (L':UH),(A9 2 A0 (Ac (Ad i) (Ac fb Ag))) δ L=some (.int (r:Int),L')∧(r:Int) < many∧Deck L' d (B+1)∧Ex d L L':=by
  obtain ⟨r,L',e,h2,h3,h4,h5⟩:=Agi D hB h0 h1
  refine ⟨r.toNat,L',?_,by omega,h4,h5⟩
  rw[Int.toNat_of_nonneg h2]
  exact Aeh hv hb e
theorem Rp{L:UH}{X i:Nat}{l:List Int}(h:L[X]? = some (.lst (l.map U.int)))(hi:i < l.length):Ap (.ref X) (.int (i:Int)) L=some (.int (l.getD i 0),L):=by
  rw[semIx_ref,An h,Option.bind_some,J6 (by omega) (by simp;omega),List.getElem?_map,Int.toNat_natCast,List.getElem?_eq_getElem hi]
  simp[List.getD_eq_getElem?_getD,hi]
theorem Nu{g:FA}{δ:UE}{L L1:UH}{us:List U}(hg:g δ L=some (us,L1))(hl:us.length≤1000):C2 g δ L=some (.ref L1.length,L1++[.lst us]):=by
  rw[fLst_eq,hg,Option.bind_some,if_pos (Ce (by show us.length≤16777216;omega))]
theorem Ba{fe:FE}{g:FA}{δ:UE}{L L1 L2:UH}{u:U}{us:List U}(h1:fe δ L=some (u,L1))(h2:g δ L1=some (us,L2)):Ac fe g δ L=some (u::us,L2):=by
  rw[fCons_eq,h1,Option.bind_some,h2];rfl
theorem Aiv{g:FA}{fi:FE}{δ:UE}{L L1 L2:UH}{xs:List Int}{i d:Nat}(hg:g δ L=some (xs.map U.int,L1))(hl:xs.length≤1000)(hi:fi δ (L1++[.lst (xs.map U.int)])=some (.int (i:Int),L2))(hx:Ex d (L1++[.lst (xs.map U.int)]) L2)(hd:d < L1.length)(hlt:i < xs.length) :
    f2 Ap (C2 g) fi δ L=some (.int (xs.getD i 0),L2):=by
  have e:=Nu hg (by rw[List.length_map];exact hl)
  have at1:L2[L1.length]? = some (.lst (xs.map U.int)):=hx.get (by simp) (by omega)
  rw[f2_eq,e,Option.bind_some,hi,Option.bind_some,Rp at1 hlt]
noncomputable abbrev Jm(cs:List Int):List U:=(List.range cs.length).map fun (i:Nat)=>U.tup [.int (i:Int),.int (cs.getD i 0)]
theorem Tt{cs:List Int}{k:Nat}(h:k < cs.length):(Jm cs)[k]? = some (.tup [.int (k:Int),.int (cs.getD k 0)]):=by
  unfold Jm
  rw[List.getElem?_map,List.getElem?_range h];rfl
theorem need_tst(t:U)(k c:Int)(L:UH):(fOr (Bx (f2 Eh (Ad 2) (fC (.int 0)))) (Bx (f2 T6 (Ad 2) (Ad 1)))) [some t,some (.int k),some (.int c)] L=some (decide (c < 0) || decide (k < c),L):=by
  by_cases c1:c < 0
  · simp[c1]
  · by_cases c2:k < c <;> simp[c1,c2]
theorem Ab4(t:U)(y1 y2:Option U)(k c:Int)(L:UH):(MR.gTup 2 (MR.gCons (gN 1) (MR.gCons (gN 2) MR.gNil))) (.tup [.int k,.int c]) [some t,y1,y2] L=some ([some t,some (.int k),some (.int c)],L):=rfl
theorem Aag{t:U}{k c:Int}{L:UH}(h:(decide (c < 0) || decide (k < c))=false):Cr [some t,some (.int k),some (.int c)] L=some (.nx [some t,some (.int k),some (.int c)],L):=by
  unfold Cr
  rw[Rt,need_tst,h]
  rfl
theorem Ab3{g:FA}{δ:UE}{L L':UH}{i j:Int}(hg:g δ L=some ([.int i,.int j],L'))(h0:0≤i)(h1:i < 1000000)(h2:0≤j)(h3:j < 1000000):Hy g δ L=some (.ref L'.length,L'++[.lst (Ay i (j - i).toNat)]):=by
  unfold Hy
  rw[hg]
  simp only[Option.bind_some]
  rw[if_pos ⟨by omega,by omega,by omega,by omega,by omega⟩]
theorem Qx{g:FA}{δ:UE}{L L':UH}{n:Nat}(hg:g δ L=some ([.int 1,.int ((n:Int)+1)],L'))(h:n≤1000):Hy g δ L=some (.ref L'.length,L'++[.lst (Ay 1 n)]):=by
  have:=Ab3 hg (by omega) (by omega) (by omega) (by omega)
  rw[this,Int.add_sub_cancel,Int.toNat_natCast]
theorem Afr{row:List Int}{k:Nat}(h:k < row.length)(L:UH):Ap (.tup (row.map U.int)) (.int (k:Int)) L=some (.int (row.getD k 0),L):=by
  rw[Aaj,J6 (by omega) (by simp;omega),List.getElem?_map,Int.toNat_natCast,List.getElem?_eq_getElem h]
  simp[List.getD_eq_getElem?_getD,h]
theorem Afx(row:List Int)(L:UH):Au [.tup (row.map U.int)] L=some (.int row.length,L):=by simp[Au,lenU]
noncomputable abbrev B9(n:Nat):List Int:=(List.range n).map fun (i:Nat)=>(1:Int)+(i:Int)
theorem K2(n:Nat):(B9 n).Pairwise (· < ·):=by
  rw[List.pairwise_map]
  exact List.pairwise_lt_range.imp fun h=>by omega
theorem Lz(n:Nat):Ay 1 n=(B9 n).map U.int:=by unfold Ay B9;rw[List.map_map];rfl
theorem Abm{h:Int}{n k:Nat}(hk:k < n):(Cf h n)[k]? = some (.int (h - (k:Int))):=by
  unfold Cf
  rw[List.getElem?_map,List.getElem?_range hk];rfl
noncomputable def SqV(L:UH)(u:U)(cs:List Int):Prop:=u = .tup (cs.map U.int)∨∃ n,u = .ref n∧L[n]? = some (.lst (cs.map U.int))
theorem SqV.mono{L L':UH}{u:U}{cs:List Int}(h:SqV L u cs)(g:Gw L L'):SqV L' u cs:=by
  rcases h with h | ⟨n,h1,h2⟩
  · exact .inl h
  · exact .inr ⟨n,h1,g.get h2⟩
theorem SqV.len{L:UH}{u:U}{cs:List Int}(h:SqV L u cs):Au [u] L=some (.int (cs.length:Int),L):=by
  rcases h with rfl | ⟨n,rfl,h2⟩
  · exact Afx cs L
  · have:=G8 h2
    rwa [List.length_map] at this
theorem SqV.ix{L:UH}{u:U}{cs:List Int}(h:SqV L u cs){k:Nat}(hk:k < cs.length):Ap u (.int (k:Int)) L=some (.int (cs.getD k 0),L):=by
  rcases h with rfl | ⟨n,rfl,h2⟩
  · exact Afr hk L
  · exact Rp h2 hk
theorem SqV.need{L:UH}{u:U}{cs:List Int}(h:SqV L u cs)(hg:Kg cs):C7 [u] L=some (.non,L):=by
  obtain ⟨it,hi,hat,hsz⟩:∃ it,(Im (Ac (Ad 0) Ag)) [some u,none,none] L=some (it,L)∧(∀ k,it.at k L=some (Jm cs)[k]?)∧it.size L=(Jm cs).length:=by
    rcases h with rfl | ⟨n,rfl,h2⟩
    · refine ⟨.seq (Jm cs),?_,fun k=>rfl,rfl⟩
      unfold Im
      simp only[fCons_eq,fNil_eq,fVar_eq,List.getElem?_cons_zero,Option.join_some,Option.map_some,Option.bind_some,Ql]
    · have q:=An h2
      refine ⟨.enm n,?_,fun k=>?_,?_⟩
      · unfold Im
        simp only[fCons_eq,fNil_eq,fVar_eq,List.getElem?_cons_zero,Option.join_some,Option.map_some,Option.bind_some,q]
      · unfold IU.at
        simp only[q,Option.map_some]
        by_cases hk:k < cs.length
        · rw[Tt hk,List.getElem?_map,List.getElem?_eq_getElem hk]
          simp[List.getD_eq_getElem?_getD,hk]
        · rw[List.getElem?_eq_none (by simp;omega),List.getElem?_eq_none (by unfold Jm;simp;omega)];rfl
      · unfold IU.size
        simp[q,Jm]
  obtain ⟨δ',L',e,y1,y2,hδ,hL⟩:=K4 (it:=it) (us:=Jm cs) (body:=Cr) (g:=(MR.gTup 2 (MR.gCons (gN 1) (MR.gCons (gN 2) MR.gNil))))
    (fun _ δ' L'=>∃ y1 y2,δ'=[some u,y1,y2]∧L'=L) (fun k δ M _ hP=>by obtain ⟨_,_,_,rfl⟩:=hP;exact hat k)
    (fun k v δ M hu hP=>by
      obtain ⟨y1,y2,hδ,hM⟩:=hP
      subst hδ hM
      have hk:k < cs.length:=by have:=(List.getElem?_eq_some_iff.mp hu).1;unfold Jm at this;simpa using this
      rw[Tt hk] at hu
      cases hu
      exact ⟨_,_,Ab4 _ _ _ _ _ _,_,_,.inl (Aag (hg k hk)),_,_,rfl,rfl⟩) ((Jm cs).length+1) 0 [some u,none,none] L (by omega) (by omega) ⟨none,none,rfl,rfl⟩
  have ef:(Dx (Im (Ac (Ad 0) Ag)) (MR.gTup 2 (MR.gCons (gN 1) (MR.gCons (gN 2) MR.gNil))) Cr) [some u,none,none] L=some (.nx δ',L'):=by
    rw[Rf,hi,Option.bind_some,hsz];exact e
  unfold C7 fnU Jh
  simp only[List.length_cons,List.length_nil,if_true,List.map_cons,List.map_nil,List.replicate,List.cons_append,List.nil_append]
  subst hL
  rw[ef]
  rfl
theorem Y2{cs:List Int}{u:U}{L:UH}(hS:SqV L u cs)(hl:cs.length≤1000)(hb:Kg cs):∃ L',Kx [u] L=some (.tup ((rb cs cs.length (B9 cs.length)).map U.int),L')∧Gw L L':=by
  have hgd:=hb
  unfold Kg at hb
  generalize hn:cs.length=n at hl hb ⊢
  have sm0:small ([]:List U).length=true:=Ce (by show 0≤16777216;decide)
  have hlen:∀ M:UH,Gw L M→Au [u] M=some (.int (n:Int),M):=fun M g=>by rw[(hS.mono g).len,hn]
  have hl0:=hlen L (Gw.refl L)
  have hl2:=hlen (L++[.lst ((B9 n).map U.int)]++[.lst []]) ⟨[.lst ((B9 n).map U.int),.lst []],by simp⟩
  have s0:(Et (A9 1 C7 (Ac (Ad 0) Ag))) [some u,none,none,none] L=some (.nx [some u,none,none,none],L):=by
    have:=hS.need hgd
    simp only[Ee,fOwn_eq,fCons_eq,fNil_eq,fVar_eq,List.getElem?_cons_zero,Option.join_some,Option.map_some,Option.bind_some,List.length_cons,List.length_nil,if_true,this]
  have s1:(Az (Hy (Ac (fC (.int 1)) (Ac (f2 Ao (Ax Au (Ac (Ad 0) Ag)) (fC (.int 1))) Ag))) (gN 1)) [some u,none,none,none] L=some (.nx [some u,some (.ref L.length),none,none],L++[.lst ((B9 n).map U.int)]):=by
    have c1:(Ac (fC (.int 1)) (Ac (f2 Ao (Ax Au (Ac (Ad 0) Ag)) (fC (.int 1))) Ag)) [some u,none,none,none] L=some ([.int 1,.int ((n:Int)+1)],L):=by
      simp only[fCons_eq,fNil_eq,fC_eq,f2_eq,fCall_eq,fVar_eq,List.getElem?_cons_zero,Option.join_some,Option.map_some,Option.bind_some,hl0,semAdd_int]
    rw[Cj,Qx c1 (by omega),Lz];rfl
  have s2:(Az (C2 Ag) (gN 2)) [some u,some (.ref L.length),none,none] (L++[.lst ((B9 n).map U.int)])=some (.nx [some u,some (.ref L.length),some (.ref (L.length+1)),none],L++[.lst ((B9 n).map U.int)]++[.lst []]):=by
    have hl1:(L++[HU.lst ((B9 n).map U.int)]).length=L.length+1:=by simp
    rw[Cj,fLst_eq,fNil_eq,Option.bind_some,if_pos sm0,hl1];rfl
  have hi:Kf (Ac (f2 A7 (Ax Au (Ac (Ad 0) Ag)) (fC (.int 1))) (Ac (Dy (fC (.int 1))) (Ac (Dy (fC (.int 1))) Ag))) [some u,some (.ref L.length),some (.ref (L.length+1)),none] (L++[.lst ((B9 n).map U.int)]++[.lst []])=some (.seq (Cf ((n:Int) - 1) n),L++[.lst ((B9 n).map U.int)]++[.lst []]):=by
    exact Rk (by omega) (by simp only[fCons_eq,fNil_eq,f2_eq,fCall_eq,fVar_eq,fC_eq,fNeg_eq,List.getElem?_cons_succ,List.getElem?_cons_zero,Option.join_some,Option.map_some,Option.bind_some,hl2,semSub_int])
  obtain ⟨δ',L',e,P⟩:=Dd (us:=Cf ((n:Int) - 1) n) (body:=Jp) (g:=gN 3)
    (fun k δ' L'=>∃ (y3:Option U) (l B:List Int),δ'=[some u,some (.ref L.length),some (.ref (L.length+1)),y3]∧L'[L.length]? = some (.lst (l.map U.int))∧L'[L.length+1]? = some (.lst (B.map U.int))∧l.length=n - k∧B.length=k∧rb cs (n - k) l++B.reverse=rb cs n (B9 n)∧Gw L L')
    hi ⟨none,B9 n,[],rfl,by simp,by simp,by simp,rfl,by simp,⟨[.lst ((B9 n).map U.int),.lst []],by simp⟩⟩
    (fun k v δ M hu hP=>by
      obtain ⟨y3,l,B,hδ,h1,h2,h3,h4,h5,gM⟩:=hP
      subst hδ
      have hk:k < n:=by
        have:=(List.getElem?_eq_some_iff.mp hu).1
        unfold Cf at this
        simpa using this
      rw[Abm hk] at hu
      cases hu
      obtain ⟨p,hp⟩:∃ p,n - k=p+1:=⟨n - k - 1,by omega⟩
      have hpu:(n:Int) - 1 - (k:Int)=(p:Int):=by omega
      rw[hpu]
      have hbp:=hb p (by omega)
      unfold bad at hbp
      simp only[Bool.or_eq_false_iff,decide_eq_false_iff_not] at hbp
      have hix:=(hS.mono gM).ix (k:=p) (by omega)
      have hidx:(p:Int) - cs.getD p 0=((p - (cs.getD p 0).toNat:Nat):Int):=by omega
      have pp:=Ajq (i:=((p - (cs.getD p 0).toNat:Nat):Int)) h1 (by omega) (by rw[List.length_map];omega) (by rw[List.length_map];omega)
      have hlt:p - (cs.getD p 0).toNat < l.length:=by omega
      have hval:(l.map U.int)[((p - (cs.getD p 0).toNat:Nat):Int).toNat]'(by simp;omega) = .int (l.getD (p - (cs.getD p 0).toNat) 0):=by
        simp only[Int.toNat_natCast,List.getElem_map]
        rw[List.getD_eq_getElem?_getD (l:=l),List.getElem?_eq_getElem hlt]
        rfl
      rw[hval,Int.toNat_natCast,Pb] at pp
      generalize hM1:M.set L.length (.lst ((l.eraseIdx (p - (cs.getD p 0).toNat)).map U.int))=M1 at pp
      have k1:M1[L.length]? = some (.lst ((l.eraseIdx (p - (cs.getD p 0).toNat)).map U.int)):=by rw[← hM1];exact List.getElem?_set_self (List.getElem?_eq_some_iff.mp h1).1
      have k2:M1[L.length+1]? = some (.lst (B.map U.int)):=by rw[← hM1,List.getElem?_set_ne (by omega)];exact h2
      have g1:Gw L M1:=by rw[← hM1];exact gM.set (Nat.le_refl _) _
      have ap:=Gz (.int (l.getD (p - (cs.getD p 0).toNat) 0)) k2 (by rw[List.length_map];omega)
      have hx:B.map U.int++[.int (l.getD (p - (cs.getD p 0).toNat) 0)]=(B++[l.getD (p - (cs.getD p 0).toNat) 0]).map U.int:=by simp
      rw[hx] at ap
      have ty1:=G4 h1
      have ty2:=G4 h2
      refine ⟨[some u,some (.ref L.length),some (.ref (L.length+1)),some (.int (p:Int))],M,rfl,[some u,some (.ref L.length),some (.ref (L.length+1)),some (.int (p:Int))],M1.set (L.length+1) (.lst ((B++[l.getD (p - (cs.getD p 0).toNat) 0]).map U.int)),.inl ?_,_,l.eraseIdx (p - (cs.getD p 0).toNat),B++[l.getD (p - (cs.getD p 0).toNat) 0],rfl,?_,?_,?_,?_,?_,?_⟩
      · unfold Jp
        simp only[Ee,fMeth_eq,fVar_eq,fCons_eq,fNil_eq,f2_eq,List.getElem?_cons_succ,List.getElem?_cons_zero,Option.join_some,Option.map_some,Option.bind_some,ty1,ty2,if_true,hix,semSub_int,hidx,pp,ap]
      · rw[List.getElem?_set_ne (by omega)];exact k1
      · exact List.getElem?_set_self (List.getElem?_eq_some_iff.mp k2).1
      · rw[List.length_eraseIdx_of_lt hlt];omega
      · rw[List.length_append,h4];rfl
      · rw[← h5,hp,show n - (k+1)=p by omega,List.reverse_append]
        show _=(rb cs p (l.eraseIdx (p - (cs.getD p 0).toNat))++[l.getD (p - (cs.getD p 0).toNat) 0])++B.reverse
        simp
      · exact g1.set (by omega) _)
  obtain ⟨y3,l,B,hδ,h1,h2,h3,h4,h5,gM⟩:=P
  have hnl:(Cf ((n:Int) - 1) n).length=n:=by unfold Cf;simp
  rw[hnl,Nat.sub_self] at h5
  have h5':B.reverse=rb cs n (B9 n):=h5
  rw[hδ] at e
  have ht:(Xk (Ac (Ad 2) Ag)) [some u,some (.ref L.length),some (.ref (L.length+1)),y3] L'=some (.tup ((rb cs n (B9 n)).map U.int),L'):=by
    unfold Xk
    simp only[fCons_eq,fNil_eq,fVar_eq,List.getElem?_cons_succ,List.getElem?_cons_zero,Option.join_some,Option.map_some,Option.bind_some,An h2,← h5',List.map_reverse]
  refine ⟨L',?_,gM⟩
  unfold Kx fnU Ub
  simp only[List.length_cons,List.length_nil,if_true,List.map_cons,List.map_nil,List.replicate,List.cons_append,List.nil_append]
  rw[Ak s0,Ak s1,Ak s2,Ak e,fRet_eq,ht]
  rfl
theorem Aaf{M:UH}{q r k:Nat}{ds:List Nat}{ws:List Int}{left:Int}(hq:M[q]? = some (.lst (ds.map U.ref)))(hr:ds[k+1]? = some r)(hd:M[r]? = some (.lst (ws.map U.int)))(x0 x1 x2 x4:Option U) :
    ∀ (f own:Nat) (ahead:Int) (n:Nat),Ct ws left (own+f) - Ct ws left own≤ahead→ahead < Ct ws left (own+f+1) - Ct ws left own→(∀ i,own≤i→i < own+f→Ct ws left (i+1) - Ct ws left own≤ahead)→f < n →
      Fy Ew Fw n [x0,x1,x2,some (.ref q),x4,some (.int left),some (.int ahead),some (.int (k:Int)),some (.int (own:Int))] M
        = some (.nx [x0,x1,x2,some (.ref q),x4,some (.int left),some (.int (ahead - (Ct ws left (own+f) - Ct ws left own))),some (.int (k:Int)),some (.int ((own+f:Nat):Int))],M):=by
  have hix:Ap (.ref q) (.int ((k:Int)+1)) M=some (.ref r,M):=by
    rw[semIx_ref,An hq,Option.bind_some]
    have:((k:Int)+1)=((k+1:Nat):Int):=by omega
    rw[this,Sk (u:=.ref r) (by rw[List.getElem?_map,hr];rfl)]
    rfl
  have hw:∀ (own:Nat) (ahead:Int),(A9 2 Bt (Ac (f2 Ap (Ad 3) (f2 Ao (Ad 7) (fC (.int 1)))) (Ac (f2 A7 (Ad 5) (Ad 8)) Ag))) [x0,x1,x2,some (.ref q),x4,some (.int left),some (.int ahead),some (.int (k:Int)),some (.int (own:Int))] M=some (.int (Bq ws (left - (own:Int))),M):=by
    intro own ahead
    refine Aeh (u:=.ref r) (w:=.int (left - (own:Int))) (L1:=M) (L2:=M) ?_ rfl (Jx _ hd)
    simp only[f2_eq,fVar_eq,fC_eq,List.getElem?_cons_succ,List.getElem?_cons_zero,Option.join_some,Option.map_some,Option.bind_some,semAdd_int,hix]
  have hc:∀ (own:Nat) (ahead:Int),Ew [x0,x1,x2,some (.ref q),x4,some (.int left),some (.int ahead),some (.int (k:Int)),some (.int (own:Int))] M=some (decide (Bq ws (left - (own:Int))≤ahead),M):=by
    intro own ahead
    unfold Ew
    have v6:Ad 6 [x0,x1,x2,some (.ref q),x4,some (.int left),some (.int ahead),some (.int (k:Int)),some (.int (own:Int))] M=some (.int ahead,M):=rfl
    rw[G2,f2_eq,v6,Option.bind_some,hw,Option.bind_some]
    rfl
  have hb:∀ (own:Nat) (ahead:Int),Fw [x0,x1,x2,some (.ref q),x4,some (.int left),some (.int ahead),some (.int (k:Int)),some (.int (own:Int))] M=some (.nx [x0,x1,x2,some (.ref q),x4,some (.int left),some (.int (ahead - Bq ws (left - (own:Int)))),some (.int (k:Int)),some (.int ((own+1:Nat):Int))],M):=by
    intro own ahead
    have v6:Ad 6 [x0,x1,x2,some (.ref q),x4,some (.int left),some (.int ahead),some (.int (k:Int)),some (.int (own:Int))] M=some (.int ahead,M):=rfl
    have e1:(f2 A7 (Ad 6) (A9 2 Bt (Ac (f2 Ap (Ad 3) (f2 Ao (Ad 7) (fC (.int 1)))) (Ac (f2 A7 (Ad 5) (Ad 8)) Ag)))) [x0,x1,x2,some (.ref q),x4,some (.int left),some (.int ahead),some (.int (k:Int)),some (.int (own:Int))] M=some (.int (ahead - Bq ws (left - (own:Int))),M):=by
      rw[f2_eq,v6,Option.bind_some,hw];rfl
    have s1:=Ld (i:=6) e1
    simp only[List.set_cons_succ,List.set_cons_zero] at s1
    unfold Fw
    rw[Ak s1]
    rfl
  intro f
  induction f with
  | zero=>
    intro own ahead n h1 h2 h3 h4
    obtain ⟨n,rfl⟩:∃ n',n=n'+1:=⟨n - 1,by omega⟩
    unfold Fy
    rw[Nat.add_zero,Dl] at h2
    have:¬ Bq ws (left - (own:Int))≤ahead:=by omega
    rw[hc,decide_eq_false this,Nat.add_zero,Int.sub_self,Int.sub_zero]
    rfl
  | succ f ih=>
    intro own ahead n h1 h2 h3 h4
    obtain ⟨n,rfl⟩:∃ n',n=n'+1:=⟨n - 1,by omega⟩
    unfold Fy
    have hs:=Dl ws left own
    have h5:=h3 own (by omega) (by omega)
    have:Bq ws (left - (own:Int))≤ahead:=by omega
    rw[hc,decide_eq_true this,Option.bind_some,if_pos rfl,hb,Option.bind_some]
    dsimp only
    rw[show own+(f+1)=own+1+f by omega] at h1 h2 ⊢
    rw[ih (own+1) (ahead - Bq ws (left - (own:Int))) n (by omega) (by omega) (fun i a b=>by have:=h3 i (by omega) (by omega);omega) (by omega)]
    have e:ahead - Bq ws (left - (own:Int)) - (Ct ws left (own+1+f) - Ct ws left (own+1))=ahead - (Ct ws left (own+1+f) - Ct ws left own):=by omega
    rw[e]
theorem Q8{cs:List Int}(hm:cs.length≤12)(hg:Kg cs)(L:UH):∃ L',B4 [.int (cs.length:Int),.int cs.sum,.int (ahv cs cs.length)] L=some (.tup ((rb cs cs.length (B9 cs.length)).map U.int),L')∧Gw L L':=by
  obtain ⟨q,ds,L1,e1,hq,hdl,hds,g1⟩:=Jk hm L
  have r0:=Rx hm hg cs.length 0 (by omega)
  have a0:ahv cs 0=0:=rfl
  have l0:By cs 0=cs.sum:=by unfold By;simp
  unfold rest at r0
  rw[a0,l0,Int.sub_zero] at r0
  have s1:(Az (A9 1 Bs (Ac (Ad 0) Ag)) (gN 3)) [some (.int (cs.length:Int)),some (.int cs.sum),some (.int (ahv cs cs.length)),none,none,none,none,none,none] L=some (.nx [some (.int (cs.length:Int)),some (.int cs.sum),some (.int (ahv cs cs.length)),some (.ref q),none,none,none,none,none],L1):=Ld (Sa rfl e1)
  obtain ⟨r,hr1,hr2⟩:=hds 0 (by omega)
  rw[Nat.sub_zero] at hr2
  have hix0:Ap (.ref q) (.int 0) L1=some (.ref r,L1):=by
    rw[semIx_ref,An hq,Option.bind_some]
    have:=Sk (l:=ds.map U.ref) (k:=0) (u:=.ref r) (by rw[List.getElem?_map,hr1];rfl)
    have h0:((0:Nat):Int)=0:=rfl
    rw[h0] at this
    rw[this]
    rfl
  have s2:(G0 (fOr (Bx (f2 Eh (Ad 2) (fC (.int 0)))) (Bx (f2 Kh (Ad 2) (A9 2 Bt (Ac (f2 Ap (Ad 3) (fC (.int 0))) (Ac (Ad 1) Ag)))))) Lj Dr) [some (.int (cs.length:Int)),some (.int cs.sum),some (.int (ahv cs cs.length)),some (.ref q),none,none,none,none,none] L1=some (.nx [some (.int (cs.length:Int)),some (.int cs.sum),some (.int (ahv cs cs.length)),some (.ref q),none,none,none,none,none],L1):=by
    refine Mc ?_
    have t1:(Bx (f2 Eh (Ad 2) (fC (.int 0)))) [some (.int (cs.length:Int)),some (.int cs.sum),some (.int (ahv cs cs.length)),some (.ref q),none,none,none,none,none] L1=some (decide (ahv cs cs.length < 0),L1):=rfl
    have w1:(A9 2 Bt (Ac (f2 Ap (Ad 3) (fC (.int 0))) (Ac (Ad 1) Ag))) [some (.int (cs.length:Int)),some (.int cs.sum),some (.int (ahv cs cs.length)),some (.ref q),none,none,none,none,none] L1=some (.int (Bq (Wj cs.length cs.length) cs.sum),L1):=by
      refine Aeh (u:=.ref r) (w:=.int cs.sum) (L1:=L1) (L2:=L1) ?_ rfl (Jx _ hr2)
      simp only[f2_eq,fVar_eq,fC_eq,List.getElem?_cons_succ,List.getElem?_cons_zero,Option.join_some,Option.map_some,Option.bind_some,hix0]
    have t2:(Bx (f2 Kh (Ad 2) (A9 2 Bt (Ac (f2 Ap (Ad 3) (fC (.int 0))) (Ac (Ad 1) Ag))))) [some (.int (cs.length:Int)),some (.int cs.sum),some (.int (ahv cs cs.length)),some (.ref q),none,none,none,none,none] L1=some (decide (Bq (Wj cs.length cs.length) cs.sum≤ahv cs cs.length),L1):=by
      have v2:Ad 2 [some (.int (cs.length:Int)),some (.int cs.sum),some (.int (ahv cs cs.length)),some (.ref q),none,none,none,none,none] L1=some (.int (ahv cs cs.length),L1):=rfl
      rw[G2,f2_eq,v2,Option.bind_some,w1,Option.bind_some]
      rfl
    rw[Ro,t1,decide_eq_false (by omega),Option.bind_some,if_neg (by simp),t2,decide_eq_false (by omega)]
  have s3:(Az (C2 Ag) (gN 4)) [some (.int (cs.length:Int)),some (.int cs.sum),some (.int (ahv cs cs.length)),some (.ref q),none,none,none,none,none] L1=some (.nx [some (.int (cs.length:Int)),some (.int cs.sum),some (.int (ahv cs cs.length)),some (.ref q),some (.ref L1.length),none,none,none,none],L1++[.lst []]):=Ld (Nu rfl (by simp))
  have s4:(Az (Ad 1) (gN 5)) [some (.int (cs.length:Int)),some (.int cs.sum),some (.int (ahv cs cs.length)),some (.ref q),some (.ref L1.length),none,none,none,none] (L1++[.lst []])=some (.nx [some (.int (cs.length:Int)),some (.int cs.sum),some (.int (ahv cs cs.length)),some (.ref q),some (.ref L1.length),some (.int cs.sum),none,none,none],L1++[.lst []]):=rfl
  have s5:(Az (Ad 2) (gN 6)) [some (.int (cs.length:Int)),some (.int cs.sum),some (.int (ahv cs cs.length)),some (.ref q),some (.ref L1.length),some (.int cs.sum),none,none,none] (L1++[.lst []])=some (.nx [some (.int (cs.length:Int)),some (.int cs.sum),some (.int (ahv cs cs.length)),some (.ref q),some (.ref L1.length),some (.int cs.sum),some (.int (ahv cs cs.length)),none,none],L1++[.lst []]):=rfl
  have hi:C3 (Ac (Ad 0) Ag) [some (.int (cs.length:Int)),some (.int cs.sum),some (.int (ahv cs cs.length)),some (.ref q),some (.ref L1.length),some (.int cs.sum),some (.int (ahv cs cs.length)),none,none] (L1++[.lst []])=some (.seq (Ay 0 cs.length),L1++[.lst []]):=Fg rfl (by omega)
  obtain ⟨δ',L',e,P⟩:=Dd (us:=Ay 0 cs.length) (body:=Ht) (g:=gN 7)
    (fun k δ' L'=>∃ (y7 y8:Option U),δ'=[some (.int (cs.length:Int)),some (.int cs.sum),some (.int (ahv cs cs.length)),some (.ref q),some (.ref L1.length),some (.int (By cs k)),some (.int (rest cs k)),y7,y8]∧L'[L1.length]? = some (.lst ((cs.take k).map U.int))∧Gw L1 L') hi
    ⟨none,none,by unfold rest;rw[a0,l0,Int.sub_zero],by simp,Gw.new L1 _⟩
    (fun k u δ M hu hP=>by
      obtain ⟨y7,y8,hδ,h1,gM⟩:=hP
      subst hδ
      have hk:k < cs.length:=by
        have:=(List.getElem?_eq_some_iff.mp hu).1
        unfold Ay at this
        simpa using this
      have hue:u = .int (k:Int):=by
        unfold Ay at hu
        rw[List.getElem?_map,List.getElem?_range hk] at hu
        have:u=U.int ((0:Int)+(k:Nat)):=(Option.some.inj hu).symm
        rw[Int.zero_add] at this
        exact this
      subst hue
      obtain ⟨r,hr1,hr2⟩:=hds (k+1) (by omega)
      obtain ⟨c1,c2⟩:=Rc hg hk
      obtain ⟨c,hc⟩:∃ c:Nat,cs.getD k 0=c:=⟨(cs.getD k 0).toNat,by omega⟩
      have ro:=Rx hm hg (cs.length - (k+1)) (k+1) (by omega)
      have ae:=Ky cs k
      rw[Hf hk] at ro
      rw[hc,Int.toNat_natCast] at ae
      rw[hc] at ro
      have hup:=fun a b h=>Rr hm (by omega:cs.length - (k+1)≤12) (By cs k) a b h
      have z:Ct (Wj cs.length (cs.length - (k+1))) (By cs k) 0=0:=rfl
      have ss:=Dl (Wj cs.length (cs.length - (k+1))) (By cs k) c
      have w:=Aaf (left:=By cs k) (gM.get hq) hr1 (gM.get hr2) (some (.int (cs.length:Int))) (some (.int cs.sum)) (some (.int (ahv cs cs.length))) (some (.ref L1.length)) c 0 (rest cs k) 100000
        (by rw[Nat.zero_add,z];unfold rest at ro ⊢;omega) (by rw[Nat.zero_add,z];unfold rest at ro ⊢;omega) (fun i _ b=>by rw[z];have:=hup (i+1) c (by omega);unfold rest at ro ⊢;omega) (by omega)
      rw[Nat.zero_add,z,Int.sub_zero] at w
      have er:rest cs k - Ct (Wj cs.length (cs.length - (k+1))) (By cs k) c=rest cs (k+1):=by unfold rest;omega
      rw[er] at w
      have ap:=Gz (.int (c:Int)) h1 (by simp;omega)
      have hx:(cs.take k).map U.int++[.int (c:Int)]=(cs.take (k+1)).map U.int:=by rw[Hw hk,hc];simp
      rw[hx] at ap
      have ty:=G4 h1
      refine ⟨[some (.int (cs.length:Int)),some (.int cs.sum),some (.int (ahv cs cs.length)),some (.ref q),some (.ref L1.length),some (.int (By cs k)),some (.int (rest cs k)),some (.int (k:Int)),y8],M,rfl,[some (.int (cs.length:Int)),some (.int cs.sum),some (.int (ahv cs cs.length)),some (.ref q),some (.ref L1.length),some (.int (By cs (k+1))),some (.int (rest cs (k+1))),some (.int (k:Int)),some (.int (c:Int))],M.set L1.length (.lst ((cs.take (k+1)).map U.int)),.inl ?_,_,_,rfl,List.getElem?_set_self (List.getElem?_eq_some_iff.mp h1).1,gM.set (Nat.le_refl _) _⟩
      have t1:(Az (fC (.int 0)) (gN 8)) [some (.int (cs.length:Int)),some (.int cs.sum),some (.int (ahv cs cs.length)),some (.ref q),some (.ref L1.length),some (.int (By cs k)),some (.int (rest cs k)),some (.int (k:Int)),y8] M=some (.nx [some (.int (cs.length:Int)),some (.int cs.sum),some (.int (ahv cs cs.length)),some (.ref q),some (.ref L1.length),some (.int (By cs k)),some (.int (rest cs k)),some (.int (k:Int)),some (.int ((0:Nat):Int))],M):=rfl
      have t3:(Et (Gk "list" Cu (Ad 4) (Ac (Ad 8) Ag))) [some (.int (cs.length:Int)),some (.int cs.sum),some (.int (ahv cs cs.length)),some (.ref q),some (.ref L1.length),some (.int (By cs k)),some (.int (rest cs (k+1))),some (.int (k:Int)),some (.int (c:Int))] M=some (.nx [some (.int (cs.length:Int)),some (.int cs.sum),some (.int (ahv cs cs.length)),some (.ref q),some (.ref L1.length),some (.int (By cs k)),some (.int (rest cs (k+1))),some (.int (k:Int)),some (.int (c:Int))],M.set L1.length (.lst ((cs.take (k+1)).map U.int))):=by
        simp only[Ee,fMeth_eq,fVar_eq,fCons_eq,fNil_eq,List.getElem?_cons_succ,List.getElem?_cons_zero,Option.join_some,Option.map_some,Option.bind_some,ty,if_true,ap]
      have el:By cs (k+1)=By cs k - (c:Int):=by rw[Hf hk,hc]
      unfold Ht
      rw[Ak t1,Ak w,Ak t3,el]
      rfl)
  obtain ⟨y7,y8,hδ,h1,gM⟩:=P
  have hnl:(Ay 0 cs.length).length=cs.length:=by unfold Ay;simp
  rw[hnl,List.take_length] at h1
  rw[hnl] at hδ
  rw[hδ] at e
  obtain ⟨L6,e6,g6⟩:=Y2 (u:=.ref L1.length) (cs:=cs) (.inr ⟨_,rfl,h1⟩) (by omega) hg
  refine ⟨L6,?_,g1.trans (gM.trans g6)⟩
  unfold B4 fnU Qu
  simp only[List.length_cons,List.length_nil,if_true,List.map_cons,List.map_nil,List.replicate,List.cons_append,List.nil_append]
  rw[Ak s1,Ak s2,Ak s3,Ak s4,Ak s5,Ak e,fRet_eq,Sa rfl e6]
  rfl
theorem Ac2{n:Int}(h:Ff n=true):(Vh n).length≤40:=by
  unfold Ff at h
  simp only[Bool.and_eq_true,decide_eq_true_eq] at h
  have e:(Vh n).length=(toString n).length:=by
    unfold Vh
    rw[show (Str.ofString (toString n)).length=(Str.ofString (toString n)).cps.toList.length from by simp[Str.length],Str.ofString_eq_toList,List.toList_toArray,List.length_map,String.length_toList]
  rw[e]
  have hp:(10:Nat) ^ 21=1000000000000000000000:=by decide
  have k:∀ m:Nat,m≤100000000000000000000→(Nat.repr m).length≤21:=fun m hm=>(Nat.length_repr_le_iff (by decide)).mpr (by rw[hp];omega)
  cases n with
  | ofNat m=>
    have:=k m (by have:=h.2;simp only[Int.ofNat_eq_natCast] at this;omega)
    show (Nat.repr m).length≤40
    omega
  | negSucc m=>
    have:=k (m+1) (by have:=h.1;omega)
    show ("-" ++ Nat.repr (m+1)).length≤40
    rw[String.length_append]
    have h1:("-" : String).length=1:=rfl
    omega
theorem Ahw(a b:Str):(a++b).length=a.length+b.length:=by
  show (a.cps++b.cps).size=a.cps.size+b.cps.size
  rw[Array.size_append]
theorem Qf{δ:UE}{L:UH}:∀ (fs:List FE) (out:Str),(∀ f∈fs,∃ x:Str,f δ L=some (.str x,L)∧x.length≤1000)→out.length+1000 * fs.length≤16777216→∃ s,goJ out fs δ L=some (.str s,L)
  | [],out,_,_=>⟨out,rfl⟩
  | f::r,out,h,hl=>by
    obtain ⟨x,e,hx⟩:=h f List.mem_cons_self
    rw[List.length_cons] at hl
    have hb:(out++x).length+1000 * r.length≤16777216:=by rw[Ahw];omega
    obtain ⟨s,hs⟩:=Qf r (out++x) (fun g hg=>h g (List.mem_cons_of_mem _ hg)) hb
    refine ⟨s,?_⟩
    unfold goJ
    simp only[e,Option.bind_some]
    rw[if_pos (Ce (by omega)),hs]
theorem Aal{δ:UE}{L:UH}(fs:List FE)(h:∀ f∈fs,∃ x:Str,f δ L=some (.str x,L)∧x.length≤1000)(hl:fs.length≤100):∃ s,Rj fs δ L=some (.str s,L):=Qf fs Str.empty h (by show 0+_≤_;omega)
theorem Rw{δ:UE}{L:UH}{f:FE}{n:Int}(h:f δ L=some (.int n,L))(hf:Ff n=true):∃ x:Str,Q6 f δ L=some (.str x,L)∧x.length≤1000:=by
  refine ⟨Vh n,?_,Nat.le_trans (Ac2 hf) (by decide)⟩
  unfold Q6
  simp only[h,Option.bind_some]
  rw[if_pos hf]
theorem Sr{δ:UE}{L:UH}(x:Str)(h:x.length≤1000):∃ y:Str,fC (.str x) δ L=some (.str y,L)∧y.length≤1000:=⟨x,rfl,h⟩
theorem Xu{C:Str}{Cs:List Str}(hC:C∈Cs)(u:U)(M:UH):fnU 2 2 (Et (Kz Cs (Ac (Ad 0) (Ac (Ad 1) Ag)))) [.ref M.length,u] (M++[.exc C true []])=some (.non,M++[.exc C true []]):=by
  have h1:(M++[HU.exc C true []])[M.length]? = some (.exc C true []):=by simp
  have h2:(Kz Cs (Ac (Ad 0) (Ac (Ad 1) Ag))) [some (.ref M.length),some u] (M++[.exc C true []])=some (.non,M++[.exc C true []]):=by
    unfold Kz
    simp only[fCons_eq,fNil_eq,fVar_eq,List.getElem?_cons_succ,List.getElem?_cons_zero,Option.join_some,Option.map_some,Option.bind_some,h1]
    rw[if_pos hC]
  unfold fnU
  simp only[List.length_cons,List.length_nil,if_true,List.map_cons,List.map_nil,Nat.sub_self,List.replicate_zero,List.append_nil]
  rw[Ee,h2]
  rfl
theorem Adq{C:Str}{F:FN}{g:FA}{δ:UE}{L L1:UH}{u:U}{fs:List (Str×U)}(hg:g δ L=some ([u],L1))(hF:F [.ref L1.length,u] (L1++[.exc C true []])=some (.non,L1++[.exc C true fs])) :
    Oc C 2 F g δ L=some (.ref L1.length,L1++[.exc C true fs]):=by
  unfold Oc
  simp only[hg,Option.bind_some]
  rw[if_pos ⟨rfl,by simp⟩,hF]
  rfl
theorem Ya{C:Str}{Cs:List Str}{F:FN}{g:FA}{δ:UE}{L L1:UH}{u:U}{fs:List (Str×U)}(hC:C∈Cs)(hg:g δ L=some ([u],L1))(hF:F [.ref L1.length,u] (L1++[.exc C true []])=some (.non,L1++[.exc C true fs])) :
    R4 Cs (Oc C 2 F g) δ L=some (L1.length,δ,L1++[.exc C false fs]):=by
  have h1:(L1++[HU.exc C true fs])[L1.length]? = some (.exc C true fs):=by simp
  unfold R4
  rw[Adq hg hF]
  simp only[Option.bind_some,h1]
  rw[if_pos hC]
  simp
theorem Aio{N m n:Nat}{x:XS}{us:List U}{L L':UH}{δ':UE}(hl:us.length=m)(h:x (us.map some++List.replicate (N - us.length) none) L=some (n,δ',L')):fnX N m x us L=some (n,L'):=by
  unfold fnX
  rw[if_pos hl,h]
  rfl
theorem Amc{c:FT}{x y:XS}{δ:UE}{L L1:UH}(h:c δ L=some (true,L1)):xIf c x y δ L=x δ L1:=by unfold xIf;rw[h];rfl
theorem Ace{f:FS}{x y:XS}{δ:UE}{L:UH}{r:Nat×UE×UH}(h:x δ L=some r):Ph f x y δ L=some r:=by unfold Ph;rw[h]
theorem Ago{f:FS}{x y:XS}{δ δ1:UE}{L L1:UH}(h:x δ L=none)(hf:f δ L=some (.nx δ1,L1)):Ph f x y δ L=y δ1 L1:=by unfold Ph;rw[h,hf]
theorem Ae2{x:XE}{δ:UE}{L L':UH}{n:Nat}(h:x δ L=some (n,L')):xOf x δ L=some (n,δ,L'):=by unfold xOf;rw[h];rfl
theorem Ae5{b suite:FS}{x:XS}{Cs:List Str}{i n:Nat}{δ δ1 δ2:UE}{L L1 L2:UH}{C:Str}{fr:Bool}{fs:List (Str×U)}(h:x δ L=some (n,δ1,L1))(hL:L1[n]? = some (.exc C fr fs))(hC:C∈Cs)
    (hs:suite (δ1.set i (some (.ref n))) L1=some (.nx δ2,L2)):Yk b x Cs i suite δ L=some (.nx (δ2.set i none),L2):=by
  unfold Yk
  simp only[h,hL]
  rw[if_pos hC,hs]
  rfl
theorem Pt{Cs:List Str}{L:UH}{n:Nat}{C:Str}{fr:Bool}{fs:List (Str×U)}(hL:L[n]? = some (.exc C fr fs))(hC:C∈Cs):Pk Cs (.ref n) L=some (n,C,fs):=by
  unfold Pk
  simp only[hL]
  rw[if_pos hC]
theorem Aif{Cs:List Str}{D C:Str}{f:FE}{δ:UE}{L:UH}{n:Nat}{fr:Bool}{fs:List (Str×U)}(h:f δ L=some (.ref n,L))(hL:L[n]? = some (.exc C fr fs))(hC:C∈Cs):Q3 Cs D f δ L=some (.bl (isX C D),L):=by
  unfold Q3
  simp only[h,Option.bind_some,Pt hL hC,Option.map_some]
theorem Af6{Cs Dn:List Str}{C:Str}{f:FE}{δ:UE}{L:UH}{n:Nat}{fr:Bool}{fs:List (Str×U)}(h:f δ L=some (.ref n,L))(hL:L[n]? = some (.exc C fr fs))(hC:C∈Cs):Qa Cs Dn f δ L=some (.bl (Dn.any (isX C)),L):=by
  unfold Qa
  simp only[h,Option.bind_some,Pt hL hC,Option.map_some]
noncomputable def Dt(many:Nat):List Nat:=(List.range (many - 1)).map (· + 1)
theorem add1(t size:Nat):(t:Int) - ((size+1:Nat):Int)+1=(t:Int) - (size:Int):=by omega
theorem Aac{L:UH}{r ℓ:Nat}{ws:List Int}{size:Nat}(hr:L[r]? = some (.lst (ws.map U.int)))(hl:L[ℓ]? = some (.lst []))(hne:r≠ℓ)(hw:ws.length≤1000)(hs:size≤100)(x0 x4:Option U) :
    ∃ (y4:Option U) (L':UH),(Dx (C3 (Ac (f2 A7 (f2 Ao (Ax Au (Ac (Ad 1) Ag)) (Ad 2)) (fC (.int 1))) Ag)) (gN 4) Hb) [x0,some (.ref r),some (.int ((size+1:Nat):Int)),some (.ref ℓ),x4] L=some (.nx [x0,some (.ref r),some (.int ((size+1:Nat):Int)),some (.ref ℓ),y4],L')∧L'[ℓ]? = some (.lst ((more ws size).map U.int))∧L'[r]? = some (.lst (ws.map U.int))∧(∀ K:UH,Gw K L→K.length≤ℓ→Gw K L'):=by
  have hlen:=G8 hr
  rw[List.length_map] at hlen
  have hi:C3 (Ac (f2 A7 (f2 Ao (Ax Au (Ac (Ad 1) Ag)) (Ad 2)) (fC (.int 1))) Ag) [x0,some (.ref r),some (.int ((size+1:Nat):Int)),some (.ref ℓ),x4] L=some (.seq (Ay 0 (ws.length+size)),L):=by
    refine Fg ?_ (by omega)
    have:(ws.length:Int)+((size+1:Nat):Int) - 1=((ws.length+size:Nat):Int):=by omega
    simp only[fCons_eq,fNil_eq,f2_eq,fCall_eq,fC_eq,fVar_eq,List.getElem?_cons_succ,List.getElem?_cons_zero,Option.join_some,Option.map_some,Option.bind_some,hlen,semAdd_int,semSub_int,this]
  obtain ⟨δ',L',e,P⟩:=Dd (us:=Ay 0 (ws.length+size)) (body:=Hb) (g:=gN 4)
    (fun k δ' L'=>∃ y4:Option U,δ'=[x0,some (.ref r),some (.int ((size+1:Nat):Int)),some (.ref ℓ),y4]∧L'[ℓ]? = some (.lst (((List.range k).map (Hn ws size)).map U.int))∧L'[r]? = some (.lst (ws.map U.int))∧(∀ K:UH,Gw K L→K.length≤ℓ→Gw K L'))
    hi ⟨x4,rfl,by simpa using hl,hr,fun K g _=>g⟩
    (fun k u δ M hu zz=>by
      obtain ⟨y4,hδ,hf,hrM,hK⟩:=zz
      subst hδ
      obtain ⟨hk,rfl⟩:=Hg hu
      have h0:(0:Int)+(k:Int)=(k:Int):=by omega
      rw[h0]
      have hst:=Uv (An hrM) size k
      have c1:(f2 Ao (Ad 4) (fC (.int 1))) [x0,some (.ref r),some (.int ((size+1:Nat):Int)),some (.ref ℓ),some (.int (k:Int))] M=some (.int ((k+1:Nat):Int),M):=by
        show some (U.int ((k:Int)+1),M)=_
        have:(k:Int)+1=((k+1:Nat):Int):=by omega
        rw[this]
      have c2:(Ax Jo (Ac (fC (.int 0)) (Ac (f2 Ao (f2 A7 (Ad 4) (Ad 2)) (fC (.int 1))) Ag))) [x0,some (.ref r),some (.int ((size+1:Nat):Int)),some (.ref ℓ),some (.int (k:Int))] M=some (.int ((k - size:Nat):Int),M):=by
        simp only[fCall_eq,fCons_eq,fNil_eq,fC_eq,f2_eq,fVar_eq,List.getElem?_cons_succ,List.getElem?_cons_zero,Option.join_some,Option.map_some,Option.bind_some,semSub_int,semAdd_int,add1,Al9]
      have c3:(Ax semSum (Ac (fSl semSl (Ad 1) (Jl (Ax Jo (Ac (fC (.int 0)) (Ac (f2 Ao (f2 A7 (Ad 4) (Ad 2)) (fC (.int 1))) Ag)))) (Jl (f2 Ao (Ad 4) (fC (.int 1))))) Ag)) [x0,some (.ref r),some (.int ((size+1:Nat):Int)),some (.ref ℓ),some (.int (k:Int))] M=some (.int (Hn ws size k),M++[.lst (((ws.drop (min (k - size) ws.length)).take (min (k+1) ws.length - min (k - size) ws.length)).map U.int)]):=by
        rw[← hst,fCall_eq,fCons_eq,Aa1]
        simp only[Ud,c1,c2,fNil_eq,fVar_eq,List.getElem?_cons_succ,List.getElem?_cons_zero,Option.join_some,Option.map_some,Option.bind_some]
        cases semSl (.ref r) (some ((k - size:Nat):Int)) (some ((k+1:Nat):Int)) M <;> rfl
      generalize hM1:M++[HU.lst (((ws.drop (min (k - size) ws.length)).take (min (k+1) ws.length - min (k - size) ws.length)).map U.int)]=M1 at c3
      have gM:Gw M M1:=⟨_,hM1.symm⟩
      have hf1:=gM.get hf
      have ap:=Gz (.int (Hn ws size k)) hf1 (by simp;omega)
      have hx:((List.range k).map (Hn ws size)).map U.int++[.int (Hn ws size k)]=((List.range (k+1)).map (Hn ws size)).map U.int:=by rw[List.range_succ];simp
      rw[hx] at ap
      have ty:=G4 hf
      refine ⟨[x0,some (.ref r),some (.int ((size+1:Nat):Int)),some (.ref ℓ),some (.int (k:Int))],M,rfl,[x0,some (.ref r),some (.int ((size+1:Nat):Int)),some (.ref ℓ),some (.int (k:Int))],M1.set ℓ (.lst (((List.range (k+1)).map (Hn ws size)).map U.int)),.inl ?_,_,rfl,List.getElem?_set_self (List.getElem?_eq_some_iff.mp hf1).1,by rw[List.getElem?_set_ne (Ne.symm hne)];exact gM.get hrM,fun K g hK2=>((hK K g hK2).trans gM).set hK2 _⟩
      unfold Hb
      rw[Ee,fMeth_eq]
      simp only[fVar_eq,List.getElem?_cons_succ,List.getElem?_cons_zero,Option.join_some,Option.map_some,Option.bind_some,ty,if_true]
      rw[fCons_eq,c3]
      simp only[Option.bind_some,fNil_eq,Option.map_some,ap])
  obtain ⟨y4,hδ,hf,hrM,hK⟩:=P
  rw[G3] at hf
  rw[hδ] at e
  exact ⟨y4,L',e,hf,hrM,hK⟩
theorem Yb{many:Nat}(hm:many≤12):(Dt many).sum≤200:=by
  have:∀ m,m < 13→(Dt m).sum≤200:=by decide
  exact this many (by omega)
theorem Y3(many k:Nat)(hm:many≤12):(((Dt many).take k).foldl more [1]).length≤1000:=by
  have h1:((Dt many).take k).sum≤(Dt many).sum:=by
    conv=>rhs;rw[← List.take_append_drop k (Dt many)]
    rw[List.sum_append];omega
  have h2:=Yb hm
  rw[Om]
  have:([1]:List Int).length=1:=rfl
  omega
theorem Agw(many:Nat):((Dt many).take (many - 1)).foldl more [1]=Br many:=by
  have hpt:(Dt many).take (many - 1)=Dt many:=List.take_of_length_le (by simp[Dt])
  rw[hpt];unfold Dt Br;rfl
theorem U3{many k:Nat}(hk:k < many - 1):((Dt many).take (k+1)).foldl more [1]=more (((Dt many).take k).foldl more [1]) (k+1):=by
  have hsl:(Dt many).length=many - 1:=by simp[Dt]
  rw[Qy more (Dt many) k (by rw[hsl];exact hk)]
  have:(Dt many)[k]'(by rw[hsl];exact hk)=k+1:=by simp[Dt]
  rw[this]
theorem Yi{M:UH}{r:Nat}{ws:List Int}{k:Nat}(hr:M[r]? = some (.lst (ws.map U.int)))(hwl:ws.length≤1000)(hk:k≤50)(x0 y3 y4:Option U) :
    ∃ (z4:Option U) (M':UH),He [x0,some (.ref r),some (.int (((k+1)+1:Nat):Int)),y3,y4] M=some (.nx [x0,some (.ref M.length),some (.int (((k+1)+1:Nat):Int)),some (.ref M.length),z4],M')∧M'[M.length]? = some (.lst ((more ws (k+1)).map U.int))∧Gw M M':=by
  have sm0:small ([]:List U).length=true:=Ce (by show 0≤16777216;decide)
  have t1:(Az (C2 Ag) (gN 3)) [x0,some (.ref r),some (.int (((k+1)+1:Nat):Int)),y3,y4] M=some (.nx [x0,some (.ref r),some (.int (((k+1)+1:Nat):Int)),some (.ref M.length),y4],M++[.lst []]):=by
    rw[Cj,fLst_eq,fNil_eq,Option.bind_some,if_pos sm0];rfl
  have hrlt:=(List.getElem?_eq_some_iff.mp hr).1
  obtain ⟨z4,M',e1,h1,h2',h3⟩:=Aac (L:=M++[.lst []]) (ℓ:=M.length) (size:=k+1) ((Gw.new M _).get hr) (by simp) (by omega) hwl (by omega) x0 y4
  have t3:(Az (Ad 3) (gN 1)) [x0,some (.ref r),some (.int (((k+1)+1:Nat):Int)),some (.ref M.length),z4] M'=some (.nx [x0,some (.ref M.length),some (.int (((k+1)+1:Nat):Int)),some (.ref M.length),z4],M'):=by
    simp only[Cj,fVar_eq,gN_eq,List.getElem?_cons_succ,List.getElem?_cons_zero,Option.join_some,Option.map_some,Option.bind_some,List.set_cons_succ,List.set_cons_zero]
  refine ⟨z4,M',?_,h1,h3 M (Gw.new _ _) (Nat.le_refl _)⟩
  unfold He
  rw[Ak t1,Ak e1,t3]
theorem Agr{g:FA}{δ:UE}{L L':UH}{i j:Int}(hg:g δ L=some ([.int i,.int j],L'))(h0:0≤i)(h1:i < 1000000)(h2:0≤j)(h3:j < 1000000):Pu g δ L=some (.seq (Ay i (j - i).toNat),L'):=by
  rw[Abu,hg]
  simp only[Option.bind_some]
  rw[if_pos ⟨⟨by omega,by omega⟩,by omega,by omega⟩]
theorem Aem{many:Nat}(hm:many≤12)(L:UH):∃ (r:Nat) (L':UH),Ku [.int many] L=some (.ref r,L')∧L'[r]? = some (.lst ((Br many).map U.int))∧Gw L L':=by
  have sm1:∀ x:U,small [x].length=true:=fun _=>Ce (by show 1≤16777216;decide)
  have s1:(Az (C2 (Ac (fC (.int 1)) Ag)) (gN 1)) [some (.int many),none,none,none,none] L=some (.nx [some (.int many),some (.ref L.length),none,none,none],L++[.lst [.int 1]]):=by
    simp only[Cj,fLst_eq,fCons_eq,fC_eq,fNil_eq,Option.bind_some,Option.map_some]
    rw[if_pos (sm1 _)];rfl
  have hi:Pu (Ac (fC (.int 2)) (Ac (f2 Ao (Ad 0) (fC (.int 1))) Ag)) [some (.int many),some (.ref L.length),none,none,none] (L++[.lst [.int 1]])=some (.seq (Ay 2 (many - 1)),L++[.lst [.int 1]]):=by
    have h1:((many:Int)+1 - 2).toNat=many - 1:=by omega
    rw[← h1]
    refine Agr ?_ (by omega) (by omega) (by omega) (by omega)
    simp only[fCons_eq,fNil_eq,f2_eq,fC_eq,fVar_eq,List.getElem?_cons_zero,Option.join_some,Option.map_some,Option.bind_some,semAdd_int]
  obtain ⟨δ',L',e,P⟩:=Dd (us:=Ay 2 (many - 1)) (body:=He) (g:=gN 2)
    (fun k δ' L'=>∃ (y2 y3 y4:Option U) (r:Nat),δ'=[some (.int many),some (.ref r),y2,y3,y4]∧L'[r]? = some (.lst ((((Dt many).take k).foldl more [1]).map U.int))∧Gw L L')
    hi ⟨none,none,none,L.length,rfl,by simp,Gw.new _ _⟩
    (fun k u δ M hu zz=>by
      obtain ⟨y2,y3,y4,r,hδ,hr,g⟩:=zz
      subst hδ
      obtain ⟨hk,rfl⟩:=Hg hu
      have h2:(2:Int)+(k:Int)=(((k+1)+1:Nat):Int):=by omega
      rw[h2]
      obtain ⟨z4,M',e1,h1,h3⟩:=Yi hr (Y3 many k hm) (by omega:k≤50) (some (.int many)) y3 y4
      rw[← U3 hk] at h1
      exact ⟨[some (.int many),some (.ref r),some (.int (((k+1)+1:Nat):Int)),y3,y4],M,rfl,_,M',.inl e1,_,_,_,M.length,rfl,h1,g.trans h3⟩)
  obtain ⟨y2,y3,y4,r,hδ,hr,g⟩:=P
  rw[G3,Agw] at hr
  rw[hδ] at e
  refine ⟨r,L',?_,hr,g⟩
  generalize Br many=ww at hr
  unfold Ku fnU Ta
  simp only[List.length_cons,List.length_nil,if_true,List.map_cons,List.map_nil,List.replicate,List.cons_append,List.nil_append]
  rw[Ak s1,Ak e,fRet_eq,fVar_eq]
  simp only[List.getElem?_cons_succ,List.getElem?_cons_zero,Option.join_some,Option.map_some,Option.bind_some]
noncomputable abbrev Cs5:List Str:=["NoPlace","NoAsk","NoPoints","NoCounts","NoName"]
theorem S9:("NoPlace" : Str)∈Cs5:=by decide
theorem U6(u:U)(M:UH):De [.ref M.length,u] (M++[.exc "NoPlace" true []])=some (.non,M++[.exc "NoPlace" true []]):=Xu S9 u M
theorem tx1:Str.length "there is no row " ≤ 1000:=by decide +kernel
theorem tx2:Str.length " of " ≤ 1000:=by decide +kernel
theorem tx3:Str.length " numbers with " ≤ 1000:=by decide +kernel
theorem tx4:Str.length " in all" ≤ 1000:=by decide +kernel
theorem Agd{m:Nat}(hm:m≤12)(count place:Int)(L:UH):∃ (q:Nat) (L1:UH),(Az (A9 1 Bs (Ac (Ad 0) Ag)) (gN 3)) [some (.int (m:Int)),some (.int count),some (.int place),none,none,none,none,none,none] L=some (.nx [some (.int (m:Int)),some (.int count),some (.int place),some (.ref q),none,none,none,none,none],L1) ∧
    (fOr (Bx (f2 Eh (Ad 2) (fC (.int 0)))) (Bx (f2 Kh (Ad 2) (A9 2 Bt (Ac (f2 Ap (Ad 3) (fC (.int 0))) (Ac (Ad 1) Ag)))))) [some (.int (m:Int)),some (.int count),some (.int place),some (.ref q),none,none,none,none,none] L1=some (decide (place < 0) || decide (Bq (Wj m m) count≤place),L1)∧Gw L L1:=by
  obtain ⟨q,ds,L1,e1,hq,hdl,hds,g1⟩:=Jk hm L
  obtain ⟨r,hr1,hr2⟩:=hds 0 (by omega)
  rw[Nat.sub_zero] at hr2
  have hix0:Ap (.ref q) (.int 0) L1=some (.ref r,L1):=by
    rw[semIx_ref,An hq,Option.bind_some]
    have:=Sk (l:=ds.map U.ref) (k:=0) (u:=.ref r) (by rw[List.getElem?_map,hr1];rfl)
    have h0:((0:Nat):Int)=0:=rfl
    rw[h0] at this
    rw[this]
    rfl
  refine ⟨q,L1,Ld (i:=3) (Sa (i:=0) rfl e1),?_,g1⟩
  have t1:(Bx (f2 Eh (Ad 2) (fC (.int 0)))) [some (.int (m:Int)),some (.int count),some (.int place),some (.ref q),none,none,none,none,none] L1=some (decide (place < 0),L1):=rfl
  have w1:(A9 2 Bt (Ac (f2 Ap (Ad 3) (fC (.int 0))) (Ac (Ad 1) Ag))) [some (.int (m:Int)),some (.int count),some (.int place),some (.ref q),none,none,none,none,none] L1=some (.int (Bq (Wj m m) count),L1):=by
    refine Aeh (u:=.ref r) (w:=.int count) (L1:=L1) (L2:=L1) ?_ rfl (Jx _ hr2)
    simp only[f2_eq,fVar_eq,fC_eq,List.getElem?_cons_succ,List.getElem?_cons_zero,Option.join_some,Option.map_some,Option.bind_some,hix0]
  have t2:(Bx (f2 Kh (Ad 2) (A9 2 Bt (Ac (f2 Ap (Ad 3) (fC (.int 0))) (Ac (Ad 1) Ag))))) [some (.int (m:Int)),some (.int count),some (.int place),some (.ref q),none,none,none,none,none] L1=some (decide (Bq (Wj m m) count≤place),L1):=by
    have v2:Ad 2 [some (.int (m:Int)),some (.int count),some (.int place),some (.ref q),none,none,none,none,none] L1=some (.int place,L1):=rfl
    rw[G2,f2_eq,v2,Option.bind_some,w1,Option.bind_some]
    rfl
  rw[Ro,t1,Option.bind_some]
  cases decide (place < 0) with
  | true=>rfl
  | false=>simp only[Bool.false_eq_true,if_false,t2,Bool.false_or]
theorem Alj{m:Nat}(hm:m≤12){count place:Int}(h:place < 0∨Bq (Wj m m) count≤place)(f1:Ff count=true)(f2':Ff place=true)(f3:Ff (m:Int)=true)(L:UH):∃ L1,Lm [.int (m:Int),.int count,.int place] L=some (L1.length,L1++[.exc "NoPlace" false []])∧Gw L L1:=by
  obtain ⟨q,L1,e1,e2,g1⟩:=Agd hm count place L
  have hb:(decide (place < 0) || decide (Bq (Wj m m) count≤place))=true:=by
    rcases h with h | h
    · rw[decide_eq_true h];rfl
    · rw[decide_eq_true h,Bool.or_true]
  rw[hb] at e2
  refine ⟨L1,Aio (by rfl) (δ':=[some (.int (m:Int)),some (.int count),some (.int place),some (.ref q),none,none,none,none,none]) ?_,g1⟩
  show J1 [some (.int (m:Int)),some (.int count),some (.int place),none,none,none,none,none,none] L=_
  unfold J1
  rw[Ago rfl e1]
  refine Ace ?_
  rw[Amc e2]
  obtain ⟨s,hs⟩:=Aal (δ:=[some (.int (m:Int)),some (.int count),some (.int place),some (.ref q),none,none,none,none,none]) (L:=L1) [(fC (.str "there is no row ")),(Q6 (Ad 2)),(fC (.str " of ")),(Q6 (Ad 0)),(fC (.str " numbers with ")),(Q6 (Ad 1)),(fC (.str " in all"))] (fun f hf=>by
    simp only[List.mem_cons,List.not_mem_nil,or_false] at hf
    rcases hf with rfl | rfl | rfl | rfl | rfl | rfl | rfl
    · exact Sr _ tx1
    · exact Rw rfl f2'
    · exact Sr _ tx2
    · exact Rw rfl f3
    · exact Sr _ tx3
    · exact Rw rfl f1
    · exact Sr _ tx4) (by show 7≤100;decide)
  exact Ya (L1:=L1) (u:=.str s) S9 (Ba hs rfl) (U6 _ _)
theorem Alq:(["NoAsk","NoCounts","NoName","NoPoints"]:List Str).any (isX "NoPlace")=false:=by decide
theorem Amd:isX "NoPlace" "NoPlace" = true:=by decide
theorem Alk:isX "NoPlace" "ValueError" = true:=by decide
theorem N3{m:Nat}(hm:m≤12){count place:Int}(h:place < 0∨Bq (Wj m m) count≤place)(f1:Ff count=true)(f2':Ff place=true)(f3:Ff (m:Int)=true)(L:UH):∃ L',Ej [.int (m:Int),.int count,.int place] L=some (.bl true,L')∧Gw L L':=by
  obtain ⟨L1,e1,g1⟩:=Alj hm h f1 f2' f3 L
  have s1:(Az (fC .non) (gN 3)) [some (.int (m:Int)),some (.int count),some (.int place),none,none] L=some (.nx [some (.int (m:Int)),some (.int count),some (.int place),some .non,none],L):=rfl
  have xo:Du [some (.int (m:Int)),some (.int count),some (.int place),some .non,none] L=some (L1.length,[some (.int (m:Int)),some (.int count),some (.int place),some .non,none],L1++[.exc "NoPlace" false []]):=by
    unfold Du
    refine Ae2 ?_
    unfold Ah1
    simp only[fCons_eq,fNil_eq,fVar_eq,List.getElem?_cons_succ,List.getElem?_cons_zero,Option.join_some,Option.map_some,Option.bind_some,List.length_cons,List.length_nil,if_true,e1]
  have atx:(L1++[HU.exc "NoPlace" false []])[L1.length]? = some (.exc "NoPlace" false []):=by simp
  have s2:(Yk Ga Du Cs5 4 Fj) [some (.int (m:Int)),some (.int count),some (.int place),some .non,none] L=some (.nx [some (.int (m:Int)),some (.int count),some (.int place),some (.ref L1.length),none],L1++[.exc "NoPlace" false []]):=
    Ae5 (b:=Ga) (suite:=Fj) (δ2:=[some (.int (m:Int)),some (.int count),some (.int place),some (.ref L1.length),some (.ref L1.length)]) xo atx S9 rfl
  have i1:∀ D,Q3 Cs5 D (Ad 3) [some (.int (m:Int)),some (.int count),some (.int place),some (.ref L1.length),none] (L1++[.exc "NoPlace" false []])=some (.bl (isX "NoPlace" D),L1++[.exc "NoPlace" false []]):=fun D=>Aif rfl atx S9
  have i2:Qa Cs5 ["NoAsk","NoCounts","NoName","NoPoints"] (Ad 3) [some (.int (m:Int)),some (.int count),some (.int place),some (.ref L1.length),none] (L1++[.exc "NoPlace" false []])=some (.bl ((["NoAsk","NoCounts","NoName","NoPoints"]:List Str).any (isX "NoPlace")),L1++[.exc "NoPlace" false []]):=Af6 rfl atx S9
  rw[Alq] at i2
  have j1:=i1 "ValueError"
  have j2:=i1 "NoPlace"
  rw[Alk] at j1
  rw[Amd] at j2
  have s3:(G0 (fOr (Lk (Qa Cs5 ["NoAsk","NoCounts","NoName","NoPoints"] (Ad 3))) (N8 (Lk (Q3 Cs5 "ValueError" (Ad 3))))) (C8 (fC (.bl false))) Dr) [some (.int (m:Int)),some (.int count),some (.int place),some (.ref L1.length),none] (L1++[.exc "NoPlace" false []])=some (.nx [some (.int (m:Int)),some (.int count),some (.int place),some (.ref L1.length),none],L1++[.exc "NoPlace" false []]):=by
    refine Mc ?_
    simp only[Ro,fNot_eq,fTru_eq,j1,i2,Option.bind_some,truU_bl,Option.map_some,Bool.not_true,Bool.false_eq_true,if_false]
  refine ⟨L1++[.exc "NoPlace" false []],?_,g1.trans (Gw.new _ _)⟩
  have un:fnU 5 3 Eg [.int (m:Int),.int count,.int place] L=((Eg [some (.int (m:Int)),some (.int count),some (.int place),none,none] L).bind fun p=>match p.1 with | .rt z=>some (z,p.2) | .nx _=>some (.non,p.2) | _=>none):=rfl
  unfold Ej
  rw[un]
  have fin:Eg [some (.int (m:Int)),some (.int count),some (.int place),none,none] L=some (.rt (.bl true),L1++[.exc "NoPlace" false []]):=by
    unfold Eg
    rw[Ak s1,Ak s2,Ak s3]
    exact Vw j2
  rw[fin]
  rfl
theorem U2{us:List U}{L:UH}{a b:Nat}{l:List Int}(h1:Am L a=some (l.map U.int))(h2:Am L b=some (l.map U.int)):Ip (.ref a) (.ref b) L=some (.bl false,L):=by
  have he:=Qo h1 h2 (Fv l) (Fv l)
  rw[Yx] at he
  exact he
theorem Q5{cs:List Int}(hm:cs.length≤12)(hg:Kg cs)(hc:∀ c∈cs,0≤c∧c≤1000)(L:UH):∃ L',Iu [.int (cs.length:Int),.int cs.sum,.int (ahv cs cs.length)] L=some (.bl true,L')∧Gw L L':=by
  obtain ⟨L1,e1,g1⟩:=Q8 hm hg L
  generalize hR:rb cs cs.length (B9 cs.length)=R at e1
  have up:(B9 cs.length).length=cs.length:=by simp
  have hperm:R.Perm (B9 cs.length):=by rw[← hR];exact Mt cs _ _ up
  have hcnt:Ru R=cs:=by rw[← hR,Wg cs _ _ up (Nat.le_refl _) (K2 _) hg,List.take_length]
  have hRl:R.length=cs.length:=by rw[hperm.length_eq,up]
  have hnd:R.Nodup:=hperm.nodup_iff.mpr ((K2 cs.length).imp fun h=>by omega)
  let δ1:UE:=[some (.int (cs.length:Int)),some (.int cs.sum),some (.int (ahv cs cs.length)),some (.tup (R.map U.int)),none]
  have own3:∀ {f:FN} {δ:UE} {M M':UH} {v:U},Ad 0 δ M=some (.int (cs.length:Int),M)→Ad 1 δ M=some (.int cs.sum,M)→Ad 2 δ M=some (.int (ahv cs cs.length),M)→f [.int (cs.length:Int),.int cs.sum,.int (ahv cs cs.length)] M=some (v,M')→(A9 3 f (Ac (Ad 0) (Ac (Ad 1) (Ac (Ad 2) Ag)))) δ M=some (v,M'):=by
    intro f δ M M' v h0 h1 h2 e
    rw[fOwn_eq,Ba h0 (Ba h1 (Ba h2 rfl))]
    simp only[Option.bind_some,List.length_cons,List.length_nil,if_true,e]
  have s1:(Az (A9 3 B4 (Ac (Ad 0) (Ac (Ad 1) (Ac (Ad 2) Ag)))) (gN 3)) [some (.int (cs.length:Int)),some (.int cs.sum),some (.int (ahv cs cs.length)),none,none] L=some (.nx δ1,L1):=Ld (i:=3) (own3 rfl rfl rfl e1)
  obtain ⟨L2,e2,g2⟩:=Ry R (fun a=>a) L1 (by omega)
  have n1:(N8 (Lk (A9 1 C9 (Ac (Ad 3) Ag)))) δ1 L1=some (false,L2):=by
    rw[fNot_eq,fTru_eq,Sa (i:=3) rfl e2];rfl
  have so:Gy R=B9 cs.length:=Um hperm ((K2 _).imp fun h=>by omega)
  have e5:(Ax semSortJ (Ac (Ad 3) Ag)) δ1 L2=some (.ref L2.length,L2++[.lst ((B9 cs.length).map U.int)]):=by
    rw[fCall_eq,Ba (u:=.tup (R.map U.int)) (L1:=L2) rfl rfl]
    simp only[Option.bind_some,semSortJ,toI_ints,so]
    rw[if_pos (by omega)]
  have c6:(Ac (fC (.int 1)) (Ac (f2 Ao (Ad 0) (fC (.int 1))) Ag)) δ1 (L2++[.lst ((B9 cs.length).map U.int)])=some ([.int 1,.int ((cs.length:Int)+1)],L2++[.lst ((B9 cs.length).map U.int)]):=rfl
  have e6:=Qx c6 (by omega)
  rw[Lz] at e6
  have at5:(L2++[HU.lst ((B9 cs.length).map U.int)])[L2.length]? = some (.lst ((B9 cs.length).map U.int)):=by simp
  generalize hL5:L2++[HU.lst ((B9 cs.length).map U.int)]=L5 at e5 e6 at5
  have q1:Am (L5++[HU.lst ((B9 cs.length).map U.int)]) L2.length=some ((B9 cs.length).map U.int):=seqAt_app (An at5)
  have q2:Am (L5++[HU.lst ((B9 cs.length).map U.int)]) L5.length=some ((B9 cs.length).map U.int):=An (by simp)
  have n3:(Bx (f2 Ip (Ax semSortJ (Ac (Ad 3) Ag)) (Hy (Ac (fC (.int 1)) (Ac (f2 Ao (Ad 0) (fC (.int 1))) Ag))))) δ1 L2=some (false,L5++[.lst ((B9 cs.length).map U.int)]):=by
    rw[G2,f2_eq,e5,Option.bind_some,e6,Option.bind_some,U2 (us:=[]) q1 q2]
    rfl
  have orF:∀ {a b:FT} {δ:UE} {L L1 L2:UH},a δ L=some (false,L1)→b δ L1=some (false,L2)→fOr a b δ L=some (false,L2):=by
    intro a b δ L L1 L2 h1 h2
    rw[Ro,h1]
    simp only[Option.bind_some,Bool.false_eq_true,if_false,h2]
  have s2:=Mc (f:=C8 (fC (.bl false))) (orF n1 n3)
  have g5:Gw L2 (L5++[.lst ((B9 cs.length).map U.int)]):=by rw[← hL5,List.append_assoc];exact Gw.new L2 _
  generalize L5++[HU.lst ((B9 cs.length).map U.int)]=L6 at s2 g5
  obtain ⟨L7,e7,g7⟩:=Px hnd (by omega) L6
  rw[hcnt] at e7
  have s3:(Az (A9 1 Dz (Ac (Ad 3) Ag)) (gN 4)) δ1 L6=some (.nx [some (.int (cs.length:Int)),some (.int cs.sum),some (.int (ahv cs cs.length)),some (.tup (R.map U.int)),some (.tup (cs.map U.int))],L7):=Ld (i:=4) (Sa (i:=3) rfl e7)
  let δ2:UE:=[some (.int (cs.length:Int)),some (.int cs.sum),some (.int (ahv cs cs.length)),some (.tup (R.map U.int)),some (.tup (cs.map U.int))]
  have a1:(f2 Dk (Ax semSum (Ac (Ad 4) Ag)) (Ad 1)) δ2 L7=some (.bl true,L7):=by
    have h:(Ax semSum (Ac (Ad 4) Ag)) δ2 L7=some (.int cs.sum,L7):=by
      rw[fCall_eq,Ba (u:=.tup (cs.map U.int)) (L1:=L7) rfl rfl]
      simp only[Option.bind_some,sum_tup]
    have v:Ad 1 δ2 L7=some (.int cs.sum,L7):=rfl
    rw[f2_eq,h,Option.bind_some,v,Option.bind_some,Qk]
    simp
  obtain ⟨L8,e8,g8⟩:=Ac9 hm hc L7
  have a2:(f2 Dk (A9 1 G1 (Ac (Ad 4) Ag)) (Ad 2)) δ2 L7=some (.bl true,L8):=by
    have v:Ad 2 δ2 L8=some (.int (ahv cs cs.length),L8):=rfl
    rw[f2_eq,Sa (i:=4) rfl e8,Option.bind_some,v,Option.bind_some,Qk]
    simp
  obtain ⟨L9,e9,g9⟩:=Q8 hm hg L8
  rw[hR] at e9
  have a3:(f2 Dk (A9 3 B4 (Ac (Ad 0) (Ac (Ad 1) (Ac (Ad 2) Ag)))) (Ad 3)) δ2 L8=some (.bl true,L9):=by
    have v:Ad 3 δ2 L9=some (.tup (R.map U.int),L9):=rfl
    rw[f2_eq,own3 rfl rfl rfl e9,Option.bind_some,v,Option.bind_some,Xf R R rfl]
  refine ⟨L9,?_,g1.trans (g2.trans (g5.trans (g7.trans (g8.trans g9))))⟩
  have un:fnU 5 3 Gd [.int (cs.length:Int),.int cs.sum,.int (ahv cs cs.length)] L=((Gd [some (.int (cs.length:Int)),some (.int cs.sum),some (.int (ahv cs cs.length)),none,none] L).bind fun p=>match p.1 with | .rt z=>some (z,p.2) | .nx _=>some (.non,p.2) | _=>none):=rfl
  unfold Iu
  rw[un]
  have fin:Gd [some (.int (cs.length:Int)),some (.int cs.sum),some (.int (ahv cs cs.length)),none,none] L=some (.rt (.bl true),L9):=by
    unfold Gd
    rw[Ak s1,Ak s2,Ak s3]
    refine Vw ?_
    rw[K1,a1]
    simp only[Option.bind_some]
    rw[K1,a2]
    simp only[Option.bind_some]
    exact a3
  rw[fin]
  rfl
theorem own3{f:FN}{fa fb fc:FE}{u w x v:U}{δ:UE}{L L1 L2 L3 L':UH}(h:fa δ L=some (u,L1))(h2:fb δ L1=some (w,L2))(h3:fc δ L2=some (x,L3))(e:f [u,w,x] L3=some (v,L')):(A9 3 f (Ac fa (Ac fb (Ac fc Ag)))) δ L=some (v,L'):=by
  rw[fOwn_eq,fCons_eq,h]
  simp only[Option.bind_some,fCons_eq,h2,h3,fNil_eq,Option.map_some,List.length_cons,List.length_nil,if_true,e]
theorem Ajb{fe:FE}{δ:UE}{L L':UH}(h:fe δ L=some (.bl true,L')):(N8 (Lk fe)) δ L=some (false,L'):=by
  rw[fNot_eq,fTru_eq,h];rfl
theorem WjW{m:Nat}(hm:m≤12):Wj m m=Br m:=by
  have h1:(Fi m).take m=Fi m:=List.take_of_length_le (by simp[Fi])
  have h2:Wj m m=Ui m:=by unfold Wj;rw[h1];rfl
  rw[h2,(Am4 (by omega:m < 13)).1]
theorem Ai8:((List.range 13).all fun m=>((Br m).all fun c=>decide (0 < c)&&decide (c < 500000000))&&decide (0 < (Br m).length)&&decide ((Br m).length≤100))=true:=by decide +kernel
theorem WW{m:Nat}(hm:m≤12):(∀ t,t < (Br m).length→0 < (Br m).getD t 0∧(Br m).getD t 0 < 500000000)∧0 < (Br m).length∧(Br m).length≤100:=by
  have:=List.all_eq_true.mp Ai8 m (List.mem_range.mpr (by omega))
  simp only[Bool.and_eq_true,decide_eq_true_eq,List.all_eq_true] at this
  refine ⟨fun t ht=>?_,this.1.2,this.2⟩
  rw[List.getD_eq_getElem?_getD,List.getElem?_eq_getElem ht]
  exact this.1.1 _ (List.getElem_mem ht)
theorem W3{m t:Nat}(hm:m≤12)(ht:t < (Br m).length):Bq (Wj m m) (t:Int)=(Br m).getD t 0:=by
  rw[WjW hm]
  unfold Bq
  rw[if_pos (by omega),Int.toNat_natCast]
theorem Ab5{m:Nat}(hm:m≤12){t:Int}(h:t < 0∨((Br m).length:Int)≤t):Bq (Wj m m) t=0:=by
  rw[WjW hm]
  unfold Bq
  split
  · rw[List.getD_eq_getElem?_getD,List.getElem?_eq_none (by omega)];rfl
  · rfl
theorem Al0{m t:Nat}(hm:m≤12)(ht:t < (Br m).length){p:Int}(h0:0≤p)(h1:p < (Br m).getD t 0):∃ cs:List Int,cs.length=m∧Kg cs∧cs.sum=(t:Int)∧ahv cs cs.length=p∧∀ c∈cs,0≤c∧c≤1000:=by
  obtain ⟨ds,a1,a2,a3,a4⟩:=Tp hm m 0 [] (t:Int) p (by omega) rfl (fun i hi=>by omega) h0 (by rw[W3 hm ht];exact h1)
  rw[List.nil_append] at a1 a2 a4
  refine ⟨ds,a1,a2,a3,?_,fun c hc=>?_⟩
  · rw[a4]
    unfold rest
    have:ahv ds 0=0:=rfl
    rw[this]
    omega
  · obtain ⟨i,hi,rfl⟩:=List.getElem_of_mem hc
    have:=Rc a2 hi
    rw[List.getD_eq_getElem?_getD,List.getElem?_eq_getElem hi] at this
    simp only[Option.getD_some] at this
    omega
noncomputable def Aka:Nat→List (List Int)
  | 0=>[[]]
  | m+1=>(Aka m).flatMap fun c=>(List.range (m+1)).map fun (i:Nat)=>c++[(i:Int)]
noncomputable def Aju(m t:Nat):List (List Int):=(Aka m).filter fun c=>decide (c.sum=(t:Int))
noncomputable def okC(m t:Nat)(cl:List (List Int)):Bool:=decide ((cl.length:Int)=(Br m).getD t 0)&&(cl.all fun c=>decide (c.length=m)&&decide (c.sum=(t:Int))&&(List.range c.length).all fun i=>!bad c i)&&decide ((cl.map fun c=>ahv c c.length)=(List.range cl.length).map fun (i:Nat)=>(i:Int))&&SW.okT cl&&decide (Ly cl=cl)&&decide (cl.length < 64)&&(decide (cl.length < 2) || cl.all fun c=>!c.isEmpty)
theorem Aa8:((List.range 6).all fun m=>(List.range (Br m).length).all fun t=>okC m t (Aju m t))=true:=by decide +kernel
theorem Am5{m t:Nat}(hm:m < 6)(ht:t < (Br m).length):okC m t (Aju m t)=true:=by
  have:=List.all_eq_true.mp Aa8 m (List.mem_range.mpr hm)
  exact List.all_eq_true.mp this t (List.mem_range.mpr ht)
theorem Kt{fe:FE}{δ:UE}{L M:UH}{n:Nat}{us:List U}(h:fe δ L=some (.ref n,M))(hs:Am M n=some us):(Dm fe) δ L=some (.ref n,M):=by
  rw[Abz,h,Option.bind_some,Qq hs];rfl
theorem Vd{m t n r d:Nat}{ps:List Int}{fe:FE}{L M:UH}{x0 x2 y6 y7 y8 y9 y10:Option U}(hm:m≤12)(ht:t < (Br m).length)(hp:∀ p∈ps,0≤p∧p < (Br m).getD t 0)
    (hfe:fe [x0,some (.ref d),x2,some (.int (m:Int)),some (.ref r),some (.int (t:Int)),y6,y7,y8,y9,y10] L=some (.ref n,M)) (hs:Am M n=some (ps.map U.int)) :
    ∃ L' z6,(Dx (Dm fe) (gN 6) Rh) [x0,some (.ref d),x2,some (.int (m:Int)),some (.ref r),some (.int (t:Int)),y6,y7,y8,y9,y10] L=some (.nx [x0,some (.ref d),x2,some (.int (m:Int)),some (.ref r),some (.int (t:Int)),z6,y7,y8,y9,y10],L')∧Gw M L':=by
  obtain ⟨δ',L',e,⟨z6,hδ⟩,g⟩:=Q9 (us:=ps.map U.int) (n:=n) (body:=Rh) (g:=gN 6) (fun _ δ' N=>(∃ z6,δ'=[x0,some (.ref d),x2,some (.int (m:Int)),some (.ref r),some (.int (t:Int)),z6,y7,y8,y9,y10])∧Gw M N) (Kt hfe hs) ⟨⟨y6,rfl⟩,Gw.refl _⟩ (fun k δ N h=>h.2.seq hs)
    (fun k u δ N hu hP=>by
      obtain ⟨⟨z6,hδ⟩,g⟩:=hP
      subst hδ
      rw[List.getElem?_map] at hu
      obtain ⟨p,h1,rfl⟩:=Option.map_eq_some_iff.mp hu
      obtain ⟨p0,p1⟩:=hp p (List.mem_of_getElem? h1)
      obtain ⟨cs,a1,a2,a3,a4,a5⟩:=Al0 hm ht p0 p1
      obtain ⟨N',e,g'⟩:=Q5 (cs:=cs) (by omega) a2 a5 N
      rw[a3,a4,a1] at e
      refine ⟨[x0,some (.ref d),x2,some (.int (m:Int)),some (.ref r),some (.int (t:Int)),some (.int p),y7,y8,y9,y10],N,rfl,_,N',.inl (Mc (Ajb (own3 (fa:=Ad 3) (fb:=Ad 5) (fc:=Ad 6) rfl rfl rfl e))),⟨_,rfl⟩,g.trans g'⟩)
  exact ⟨L',z6,by rw[e,hδ],g⟩
theorem Lg{n:Int}(h1:-100000000000≤n)(h2:n≤100000000000):Ff n=true:=by
  unfold Ff
  simp only[Bool.and_eq_true,decide_eq_true_eq]
  omega
theorem Abh{m t n r d:Nat}{ps:List Int}{fe:FE}{L M:UH}{x0 x2 y6 y7 y8 y9 y10:Option U}(hm:m≤12)(ht:t < (Br m).length)(hp:∀ p∈ps,(p < 0∨(Br m).getD t 0≤p)∧-100000000000≤p∧p≤100000000000)
    (hfe:fe [x0,some (.ref d),x2,some (.int (m:Int)),some (.ref r),some (.int (t:Int)),y6,y7,y8,y9,y10] L=some (.ref n,M)) (hs:Am M n=some (ps.map U.int)) :
    ∃ L' z6,(Dx (Dm fe) (gN 6) Ra) [x0,some (.ref d),x2,some (.int (m:Int)),some (.ref r),some (.int (t:Int)),y6,y7,y8,y9,y10] L=some (.nx [x0,some (.ref d),x2,some (.int (m:Int)),some (.ref r),some (.int (t:Int)),z6,y7,y8,y9,y10],L')∧Gw M L':=by
  have hl:=(WW hm).2.2
  obtain ⟨δ',L',e,⟨z6,hδ⟩,g⟩:=Q9 (us:=ps.map U.int) (n:=n) (body:=Ra) (g:=gN 6) (fun _ δ' N=>(∃ z6,δ'=[x0,some (.ref d),x2,some (.int (m:Int)),some (.ref r),some (.int (t:Int)),z6,y7,y8,y9,y10])∧Gw M N) (Kt hfe hs) ⟨⟨y6,rfl⟩,Gw.refl _⟩ (fun k δ N h=>h.2.seq hs)
    (fun k u δ N hu hP=>by
      obtain ⟨⟨z6,hδ⟩,g⟩:=hP
      subst hδ
      rw[List.getElem?_map] at hu
      obtain ⟨p,h1,rfl⟩:=Option.map_eq_some_iff.mp hu
      obtain ⟨p0,p1,p2⟩:=hp p (List.mem_of_getElem? h1)
      obtain ⟨N',e,g'⟩:=N3 (count:=(t:Int)) (place:=p) hm (by rw[W3 hm ht];exact p0) (Lg (by omega) (by omega)) (Lg p1 p2) (Lg (by omega) (by omega)) N
      refine ⟨[x0,some (.ref d),x2,some (.int (m:Int)),some (.ref r),some (.int (t:Int)),some (.int p),y7,y8,y9,y10],N,rfl,_,N',.inl (Mc (Ajb (own3 (fa:=Ad 3) (fb:=Ad 5) (fc:=Ad 6) rfl rfl rfl e))),⟨_,rfl⟩,g.trans g'⟩)
  exact ⟨L',z6,by rw[e,hδ],g⟩
theorem Sb{m n r d far:Nat}{B:Int}{ss:List Int}{fe:FE}{L M:UH}{x0 x2 x5 y6 y8 y9 y10:Option U}(hm:m≤12)(hfar:far < 100000)(hp:∀ p∈ss,(p < 0∨((Br m).length:Int)≤p)∧-100000000000≤p∧p≤100000000000)
    (D:Deck M d B) (hB:B≤1000000) (hnd:n≠d)
    (hfe:fe [x0,some (.ref d),x2,some (.int (m:Int)),some (.ref r),x5,y6,some (.int (far:Int)),y8,y9,y10] L=some (.ref n,M)) (hs:M[n]? = some (.lst (ss.map U.int))) (hsl:ss.length≤100) :
    ∃ L' z8,(Dx (Dm fe) (gN 8) R6) [x0,some (.ref d),x2,some (.int (m:Int)),some (.ref r),x5,y6,some (.int (far:Int)),y8,y9,y10] L=some (.nx [x0,some (.ref d),x2,some (.int (m:Int)),some (.ref r),x5,y6,some (.int (far:Int)),z8,y9,y10],L')∧Deck L' d (B+100)∧Ex d M L':=by
  obtain ⟨δ',L',e,⟨z8,hδ⟩,D',X⟩:=Q9 (us:=ss.map U.int) (n:=n) (body:=R6) (g:=gN 8) (fun k δ' N=>(∃ z8,δ'=[x0,some (.ref d),x2,some (.int (m:Int)),some (.ref r),x5,y6,some (.int (far:Int)),z8,y9,y10])∧Deck N d (B+k)∧Ex d M N) (Kt hfe (An hs)) ⟨⟨y8,rfl⟩,D.mono (by omega),Ex.refl _ _⟩ (fun k δ N h=>An (h.2.2.get hs hnd))
    (fun k u δ N hu hP=>by
      obtain ⟨⟨z8,hδ⟩,D',X⟩:=hP
      subst hδ
      rw[List.getElem?_map] at hu
      obtain ⟨p,h1,rfl⟩:=Option.map_eq_some_iff.mp hu
      have hk:=(List.getElem?_eq_some_iff.mp h1).1
      obtain ⟨p0,p1,p2⟩:=hp p (List.mem_of_getElem? h1)
      let δ1:UE:=[x0,some (.ref d),x2,some (.int (m:Int)),some (.ref r),x5,y6,some (.int (far:Int)),some (.int p),y9,y10]
      have hg:(Ac (fC (.int 0)) (Ac (Dy (fC (.int 1))) (Ac (Ad 7) Ag))) δ1 N=some ([(0:Int),-1,(far:Int)].map U.int,N):=rfl
      obtain ⟨i,N1,e1,b1,D1,X1⟩:=nxt (many:=3) (i:=1) (δ:=δ1) (fb:=fC (.int 3)) (D'.new [HU.lst ([(0:Int),-1,(far:Int)].map U.int)]) (by omega) (by decide) (by decide) rfl rfl
      have hpk:=Aiv (xs:=[(0:Int),-1,(far:Int)]) hg (by simp) e1 X1 D'.lt (by simp;omega)
      have hv:∃ q:Int,[(0:Int),-1,(far:Int)].getD i 0=q∧-1≤q∧q < 100000:=by
        have:i=0∨i=1∨i=2:=by omega
        rcases this with rfl | rfl | rfl
        · exact ⟨0,rfl,by omega,by omega⟩
        · exact ⟨-1,rfl,by omega,by omega⟩
        · exact ⟨far,rfl,by omega,by omega⟩
      obtain ⟨q,hq,q1,q2⟩:=hv
      rw[hq] at hpk
      obtain ⟨N2,e2,g2⟩:=N3 (count:=p) (place:=q) hm (by rw[Ab5 hm p0];omega) (Lg p1 p2) (Lg (by omega) (by omega)) (Lg (by omega) (by omega)) N1
      exact ⟨δ1,N,rfl,δ1,N2,.inl (Mc (Ajb (own3 (fa:=Ad 3) (fb:=Ad 8) rfl rfl hpk e2))),⟨_,rfl⟩,(g2.deck D1).mono (by omega),X.trans ((Ex.new d N _).trans (X1.trans (g2.ex d)))⟩)
  rw[List.length_map] at D'
  exact ⟨L',z8,by rw[e,hδ],D'.mono (by omega),X⟩
noncomputable def Pe(c:List Int):U:=.tup ((rb c c.length (B9 c.length)).map U.int)
theorem Ajk{m t r:Nat}(hm:m < 6)(ht:t < (Br m).length){L:UH}(hr:L[r]? = some (.lst ((Br m).map U.int)))(x0 x1 x2 y6 y7 y8 y9 y10:Option U) :
    ∃ L' z9 z10,(Bf (Az (Fe [none,some 3,some 5] (C3 (Ac (f2 Ap (Ad 4) (Ad 5)) Ag)) (gN 0) none Ki) (gN 9)) (Bf (Az (Fe [none] (Dm (Ad 9)) (gN 0) none Mz) (gN 10)) (G0 (Bx (f2 Ip (Ad 10) (E7 (Ac (Ad 10) Ag)))) (C8 (fC (.bl false))) Dr))) [x0,x1,x2,some (.int (m:Int)),some (.ref r),some (.int (t:Int)),y6,y7,y8,y9,y10] L=some (.nx [x0,x1,x2,some (.int (m:Int)),some (.ref r),some (.int (t:Int)),y6,y7,y8,z9,z10],L')∧Gw L L':=by
  have hf:=Am5 hm ht
  generalize Aju m t=cl at hf
  unfold okC at hf
  simp only[Bool.and_eq_true,decide_eq_true_eq,List.all_eq_true,Bool.or_eq_true,List.mem_range,Bool.not_eq_true'] at hf
  obtain ⟨⟨⟨⟨⟨⟨f1,f2'⟩,f3⟩,f4⟩,f5⟩,f6⟩,f7⟩:=hf
  have hgood:∀ c∈cl,c.length=m∧c.sum=(t:Int)∧Kg c:=fun c hc=>⟨(f2' c hc).1.1,(f2' c hc).1.2,fun i hi=>(f2' c hc).2 i hi⟩
  have hah:∀ i (h:i < cl.length),ahv cl[i] cl[i].length=(i:Int):=fun i h=>by
    have:=congrArg (fun l=>l[i]?) f3
    simp only[List.getElem?_map,List.getElem?_eq_getElem h,List.getElem?_range h,Option.map_some] at this
    exact Option.some.inj this
  have hix:=Rp hr ht
  have hi:C3 (Ac (f2 Ap (Ad 4) (Ad 5)) Ag) [x0,x1,x2,some (.int (m:Int)),some (.ref r),some (.int (t:Int)),y6,y7,y8,y9,y10] L=some (.seq (Ay 0 cl.length),L):=by
    refine Fg ?_ (by omega)
    rw[f1]
    refine Ba ?_ rfl
    simp only[f2_eq,fVar_eq,List.getElem?_cons_succ,List.getElem?_cons_zero,Option.join_some,Option.map_some,Option.bind_some,hix]
  have hrg:Ay 0 cl.length=(List.range cl.length).map fun (i:Nat)=>U.int ((0:Int)+(i:Int)):=rfl
  obtain ⟨x,e1⟩:=Gn (ix:=[none,some 3,some 5]) (fi:=C3 (Ac (f2 Ap (Ad 4) (Ad 5)) Ag)) (it:=.seq (Ay 0 cl.length)) (g:=gN 0) (tt:=none) (fe:=Ki) (δ:=[x0,x1,x2,some (.int (m:Int)),some (.ref r),some (.int (t:Int)),y6,y7,y8,y9,y10]) (L:=L) (L0:=L)
    (List.range cl.length) (fun (i:Nat)=>U.int ((0:Int)+(i:Int))) (fun _=>true) (fun i=>Pe (cl.getD i [])) (fun δ=>∃ z,δ = [z,some (.int (m:Int)),some (.int (t:Int))]) hi (by simp[IU.size,Ay]) (by simp;omega) ⟨none,rfl⟩ (fun k x=>rfl)
    (fun i δ x hi zz=>by
      obtain ⟨z,hδ⟩:=zz
      subst hδ
      have hin:=List.mem_range.mp hi
      obtain ⟨c1,c2,c3⟩:=hgood cl[i] (List.getElem_mem hin)
      have ca:=hah i hin
      refine ⟨[some (.int ((0:Int)+(i:Int))),some (.int (m:Int)),some (.int (t:Int))],rfl,⟨_,rfl⟩,[],by simp[Ke],fun _=>?_⟩
      obtain ⟨N,e,⟨y,hy⟩⟩:=Q8 (cs:=cl[i]) (by omega) c3 (L++x++[])
      rw[c2,ca] at e
      have hz:(0:Int)+(i:Int)=(i:Int):=by omega
      have hgd:cl.getD i []=cl[i]:=by rw[List.getD_eq_getElem?_getD,List.getElem?_eq_getElem hin];rfl
      refine ⟨y,?_⟩
      unfold Ki Pe
      rw[hgd,← hy,hz]
      refine own3 (fa:=Ad 1) (fb:=Ad 2) (fc:=Ad 0) rfl rfl rfl ?_
      rw[← c1]
      exact e)
  have ff:(List.range cl.length).filter (fun _=>true)=List.range cl.length:=by simp
  rw[ff] at e1
  have hrows:((List.range cl.length).map fun i=>Pe (cl.getD i []))=cl.map Pe:=by
    apply List.ext_getElem
    · simp
    · intro i h1 h2
      have:i < cl.length:=by simpa using h2
      simp[this]
  rw[hrows] at e1
  have s1:=Ld (i:=9) e1
  generalize hq:(L++x).length=q at s1
  generalize hM:L++x++[HU.lst (cl.map Pe)]=M at s1
  have hMq:M[q]? = some (.lst (cl.map Pe)):=by rw[← hM,← hq];simp
  have gM:Gw L M:=by rw[← hM,List.append_assoc];exact Gw.new L _
  have hs:=An hMq
  obtain ⟨x2',e2⟩:=Gn (ix:=[none]) (fi:=Dm (Ad 9)) (it:=.ref q) (g:=gN 0) (tt:=none) (fe:=Mz) (δ:=[x0,x1,x2,some (.int (m:Int)),some (.ref r),some (.int (t:Int)),y6,y7,y8,some (.ref q),y10]) (L:=M) (L0:=M)
    cl Pe (fun _=>true) Fo (fun δ=>∃ z,δ = [z]) (Kt (us:=cl.map Pe) rfl hs) (by rw[Te hs];simp) (by omega) ⟨none,rfl⟩ (fun k x=>Abv (seqAt_app hs))
    (fun c δ x hc zz=>by
      obtain ⟨z,hδ⟩:=zz
      subst hδ
      refine ⟨[some (Pe c)],rfl,⟨_,rfl⟩,[],by simp[Ke],fun _=>?_⟩
      obtain ⟨c1,c2,c3⟩:=hgood c hc
      have up:(B9 c.length).length=c.length:=by simp
      have hperm:(rb c c.length (B9 c.length)).Perm (B9 c.length):=Mt c _ _ up
      have hcnt:Ru (rb c c.length (B9 c.length))=c:=by rw[Wg c _ _ up (Nat.le_refl _) (K2 _) c3,List.take_length]
      have hnd:(rb c c.length (B9 c.length)).Nodup:=hperm.nodup_iff.mpr ((K2 c.length).imp fun h=>by omega)
      obtain ⟨N,e,⟨y,hy⟩⟩:=Px hnd (by rw[hperm.length_eq,up];omega) (M++x++[])
      rw[hcnt] at e
      refine ⟨y,?_⟩
      rw[← hy]
      exact Sa (i:=0) (u:=Pe c) rfl e)
  have ff2:cl.filter (fun _=>true)=cl:=by simp
  rw[ff2] at e2
  have s2:=Ld (i:=10) e2
  generalize hq2:(M++x2').length=q2 at s2
  generalize hM2:M++x2'++[HU.lst (cl.map Fo)]=M2 at s2
  have hMq2:M2[q2]? = some (.lst (cl.map Fo)):=by rw[← hM2,← hq2];simp
  have gM2:Gw M M2:=by rw[← hM2,List.append_assoc];exact Gw.new M _
  let δ3:UE:=[x0,x1,x2,some (.int (m:Int)),some (.ref r),some (.int (t:Int)),y6,y7,y8,some (.ref q),some (.ref q2)]
  have hti:mapO Aba (cl.map Fo)=some cl:=by
    have:∀ l:List (List Int),mapO Aba (l.map Fo)=some l:=by
      intro l
      induction l with
      | nil=>rfl
      | cons a l ih=>
        have h1:Aba (Fo a)=some a:=toI_ints a
        simp only[List.map_cons,mapO,h1,ih,Option.bind_some,Option.map_some]
    exact this cl
  have e3:(E7 (Ac (Ad 10) Ag)) δ3 M2=some (.ref M2.length,M2++[.lst (cl.map Fo)]):=by
    unfold E7
    rw[Ba (u:=.ref q2) (L1:=M2) rfl rfl]
    simp only[Option.bind_some,An hMq2,hti]
    have f8:cl.length < 2∨cl.all (fun t=>!t.isEmpty)=true:=f7.imp id (fun h=>by simpa using h)
    rw[if_pos ⟨f4,f6,f8⟩,f5]
  have q1:Am (M2++[HU.lst (cl.map Fo)]) q2=some (cl.map Fo):=seqAt_app (An hMq2)
  have q2':Am (M2++[HU.lst (cl.map Fo)]) M2.length=some (cl.map Fo):=An (by simp)
  have pls:∀ u∈cl.map Fo,Pl 6 u:=fun u hu=>by
    obtain ⟨c,_,rfl⟩:=List.mem_map.mp hu
    exact My c
  have he:=Qo q1 q2' pls pls
  rw[(Ts pls pls).mpr rfl] at he
  have s3:(G0 (Bx (f2 Ip (Ad 10) (E7 (Ac (Ad 10) Ag)))) (C8 (fC (.bl false))) Dr) δ3 M2=some (.nx δ3,M2++[.lst (cl.map Fo)]):=by
    refine Mc ?_
    have v:Ad 10 δ3 M2=some (.ref q2,M2):=rfl
    rw[G2,f2_eq,v,Option.bind_some,e3,Option.bind_some,he]
    rfl
  refine ⟨M2++[.lst (cl.map Fo)],some (.ref q),some (.ref q2),?_,gM.trans (gM2.trans (Gw.new _ _))⟩
  rw[Ak s1]
  show Bf _ _ [x0,x1,x2,some (.int (m:Int)),some (.ref r),some (.int (t:Int)),y6,y7,y8,some (.ref q),y10] M=_
  rw[Ak s2]
  exact s3
theorem Am0(δ:UE)(L:UH):(f2 O2 (fC (.int 10)) (fC (.int 5))) δ L=some (.int 100000,L):=by
  have:P8 10 5=true:=by decide
  simp[this]
theorem X6{L:UH}{d k:Nat}{B:Int}{δ:UE}(D:Deck L d B)(hB:B≤1000000)(hk:k < 4)(v1:∀ M,Ad 1 δ M=some (.ref d,M))(v2:∀ M,Ad 2 δ M=some (.int (k:Int),M)) :
    ∃ (m:Nat) (L':UH),(f2 Ap (C2 (Ac (A9 2 A0 (Ac (Ad 1) (Ac (fC (.int 13)) Ag))) (Ac (fC (.int 12)) (Ac (A9 2 A0 (Ac (Ad 1) (Ac (fC (.int 6)) Ag))) (Ac (A9 2 A0 (Ac (Ad 1) (Ac (fC (.int 13)) Ag))) Ag))))) (Ad 2)) δ L=some (.int (m:Int),L')∧m≤12∧Deck L' d (B+3):=by
  obtain ⟨r1,L1,e1,q1,D1,_⟩:=nxt (many:=13) (fb:=fC (.int 13)) D (by omega) (by omega) (by omega) (v1 L) rfl
  obtain ⟨r2,L2,e2,q2,D2,_⟩:=nxt (many:=6) (fb:=fC (.int 6)) D1 (by omega) (by omega) (by omega) (v1 L1) rfl
  obtain ⟨r3,L3,e3,q3,D3,_⟩:=nxt (many:=13) (fb:=fC (.int 13)) D2 (by omega) (by omega) (by omega) (v1 L2) rfl
  have hg:(Ac (A9 2 A0 (Ac (Ad 1) (Ac (fC (.int 13)) Ag))) (Ac (fC (.int 12)) (Ac (A9 2 A0 (Ac (Ad 1) (Ac (fC (.int 6)) Ag))) (Ac (A9 2 A0 (Ac (Ad 1) (Ac (fC (.int 13)) Ag))) Ag)))) δ L=some (([(r1:Int),12,(r2:Int),(r3:Int)]:List Int).map U.int,L3):=
    Ba e1 (Ba (L1:=L1) rfl (Ba e2 (Ba e3 rfl)))
  have e4:=Aiv (i:=k) hg (by simp) (v2 _) (Ex.refl d _) D3.lt (by simp;omega)
  obtain ⟨m,hm1,hm2⟩:∃ m:Nat,([(r1:Int),12,(r2:Int),(r3:Int)]:List Int).getD k 0=(m:Int)∧m≤12:=by
    have:k=0∨k=1∨k=2∨k=3:=by omega
    rcases this with rfl | rfl | rfl | rfl
    · exact ⟨r1,rfl,by omega⟩
    · exact ⟨12,rfl,by omega⟩
    · exact ⟨r2,rfl,by omega⟩
    · exact ⟨r3,rfl,by omega⟩
  rw[hm1] at e4
  exact ⟨m,_,e4,hm2,(D3.new _).mono (by omega)⟩
theorem U9{L:UH}{r:Nat}{l:List Int}{δ:UE}(h:L[r]? = some (.lst (l.map U.int)))(v4:Ad 4 δ L=some (.ref r,L)):(Ax Au (Ac (Ad 4) Ag)) δ L=some (.int (l.length:Int),L):=by
  have:=G8 h
  rw[List.length_map] at this
  rw[fCall_eq,Ba v4 rfl,Option.bind_some]
  exact this
theorem Vz{L:UH}{d r:Nat}{B:Int}{l:List Int}{δ:UE}(D:Deck L d B)(hB:B≤1000000)(h:L[r]? = some (.lst (l.map U.int)))(hrd:r≠d)(h0:0 < l.length)(h1:l.length≤100)(v1:∀ M,Ad 1 δ M=some (.ref d,M))(v4:∀ M,Ad 4 δ M=some (.ref r,M)) :
    ∃ (t:Nat) (L':UH),(f2 Ap (C2 (Ac (A9 2 A0 (Ac (Ad 1) (Ac (Ax Au (Ac (Ad 4) Ag)) Ag))) (Ac (f2 Hx (Ax Au (Ac (Ad 4) Ag)) (fC (.int 2))) Ag))) (A9 2 A0 (Ac (Ad 1) (Ac (fC (.int 2)) Ag)))) δ L=some (.int (t:Int),L')∧t < l.length∧Deck L' d (B+2)∧Ex d L L':=by
  obtain ⟨r1,L1,e1,q1,D1,x1⟩:=nxt (many:=(l.length:Int)) D (by omega) (by omega) (by omega) (v1 L) (U9 h (v4 L))
  have hr1:=x1.get h hrd
  have dv:(f2 Hx (Ax Au (Ac (Ad 4) Ag)) (fC (.int 2))) δ L1=some (.int ((l.length / 2:Nat):Int),L1):=by
    rw[f2_eq,U9 hr1 (v4 L1),Option.bind_some,fC_eq,Option.bind_some,semDiv_int,if_pos (Ko (by decide) (by decide))]
    rfl
  have hg:(Ac (A9 2 A0 (Ac (Ad 1) (Ac (Ax Au (Ac (Ad 4) Ag)) Ag))) (Ac (f2 Hx (Ax Au (Ac (Ad 4) Ag)) (fC (.int 2))) Ag)) δ L=some (([(r1:Int),((l.length / 2:Nat):Int)]:List Int).map U.int,L1):=Ba e1 (Ba dv rfl)
  obtain ⟨i,L3,e3,q3,D3,x3⟩:=nxt (many:=2) (fb:=fC (.int 2)) (D1.new [HU.lst (([(r1:Int),((l.length / 2:Nat):Int)]:List Int).map U.int)]) (by omega) (by omega) (by omega) (v1 _) rfl
  have e4:=Aiv (i:=i) hg (by simp) e3 x3 D1.lt (by simp;omega)
  obtain ⟨t,ht1,ht2⟩:∃ t:Nat,([(r1:Int),((l.length / 2:Nat):Int)]:List Int).getD i 0=(t:Int)∧t < l.length:=by
    have:i=0∨i=1:=by omega
    rcases this with rfl | rfl
    · exact ⟨r1,rfl,by omega⟩
    · exact ⟨l.length / 2,rfl,by omega⟩
  rw[ht1] at e4
  exact ⟨t,L3,e4,ht2,D3.mono (by omega),x1.trans ((Ex.new d L1 _).trans x3)⟩
theorem Ag9{L:UH}{r t:Nat}{l:List Int}{δ:UE}(h:L[r]? = some (.lst (l.map U.int)))(ht:t < l.length)(v4:Ad 4 δ L=some (.ref r,L))(v5:Ad 5 δ L=some (.int (t:Int),L)):(f2 Ap (Ad 4) (Ad 5)) δ L=some (.int (l.getD t 0),L):=by
  rw[f2_eq,v4,Option.bind_some,v5,Option.bind_some,Rp h ht]
theorem Agu{L:UH}{d k:Nat}{B:Int}{a:U}{y3 y4 y5 y6 y7 y8 y9 y10:Option U}(D:Deck L d B)(hB:B≤50000)(hk:k < 4) :
    ∃ z3 z4 z5 z6 z7 z8 z9 z10 L',Kr [some a,some (.ref d),some (.int (k:Int)),y3,y4,y5,y6,y7,y8,y9,y10] L=some (.nx [some a,some (.ref d),some (.int (k:Int)),z3,z4,z5,z6,z7,z8,z9,z10],L')∧Deck L' d (B+2000):=by
  obtain ⟨m,L1,e1,hm,D1⟩:=X6 (δ:=[some a,some (.ref d),some (.int (k:Int)),y3,y4,y5,y6,y7,y8,y9,y10]) D (by omega) hk (fun _=>rfl) (fun _=>rfl)
  have s1:=Ld (i:=3) e1
  simp only[List.set_cons_succ,List.set_cons_zero] at s1
  obtain ⟨r,L2,e2,hr2,g2⟩:=Aem hm L1
  have s2:=Ld (i:=4) (Sa (i:=3) (δ:=[some a,some (.ref d),some (.int (k:Int)),some (.int (m:Int)),y4,y5,y6,y7,y8,y9,y10]) rfl e2)
  simp only[List.set_cons_succ,List.set_cons_zero] at s2
  have D2:=g2.deck D1
  have hrd:r≠d:=by
    intro h
    subst h
    obtain ⟨ds,b,e,b1,c,e',hd,_⟩:=D2
    rw[hr2] at hd
    have hd:=HU.lst.inj (Option.some.inj hd)
    cases hW:Br m with
    | nil=>rw[hW] at hd;cases hd
    | cons x l=>rw[hW] at hd;cases hd
  obtain ⟨hw,w0,w1⟩:=WW hm
  obtain ⟨t,L3,e3,ht,D3,x3⟩:=Vz (δ:=[some a,some (.ref d),some (.int (k:Int)),some (.int (m:Int)),some (.ref r),y5,y6,y7,y8,y9,y10]) D2 (by omega) hr2 hrd w0 w1 (fun _=>rfl) (fun _=>rfl)
  have s3:=Ld (i:=5) e3
  simp only[List.set_cons_succ,List.set_cons_zero] at s3
  have hr3:=x3.get hr2 hrd
  obtain ⟨p0,p1⟩:=hw t ht
  let δ3:UE:=[some a,some (.ref d),some (.int (k:Int)),some (.int (m:Int)),some (.ref r),some (.int (t:Int)),y6,y7,y8,y9,y10]
  have i3:∀ M,M[r]? = some (.lst ((Br m).map U.int))→(f2 Ap (Ad 4) (Ad 5)) δ3 M=some (.int ((Br m).getD t 0),M):=fun M h=>Ag9 h ht rfl rfl
  obtain ⟨a1,L4,e4,q4,D4,x4⟩:=nxt (i:=1) (δ:=δ3) D3 (by omega) p0 (by omega) rfl (i3 _ hr3)
  have hr4:=x4.get hr3 hrd
  obtain ⟨a2,L5,e5,q5,D5,x5⟩:=nxt (i:=1) (δ:=δ3) D4 (by omega) p0 (by omega) rfl (i3 _ hr4)
  have hr5:=x5.get hr4 hrd
  have sb:(f2 A7 (f2 Ap (Ad 4) (Ad 5)) (fC (.int 1))) δ3 L3=some (.int ((Br m).getD t 0 - 1),L3):=by
    rw[f2_eq,i3 _ hr3,Option.bind_some,fC_eq,Option.bind_some,semSub_int]
  have l1:=Nu (Ba (fe:=fC (.int 0)) (u:=.int 0) (L1:=L3) rfl (Ba sb (Ba e4 (Ba e5 (g:=Ag) (us:=[]) rfl)))) (by simp)
  have hp1:∀ p∈[(0:Int),(Br m).getD t 0 - 1,(a1:Int),(a2:Int)],0≤p∧p < (Br m).getD t 0:=fun p hp=>by
    simp only[List.mem_cons,List.not_mem_nil,or_false] at hp
    rcases hp with rfl | rfl | rfl | rfl <;> omega
  obtain ⟨L6,z6,s4,g6⟩:=Vd (ps:=[(0:Int),(Br m).getD t 0 - 1,(a1:Int),(a2:Int)]) hm ht hp1 l1 (An (by simp))
  have g6':=(Gw.new L5 _).trans g6
  have D6:=g6'.deck D5
  have hr6:=g6'.get hr5
  obtain ⟨far,L7,e7,q7,D7,x7⟩:=nxt (i:=1) (δ:=[some a,some (.ref d),some (.int (k:Int)),some (.int (m:Int)),some (.ref r),some (.int (t:Int)),z6,y7,y8,y9,y10]) D6 (by omega) (by omega:(0:Int) < 100000) (by omega) rfl (Am0 _ L6)
  have s5:=Ld (i:=7) e7
  simp only[List.set_cons_succ,List.set_cons_zero] at s5
  have hr7:=x7.get hr6 hrd
  let δ7:UE:=[some a,some (.ref d),some (.int (k:Int)),some (.int (m:Int)),some (.ref r),some (.int (t:Int)),z6,some (.int (far:Int)),y8,y9,y10]
  have i7:∀ M,M[r]? = some (.lst ((Br m).map U.int))→(f2 Ap (Ad 4) (Ad 5)) δ7 M=some (.int ((Br m).getD t 0),M):=fun M h=>Ag9 h ht rfl rfl
  have ad:(f2 Ao (f2 Ap (Ad 4) (Ad 5)) (Ad 7)) δ7 L7=some (.int ((Br m).getD t 0+(far:Int)),L7):=by
    have v:Ad 7 δ7 L7=some (.int (far:Int),L7):=rfl
    rw[f2_eq,i7 _ hr7,Option.bind_some,v,Option.bind_some,semAdd_int]
  have l2:=Nu (Ba (i7 _ hr7) (Ba ad (Ba (fe:=Dy (fC (.int 1))) (u:=.int (-1)) (L1:=L7) rfl (Ba (fe:=f2 A7 (Dy (fC (.int 1))) (Ad 7)) (u:=.int (-1 - (far:Int))) (L1:=L7) rfl (g:=Ag) (us:=[]) rfl)))) (by simp)
  have hp2:∀ p∈[(Br m).getD t 0,(Br m).getD t 0+(far:Int),-1,-1 - (far:Int)],(p < 0∨(Br m).getD t 0≤p)∧-100000000000≤p∧p≤100000000000:=fun p hp=>by
    simp only[List.mem_cons,List.not_mem_nil,or_false] at hp
    rcases hp with rfl | rfl | rfl | rfl <;> omega
  obtain ⟨L8,z6',s6,g8⟩:=Abh (ps:=[(Br m).getD t 0,(Br m).getD t 0+(far:Int),-1,-1 - (far:Int)]) hm ht hp2 l2 (An (by simp))
  have g8':=(Gw.new L7 _).trans g8
  have D8:=g8'.deck D7
  have hr8:=g8'.get hr7
  let δ8:UE:=[some a,some (.ref d),some (.int (k:Int)),some (.int (m:Int)),some (.ref r),some (.int (t:Int)),z6',some (.int (far:Int)),y8,y9,y10]
  have n8:(Ax Au (Ac (Ad 4) Ag)) δ8 L8=some (.int ((Br m).length:Int),L8):=U9 hr8 rfl
  have ad8:(f2 Ao (Ax Au (Ac (Ad 4) Ag)) (Ad 7)) δ8 L8=some (.int ((Br m).length+(far:Int)),L8):=by
    have v:Ad 7 δ8 L8=some (.int (far:Int),L8):=rfl
    rw[f2_eq,n8,Option.bind_some,v,Option.bind_some,semAdd_int]
  have sb8:(f2 A7 (fC (.int 0)) (Ax Au (Ac (Ad 4) Ag))) δ8 L8=some (.int (0 - ((Br m).length:Int)),L8):=by
    rw[f2_eq,fC_eq,Option.bind_some,n8,Option.bind_some,semSub_int]
  have l3:=Nu (Ba n8 (Ba (fe:=Dy (fC (.int 1))) (u:=.int (-1)) (L1:=L8) rfl (Ba ad8 (Ba (fe:=f2 A7 (Dy (fC (.int 1))) (Ad 7)) (u:=.int (-1 - (far:Int))) (L1:=L8) rfl (Ba sb8 (g:=Ag) (us:=[]) rfl))))) (by simp)
  have hp3:∀ p∈[((Br m).length:Int),-1,(Br m).length+(far:Int),-1 - (far:Int),0 - ((Br m).length:Int)],(p < 0∨((Br m).length:Int)≤p)∧-100000000000≤p∧p≤100000000000:=fun p hp=>by
    simp only[List.mem_cons,List.not_mem_nil,or_false] at hp
    rcases hp with rfl | rfl | rfl | rfl | rfl <;> omega
  obtain ⟨L9,z8,s7,D9,x9⟩:=Sb (ss:=[((Br m).length:Int),-1,(Br m).length+(far:Int),-1 - (far:Int),0 - ((Br m).length:Int)]) hm (by omega) hp3 (D8.new _) (by omega) (Nat.ne_of_gt D8.lt) l3 (by simp) (by simp)
  have hr9:L9[r]? = some (.lst ((Br m).map U.int)):=((Ex.new d L8 _).trans x9).get hr8 hrd
  have hlt:∀ M,(Bx (f2 Eh (Ad 3) (fC (.int 6)))) [some a,some (.ref d),some (.int (k:Int)),some (.int (m:Int)),some (.ref r),some (.int (t:Int)),z6',some (.int (far:Int)),z8,y9,y10] M=some (decide ((m:Int) < 6),M):=fun M=>rfl
  by_cases h6:(m:Int) < 6
  · obtain ⟨L10,z9,z10,e10,g10⟩:=Ajk (by omega) ht hr9 (some a) (some (.ref d)) (some (.int (k:Int))) z6' (some (.int (far:Int))) z8 y9 y10
    refine ⟨some (.int (m:Int)),some (.ref r),some (.int (t:Int)),z6',some (.int (far:Int)),z8,z9,z10,L10,?_,(g10.deck D9).mono (by omega)⟩
    unfold Kr
    rw[Ak s1,Ak s2,Ak s3,Ak s4,Ak s5,Ak s6,Ak s7,Ah2 ((hlt L9).trans (by rw[decide_eq_true h6]))]
    exact e10
  · refine ⟨some (.int (m:Int)),some (.ref r),some (.int (t:Int)),z6',some (.int (far:Int)),z8,y9,y10,L9,?_,D9.mono (by omega)⟩
    unfold Kr
    rw[Ak s1,Ak s2,Ak s3,Ak s4,Ak s5,Ak s6,Ak s7]
    exact Mc ((hlt L9).trans (by rw[decide_eq_false h6]))
theorem Q7{cs:List Int}{m c p:Int}{R:List Int}(hm:cs.length≤12)(hg:Kg cs)(h1:(cs.length:Int)=m)(h2:cs.sum=c)(h3:ahv cs cs.length=p)(h4:rb cs cs.length (B9 cs.length)=R){g:FA}{us:List U}(hgs:∀ δ L,g δ L=some (us,L))(hu:us=R.map U.int)(δ:UE)(L:UH):∃ L',(f2 Dk (A9 3 B4 (Ac (fC (.int m)) (Ac (fC (.int c)) (Ac (fC (.int p)) Ag)))) (Vc g)) δ L=some (.bl true,L'):=by
  obtain ⟨L',e,_⟩:=Q8 hm hg L
  rw[h1,h2,h3,h4] at e
  have ft:Vc g δ L'=some (.tup (R.map U.int),L'):=by
    rw[Afh,hgs,Option.bind_some,hu]
    have:R.length=cs.length:=by rw[← h4,Abl]
    exact if_pos (Ce (by show (R.map U.int).length≤16777216;rw[List.length_map];omega))
  exact ⟨L',by rw[f2_eq,own3 (fa:=fC (.int m)) (fb:=fC (.int c)) (fc:=fC (.int p)) rfl rfl rfl e,Option.bind_some,ft,Option.bind_some,Xf R R rfl]⟩
theorem g0:Kg []:=fun i hi=>by cases hi
theorem g1:Kg [0,0,1]:=by
  have:((List.range 3).all fun i=>!bad [0,0,1] i)=true:=by decide +kernel
  intro i hi
  simpa using List.all_eq_true.mp this i (List.mem_range.mpr hi)
theorem g2:Kg [0,1,0]:=by
  have:((List.range 3).all fun i=>!bad [0,1,0] i)=true:=by decide +kernel
  intro i hi
  simpa using List.all_eq_true.mp this i (List.mem_range.mpr hi)
theorem Ady(ns:List Int)(hl:ns.length≤63):∃ L',Tr [.ref 0] [.ro (ns.map U.int)]=some (.bl true,L'):=by
  obtain ⟨d,L1,e1,D1,_,_⟩:=Deck.start ns [.ro (ns.map U.int)] 0 rfl hl
  have s1:(Az (A9 1 Hv (Ac (Ad 0) Ag)) (gN 1)) [some (.ref 0),none,none,none,none,none,none,none,none,none,none] [.ro (ns.map U.int)]=some (.nx [some (.ref 0),some (.ref d),none,none,none,none,none,none,none,none,none],L1):=Ld (Sa rfl e1)
  have hi:C3 (Ac (fC (.int 4)) Ag) [some (.ref 0),some (.ref d),none,none,none,none,none,none,none,none,none] L1=some (.seq (Ay 0 4),L1):=Fg (n:=4) rfl (by omega)
  obtain ⟨δ2,L2,e2,⟨y2,y3,y4,y5,y6,y7,y8,y9,y10,hδ⟩,D2⟩:=Dd (us:=Ay 0 4) (body:=Kr) (g:=gN 2)
    (fun k δ' L'=>(∃ y2 y3 y4 y5 y6 y7 y8 y9 y10,δ'=[some (.ref 0),some (.ref d),y2,y3,y4,y5,y6,y7,y8,y9,y10])∧Deck L' d (2000 * k)) hi ⟨⟨none,none,none,none,none,none,none,none,none,rfl⟩,D1.mono (by omega)⟩
    (fun k u δ M hu hP=>by
      obtain ⟨⟨y2,y3,y4,y5,y6,y7,y8,y9,y10,rfl⟩,DM⟩:=hP
      have hk:k < 4:=by
        have:=(List.getElem?_eq_some_iff.mp hu).1
        unfold Ay at this
        simpa using this
      have hue:u = .int (k:Int):=by
        unfold Ay at hu
        rw[List.getElem?_map,List.getElem?_range hk] at hu
        have:u=U.int ((0:Int)+(k:Nat)):=(Option.some.inj hu).symm
        rw[Int.zero_add] at this
        exact this
      subst hue
      obtain ⟨z3,z4,z5,z6,z7,z8,z9,z10,M',e,D'⟩:=Agu (a:=.ref 0) (y3:=y3) (y4:=y4) (y5:=y5) (y6:=y6) (y7:=y7) (y8:=y8) (y9:=y9) (y10:=y10) DM (by omega) hk
      exact ⟨_,M,rfl,_,M',.inl e,⟨_,_,_,_,_,_,_,_,_,rfl⟩,D'.mono (by omega)⟩)
  obtain ⟨L3,e3⟩:=Q7 (m:=0) (c:=0) (p:=0) (R:=[]) (by simp) g0 rfl rfl (by decide +kernel) (by decide +kernel) (g:=Ag) (us:=[]) (fun _ _=>rfl) rfl δ2 L2
  obtain ⟨L4,e4⟩:=Q7 (m:=3) (c:=1) (p:=0) (R:=[1,3,2]) (by simp) g1 rfl (by decide) (by decide +kernel) (by decide +kernel) (g:=Ac (fC (.int 1)) (Ac (fC (.int 3)) (Ac (fC (.int 2)) Ag))) (us:=[.int 1,.int 3,.int 2]) (fun _ _=>rfl) rfl δ2 L3
  obtain ⟨L5,e5⟩:=Q7 (m:=3) (c:=1) (p:=1) (R:=[2,1,3]) (by simp) g2 rfl (by decide) (by decide +kernel) (by decide +kernel) (g:=Ac (fC (.int 2)) (Ac (fC (.int 1)) (Ac (fC (.int 3)) Ag))) (us:=[.int 2,.int 1,.int 3]) (fun _ _=>rfl) rfl δ2 L4
  refine ⟨L5,fn1 (n:=10) ?_⟩
  show Ade [some (.ref 0),none,none,none,none,none,none,none,none,none,none] _=_
  unfold Ade
  rw[Ak s1,Ak e2]
  refine Vw ?_
  simp only[K1,e3,e4,e5,Option.bind_some,truU_bl,if_true]
noncomputable def top(i:Nat):Stmt:=PySem.Challenge.pw_belowpoints_k36_rows_by_their_places.main.body.getD i (.Pass ⟨0,0,0,0⟩)
noncomputable abbrev Dw:Stmt:=top 18
theorem Ek:FnScope ["row","found","rising","number","less"] ["row"] (Aj Dw):=⟨rfl,rfl,rfl,by decide +kernel,rfl,by decide +kernel,by decide +kernel⟩
noncomputable abbrev Gm:Stmt:=top 16
theorem Yv:FnScope ["script"] ["script"] (Aj Gm):=⟨rfl,rfl,rfl,by decide +kernel,rfl,by decide +kernel,by decide +kernel⟩
noncomputable abbrev Jc:Stmt:=top 15
theorem Kv:FnScope ["cell","k","number"] ["cell","k"] (Aj Jc):=⟨rfl,rfl,rfl,by decide +kernel,rfl,by decide +kernel,by decide +kernel⟩
noncomputable abbrev Gu:Stmt:=top 17
theorem Li:FnScope ["deck","many","cell","found"] ["deck","many"] (Aj Gu):=⟨rfl,rfl,rfl,by decide +kernel,rfl,by decide +kernel,by decide +kernel⟩
noncomputable abbrev Bu:Stmt:=Agx (top 2) 0
theorem Jf:FnScope ["self","text"] ["self","text"] (Aj Bu):=⟨rfl,rfl,rfl,by decide +kernel,rfl,by decide +kernel,by decide +kernel⟩
noncomputable abbrev Cw:Stmt:=top 10
theorem E9:FnScope ["counts","place","count"] ["counts"] (Aj Cw):=⟨rfl,rfl,rfl,by decide +kernel,rfl,by decide +kernel,by decide +kernel⟩
noncomputable abbrev Gg:Stmt:=top 8
theorem Ir:FnScope ["counts","left","backwards","place"] ["counts"] (Aj Gg):=⟨rfl,rfl,rfl,by decide +kernel,rfl,by decide +kernel,by decide +kernel⟩
noncomputable abbrev Bo:Stmt:=top 12
theorem Hs:FnScope ["ways","most"] ["ways","most"] (Aj Bo):=⟨rfl,rfl,rfl,by decide +kernel,rfl,by decide +kernel,by decide +kernel⟩
noncomputable abbrev B3:Stmt:=top 11
theorem Dp:FnScope ["many","backwards","place"] ["many"] (Aj B3):=⟨rfl,rfl,rfl,by decide +kernel,rfl,by decide +kernel,by decide +kernel⟩
noncomputable abbrev E3:Stmt:=top 13
theorem Wh:FnScope ["ways","total"] ["ways","total"] (Aj E3):=⟨rfl,rfl,rfl,by decide +kernel,rfl,by decide +kernel,by decide +kernel⟩
noncomputable abbrev E2:Stmt:=top 9
theorem B0:FnScope ["many","count","place","ways","counts","left","ahead","turn","own"] ["many","count","place"] (Aj E2):=⟨rfl,rfl,rfl,by decide +kernel,rfl,by decide +kernel,by decide +kernel⟩
noncomputable abbrev Dj:Stmt:=top 24
theorem Ez:FnScope ["many","count","place","caught","e"] ["many","count","place"] (Aj Dj):=⟨rfl,rfl,rfl,by decide +kernel,rfl,by decide +kernel,by decide +kernel⟩
noncomputable abbrev E5:Stmt:=top 20
theorem Df:FnScope ["many","tails","place","more","total","count"] ["many"] (Aj E5):=⟨rfl,rfl,rfl,by decide +kernel,rfl,by decide +kernel,by decide +kernel⟩
noncomputable abbrev E8:Stmt:=top 21
theorem Ck:FnScope ["counts","tails","left","found","place","count","less"] ["counts"] (Aj E8):=⟨rfl,rfl,rfl,by decide +kernel,rfl,by decide +kernel,by decide +kernel⟩
noncomputable abbrev C5:Stmt:=top 22
theorem O7:FnScope ["found"] ["found"] (Aj C5):=⟨rfl,rfl,rfl,by decide +kernel,rfl,by decide +kernel,by decide +kernel⟩
noncomputable abbrev Cv:Stmt:=top 23
theorem Ou:FnScope ["found"] ["found"] (Aj Cv):=⟨rfl,rfl,rfl,by decide +kernel,rfl,by decide +kernel,by decide +kernel⟩
noncomputable abbrev E4:Stmt:=top 25
theorem J7:FnScope ["many","count","place","found","counts"] ["many","count","place"] (Aj E4):=⟨rfl,rfl,rfl,by decide +kernel,rfl,by decide +kernel,by decide +kernel⟩
noncomputable abbrev Gp:Stmt:=top 19
theorem E6:FnScope ["many","found","size","longer","total"] ["many"] (Aj Gp):=⟨rfl,rfl,rfl,by decide +kernel,rfl,by decide +kernel,by decide +kernel⟩
noncomputable abbrev J9:Stmt:=top 26
theorem Em:FnScope ["script","deck","turn","many","ways","count","place","far","strange","rows","some"] ["script"] (Aj J9):=⟨rfl,rfl,rfl,by decide +kernel,rfl,by decide +kernel,by decide +kernel⟩
set_option genInjectivity false
set_option genSizeOf false
set_option genSizeOfSpec false
structure Defs(K:PySem.W.Frag)(mg:Str→Option Value) where
  ua:Addr
  ub:Addr
  uc:Addr
  ud:Addr
  ue:Addr
  uf:Addr
  ug:Addr
  uh:FuncData
  ui:Fun K "_law_counts" "_law_counts" Dw ug uh
  uj:Binds K uh ["row"] []
  uk:mg "_law_counts" = some (.ref ug)
  ul:Addr
  um:FuncData
  uo:Fun K "_law_deck" "_law_deck" Gm ul um
  uq:Binds K um ["script"] []
  ur:mg "_law_deck" = some (.ref ul)
  ut:Addr
  uu:FuncData
  uv:Fun K "_law_mix" "_law_mix" Jc ut uu
  uw:Binds K uu ["cell","k"] []
  ux:mg "_law_mix" = some (.ref ut)
  uy:Addr
  uz:FuncData
  uA:Fun K "_law_next" "_law_next" Gu uy uz
  uB:Binds K uz ["deck","many"] []
  uC:mg "_law_next" = some (.ref uy)
  uD:Addr
  uE:FuncData
  uF:Fun K "__init__" "NoPlace.__init__" Bu uD uE
  uG:Binds K uE ["self","text"] []
  uH:Addr
  uI:FuncData
  uJ:Fun K "need_counts" "need_counts" Cw uH uI
  uK:Binds K uI ["counts"] []
  uL:mg "need_counts" = some (.ref uH)
  uM:Addr
  uN:FuncData
  uO:Fun K "row_of" "row_of" Gg uM uN
  uP:Binds K uN ["counts"] []
  uQ:mg "row_of" = some (.ref uM)
  uR:Addr
  uS:FuncData
  uT:Fun K "ways_with_one_more" "ways_with_one_more" Bo uR uS
  uU:Binds K uS ["ways","most"] []
  uV:mg "ways_with_one_more" = some (.ref uR)
  uW:Addr
  uX:FuncData
  uY:Fun K "ways_from_each" "ways_from_each" B3 uW uX
  uZ:Binds K uX ["many"] []
  u4:mg "ways_from_each" = some (.ref uW)
  u5:Addr
  u6:FuncData
  u7:Fun K "ways_to" "ways_to" E3 u5 u6
  u8:Binds K u6 ["ways","total"] []
  u9:mg "ways_to" = some (.ref u5)
  va:Addr
  vb:FuncData
  vc:Fun K "nth_row" "nth_row" E2 va vb
  vd:Binds K vb ["many","count","place"] []
  ve:mg "nth_row" = some (.ref va)
  vf:Addr
  vg:FuncData
  vh:Fun K "_law_refused" "_law_refused" Dj vf vg
  vi:Binds K vg ["many","count","place"] []
  vj:mg "_law_refused" = some (.ref vf)
  vk:Addr
  vm:FuncData
  vn:Fun K "_law_tails" "_law_tails" E5 vk vm
  vo:Binds K vm ["many"] []
  vp:mg "_law_tails" = some (.ref vk)
  vq:Addr
  vt:FuncData
  vw:Fun K "_law_ahead" "_law_ahead" E8 vq vt
  vy:Binds K vt ["counts"] []
  vz:mg "_law_ahead" = some (.ref vq)
  vA:Addr
  vB:FuncData
  vC:Fun K "_law_is_whole" "_law_is_whole" C5 vA vB
  vD:Binds K vB ["found"] []
  vE:mg "_law_is_whole" = some (.ref vA)
  vF:Addr
  vG:FuncData
  vH:Fun K "_law_are_whole" "_law_are_whole" Cv vF vG
  vI:Binds K vG ["found"] []
  vJ:mg "_law_are_whole" = some (.ref vF)
  vK:Addr
  vL:FuncData
  vM:Fun K "_law_right" "_law_right" E4 vK vL
  vN:Binds K vL ["many","count","place"] []
  vO:mg "_law_right" = some (.ref vK)
  vP:Addr
  vQ:FuncData
  vR:Fun K "_law_ways" "_law_ways" Gp vP vQ
  vS:Binds K vQ ["many"] []
  vT:mg "_law_ways" = some (.ref vP)
  vU:Addr
  vV:FuncData
  vW:Fun K "law" "law" J9 vU vV
  vX:Binds K vV ["script"] []
  vY:mg "law" = some (.ref vU)
  vZ:PySem.W.nsIn K mainGlobals "BelowError" = some (some (.ref ua))
  v3:mg "BelowError" = some (.ref ua)
  v7:PySem.W.nsIn K mainGlobals "NoAsk" = some (some (.ref ub))
  v8:mg "NoAsk" = some (.ref ub)
  v9:PySem.W.nsIn K mainGlobals "NoCounts" = some (some (.ref uc))
  wa:mg "NoCounts" = some (.ref uc)
  wb:PySem.W.nsIn K mainGlobals "NoName" = some (some (.ref ud))
  wc:mg "NoName" = some (.ref ud)
  wd:PySem.W.nsIn K mainGlobals "NoPlace" = some (some (.ref ue))
  we:mg "NoPlace" = some (.ref ue)
  wf:PySem.W.nsIn K mainGlobals "NoPoints" = some (some (.ref uf))
  wg:mg "NoPoints" = some (.ref uf)
  wj:MkX K ue uD
  wk:BInit K ua
  wl:Oi K ["NoPlace","NoAsk","NoPoints","NoCounts","NoName"] ["BelowError","NoPlace","NoAsk","NoPoints","NoCounts","NoName","ValueError"]=true
  wm:PySem.W.nsIn K mainGlobals "ValueError" = some none
  wn:mg "ValueError" = none
  wo:mg "bool" = none
  wq:mg "enumerate" = none
  wt:mg "int" = none
  wu:mg "isinstance" = none
  wv:mg "len" = none
  wx:mg "list" = none
  wy:mg "max" = none
  wz:mg "range" = none
  wA:mg "reversed" = none
  wB:mg "set" = none
  wC:mg "sorted" = none
  wD:mg "sum" = none
  wE:mg "tuple" = none
section
variable {P:Program}{w:World}{K:PySem.W.Frag}{mg:Str→Option Value}{base:Heap}
theorem Lx(C:Defs K mg):FnOk P w K mg base CX0 1 C.ug C.uh ["row"] (spF K 1 Dz):=by
  refine Fun.okF (N:=["row","found","rising","number","less"]) C.ui Ek (fun cdv A outer s H E hr=>?_)
  have hu:=hr.units
  refine Ai ?s0 ?t0
  case s0=>exact (Aq (i:=1) (by exact Ek.nd) (Cz Ae))
  refine Ai ?s1 ?t1
  case s1=>exact (Aq (i:=2) (by exact Ek.nd) (Cz Ae))
  refine Ai ?s2 ?t2
  case s2=>exact (Cc PassesOwn.never rfl (Hc (Ah 0)) (Bb (i:=3) (by exact Ek.nd)) (Ai (Aq (i:=4) (by exact Ek.nd) (Be B8 C1 (by rfl) C.wv PySem.boot_len (Aa (Ti (N':=["one","number"]) (ix:=[none,some 3]) ⟨rfl,rfl,rfl,rfl,rfl,rfl⟩ rfl (Hc (Ah 2)) (fun _ _ _ _ _ _=>(Bb (i:=0) (show List.Nodup (α:=Str) ["one","number"] by decide +kernel))) (fun _ _ _ _ _ _=>(Ci Lu Ie (Ah 0) (Ah 1) (B7 _))) (fun _ _ _ _ _ _=>(Ah 0))) Ae))) (Ai (Dv (Na PySem.F.plainAttrs_list PySem.F.slot_list_append PySem.F.type_list_append Gf Fh (Ah 1) (Aa (Av Cy B6 (Be B8 C1 (by rfl) C.wv PySem.boot_len (Aa (Ah 2) Ae)) (Ah 4)) Ae))) (Al (Dv (Na PySem.F.plainAttrs_list PySem.F.slot_list_insert PySem.F.type_list_insert X7 V9 (Ah 2) (Aa (Ah 4) (Aa (Ah 3) Ae))))))))
  exact (Al (Bm (Aah O8 Yc (by rfl) C.wE (by decide +kernel) (Aa (Ah 1) Ae))))
theorem Aai(C:Defs K mg):FnOk P w K mg base CX0 1 C.ul C.um ["script"] (spF K 1 Hv):=by
  refine Fun.okF (N:=["script"]) C.uo Yv (fun cdv A outer s H E hr=>?_)
  have hu:=hr.units
  exact (Al (Bm (Cz (by refine Aa (K6 R8 Rv (Ah 0) Ua (Gj Af)) ?_;refine Aa Af ?_;refine Aa Af ?_;refine Aa Af ?_;refine Aa (Be (Gh rfl) Kp (by rfl) C.wD PyProof.Rows.boot_sum (Aa (K6 R8 Rv (Ah 0) Ua (Gj Af)) Ae)) ?_;exact Ae))))
theorem Tx(C:Defs K mg):FnOk P w K mg base CX0 1 C.ut C.uu ["cell","k"] (spF K 2 J8):=by
  refine Fun.okF (N:=["cell","k","number"]) C.uv Kv (fun cdv A outer s H E hr=>?_)
  have hu:=hr.units
  refine Ai ?s0 ?t0
  case s0=>exact (Aq (i:=2) (by exact Kv.nd) (Av Bk Bj (Av Jy G6 (Ah 0) Af) (Av Kj Kq (Av Kj Kq Af (Ah 1)) (Ah 1))))
  refine Ai ?s1 ?t1
  case s1=>exact (Aq (i:=2) (by exact Kv.nd) (Av Jy G6 (Av Bk Bj (Ah 2) (Av Kj Kq Af (Ah 1))) Af))
  refine Ai ?s2 ?t2
  case s2=>exact (Aq (i:=2) (by exact Kv.nd) (Av Jy G6 (Av Kj Kq (Ah 2) (Ah 2)) Af))
  exact (Al (Bm (Av Nr R9 (Av Jy G6 (Av Kj Kq (Ah 2) (Av Bk Bj (Ah 2) Af)) Af) Af)))
theorem C4(C:Defs K mg):FnOk P w K mg base CX0 2 C.uy C.uz ["deck","many"] (spF K 2 A0):=by
  refine Fun.okF (N:=["deck","many","cell","found"]) C.uA Li (fun cdv A outer s H E hr=>?_)
  have hu:=hr.units
  refine Ai ?s0 ?t0
  case s0=>exact (El (PWF.pt (Af8 (Ci (Hz hu) Iq (B1 Bg Bh (Ah 0) Af (fun _ _=>rfl)) Af (B7 _)) (Aed (Ci Lu Ie (B1 Bg Bh (Ah 0) Af (fun _ _=>rfl)) (Be B8 C1 (by rfl) C.wv PySem.boot_len (Aa (B1 Bg Bh (Ah 0) Af (fun _ _=>rfl)) Ae)) (B7 _))))) (Ai (Aq (i:=2) (by exact Li.nd) (B1 Bg Bh (B1 Bg Bh (Ah 0) Af (fun _ _=>rfl)) (B1 Bg Bh (Ah 0) Af (fun _ _=>rfl)) (fun _ _=>rfl))) (Ai (Mr (Av Bk Bj (B1 Bg Bh (Ah 0) Af (fun _ _=>rfl)) Af) (Mo (Ah 0) Af)) (Ai (El (Ci Lu Ie (Ah 2) (Av Abf Xe Af Af) (B7 _)) (Al (Bm (Av Jy G6 (Ar (Tx C) (hr.mono (by decide)) (by rfl) C.ux C.uv.kp C.uw (Aa (Ah 2) (Aa (B1 Bg Bh (Ah 0) Af (fun _ _=>rfl)) Ae))) (Ah 1)))) Dc) (Al (Mr (Ah 2) (Mo (Ah 0) Af)))))) Dc)
  refine Ai ?s1 ?t1
  case s1=>exact (El (Ci Ahj Acr (B1 Bg Bh (Ah 0) Af (fun _ _=>rfl)) Af (B7 _)) (Ai (Aq (i:=3) (by exact Li.nd) (Av Jy G6 (B1 Bg Bh (Ah 0) Af (fun _ _=>rfl)) (Ah 1))) (Ai (Mr (Av Nr R9 (B1 Bg Bh (Ah 0) Af (fun _ _=>rfl)) (Ah 1)) (Mo (Ah 0) Af)) (Al (Bm (Ah 3))))) Dc)
  refine Ai ?s2 ?t2
  case s2=>exact (Mr (Av Bk Bj (B1 Bg Bh (Ah 0) Af (fun _ _=>rfl)) Af) (Mo (Ah 0) Af))
  exact (Al (Bm (Av Jy G6 (Ar (Tx C) (hr.mono (by decide)) (by rfl) C.ux C.uv.kp C.uw (Aa (B1 Bg Bh (Ah 0) Af (fun _ _=>rfl)) (Aa (Av Bk Bj (B1 Bg Bh (Ah 0) Af (fun _ _=>rfl)) Af) Ae))) (Ah 1))))
theorem Jd(C:Defs K mg):FnOk P w K mg base CX0 1 C.uD C.uE ["self","text"] (spF K 2 De):=by
  refine Fun.okF (N:=["self","text"]) C.uF Jf (fun cdv A outer s H E hr=>?_)
  have hu:=hr.units
  exact (Al (Dv (Abt (AllX.of C.wl) C.wk (by rfl) C.v3 (Aa (Ah 0) (Aa (Ah 1) Ae)))))
theorem O4(C:Defs K mg):FnOk P w K mg base CX0 1 C.uH C.uI ["counts"] (spF K 1 C7):=by
  refine Fun.okF (N:=["counts","place","count"]) C.uJ E9 (fun cdv A outer s H E hr=>?_)
  have hu:=hr.units
  exact (Al (Cc PassesOwn.never rfl (P4 (by rfl) C.wq (Aa (Ah 0) Ae)) (Wx rfl (Iw (Bb (i:=1) (by exact E9.nd)) (Iw (Bb (i:=2) (by exact E9.nd)) Ug))) (Al (El (PWF.pt (Nd (Ci Lu Ie (Ah 2) Af (B7 _)) (Kw (Ci Ahj Acr (Ah 2) (Ah 1) (B7 _))))) (Al Qr) Dc))))
theorem X0(C:Defs K mg):FnOk P w K mg base CX0 2 C.uM C.uN ["counts"] (spF K 1 Kx):=by
  refine Fun.okF (N:=["counts","left","backwards","place"]) C.uO Ir (fun cdv A outer s H E hr=>?_)
  have hu:=hr.units
  refine Ai ?s0 ?t0
  case s0=>exact (Dv (Ar (O4 C) (hr.mono (by decide)) (by rfl) C.uL C.uJ.kp C.uK (Aa (Ah 0) Ae)))
  refine Ai ?s1 ?t1
  case s1=>exact (Aq (i:=1) (by exact Ir.nd) (Uo rfl (by rfl) C.wx (by rfl) C.wz (Aa Af (Aa (Av Bk Bj (Be B8 C1 (by rfl) C.wv PySem.boot_len (Aa (Ah 0) Ae)) Af) Ae))))
  refine Ai ?s2 ?t2
  case s2=>exact (Aq (i:=2) (by exact Ir.nd) (Cz Ae))
  refine Ai ?s3 ?t3
  case s3=>exact (Cc PassesOwn.never rfl (Jt (by rfl) C.wz (Aa (Av Cy B6 (Be B8 C1 (by rfl) C.wv PySem.boot_len (Aa (Ah 0) Ae)) Af) (Aa (Ep Af) (Aa (Ep Af) Ae)))) (Bb (i:=3) (by exact Ir.nd)) (Al (Dv (Na PySem.F.plainAttrs_list PySem.F.slot_list_append PySem.F.type_list_append Gf Fh (Ah 2) (Aa (Na PySem.F.plainAttrs_list PySem.F.slot_list_pop PySem.F.type_list_pop Acb Afn (Ah 1) (Aa (Av Cy B6 (Ah 3) (B1 Bg Bh (Ah 0) (Ah 3) (fun _ _=>rfl))) Ae)) Ae)))))
  exact (Al (Bm (Ae7 rfl (by rfl) C.wE (by rfl) C.wA (Aa (Ah 2) Ae))))
theorem Ho(C:Defs K mg):FnOk P w K mg base CX0 1 C.uR C.uS ["ways","most"] (spF K 2 Bw):=by
  refine Fun.okF (N:=["ways","most"]) C.uT Hs (fun cdv A outer s H E hr=>?_)
  have hu:=hr.units
  exact (Al (Bm (Ag3 (N':=["total","ways","most"]) (ix:=[none,some 0,some 1]) ⟨rfl,rfl,rfl,rfl,rfl,rfl⟩ rfl (Di (by rfl) C.wz (Aa (Av Bk Bj (Be B8 C1 (by rfl) C.wv PySem.boot_len (Aa (Ah 0) Ae)) (Ah 1)) Ae)) (fun _ _ _ _ _ _=>(Bb (i:=0) (show List.Nodup (α:=Str) ["total","ways","most"] by decide +kernel))) (fun _ _ _ _ _ _=>(Be (Gh rfl) Kp (by rfl) C.wD PyProof.Rows.boot_sum (Aa (K6 R8 Rv (Ah 1) (Gj (Be (Pj rfl) Xh (by rfl) C.wy PyProof.Rows.boot_max (Aa Af (Aa (Av Cy B6 (Ah 0) (Ah 2)) Ae)))) (Gj (Av Bk Bj (Ah 0) Af))) Ae))))))
theorem Fp(C:Defs K mg):FnOk P w K mg base CX0 2 C.uW C.uX ["many"] (spF K 1 Bs):=by
  refine Fun.okF (N:=["many","backwards","place"]) C.uY Dp (fun cdv A outer s H E hr=>?_)
  have hu:=hr.units
  refine Ai ?s0 ?t0
  case s0=>exact (Aq (i:=1) (by exact Dp.nd) (Cz (Aa (Cz (Aa Af Ae)) Ae)))
  refine Ai ?s1 ?t1
  case s1=>exact (Cc PassesOwn.never rfl (Jt (by rfl) C.wz (Aa (Av Cy B6 (Ah 0) Af) (Aa (Ep Af) (Aa (Ep Af) Ae)))) (Bb (i:=2) (by exact Dp.nd)) (Al (Dv (Na PySem.F.plainAttrs_list PySem.F.slot_list_append PySem.F.type_list_append Gf Fh (Ah 1) (Aa (Ar (Ho C) (hr.mono (by decide)) (by rfl) C.uV C.uT.kp C.uU (Aa (B1 Bg Bh (Ah 1) (Ep Af) (fun _ _=>rfl)) (Aa (Ah 2) Ae))) Ae)))))
  exact (Al (Bm (Afy rfl (by rfl) C.wx (by rfl) C.wA (Aa (Ah 1) Ae))))
theorem Hj(C:Defs K mg):FnOk P w K mg base CX0 1 C.u5 C.u6 ["ways","total"] (spF K 2 Bt):=by
  refine Fun.okF (N:=["ways","total"]) C.u7 Wh (fun cdv A outer s H E hr=>?_)
  have hu:=hr.units
  exact (Al (Bm (Akd (Y8 Aki Lu Ajs Ie Af (Ah 1) (Be B8 C1 (by rfl) C.wv PySem.boot_len (Aa (Ah 0) Ae))) (B1 Bg Bh (Ah 0) (Ah 1) (fun _ _=>rfl)) Af)))
theorem Dg(C:Defs K mg):FnOk P w K mg base CX0 3 C.va C.vb ["many","count","place"] (spF K 3 B4):=by
  refine Fun.okF (N:=["many","count","place","ways","counts","left","ahead","turn","own"]) C.vc B0 (fun cdv A outer s H E hr=>?_)
  have hu:=hr.units
  refine Ai ?s0 ?t0
  case s0=>exact (Aq (i:=3) (by exact B0.nd) (Ar (Fp C) (hr.mono (by decide)) (by rfl) C.u4 C.uY.kp C.uZ (Aa (Ah 0) Ae)))
  refine Ai ?s1 ?t1
  case s1=>exact (El (PWF.pt (Nd (Ci Lu Ie (Ah 2) Af (B7 _)) (Kw (Ci Abj Vf (Ah 2) (Ar (Hj C) (hr.mono (by decide)) (by rfl) C.u9 C.u7.kp C.u8 (Aa (B1 Bg Bh (Ah 3) Af (fun _ _=>rfl)) (Aa (Ah 1) Ae))) (B7 _))))) (Al Qr) Dc)
  refine Ai ?s2 ?t2
  case s2=>exact (Aq (i:=4) (by exact B0.nd) (Cz Ae))
  refine Ai ?s3 ?t3
  case s3=>exact (Aq (i:=5) (by exact B0.nd) (Ah 1))
  refine Ai ?s4 ?t4
  case s4=>exact (Aq (i:=6) (by exact B0.nd) (Ah 2))
  refine Ai ?s5 ?t5
  case s5=>exact (Cc PassesOwn.never rfl (Di (by rfl) C.wz (Aa (Ah 0) Ae)) (Bb (i:=7) (by exact B0.nd)) (Ai (Aq (i:=8) (by exact B0.nd) Af) (Ai (Aa0 100000 PassesOwn.never (Ci Abj Vf (Ah 6) (Ar (Hj C) (hr.mono (by decide)) (by rfl) C.u9 C.u7.kp C.u8 (Aa (B1 Bg Bh (Ah 3) (Av Bk Bj (Ah 7) Af) (fun _ _=>rfl)) (Aa (Av Cy B6 (Ah 5) (Ah 8)) Ae))) (B7 _)) (Ai (Aq (i:=6) (by exact B0.nd) (Av Cy B6 (Ah 6) (Ar (Hj C) (hr.mono (by decide)) (by rfl) C.u9 C.u7.kp C.u8 (Aa (B1 Bg Bh (Ah 3) (Av Bk Bj (Ah 7) Af) (fun _ _=>rfl)) (Aa (Av Cy B6 (Ah 5) (Ah 8)) Ae))))) (Al (Aq (i:=8) (by exact B0.nd) (Av Bk Bj (Ah 8) Af))))) (Ai (Dv (Na PySem.F.plainAttrs_list PySem.F.slot_list_append PySem.F.type_list_append Gf Fh (Ah 4) (Aa (Ah 8) Ae))) (Al (Aq (i:=5) (by exact B0.nd) (Av Cy B6 (Ah 5) (Ah 8))))))))
  exact (Al (Bm (Ar (X0 C) (hr.mono (by decide)) (by rfl) C.uQ C.uO.kp C.uP (Aa (Ah 4) Ae))))
theorem Sx(C:Defs K mg):FnX P w K mg base 3 C.va C.vb ["many","count","place"] Lm:=by
  refine Fun.okX (N:=["many","count","place","ways","counts","left","ahead","turn","own"]) C.vc B0 (fun cdv A outer s H E hr=>?_)
  have hu:=hr.units
  exact (Aca (Aq (i:=3) (by exact B0.nd) (Ar (Fp C) (hr.mono (by decide)) (by rfl) C.u4 C.uY.kp C.uZ (Aa (Ah 0) Ae))) Alh (Yu (Alv (PWF.pt (Nd (Ci Lu Ie (Ah 2) Af (B7 _)) (Kw (Ci Abj Vf (Ah 2) (Ar (Hj C) (hr.mono (by decide)) (by rfl) C.u9 C.u7.kp C.u8 (Aa (B1 Bg Bh (Ah 3) Af (fun _ _=>rfl)) (Aa (Ah 1) Ae))) (B7 _))))) (Wk (Ado (AllX.of C.wl) (Adl C.wd C.wj (Jd C) (hr.mono (by decide)) (by rfl) C.we C.uG (Aa (Y7 (.cons Su (.cons (Vv (Ah 2)) (.cons Su (.cons (Vv (Ah 0)) (.cons Su (.cons (Vv (Ah 1)) (.cons Su .nil)))))))) Ae)))) Ajj)))
theorem Ka(C:Defs K mg):FnOk P w K mg base CX0 4 C.vf C.vg ["many","count","place"] (spF K 3 Ej):=by
  refine Fun.okF (N:=["many","count","place","caught","e"]) C.vh Ez (fun cdv A outer s H E hr=>?_)
  have hu:=hr.units
  refine Ai ?s0 ?t0
  case s0=>exact (Aq (i:=3) (by exact Ez.nd) Ajc)
  refine Ai ?s1 ?t1
  case s1=>exact (Afk (i:=4) (AllM.sub C.wl (by decide) (by decide) C.vZ (by decide)) (by exact Ez.nd) (Al (Dv (Ar (Dg C) (hr.mono (by decide)) (by rfl) C.ve C.vc.kp C.vd (Aa (Ah 0) (Aa (Ah 1) (Aa (Ah 2) Ae)))))) (Wk (Af2 (Age (Sx C) (hr.mono (by decide)) (by rfl) C.ve C.vc.kp C.vd (Aa (Ah 0) (Aa (Ah 1) (Aa (Ah 2) Ae)))))) (fun _=>(Al (Aq (i:=3) (by exact Ez.nd) (Ah 4)))) (by rfl) C.v3)
  refine Ai ?s2 ?t2
  case s2=>exact (El (PWF.pt (Nd (Hl (Agl C.wl (by decide) (.cons C.v7 (by rfl) C.v8 (.cons C.v9 (by rfl) C.wa (.cons C.wb (by rfl) C.wc (.cons C.wf (by rfl) C.wg .nil)))) (Ah 3) (by rfl) C.wu)) (Kw (Ja (Hl (Ae3 C.wl (by decide) C.wm (Ah 3) (by rfl) C.wu (by rfl) C.wn)))))) (Al (Bm Qj)) Dc)
  exact (Al (Bm (Ah6 C.wl (by decide) C.wd (Ah 3) (by rfl) C.wu (by rfl) C.we)))
theorem Wa(C:Defs K mg):FnOk P w K mg base CX0 1 C.vk C.vm ["many"] (spF K 1 Gx):=by
  refine Fun.okF (N:=["many","tails","place","more","total","count"]) C.vn Df (fun cdv A outer s H E hr=>?_)
  have hu:=hr.units
  refine Ai ?s0 ?t0
  case s0=>exact (Aq (i:=1) (by exact Df.nd) (Cz (Aa (Ac6 Af Af) Ae)))
  refine Ai ?s1 ?t1
  case s1=>exact (Cc PassesOwn.never rfl (Jt (by rfl) C.wz (Aa (Av Cy B6 (Ah 0) Af) (Aa (Ep Af) (Aa (Ep Af) Ae)))) (Bb (i:=2) (by exact Df.nd)) (Ai (Aq (i:=3) (by exact Df.nd) Aef) (Ai (Aa7 (Cc PassesOwn.never rfl (Aa9 (B1 Bg Bh (Ah 1) Af (fun _ _=>rfl))) (Bb (i:=4) (by exact Df.nd)) (Al (Cc PassesOwn.never rfl (Di (by rfl) C.wz (Aa (Av Bk Bj (Ah 2) Af) Ae)) (Bb (i:=5) (by exact Df.nd)) (Al (Adf hu (Ah 3) (Av Bk Bj (Ah 4) (Ah 5)) (Av Bk Bj (Sz hu (Ah 3) (Av Bk Bj (Ah 4) (Ah 5)) Af ⟨rfl,rfl,rfl,rfl⟩) (Ac3 hu (B1 Bg Bh (Ah 1) Af (fun _ _=>rfl)) (Ah 4) (fun _ _=>rfl))))))))) (Al (Aq (i:=1) (by exact Df.nd) (Av Bk Bj (Cz (Aa (Ah 3) Ae)) (Ah 1)))))))
  exact (Al (Bm (Ah 1)))
theorem Vm(C:Defs K mg):FnOk P w K mg base CX0 2 C.vq C.vt ["counts"] (spF K 1 G1):=by
  refine Fun.okF (N:=["counts","tails","left","found","place","count","less"]) C.vw Ck (fun cdv A outer s H E hr=>?_)
  have hu:=hr.units
  refine Ai ?s0 ?t0
  case s0=>exact (Aq (i:=1) (by exact Ck.nd) (Ar (Wa C) (hr.mono (by decide)) (by rfl) C.vp C.vn.kp C.vo (Aa (Be B8 C1 (by rfl) C.wv PySem.boot_len (Aa (Ah 0) Ae)) Ae)))
  refine Ai ?s1 ?t1
  case s1=>exact (Aq (i:=2) (by exact Ck.nd) (Be (Gh rfl) Kp (by rfl) C.wD PyProof.Rows.boot_sum (Aa (Ah 0) Ae)))
  refine Ai ?s2 ?t2
  case s2=>exact (Aq (i:=3) (by exact Ck.nd) Af)
  refine Ai ?s3 ?t3
  case s3=>exact (Cc PassesOwn.never rfl (P4 (by rfl) C.wq (Aa (Ah 0) Ae)) (Wx rfl (Iw (Bb (i:=4) (by exact Ck.nd)) (Iw (Bb (i:=5) (by exact Ck.nd)) Ug))) (Ai (Cc PassesOwn.never rfl (Di (by rfl) C.wz (Aa (Ah 5) Ae)) (Bb (i:=6) (by exact Ck.nd)) (Al (Aq (i:=3) (by exact Ck.nd) (Av Bk Bj (Ah 3) (Sz hu (B1 Bg Bh (Ah 1) (Av Bk Bj (Ah 4) Af) (fun _ _=>rfl)) (Av Cy B6 (Ah 2) (Ah 6)) Af ⟨rfl,rfl,rfl,rfl⟩))))) (Al (Aq (i:=2) (by exact Ck.nd) (Av Cy B6 (Ah 2) (Ah 5))))))
  exact (Al (Bm (Ah 3)))
theorem Pc(C:Defs K mg):FnOk P w K mg base CX0 1 C.vA C.vB ["found"] (spF K 1 G5):=by
  refine Fun.okF (N:=["found"]) C.vC O7 (fun cdv A outer s H E hr=>?_)
  have hu:=hr.units
  exact (Al (Bm (Lp (U5 Af3 (Ah 0) (by rfl) C.wu (by rfl) C.wt (by decide +kernel)) (Rl (Aht (U5 Adn (Ah 0) (by rfl) C.wu (by rfl) C.wo (by decide +kernel)))))))
theorem O1(C:Defs K mg):FnOk P w K mg base CX0 2 C.vF C.vG ["found"] (spF K 1 C9):=by
  refine Fun.okF (N:=["found"]) C.vH Ou (fun cdv A outer s H E hr=>?_)
  have hu:=hr.units
  exact (Al (Bm (Lp (U5 Ym (Ah 0) (by rfl) C.wu (by rfl) C.wE (by decide +kernel)) (Rl (Jz (Hz hu) Iq (Ti (N':=["one"]) (ix:=[none]) ⟨rfl,rfl,rfl,rfl,rfl,rfl⟩ rfl (Hc (Ah 0)) (fun _ _ _ _ _ _=>(Bb (i:=0) (show List.Nodup (α:=Str) ["one"] by decide +kernel))) (fun _ _ _ _ _ _=>(Ja (Hl (Ar (Pc C) (hr.mono (by decide)) (by rfl) C.vE C.vC.kp C.vD (Aa (Ah 0) Ae))))) (fun _ _ _ _ _ _=>(Ah 0))) (Cz Ae) (B7 _))))))
theorem V8(C:Defs K mg):FnOk P w K mg base CX0 4 C.vK C.vL ["many","count","place"] (spF K 3 Iu):=by
  refine Fun.okF (N:=["many","count","place","found","counts"]) C.vM J7 (fun cdv A outer s H E hr=>?_)
  have hu:=hr.units
  refine Ai ?s0 ?t0
  case s0=>exact (Aq (i:=3) (by exact J7.nd) (Ar (Dg C) (hr.mono (by decide)) (by rfl) C.ve C.vc.kp C.vd (Aa (Ah 0) (Aa (Ah 1) (Aa (Ah 2) Ae)))))
  refine Ai ?s1 ?t1
  case s1=>exact (El (PWF.pt (Nd (Ja (Hl (Ar (O1 C) (hr.mono (by decide)) (by rfl) C.vJ C.vH.kp C.vI (Aa (Ah 3) Ae)))) (Kw (Ci (Ad0 hu) Acv (Be (Vq rfl) Aak (by rfl) C.wC PyProof.Rows.boot_sorted (Aa (Ah 3) Ae)) (Uo rfl (by rfl) C.wx (by rfl) C.wz (Aa Af (Aa (Av Bk Bj (Ah 0) Af) Ae))) (B7 _))))) (Al (Bm Qj)) Dc)
  refine Ai ?s2 ?t2
  case s2=>exact (Aq (i:=4) (by exact J7.nd) (Ar (Lx C) (hr.mono (by decide)) (by rfl) C.uk C.ui.kp C.uj (Aa (Ah 3) Ae)))
  exact (Al (Bm (Lp (Jz (Hz hu) Iq (Be (Gh rfl) Kp (by rfl) C.wD PyProof.Rows.boot_sum (Aa (Ah 4) Ae)) (Ah 1) (B7 _)) (Lp (Jz (Hz hu) Iq (Ar (Vm C) (hr.mono (by decide)) (by rfl) C.vz C.vw.kp C.vy (Aa (Ah 4) Ae)) (Ah 2) (B7 _)) (Rl (Jz (Hz hu) Iq (Ar (Dg C) (hr.mono (by decide)) (by rfl) C.ve C.vc.kp C.vd (Aa (Ah 0) (Aa (Ah 1) (Aa (Ah 2) Ae)))) (Ah 3) (B7 _)))))))
theorem Yj(C:Defs K mg):FnOk P w K mg base CX0 1 C.vP C.vQ ["many"] (spF K 1 Ku):=by
  refine Fun.okF (N:=["many","found","size","longer","total"]) C.vR E6 (fun cdv A outer s H E hr=>?_)
  have hu:=hr.units
  refine Ai ?s0 ?t0
  case s0=>exact (Aq (i:=1) (by exact E6.nd) (Cz (Aa Af Ae)))
  refine Ai ?s1 ?t1
  case s1=>exact (Cc PassesOwn.never rfl (Va (by rfl) C.wz (Aa Af (Aa (Av Bk Bj (Ah 0) Af) Ae))) (Bb (i:=2) (by exact E6.nd)) (Ai (Aq (i:=3) (by exact E6.nd) (Cz Ae)) (Ai (Cc PassesOwn.never rfl (Di (by rfl) C.wz (Aa (Av Cy B6 (Av Bk Bj (Be B8 C1 (by rfl) C.wv PySem.boot_len (Aa (Ah 1) Ae)) (Ah 2)) Af) Ae)) (Bb (i:=4) (by exact E6.nd)) (Al (Dv (Na PySem.F.plainAttrs_list PySem.F.slot_list_append PySem.F.type_list_append Gf Fh (Ah 3) (Aa (Be (Gh rfl) Kp (by rfl) C.wD PyProof.Rows.boot_sum (Aa (K6 R8 Rv (Ah 1) (Gj (Be (Pj rfl) Xh (by rfl) C.wy PyProof.Rows.boot_max (Aa Af (Aa (Av Bk Bj (Av Cy B6 (Ah 4) (Ah 2)) Af) Ae)))) (Gj (Av Bk Bj (Ah 4) Af))) Ae)) Ae))))) (Al (Aq (i:=1) (by exact E6.nd) (Ah 3))))))
  exact (Al (Bm (Ah 1)))
theorem Ahx(C:Defs K mg):FnOk P w K mg base CX0 5 C.vU C.vV ["script"] (spF K 1 Tr):=by
  refine Fun.okF (N:=["script","deck","turn","many","ways","count","place","far","strange","rows","some"]) C.vW Em (fun cdv A outer s H E hr=>?_)
  have hu:=hr.units
  refine Ai ?s0 ?t0
  case s0=>exact (Aq (i:=1) (by exact Em.nd) (Ar (Aai C) (hr.mono (by decide)) (by rfl) C.ur C.uo.kp C.uq (Aa (Ah 0) Ae)))
  refine Ai ?s1 ?t1
  case s1=>exact (Cc PassesOwn.never rfl (Di (by rfl) C.wz (Aa Af Ae)) (Bb (i:=2) (by exact Em.nd)) (Ai (Aq (i:=3) (by exact Em.nd) (B1 Bg Bh (Cz (Aa (Ar (C4 C) (hr.mono (by decide)) (by rfl) C.uC C.uA.kp C.uB (Aa (Ah 1) (Aa Af Ae))) (Aa Af (Aa (Ar (C4 C) (hr.mono (by decide)) (by rfl) C.uC C.uA.kp C.uB (Aa (Ah 1) (Aa Af Ae))) (Aa (Ar (C4 C) (hr.mono (by decide)) (by rfl) C.uC C.uA.kp C.uB (Aa (Ah 1) (Aa Af Ae))) Ae))))) (Ah 2) (fun _ _=>rfl))) (Ai (Aq (i:=4) (by exact Em.nd) (Ar (Yj C) (hr.mono (by decide)) (by rfl) C.vT C.vR.kp C.vS (Aa (Ah 3) Ae))) (Ai (Aq (i:=5) (by exact Em.nd) (B1 Bg Bh (Cz (Aa (Ar (C4 C) (hr.mono (by decide)) (by rfl) C.uC C.uA.kp C.uB (Aa (Ah 1) (Aa (Be B8 C1 (by rfl) C.wv PySem.boot_len (Aa (Ah 4) Ae)) Ae))) (Aa (Av Nr R9 (Be B8 C1 (by rfl) C.wv PySem.boot_len (Aa (Ah 4) Ae)) Af) Ae))) (Ar (C4 C) (hr.mono (by decide)) (by rfl) C.uC C.uA.kp C.uB (Aa (Ah 1) (Aa Af Ae))) (fun _ _=>rfl))) (Ai (Cc PassesOwn.never rfl (Hc (Cz (Aa Af (Aa (Av Cy B6 (B1 Bg Bh (Ah 4) (Ah 5) (fun _ _=>rfl)) Af) (Aa (Ar (C4 C) (hr.mono (by decide)) (by rfl) C.uC C.uA.kp C.uB (Aa (Ah 1) (Aa (B1 Bg Bh (Ah 4) (Ah 5) (fun _ _=>rfl)) Ae))) (Aa (Ar (C4 C) (hr.mono (by decide)) (by rfl) C.uC C.uA.kp C.uB (Aa (Ah 1) (Aa (B1 Bg Bh (Ah 4) (Ah 5) (fun _ _=>rfl)) Ae))) Ae)))))) (Bb (i:=6) (by exact Em.nd)) (Al (El (Ja (Hl (Ar (V8 C) (hr.mono (by decide)) (by rfl) C.vO C.vM.kp C.vN (Aa (Ah 3) (Aa (Ah 5) (Aa (Ah 6) Ae)))))) (Al (Bm Qj)) Dc))) (Ai (Aq (i:=7) (by exact Em.nd) (Ar (C4 C) (hr.mono (by decide)) (by rfl) C.uC C.uA.kp C.uB (Aa (Ah 1) (Aa (Av Abf Xe Af Af) Ae)))) (Ai (Cc PassesOwn.never rfl (Hc (Cz (Aa (B1 Bg Bh (Ah 4) (Ah 5) (fun _ _=>rfl)) (Aa (Av Bk Bj (B1 Bg Bh (Ah 4) (Ah 5) (fun _ _=>rfl)) (Ah 7)) (Aa (Ep Af) (Aa (Av Cy B6 (Ep Af) (Ah 7)) Ae)))))) (Bb (i:=6) (by exact Em.nd)) (Al (El (Ja (Hl (Ar (Ka C) (hr.mono (by decide)) (by rfl) C.vj C.vh.kp C.vi (Aa (Ah 3) (Aa (Ah 5) (Aa (Ah 6) Ae)))))) (Al (Bm Qj)) Dc))) (Ai (Cc PassesOwn.never rfl (Hc (Cz (by refine Aa (Be B8 C1 (by rfl) C.wv PySem.boot_len (Aa (Ah 4) Ae)) ?_;refine Aa (Ep Af) ?_;refine Aa (Av Bk Bj (Be B8 C1 (by rfl) C.wv PySem.boot_len (Aa (Ah 4) Ae)) (Ah 7)) ?_;refine Aa (Av Cy B6 (Ep Af) (Ah 7)) ?_;refine Aa (Av Cy B6 Af (Be B8 C1 (by rfl) C.wv PySem.boot_len (Aa (Ah 4) Ae))) ?_;exact Ae))) (Bb (i:=8) (by exact Em.nd)) (Al (El (Ja (Hl (Ar (Ka C) (hr.mono (by decide)) (by rfl) C.vj C.vh.kp C.vi (Aa (Ah 3) (Aa (Ah 8) (Aa (B1 Bg Bh (Cz (Aa Af (Aa (Ep Af) (Aa (Ah 7) Ae)))) (Ar (C4 C) (hr.mono (by decide)) (by rfl) C.uC C.uA.kp C.uB (Aa (Ah 1) (Aa Af Ae))) (fun _ _=>rfl)) Ae)))))) (Al (Bm Qj)) Dc))) (Al (El (Ci Lu Ie (Ah 3) Af (B7 _)) (Ai (Uw (i:=9) (N':=["place","many","count"]) (ix:=[none,some 3,some 5]) (by exact Em.nd) ⟨rfl,rfl,rfl,rfl,rfl,rfl⟩ rfl (Di (by rfl) C.wz (Aa (B1 Bg Bh (Ah 4) (Ah 5) (fun _ _=>rfl)) Ae)) (fun _ _ _ _ _ _=>(Bb (i:=0) (show List.Nodup (α:=Str) ["place","many","count"] by decide +kernel))) (fun _ _ _ _ _ _=>(Ar (Dg C) (hr.mono (by decide)) (by rfl) C.ve C.vc.kp C.vd (Aa (Ah 1) (Aa (Ah 2) (Aa (Ah 0) Ae)))))) (Ai (Uw (i:=10) (N':=["row"]) (ix:=[none]) (by exact Em.nd) ⟨rfl,rfl,rfl,rfl,rfl,rfl⟩ rfl (Hc (Ah 9)) (fun _ _ _ _ _ _=>(Bb (i:=0) (show List.Nodup (α:=Str) ["row"] by decide +kernel))) (fun _ _ _ _ _ _=>(Ar (Lx C) (hr.mono (by decide)) (by rfl) C.uk C.ui.kp C.uj (Aa (Ah 0) Ae)))) (Al (El (Ci (Ad0 hu) Acv (Ah 10) (T4 rfl hu (by rfl) C.wC (by rfl) C.wB (Aa (Ah 10) Ae)) (B7 _)) (Al (Bm Qj)) Dc)))) Dc))))))))))
  exact (Al (Bm (Lp (Jz (Hz hu) Iq (Ar (Dg C) (hr.mono (by decide)) (by rfl) C.ve C.vc.kp C.vd (Aa Af (Aa Af (Aa Af Ae)))) (Wb Ae) (B7 _)) (Lp (Jz (Hz hu) Iq (Ar (Dg C) (hr.mono (by decide)) (by rfl) C.ve C.vc.kp C.vd (Aa Af (Aa Af (Aa Af Ae)))) (Wb (Aa Af (Aa Af (Aa Af Ae)))) (B7 _)) (Rl (Jz (Hz hu) Iq (Ar (Dg C) (hr.mono (by decide)) (by rfl) C.ve C.vc.kp C.vd (Aa Af (Aa Af (Aa Af Ae)))) (Wb (Aa Af (Aa Af (Aa Af Ae)))) (B7 _)))))))
end
theorem Ajf{l:PySem.W.OpenLaw}{w:World}{K:PySem.W.Frag}{h:Heap}{mg:Str→Option Value}{fa:Addr}(X:K.In h)(G:h.Ns mainGlobals mg)(hfa:mg "law" = some (.ref fa))
    {od0 an0:Option Addr} {sl0:Array (Option Value)} {oc0 kV0 dc0 pm0 cd0 ct0:Value} {f0:Addr} {od1 an1:Option Addr} {sl1:Array (Option Value)} {oc1 kV1 dc1 pm1 cd1 ct1:Value} {f1:Addr} {od2 an2:Option Addr} {sl2:Array (Option Value)} {oc2 kV2 dc2 pm2 cd2 ct2:Value} {f2:Addr} {od3 an3:Option Addr} {sl3:Array (Option Value)} {oc3 kV3 dc3 pm3 cd3 ct3:Value} {f3:Addr} {od4 an4:Option Addr} {sl4:Array (Option Value)} {oc4 kV4 dc4 pm4 cd4 ct4:Value} {f4:Addr} {od5 an5:Option Addr} {sl5:Array (Option Value)} {oc5 kV5 dc5 pm5 cd5 ct5:Value} {f5:Addr} {od6 an6:Option Addr} {sl6:Array (Option Value)} {oc6 kV6 dc6 pm6 cd6 ct6:Value} {f6:Addr} {od7 an7:Option Addr} {sl7:Array (Option Value)} {oc7 kV7 dc7 pm7 cd7 ct7:Value} {f7:Addr} {od8 an8:Option Addr} {sl8:Array (Option Value)} {oc8 kV8 dc8 pm8 cd8 ct8:Value} {f8:Addr} {od9 an9:Option Addr} {sl9:Array (Option Value)} {oc9 kV9 dc9 pm9 cd9 ct9:Value} {f9:Addr} {od10 an10:Option Addr} {sl10:Array (Option Value)} {oc10 kV10 dc10 pm10 cd10 ct10:Value} {f10:Addr} {od11 an11:Option Addr} {sl11:Array (Option Value)} {oc11 kV11 dc11 pm11 cd11 ct11:Value} {f11:Addr} {od12 an12:Option Addr} {sl12:Array (Option Value)} {oc12 kV12 dc12 pm12 cd12 ct12:Value} {f12:Addr} {od13 an13:Option Addr} {sl13:Array (Option Value)} {oc13 kV13 dc13 pm13 cd13 ct13:Value} {f13:Addr} {od14 an14:Option Addr} {sl14:Array (Option Value)} {oc14 kV14 dc14 pm14 cd14 ct14:Value} {f14:Addr} {od15 an15:Option Addr} {sl15:Array (Option Value)} {oc15 kV15 dc15 pm15 cd15 ct15:Value} {f15:Addr} {od16 an16:Option Addr} {sl16:Array (Option Value)} {oc16 kV16 dc16 pm16 cd16 ct16:Value} {f16:Addr} {od17 an17:Option Addr} {sl17:Array (Option Value)} {oc17 kV17 dc17 pm17 cd17 ct17:Value} {f17:Addr} {od18 an18:Option Addr} {sl18:Array (Option Value)} {oc18 kV18 dc18 pm18 cd18 ct18:Value} {f18:Addr}
    {A_BelowError:Addr} (xn_BelowError:PySem.W.nsIn K mainGlobals "BelowError" = some (some (.ref A_BelowError)))
    {A_NoAsk:Addr} (xn_NoAsk:PySem.W.nsIn K mainGlobals "NoAsk" = some (some (.ref A_NoAsk)))
    {A_NoCounts:Addr} (xn_NoCounts:PySem.W.nsIn K mainGlobals "NoCounts" = some (some (.ref A_NoCounts)))
    {A_NoName:Addr} (xn_NoName:PySem.W.nsIn K mainGlobals "NoName" = some (some (.ref A_NoName)))
    {A_NoPlace:Addr} (xn_NoPlace:PySem.W.nsIn K mainGlobals "NoPlace" = some (some (.ref A_NoPlace)))
    {A_NoPoints:Addr} (xn_NoPoints:PySem.W.nsIn K mainGlobals "NoPoints" = some (some (.ref A_NoPoints)))
    (ex_NoPlace:Mh K A_NoPlace=true) (kc_NoPlace:PySem.W.keepIn K (.ref A_NoPlace)=true)
    (bs_BelowError:PySem.W.specialIn K (.ref A_BelowError) "__getattribute__" = some (some (.builtin "type.__getattribute__"))) (br_BelowError:PySem.W.readsIn K A_BelowError (.type "type")=true) (bf_BelowError:Ab0 K A_BelowError=true)
    (xt:Oi K ["NoPlace","NoAsk","NoPoints","NoCounts","NoName"] ["BelowError","NoPlace","NoAsk","NoPoints","NoCounts","NoName","ValueError"]=true)
    (xv:PySem.W.nsIn K mainGlobals "ValueError" = some none)
    (a0:PySem.W.nsIn K mainGlobals "_law_counts" = some (some (.ref f0))) (l0:K.lookup f0=some ⟨oc0,od0,.func (PySem.W.fnOf "_law_counts" "_law_counts" (Bp Dw) (Bc Dw) (Aj Dw) .none kV0 dc0 pm0 an0 cd0 ct0),sl0⟩) (c0:PySem.W.codeIn K cd0 "_law_counts" = true) (k0:PySem.W.keepIn K (.ref f0)=true)
    (a1:PySem.W.nsIn K mainGlobals "_law_deck" = some (some (.ref f1))) (l1:K.lookup f1=some ⟨oc1,od1,.func (PySem.W.fnOf "_law_deck" "_law_deck" (Bp Gm) (Bc Gm) (Aj Gm) .none kV1 dc1 pm1 an1 cd1 ct1),sl1⟩) (c1:PySem.W.codeIn K cd1 "_law_deck" = true) (k1:PySem.W.keepIn K (.ref f1)=true)
    (a2:PySem.W.nsIn K mainGlobals "_law_mix" = some (some (.ref f2))) (l2:K.lookup f2=some ⟨oc2,od2,.func (PySem.W.fnOf "_law_mix" "_law_mix" (Bp Jc) (Bc Jc) (Aj Jc) .none kV2 dc2 pm2 an2 cd2 ct2),sl2⟩) (c2:PySem.W.codeIn K cd2 "_law_mix" = true) (k2:PySem.W.keepIn K (.ref f2)=true)
    (a3:PySem.W.nsIn K mainGlobals "_law_next" = some (some (.ref f3))) (l3:K.lookup f3=some ⟨oc3,od3,.func (PySem.W.fnOf "_law_next" "_law_next" (Bp Gu) (Bc Gu) (Aj Gu) .none kV3 dc3 pm3 an3 cd3 ct3),sl3⟩) (c3:PySem.W.codeIn K cd3 "_law_next" = true) (k3:PySem.W.keepIn K (.ref f3)=true)
    (a4:PySem.W.findIn K (.ref A_NoPlace) "__init__" = some (some (.ref f4))) (i4:PySem.W.isFn K (.ref f4)=true) (l4:K.lookup f4=some ⟨oc4,od4,.func (PySem.W.fnOf "__init__" "NoPlace.__init__" (Bp Bu) (Bc Bu) (Aj Bu) .none kV4 dc4 pm4 an4 cd4 ct4),sl4⟩) (c4:PySem.W.codeIn K cd4 "NoPlace.__init__" = true) (k4:PySem.W.keepIn K (.ref f4)=true)
    (a5:PySem.W.nsIn K mainGlobals "need_counts" = some (some (.ref f5))) (l5:K.lookup f5=some ⟨oc5,od5,.func (PySem.W.fnOf "need_counts" "need_counts" (Bp Cw) (Bc Cw) (Aj Cw) .none kV5 dc5 pm5 an5 cd5 ct5),sl5⟩) (c5:PySem.W.codeIn K cd5 "need_counts" = true) (k5:PySem.W.keepIn K (.ref f5)=true)
    (a6:PySem.W.nsIn K mainGlobals "row_of" = some (some (.ref f6))) (l6:K.lookup f6=some ⟨oc6,od6,.func (PySem.W.fnOf "row_of" "row_of" (Bp Gg) (Bc Gg) (Aj Gg) .none kV6 dc6 pm6 an6 cd6 ct6),sl6⟩) (c6:PySem.W.codeIn K cd6 "row_of" = true) (k6:PySem.W.keepIn K (.ref f6)=true)
    (a7:PySem.W.nsIn K mainGlobals "ways_with_one_more" = some (some (.ref f7))) (l7:K.lookup f7=some ⟨oc7,od7,.func (PySem.W.fnOf "ways_with_one_more" "ways_with_one_more" (Bp Bo) (Bc Bo) (Aj Bo) .none kV7 dc7 pm7 an7 cd7 ct7),sl7⟩) (c7:PySem.W.codeIn K cd7 "ways_with_one_more" = true) (k7:PySem.W.keepIn K (.ref f7)=true)
    (a8:PySem.W.nsIn K mainGlobals "ways_from_each" = some (some (.ref f8))) (l8:K.lookup f8=some ⟨oc8,od8,.func (PySem.W.fnOf "ways_from_each" "ways_from_each" (Bp B3) (Bc B3) (Aj B3) .none kV8 dc8 pm8 an8 cd8 ct8),sl8⟩) (c8:PySem.W.codeIn K cd8 "ways_from_each" = true) (k8:PySem.W.keepIn K (.ref f8)=true)
    (a9:PySem.W.nsIn K mainGlobals "ways_to" = some (some (.ref f9))) (l9:K.lookup f9=some ⟨oc9,od9,.func (PySem.W.fnOf "ways_to" "ways_to" (Bp E3) (Bc E3) (Aj E3) .none kV9 dc9 pm9 an9 cd9 ct9),sl9⟩) (c9:PySem.W.codeIn K cd9 "ways_to" = true) (k9:PySem.W.keepIn K (.ref f9)=true)
    (a10:PySem.W.nsIn K mainGlobals "nth_row" = some (some (.ref f10))) (l10:K.lookup f10=some ⟨oc10,od10,.func (PySem.W.fnOf "nth_row" "nth_row" (Bp E2) (Bc E2) (Aj E2) .none kV10 dc10 pm10 an10 cd10 ct10),sl10⟩) (c10:PySem.W.codeIn K cd10 "nth_row" = true) (k10:PySem.W.keepIn K (.ref f10)=true)
    (a11:PySem.W.nsIn K mainGlobals "_law_refused" = some (some (.ref f11))) (l11:K.lookup f11=some ⟨oc11,od11,.func (PySem.W.fnOf "_law_refused" "_law_refused" (Bp Dj) (Bc Dj) (Aj Dj) .none kV11 dc11 pm11 an11 cd11 ct11),sl11⟩) (c11:PySem.W.codeIn K cd11 "_law_refused" = true) (k11:PySem.W.keepIn K (.ref f11)=true)
    (a12:PySem.W.nsIn K mainGlobals "_law_tails" = some (some (.ref f12))) (l12:K.lookup f12=some ⟨oc12,od12,.func (PySem.W.fnOf "_law_tails" "_law_tails" (Bp E5) (Bc E5) (Aj E5) .none kV12 dc12 pm12 an12 cd12 ct12),sl12⟩) (c12:PySem.W.codeIn K cd12 "_law_tails" = true) (k12:PySem.W.keepIn K (.ref f12)=true)
    (a13:PySem.W.nsIn K mainGlobals "_law_ahead" = some (some (.ref f13))) (l13:K.lookup f13=some ⟨oc13,od13,.func (PySem.W.fnOf "_law_ahead" "_law_ahead" (Bp E8) (Bc E8) (Aj E8) .none kV13 dc13 pm13 an13 cd13 ct13),sl13⟩) (c13:PySem.W.codeIn K cd13 "_law_ahead" = true) (k13:PySem.W.keepIn K (.ref f13)=true)
    (a14:PySem.W.nsIn K mainGlobals "_law_is_whole" = some (some (.ref f14))) (l14:K.lookup f14=some ⟨oc14,od14,.func (PySem.W.fnOf "_law_is_whole" "_law_is_whole" (Bp C5) (Bc C5) (Aj C5) .none kV14 dc14 pm14 an14 cd14 ct14),sl14⟩) (c14:PySem.W.codeIn K cd14 "_law_is_whole" = true) (k14:PySem.W.keepIn K (.ref f14)=true)
    (a15:PySem.W.nsIn K mainGlobals "_law_are_whole" = some (some (.ref f15))) (l15:K.lookup f15=some ⟨oc15,od15,.func (PySem.W.fnOf "_law_are_whole" "_law_are_whole" (Bp Cv) (Bc Cv) (Aj Cv) .none kV15 dc15 pm15 an15 cd15 ct15),sl15⟩) (c15:PySem.W.codeIn K cd15 "_law_are_whole" = true) (k15:PySem.W.keepIn K (.ref f15)=true)
    (a16:PySem.W.nsIn K mainGlobals "_law_right" = some (some (.ref f16))) (l16:K.lookup f16=some ⟨oc16,od16,.func (PySem.W.fnOf "_law_right" "_law_right" (Bp E4) (Bc E4) (Aj E4) .none kV16 dc16 pm16 an16 cd16 ct16),sl16⟩) (c16:PySem.W.codeIn K cd16 "_law_right" = true) (k16:PySem.W.keepIn K (.ref f16)=true)
    (a17:PySem.W.nsIn K mainGlobals "_law_ways" = some (some (.ref f17))) (l17:K.lookup f17=some ⟨oc17,od17,.func (PySem.W.fnOf "_law_ways" "_law_ways" (Bp Gp) (Bc Gp) (Aj Gp) .none kV17 dc17 pm17 an17 cd17 ct17),sl17⟩) (c17:PySem.W.codeIn K cd17 "_law_ways" = true) (k17:PySem.W.keepIn K (.ref f17)=true)
    (a18:PySem.W.nsIn K mainGlobals "law" = some (some (.ref f18))) (l18:K.lookup f18=some ⟨oc18,od18,.func (PySem.W.fnOf "law" "law" (Bp J9) (Bc J9) (Aj J9) .none kV18 dc18 pm18 an18 cd18 ct18),sl18⟩) (c18:PySem.W.codeIn K cd18 "law" = true) (k18:PySem.W.keepIn K (.ref f18)=true)
    (z_ValueError:PySem.W.nsIn K mainGlobals "ValueError" = some none)
    (z_bool:PySem.W.nsIn K mainGlobals "bool" = some none)
    (z_enumerate:PySem.W.nsIn K mainGlobals "enumerate" = some none)
    (z_int:PySem.W.nsIn K mainGlobals "int" = some none)
    (z_isinstance:PySem.W.nsIn K mainGlobals "isinstance" = some none)
    (z_len:PySem.W.nsIn K mainGlobals "len" = some none)
    (z_list:PySem.W.nsIn K mainGlobals "list" = some none)
    (z_max:PySem.W.nsIn K mainGlobals "max" = some none)
    (z_range:PySem.W.nsIn K mainGlobals "range" = some none)
    (z_reversed:PySem.W.nsIn K mainGlobals "reversed" = some none)
    (z_set:PySem.W.nsIn K mainGlobals "set" = some none)
    (z_sorted:PySem.W.nsIn K mainGlobals "sorted" = some none)
    (z_sum:PySem.W.nsIn K mainGlobals "sum" = some none)
    (z_tuple:PySem.W.nsIn K mainGlobals "tuple" = some none) :
    ∃ fd:FuncData,(∀ (s:Shared) (v:Value),BindsTo s fd ⟨[v],[]⟩ [("script",v)])∧∀ base:Heap,K.In base→base.Ns mainGlobals mg→FnOk l.prog w K mg base CX0 5 fa fd ["script"] (spF K 1 Tr):=by
  have e:=hfa.symm.trans (PySem.W.mg_of X G a18)
  cases e
  have F0:=Cg (st:=Dw) l0 c0 k0
  have b0:=F0.binds (ps:=["row"]) fun _ _ _ _ _ _=>Mi (fun _=>rfl)
  have F1:=Cg (st:=Gm) l1 c1 k1
  have b1:=F1.binds (ps:=["script"]) fun _ _ _ _ _ _=>Mi (fun _=>rfl)
  have F2:=Cg (st:=Jc) l2 c2 k2
  have b2:=F2.binds (ps:=["cell","k"]) fun _ _ _ _ _ _=>X9 (fun _ _=>rfl)
  have F3:=Cg (st:=Gu) l3 c3 k3
  have b3:=F3.binds (ps:=["deck","many"]) fun _ _ _ _ _ _=>X9 (fun _ _=>rfl)
  have F4:=Cg (st:=Bu) l4 c4 k4
  have b4:=F4.binds (ps:=["self","text"]) fun _ _ _ _ _ _=>X9 (fun _ _=>rfl)
  have F5:=Cg (st:=Cw) l5 c5 k5
  have b5:=F5.binds (ps:=["counts"]) fun _ _ _ _ _ _=>Mi (fun _=>rfl)
  have F6:=Cg (st:=Gg) l6 c6 k6
  have b6:=F6.binds (ps:=["counts"]) fun _ _ _ _ _ _=>Mi (fun _=>rfl)
  have F7:=Cg (st:=Bo) l7 c7 k7
  have b7:=F7.binds (ps:=["ways","most"]) fun _ _ _ _ _ _=>X9 (fun _ _=>rfl)
  have F8:=Cg (st:=B3) l8 c8 k8
  have b8:=F8.binds (ps:=["many"]) fun _ _ _ _ _ _=>Mi (fun _=>rfl)
  have F9:=Cg (st:=E3) l9 c9 k9
  have b9:=F9.binds (ps:=["ways","total"]) fun _ _ _ _ _ _=>X9 (fun _ _=>rfl)
  have F10:=Cg (st:=E2) l10 c10 k10
  have b10:=F10.binds (ps:=["many","count","place"]) fun _ _ _ _ _ _=>Aj2 (fun _ _ _=>rfl)
  have F11:=Cg (st:=Dj) l11 c11 k11
  have b11:=F11.binds (ps:=["many","count","place"]) fun _ _ _ _ _ _=>Aj2 (fun _ _ _=>rfl)
  have F12:=Cg (st:=E5) l12 c12 k12
  have b12:=F12.binds (ps:=["many"]) fun _ _ _ _ _ _=>Mi (fun _=>rfl)
  have F13:=Cg (st:=E8) l13 c13 k13
  have b13:=F13.binds (ps:=["counts"]) fun _ _ _ _ _ _=>Mi (fun _=>rfl)
  have F14:=Cg (st:=C5) l14 c14 k14
  have b14:=F14.binds (ps:=["found"]) fun _ _ _ _ _ _=>Mi (fun _=>rfl)
  have F15:=Cg (st:=Cv) l15 c15 k15
  have b15:=F15.binds (ps:=["found"]) fun _ _ _ _ _ _=>Mi (fun _=>rfl)
  have F16:=Cg (st:=E4) l16 c16 k16
  have b16:=F16.binds (ps:=["many","count","place"]) fun _ _ _ _ _ _=>Aj2 (fun _ _ _=>rfl)
  have F17:=Cg (st:=Gp) l17 c17 k17
  have b17:=F17.binds (ps:=["many"]) fun _ _ _ _ _ _=>Mi (fun _=>rfl)
  have F18:=Cg (st:=J9) l18 c18 k18
  have b18:=F18.binds (ps:=["script"]) fun _ _ _ _ _ _=>Mi (fun _=>rfl)
  let C:Defs K mg:={ ug:=_,uh:=_,ui:=F0,uj:=b0,uk:=PySem.W.mg_of X G a0,ul:=_,um:=_,uo:=F1,uq:=b1,ur:=PySem.W.mg_of X G a1,ut:=_,uu:=_,uv:=F2,uw:=b2,ux:=PySem.W.mg_of X G a2,uy:=_,uz:=_,uA:=F3,uB:=b3,uC:=PySem.W.mg_of X G a3,uD:=_,uE:=_,uF:=F4,uG:=b4,wj:=⟨ex_NoPlace,a4,i4,kc_NoPlace⟩,uH:=_,uI:=_,uJ:=F5,uK:=b5,uL:=PySem.W.mg_of X G a5,uM:=_,uN:=_,uO:=F6,uP:=b6,uQ:=PySem.W.mg_of X G a6,uR:=_,uS:=_,uT:=F7,uU:=b7,uV:=PySem.W.mg_of X G a7,uW:=_,uX:=_,uY:=F8,uZ:=b8,u4:=PySem.W.mg_of X G a8,u5:=_,u6:=_,u7:=F9,u8:=b9,u9:=PySem.W.mg_of X G a9,va:=_,vb:=_,vc:=F10,vd:=b10,ve:=PySem.W.mg_of X G a10,vf:=_,vg:=_,vh:=F11,vi:=b11,vj:=PySem.W.mg_of X G a11,vk:=_,vm:=_,vn:=F12,vo:=b12,vp:=PySem.W.mg_of X G a12,vq:=_,vt:=_,vw:=F13,vy:=b13,vz:=PySem.W.mg_of X G a13,vA:=_,vB:=_,vC:=F14,vD:=b14,vE:=PySem.W.mg_of X G a14,vF:=_,vG:=_,vH:=F15,vI:=b15,vJ:=PySem.W.mg_of X G a15,vK:=_,vL:=_,vM:=F16,vN:=b16,vO:=PySem.W.mg_of X G a16,vP:=_,vQ:=_,vR:=F17,vS:=b17,vT:=PySem.W.mg_of X G a17,vU:=_,vV:=_,vW:=F18,vX:=b18,vY:=PySem.W.mg_of X G a18,ua:=_,vZ:=xn_BelowError,v3:=PySem.W.mg_of X G xn_BelowError,ub:=_,v7:=xn_NoAsk,v8:=PySem.W.mg_of X G xn_NoAsk,uc:=_,v9:=xn_NoCounts,wa:=PySem.W.mg_of X G xn_NoCounts,ud:=_,wb:=xn_NoName,wc:=PySem.W.mg_of X G xn_NoName,ue:=_,wd:=xn_NoPlace,we:=PySem.W.mg_of X G xn_NoPlace,uf:=_,wf:=xn_NoPoints,wg:=PySem.W.mg_of X G xn_NoPoints,wk:=⟨bs_BelowError,br_BelowError,bf_BelowError⟩,wl:=xt,wm:=xv,wn:=PySem.W.mg_none_of X G z_ValueError,wo:=PySem.W.mg_none_of X G z_bool,wq:=PySem.W.mg_none_of X G z_enumerate,wt:=PySem.W.mg_none_of X G z_int,wu:=PySem.W.mg_none_of X G z_isinstance,wv:=PySem.W.mg_none_of X G z_len,wx:=PySem.W.mg_none_of X G z_list,wy:=PySem.W.mg_none_of X G z_max,wz:=PySem.W.mg_none_of X G z_range,wA:=PySem.W.mg_none_of X G z_reversed,wB:=PySem.W.mg_none_of X G z_set,wC:=PySem.W.mg_none_of X G z_sorted,wD:=PySem.W.mg_none_of X G z_sum,wE:=PySem.W.mg_none_of X G z_tuple }
  refine ⟨PySem.W.fnOf "law" "law" (Bp J9) (Bc J9) (Aj J9) .none kV18 dc18 pm18 an18 cd18 ct18,fun s v=>.of_eq rfl,fun base _ _=>?_⟩
  exact Ahx C
theorem Amy{l:PySem.W.OpenLaw}{q:Program}{loose:List Str}{XP:(Str→Option Value)→Heap→Prop}{YP:World→Heap→Prop}{d:DefRec}{K:Params→PySem.W.Frag}(hn:l.most=some 63)(hdf:d.params.defaults=[])
    (hY:∀ (w:World) (h:Heap),YP w h→(K w.params).In h)
    (F:∀ (w:World) (mg:Str→Option Value) (fa:Addr) (h:Heap),(K w.params).In h→h.Ns mainGlobals mg→mg d.name=some (.ref fa) →
      ∃ fd:FuncData,(∀ (s:Shared) (u:Value),BindsTo s fd ⟨[u],[]⟩ [("script",u)])∧∀ base:Heap,(K w.params).In base→base.Ns mainGlobals mg→FnOk l.prog w (K w.params) mg base CX0 5 fa fd ["script"] (spF (K w.params) 1 Tr)) :
    PySem.W.WalkO q loose XP YP l.row.toRowW d [] (fun f vs=>PySem.call f vs):=
  L2.Af4 (n:=63) (k:=5) (x := "script") (CX:=fun _=>CX0) (sp:=fun w=>spF (K w.params) 1 Tr) hn (by decide) hdf ⟨rfl,by decide,by decide⟩ hY F (fun w H a ns hl ho hS=>Aji ho hS (Ady ns hl)) fun _ _ _ _ _ z=>z
end Lw
open PySem PySem.W PyProof.Rows
set_option maxRecDepth 100000 in
set_option maxHeartbeats 0 in
theorem PySem.Challenge.cw_belowpoints_k36_rows_by_their_places_holds : PySem.Challenge.rw_belowpoints_k36_rows_by_their_places.Holds := by
  w_on; o_law; k_head; (case hw => w_witness2)
  k_fill
  refine Lw.Amy (l := PySem.Challenge.rw_belowpoints_k36_rows_by_their_places) rfl rfl (fun w h Y => PySem.W.kIn_of Y) ?F
  case F =>
    intro w mg fa h KX G hmg
    refine' Lw.Ajf KX G hmg ?xn_BelowError ?xn_NoAsk ?xn_NoCounts ?xn_NoName ?xn_NoPlace ?xn_NoPoints ?ex_NoPlace ?kc_NoPlace ?bs_BelowError ?br_BelowError ?bf_BelowError ?xt ?xv ?a0 ?l0 ?c0 ?k0 ?a1 ?l1 ?c1 ?k1 ?a2 ?l2 ?c2 ?k2 ?a3 ?l3 ?c3 ?k3 ?a4 ?i4 ?l4 ?c4 ?k4 ?a5 ?l5 ?c5 ?k5 ?a6 ?l6 ?c6 ?k6 ?a7 ?l7 ?c7 ?k7 ?a8 ?l8 ?c8 ?k8 ?a9 ?l9 ?c9 ?k9 ?a10 ?l10 ?c10 ?k10 ?a11 ?l11 ?c11 ?k11 ?a12 ?l12 ?c12 ?k12 ?a13 ?l13 ?c13 ?k13 ?a14 ?l14 ?c14 ?k14 ?a15 ?l15 ?c15 ?k15 ?a16 ?l16 ?c16 ?k16 ?a17 ?l17 ?c17 ?k17 ?a18 ?l18 ?c18 ?k18 ?z_ValueError ?z_bool ?z_enumerate ?z_int ?z_isinstance ?z_len ?z_list ?z_max ?z_range ?z_reversed ?z_set ?z_sorted ?z_sum ?z_tuple
    (case xn_BelowError => k_is)
    (case xn_NoAsk => k_is)
    (case xn_NoCounts => k_is)
    (case xn_NoName => k_is)
    (case xn_NoPlace => k_is)
    (case xn_NoPoints => k_is)
    (case ex_NoPlace => kernel_rfl)
    (case kc_NoPlace => k_is)
    (case bs_BelowError => k_is)
    (case br_BelowError => k_is)
    (case bf_BelowError => kernel_rfl)
    (case xt => kernel_rfl)
    (case xv => k_is)
    (case a0 => k_is); (case l0 => k_is); (case c0 => k_is); (case k0 => k_is)
    (case a1 => k_is); (case l1 => k_is); (case c1 => k_is); (case k1 => k_is)
    (case a2 => k_is); (case l2 => k_is); (case c2 => k_is); (case k2 => k_is)
    (case a3 => k_is); (case l3 => k_is); (case c3 => k_is); (case k3 => k_is)
    (case a4 => k_is); (case i4 => k_is)
    (case l4 => k_is); (case c4 => k_is); (case k4 => k_is)
    (case a5 => k_is); (case l5 => k_is); (case c5 => k_is); (case k5 => k_is)
    (case a6 => k_is); (case l6 => k_is); (case c6 => k_is); (case k6 => k_is)
    (case a7 => k_is); (case l7 => k_is); (case c7 => k_is); (case k7 => k_is)
    (case a8 => k_is); (case l8 => k_is); (case c8 => k_is); (case k8 => k_is)
    (case a9 => k_is); (case l9 => k_is); (case c9 => k_is); (case k9 => k_is)
    (case a10 => k_is); (case l10 => k_is); (case c10 => k_is); (case k10 => k_is)
    (case a11 => k_is); (case l11 => k_is); (case c11 => k_is); (case k11 => k_is)
    (case a12 => k_is); (case l12 => k_is); (case c12 => k_is); (case k12 => k_is)
    (case a13 => k_is); (case l13 => k_is); (case c13 => k_is); (case k13 => k_is)
    (case a14 => k_is); (case l14 => k_is); (case c14 => k_is); (case k14 => k_is)
    (case a15 => k_is); (case l15 => k_is); (case c15 => k_is); (case k15 => k_is)
    (case a16 => k_is); (case l16 => k_is); (case c16 => k_is); (case k16 => k_is)
    (case a17 => k_is); (case l17 => k_is); (case c17 => k_is); (case k17 => k_is)
    (case a18 => k_is); (case l18 => k_is); (case c18 => k_is); (case k18 => k_is)
    (case z_ValueError => k_is)
    (case z_bool => k_is)
    (case z_enumerate => k_is)
    (case z_int => k_is)
    (case z_isinstance => k_is)
    (case z_len => k_is)
    (case z_list => k_is)
    (case z_max => k_is)
    (case z_range => k_is)
    (case z_reversed => k_is)
    (case z_set => k_is)
    (case z_sorted => k_is)
    (case z_sum => k_is)
    (case z_tuple => k_is)

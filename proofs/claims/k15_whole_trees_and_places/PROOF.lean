import PyProof.Rows.All
import Wide.All
import OpenK.AllK
import Wide.FinOn
import Lean
import PyProof.EqAt
import PyProof.EqKinds
import PyProof.TupleCall
import KE.KSortTup
import PyProof.Rows.SortShell
import PyProof.TupleOfSeq
import PyProof.Rows.SetFrom
import PyProof.WalksMore
import PyProof.FactsAll.set_1
import PyProof.Rows.CallKwBuiltin
import PyProof.FactsAll.tuple_2
import PySem.Challenge.RW_belowpoints_k15_whole_trees_and_places
set_option Elab.async false
set_option linter.all false
set_option maxRecDepth 100000
set_option maxHeartbeats 4000000
namespace L2
open PySem PySem.Spec PyProof.Rows
noncomputable abbrev Key:=Sum Int Str
noncomputable def P8:Key→Value→Bool
  | .inl k,v=>Value.isInt k v
  | .inr x,v=>Value.isStrOf x v
noncomputable def Ak1(w:World):Key→Int
  | .inl k=>hashInt k
  | .inr x=>hashStr w x
theorem C2:∀ {k:Key} {v:Value},P8 k v=true→(∃ i t,k=Sum.inl i∧v=Value.int i t)∨(∃ x t,k=Sum.inr x∧v=Value.str x t)
  | .inl i,v,h=>by
    obtain ⟨t,e⟩:=Value.isInt_shape (k:=i) (v:=v) h
    exact .inl ⟨i,t,rfl,e⟩
  | .inr x,v,h=>by
    obtain ⟨t,e⟩:=Value.isStrOf_shape (x:=x) (v:=v) h
    exact .inr ⟨x,t,rfl,e⟩
theorem Yb(i:Int)(t:Tok):P8 (.inl i) (.int i t)=true:=by simp[P8,Value.isInt]
theorem Xw(x:Str)(t:Tok):P8 (.inr x) (.str x t)=true:=by simp[P8,Value.isStrOf]
theorem Ahr(a b:Int):decide ((Sum.inl a:Key)=Sum.inl b)=(a == b):=by
  by_cases e:a=b
  · subst e;simp
  · have h:¬ (Sum.inl a:Key)=Sum.inl b:=fun q=>e (Sum.inl.inj q)
    rw[decide_eq_false h]
    exact (beq_eq_false_iff_ne.mpr e).symm
theorem Agr(a b:Str):decide ((Sum.inr a:Key)=Sum.inr b)=decide (a=b):=by
  by_cases e:a=b
  · subst e;simp
  · have h:¬ (Sum.inr a:Key)=Sum.inr b:=fun q=>e (Sum.inr.inj q)
    rw[decide_eq_false h,decide_eq_false e]
theorem Ag6(a:Int)(b:Str):decide ((Sum.inl a:Key)=Sum.inr b)=false:=decide_eq_false (fun q=>nomatch q)
theorem Af5(a:Str)(b:Int):decide ((Sum.inr a:Key)=Sum.inl b)=false:=decide_eq_false (fun q=>nomatch q)
noncomputable def Ee(prog:Program)(w:World):PySem.KeyKind prog w Key where
  is:=P8
  hash:=Ak1 w
  inj:=fun v a b ha hb=>by
    rcases C2 ha with ⟨i,t,rfl,rfl⟩ | ⟨x,t,rfl,rfl⟩
    · rcases C2 hb with ⟨j,u,rfl,e⟩ | ⟨y,u,rfl,e⟩
      · injection e with e1 _;rw[e1]
      · exact nomatch e
    · rcases C2 hb with ⟨j,u,rfl,e⟩ | ⟨y,u,rfl,e⟩
      · exact nomatch e
      · injection e with e1 _;rw[e1]
  byValue:=fun k v h=>by
    rcases C2 h with ⟨i,t,rfl,rfl⟩ | ⟨x,t,rfl,rfl⟩ <;> rfl
  pyHash:=fun hv h=>by
    rcases C2 hv with ⟨i,t,rfl,rfl⟩ | ⟨x,t,rfl,rfl⟩
    · exact wpAny_pyHash_int h
    · exact wpAny_pyHash_str h
  eqBool:=fun hu hv h=>by
    rcases C2 hu with ⟨i,t,rfl,rfl⟩ | ⟨x,t,rfl,rfl⟩
    · rcases C2 hv with ⟨j,u,rfl,rfl⟩ | ⟨y,u,rfl,rfl⟩
      · rw[Ahr] at h;exact wpAny_eqBool_int h
      · rw[Ag6] at h;exact SeqAt.EqAt.int_str i t y u _ _ _ _ h
    · rcases C2 hv with ⟨j,u,rfl,rfl⟩ | ⟨y,u,rfl,rfl⟩
      · rw[Af5] at h;exact SeqAt.EqAt.str_int x t j u _ _ _ _ h
      · rw[Agr] at h;exact wpAny_eqBool_str h
  «strs» := fun k x t v h=>by
    rcases C2 h with ⟨i,u,rfl,e⟩ | ⟨y,u,rfl,e⟩
    · exact nomatch e
    · injection e with e1 _
      subst e1
      cases v <;> rfl
theorem S7(prog:Program)(w:World)(i:Int)(t:Tok):(Ee prog w).is (.inl i) (.int i t)=true:=Yb i t
theorem S0(prog:Program)(w:World)(x:Str)(t:Tok):(Ee prog w).is (.inr x) (.str x t)=true:=Xw x t
inductive V where
  | non | bl (b:Bool) | int (i:Int) | str (x:Str) | byt (b:Array UInt8) | flt (b:UInt64) | ref (a:Addr) | ty (n:String)
  deriving DecidableEq
noncomputable def RelV:V→Value→Prop
  | .non,u=>u=Value.none
  | .bl b,u=>u=Value.bool b
  | .int i,u=>∃ t,u=Value.int i t
  | .str x,u=>∃ t,u=Value.str x t
  | .byt b,u=>∃ t,u=Value.bytes b t
  | .flt b,u=>∃ t,u=Value.float b t
  | .ref a,u=>u=Value.ref a
  | .ty n,u=>u=Value.type n
noncomputable abbrev Vals:List V→List Value→Prop:=Paired RelV
theorem Vals.length{xs:List V}{us:List Value}(r:Vals xs us):xs.length=us.length:=Paired.length r
theorem Vals.get:∀ {xs:List V} {us:List Value} {i:Nat} {x:V},Vals xs us→xs[i]? = some x→∃ u,us[i]? = some u∧RelV x u
  | _,_,_,_,.nil,e=>by simp at e
  | _,_,0,_,.cons r _,e=>by simp at e;subst e;exact ⟨_,rfl,r⟩
  | _,_,i+1,x,.cons _ t,e=>by
    obtain ⟨u,h1,h2⟩:=Vals.get (i:=i) (x:=x) t (by simpa using e)
    exact ⟨u,by simpa using h1,h2⟩
theorem Vals.set{x:V}{u:Value}(r:RelV x u):∀ {xs:List V} {us:List Value} (i:Nat),Vals xs us→Vals (xs.set i x) (us.set i u)
  | _,_,_,.nil=>.nil
  | _,_,0,.cons _ t=>.cons r t
  | _,_,i+1,.cons q t=>.cons q (Vals.set r i t)
theorem Vals.append:∀ {xs ys:List V} {us ws:List Value},Vals xs us→Vals ys ws→Vals (xs++ys) (us++ws)
  | _,_,_,_,.nil,s=>s
  | _,_,_,_,.cons r t,s=>.cons r (Vals.append t s)
theorem Vals.take:∀ {xs:List V} {us:List Value} (n:Nat),Vals xs us→Vals (xs.take n) (us.take n)
  | _,_,0,_=>.nil
  | _,_,_+1,.nil=>.nil
  | _,_,n+1,.cons r t=>.cons r (Vals.take n t)
theorem Vals.drop:∀ {xs:List V} {us:List Value} (n:Nat),Vals xs us→Vals (xs.drop n) (us.drop n)
  | _,_,0,r=>r
  | _,_,_+1,.nil=>.nil
  | _,_,n+1,.cons _ t=>Vals.drop n t
theorem Vals.none_of:∀ {xs:List V} {us:List Value} {i:Nat},Vals xs us→xs[i]? = none→us[i]? = none:=fun {xs us i} r e=>by
  have h1:=r.length
  have h2:xs.length≤i:=List.getElem?_eq_none_iff.mp e
  exact List.getElem?_eq_none_iff.mpr (by omega)
noncomputable def RelO:Option V→Option Value→Prop
  | some v,some u=>RelV v u
  | none,none=>True
  | _,_=>False
noncomputable def KV{κ:Type}:List (κ×V)→List (κ×Value)→Prop:=Paired fun (p:κ×V) (q:κ×Value)=>p.1=q.1∧RelV p.2 q.2
noncomputable def kV:Key→V
  | .inl i=>.int i
  | .inr x=>.str x
inductive HO where
  | lst (xs:List V)
  | tup (xs:List V)
  | dK (kvs:List (Key×V)) | dT (kvs:List (List Key×V))
  | set (S:Int→Bool) (n:Nat)
  | ins (C dx:Addr) (fs:List (Str×V))
  | own (x:Addr)
  | xd (fs:List (Str×V))
  | met (f x:Addr)
  | rng (lo hi:Int)
  | frz (o:Obj) (u:HO)
  | tbl (ps:Array Value)
  | ext (φ:Heap→Prop)
noncomputable abbrev Hp:=Addr→Option HO
noncomputable def upd(H:Hp)(a:Addr)(o:HO):Hp:=fun b=>if b=a then some o else H b
theorem upd_same{H:Hp}{a:Addr}{o:HO}:upd H a o a=some o:=by unfold upd;rw[if_pos rfl]
theorem Ba{H:Hp}{a b:Addr}{o:HO}(h:b≠a):upd H a o b=H b:=by unfold upd;rw[if_neg h]
theorem Abu{H:Hp}{a b:Addr}{o u:HO}(h:H a=some o)(h':H b=some u)(d:o≠u):a≠b:=by
  intro e;subst e;rw[h] at h';exact d (Option.some.inj h')
theorem Bk{H:Hp}{a b:Addr}{o:HO}(h:H a=some o)(h':H b=none):a≠b:=by
  intro e;subst e;rw[h] at h';cases h'
noncomputable def TupN(h:Heap)(a:Addr)(its:Array Value):Prop:=∃ o:Obj,h.get? a=some o∧(o.cls,o.dict)=(Value.type "tuple",(none:Option Addr))∧∃ n,o.data = .seq its n
theorem TupN.is{h:Heap}{a:Addr}{its:Array Value}(x:TupN h a its):h.IsTuple a its:=by
  obtain ⟨o,e,c,n,d⟩:=x
  exact ⟨o,e,(Prod.mk.inj c).1,n,d⟩
theorem TupN.new(h:Heap)(its:Array Value):TupN (h.push { cls:=.type "tuple",data:=.seq its }) h.objs.size its:=⟨_,Heap.get?_push_size _ rfl,rfl,0,rfl⟩
theorem TupN.lt{h:Heap}{a:Addr}{its:Array Value}(x:TupN h a its):a < h.objs.size:=by
  obtain ⟨o,e,_⟩:=x;exact Heap.lt_size e
section
variable (P:Program)(w:World)
noncomputable def ObjOk(H:Hp)(h:Heap)(a:Addr):HO→Prop
  | .lst xs=>xs.length≤sizeLine∧∃ (its:List Value) (n:Nat),Vals xs its∧h.get? a=some { cls:=.type "list",data:=.seq its.toArray n }
  | .tup xs=>xs.length≤sizeLine∧∃ its:List Value,Vals xs its∧TupN h a its.toArray
  | .dK kvs=>kvs.length≤sizeLine∧(a == sysModules)=false∧∃ vs,KV kvs vs∧h.DictOf (Ee P w) a vs
  | .dT kvs=>kvs.length≤sizeLine∧(a == sysModules)=false∧∃ xs:List (List Key×Addr×Value),
      Paired (fun (p:List Key×V) (q:List Key×Addr×Value)=>p.1=q.1∧H q.2.1=some (.tup (p.1.map kV))∧RelV p.2 q.2.2) kvs xs ∧
      ∃ o es ep,h.get? a=some o∧o.ExactDict∧o.data = .dict es ep∧es.toList=xs.map (entryOfKey (tupleKind (Ee P w)))∧(xs.map (·.1)).Nodup
  | .set S n=>h.SetOf (intKind P w) a S n
  | .ins C dx fs=>H dx=some (.own a)∧fs.length≤1000∧dx≠a∧h.get? a=some (PySem.W.instObj C dx) ∧
      ∃ mA,h.Ns1 dx mA∧(∀ f,RelO (fs.lookup f) (mA f))∧PySem.Within mA (fs.map (·.1))
  | .own _=>∃ o,h.get? a=some o
  | .xd fs=>∃ mA,h.Ns1 a mA∧∀ f,RelO (fs.lookup f) (mA f)
  | .rng lo hi=>∃ t u v,h.get? a=some { cls:=.type "range",data:=.fields #[.int lo t,.int hi u,.int 1 v] }
  | .frz o u=>h.get? a=some o∧ObjOk H h a u
  | .tbl ps=>h.get? a=some { cls:=.none,data:=.fields ps }
  | .met f x=>h.get? a=some (PySem.W.methodObj (.ref f) (.ref x))
  | .ext φ=>φ h∧(∃ o,h.get? a=some o)∧∀ h1 h2:Heap,φ h1→(∀ o,h1.get? a=some o→h2.get? a=some o)→φ h2
noncomputable def HOk(H:Hp)(h:Heap):Prop:=∀ a o,H a=some o→ObjOk P w H h a o
end
section
variable {P:Program}{w:World}{H H':Hp}{h h':Heap}{a:Addr}{o:HO}
theorem ObjOk.lt(x:ObjOk P w H h a o):a < h.objs.size:=by
  cases o with
  | lst xs=>obtain ⟨_,_,_,_,e⟩:=x;exact Heap.lt_size e
  | tup xs=>obtain ⟨_,_,_,p⟩:=x;exact p.lt
  | dK kvs=>obtain ⟨_,_,_,_,o,_,_,e,_⟩:=x;exact Heap.lt_size e
  | dT kvs=>obtain ⟨_,_,_,_,o,_,_,e,_⟩:=x;exact Heap.lt_size e
  | set S n=>obtain ⟨o,_,_,_,e,_⟩:=x;exact Heap.lt_size e
  | ins C dx fs=>obtain ⟨_,_,_,e,_⟩:=x;exact Heap.lt_size e
  | own y=>obtain ⟨_,e⟩:=x;exact Heap.lt_size e
  | xd fs=>obtain ⟨_,⟨_,_,_,e,_⟩,_⟩:=x;exact Heap.lt_size e
  | rng lo hi=>obtain ⟨_,_,_,e⟩:=x;exact Heap.lt_size e
  | frz ob u=>obtain ⟨e,_⟩:=x;exact Heap.lt_size e
  | tbl ps=>exact Heap.lt_size (show h.get? a=some _ from x)
  | met f y=>exact Heap.lt_size (show h.get? a=some _ from x)
  | ext φ=>obtain ⟨_,⟨_,e⟩,_⟩:=x;exact Heap.lt_size e
theorem Paired.mapP{α β:Type}{F G:α→β→Prop}:∀ {l₁:List α} {l₂:List β},Paired F l₁ l₂→(∀ a b,F a b→G a b)→Paired G l₁ l₂
  | _,_,.nil,_=>.nil
  | _,_,.cons r t,f=>.cons (f _ _ r) (Paired.mapP t f)
theorem ObjOk.stay(x:ObjOk P w H h a o)(k:∀ b u,(b=a∨H b=some (.own a))→h.get? b=some u→h'.get? b=some u)
    (ho:∀ b,H b=some (.own a)→H' b=some (.own a)) (ht:∀ b xs,H b=some (.tup xs)→H' b=some (.tup xs)):ObjOk P w H' h' a o:=by
  induction o with
  | lst xs=>obtain ⟨z,its,n,r,e⟩:=x;exact ⟨z,its,n,r,k _ _ (.inl rfl) e⟩
  | tup xs=>obtain ⟨z,its,r,ob,e,c⟩:=x;exact ⟨z,its,r,ob,k _ _ (.inl rfl) e,c⟩
  | dK kvs=>obtain ⟨z,y,vs,r,ob,es,ep,e,c⟩:=x;exact ⟨z,y,vs,r,ob,es,ep,k _ _ (.inl rfl) e,c⟩
  | dT kvs=>
    obtain ⟨z,y,xs,r,ob,es,ep,e,c⟩:=x
    exact ⟨z,y,xs,Paired.mapP r fun p q z=>⟨z.1,ht _ _ z.2.1,z.2.2⟩,ob,es,ep,k _ _ (.inl rfl) e,c⟩
  | set S n=>obtain ⟨ob,es,ep,t,e,c⟩:=x;exact ⟨ob,es,ep,t,k _ _ (.inl rfl) e,c⟩
  | ins C dx fs=>
    obtain ⟨d,z,ne,e,mA,⟨od,es,ep,e2,c⟩,r⟩:=x
    exact ⟨ho _ d,z,ne,k _ _ (.inl rfl) e,mA,⟨od,es,ep,k _ _ (.inr d) e2,c⟩,r⟩
  | own y=>obtain ⟨ob,e⟩:=x;exact ⟨ob,k _ _ (.inl rfl) e⟩
  | xd fs=>obtain ⟨mA,⟨od,es,ep,e,c⟩,r⟩:=x;exact ⟨mA,⟨od,es,ep,k _ _ (.inl rfl) e,c⟩,r⟩
  | rng lo hi=>obtain ⟨t,u,v,e⟩:=x;exact ⟨t,u,v,k _ _ (.inl rfl) e⟩
  | frz ob u ih=>obtain ⟨e,q⟩:=x;exact ⟨k _ _ (.inl rfl) e,ih q⟩
  | tbl ps=>
    have e:h.get? a=some { cls:=.none,data:=.fields ps }:=x
    show h'.get? a=some { cls:=.none,data:=.fields ps }
    exact k a _ (.inl rfl) e
  | met f y=>
    have e:h.get? a=some (PySem.W.methodObj (.ref f) (.ref y)):=x
    show h'.get? a=some (PySem.W.methodObj (.ref f) (.ref y))
    exact k a _ (.inl rfl) e
  | ext φ=>obtain ⟨p,⟨o,e⟩,st⟩:=x;exact ⟨st _ _ p fun o q=>k _ _ (.inl rfl) q,⟨o,k _ _ (.inl rfl) e⟩,st⟩
theorem HOk.lt(x:HOk P w H h)(e:H a=some o):a < h.objs.size:=(x a o e).lt
theorem HOk.fresh(x:HOk P w H h)(e:h.objs.size≤a):H a=none:=by
  cases q:H a with
  | none=>rfl
  | some u=>exact absurd (Nat.lt_of_lt_of_le (x.lt q) e) (Nat.lt_irrefl _)
theorem HOk.kept(x:HOk P w H h)(k:∀ b u,h.get? b=some u→h'.get? b=some u):HOk P w H h':=fun a o e=>
  (x a o e).stay (fun b u _ q=>k b u q) (fun _ q=>q) fun _ _ q=>q
theorem HOk.laid(x:HOk P w H h)(k:∀ b u,h.get? b=some u→h'.get? b=some u)(hp:h.objs.size≤a)(new:ObjOk P w (upd H a o) h' a o):HOk P w (upd H a o) h':=fun b u e=>by
  have hn:=x.fresh hp
  by_cases hb:b=a
  · subst hb;rw[upd_same] at e;cases e;exact new
  · rw[Ba hb] at e
    exact (x b u e).stay (fun c v _ q=>k c v q) (fun c q=>by rw[Ba (Bk q hn)];exact q) fun c xs q=>by rw[Ba (Bk q hn)];exact q
end
noncomputable def Rd(H:Hp)(a:Addr)(u:HO):Prop:=H a=some u∨∃ o,H a=some (.frz o u)
theorem Rd.of{H:Hp}{a:Addr}{u:HO}(h:H a=some u):Rd H a u:=.inl h
theorem Rd.ok{P:Program}{w:World}{H:Hp}{h:Heap}{a:Addr}{u:HO}(r:Rd H a u)(x:HOk P w H h):ObjOk P w H h a u:=by
  rcases r with r | ⟨o,r⟩
  · exact x a u r
  · obtain ⟨_,q⟩:=x a _ r
    exact q
noncomputable def Mut:Option HO→Prop
  | some (.lst _)=>True
  | some (.dK _)=>True
  | some (.dT _)=>True
  | some (.set _ _)=>True
  | some (.ins _ _ _)=>True
  | some (.ext _)=>True
  | _=>False
section
variable {P:Program}{w:World}{H:Hp}{h h':Heap}{x e:Addr}{o':HO}
theorem HOk.write(ok:HOk P w H h)(mu:Mut (H x))(he:e=x∨H e=some (.own x))(k:∀ b u,b≠e→h.get? b=some u→h'.get? b=some u)(heo:∃ u,h'.get? e=some u)
    (new:ObjOk P w (upd H x o') h' x o'):HOk P w (upd H x o') h':=fun b u q=>by
  have nown:∀ c y,H c=some (.own y)→c≠x:=fun c y r z=>by subst z;rw[r] at mu;exact mu
  have ntup:∀ c xs,H c=some (.tup xs)→c≠x:=fun c xs r z=>by subst z;rw[r] at mu;exact mu
  by_cases hb:b=x
  · subst hb;rw[upd_same] at q;cases q;exact new
  · rw[Ba hb] at q
    by_cases hbe:b=e
    · have q':H b=some (.own x):=by
        rcases he with z | z
        · exact absurd (hbe.trans z) hb
        · rw[hbe];exact z
      rw[q] at q';cases q'
      obtain ⟨v,hv⟩:=heo
      exact ⟨v,by rw[hbe];exact hv⟩
    · refine (ok b u q).stay (fun c v hc r=>k c v ?_ r) (fun c r=>by rw[Ba (nown c b r)];exact r) fun c xs r=>by rw[Ba (ntup c xs r)];exact r
      rcases hc with rfl | hc
      · exact hbe
      · rintro rfl
        rcases he with z | z
        · exact nown c b hc z
        · rw[hc] at z;cases z;exact hb rfl
end
structure Un(fs ex:List Addr)(H H':Hp)(h h':Heap):Prop where
  keep:∀ b o,h.get? b=some o→H b=none→b∉fs→b∉ex→h'.get? b=some o
  slot:∀ b o,h.get? b=some o→H b=none→b∈fs→b∉ex→∃ sl,h'.get? b=some { o with slots:=sl }
  free:∀ b o,h.get? b=some o→H b=none→b∉ex→H' b=none
  there:∀ b o,h.get? b=some o→b∉ex→∃ o',h'.get? b=some o'
  tups:∀ b xs,H b=some (.tup xs)→H' b=some (.tup xs)
  frzs:∀ b o u,H b=some (.frz o u)→H' b=some (.frz o u)
  tbls:∀ b ps,H b=some (.tbl ps)→∃ more,H' b=some (.tbl (ps++more))
section
variable {fs fs' ex ex':List Addr}{H H1 H2:Hp}{h h1 h2 h':Heap}{a x e:Addr}{o:HO}
theorem Un.any(u:Un fs ex H H1 h h1){b:Addr}{ob:Obj}(q:h.get? b=some ob)(n:H b=none)(hx:b∉ex):∃ sl,h1.get? b=some { ob with slots:=sl }:=by
  by_cases hb:b∈fs
  · exact u.slot b ob q n hb hx
  · exact ⟨ob.slots,u.keep b ob q n hb hx⟩
theorem Un.trans(a:Un fs ex H H1 h h1)(b:Un fs ex H1 H2 h1 h2):Un fs ex H H2 h h2 where
  keep:=fun c ob q n hc hx=>b.keep c ob (a.keep c ob q n hc hx) (a.free c ob q n hx) hc hx
  slot:=fun c ob q n hc hx=>by
    obtain ⟨sl,e1⟩:=a.slot c ob q n hc hx
    obtain ⟨sl',e2⟩:=b.slot c _ e1 (a.free c ob q n hx) hc hx
    exact ⟨sl',e2⟩
  free:=fun c ob q n hx=>by
    obtain ⟨o',e1⟩:=a.there c ob q hx
    exact b.free c o' e1 (a.free c ob q n hx) hx
  there:=fun c ob q hx=>by
    obtain ⟨o',e1⟩:=a.there c ob q hx
    exact b.there c o' e1 hx
  tups:=fun c xs q=>b.tups c xs (a.tups c xs q)
  frzs:=fun c ob xs q=>b.frzs c ob xs (a.frzs c ob xs q)
  tbls:=fun c ps q=>by
    obtain ⟨m1,e1⟩:=a.tbls c ps q
    obtain ⟨m2,e2⟩:=b.tbls c _ e1
    exact ⟨m1++m2,by rw[e2,Array.append_assoc]⟩
theorem Un.kept(k:∀ b u,h.get? b=some u→h'.get? b=some u):Un fs ex H H h h':=
  ⟨fun b ob q _ _ _=>k b ob q,fun b ob q _ _ _=>⟨ob.slots,k b ob q⟩,fun _ _ _ n _=>n,fun b ob q _=>⟨ob,k b ob q⟩,fun _ _ q=>q,fun _ _ _ q=>q,fun _ ps q=>⟨#[],by rw[q];simp⟩⟩
theorem Un.refl:Un fs ex H H h h:=Un.kept fun _ _ q=>q
theorem Un.laid(k:∀ b u,h.get? b=some u→h'.get? b=some u)(hp:h.objs.size≤a)(hn:H a=none):Un fs ex H (upd H a o) h h' where
  keep:=fun b u q _ _ _=>k b u q
  slot:=fun b u q _ _ _=>⟨u.slots,k b u q⟩
  free:=fun b u q n _=>by rw[Ba (Nat.ne_of_lt (Nat.lt_of_lt_of_le (Heap.lt_size q) hp))];exact n
  there:=fun b u q _=>⟨u,k b u q⟩
  tups:=fun b xs q=>by rw[Ba (Bk q hn)];exact q
  frzs:=fun b u xs q=>by rw[Ba (Bk q hn)];exact q
  tbls:=fun b ps q=>⟨#[],by rw[Ba (Bk q hn),q];simp⟩
theorem Un.write(mu:Mut (H x))(he:e=x∨H e=some (.own x))(k:∀ b u,b≠e→h.get? b=some u→h'.get? b=some u)(heo:∃ u,h'.get? e=some u):Un fs ex H (upd H x o) h h':=by
  have hx:∀ b,H b=none→b≠x:=fun b n z=>by subst z;rw[n] at mu;exact mu
  have hb:∀ b,H b=none→b≠e:=fun b n z=>by
    subst z
    rcases he with r | r
    · exact hx b n r
    · rw[n] at r;cases r
  have hm:∀ b u,H b=some u→¬ Mut (some u)→b≠x:=fun b u q nm z=>by subst z;rw[q] at mu;exact nm mu
  refine ⟨fun b u q n _ _=>k b u (hb b n) q,fun b u q n _ _=>⟨u.slots,k b u (hb b n) q⟩,fun b u q n _=>by rw[Ba (hx b n)];exact n,fun b u q _=>?_,
    fun b xs q=>by rw[Ba (hm b _ q fun z=>z)];exact q,fun b u xs q=>by rw[Ba (hm b _ q fun z=>z)];exact q,fun b ps q=>⟨#[],by rw[Ba (hm b _ q fun z=>z),q];simp⟩⟩
  by_cases hbe:b=e
  · subst hbe;exact heo
  · exact ⟨u,k b u hbe q⟩
theorem Un.mono(u:Un fs ex H H1 h h1)(hs:∀ b∈fs,b∈fs')(hx:∀ b∈ex,b∈ex'):Un fs' ex' H H1 h h1:=
  ⟨fun b ob q n hb he=>u.keep b ob q n (fun z=>hb (hs b z)) fun z=>he (hx b z),fun _ _ q n _ he=>u.any q n fun z=>he (hx _ z),fun b ob q n he=>u.free b ob q n fun z=>he (hx b z),fun b ob q he=>u.there b ob q fun z=>he (hx b z),u.tups,u.frzs,u.tbls⟩
end
noncomputable def trk(h:Heap)(H:Hp):List Addr:=(List.range h.objs.size).filter fun a=>(H a).isSome
noncomputable def Rr(h:Heap)(H:Hp):Heap:=PySem.W.hideAll h (trk h H)
theorem Yq(h:Heap)(H:Hp):(Rr h H).objs.size=h.objs.size:=PySem.W.hideAll_size _ _
theorem Aa5{h:Heap}{H:Hp}{b:Addr}{o:Obj}(e:h.get? b=some o)(n:H b=none):(Rr h H).get? b=some o:=
  PySem.W.hideAll_get _ e fun hm=>by
    have q:(H b).isSome=true:=(List.mem_filter.mp hm).2
    rw[n] at q;simp at q
theorem Aee{h:Heap}{H:Hp}{b:Addr}{o:Obj}(e:(Rr h H).get? b=some o):h.get? b=some o∧H b=none:=by
  have e':h.get? b=some o:=PySem.W.of_hideAll (trk h H) e
  refine ⟨e',?_⟩
  cases q:H b with
  | none=>rfl
  | some x=>
    have hm:b∈trk h H:=List.mem_filter.mpr ⟨List.mem_range.mpr (Heap.lt_size e'),by simp[q]⟩
    have z:(Rr h H).get? b=none:=PySem.W.hideAll_none (trk h H) hm
    rw[z] at e;cases e
noncomputable def Adt(g h:Heap)(L:Addr):List (Addr×Obj):=(List.range h.objs.size).filterMap fun a=>if a=L∨(g.get? a).isSome=true then none else (h.get? a).map fun o=>(a,o)
noncomputable def rest(g h:Heap)(L d:Addr):List (Addr×Obj):=(Adt g h L).filter fun p=>decide (p.1≠d)
structure Mod(K:PySem.W.Frag)(mg:Str→Option Value)(base:Heap):Prop where
  kin:K.In base
  glob:base.Ns mainGlobals mg
  blt:∃ mb,base.Ns builtinsNs mb∧∀ x:Str,x ≠ "__name__" → mb x=bootBuiltins x
  nolimit:base.NoLimit
structure Cx where
  prog:Program
  w:World
  K:PySem.W.Frag
  mg:Str→Option Value
  base:Heap
  A:Around
  N:List Str
  s₀:Shared
  H₀:Hp
  env:Env
  outer:List Env
  stack:List Env
  ex:List Addr
  fn:Str→Bool
  calm:Bool
  pn:List (Addr×Obj)
  xe:Value→Shared→Prop
noncomputable def frs(l:List Env):List Addr:=l.filterMap (·.frame)
noncomputable abbrev Cx.fs(X:Cx):List Addr:=frs X.outer
noncomputable def Vis(sc:Scope)(x:Str):Prop:=sc.names.lookup x=some .local∨sc.names.lookup x=some .cell∨sc.names.lookup x=some .free
noncomputable def Loc(sc:Scope)(x:Str):Prop:=sc.names.lookup x=some .local∨sc.names.lookup x=some .cell
noncomputable def Ak0(env:Env)(h:Heap)(m:Str→Option Value)(x:Str)(u:Value):Prop:=
  (env.kindOf x=some .local∧m x=some u)∨((env.kindOf x=some .cell∨env.kindOf x=some .free)∧∃ c,env.cells.lookup x=some c∧h.IsCell c (some u))
structure Cx.Ok(X:Cx):Prop where
  mod:Mod X.K X.mg X.base
  kind:X.env.scope.kind = .function
  glob:X.env.globals=mainGlobals
  blt:X.env.builtins=builtinsNs
  above:X.s₀.heap.objs.size≤X.env.locals
  inj:∀ x y c,X.env.cells.lookup x=some c→X.env.cells.lookup y=some c→x=y
  has:∀ x,(X.env.kindOf x=some .cell∨X.env.kindOf x=some .free)→∃ c,X.env.cells.lookup x=some c
  cab:∀ x c,X.fn x=true→X.env.cells.lookup x=some c→X.s₀.heap.objs.size≤c
  hd:X.calm=true→X.A.handled=none
  frames:X.A.frames=some X.stack
  stk:X.stack=X.outer∨(X.stack=X.env::X.outer∧X.env.frame=some X.env.locals)
  exf:∀ b∈X.ex,b≠X.env.locals∧∀ x c,X.env.cells.lookup x=some c→c≠b
  bs:∀ b o,X.base.get? b=some o→X.s₀.heap.get? b=some o∧X.H₀ b=none
  bsz:X.base.objs.size≤X.s₀.heap.objs.size
  noex:∀ b o,X.base.get? b=some o→b∉X.ex
  exfs:∀ b∈X.ex,b∉X.fs
  funs:X.s₀.heap.FunFrames X.base X.outer
  frf:∀ b∈X.fs,X.H₀ b=none
structure Inv(X:Cx)(pins:List (Addr×Obj))(σ:List (Option V))(H:Hp)(s:Shared):Prop where
  ok:X.Ok
  os:s.os=X.s₀.os
  bare:AllBare s.gens
  base:Un X.fs X.ex X.H₀ H X.s₀.heap s.heap
  loc:∃ m,s.heap.Ns X.env.locals m∧∀ (i:Nat) (x:Str) (v:V),X.N[i]? = some x→σ[i]? = some (some v)→Vis X.env.scope x→∃ u,RelV v u∧Ak0 X.env s.heap m x u
  cell:∀ x c,X.env.cells.lookup x=some c→∃ v,s.heap.IsCell c v
  free:H X.env.locals=none
  freeC:∀ x c,X.env.cells.lookup x=some c→H c=none
  pin:∀ p∈X.pn++pins,s.heap.get? p.1=some p.2∧H p.1=none∧p.1≠X.env.locals∧p.1∉X.fs∧∀ v,p.2.data≠.cell v
  hok:HOk X.prog X.w H s.heap
  len:σ.length=X.N.length
section
variable {X:Cx}{pins:List (Addr×Obj)}{σ:List (Option V)}{H H':Hp}{s:Shared}{h':Heap}
theorem Cx.Ok.nofr(ok:X.Ok){b:Addr}{o:Obj}(e:X.base.get? b=some o):b∉X.fs:=fun hb=>by
  have:=(ok.funs.mem hb).1
  rw[e] at this;cases this
theorem Inv.bs(I:Inv X pins σ H s):∀ b o,X.base.get? b=some o→s.heap.get? b=some o∧H b=none:=fun b o e=>
  ⟨I.base.keep b o (I.ok.bs b o e).1 (I.ok.bs b o e).2 (I.ok.nofr e) (I.ok.noex b o e),I.base.free b o (I.ok.bs b o e).1 (I.ok.bs b o e).2 (I.ok.noex b o e)⟩
theorem Inv.bk(I:Inv X pins σ H s):∀ b o,X.base.get? b=some o→s.heap.get? b=some o:=fun b o e=>(I.bs b o e).1
theorem Inv.mod(I:Inv X pins σ H s):Mod X.K X.mg X.base:=I.ok.mod
theorem Inv.kIn(I:Inv X pins σ H s):X.K.In s.heap:=I.ok.mod.kin.keeps I.bk
theorem Inv.nolimit(I:Inv X pins σ H s):s.heap.NoLimit:=I.ok.mod.nolimit.keeps I.bk
theorem Inv.fr(I:Inv X pins σ H s):∃ m,Fr X.base X.env.locals s.heap m:=
  let ⟨m,hn,_⟩:=I.loc
  ⟨m,hn,I.bk,Nat.le_trans I.ok.bsz I.ok.above⟩
theorem Inv.lt(I:Inv X pins σ H s):X.env.locals < s.heap.objs.size:=let ⟨_,hn,_⟩:=I.loc;hn.lt
theorem Inv.sz(I:Inv X pins σ H s):X.s₀.heap.objs.size≤s.heap.objs.size:=Nat.le_trans I.ok.above (Nat.le_of_lt I.lt)
theorem Inv.nofs(I:Inv X pins σ H s){a:Addr}(h:s.heap.objs.size≤a):a∉X.fs:=fun hb=>by
  obtain ⟨_,o,ho,_⟩:=I.ok.funs.mem hb
  exact absurd (Nat.lt_of_lt_of_le (Heap.lt_size ho) (Nat.le_trans I.sz h)) (Nat.lt_irrefl _)
theorem Inv.cne(I:Inv X pins σ H s):∀ x c,X.env.cells.lookup x=some c→c≠X.env.locals:=fun x c e z=>by
  obtain ⟨v,o,ho,hd⟩:=I.cell x c e
  obtain ⟨m,⟨o',es,ep,ho',hd',_⟩,_⟩:=I.loc
  rw[z,ho'] at ho;cases ho;rw[hd'] at hd;cases hd
theorem Inv.funs(I:Inv X pins σ H s):s.heap.FunFrames X.base X.outer:=by
  have all:∀ (l:List Env),(∀ b∈frs l,b∈X.fs)→X.s₀.heap.FunFrames X.base l→s.heap.FunFrames X.base l:=by
    intro l
    induction l with
    | nil=>intro _ _;trivial
    | cons env r ih=>
      intro hs hl
      obtain ⟨hk,⟨L,o,hf,hn,ho,hd⟩,hr⟩:=hl
      have hL:L∈X.fs:=hs L (by unfold frs;rw[List.filterMap_cons,hf];exact List.mem_cons_self)
      obtain ⟨sl,e⟩:=I.base.slot L o ho (I.ok.frf L hL) hL fun z=>I.ok.exfs L z hL
      exact ⟨hk,⟨L,_,hf,hn,e,hd⟩,ih (fun b hb=>hs b (by unfold frs;rw[List.filterMap_cons,hf];exact List.mem_cons_of_mem _ hb)) hr⟩
  exact all X.outer (fun _ hb=>hb) I.ok.funs
theorem Inv.stack(I:Inv X pins σ H s):s.heap.FunFrames X.base X.stack:=by
  rcases I.ok.stk with e | ⟨e,hf⟩
  · rw[e];exact I.funs
  · rw[e]
    obtain ⟨m,hn,_⟩:=I.loc
    refine .cons (by rw[I.ok.kind];decide) hf hn ?_ I.funs
    exact Heap.get?_none_of_le (Nat.le_trans I.ok.bsz I.ok.above)
theorem Inv.stkSub(I:Inv X pins σ H s):∀ b∈frs X.stack,b∈X.env.locals::X.fs:=fun b hb=>by
  rcases I.ok.stk with e | ⟨e,hf⟩
  · rw[e] at hb;exact List.mem_cons_of_mem _ hb
  · rw[e] at hb
    unfold frs at hb
    rw[List.filterMap_cons,hf] at hb
    exact hb
theorem Inv.stkFree(I:Inv X pins σ H s):∀ b∈frs X.stack,H b=none:=fun b hb=>by
  rcases List.mem_cons.mp (I.stkSub b hb) with e | hb
  · rw[e];exact I.free
  · obtain ⟨_,o,ho,_⟩:=I.ok.funs.mem hb
    exact I.base.free b o ho (I.ok.frf b hb) fun z=>I.ok.exfs b z hb
theorem Inv.step{g':Array GenState}{t':Nat}{d':Drawn}{ch:List Addr}(I:Inv X pins σ H s)
    (hch:∀ b∈ch,(b∈X.ex∨X.s₀.heap.objs.size≤b)∧b≠X.env.locals∧(∀ x c,X.env.cells.lookup x=some c→c≠b)∧∀ p∈X.pn++pins,p.1≠b)
    (keep:∀ b o,b≠X.env.locals→b∉X.fs→b∉ch→s.heap.get? b=some o→H b=none→h'.get? b=some o)
    (slot:∀ b o,b≠X.env.locals→b∈X.fs→b∉ch→s.heap.get? b=some o→H b=none→∃ sl,h'.get? b=some { o with slots:=sl }) (free:∀ b o,b∉ch→s.heap.get? b=some o→H b=none→H' b=none)
    (there:∀ b o,b∉ch→s.heap.get? b=some o→∃ o',h'.get? b=some o')
    (tups:∀ b xs,H b=some (.tup xs)→H' b=some (.tup xs)) (frzs:∀ b o u,H b=some (.frz o u)→H' b=some (.frz o u)) (tbls:∀ b ps,H b=some (.tbl ps)→∃ more,H' b=some (.tbl (ps++more)))
    (ns:∀ m,s.heap.Ns X.env.locals m→h'.Ns X.env.locals m) (hok:HOk X.prog X.w H' h') (hg:AllBare g') :
    Inv X pins σ H' { s with heap:=h',gens:=g',drawn:=d',toks:=t' }:=by
  have neL:∀ b o,X.s₀.heap.get? b=some o→b≠X.env.locals:=fun b o e=>Nat.ne_of_lt (Nat.lt_of_lt_of_le (Heap.lt_size e) I.ok.above)
  have neC:∀ b o,X.s₀.heap.get? b=some o→b∉X.ex→b∉ch:=fun b o e hx hb=>by
    rcases (hch b hb).1 with z | z
    · exact hx z
    · exact absurd (Nat.lt_of_lt_of_le (Heap.lt_size e) z) (Nat.lt_irrefl _)
  have cellK:∀ x c,X.env.cells.lookup x=some c→∀ v,s.heap.IsCell c v→h'.IsCell c v:=fun x c e v ⟨o,ho,hd⟩=>by
    have nch:c∉ch:=fun z=>(hch c z).2.2.1 x c e rfl
    by_cases hc:c∈X.fs
    · obtain ⟨sl,q⟩:=slot c o (I.cne x c e) hc nch ho (I.freeC x c e)
      exact ⟨_,q,hd⟩
    · exact ⟨o,keep c o (I.cne x c e) hc nch ho (I.freeC x c e),hd⟩
  refine ⟨I.ok,I.os,hg,⟨fun b o e n hb hx=>?_,fun b o e n hb hx=>?_,fun b o e n hx=>?_,fun b o e hx=>?_,fun b xs e=>tups b xs (I.base.tups b xs e),fun b o xs e=>frzs b o xs (I.base.frzs b o xs e),fun b ps e=>?_⟩,?_,fun x c e=>?_,?_,fun x c e=>?_,fun p hp=>?_,hok,I.len⟩
  · exact keep b o (neL b o e) hb (neC b o e hx) (I.base.keep b o e n hb hx) (I.base.free b o e n hx)
  · obtain ⟨sl,e1⟩:=I.base.slot b o e n hb hx
    obtain ⟨sl',e2⟩:=slot b _ (neL b o e) hb (neC b o e hx) e1 (I.base.free b o e n hx)
    exact ⟨sl',e2⟩
  · obtain ⟨o',e1⟩:=I.base.there b o e hx
    exact free b o' (neC b o e hx) e1 (I.base.free b o e n hx)
  · obtain ⟨o',e1⟩:=I.base.there b o e hx
    exact there b o' (neC b o e hx) e1
  · obtain ⟨m1,e1⟩:=I.base.tbls b ps e
    obtain ⟨m2,e2⟩:=tbls b _ e1
    exact ⟨m1++m2,by rw[e2,Array.append_assoc]⟩
  · obtain ⟨m,hn,hl⟩:=I.loc
    refine ⟨m,ns m hn,fun i x v e1 e2 e3=>?_⟩
    obtain ⟨u,r,l⟩:=hl i x v e1 e2 e3
    refine ⟨u,r,?_⟩
    rcases l with l | ⟨k,c,e,z⟩
    · exact .inl l
    · exact .inr ⟨k,c,e,cellK x c e _ z⟩
  · obtain ⟨v,z⟩:=I.cell x c e
    exact ⟨v,cellK x c e v z⟩
  · obtain ⟨m,⟨o,_,_,ho,_⟩,_⟩:=I.loc
    exact free _ o (fun z=>(hch _ z).2.1 rfl) ho I.free
  · obtain ⟨v,o,ho,hd⟩:=I.cell x c e
    exact free c o (fun z=>(hch c z).2.2.1 x c e rfl) ho (I.freeC x c e)
  · obtain ⟨e,n,ne,nf,d⟩:=I.pin p hp
    have nch:p.1∉ch:=fun z=>(hch p.1 z).2.2.2 p hp rfl
    exact ⟨keep p.1 p.2 ne nf nch e n,free p.1 p.2 nch e n,ne,nf,d⟩
theorem Inv.un{t':Nat}(I:Inv X pins σ H s)(u:Un X.fs [] H H' s.heap h')(hok:HOk X.prog X.w H' h'):Inv X pins σ H' { s with heap:=h',toks:=t' }:=by
  obtain ⟨m,⟨o,es,ep,ho,r⟩,_⟩:=id I.loc
  obtain ⟨sl,hL⟩:=u.any ho I.free (by simp)
  exact I.step (g':=s.gens) (d':=s.drawn) (ch:=[]) (fun _ z=>nomatch z) (fun b o _ hb _ e n=>u.keep b o e n hb (by simp)) (fun b o _ hb _ e n=>u.slot b o e n hb (by simp)) (fun b o _ e n=>u.free b o e n (by simp)) (fun b o _ e=>u.there b o e (by simp)) u.tups u.frzs u.tbls (fun m' hm=>by
    obtain ⟨o',es',ep',ho',r'⟩:=hm
    rw[ho] at ho';cases ho'
    exact ⟨_,es',ep',hL,r'⟩) hok I.bare
theorem Inv.call{g':Array GenState}{t':Nat}{d':Drawn}{ch:List Addr}(I:Inv X pins σ H s)(u:Un (frs X.stack) ch H H' s.heap h')(hok:HOk X.prog X.w H' h')(hg:AllBare g')
    (hch:∀ b∈ch,(b∈X.ex∨X.s₀.heap.objs.size≤b)∧b≠X.env.locals∧(∀ x c,X.env.cells.lookup x=some c→c≠b)∧∀ p∈X.pn++pins,p.1≠b) :
    Inv X pins σ H' { s with heap:=h',gens:=g',drawn:=d',toks:=t' }:=by
  obtain ⟨m,⟨o,es,ep,ho,r⟩,_⟩:=id I.loc
  obtain ⟨sl,hL⟩:=u.any ho I.free fun z=>(hch _ z).2.1 rfl
  exact I.step (ch:=ch) hch (fun b o hL hb hc e n=>u.keep b o e n (fun z=>(List.mem_cons.mp (I.stkSub b z)).elim hL hb) hc) (fun b o _ _ hc e n=>u.any e n hc) (fun b o hc e n=>u.free b o e n hc) (fun b o hc e=>u.there b o e hc) u.tups u.frzs u.tbls (fun m' hm=>by
    obtain ⟨o',es',ep',ho',r'⟩:=hm
    rw[ho] at ho';cases ho'
    exact ⟨_,es',ep',hL,r'⟩) hok hg
theorem Inv.turned{t':Nat}{it:Addr}(I:Inv X pins σ H s)(k:∀ b o,b≠it→s.heap.get? b=some o→h'.get? b=some o)(hn:H it=none)(hL:it≠X.env.locals)
    (h1:it∈X.ex∨X.s₀.heap.objs.size≤it) (h2:∀ x c,X.env.cells.lookup x=some c→c≠it) (h3:∀ p∈X.pn++pins,p.1≠it):Inv X pins σ H { s with heap:=h',toks:=t' }:=by
  have nit:∀ b u,H b=some u→b≠it:=fun b u e z=>by rw[z,hn] at e;cases e
  refine I.step (g':=s.gens) (d':=s.drawn) (ch:=[it]) (fun b hb=>?_) (fun b o _ _ hc e _=>k b o (fun z=>hc (by simp[z])) e) (fun b o _ _ hc e _=>⟨o.slots,k b o (fun z=>hc (by simp[z])) e⟩) (fun _ _ _ _ n=>n)
    (fun b o hc e=>⟨o,k b o (fun z=>hc (by simp[z])) e⟩) (fun _ _ e=>e) (fun _ _ _ e=>e) (fun b ps e=>⟨#[],by rw[e];simp⟩) (fun m hm=>?_) (fun b u e=>?_) I.bare
  · have e:b=it:=by simpa using hb
    subst e
    exact ⟨h1,hL,h2,h3⟩
  · obtain ⟨o,es,ep,ho,r⟩:=hm
    exact ⟨o,es,ep,k _ o (Ne.symm hL) ho,r⟩
  · refine (I.hok b u e).stay (fun c v hc q=>k c v ?_ q) (fun _ q=>q) fun _ _ q=>q
    rcases hc with z | z
    · rw[z];exact nit b u e
    · exact nit c _ z
theorem Inv.tok(I:Inv X pins σ H s)(t:Nat):Inv X pins σ H { s with toks:=t }:=I.un (h':=s.heap) (t':=t) Un.refl I.hok
theorem Inv.kept{t':Nat}(I:Inv X pins σ H s)(k:∀ b u,s.heap.get? b=some u→h'.get? b=some u):Inv X pins σ H { s with heap:=h',toks:=t' }:=I.un (Un.kept k) (I.hok.kept k)
theorem Inv.laid{a:Addr}{o:HO}{t':Nat}(I:Inv X pins σ H s)(k:∀ b u,s.heap.get? b=some u→h'.get? b=some u)(hp:s.heap.objs.size≤a)(new:ObjOk X.prog X.w (upd H a o) h' a o) :
    Inv X pins σ (upd H a o) { s with heap:=h',toks:=t' }:=I.un (Un.laid k hp (I.hok.fresh hp)) (I.hok.laid k hp new)
theorem Inv.write{x e:Addr}{o:HO}{t':Nat}(I:Inv X pins σ H s)(mu:Mut (H x))(he:e=x∨H e=some (.own x))(k:∀ b u,b≠e→s.heap.get? b=some u→h'.get? b=some u)(heo:∃ u,h'.get? e=some u)
    (new:ObjOk X.prog X.w (upd H x o) h' x o):Inv X pins σ (upd H x o) { s with heap:=h',toks:=t' }:=I.un (Un.write mu he k heo) (I.hok.write mu he k heo new)
theorem Inv.pins_of{pins':List (Addr×Obj)}(I:Inv X pins σ H s)(h:∀ p∈pins',s.heap.get? p.1=some p.2∧H p.1=none∧p.1≠X.env.locals∧p.1∉X.fs∧∀ v,p.2.data≠.cell v):Inv X pins' σ H s:=
  ⟨I.ok,I.os,I.bare,I.base,I.loc,I.cell,I.free,I.freeC,fun p hp=>(List.mem_append.mp hp).elim (fun z=>I.pin p (List.mem_append_left _ z)) (h p),I.hok,I.len⟩
theorem Sw{N:List Str}(hN:N.Nodup){i j:Nat}{x:Str}(a:N[i]? = some x)(b:N[j]? = some x):i=j:=by
  obtain ⟨h1,e1⟩:=List.getElem?_eq_some_iff.mp a
  obtain ⟨h2,e2⟩:=List.getElem?_eq_some_iff.mp b
  exact (List.getElem_inj hN).mp (e1.trans e2.symm)
theorem Yk{M:Model}{A:Around}{E:Value→Shared→Prop}{i:Nat}{x:Str}{v:V}{u:Value}{Q:Unit→Shared→Prop}(I:Inv X pins σ H s)(hN:X.N.Nodup)(hi:X.N[i]? = some x)(hx:Loc X.env.scope x)(r:RelV v u)
    (h:∀ s',Inv X pins (σ.set i (some v)) H s'→(∃ a,Heap.SameBut a s.heap s'.heap∧(a=X.env.locals∨X.env.cells.lookup x=some a))→Q () s') (hf:X.fn x=true∨X.env.scope.names.lookup x=some .local:=by first | exact .inl rfl | exact .inr rfl | assumption):wpAny M A (storeName X.env x u) Q E s:=by
  obtain ⟨m,hn,hl⟩:=id I.loc
  have hcls:(X.env.scope.kind == .class || (X.env.scope.kind == .module&&X.env.locals != X.env.globals))=false:=by rw[I.ok.kind];rfl
  have hiσ:i < σ.length:=by rw[I.len];exact (List.getElem?_eq_some_iff.mp hi).1
  have cne:=I.cne
  have tracked:∀ {a:Addr} {h':Heap},(∃ o,s.heap.get? a=some o∧H a=none)→Heap.SameBut a s.heap h'→HOk X.prog X.w H h':=fun {a h'} ha hs b ob e=>by
    obtain ⟨_,_,hfree⟩:=ha
    refine (I.hok b ob e).stay (fun c w' hc q=>(hs.2 c ?_).trans q) (fun _ q=>q) fun _ _ q=>q
    rintro rfl
    rcases hc with rfl | hc
    · rw[hfree] at e;cases e
    · rw[hfree] at hc;cases hc
  rcases hx with hk | hk
  · refine wpAny_storeName_local hk hn (fun h' hn' hs=>?_) hcls
    obtain ⟨oL,_,_,hoL,_⟩:=id hn
    refine h _ ⟨I.ok,I.os,I.bare,⟨fun b o e n hb hx=>?_,fun b o e n hb hx=>?_,I.base.free,fun b o e hx=>?_,I.base.tups,I.base.frzs,I.base.tbls⟩,⟨_,hn',fun j y v' e1 e2 e3=>?_⟩,fun y c e=>?_,I.free,I.freeC,fun p hp=>?_,tracked ⟨oL,hoL,I.free⟩ hs,by simpa using I.len⟩ ⟨_,hs,.inl rfl⟩
    · exact (hs.2 b (Nat.ne_of_lt (Nat.lt_of_lt_of_le (Heap.lt_size e) I.ok.above))).trans (I.base.keep b o e n hb hx)
    · obtain ⟨sl,e1⟩:=I.base.slot b o e n hb hx
      exact ⟨sl,(hs.2 b (Nat.ne_of_lt (Nat.lt_of_lt_of_le (Heap.lt_size e) I.ok.above))).trans e1⟩
    · obtain ⟨o',e1⟩:=I.base.there b o e hx
      exact ⟨o',(hs.2 b (Nat.ne_of_lt (Nat.lt_of_lt_of_le (Heap.lt_size e) I.ok.above))).trans e1⟩
    · by_cases hj:j=i
      · subst hj
        rw[hi] at e1;cases e1
        rw[List.getElem?_set_self hiσ] at e2
        cases e2
        exact ⟨u,r,.inl ⟨hk,by simp⟩⟩
      · rw[List.getElem?_set_ne (Ne.symm hj)] at e2
        obtain ⟨u',r',q⟩:=hl j y v' e1 e2 e3
        refine ⟨u',r',?_⟩
        rcases q with ⟨k,e⟩ | ⟨k,c,e,z⟩
        · refine .inl ⟨k,?_⟩
          have:y≠x:=fun e=>hj (Sw hN e1 (e ▸ hi))
          simp[this,e]
        · exact .inr ⟨k,c,e,z.sameBut hs (cne y c e)⟩
    · obtain ⟨w',z⟩:=I.cell y c e
      exact ⟨w',z.sameBut hs (cne y c e)⟩
    · obtain ⟨e,n,ne,nf,d⟩:=I.pin p hp
      exact ⟨(hs.2 p.1 ne).trans e,n,ne,nf,d⟩
  · have hfn:X.fn x=true:=by
      rcases hf with z | z
      · exact z
      · rw[z] at hk;cases hk
    obtain ⟨c,hc⟩:=I.ok.has x (.inl hk)
    obtain ⟨w',z⟩:=I.cell x c hc
    refine wpAny_storeName_cell I.ok.kind hk hc z (fun h' hc' hs=>?_)
    obtain ⟨oc,hoc,hocd⟩:=id z
    refine h { s with heap:=h' } ⟨I.ok,I.os,I.bare,⟨fun b o e n hb hx=>?_,fun b o e n hb hx=>?_,I.base.free,fun b o e hx=>?_,I.base.tups,I.base.frzs,I.base.tbls⟩,⟨m,hn.sameBut hs (Ne.symm (cne x c hc)),fun j y v' e1 e2 e3=>?_⟩,fun y c' e=>?_,I.free,I.freeC,fun p hp=>?_,tracked ⟨oc,hoc,I.freeC x c hc⟩ hs,by simpa using I.len⟩ ⟨c,hs,.inr hc⟩
    · exact (hs.2 b (Nat.ne_of_lt (Nat.lt_of_lt_of_le (Heap.lt_size e) (I.ok.cab x c hfn hc)))).trans (I.base.keep b o e n hb hx)
    · obtain ⟨sl,e1⟩:=I.base.slot b o e n hb hx
      exact ⟨sl,(hs.2 b (Nat.ne_of_lt (Nat.lt_of_lt_of_le (Heap.lt_size e) (I.ok.cab x c hfn hc)))).trans e1⟩
    · obtain ⟨o',e1⟩:=I.base.there b o e hx
      exact ⟨o',(hs.2 b (Nat.ne_of_lt (Nat.lt_of_lt_of_le (Heap.lt_size e) (I.ok.cab x c hfn hc)))).trans e1⟩
    · by_cases hj:j=i
      · subst hj
        rw[hi] at e1;cases e1
        rw[List.getElem?_set_self hiσ] at e2
        cases e2
        exact ⟨u,r,.inr ⟨.inl hk,c,hc,hc'⟩⟩
      · rw[List.getElem?_set_ne (Ne.symm hj)] at e2
        obtain ⟨u',r',q⟩:=hl j y v' e1 e2 e3
        refine ⟨u',r',?_⟩
        rcases q with q | ⟨k,c',e,z'⟩
        · exact .inl q
        · refine .inr ⟨k,c',e,z'.sameBut hs ?_⟩
          rintro rfl
          exact hj (Sw hN e1 (I.ok.inj _ _ _ e hc ▸ hi))
    · by_cases hcc:c'=c
      · subst hcc;exact ⟨_,hc'⟩
      · obtain ⟨w2,z2⟩:=I.cell y c' e
        exact ⟨w2,z2.sameBut hs hcc⟩
    · obtain ⟨e,n,ne,nf,d⟩:=I.pin p hp
      refine ⟨(hs.2 p.1 ?_).trans e,n,ne,nf,d⟩
      intro q
      rw[q,hoc] at e
      have q':oc=p.2:=Option.some.inj e
      exact d w' (by rw[← q'];exact hocd)
theorem S9{M:Model}{A:Around}{E:Value→Shared→Prop}{i:Nat}{x:Str}{v:V}{u:Value}{Q:Unit→Shared→Prop}(I:Inv X pins σ H s)(hN:X.N.Nodup)(hi:X.N[i]? = some x)(hx:Loc X.env.scope x)(r:RelV v u)
    (h:∀ s',Inv X pins (σ.set i (some v)) H s'→Q () s') (hf:X.fn x=true∨X.env.scope.names.lookup x=some .local:=by first | exact .inl rfl | exact .inr rfl | assumption):wpAny M A (storeName X.env x u) Q E s:=
  Yk I hN hi hx r (fun s' I' _=>h s' I') hf
theorem Inv.call'{s':Shared}{ch:List Addr}(I:Inv X pins σ H s)(ho:s'.os=s.os)(u:Un (frs X.stack) ch H H' s.heap s'.heap)(hok:HOk X.prog X.w H' s'.heap)(hg:AllBare s'.gens)
    (hch:∀ b∈ch,(b∈X.ex∨X.s₀.heap.objs.size≤b)∧b≠X.env.locals∧(∀ x c,X.env.cells.lookup x=some c→c≠b)∧∀ p∈X.pn++pins,p.1≠b):Inv X pins σ H' s':=by
  obtain ⟨h',g',d',t',o'⟩:=s'
  have e:o'=s.os:=ho
  subst e
  exact I.call (g':=g') (t':=t') (d':=d') u hok hg hch
end
noncomputable abbrev XK:=Value→Option Addr→Hp→Prop
noncomputable abbrev St:=List (Option V)
noncomputable abbrev VK:=V→Hp→Prop
noncomputable abbrev TE:=St→Hp→VK→Prop
noncomputable abbrev TT:=St→Hp→(Bool→Hp→Prop)→Prop
noncomputable abbrev TA:=St→Hp→(List V→Hp→Prop)→Prop
structure Ends where
  nx:St→Hp→Prop
  rt:VK
  bk:St→Hp→Prop:=fun _ _=>False
  ct:St→Hp→Prop:=fun _ _=>False
noncomputable abbrev TS:=Ends→St→Hp→Prop
noncomputable def EP(X:Cx)(pins:List (Addr×Obj))(σ:St)(Q:VK)(u:Value)(s':Shared):Prop:=∃ v H',Inv X pins σ H' s'∧RelV v u∧Q v H'
noncomputable def TP(X:Cx)(pins:List (Addr×Obj))(σ:St)(Q:Bool→Hp→Prop)(b:Bool)(s':Shared):Prop:=∃ H',Inv X pins σ H' s'∧Q b H'
noncomputable def AP(X:Cx)(pins:List (Addr×Obj))(σ:St)(Q:List V→Hp→Prop)(us:List Value)(s':Shared):Prop:=∃ vs H',Inv X pins σ H' s'∧Vals vs us∧Q vs H'
noncomputable def SP(X:Cx)(pins:List (Addr×Obj))(D:Ends)(f:Flow)(s':Shared):Prop:=
  match f with
  | .next=>∃ σ' H',Inv X pins σ' H' s'∧D.nx σ' H'
  | .brk=>∃ σ' H',Inv X pins σ' H' s'∧D.bk σ' H'
  | .cont=>∃ σ' H',Inv X pins σ' H' s'∧D.ct σ' H'
  | .ret u=>∃ v σ' H',Inv X pins σ' H' s'∧RelV v u∧D.rt v H'
noncomputable def PE(X:Cx)(e:Expr)(t:TE):Prop:=
  ∀ (pins:List (Addr×Obj)) (s:Shared) (σ:St) (H:Hp) (Q:VK),Inv X pins σ H s→t σ H Q→wpAny (model X.prog X.w) X.A (eval e X.env) (EP X pins σ Q) X.xe s
noncomputable def PT(X:Cx)(e:Expr)(t:TT):Prop:=
  ∀ (pins:List (Addr×Obj)) (s:Shared) (σ:St) (H:Hp) (Q:Bool→Hp→Prop),Inv X pins σ H s→t σ H Q→wpAny (model X.prog X.w) X.A (isTrue e X.env (eval e X.env)) (TP X pins σ Q) X.xe s
noncomputable def PW(X:Cx)(e:Expr)(t:TT):Prop:=
  ∀ (whole:Sem Value) (pins:List (Addr×Obj)) (s:Shared) (σ:St) (H:Hp) (Q:Bool→Hp→Prop),Inv X pins σ H s→t σ H Q→wpAny (model X.prog X.w) X.A (isTrue e X.env whole) (TP X pins σ Q) X.xe s
theorem PW.pt{X:Cx}{e:Expr}{t:TT}(h:PW X e t):PT X e t:=h _
noncomputable def PA(X:Cx)(es:List Expr)(t:TA):Prop:=
  ∀ (pos:Pos) (pins:List (Addr×Obj)) (s:Shared) (σ:St) (H:Hp) (Q:List V→Hp→Prop),Inv X pins σ H s→t σ H Q→wpAny (model X.prog X.w) X.A (spliced (backTo pos (starEach es X.env))) (AP X pins σ Q) X.xe s
noncomputable def PS(X:Cx)(st:Stmt)(t:TS):Prop:=
  ∀ (pins:List (Addr×Obj)) (s:Shared) (σ:St) (H:Hp) (D:Ends),Inv X pins σ H s→t D σ H→wpAny (model X.prog X.w) X.A (exec st X.env) (SP X pins D) X.xe s
noncomputable def PSs(X:Cx)(st:List Stmt)(t:TS):Prop:=
  ∀ (pins:List (Addr×Obj)) (s:Shared) (σ:St) (H:Hp) (D:Ends),Inv X pins σ H s→t D σ H→wpAny (model X.prog X.w) X.A (execs st X.env) (SP X pins D) X.xe s
theorem thn{α:Type}{t:Sem α}{Q Q':α→Shared→Prop}{M:Model}{A:Around}{E:Value→Shared→Prop}{s:Shared}(h:wpAny M A t Q E s)(hQ:∀ a s,Q a s→Q' a s):wpAny M A t Q' E s:=wpAny_mono h hQ fun _ _ x=>x
section
variable {X:Cx}
noncomputable def Ajy(i:Nat):TE:=fun σ H Q=>∃ v,σ[i]? = some (some v)∧Q v H
noncomputable def tC(v:V):TE:=fun _ H Q=>Q v H
theorem Aak{i:Nat}{x:Str}{pos:Pos}(hN:X.N[i]? = some x)(hv:Vis X.env.scope x)(hd:(x == ("__debug__" : Str))=false:=by decide)(hcd:(x == ("__classdict__" : Str))=false:=by decide):PE X (.Name x pos) (Ajy i):=by
  intro pins s σ H Q I h
  obtain ⟨v,e,h⟩:=h
  obtain ⟨m,hn,hl⟩:=I.loc
  obtain ⟨u,r,l⟩:=hl i x v hN e hv
  have fin:EP X pins σ Q u s:=⟨v,H,I,r,h⟩
  rcases l with ⟨hk,hm⟩ | ⟨hk,c,hc,hcell⟩
  · exact wpAny_Name (wpAny_loadName_local I.ok.kind hk hn hm fin) hd
  · rcases hk with hk | hk
    · exact wpAny_Name (wpAny_loadName_cell I.ok.kind hk hc hcell fin) hd
    · exact wpAny_Name (wpAny_loadName_free I.ok.kind hk hc hcell fin hcd) hd
theorem Aa8{i j pos}:PE X (.Constant (.int i) j pos) (tC (.int i)):=fun _ _ _ H _ I h=>wpAny_Constant_int ⟨.int i,H,I.tok _,⟨_,rfl⟩,h⟩
theorem Aiz{b j pos}:PE X (.Constant (.bool b) j pos) (tC (.bl b)):=fun _ _ _ H _ I h=>Constant_bool ⟨.bl b,H,I,rfl,h⟩
theorem Ah0{j pos}:PE X (.Constant .none j pos) (tC .non):=fun _ _ _ H _ I h=>Constant_none ⟨.non,H,I,rfl,h⟩
noncomputable def Gl(X:Cx)(x:Str):Prop:=X.env.kindOf x=some .globalImplicit
theorem Wk{E:Value→Shared→Prop}{pins:List (Addr×Obj)}{s:Shared}{σ:St}{H:Hp}{x:Str}{u:Value}{pos:Pos}{Q:Value→Shared→Prop}(I:Inv X pins σ H s)(hg:Gl X x)(hm:X.mg x=some u)(h:Q u s)
    (hd:(x == ("__debug__" : Str))=false:=by decide):wpAny (model X.prog X.w) X.A (eval (.Name x pos) X.env) Q E s:=
  Calls.Name_function_global I.ok.kind hg (Calls.loadGlobal_global (by rw[I.ok.glob];exact I.mod.glob.keeps I.bk) hm h) hd
theorem Gg{E:Value→Shared→Prop}{pins:List (Addr×Obj)}{s:Shared}{σ:St}{H:Hp}{x:Str}{u:Value}{pos:Pos}{Q:Value→Shared→Prop}(I:Inv X pins σ H s)(hg:Gl X x)(hm:X.mg x=none)(hv:bootBuiltins x=some u)(h:Q u s)
    (hn:x ≠ "__name__" := by decide) (hd:(x == ("__debug__" : Str))=false:=by decide):wpAny (model X.prog X.w) X.A (eval (.Name x pos) X.env) Q E s:=by
  obtain ⟨mb,h1,h2⟩:=I.mod.blt
  exact Calls.Name_function_global I.ok.kind hg (Calls.loadGlobal_builtin (by rw[I.ok.glob];exact I.mod.glob.keeps I.bk) hm (by rw[I.ok.blt];exact h1.keeps I.bk) ((h2 x hn).trans hv) h) hd
theorem Ad9{x:Str}{v:V}{u:Value}{pos:Pos}(hg:Gl X x)(hm:X.mg x=none)(hv:bootBuiltins x=some u)(r:RelV v u)(hn:x ≠ "__name__" := by decide)(hd:(x == ("__debug__" : Str))=false:=by decide):PE X (.Name x pos) (tC v):=
  fun _ _ _ H _ I h=>Gg I hg hm hv ⟨v,H,I,r,h⟩ hn hd
variable {a b:Expr}{ta tb:TE}{pos:Pos}
variable {tA tB':TT}{rest:List Expr}
noncomputable def Akw(t u:TT):TT:=fun σ H Q=>t σ H fun c H1=>if c=true then u σ H1 Q else Q false H1
noncomputable def tOr(t u:TT):TT:=fun σ H Q=>t σ H fun c H1=>if c=true then Q true H1 else u σ H1 Q
noncomputable def Aky(t:TT):TT:=fun σ H Q=>t σ H fun c H1=>Q (!c) H1
theorem Aek(ha:PT X a tA):PW X (.BoolOp .And [a] pos) tA:=by
  intro wh pins s σ H Q I h
  refine isTrue_and (thn (ha pins s σ H Q I h) fun c s1 e=>?_)
  cases c with
  | true=>exact isTrue_and_nil e
  | false=>exact e
theorem Ag4(ha:PT X a tA):PW X (.BoolOp .Or [a] pos) tA:=by
  intro wh pins s σ H Q I h
  refine isTrue_or (thn (ha pins s σ H Q I h) fun c s1 e=>?_)
  cases c with
  | false=>exact isTrue_or_nil e
  | true=>exact e
theorem Agn(ha:PT X a tA)(hb:PW X (.BoolOp .And (b::rest) pos) tB'):PW X (.BoolOp .And (a::b::rest) pos) (Akw tA tB'):=by
  intro wh pins s σ H Q I h
  refine isTrue_and (thn (ha pins s σ H _ I h) fun c s1 ⟨H1,I1,q1⟩=>?_)
  cases c with
  | true=>exact hb wh pins s1 σ H1 Q I1 q1
  | false=>exact ⟨H1,I1,q1⟩
theorem Ajo(ha:PT X a tA)(hb:PW X (.BoolOp .Or (b::rest) pos) tB'):PW X (.BoolOp .Or (a::b::rest) pos) (tOr tA tB'):=by
  intro wh pins s σ H Q I h
  refine isTrue_or (thn (ha pins s σ H _ I h) fun c s1 ⟨H1,I1,q1⟩=>?_)
  cases c with
  | true=>exact ⟨H1,I1,q1⟩
  | false=>exact hb wh pins s1 σ H1 Q I1 q1
theorem Agc(ha:PT X a tA):PT X (.UnaryOp .Not a pos) (Aky tA):=by
  intro pins s σ H Q I h
  exact isTrue_not (ha pins s σ H (fun c H1=>Q (!c) H1) I h)
noncomputable def Ai7(ta tb:TE):TE:=fun σ H Q=>ta σ H fun x H1=>∃ c,x = .bl c∧if c=true then tb σ H1 Q else Q (.bl false) H1
noncomputable def Aji(ta:TE):TE:=fun σ H Q=>ta σ H fun x H1=>∃ c,x = .bl c∧Q (.bl (!c)) H1
theorem Ah9{op}{t:TE}(h:PE X a t):PE X (.BoolOp op [a] pos) t:=fun pins s σ H Q I hw=>BoolOp_one (h pins s σ H Q I hw)
theorem Ahl(ha:PE X a ta)(hb:PE X (.BoolOp .And (b::rest) pos) tb):PE X (.BoolOp .And (a::b::rest) pos) (Ai7 ta tb):=by
  intro pins s σ H Q I h
  refine BoolOp_and (thn (ha pins s σ H _ I h) fun v s1 ⟨x,H1,I1,r1,q1⟩=>?_)
  obtain ⟨c,rfl,q1⟩:=q1
  cases r1
  refine wpAny_truthy_bool ?_
  cases c with
  | true=>exact hb pins s1 σ H1 Q I1 q1
  | false=>exact ⟨.bl false,H1,I1,rfl,q1⟩
theorem Aie(ha:PE X a ta):PE X (.UnaryOp .Not a pos) (Aji ta):=by
  intro pins s σ H Q I h
  refine UnaryOp_ (thn (ha pins s σ H _ I h) fun v s1 ⟨x,H1,I1,r1,q1⟩=>?_)
  obtain ⟨c,rfl,q1⟩:=q1
  cases r1
  exact not_of (wpAny_truthy_bool ⟨.bl (!c),H1,I1,rfl,q1⟩)
end
noncomputable def SqL(K:PySem.W.Frag)(H:Hp)(a:Addr)(xs:List V):Prop:=
  Rd H a (.lst xs) ∨
    ∃ (o:Obj) (its:Array Value) (n:Nat),K.lookup a=some o∧o.cls = .type "list" ∧ o.dict=none∧o.data = .seq its n∧its.size≤sizeLine∧Vals xs its.toList
noncomputable def SqT(K:PySem.W.Frag)(H:Hp)(a:Addr)(xs:List V):Prop:=
  Rd H a (.tup xs) ∨
    ∃ (o:Obj) (its:Array Value) (n:Nat),K.lookup a=some o∧(o.cls,o.dict)=(Value.type "tuple",(none:Option Addr))∧o.data = .seq its n∧its.size≤sizeLine∧Vals xs its.toList
noncomputable def Akr:Value→Option V
  | .none=>some .non
  | .bool b=>some (.bl b)
  | .int i _=>some (.int i)
  | .str x _=>some (.str x)
  | .bytes b _=>some (.byt b)
  | .float b _=>some (.flt b)
  | .ref a=>some (.ref a)
  | .type n=>some (.ty n)
  | _=>none
theorem RelV.abs{x:V}{u:Value}(r:RelV x u):Akr u=some x:=by
  cases x with
  | non=>cases r;rfl
  | bl _=>cases r;rfl
  | int _=>obtain ⟨t,rfl⟩:=r;rfl
  | str _=>obtain ⟨t,rfl⟩:=r;rfl
  | byt _=>obtain ⟨t,rfl⟩:=r;rfl
  | flt _=>obtain ⟨t,rfl⟩:=r;rfl
  | ref _=>cases r;rfl
  | ty _=>cases r;rfl
theorem RelV.inj{x y:V}{u:Value}(r:RelV x u)(q:RelV y u):x=y:=Option.some.inj (r.abs.symm.trans q.abs)
theorem Vals.inj:∀ {xs ys:List V} {us:List Value},Vals xs us→Vals ys us→xs=ys
  | _,_,_,.nil,.nil=>rfl
  | _,_,_,.cons r t,.cons r' t'=>by rw[r.inj r',Vals.inj t t']
section
variable {X:Cx}{pins:List (Addr×Obj)}{σ:St}{H:Hp}{s:Shared}{a:Addr}{xs ys:List V}
theorem SqL.of{K:PySem.W.Frag}(h:H a=some (.lst xs)):SqL K H a xs:=.inl (.inl h)
theorem SqT.of{K:PySem.W.Frag}(h:H a=some (.tup xs)):SqT K H a xs:=.inl (.inl h)
theorem Inv.list(I:Inv X pins σ H s)(h:SqL X.K H a xs):∃ its:List Value,Vals xs its∧PlainL s.heap a its.toArray∧xs.length≤sizeLine:=by
  rcases h with h | ⟨o,its,n,hk,hc,hd,hs,hz,r⟩
  · obtain ⟨z,its,n,r,e⟩:=h.ok I.hok
    exact ⟨its,r,⟨_,n,e,rfl,rfl,rfl⟩,z⟩
  · refine ⟨its.toList,r,⟨o,n,I.kIn a o hk,hc,hd,by simpa using hs⟩,?_⟩
    have e:=r.length
    simp only[Array.length_toList] at e
    omega
theorem Inv.tupleN(I:Inv X pins σ H s)(h:SqT X.K H a xs):∃ its:List Value,Vals xs its∧TupN s.heap a its.toArray∧xs.length≤sizeLine:=by
  rcases h with h | ⟨o,its,n,hk,hc,hs,hz,r⟩
  · obtain ⟨z,its,r,p⟩:=h.ok I.hok
    exact ⟨its,r,p,z⟩
  · refine ⟨its.toList,r,⟨o,I.kIn a o hk,hc,n,by simpa using hs⟩,?_⟩
    have e:=r.length
    simp only[Array.length_toList] at e
    omega
theorem Inv.tuple(I:Inv X pins σ H s)(h:SqT X.K H a xs):∃ its:List Value,Vals xs its∧IsTup s.heap a its.toArray∧xs.length≤sizeLine:=by
  obtain ⟨its,r,p,z⟩:=I.tupleN h
  exact ⟨its,r,p.is,z⟩
theorem Inv.list_inj(I:Inv X pins σ H s)(h:SqL X.K H a xs)(h':SqL X.K H a ys):xs=ys:=by
  obtain ⟨its,r,⟨o,n,e,_,_,d⟩,_⟩:=I.list h
  obtain ⟨its',r',⟨o',n',e',_,_,d'⟩,_⟩:=I.list h'
  rw[e] at e';cases e'
  rw[d] at d'
  injection d' with d1 _
  have:its=its':=by simpa using congrArg Array.toList d1
  subst this
  exact r.inj r'
theorem Inv.tuple_inj(I:Inv X pins σ H s)(h:SqT X.K H a xs)(h':SqT X.K H a ys):xs=ys:=by
  obtain ⟨its,r,⟨o,e,_,n,d⟩,_⟩:=I.tuple h
  obtain ⟨its',r',⟨o',e',_,n',d'⟩,_⟩:=I.tuple h'
  rw[e] at e';cases e'
  rw[d] at d'
  injection d' with d1 _
  have:its=its':=by simpa using congrArg Array.toList d1
  subst this
  exact r.inj r'
end
noncomputable abbrev Cx.wish(X:Cx)(E:Value→Shared→Prop):Cx:={ X with xe:=E }
noncomputable abbrev Cx.nox(X:Cx):Cx:=X.wish fun _ _=>False
theorem Cx.Ok.wish{X:Cx}(ok:X.Ok)(E:Value→Shared→Prop):(X.wish E).Ok:=
  ⟨ok.mod,ok.kind,ok.glob,ok.blt,ok.above,ok.inj,ok.has,ok.cab,ok.hd,ok.frames,ok.stk,ok.exf,ok.bs,ok.bsz,ok.noex,ok.exfs,ok.funs,ok.frf⟩
theorem Cx.Ok.unwish{X:Cx}{E:Value→Shared→Prop}(ok:(X.wish E).Ok):X.Ok:=
  ⟨ok.mod,ok.kind,ok.glob,ok.blt,ok.above,ok.inj,ok.has,ok.cab,ok.hd,ok.frames,ok.stk,ok.exf,ok.bs,ok.bsz,ok.noex,ok.exfs,ok.funs,ok.frf⟩
section
variable {X:Cx}{pins:List (Addr×Obj)}{σ:St}{H:Hp}{s:Shared}{E:Value→Shared→Prop}
theorem Inv.wish(I:Inv X pins σ H s)(E:Value→Shared→Prop):Inv (X.wish E) pins σ H s:=⟨I.ok.wish E,I.os,I.bare,I.base,I.loc,I.cell,I.free,I.freeC,I.pin,I.hok,I.len⟩
theorem Inv.unwish(I:Inv (X.wish E) pins σ H s):Inv X pins σ H s:=⟨I.ok.unwish,I.os,I.bare,I.base,I.loc,I.cell,I.free,I.freeC,I.pin,I.hok,I.len⟩
theorem SP.unwish{D:Ends}{f:Flow}{s':Shared}(h:SP (X.wish E) pins D f s'):SP X pins D f s':=by
  cases f with
  | next=>obtain ⟨σ',H',I,q⟩:=h;exact ⟨σ',H',I.unwish,q⟩
  | brk=>obtain ⟨σ',H',I,q⟩:=h;exact ⟨σ',H',I.unwish,q⟩
  | cont=>obtain ⟨σ',H',I,q⟩:=h;exact ⟨σ',H',I.unwish,q⟩
  | ret u=>obtain ⟨v,σ',H',I,r,q⟩:=h;exact ⟨v,σ',H',I.unwish,r,q⟩
theorem PE.nox{e:Expr}{t:TE}(h:PE X.nox e t):PE X e t:=fun pins s σ H Q I hw=>
  wpAny_mono (h pins s σ H Q (I.wish _) hw) (fun _ _ ⟨v,H',I',r,q⟩=>⟨v,H',I'.unwish,r,q⟩) fun _ _ z=>False.elim z
theorem PT.nox{e:Expr}{t:TT}(h:PT X.nox e t):PT X e t:=fun pins s σ H Q I hw=>
  wpAny_mono (h pins s σ H Q (I.wish _) hw) (fun _ _ ⟨H',I',q⟩=>⟨H',I'.unwish,q⟩) fun _ _ z=>False.elim z
theorem PSs.nox{st:List Stmt}{t:TS}(h:PSs X.nox st t):PSs X st t:=fun pins s σ H D I hw=>
  wpAny_mono (h pins s σ H D (I.wish _) hw) (fun _ _ q=>q.unwish) fun _ _ z=>False.elim z
end
section
variable {X:Cx}{st:Stmt}{rest:List Stmt}{t u:TS}{e:Expr}{te:TE}{pos:Pos}
noncomputable def Ajz:TS:=fun D σ H=>D.nx σ H
noncomputable def Ak7(t u:TS):TS:=fun D σ H=>t { D with nx:=u D } σ H
theorem Ae9:PSs X [] Ajz:=fun _ _ σ H _ I h=>wpAny_execs_nil ⟨σ,H,I,h⟩
theorem Y5(h1:PS X st t)(h2:PSs X rest u):PSs X (st::rest) (Ak7 t u):=by
  intro pins s σ H D I h
  refine wpAny_execs_cons (thn (h1 pins s σ H { D with nx:=u D } I h) fun f s1 q=>?_)
  cases f with
  | next=>
    obtain ⟨σ',H',I',q⟩:=q
    exact h2 pins s1 σ' H' D I' q
  | ret v=>exact q
  | brk=>exact q
  | cont=>exact q
theorem Ad3(h1:PS X st t):PSs X [st] t:=by
  intro pins s σ H D I h
  refine wpAny_execs_cons (thn (h1 pins s σ H D I h) fun f s1 q=>?_)
  cases f with
  | next=>exact wpAny_execs_nil q
  | ret v=>exact q
  | brk=>exact q
  | cont=>exact q
theorem Inv.quiet{pins:List (Addr×Obj)}{σ:St}{H:Hp}{s:Shared}(I:Inv X pins σ H s):interactive X.env=false:=by simp[interactive,I.ok.kind]
noncomputable def Ajv(te:TE):TS:=fun D σ H=>te σ H fun _ H1=>D.nx σ H1
theorem Adh(he:PE X e te)(hs:swapsWith e none pos.line X.env=pure false:=by rfl):PS X (.Expr e pos) (Ajv te):=by
  intro pins s σ H D I h
  exact wpAny_Expr_any (thn (he pins s σ H _ I h) fun v s1 ⟨x,H1,I1,r1,q1⟩=>⟨σ,H1,I1,q1⟩) I.quiet hs
noncomputable def Akm(te:TE):TS:=fun D σ H=>te σ H D.rt
theorem Agz(he:PE X e te):PS X (.Return (some e) pos) (Akm te):=by
  intro pins s σ H D I h
  exact wpAny_Return_some (thn (he pins s σ H _ I h) fun v s1 ⟨x,H1,I1,r1,q1⟩=>⟨x,σ,H1,I1,r1,q1⟩)
noncomputable def Akv(c:TT)(t u:TS):TS:=fun D σ H=>c σ H fun b H1=>if b=true then t D σ H1 else u D σ H1
theorem Aju{c:Expr}{a b:List Stmt}{tc:TT}(hc:PT X c tc)(ha:PSs X a t)(hb:PSs X b u):PS X (.If c a b pos) (Akv tc t u):=by
  intro pins s σ H D I h
  refine wpAny_If (thn (hc pins s σ H _ I h) fun d s1 ⟨H1,I1,q1⟩=>?_)
  cases d with
  | true=>exact ha pins s1 σ H1 D I1 q1
  | false=>exact hb pins s1 σ H1 D I1 q1
noncomputable def Ag8:TS:=fun _ _ _=>False
theorem Aai:PS X st Ag8:=fun _ _ _ _ _ _ h=>h.elim
end
noncomputable abbrev TG:=V→St→Hp→(St→Hp→Prop)→Prop
noncomputable abbrev TGs:=List V→St→Hp→(St→Hp→Prop)→Prop
noncomputable def PG(X:Cx)(target:Expr)(t:TG):Prop:=
  ∀ (pins:List (Addr×Obj)) (s:Shared) (σ:St) (H:Hp) (v:V) (u:Value) (Q:St→Hp→Prop),Inv X pins σ H s→RelV v u→t v σ H Q →
    wpAny (model X.prog X.w) X.A (assign target X.env u) (fun _ s'=>∃ σ' H',Inv X pins σ' H' s'∧Q σ' H') X.xe s
noncomputable def PGs(X:Cx)(ts:List Expr)(t:TGs):Prop:=
  ∀ (pins:List (Addr×Obj)) (s:Shared) (σ:St) (H:Hp) (vs:List V) (us:List Value) (Q:St→Hp→Prop),Inv X pins σ H s→Vals vs us→t vs σ H Q →
    wpAny (model X.prog X.w) X.A (assignInOrder ((assignEach ts X.env).map (·.2)) us) (fun _ s'=>∃ σ' H',Inv X pins σ' H' s'∧Q σ' H') X.xe s
noncomputable abbrev Ahk:=V→V→V→Hp→(Hp→Prop)→Prop
noncomputable def Ai8(X:Cx)(t:Ahk):Prop:=
  ∀ (pins:List (Addr×Obj)) (s:Shared) (σ:St) (H:Hp) (o i v:V) (ov iv u:Value) (Q:Hp→Prop),Inv X pins σ H s→RelV o ov→RelV i iv→RelV v u→t o i v H Q →
    wpAny (model X.prog X.w) X.A (setItem ov iv u) (fun _ s'=>∃ H',Inv X pins σ H' s'∧Q H') X.xe s
section
variable {X:Cx}{pos:Pos}
noncomputable def Sx(i:Nat):TG:=fun v σ H Q=>Q (σ.set i (some v)) H
theorem Ws{i:Nat}{x:Str}(hN:X.N.Nodup)(hi:X.N[i]? = some x)(hx:Loc X.env.scope x)(hf:X.fn x=true∨X.env.scope.names.lookup x=some .local:=by first | exact .inl rfl | exact .inr rfl | assumption):PG X (.Name x pos) (Sx i):=by
  intro pins s σ H v u Q I r h
  exact wpAny_assign_Name (S9 I hN hi hx r (fun s' I'=>⟨_,H,I',h⟩) hf)
noncomputable def gNil:TGs:=fun vs σ H Q=>vs=[]∧Q σ H
noncomputable def gCons(t:TG)(u:TGs):TGs:=fun vs σ H Q=>∃ v r,vs=v::r∧t v σ H fun σ' H'=>u r σ' H' Q
theorem Ae1:PGs X [] gNil:=by
  intro pins s σ H vs us Q I r h
  obtain ⟨e,h⟩:=h
  subst e
  cases r
  exact assignInOrder_nil ⟨σ,H,I,h⟩
theorem Y4{e:Expr}{es:List Expr}{t:TG}{u:TGs}(h1:PG X e t)(h2:PGs X es u)
    (hs:(assignEach (e::es) X.env).map (·.2)=assign e X.env::(assignEach es X.env).map (·.2):=by rfl):PGs X (e::es) (gCons t u):=by
  intro pins s σ H vs us Q I r h
  obtain ⟨v,vr,e1,h⟩:=h
  subst e1
  cases r with
  | cons r rr=>
    rw[hs]
    refine assignInOrder_cons (thn (h1 pins s σ H _ _ _ I r h) fun _ s1 ⟨σ1,H1,I1,q1⟩=>?_)
    exact h2 pins s1 σ1 H1 _ _ Q I1 rr q1
noncomputable def gTup(K:PySem.W.Frag)(n:Nat)(t:TGs):TG:=fun v σ H Q=>∃ a xs,v = .ref a∧SqT K H a xs∧xs.length=n∧t xs σ H Q
theorem Ah1{es:List Expr}{k:Nat}{t:TGs}{n:Nat}(hc:X.calm=true)(h:PGs X es t)
    (hn:(assignEach es X.env).length=n:=by rfl) (hst:(assignEach es X.env).findIdx? (·.1)=none:=by rfl):PG X (.Tuple es k pos) (gTup X.K n t):=by
  intro pins s σ H v u Q I r hw
  obtain ⟨a,xs,e1,hq,hl,hw⟩:=hw
  subst e1
  cases r
  obtain ⟨its,rv,ht,hz⟩:=I.tuple hq
  refine assign_Tuple_tuple (I.ok.hd hc) ht (by simp[hn,← hl,rv.length]) hst fun h' hx=>?_
  have I1:Inv X pins σ H { s with heap:=h' }:=I.kept (t':=s.toks) fun b o e=>hx b o (Nat.ne_of_lt (Heap.lt_size e)) e
  exact h pins _ σ H xs _ Q I1 (by simpa using rv) hw
noncomputable def gSub(to ti:TE)(t:Ahk):TG:=fun v σ H Q=>to σ H fun o H1=>ti σ H1 fun i H2=>t o i v H2 fun H3=>Q σ H3
theorem Af7{o i:Expr}{to ti:TE}{t:Ahk}(ho:PE X o to)(hi:PE X i ti)(hs:Ai8 X t)
    (ha:∀ v,assign (.Subscript o i pos) X.env v=(do
      let ov ← holding [v] (eval o X.env)
      let iv ← holding [v,ov] (eval i X.env)
      standAt pos
      holding [v,ov,iv] (setItem ov iv v)
      release [v,ov,iv] []):=by intro _;rfl):PG X (.Subscript o i pos) (gSub to ti t):=by
  intro pins s σ H v u Q I r h
  rw[ha]
  refine wpAny_bind (wpAny_holding (thn (ho pins s σ H _ I h) fun ov s1 ⟨x,H1,I1,r1,q1⟩=>?_))
  refine wpAny_bind (wpAny_holding (thn (hi pins s1 σ H1 _ I1 q1) fun iv s2 ⟨y,H2,I2,r2,q2⟩=>?_))
  refine wpAny_bind (wpAny_standAt (wpAny_bind (wpAny_holding (thn (hs pins s2 σ H2 x y v ov iv u _ I2 r1 r2 r q2) fun _ s3 ⟨H3,I3,q3⟩=>?_))))
  exact wpAny_release ⟨σ,H3,I3,q3⟩
noncomputable def Ad6(te:TE)(g:TG):TS:=fun D σ H=>te σ H fun x H1=>g x σ H1 D.nx
theorem Ahd{tg e:Expr}{te:TE}{g:TG}(he:PE X e te)(hg:PG X tg g)(hs:swapsWithSole [tg] e pos.line X.env=pure false:=by rfl)(hw:swappedStores [tg] e X.env=pure none:=by rfl)
    (h1:(assignEach [tg] X.env).map (·.2)=[assign tg X.env]:=by rfl):PS X (.Assign [tg] e pos) (Ad6 te g):=by
  intro pins s σ H D I h
  refine wpAny_Assign_stores (thn (he pins s σ H _ I h) fun v s1 ⟨x,H1,I1,r1,q1⟩=>?_) hs hw
  rw[h1]
  exact thn (hg pins s1 σ H1 x v _ I1 r1 q1) fun _ s2 q=>q
theorem Ag7{i:Nat}{x:Str}{e:Expr}{te:TE}{pos':Pos}(hN:X.N.Nodup)(hi:X.N[i]? = some x)(hx:Loc X.env.scope x)(he:PE X e te)(hs:swapsWith e (some (.Name x pos')) pos.line X.env=pure false:=by rfl)(hf:X.fn x=true∨X.env.scope.names.lookup x=some .local:=by first | exact .inl rfl | exact .inr rfl | assumption) :
    PS X (.Assign [.Name x pos'] e pos) (Ad6 te (Sx i)):=by
  intro pins s σ H D I h
  refine wpAny_Assign_Name (thn (he pins s σ H _ I h) fun v s1 ⟨y,H1,I1,r1,q1⟩=>?_) hs
  exact S9 I1 hN hi hx r1 (fun s2 I2=>⟨_,H1,I2,q1⟩) hf
end
section
variable {X:Cx}{pos:Pos}
noncomputable def Aii(c:TT)(tb:TS):TS:=fun D σ H=>∃ W:Nat→St→Hp→Prop,(∃ m,W m σ H)∧∀ m σ H,W m σ H →
  c σ H fun b H1=>if b=true then ∃ N:St→Hp→Prop,(∀ σ' H',N σ' H'→∃ m',m' < m∧W m' σ' H')∧tb { D with nx:=N,ct:=N,bk:=D.nx } σ H1 else D.nx σ H1
theorem Aau{c:Expr}{body:List Stmt}{tc:TT}{tb:TS}(hp:PassesOwn (model X.prog X.w) X.A X.env X.xe)(hc:PT X c tc)(hb:PSs X body tb):PS X (.While c body [] pos) (Aii tc tb):=by
  intro pins s σ H D I h
  obtain ⟨W,⟨m0,w0⟩,turn⟩:=h
  refine wpAny_While (codeAny_whileLoop (fun n s'=>∃ σ' H',Inv X pins σ' H' s'∧W n σ' H') ?_ m0 ⟨σ,H,I,w0⟩)
  rintro n s1 ⟨σ1,H1,I1,w1⟩
  refine wpAny_passesOwn hp (thn (hc pins s1 σ1 H1 _ I1 (turn n σ1 H1 w1)) fun b s2 ⟨H2,I2,q2⟩=>?_)
  cases b with
  | true=>
    obtain ⟨N,hN,q2⟩:=q2
    rw[if_pos rfl]
    refine wpAny_passesOwn hp (thn (hb pins s2 σ1 H2 _ I2 q2) fun f s3 q3=>?_)
    cases f with
    | next=>
      obtain ⟨σ3,H3,I3,n3⟩:=q3
      obtain ⟨m',hm,w3⟩:=hN σ3 H3 n3
      exact ⟨m',hm,σ3,H3,I3,w3⟩
    | cont=>
      obtain ⟨σ3,H3,I3,n3⟩:=q3
      obtain ⟨m',hm,w3⟩:=hN σ3 H3 n3
      exact ⟨m',hm,σ3,H3,I3,w3⟩
    | brk=>exact q3
    | ret v=>exact q3
  | false=>
    rw[if_neg Bool.false_ne_true]
    exact wpAny_execs_nil ⟨σ1,H2,I2,q2⟩
end
structure It where
  go:Nat→Hp→Prop
  yld:Nat→Hp→V→Hp→Prop
  stop:Nat→Hp→Prop
noncomputable def Km(X:Cx)(pins:List (Addr×Obj))(H:Hp)(b:Addr):Prop:=
  H b=none∧b≠X.env.locals∧b∉X.fs∧(b∈X.ex∨X.s₀.heap.objs.size≤b)∧(∀ x c,X.env.cells.lookup x=some c→c≠b)∧∀ p∈X.pn++pins,p.1≠b
theorem Inv.fpOk{X:Cx}{pins:List (Addr×Obj)}{σ:St}{H H':Hp}{s:Shared}{b:Addr}(I:Inv X pins σ H s)(hb:s.heap.objs.size≤b)(hn:H' b=none):Km X pins H' b:=by
  refine ⟨hn,Nat.ne_of_gt (Nat.lt_of_lt_of_le I.lt hb),I.nofs hb,.inr (Nat.le_trans I.sz hb),fun x c e z=>?_,fun p hp z=>?_⟩
  · obtain ⟨v,q⟩:=I.cell x c e
    exact absurd (Nat.lt_of_lt_of_le q.lt (by rw[z];exact hb)) (Nat.lt_irrefl _)
  · exact absurd (Nat.lt_of_lt_of_le (Heap.lt_size (I.pin p hp).1) (by rw[z];exact hb)) (Nat.lt_irrefl _)
structure Turn(P:Program)(w:World)(K:PySem.W.Frag)(tg:Expr)(J:It)(fp:List Addr)(it:Addr)(tn:Nat→Heap→Prop):Prop where
  mem:it∈fp
  obj:∀ i h,tn i h→∀ b∈fp,∃ o,h.get? b=some o∧∀ v,o.data≠.cell v
  keep:∀ i h h',tn i h→(∀ b∈fp,∀ o,h.get? b=some o→h'.get? b=some o)→tn i h'
  item:∀ (X:Cx),X.prog=P→X.w=w→X.K=K→X.calm=true→∀ (i:Nat) (pins:List (Addr×Obj)) (s:Shared) (σ:St) (H:Hp) (E:Value→Shared→Prop),Inv X pins σ H s→(∀ b∈fp,Km X pins H b)→tn i s.heap→J.go i H →
    wpAny (model P w) X.A (pyNext (.ref it)) (fun r s1=>∃ u,r=some u ∧
      wpAny (model P w) X.A (letOwnedTupleGo tg (.ref it) u) (fun _ s2=>∃ x H',Inv X pins σ H' s2∧RelV x u∧J.yld i H x H'∧tn (i+1) s2.heap∧∀ b∈fp,H' b=none) E s1) E s
  done:∀ (X:Cx),X.prog=P→X.w=w→X.K=K→X.calm=true→∀ (i:Nat) (pins:List (Addr×Obj)) (s:Shared) (σ:St) (H:Hp) (E:Value→Shared→Prop),Inv X pins σ H s→(∀ b∈fp,Km X pins H b)→tn i s.heap→J.stop i H →
    wpAny (model P w) X.A (pyNext (.ref it)) (fun r s1=>r=none∧Inv X pins σ H s1) E s
  self:∀ (A:Around) (i:Nat) (s:Shared) (Q:Value→Shared→Prop) (E:Value→Shared→Prop),tn i s.heap→Q (.ref it) s→wpAny (model P w) A (pyIter (.ref it)) Q E s
noncomputable abbrev TI:=St→Hp→(It→Hp→Prop)→Prop
noncomputable def PIE(X:Cx)(pins:List (Addr×Obj))(σ:St)(tg:Expr)(R:It→Hp→Prop)(itv:Value)(s2:Shared):Prop:=
  ∃ (it:Addr) (fp:List Addr) (tn:Nat→Heap→Prop) (J:It) (H':Hp),itv = .ref it∧Inv X pins σ H' s2∧Turn X.prog X.w X.K tg J fp it tn∧tn 0 s2.heap∧(∀ b∈fp,Km X pins H' b)∧R J H'
noncomputable def PI(X:Cx)(tg iter:Expr)(wi:TI):Prop:=
  ∀ (pins:List (Addr×Obj)) (s:Shared) (σ:St) (H:Hp) (R:It→Hp→Prop),Inv X pins σ H s→wi σ H R →
    wpAny (model X.prog X.w) X.A (eval iter X.env) (fun v s1=>wpAny (model X.prog X.w) X.A (pyIter v) (PIE X pins σ tg R) X.xe s1) X.xe s
theorem Abv{M:Model}{A:Around}{E:Value→Shared→Prop}{s:Shared}{tg:Expr}{it:Addr}{u:Value}{o:Obj}{n:String}{vs:Array Value}{Q:Unit→Shared→Prop}(ho:s.heap.get? it=some o)(hc:o.cls = .type n)(hd:o.data = .fields vs)
    (hn:["enumerate","zip","dict_itemiterator","dict_reverseitemiterator","odict_iterator","itertools.zip_longest","itertools.pairwise"].contains n=false) (hQ:Q () s):wpAny M A (letOwnedTupleGo tg (.ref it) u) Q E s:=by
  unfold letOwnedTupleGo
  cases tg <;> first
    | exact wpAny_pure hQ
    | (cases u <;> first
        | exact wpAny_pure hQ
        | (refine wpAny_bind (wpAny_load ho ?_)
           rw[hc,hd]
           show wpAny M A (if (["enumerate","zip","dict_itemiterator","dict_reverseitemiterator","odict_iterator","itertools.zip_longest","itertools.pairwise"].contains n&&vs[0]? == some (rawInt _))=true then _ else _) Q E s
           rw[if_neg (by intro h;rw[hn,Bool.false_and] at h;cases h)]
           exact wpAny_pure hQ))
noncomputable def Itl(K:PySem.W.Frag)(a:Addr):It:=
  ⟨fun i H=>∃ xs x,SqL K H a xs∧xs[i]? = some x,fun i H x H'=>H'=H∧∀ xs,SqL K H a xs→xs[i]? = some x,fun i H=>∃ xs,SqL K H a xs∧xs.length≤i⟩
noncomputable def Itt(K:PySem.W.Frag)(a:Addr):It:=
  ⟨fun i H=>∃ xs x,SqT K H a xs∧xs[i]? = some x,fun i H x H'=>H'=H∧∀ xs,SqT K H a xs→xs[i]? = some x,fun i H=>∃ xs,SqT K H a xs∧xs.length≤i⟩
noncomputable def Itr(lo:Int)(n:Nat):It:=⟨fun i _=>i < n,fun i H x H'=>H'=H∧x = .int (lo+i),fun i _=>n≤i⟩
theorem Xk{P:Program}{w:World}{K:PySem.W.Frag}{tg:Expr}(a it:Addr):Turn P w K tg (Itl K a) [it] it (fun i h=>h.IsListIter it a i) where
  mem:=by simp
  obj:=fun i h st b hb=>by
    have e:b=it:=by simpa using hb
    subst e
    obtain ⟨o,e,c,d⟩:=st
    exact ⟨o,e,fun v z=>by rw[d] at z;cases z⟩
  keep:=fun i h h' st k=>st.at fun o e=>k it (by simp) o e
  item:=by
    intro X hP hw hK hc i pins s σ H E I hf st hg
    subst hP hw hK
    obtain ⟨xs,x,hq,hx⟩:=hg
    obtain ⟨its,rv,p,hz⟩:=I.list hq
    obtain ⟨u,hu,ru⟩:=rv.get hx
    obtain ⟨f0,f1,f2,f3,f4,f5⟩:=hf it (by simp)
    refine wpAny_pyNext_list_item st p.isList (x:=u) (by simpa using hu) fun h' st' sb=>?_
    have I1:Inv X pins σ H { s with heap:=h' }:=I.turned (t':=s.toks) (fun b o hb e=>(sb.2 b hb).trans e) f0 f1 f3 f4 f5
    obtain ⟨o,e,c,d⟩:=id st'
    exact ⟨u,rfl,Abv (s:={ s with heap:=h' }) e c d (by decide) ⟨x,H,I1,ru,⟨rfl,fun ys hy=>by rw[I.list_inj hy hq];exact hx⟩,st',fun b hb=>(hf b hb).1⟩⟩
  done:=by
    intro X hP hw hK hc i pins s σ H E I hf st hg
    subst hP hw hK
    obtain ⟨xs,hq,hx⟩:=hg
    obtain ⟨its,rv,p,hz⟩:=I.list hq
    obtain ⟨f0,f1,f2,f3,f4,f5⟩:=hf it (by simp)
    have hl:=rv.length
    exact wpAny_pyNext_list_end (I.ok.hd hc) st p.isList (by simp;omega) fun h' eb=>⟨rfl,I.turned (t':=s.toks) (fun b o hb e=>eb b o hb e) f0 f1 f3 f4 f5⟩
  self:=fun _ _ _ _ _ st h=>wpAny_pyIter_listiter st h
theorem Vz{P:Program}{w:World}{K:PySem.W.Frag}{tg:Expr}(a it:Addr):Turn P w K tg (Itt K a) [it] it (fun i h=>h.IsTupleIter it a i) where
  mem:=by simp
  obj:=fun i h st b hb=>by
    have e:b=it:=by simpa using hb
    subst e
    obtain ⟨o,e,c,d⟩:=st
    exact ⟨o,e,fun v z=>by rw[d] at z;cases z⟩
  keep:=fun i h h' st k=>st.at fun o e=>k it (by simp) o e
  item:=by
    intro X hP hw hK hc i pins s σ H E I hf st hg
    subst hP hw hK
    obtain ⟨xs,x,hq,hx⟩:=hg
    obtain ⟨its,rv,p,hz⟩:=I.tuple hq
    obtain ⟨u,hu,ru⟩:=rv.get hx
    obtain ⟨f0,f1,f2,f3,f4,f5⟩:=hf it (by simp)
    refine wpAny_pyNext_tuple_item st (show s.heap.IsTuple a its.toArray from p) (x:=u) (by simpa using hu) fun h' st' sb=>?_
    have I1:Inv X pins σ H { s with heap:=h' }:=I.turned (t':=s.toks) (fun b o hb e=>(sb.2 b hb).trans e) f0 f1 f3 f4 f5
    obtain ⟨o,e,c,d⟩:=id st'
    exact ⟨u,rfl,Abv (s:={ s with heap:=h' }) e c d (by decide) ⟨x,H,I1,ru,⟨rfl,fun ys hy=>by rw[I.tuple_inj hy hq];exact hx⟩,st',fun b hb=>(hf b hb).1⟩⟩
  done:=by
    intro X hP hw hK hc i pins s σ H E I hf st hg
    subst hP hw hK
    obtain ⟨xs,hq,hx⟩:=hg
    obtain ⟨its,rv,p,hz⟩:=I.tuple hq
    obtain ⟨f0,f1,f2,f3,f4,f5⟩:=hf it (by simp)
    have hl:=rv.length
    exact wpAny_pyNext_tuple_end (I.ok.hd hc) st (show s.heap.IsTuple a its.toArray from p) (by simp;omega) fun h' eb=>⟨rfl,I.turned (t':=s.toks) (fun b o hb e=>eb b o hb e) f0 f1 f3 f4 f5⟩
  self:=fun _ _ _ _ _ st h=>wpAny_pyIter_tupleiter st h
theorem Vt{P:Program}{w:World}{K:PySem.W.Frag}{tg:Expr}(it:Addr)(lo:Int)(n:Nat):Turn P w K tg (Itr lo n) [it] it (fun i h=>IsRangeIter h it (lo+(i:Nat) * 1) ((n:Int) - (i:Nat)) 1) where
  mem:=by simp
  obj:=fun i h st b hb=>by
    have e:b=it:=by simpa using hb
    subst e
    exact ⟨_,st,fun v z=>by
      have z':Data.fields _=Data.cell v:=z
      cases z'⟩
  keep:=fun i h h' st k=>k it (by simp) _ st
  item:=by
    intro X hP hw hK hc i pins s σ H E I hf st hg
    subst hP hw hK
    obtain ⟨f0,f1,f2,f3,f4,f5⟩:=hf it (by simp)
    have W:=Walks.range (prog:=X.prog) (w:=X.w) (I.ok.hd hc) it lo 1 n
    refine W.item i s _ _ hg st fun v h' tk hv st' kk=>?_
    obtain ⟨t,rfl⟩:=hv
    have I1:Inv X pins σ H { s with heap:=h',toks:=tk }:=I.turned (fun b o hb e=>kk b o (by simpa using hb) e) f0 f1 f3 f4 f5
    refine ⟨_,rfl,Abv (s:={ s with heap:=h',toks:=tk }) (n := "range_iterator") st' rfl rfl (by decide) ⟨.int (lo+i),H,I1,⟨t,?_⟩,⟨rfl,rfl⟩,st',fun b hb=>(hf b hb).1⟩⟩
    rw[Int.mul_one]
  done:=by
    intro X hP hw hK hc i pins s σ H E I hf st hg
    subst hP hw hK
    obtain ⟨f0,f1,f2,f3,f4,f5⟩:=hf it (by simp)
    exact wpAny_pyNext_range_end (I.ok.hd hc) st (by have:n≤i:=hg;omega) fun h' eb=>⟨rfl,I.turned (t':=s.toks) (fun b o hb e=>eb b o hb e) f0 f1 f3 f4 f5⟩
  self:=fun _ _ _ _ _ st h=>wpAny_pyIter_rangeiter st h
section
variable {X:Cx}{tg:Expr}
noncomputable def Ajt(K:PySem.W.Frag)(tl:TE):TI:=fun σ H R=>tl σ H fun x H1=>∃ a,x = .ref a∧(∃ xs,SqL K H1 a xs)∧R (Itl K a) H1
noncomputable def Akn(K:PySem.W.Frag)(tl:TE):TI:=fun σ H R=>tl σ H fun x H1=>∃ a,x = .ref a∧(∃ xs,SqT K H1 a xs)∧R (Itt K a) H1
theorem Aey{l:Expr}{tl:TE}(hl:PE X l tl):PI X tg l (Ajt X.K tl):=by
  intro pins s σ H R I h
  refine thn (hl pins s σ H _ I h) fun v s1 ⟨x,H1,I1,r1,q1⟩=>?_
  obtain ⟨a,e,⟨xs,hq⟩,q⟩:=q1
  subst e
  cases r1
  obtain ⟨its,rv,p,hz⟩:=I1.list hq
  refine wpAny_pyIter_list p.isList ?_
  refine ⟨s1.heap.objs.size,[s1.heap.objs.size],_,_,H1,rfl,I1.kept (t':=s1.toks) fun b o e=>Heap.get?_push_of_some _ e,Xk a _,⟨_,Heap.get?_push_size _ rfl,rfl,rfl⟩,fun b hb=>?_,q⟩
  have e:b=s1.heap.objs.size:=by simpa using hb
  subst e
  exact I1.fpOk (Nat.le_refl _) (I1.hok.fresh (Nat.le_refl _))
theorem Agy{l:Expr}{tl:TE}(hl:PE X l tl):PI X tg l (Akn X.K tl):=by
  intro pins s σ H R I h
  refine thn (hl pins s σ H _ I h) fun v s1 ⟨x,H1,I1,r1,q1⟩=>?_
  obtain ⟨a,e,⟨xs,hq⟩,q⟩:=q1
  subst e
  cases r1
  obtain ⟨its,rv,p,hz⟩:=I1.tuple hq
  refine wpAny_pyIter_tuple (show s1.heap.IsTuple a its.toArray from p) ?_
  refine ⟨s1.heap.objs.size,[s1.heap.objs.size],_,_,H1,rfl,I1.kept (t':=s1.toks) fun b o e=>Heap.get?_push_of_some _ e,Vz a _,⟨_,Heap.get?_push_size _ rfl,rfl,rfl⟩,fun b hb=>?_,q⟩
  have e:b=s1.heap.objs.size:=by simpa using hb
  subst e
  exact I1.fpOk (Nat.le_refl _) (I1.hok.fresh (Nat.le_refl _))
theorem Sv{pins:List (Addr×Obj)}{σ:St}{H:Hp}{s:Shared}{R:It→Hp→Prop}{E:Value→Shared→Prop}{lo hi:Int}{t u v:Tok}{tk:Nat}(I:Inv X pins σ H s)(h1:-(2 ^ 62)≤lo)(h2:lo < 2 ^ 62)(h3:-(2 ^ 62)≤hi)(h4:hi < 2 ^ 62)
    (q:R (Itr lo (hi - lo).toNat) H):wpAny (model X.prog X.w) X.A (pyIter (.ref s.heap.objs.size)) (PIE X pins σ tg R) E { s with heap:=s.heap.push { cls:=.type "range",data:=.fields #[.int lo t,.int hi u,.int 1 v] },toks:=tk }:=by
  refine wpAny_pyIter_range (IsRange.new ..) (small_one h1 h2 h3 h4) ?_
  have I1:Inv X pins σ H { s with heap:=s.heap.push { cls:=.type "range",data:=.fields #[.int lo t,.int hi u,.int 1 v] },toks:=tk }:=I.kept fun b o e=>Heap.get?_push_of_some _ e
  refine ⟨(s.heap.push { cls:=.type "range",data:=.fields #[.int lo t,.int hi u,.int 1 v] }).objs.size,[(s.heap.push { cls:=.type "range",data:=.fields #[.int lo t,.int hi u,.int 1 v] }).objs.size],_,_,H,rfl,
    I1.kept (t':=tk) fun b o e=>Heap.get?_push_of_some _ e,Vt _ lo (hi - lo).toNat,?_,fun b hb=>?_,q⟩
  · have e1:lo+((0:Nat):Int) * 1=lo:=by simp
    have e2:(((hi - lo).toNat:Nat):Int) - ((0:Nat):Int)=Builtin.Range.rangeSize lo hi 1:=by rw[rangeSize_one];split <;> omega
    show IsRangeIter _ _ (lo+((0:Nat):Int) * 1) ((((hi - lo).toNat:Nat):Int) - ((0:Nat):Int)) 1
    rw[e1,e2]
    exact Heap.get?_push_size _ rfl
  · have e:b=(s.heap.push { cls:=.type "range",data:=.fields #[.int lo t,.int hi u,.int 1 v] }).objs.size:=by simpa using hb
    subst e
    exact I1.fpOk (Nat.le_refl _) (I1.hok.fresh (Nat.le_refl _))
noncomputable def Aj2(ta:TA):TI:=fun σ H R=>ta σ H fun vs H1=>∃ j:Int,vs=[.int j]∧-(2 ^ 62)≤j∧j < 2 ^ 62∧R (Itr 0 j.toNat) H1
noncomputable def Ajg(ta:TA):TI:=fun σ H R=>ta σ H fun vs H1=>∃ i j:Int,vs=[.int i,.int j]∧(-(2 ^ 62)≤i∧i < 2 ^ 62∧-(2 ^ 62)≤j∧j < 2 ^ 62)∧R (Itr i (j - i).toNat) H1
theorem Xm{a:Expr}{ta:TA}{p pos:Pos}(hg:Gl X "range")(hm:X.mg "range" = none)(ha:PA X [a] ta)(hs:starEach [a] X.env=[(false,eval a X.env)]:=by rfl):PI X tg (.Call (.Name "range" p) [a] [] pos) (Aj2 ta):=by
  intro pins s σ H R I h
  refine Call_ (Gg I hg hm boot_range (PyProof.Rows.callWith_type1 (thn (ha pos pins s σ H _ I h) fun us s1 ⟨vs,H1,I1,r1,q1⟩=>?_) hs rfl))
  obtain ⟨j,e,q1,q2,q⟩:=q1
  subst e
  cases r1 with
  | cons r rr=>
    cases rr
    obtain ⟨t,rfl⟩:=r
    exact call_range_1 (Sv I1 (by omega) (by omega) q1 q2 (by simpa using q))
theorem Yt{a b:Expr}{ta:TA}{p pos:Pos}(hg:Gl X "range")(hm:X.mg "range" = none)(ha:PA X [a,b] ta)(hs:starEach [a,b] X.env=[(false,eval a X.env),(false,eval b X.env)]:=by rfl)(hs2:starEach [b] X.env=[(false,eval b X.env)]:=by rfl) :
    PI X tg (.Call (.Name "range" p) [a,b] [] pos) (Ajg ta):=by
  intro pins s σ H R I h
  refine Call_ (Gg I hg hm boot_range (PyProof.Rows.callWith_type1 (thn (ha pos pins s σ H _ I h) fun us s1 ⟨vs,H1,I1,r1,q1⟩=>?_) (by rw[hs,hs2]) (by rw[hs2];rfl)))
  obtain ⟨i,j,e,⟨q1,q2,q3,q4⟩,q⟩:=q1
  subst e
  cases r1 with
  | cons r rr=>
    cases rr with
    | cons r' rr=>
      cases rr
      obtain ⟨t,rfl⟩:=r
      obtain ⟨t',rfl⟩:=r'
      exact call_range_2 (Sv I1 q1 q2 q3 q4 q)
noncomputable def Ak3(wi:TI)(g:TG)(tb:TS):TS:=fun D σ H=>wi σ H fun J H1=>∃ W:Nat→Nat→St→Hp→Prop,(∃ m,W 0 m σ H1)∧∀ i m σ H,W i m σ H →
  (J.stop i H∧D.nx σ H)∨(J.go i H∧∃ N:St→Hp→Prop,(∀ σ' H',N σ' H'→∃ m',m' < m∧W (i+1) m' σ' H')∧∀ x H',J.yld i H x H'→g x σ H' fun σ2 H2=>tb { D with nx:=N,ct:=N,bk:=D.nx } σ2 H2)
noncomputable def Ob(fp:List Addr)(h:Heap):List (Addr×Obj):=fp.filterMap fun b=>(h.get? b).map fun o=>(b,o)
theorem Jj{fp:List Addr}{h:Heap}{b:Addr}{o:Obj}(hb:b∈fp)(e:h.get? b=some o):(b,o)∈Ob fp h:=List.mem_filterMap.mpr ⟨b,hb,by rw[e];rfl⟩
theorem Yn{fp:List Addr}{h:Heap}{p:Addr×Obj}(hp:p∈Ob fp h):p.1∈fp∧h.get? p.1=some p.2:=by
  obtain ⟨b,hb,e⟩:=List.mem_filterMap.mp hp
  cases q:h.get? b with
  | none=>rw[q] at e;cases e
  | some o=>
    rw[q] at e
    have e':(b,o)=p:=Option.some.inj e
    subst e'
    exact ⟨hb,q⟩
theorem Inv.pinned{pins:List (Addr×Obj)}{σ:St}{H:Hp}{s:Shared}{fp:List Addr}(I:Inv X pins σ H s)(hf:∀ b∈fp,Km X pins H b)(ho:∀ b∈fp,∃ o,s.heap.get? b=some o∧∀ v,o.data≠.cell v):Inv X (pins++Ob fp s.heap) σ H s:=
  I.pins_of fun p hp=>(List.mem_append.mp hp).elim (fun z=>I.pin p (List.mem_append_right _ z)) fun z=>by
    obtain ⟨hb,e⟩:=Yn z
    obtain ⟨f0,f1,f2,_⟩:=hf p.1 hb
    obtain ⟨o,e',d⟩:=ho p.1 hb
    rw[e] at e';cases e'
    exact ⟨e,f0,f1,f2,d⟩
theorem Inv.unpinned{pins pl:List (Addr×Obj)}{σ:St}{H:Hp}{s:Shared}(I:Inv X (pins++pl) σ H s):Inv X pins σ H s:=I.pins_of fun p hp=>I.pin p (List.mem_append_right _ (List.mem_append_left _ hp))
theorem Aij{iter:Expr}{body:List Stmt}{wi:TI}{g:TG}{tb:TS}{pos:Pos}(hp:PassesOwn (model X.prog X.w) X.A X.env X.xe)(hc:X.calm=true)(hi:PI X tg iter wi)(hg:PG X tg g)(hb:PSs X body tb)
    (hs:∀ x,foldedSetIterable iter X.env x=pure x:=by intro _;rfl):PS X (.For tg iter body [] pos) (Ak3 wi g tb):=by
  intro pins s σ H D I h
  refine wpAny_For (thn (hi pins s σ H _ I h) fun v s1 h1=>thn h1 fun itv s2 h2=>?_) hs
  obtain ⟨it,fp,tn,J,H2,e,I2,T,st2,f2,W,⟨m0,w0⟩,turn⟩:=h2
  subst e
  have stat:∀ {H':Hp},(∀ b∈fp,H' b=none)→∀ b∈fp,Km X pins H' b:=fun hn b hb=>⟨hn b hb,(f2 b hb).2⟩
  refine codeAny_forLoop_any (fun n s'=>∃ i σ' H',Inv X pins σ' H' s'∧tn i s'.heap∧(∀ b∈fp,H' b=none)∧W i n σ' H') ?_ m0 ⟨0,σ,H2,I2,st2,fun b hb=>(f2 b hb).1,w0⟩
  rintro n s3 ⟨i,σ3,H3,I3,st3,fr3,w3⟩
  rcases turn i n σ3 H3 w3 with ⟨stop,qn⟩ | ⟨go,N,hN,step⟩
  · refine wpAny_passesOwn hp (thn (T.done X rfl rfl rfl hc i pins s3 σ3 H3 X.xe I3 (stat fr3) st3 stop) fun r s4 ⟨hr,I4⟩=>?_)
    subst hr
    exact wpAny_execs_nil ⟨σ3,H3,I4,qn⟩
  · refine wpAny_passesOwn hp (thn (T.item X rfl rfl rfl hc i pins s3 σ3 H3 X.xe I3 (stat fr3) st3 go) fun r s4 ⟨u,hr,h4⟩=>?_)
    subst hr
    refine wpAny_passesOwn hp (thn h4 fun _ s5 ⟨x,H5,I5,r5,y5,st5,fr5⟩=>?_)
    have I5':=I5.pinned (stat fr5) (T.obj _ _ st5)
    refine wpAny_passesOwn hp (thn (hg _ s5 σ3 H5 x u _ I5' r5 (step x H5 y5)) fun _ s6 ⟨σ6,H6,I6,q6⟩=>?_)
    refine wpAny_passesOwn hp (thn (hb _ s6 σ6 H6 _ I6 q6) fun f s7 q7=>?_)
    have again:∀ {σ7:St} {H7:Hp},Inv X (pins++Ob fp s5.heap) σ7 H7 s7→N σ7 H7→∃ m,m < n∧∃ i σ' H',Inv X pins σ' H' s7∧tn i s7.heap∧(∀ b∈fp,H' b=none)∧W i m σ' H':=fun {σ7 H7} I7 n7=>by
      obtain ⟨m',hm,w7⟩:=hN σ7 H7 n7
      refine ⟨m',hm,i+1,σ7,H7,I7.unpinned,T.keep _ _ _ st5 fun b hb o e=>(I7.pin (b,o) (List.mem_append_right _ (List.mem_append_right _ (Jj hb e)))).1,fun b hb=>?_,w7⟩
      obtain ⟨o,e,d⟩:=T.obj _ _ st5 b hb
      exact (I7.pin (b,o) (List.mem_append_right _ (List.mem_append_right _ (Jj hb e)))).2.1
    cases f with
    | next=>obtain ⟨σ7,H7,I7,n7⟩:=q7;exact again I7 n7
    | cont=>obtain ⟨σ7,H7,I7,n7⟩:=q7;exact again I7 n7
    | brk=>obtain ⟨σ7,H7,I7,q7⟩:=q7;exact ⟨σ7,H7,I7.unpinned,q7⟩
    | ret v=>obtain ⟨x7,σ7,H7,I7,r7,q7⟩:=q7;exact ⟨x7,σ7,H7,I7.unpinned,r7,q7⟩
end
noncomputable abbrev R2:=V→V→Hp→VK→Prop
noncomputable def OpR(X:Cx)(f:Value→Value→Sem Value)(r:R2):Prop:=
  ∀ (pins:List (Addr×Obj)) (s:Shared) (σ:St) (H:Hp) (x y:V) (v u:Value) (Q:VK),Inv X pins σ H s→RelV x v→RelV y u→r x y H Q →
    wpAny (model X.prog X.w) X.A (f v u) (EP X pins σ Q) X.xe s
noncomputable def UnR(X:Cx)(f:Value→Sem Value)(r:V→Hp→VK→Prop):Prop:=
  ∀ (pins:List (Addr×Obj)) (s:Shared) (σ:St) (H:Hp) (x:V) (v:Value) (Q:VK),Inv X pins σ H s→RelV x v→r x H Q →
    wpAny (model X.prog X.w) X.A (f v) (EP X pins σ Q) X.xe s
noncomputable def CallR(X:Cx)(f:Value)(r:List V→Hp→VK→Prop):Prop:=
  ∀ (pins:List (Addr×Obj)) (s:Shared) (σ:St) (H:Hp) (xs:List V) (us:List Value) (Q:VK),Inv X pins σ H s→Vals xs us→r xs H Q →
    wpAny (model X.prog X.w) X.A (call f us) (EP X pins σ Q) X.xe s
noncomputable def Aks(X:Cx)(r:V→Hp→(Bool→Hp→Prop)→Prop):Prop:=
  ∀ (pins:List (Addr×Obj)) (s:Shared) (σ:St) (H:Hp) (x:V) (v:Value) (Q:Bool→Hp→Prop),Inv X pins σ H s→RelV x v→r x H Q →
    wpAny (model X.prog X.w) X.A (truthy v) (TP X pins σ Q) X.xe s
noncomputable def tOp(r:R2)(ta tb:TE):TE:=fun σ H Q=>ta σ H fun x H1=>tb σ H1 fun y H2=>r x y H2 Q
noncomputable def tUn(r:V→Hp→VK→Prop)(ta:TE):TE:=fun σ H Q=>ta σ H fun x H1=>r x H1 Q
noncomputable def rI(C:Int→Int→Prop)(g:Int→Int→V):R2:=fun x y H Q=>∃ i j,x = .int i∧y = .int j∧C i j∧Q (g i j) H
noncomputable def rI0(g:Int→Int→V):R2:=fun x y H Q=>∃ i j,x = .int i∧y = .int j∧Q (g i j) H
noncomputable def rU(g:Int→V):V→Hp→VK→Prop:=fun x H Q=>∃ i,x = .int i∧Q (g i) H
section
variable {X:Cx}{a b c:Expr}{ta tb tc:TE}{pos:Pos}
theorem Ah4(ha:PE X a ta)(hb:PE X b tb){pins:List (Addr×Obj)}{s:Shared}{σ:St}{H:Hp}{R:V→V→Hp→Prop}(I:Inv X pins σ H s)
    (h:ta σ H fun x H1=>tb σ H1 fun y H2=>R x y H2) {Q:Value→Shared→Prop} {f:Value→Value→Sem Value}
    (hf:∀ v u s2 x y H2,Inv X pins σ H2 s2→RelV x v→RelV y u→R x y H2→wpAny (model X.prog X.w) X.A (f v u) Q X.xe s2) :
    wpAny (model X.prog X.w) X.A (eval a X.env) (fun v s₁=>wpAny (model X.prog X.w) X.A (eval b X.env) (fun u s₂=>wpAny (model X.prog X.w) X.A (f v u) Q X.xe s₂) X.xe s₁) X.xe s:=by
  refine thn (ha pins s σ H _ I h) fun v s1 ⟨x,H1,I1,r1,q1⟩=>?_
  refine thn (hb pins s1 σ H1 _ I1 q1) fun u s2 ⟨y,H2,I2,r2,q2⟩=>?_
  exact hf v u s2 x y H2 I2 r1 r2 q2
theorem Ajd{op:Operator}{r:R2}(ho:OpR X (binaryOp op) r)(ha:PE X a ta)(hb:PE X b tb):PE X (.BinOp a op b pos) (tOp r ta tb):=by
  intro pins s σ H Q I h
  exact wpAny_BinOp (Ah4 ha hb I h fun v u s2 x y H2 I2 rx ry q=>ho pins s2 σ H2 x y v u Q I2 rx ry q)
theorem Ais{op:UnaryOp}{r:V→Hp→VK→Prop}(ho:UnR X (unaryOp op) r)(ha:PE X a ta):PE X (.UnaryOp op a pos) (tUn r ta):=by
  intro pins s σ H Q I h
  exact UnaryOp_ (thn (ha pins s σ H _ I h) fun v s1 ⟨x,H1,I1,r1,q1⟩=>ho pins s1 σ H1 x v Q I1 r1 q1)
theorem opI{f:Value→Value→Sem Value}{C:Int→Int→Prop}{g:Int→Int→Int}
    (rule:∀ (i j:Int) (t u:Tok) (s:Shared) (Q:Value→Shared→Prop) (E:Value→Shared→Prop),C i j→Q (.int (g i j) s.toks) { s with toks:=s.toks+1 }→wpAny (model X.prog X.w) X.A (f (.int i t) (.int j u)) Q E s) :
    OpR X f (rI C fun i j=>.int (g i j)):=by
  intro pins s σ H x y v u Q I rx ry h
  obtain ⟨i,j,rfl,rfl,hc,q⟩:=h
  obtain ⟨t,rfl⟩:=rx
  obtain ⟨t',rfl⟩:=ry
  exact rule i j t t' s _ _ hc ⟨.int (g i j),H,I.tok _,⟨_,rfl⟩,q⟩
theorem Af4{f:Value→Value→Sem Value}{g:Int→Int→Int}
    (rule:∀ (i j:Int) (t u:Tok) (s:Shared) (Q:Value→Shared→Prop) (E:Value→Shared→Prop),Q (.int (g i j) s.toks) { s with toks:=s.toks+1 }→wpAny (model X.prog X.w) X.A (f (.int i t) (.int j u)) Q E s) :
    OpR X f (rI0 fun i j=>.int (g i j)):=by
  intro pins s σ H x y v u Q I rx ry h
  obtain ⟨i,j,rfl,rfl,q⟩:=h
  obtain ⟨t,rfl⟩:=rx
  obtain ⟨t',rfl⟩:=ry
  exact rule i j t t' s _ _ ⟨.int (g i j),H,I.tok _,⟨_,rfl⟩,q⟩
theorem Adp{f:Value→Value→Sem Value}{g:Int→Int→Bool}
    (rule:∀ (i j:Int) (t u:Tok) (s:Shared) (Q:Value→Shared→Prop) (E:Value→Shared→Prop),Q (.bool (g i j)) s→wpAny (model X.prog X.w) X.A (f (.int i t) (.int j u)) Q E s) :
    OpR X f (rI0 fun i j=>.bl (g i j)):=by
  intro pins s σ H x y v u Q I rx ry h
  obtain ⟨i,j,rfl,rfl,q⟩:=h
  obtain ⟨t,rfl⟩:=rx
  obtain ⟨t',rfl⟩:=ry
  exact rule i j t t' s _ _ ⟨.bl (g i j),H,I,rfl,q⟩
noncomputable def Ajk(i j:Int):Prop:=0≤j∧j≤1000000∧i.natAbs < 2 ^ 64
noncomputable def CMul(i j:Int):Prop:=(-(2 ^ 64) < i∧i < 2 ^ 64)∨(-(2 ^ 64) < j∧j < 2 ^ 64)
theorem CMul.ok{i j:Int}(h:CMul i j):IntMulOk i j:=by
  rcases h with ⟨h1,h2⟩ | ⟨h1,h2⟩
  · exact .of_left (intBits_le_64 h1 h2)
  · exact .of_right (intBits_le_64 h1 h2)
theorem Aic:OpR X (binaryOp .Add) (rI0 fun i j=>.int (i+j)):=Af4 fun _ _ _ _ _ _ _ q=>add_int q
theorem Ep:OpR X (binaryOp .Sub) (rI0 fun i j=>.int (i - j)):=Af4 fun _ _ _ _ _ _ _ q=>sub_int q
theorem Ag1:OpR X (binaryOp .Mult) (rI CMul fun i j=>.int (i * j)):=opI fun _ _ _ _ _ _ _ hc q=>mul_int q hc.ok
theorem J4:OpR X (binaryOp .Mod) (rI (fun _ j=>0 < j) fun i j=>.int (i % j)):=opI fun i j _ _ _ _ _ hc q=>by
  have h1:(0:Int) < j:=hc
  exact mod_int' (by omega) (by rw[Int.fmod_eq_emod_of_nonneg i (by omega)];exact q)
theorem Op:OpR X (binaryOp .Pow) (rI Ajk fun i j=>.int (i ^ j.toNat)):=opI fun _ _ _ _ _ _ _ hc q=>pow_int_small hc.1 hc.2.1 hc.2.2 q
theorem Abl:OpR X (binaryOp .BitAnd) (rI0 fun i j=>.int (Builtin.bitAnd i j)):=Af4 fun _ _ _ _ _ _ _ q=>and_int q
theorem unI{f:Value→Sem Value}{g:Int→Int}
    (rule:∀ (i:Int) (t:Tok) (s:Shared) (Q:Value→Shared→Prop) (E:Value→Shared→Prop),Q (.int (g i) s.toks) { s with toks:=s.toks+1 }→wpAny (model X.prog X.w) X.A (f (.int i t)) Q E s) :
    UnR X f (rU fun i=>.int (g i)):=by
  intro pins s σ H x v Q I rx h
  obtain ⟨i,rfl,q⟩:=h
  obtain ⟨t,rfl⟩:=rx
  exact rule i t s _ _ ⟨.int (g i),H,I.tok _,⟨_,rfl⟩,q⟩
theorem Af9:UnR X (unaryOp .USub) (rU fun i=>.int (-i)):=unI fun _ _ _ _ _ q=>neg_int q
end
section
variable {X:Cx}{a b c:Expr}{ta tb tc:TE}{pos:Pos}
theorem Ahg{pins:List (Addr×Obj)}{σ:St}{H:Hp}{s:Shared}{Q:VK}{k k':Bool}(I:Inv X pins σ H s)(q:Q (.bl k) H)(e:k=k'):EP X pins σ Q (.bool k') s:=by
  subst e
  exact ⟨.bl k,H,I,rfl,q⟩
theorem Wm:OpR X (compareOp .Lt) (rI0 fun i j=>.bl (decide (i < j))):=Adp fun _ _ _ _ _ _ _ q=>lt_int q
theorem Afy:OpR X (compareOp .LtE) (rI0 fun i j=>.bl (decide (i≤j))):=Adp fun _ _ _ _ _ _ _ q=>le_int q
theorem Sq:OpR X (compareOp .Gt) (rI0 fun i j=>.bl (decide (j < i))):=Adp fun _ _ _ _ _ _ _ q=>gt_int q
theorem Abp:OpR X (compareOp .GtE) (rI0 fun i j=>.bl (decide (j≤i))):=Adp fun _ _ _ _ _ _ _ q=>ge_int q
theorem Agt:OpR X (compareOp .Is) (fun x y H Q=>y = .non∧Q (.bl (decide (x = .non))) H):=by
  intro pins s σ H x y v u Q I rx ry h
  obtain ⟨rfl,q⟩:=h
  cases ry
  refine is_none_gen (Ahg I q ?_)
  cases x <;> first
    | (cases rx;rfl)
    | (obtain ⟨t,rfl⟩:=rx;rfl)
theorem OpR.or{f:Value→Value→Sem Value}{r r':R2}(h:OpR X f r)(h':OpR X f r'):OpR X f (fun x y H Q=>r x y H Q∨r' x y H Q):=by
  intro pins s σ H x y v u Q I rx ry q
  rcases q with q | q
  · exact h pins s σ H x y v u Q I rx ry q
  · exact h' pins s σ H x y v u Q I rx ry q
theorem Bg(b:Expr){op:CmpOp}(h:op≠.In:=by decide)(h2:op≠.NotIn:=by decide):behindInMarks op b=false:=by
  have e1:(op == CmpOp.In)=false:=by cases op <;> first | rfl | exact absurd rfl h
  have e2:(op == CmpOp.NotIn)=false:=by cases op <;> first | rfl | exact absurd rfl h2
  cases b <;> simp[behindInMarks,e1,e2]
theorem Adv{op:CmpOp}{r:R2}(ho:OpR X (compareOp op) r)(ha:PE X a ta)(hb:PE X b tb)(hm:behindInMarks op b=false):PE X (.Compare a [op] [b] pos) (tOp r ta tb):=by
  intro pins s σ H Q I h
  exact wpAny_Compare1 (Ah4 ha hb I h fun v u s2 x y H2 I2 rx ry q=>ho pins s2 σ H2 x y v u Q I2 rx ry q) hm
noncomputable def Afr(t:TE):TT:=fun σ H Q=>t σ H fun x H'=>∃ k,x = .bl k∧Q k H'
theorem Adw{op:CmpOp}{r:R2}(ho:OpR X (compareOp op) r)(ha:PE X a ta)(hb:PE X b tb)(hm:behindInMarks op b=false):PT X (.Compare a [op] [b] pos) (Afr (tOp r ta tb)):=by
  intro pins s σ H Q I h
  refine wpAny_isTrue_Compare1 (thn (ha pins s σ H _ I h) fun v s1 ⟨x,H1,I1,r1,q1⟩=>thn (hb pins s1 σ H1 _ I1 q1) fun u s2 ⟨y,H2,I2,r2,q2⟩=>
    thn (ho pins s2 σ H2 x y v u _ I2 r1 r2 q2) fun c s3 ⟨z,H3,I3,r3,k,e,q3⟩=>?_) hm
  subst e
  cases r3
  exact wpAny_truthy_bool ⟨H3,I3,q3⟩
noncomputable def Ah5(K:PySem.W.Frag)(x:V)(H:Hp)(k:Bool):Prop:=
  match x with
  | .non=>k=false
  | .bl b=>k=b
  | .int i=>k=(i != 0)
  | .str y=>y.length≤sizeLine∧k=((y.length:Int) != 0)
  | .byt y=>y.size≤sizeLine∧k=((y.size:Int) != 0)
  | .ref p=>(∃ xs,SqL K H p xs∧k = !xs.isEmpty)∨(∃ xs,SqT K H p xs∧k = !xs.isEmpty)∨∃ kvs,H p=some (.dK kvs)∧k = !kvs.isEmpty
  | _=>False
theorem Vm{κ:Type}{kvs:List (κ×V)}{vs:List (κ×Value)}(r:KV kvs vs):(!vs.isEmpty) = !kvs.isEmpty:=by
  cases r <;> rfl
theorem Pa{xs:List V}{its:List Value}(r:Vals xs its):(!its.toArray.isEmpty) = !xs.isEmpty:=by
  cases r <;> simp
theorem Mm:(sizeLine:Nat) < 2 ^ 63:=by rw[sizeLine_eq];decide
theorem Ahe:Aks X (fun x H Q=>∃ k,Ah5 X.K x H k∧Q k H):=by
  intro pins s σ H x v Q I rx h
  obtain ⟨k,e,q⟩:=h
  have hl:=Mm
  have hs:sizeLine=16777216:=sizeLine_eq
  cases x with
  | non=>
    cases rx
    have e':k=false:=e
    subst e'
    exact truthy_none ⟨H,I,q⟩
  | bl b=>
    cases rx
    have e':k=b:=e
    subst e'
    exact wpAny_truthy_bool ⟨H,I,q⟩
  | int i=>
    obtain ⟨t,rfl⟩:=rx
    have e':k=(i != 0):=e
    subst e'
    exact PySem.P.truthy_int ⟨H,I,q⟩
  | str y=>
    obtain ⟨t,rfl⟩:=rx
    obtain ⟨hy,e'⟩:y.length≤sizeLine∧k=((y.length:Int) != 0):=e
    subst e'
    exact PySem.P.truthy_str (by omega) ⟨H,I.tok _,q⟩
  | byt y=>
    obtain ⟨t,rfl⟩:=rx
    obtain ⟨hy,e'⟩:y.size≤sizeLine∧k=((y.size:Int) != 0):=e
    subst e'
    exact PySem.W.truthy_bytes (by omega) ⟨H,I.tok _,q⟩
  | ref p=>
    cases rx
    have e':(∃ xs,SqL X.K H p xs∧k = !xs.isEmpty)∨(∃ xs,SqT X.K H p xs∧k = !xs.isEmpty)∨∃ kvs,H p=some (.dK kvs)∧k = !kvs.isEmpty:=e
    rcases e' with ⟨xs,hx,e'⟩ | ⟨xs,hx,e'⟩ | ⟨kvs,hx,e'⟩
    · subst e'
      obtain ⟨its,r,pl,hz⟩:=I.list hx
      have hlen:=r.length
      exact wpAny_truthy_list pl.isList (by simp only[List.size_toArray];omega) ⟨H,I.tok _,by rw[Pa r];exact q⟩
    · subst e'
      obtain ⟨its,r,pl,hz⟩:=I.tuple hx
      have hlen:=r.length
      exact truthy_tuple pl (by simp only[List.size_toArray];omega) ⟨H,I.tok _,by rw[Pa r];exact q⟩
    · subst e'
      obtain ⟨hz,hS,vs,r,m⟩:kvs.length≤sizeLine∧(p == sysModules)=false∧∃ vs,KV kvs vs∧s.heap.DictOf (Ee X.prog X.w) p vs:=I.hok p _ hx
      have hlen:kvs.length=vs.length:=Paired.length r
      exact wpAny_truthy_dict hS m (by omega) ⟨H,I.tok _,by rw[Vm r];exact q⟩
  | _=>exact (show False from e).elim
theorem Abm(ha:PE X a ta)(he:∀ whole,isTrue a X.env whole=(do let v ← whole;standAt a.pos;holding [v] (truthy v))) :
    PT X a (fun σ H Q=>ta σ H fun x H'=>∃ k,Ah5 X.K x H' k∧Q k H'):=by
  intro pins s σ H Q I h
  exact isTrue_plain (thn (ha pins s σ H _ I h) fun v s1 ⟨x,H1,I1,r1,q1⟩=>Ahe pins s1 σ H1 x v Q I1 r1 q1) (he _)
theorem Va:OpR X (binaryOp .Add) (fun x y H Q=>∃ i j,x = .str i∧y = .str j∧i.length+j.length≤sizeLine∧Q (.str (i++j)) H):=by
  intro pins s σ H x y v u Q I rx ry h
  obtain ⟨i,j,rfl,rfl,hz,q⟩:=h
  obtain ⟨t,rfl⟩:=rx
  obtain ⟨t',rfl⟩:=ry
  exact add_str (fun t' tk=>⟨.str (i++j),H,I.tok _,⟨_,rfl⟩,q⟩) hz
theorem Ij{x:V}{us:List Value}(r:Vals [x] us):∃ u,us=[u]∧RelV x u:=by
  cases r with
  | cons r1 r2=>cases r2;exact ⟨_,rfl,r1⟩
theorem Wf{x y:V}{us:List Value}(r:Vals [x,y] us):∃ u w',us=[u,w']∧RelV x u∧RelV y w':=by
  cases r with
  | cons r1 r2=>
    cases r2 with
    | cons r3 r4=>cases r4;exact ⟨_,_,rfl,r1,r3⟩
theorem Abw:CallR X (.builtin "abs") (fun xs H Q=>∃ i,xs=[.int i]∧Q (.int (if i < 0 then -i else i)) H):=by
  intro pins s σ H xs us Q I r h
  obtain ⟨i,rfl,q⟩:=h
  obtain ⟨u,rfl,t,rfl⟩:=Ij r
  exact call_abs_int fun u tk=>⟨.int (if i < 0 then -i else i),H,I.tok _,⟨_,rfl⟩,q⟩
theorem Xo(hc:X.calm=true):CallR X (.builtin "max") (fun xs H Q=>∃ i j,xs=[.int i,.int j]∧Q (.int (if j > i then j else i)) H):=by
  intro pins s σ H xs us Q I r h
  obtain ⟨i,j,rfl,q⟩:=h
  obtain ⟨u,w',rfl,⟨t,rfl⟩,⟨t',rfl⟩⟩:=Wf r
  refine max_two_ints (I.ok.hd hc) fun h' tk k=>⟨_,H,I.kept k,?_,q⟩
  by_cases hj:j > i
  · rw[if_pos hj,if_pos hj];exact ⟨_,rfl⟩
  · rw[if_neg hj,if_neg hj];exact ⟨_,rfl⟩
theorem Qj:CallR X (.type "int") (fun xs H Q=>(∃ i,xs=[.int i]∧Q (.int i) H)∨∃ k,xs=[.bl k]∧Q (.int (if k then 1 else 0)) H):=by
  intro pins s σ H xs us Q I r h
  rcases h with ⟨i,rfl,q⟩ | ⟨k,rfl,q⟩
  · obtain ⟨u,rfl,t,rfl⟩:=Ij r
    exact call_int_int ⟨.int i,H,I,⟨_,rfl⟩,q⟩
  · obtain ⟨u,rfl,r1⟩:=Ij r
    cases r1
    exact call_int_bool ⟨.int (if k then 1 else 0),H,I.tok _,⟨_,rfl⟩,q⟩
noncomputable def Ajl(K:PySem.W.Frag)(x:V)(H:Hp)(n:Nat):Prop:=
  match x with
  | .str y=>y.length≤sizeLine∧n=y.length
  | .byt y=>y.size≤sizeLine∧n=y.size
  | .ref p=>(∃ xs,SqL K H p xs∧n=xs.length)∨∃ xs,SqT K H p xs∧n=xs.length
  | _=>False
theorem Dt:CallR X (.builtin "len") (fun xs H Q=>∃ x n,xs=[x]∧Ajl X.K x H n∧Q (.int n) H):=by
  intro pins s σ H xs us Q I r h
  obtain ⟨x,n,rfl,e,q⟩:=h
  obtain ⟨u,rfl,rx⟩:=Ij r
  have hl:=Mm
  have hs:sizeLine=16777216:=sizeLine_eq
  cases x with
  | str y=>
    obtain ⟨t,rfl⟩:=rx
    obtain ⟨hy,e'⟩:y.length≤sizeLine∧n=y.length:=e
    subst e'
    exact len_str (by omega) ⟨.int _,H,I.tok _,⟨_,rfl⟩,q⟩
  | byt y=>
    obtain ⟨t,rfl⟩:=rx
    obtain ⟨hy,e'⟩:y.size≤sizeLine∧n=y.size:=e
    subst e'
    exact PySem.W.len_bytes (by omega) ⟨.int _,H,I.tok _,⟨_,rfl⟩,q⟩
  | ref p=>
    cases rx
    have e':(∃ xs,SqL X.K H p xs∧n=xs.length)∨∃ xs,SqT X.K H p xs∧n=xs.length:=e
    rcases e' with ⟨xs,hx,e'⟩ | ⟨xs,hx,e'⟩
    · subst e'
      obtain ⟨its,r',pl,hz⟩:=I.list hx
      have hlen:=r'.length
      exact Calls.call_len_list pl.isList (by simp only[List.size_toArray];omega) ⟨.int xs.length,H,I.tok _,⟨_,by simp only[List.size_toArray];rw[hlen]⟩,q⟩
    · subst e'
      obtain ⟨its,r',pl,hz⟩:=I.tuple hx
      have hlen:=r'.length
      exact len_tuple pl (by simp only[List.size_toArray];omega) ⟨.int xs.length,H,I.tok _,⟨_,by simp only[List.size_toArray];rw[hlen]⟩,q⟩
  | _=>exact (show False from e).elim
end
structure ObjM(h:Heap)(x dx C:Addr)(mA:Str→Option Value):Prop where
  obj:h.get? x=some (PySem.W.instObj C dx)
  ns:h.Ns1 dx mA
  ne:dx≠x
theorem Xn{h:Heap}{dx:Addr}{mA:Str→Option Value}(n:h.Ns1 dx mA):∃ od,h.get? dx=some od∧∀ name,PySem.W.lookIn name od=some (mA name):=by
  obtain ⟨o,es,ep,ho,hd,hk,_,hm⟩:=n
  refine ⟨o,ho,fun name=>?_⟩
  have e:=hm name
  unfold nsFind findBy at e
  rw[← Array.find?_toList] at e
  unfold PySem.W.lookIn
  rw[hd]
  dsimp only
  split
  · rename_i y q
    rw[q] at e
    exact congrArg some e
  · rename_i q
    rw[q] at e
    have a:es.toList.any (·.refKey)=false:=by
      rw[List.any_eq_false]
      intro y hy
      obtain ⟨z,t,hkey⟩:=hk y (Array.mem_toList_iff.mp hy)
      simp[DictEntry.refKey,hkey]
    have a':¬ es.toList.any (·.refKey)=true:=by rw[a];exact Bool.false_ne_true
    rw[if_neg a']
    exact congrArg some e
theorem ObjM.look{h:Heap}{x dx C:Addr}{mA:Str→Option Value}(I:ObjM h x dx C mA):∃ od,PySem.W.InstAt h x (PySem.W.instObj C dx) C (some od)∧∀ name,PySem.W.lookIn name od=some (mA name):=
  let ⟨od,ho,hl⟩:=Xn I.ns
  ⟨od,⟨I.obj,rfl,rfl,ho⟩,hl⟩
section
variable {prog:Program}{w:World}{A:Around}{E:Value→Shared→Prop}{s:Shared}{K:PySem.W.Frag}{x dx C f:Addr}{mA:Str→Option Value}{name:Str}{v:Value}
theorem Aen{expr:Bool}{Q:Value→Shared→Prop}(X:K.In s.heap)(I:ObjM s.heap x dx C mA)(hg:PySem.W.plainGet K C name=true)(hh:PySem.W.hasDictIn K C=true)
    (ha:PySem.W.findIn K (.ref C) name=some none) (hv:mA name=some v) (hv':PySem.W.handedIn v=true) (h:Q v { s with toks:=s.toks+1 }) :
    wpAny (model prog w) A (getAttr (.ref x) name expr) Q E s:=by
  obtain ⟨od,J,hl⟩:=I.look
  exact PySem.W.get_value X J (PySem.W.plainGet_of hg).1 (PySem.W.findObj_own hh ha rfl (by rw[hl,hv])) hv' h
theorem Aag{pl:Sem Bool}{Q:Value×List Value→Shared→Prop}(X:K.In s.heap)(I:ObjM s.heap x dx C mA)(hg:PySem.W.plainGet K C name=true)
    (hf:PySem.W.findIn K (.ref C) name=some (some (.ref f))) (ht:PySem.W.isFn K (.ref f)=true) (hv:mA name=none) (h:Q (.ref f,[.ref x]) s) :
    wpAny (model prog w) A (getMethod (.ref x) name pl) Q E s:=by
  obtain ⟨od,J,hl⟩:=I.look
  exact PySem.W.method_fn X J (PySem.W.plainGet_of hg).1 (PySem.W.plainGet_of hg).2 hf (beq_iff_eq.mp ht) (by show (PySem.W.lookIn name od).map (·.isSome)=some false;rw[hl,hv];rfl) h
theorem Ad4{ns:List Str}{Q:Unit→Shared→Prop}(X:K.In s.heap)(I:ObjM s.heap x dx C mA)
    (hs:PySem.W.findIn K (.ref C) "__setattr__" = some (some (.builtin "object.__setattr__"))) (hp:PySem.W.plainOver K C=true) (ht:PySem.W.takerIn K C name=some none) (hh:PySem.W.hasDictIn K C=true)
    (hw:PySem.Within mA ns) (hsz:ns.length≤sizeLine)
    (h:∀ h',ObjM h' x dx C (fun y=>if y=name then some v else mA y)→Heap.SameBut dx s.heap h'→Q () { s with heap:=h',toks:=s.toks+2 }) :
    wpAny (model prog w) A (setAttr (.ref x) name v) Q E s:=by
  obtain ⟨od,J,hl⟩:=I.look
  refine PySem.W.set_plain X J hs (PySem.W.osa_open (s:={ s with toks:=s.toks+1 }) (r:=none) X J hp ht fun b=>?_)
  obtain ⟨cd,hc,hd'⟩:=PySem.W.any_some hh
  have hx:s.heap.get? x=some ⟨.ref C,some dx,.plain,#[]⟩:=I.obj
  refine wpAny_bind (wpAny_pure (wpAny_bind (wpAny_bind (wpAny_loadPart hx (wpAny_bind (PySem.W.Looks.here (s:={ s with toks:=s.toks+1 }) (PySem.W.looks_clsIn X hc) ?_))))))
  rw[hd']
  refine wpAny_pure (a:=some dx) (wpAny_bind (wpAny_pure (wpAny_bind ?_)))
  refine wpAny_nsSet1 (s:={ s with toks:=s.toks+1 }) I.ns fun h' hn2 hs2=>?_
  obtain ⟨oD,esD,epD,hoD,hdD,hcD⟩:=hn2.count (PySem.Within.cons name v hw)
  refine wpAny_bind (wpAny_lookBehind hoD (by rw[hdD];exact pastItsLine_dict (Nat.le_trans hcD (by rw[List.length_cons];omega))) ?_)
  exact wpAny_pure (h _ ⟨(hs2.2 _ (Ne.symm I.ne)).trans I.obj,hn2,I.ne⟩ hs2)
theorem Ab2{R:Result→Shared→Prop}{vs:List Value}{kw:List (Str×Value)}(X:K.In s.heap)(hm:PySem.W.makesIn K C=true)
    (hi:PySem.W.findIn K (.ref C) "__init__" = some (some (.ref f))) (hf:PySem.W.typeIn K (.ref f)=some (.type "function"))
    (h:codeAny (model prog w) (A.under (.builtin "type.__call__" ⟨.ref C::vs,kw⟩)) (.call (.ref f) ⟨.ref (s.heap.objs.size+1)::vs,kw⟩) (PySem.W.InitBack (s.heap.objs.size+1) R)
      { s with heap:=(s.heap.push PySem.W.emptyDict).push (PySem.W.instObj C s.heap.objs.size) }) :
    codeAny (model prog w) A (.call (.ref C) ⟨vs,kw⟩) R s:=by
  obtain ⟨hh,g,d,t,os⟩:=s
  exact PySem.W.make_core (PySem.W.makes_of X hm) (PySem.W.looks_findIn X hi) (fun self=>PySem.W.bind_fn X self hf) (.inl rfl) h
end
noncomputable def putF(f:Str)(v:V):List (Str×V)→List (Str×V)
  | []=>[(f,v)]
  | (g,x)::r=>if g=f then (g,v)::r else (g,x)::putF f v r
theorem My(f g:Str)(v:V):∀ fs:List (Str×V),(putF f v fs).lookup g=if g=f then some v else fs.lookup g
  | []=>by
    show List.lookup g [(f,v)]=_
    by_cases h:g=f
    · have hb:(g == f)=true:=beq_iff_eq.mpr h
      simp only[List.lookup,hb,if_pos h]
    · have hb:(g == f)=false:=beq_eq_false_iff_ne.mpr h
      simp only[List.lookup,hb,if_neg h]
  | (k,x)::r=>by
    have ih:=My f g v r
    rw[show putF f v ((k,x)::r)=(if k=f then (k,v)::r else (k,x)::putF f v r) from rfl]
    by_cases hk:k=f
    · rw[if_pos hk]
      by_cases h:g=k
      · have hb:(g == k)=true:=beq_iff_eq.mpr h
        simp only[List.lookup,hb,if_pos (h.trans hk)]
      · have hb:(g == k)=false:=beq_eq_false_iff_ne.mpr h
        simp only[List.lookup,hb,if_neg (fun e:g=f=>h (e.trans hk.symm))]
    · rw[if_neg hk]
      by_cases h:g=k
      · have hb:(g == k)=true:=beq_iff_eq.mpr h
        simp only[List.lookup,hb,if_neg (fun e:g=f=>hk (h.symm.trans e))]
      · have hb:(g == k)=false:=beq_eq_false_iff_ne.mpr h
        simp only[List.lookup,hb]
        exact ih
theorem Mv(f:Str)(v:V):∀ fs:List (Str×V),f∈(putF f v fs).map (·.1)∧∀ g,g∈fs.map (·.1)→g∈(putF f v fs).map (·.1)
  | []=>⟨by simp[putF],fun g h=>by simp at h⟩
  | (k,x)::r=>by
    obtain ⟨i1,i2⟩:=Mv f v r
    rw[show putF f v ((k,x)::r)=(if k=f then (k,v)::r else (k,x)::putF f v r) from rfl]
    by_cases hk:k=f
    · rw[if_pos hk]
      subst hk
      exact ⟨by simp,fun g h=>by simpa using h⟩
    · rw[if_neg hk]
      refine ⟨?_,fun g h=>?_⟩
      · rw[List.map_cons]
        exact List.mem_cons_of_mem _ i1
      · rw[List.map_cons] at h ⊢
        rcases List.mem_cons.mp h with e | e
        · exact List.mem_cons.mpr (.inl e)
        · exact List.mem_cons_of_mem _ (i2 g e)
theorem Nf(f:Str)(v:V):∀ fs:List (Str×V),(putF f v fs).length≤fs.length+1
  | []=>by simp[putF]
  | (k,x)::r=>by
    have ih:=Nf f v r
    rw[show putF f v ((k,x)::r)=(if k=f then (k,v)::r else (k,x)::putF f v r) from rfl]
    by_cases hk:k=f
    · rw[if_pos hk,List.length_cons,List.length_cons];omega
    · rw[if_neg hk,List.length_cons,List.length_cons];omega
theorem RelO.some_of{v:V}{o:Option Value}(r:RelO (some v) o):∃ u,o=some u∧RelV v u:=by
  cases o with
  | none=>exact (show False from r).elim
  | some u=>exact ⟨u,rfl,r⟩
theorem RelO.none_of{o:Option Value}(r:RelO none o):o=none:=by
  cases o with
  | none=>rfl
  | some u=>exact (show False from r).elim
theorem Xp{v:V}{u:Value}(r:RelV v u):PySem.W.handedIn u=true:=by
  cases v with
  | non=>cases (show u=Value.none from r);rfl
  | bl b=>cases (show u=Value.bool b from r);rfl
  | int i=>obtain ⟨t,e⟩:=(show ∃ t,u=Value.int i t from r);cases e;rfl
  | str x=>obtain ⟨t,e⟩:=(show ∃ t,u=Value.str x t from r);cases e;rfl
  | byt b=>obtain ⟨t,e⟩:=(show ∃ t,u=Value.bytes b t from r);cases e;rfl
  | flt b=>obtain ⟨t,e⟩:=(show ∃ t,u=Value.float b t from r);cases e;rfl
  | ref a=>cases (show u=Value.ref a from r);rfl
  | ty n=>cases (show u=Value.type n from r);rfl
section
variable {P:Program}{w:World}{H H':Hp}{h h':Heap}{a C dx:Addr}{fs fs':List (Str×V)}
theorem Np(hok:HOk P w H h)(e:H a=some (.ins C dx fs)):∃ mA,ObjM h a dx C mA∧(∀ f,RelO (fs.lookup f) (mA f))∧PySem.Within mA (fs.map (·.1))∧fs.length≤1000∧H dx=some (.own a):=by
  obtain ⟨d,z,ne,ob,mA,n,r,q⟩:=(show ObjOk P w H h a (.ins C dx fs) from hok a _ e)
  exact ⟨mA,⟨ob,n,ne⟩,r,q,z,d⟩
end
structure Cls(K:PySem.W.Frag)(C:Addr):Prop where
  pg:PySem.W.plainGet K C Str.empty=true
  hd:PySem.W.hasDictIn K C=true
  po:PySem.W.plainOver K C=true
  sa:PySem.W.findIn K (.ref C) "__setattr__" = some (some (.builtin "object.__setattr__"))
theorem Cls.get{K:PySem.W.Frag}{C:Addr}(c:Cls K C)(f:Str):PySem.W.plainGet K C f=true:=c.pg
noncomputable def NoAttr(K:PySem.W.Frag)(C:Addr)(f:Str):Prop:=PySem.W.findIn K (.ref C) f=some none
theorem NoAttr.taker{K:PySem.W.Frag}{C:Addr}{f:Str}(n:NoAttr K C f):PySem.W.takerIn K C f=some none:=by
  unfold PySem.W.takerIn
  rw[show PySem.W.findIn K (.ref C) f=some none from n]
  rfl
structure Con(K:PySem.W.Frag)(C:Addr)(f:Str)(v:V)(u:Value):Prop where
  at_:PySem.W.findIn K (.ref C) f=some (some u)
  rel:RelV v u
  get:PySem.W.specialIn K u "__get__" = some none
  cp:PySem.W.copiedNames.contains f=false
structure Meth(K:PySem.W.Frag)(C:Addr)(m:Str)(f:Addr):Prop where
  at_:PySem.W.findIn K (.ref C) m=some (some (.ref f))
  fn:PySem.W.isFn K (.ref f)=true
  kp:PySem.W.keepIn K (.ref f)=true
section
variable {X:Cx}{pins:List (Addr×Obj)}{σ:St}{H:Hp}{s:Shared}{a C dx:Addr}{fs:List (Str×V)}{f:Str}{v:V}{A:Around}{E:Value→Shared→Prop}
theorem Vw{b:Bool}{Q:Value→Shared→Prop}(I:Inv X pins σ H s)(e:H a=some (.ins C dx fs))(c:Cls X.K C)(n:NoAttr X.K C f)(l:fs.lookup f=some v)
    (h:∀ u s',Inv X pins σ H s'→RelV v u→Q u s'):wpAny (model X.prog X.w) A (getAttr (.ref a) f b) Q E s:=by
  obtain ⟨mA,O,r,_,_,_⟩:=Np I.hok e
  obtain ⟨u,hu,ru⟩:=RelO.some_of (v:=v) (o:=mA f) (by rw[← l];exact r f)
  exact Aen I.kIn O (c.get f) c.hd n hu (Xp ru) (h u _ (I.tok _) ru)
theorem O1{m:Str}{g:Addr}{pl:Sem Bool}{Q:Value×List Value→Shared→Prop}(I:Inv X pins σ H s)(e:H a=some (.ins C dx fs))(c:Cls X.K C)(k:Meth X.K C m g)(l:fs.lookup m=none)
    (h:Q (.ref g,[.ref a]) s):wpAny (model X.prog X.w) A (getMethod (.ref a) m pl) Q E s:=by
  obtain ⟨mA,O,r,_,_,_⟩:=Np I.hok e
  have hn:mA m=none:=RelO.none_of (by rw[← l];exact r m)
  exact Aag I.kIn O (c.get m) k.at_ k.fn hn h
theorem Uu{y:V}{u:Value}{Q:Unit→Shared→Prop}(I:Inv X pins σ H s)(e:H a=some (.ins C dx fs))(c:Cls X.K C)(n:NoAttr X.K C f)(hl:fs.length < 1000)(ry:RelV y u)
    (h:∀ s',Inv X pins σ (upd H a (.ins C dx (putF f y fs))) s'→Q () s'):wpAny (model X.prog X.w) A (setAttr (.ref a) f u) Q E s:=by
  obtain ⟨mA,O,r,wi,_,ho⟩:=Np I.hok e
  have hz:(fs.map (·.1)).length≤sizeLine:=by rw[List.length_map,sizeLine_eq];omega
  refine Ad4 I.kIn O c.sa c.po n.taker c.hd wi hz fun h' O' sb=>h _ ?_
  have hd:∃ o,h'.get? dx=some o:=let ⟨o,_,_,e',_⟩:=O'.ns;⟨o,e'⟩
  refine I.write (x:=a) (e:=dx) (by rw[e];exact True.intro) (.inr ho) (fun b q hb z=>(sb.2 b hb).trans z) hd ?_
  refine ⟨by rw[Ba O.ne];exact ho,?_,O.ne,O'.obj,_,O'.ns,fun g=>?_,fun g hg=>?_⟩
  · have:=Nf f y fs;omega
  · show RelO ((putF f y fs).lookup g) (if g=f then some u else mA g)
    rw[My]
    by_cases q:g=f
    · rw[if_pos q,if_pos q];exact ry
    · rw[if_neg q,if_neg q];exact r g
  · by_cases q:g=f
    · rw[q];exact (Mv f y fs).1
    · refine (Mv f y fs).2 g (wi g fun z=>hg ?_)
      show (if g=f then some u else mA g)=none
      rw[if_neg q];exact z
theorem Inv.made(I:Inv X pins σ H s):Inv X pins σ (upd (upd H s.heap.objs.size (.own (s.heap.objs.size+1))) (s.heap.objs.size+1) (.ins C s.heap.objs.size []))
    { s with heap:=(s.heap.push PySem.W.emptyDict).push (PySem.W.instObj C s.heap.objs.size) }:=by
  have e1:(s.heap.push PySem.W.emptyDict).get? s.heap.objs.size=some PySem.W.emptyDict:=Heap.get?_push_size s.heap rfl
  have e2:((s.heap.push PySem.W.emptyDict).push (PySem.W.instObj C s.heap.objs.size)).get? (s.heap.objs.size+1)=some (PySem.W.instObj C s.heap.objs.size):=by
    have:=Heap.get?_push_size (s.heap.push PySem.W.emptyDict) (o:=PySem.W.instObj C s.heap.objs.size) rfl
    rwa [Heap.size_push] at this
  have e3:(s.heap.push PySem.W.emptyDict).Ns s.heap.objs.size (fun _=>none):=⟨PySem.W.emptyDict,#[],_,e1,rfl,(fun e he=>absurd he (by simp)),fun _=>rfl⟩
  have I1:=I.laid (a:=s.heap.objs.size) (o:=.own (s.heap.objs.size+1)) (h':=s.heap.push PySem.W.emptyDict) (t':=s.toks) (fun b u q=>Heap.get?_push_of_some _ q) (Nat.le_refl _) ⟨_,e1⟩
  refine I1.laid (a:=s.heap.objs.size+1) (o:=.ins C s.heap.objs.size []) (t':=s.toks) (fun b u q=>Heap.get?_push_of_some _ q) (Nat.le_of_eq (Heap.size_push _ _)) ?_
  have ne:s.heap.objs.size≠s.heap.objs.size+1:=Nat.ne_of_lt (Nat.lt_succ_self _)
  refine ⟨by rw[Ba ne,upd_same],Nat.zero_le _,ne,e2,fun _=>none,(Heap.Ns1.of_empty e3).at fun o q=>Heap.get?_push_of_some _ q,fun _=>True.intro,fun y hy=>absurd rfl hy⟩
theorem Aff{prog:Program}{w:World}{env:Env}{e:Expr}{f:Str}{pos:Pos}{s:Shared}{Q:Value→Shared→Prop}(hb:attributeBase e f env (eval e env)=eval e env)
    (h:wpAny (model prog w) A (eval e env) (fun o s₁=>wpAny (model prog w) A (getAttr o f true) Q E s₁) E s):wpAny (model prog w) A (eval (.Attribute e f pos) env) Q E s:=
  Attribute_any_ h (by rw[arm_eval_Attribute,hb])
end
noncomputable def Akz(K:PySem.W.Frag)(ta:TE)(f:Str):TE:=fun σ H Q=>ta σ H fun x H1=>∃ a C dx fs v,x = .ref a∧H1 a=some (.ins C dx fs)∧Cls K C∧NoAttr K C f∧fs.lookup f=some v∧Q v H1
noncomputable def Ak4(K:PySem.W.Frag)(ta tv:TE)(f:Str):TS:=fun D σ H=>tv σ H fun y H1=>ta σ H1 fun x H2=>∃ a C dx fs,x = .ref a∧H2 a=some (.ins C dx fs)∧Cls K C∧NoAttr K C f∧fs.length < 1000 ∧
  D.nx σ (upd H2 a (.ins C dx (putF f y fs)))
section
variable {X:Cx}{o e value:Expr}{f:Str}{pos pos' tpos:Pos}{ta tv:TE}
theorem Agj(he:PE X e ta)(hb:attributeBase e f X.env (eval e X.env)=eval e X.env):PE X (.Attribute e f pos) (Akz X.K ta f):=by
  intro pins s σ H Q I h
  refine Aff hb (thn (he pins s σ H _ I h) fun u s1 ⟨x,H1,I1,rx,a,C,dx,fs,v,ex,ea,c,n,l,q⟩=>?_)
  subst ex
  obtain rfl:u=Value.ref a:=rx
  exact Vw I1 ea c n l fun u' s2 I2 ru=>⟨v,H1,I2,ru,q⟩
theorem Ahy(ha:PE X o ta)(hv:PE X value tv)(hs:swapsWith value (some (.Attribute o f pos')) pos.line X.env=pure false):PS X (.Assign [.Attribute o f pos'] value pos) (Ak4 X.K ta tv f):=by
  intro pins s σ H D I h
  refine plainObj_wpAny_Assign_Attribute (thn (hv pins s σ H _ I h) fun u s1 ⟨y,H1,I1,ry,q⟩=>thn (ha pins s1 σ H1 _ I1 q) fun ov s2 ⟨x,H2,I2,rx,a,C,dx,fs,ex,ea,c,n,l,q2⟩=>?_) hs
  subst ex
  obtain rfl:ov=Value.ref a:=rx
  exact Uu I2 ea c n l ry fun s3 I3=>⟨σ,_,I3,q2⟩
end
section
variable {X:Cx}{pins:List (Addr×Obj)}{σ:St}{H:Hp}{s:Shared}{A:Around}{E:Value→Shared→Prop}{Q:Value→Shared→Prop}{c:Value}{b:Bool}
inductive TyOf(K:PySem.W.Frag)(H:Hp):V→Value→Prop where
  | non:TyOf K H .non (.type "NoneType")
  | bl (x:Bool):TyOf K H (.bl x) (.type "bool")
  | int (i:Int):TyOf K H (.int i) (.type "int")
  | str (x:Str):TyOf K H (.str x) (.type "str")
  | flt (x:UInt64):TyOf K H (.flt x) (.type "float")
  | lst {a:Addr} {xs:List V} (e:H a=some (.lst xs)):TyOf K H (.ref a) (.type "list")
  | frz {a:Addr} {o:Obj} {xs:List V} (e:H a=some (.frz o (.lst xs))):TyOf K H (.ref a) (.type "list")
  | tup {a:Addr} {xs:List V} (e:H a=some (.tup xs)):TyOf K H (.ref a) (.type "tuple")
  | dK {a:Addr} {kvs:List (Key×V)} (e:H a=some (.dK kvs)):TyOf K H (.ref a) (.type "dict")
  | dT {a:Addr} {kvs:List (List Key×V)} (e:H a=some (.dT kvs)):TyOf K H (.ref a) (.type "dict")
  | ins {a C dx:Addr} {fs:List (Str×V)} (e:H a=some (.ins C dx fs)) (cl:Cls K C) (ha:PySem.W.findIn K (.ref C) "__class__" = some (some (.builtin "object.__class__")))
      (hn:PySem.W.specialIn K (.builtin "object.__class__") "__get__" = some (some (.builtin "getset_descriptor.__get__"))) (htk:PySem.W.takesIn K (.builtin "object.__class__")=some true)
      (hm:PySem.W.mroIn K C (.type "object")=some true):TyOf K H (.ref a) (.ref C)
theorem Ip{x:V}{u t:Value}(I:Inv X pins σ H s)(rx:RelV x u)(ty:TyOf X.K H x t)(e:PySem.W.kitOne X.K t c=some b)(h:∀ tk,Q (.bool b) { s with toks:=tk }) :
    wpAny (model X.prog X.w) A (call (.builtin "isinstance") [u,c]) Q E s:=by
  cases ty with
  | non=>cases (show u=Value.none from rx);exact PySem.W.kia_one PySem.W.kitx_none I.kIn True.intro e (fun z=>nomatch z) h
  | bl y=>cases (show u=Value.bool y from rx);exact PySem.W.kia_one PySem.W.kitx_bool I.kIn True.intro e (fun z=>nomatch z) h
  | int i=>obtain ⟨t,q⟩:=(show ∃ t,u=Value.int i t from rx);cases q;exact PySem.W.kia_one PySem.W.kitx_int I.kIn True.intro e (fun z=>nomatch z) h
  | str y=>obtain ⟨t,q⟩:=(show ∃ t,u=Value.str y t from rx);cases q;exact PySem.W.kia_one PySem.W.kitx_str I.kIn True.intro e (fun z=>nomatch z) h
  | flt y=>obtain ⟨t,q⟩:=(show ∃ t,u=Value.float y t from rx);cases q;exact PySem.W.kia_one PySem.W.kitx_float I.kIn True.intro e (fun z=>nomatch z) h
  | @lst a xs ea=>
    cases (show u=Value.ref a from rx)
    obtain ⟨_,_,n,_,h1⟩:=(show ObjOk X.prog X.w H s.heap a (.lst xs) from I.hok a _ ea)
    exact PySem.W.kia_one PySem.W.kitx_list I.kIn ⟨_,h1,rfl⟩ e (fun z=>nomatch z) h
  | @frz a ob xs ea=>
    cases (show u=Value.ref a from rx)
    obtain ⟨_,_,_,n,_,h1⟩:=(show ObjOk X.prog X.w H s.heap a (.frz ob (.lst xs)) from I.hok a _ ea)
    exact PySem.W.kia_one PySem.W.kitx_list I.kIn ⟨_,h1,rfl⟩ e (fun z=>nomatch z) h
  | @tup a xs ea=>
    cases (show u=Value.ref a from rx)
    obtain ⟨_,_,_,p⟩:=(show ObjOk X.prog X.w H s.heap a (.tup xs) from I.hok a _ ea)
    obtain ⟨o,h1,h2,_⟩:=p
    exact PySem.W.kia_one PySem.W.kitx_tuple I.kIn ⟨o,h1,(Prod.mk.inj h2).1⟩ e (fun z=>nomatch z) h
  | @dK a kvs ea=>
    cases (show u=Value.ref a from rx)
    obtain ⟨_,_,vs,_,p⟩:=(show ObjOk X.prog X.w H s.heap a (.dK kvs) from I.hok a _ ea)
    obtain ⟨o,es,ep,h1,h2,_⟩:=p
    exact PySem.W.kia_one PySem.W.kitx_dict I.kIn ⟨o,h1,h2.1⟩ e (fun z=>nomatch z) h
  | @dT a kvs ea=>
    cases (show u=Value.ref a from rx)
    obtain ⟨_,_,xs,_,o,es,ep,h1,h2,_⟩:=(show ObjOk X.prog X.w H s.heap a (.dT kvs) from I.hok a _ ea)
    exact PySem.W.kia_one PySem.W.kitx_dict I.kIn ⟨o,h1,h2.1⟩ e (fun z=>nomatch z) h
  | @ins a C dx fs ea cl ha hn htk hm=>
    cases (show u=Value.ref a from rx)
    obtain ⟨mA,O,_⟩:=Np I.hok ea
    obtain ⟨od,J,_⟩:=O.look
    exact PySem.W.kia_one (PySem.W.kitx_own (cl.get _) cl.hd ha hn htk hm) I.kIn J e (fun z=>nomatch z) h
end
structure Room(k:Nat)(A:Around):Prop where
  hd:A.handled=none
  dp:A.depth+3 * k+5 < recursionLimit
  un:A.units+16 * k+200 < cLine
theorem Room.mono{j k:Nat}{A:Around}(r:Room k A)(h:j≤k):Room j A:=⟨r.hd,by have:=r.dp;omega,by have:=r.un;omega⟩
theorem Room.deeper{k:Nat}{A:Around}(r:Room (k+1) A)(env:Env):Room k (A.deeper env):=
  ⟨r.hd,by have:=r.dp;show A.depth+1+3 * k+5 < _;omega,by have:=r.un;show A.units+3+16 * k+200 < _;omega⟩
theorem Room.in1{k:Nat}{A:Around}(r:Room (k+1) A):Room k A.in1:=
  ⟨r.hd,by have:=r.dp;show A.depth+3 * k+5 < _;omega,by have:=r.un;show A.units+1+16 * k+200 < _;omega⟩
theorem Ub{A:Around}{C:Addr}{us:List Value}{kw:List (Str×Value)}:(A.under (.builtin "type.__call__" ⟨.ref C::us,kw⟩)).depth=A.depth+1:=by
  first | rfl | simp[Around.under,Code.weight,Code.isCreation,Code.isGuard,Code.isCaller,Code.frames,Code.isFrame,guardIds]
theorem Uz{A:Around}{C:Addr}{us:List Value}{kw:List (Str×Value)}:(A.under (.builtin "type.__call__" ⟨.ref C::us,kw⟩)).units=A.units+1:=by
  first | rfl | simp[Around.under,Code.cUnits,Code.frames,Code.isFrame]
theorem Room.make{k:Nat}{A:Around}(r:Room (k+1) A)(C:Addr)(us:List Value)(kw:List (Str×Value)):Room k (A.under (.builtin "type.__call__" ⟨.ref C::us,kw⟩)):=
  ⟨r.hd,by have:=r.dp;rw[Ub];omega,by have:=r.un;rw[Uz];omega⟩
theorem Room.depth{k:Nat}{A:Around}(r:Room k A):A.depth < recursionLimit:=by have:=r.dp;omega
theorem Room.units{k:Nat}{A:Around}(r:Room k A):A.units+64 < cLine:=by have:=r.un;omega
noncomputable def Ahw:TA:=fun _ H Q=>Q [] H
noncomputable def Afs(ta:TE)(tr:TA):TA:=fun σ H Q=>ta σ H fun x H1=>tr σ H1 fun xs H2=>Q (x::xs) H2
section
variable {X:Cx}{e:Expr}{es:List Expr}{te:TE}{t:TA}{pos:Pos}
theorem Aas:PA X [] Ahw:=fun _ _ _ _ H Q I h=>Calls.spliced_nil ⟨[],H,I,.nil,h⟩
theorem Ro(ha:PE X e te)(hr:PA X es t)(hs:starEach (e::es) X.env=(false,eval e X.env)::starEach es X.env:=by rfl):PA X (e::es) (Afs te t):=by
  intro pos pins s σ H Q I h
  rw[hs]
  show wpAny _ _ (spliced ((false,eval e X.env)::backTo pos (starEach es X.env))) _ _ s
  refine Calls.spliced_cons (thn (ha pins s σ H _ I h) fun u s1 ⟨x,H1,I1,r1,q1⟩=>?_)
  exact thn (hr pos pins s1 σ H1 _ I1 q1) fun us s2 ⟨xs,H2,I2,r2,q2⟩=>⟨x::xs,H2,I2,.cons r1 r2,q2⟩
noncomputable def Ak5(t:TA):TE:=fun σ H Q=>t σ H fun xs H1=>xs.length≤sizeLine∧∀ p,H1 p=none→Q (.ref p) (upd H1 p (.tup xs))
noncomputable def Ak2(t:TA):TE:=fun σ H Q=>t σ H fun xs H1=>xs.length≤sizeLine∧∀ p,H1 p=none→Q (.ref p) (upd H1 p (.lst xs))
theorem Ahc{x1}(h:PA X es t):PE X (.Tuple es x1 pos) (Ak5 t):=by
  intro pins s σ H Q I hq
  refine wpAny_Tuple_spliced (thn (h pos pins s σ H _ I hq) fun us s1 ⟨xs,H1,I1,r,z,q⟩=>⟨by rw[← r.length];exact z,?_⟩)
  have hf:H1 s1.heap.objs.size=none:=I1.hok.fresh (Nat.le_refl _)
  refine ⟨.ref s1.heap.objs.size,upd H1 s1.heap.objs.size (.tup xs),I1.laid (t':=s1.toks) (fun b u e=>Heap.get?_push_of_some _ e) (Nat.le_refl _) ?_,rfl,q _ hf⟩
  exact ⟨z,us,r,⟨_,Heap.get?_push_size _ rfl,rfl,_,rfl⟩⟩
theorem Aib(h:PA X es t):PE X (.List es pos) (Ak2 t):=by
  intro pins s σ H Q I hq
  refine wpAny_List_spliced (thn (h pos pins s σ H _ I hq) fun us s1 ⟨xs,H1,I1,r,z,q⟩=>⟨by rw[← r.length];exact z,?_⟩)
  have hf:H1 s1.heap.objs.size=none:=I1.hok.fresh (Nat.le_refl _)
  refine ⟨.ref s1.heap.objs.size,upd H1 s1.heap.objs.size (.lst xs),I1.laid (t':=s1.toks) (fun b u e=>Heap.get?_push_of_some _ e) (Nat.le_refl _) ?_,rfl,q _ hf⟩
  exact ⟨z,us,0,r,Heap.get?_push_size _ rfl⟩
end
noncomputable abbrev Sp:=List V→Hp→VK→XK→Prop
noncomputable abbrev CXT:=List Env→Hp→Shared→XK→Value→Shared→Prop
structure Env0(P:Program)(w:World)(K:PySem.W.Frag)(mg:Str→Option Value)(base:Heap)(A:Around)(outer:List Env)(s:Shared)(H:Hp):Prop where
  frames:A.frames=some outer
  mod:Mod K mg base
  bs:∀ b o,base.get? b=some o→s.heap.get? b=some o∧H b=none
  bsz:base.objs.size≤s.heap.objs.size
  funs:s.heap.FunFrames base outer
  frf:∀ b∈frs outer,H b=none
  hok:HOk P w H s.heap
  bare:AllBare s.gens
noncomputable def CE(outer:List Env)(P:Program)(w:World)(H:Hp)(s:Shared)(Q:VK)(u:Value)(s':Shared):Prop:=
  ∃ v H',s'.os=s.os∧AllBare s'.gens∧Un (frs outer) [] H H' s.heap s'.heap∧HOk P w H' s'.heap∧RelV v u∧Q v H'
noncomputable def CR(CX:CXT)(outer:List Env)(P:Program)(w:World)(H:Hp)(s:Shared)(Q:VK)(E:XK)(r:Result)(s':Shared):Prop:=
  match r with
  | .ok (.ret u)=>CE outer P w H s Q u s'
  | .ok _=>False
  | .error e=>CX outer H s E e s'
structure FnOk(P:Program)(w:World)(K:PySem.W.Frag)(mg:Str→Option Value)(base:Heap)(CX:CXT)(k:Nat)(f:Addr)(fd:FuncData)(ps:List Str)(sp:Sp):Prop where
  len:∀ vs H Q E,sp vs H Q E→vs.length=ps.length
  run:∀ (A:Around) (outer:List Env) (s:Shared) (H:Hp) (args:Args) (us:List Value) (vs:List V) (Q:VK) (E:XK),Room k A→Env0 P w K mg base A outer s H→BindsTo s fd args (ps.zip us)→Vals vs us→sp vs H Q E →
    codeAny (model P w) A (.call (.ref f) args) (CR CX outer P w H s Q E) s
theorem FnOk.mono{P:Program}{w:World}{K:PySem.W.Frag}{mg:Str→Option Value}{base:Heap}{CX:CXT}{j k:Nat}{f:Addr}{fd:FuncData}{ps:List Str}{sp:Sp}(F:FnOk P w K mg base CX j f fd ps sp)(h:j≤k) :
    FnOk P w K mg base CX k f fd ps sp:=⟨F.len,fun A outer s H args us vs Q E hr=>F.run A outer s H args us vs Q E (hr.mono h)⟩
theorem FnOk.imp{P:Program}{w:World}{K:PySem.W.Frag}{mg:Str→Option Value}{base:Heap}{CX:CXT}{k:Nat}{f:Addr}{fd:FuncData}{ps:List Str}{sp sp':Sp}(F:FnOk P w K mg base CX k f fd ps sp)
    (h:∀ vs H Q E,sp' vs H Q E→sp vs H Q E):FnOk P w K mg base CX k f fd ps sp':=
  ⟨fun vs H Q E q=>F.len vs H Q E (h _ _ _ _ q),fun A outer s H args us vs Q E hr he hb hv hs=>F.run A outer s H args us vs Q E hr he hb hv (h _ _ _ _ hs)⟩
theorem Env0.make{P:Program}{w:World}{K:PySem.W.Frag}{mg:Str→Option Value}{base:Heap}{A:Around}{outer:List Env}{s:Shared}{H:Hp}(e:Env0 P w K mg base A outer s H)(C:Addr)(us:List Value)(kw:List (Str×Value)) :
    Env0 P w K mg base (A.under (.builtin "type.__call__" ⟨.ref C::us,kw⟩)) outer s H:=⟨by first | exact e.frames | (simpa[Around.under,Code.envs,Code.isFrame,pushEnvs] using e.frames),e.mod,e.bs,e.bsz,e.funs,e.frf,e.hok,e.bare⟩
theorem Env0.in1{P:Program}{w:World}{K:PySem.W.Frag}{mg:Str→Option Value}{base:Heap}{A:Around}{outer:List Env}{s:Shared}{H:Hp}(e:Env0 P w K mg base A outer s H) :
    Env0 P w K mg base A.in1 outer s H:=⟨e.frames,e.mod,e.bs,e.bsz,e.funs,e.frf,e.hok,e.bare⟩
section
variable {X:Cx}{pins:List (Addr×Obj)}{σ:St}{H:Hp}{s s':Shared}
theorem Inv.env0(I:Inv X pins σ H s):Env0 X.prog X.w X.K X.mg X.base X.A X.stack s H:=
  ⟨I.ok.frames,I.ok.mod,I.bs,Nat.le_trans I.ok.bsz I.sz,I.stack,I.stkFree,I.hok,I.bare⟩
theorem Inv.after{Q:VK}{u:Value}(I:Inv X pins σ H s)(h:CE X.stack X.prog X.w H s Q u s'):EP X pins σ Q u s':=by
  obtain ⟨v,H',os,bare,un,hok,r,q⟩:=h
  obtain ⟨hh,g,d,t,os'⟩:=s'
  obtain rfl:os'=s.os:=os
  exact ⟨v,H',I.call (h':=hh) (g':=g) (d':=d) (t':=t) (ch:=[]) un hok bare (fun b z=>absurd z (by simp)),r,q⟩
end
noncomputable def Aiw(sp:Sp)(dvs:List V)(E:XK)(t:TA):TE:=fun σ H Q=>t σ H fun vs H1=>sp (vs++dvs) H1 Q E
noncomputable def Abk(C:Addr)(m:Str)(sp:Sp)(dvs:List V)(E:XK)(ta:TE)(t:TA):TE:=fun σ H Q=>ta σ H fun x H1=>∃ a dx fs,x = .ref a∧H1 a=some (.ins C dx fs)∧fs.lookup m=none ∧
  t σ H1 fun vs H2=>sp (x::(vs++dvs)) H2 Q E
noncomputable def Afk(C:Addr)(sp:Sp)(dvs:List V)(E:XK)(t:TA):TE:=fun σ H Q=>t σ H fun vs H1=>∀ x dx,H1 x=none→H1 dx=none→dx≠x →
  sp (.ref x::(vs++dvs)) (upd (upd H1 dx (.own x)) x (.ins C dx [])) (fun v H2=>v = .non∧Q (.ref x) H2) E
noncomputable def Binds(K:PySem.W.Frag)(fd:FuncData)(ps:List Str)(ds:List Value):Prop:=
  ∀ (s:Shared) (us:List Value),K.In s.heap→(us++ds).length=ps.length→BindsTo s fd ⟨us,[]⟩ (ps.zip (us++ds))
theorem Binds.all{K:PySem.W.Frag}{fd:FuncData}{ps:List Str}(h:∀ us:List Value,us.length=ps.length→bindArgs fd ⟨us,[]⟩=pure (ps.zip us)):Binds K fd ps []:=fun s us _ hl=>by
  rw[List.append_nil] at hl ⊢
  exact .of_eq (h us hl)
noncomputable def Kr(CX:CXT)(X:Cx)(E:XK):Prop:=∀ (pins:List (Addr×Obj)) (σ:St) (H:Hp) (s:Shared) (e:Value) (s':Shared),Inv X pins σ H s→CX X.stack H s E e s'→X.xe e s'
section
variable {X:Cx}{CX:CXT}{k:Nat}{f C:Addr}{fd:FuncData}{ps:List Str}{sp:Sp}{dvs:List V}{ds:List Value}{E:XK}{x m:Str}{p pos apos:Pos}{e o:Expr}{es:List Expr}{ta:TE}{t:TA}
theorem Vs{pins:List (Addr×Obj)}{σ:St}{H:Hp}{s:Shared}{Q:VK}{us:List Value}{vs:List V}(F:FnOk X.prog X.w X.K X.mg X.base CX k f fd ps sp)(hr:Room k X.A)(hb:Binds X.K fd ps ds)(hd:Vals dvs ds)(hx:Kr CX X E)
    (I:Inv X pins σ H s) (r:Vals vs us) (h:sp (vs++dvs) H Q E):wpAny (model X.prog X.w) X.A (call (.ref f) us) (EP X pins σ Q) X.xe s:=by
  have r2:Vals (vs++dvs) (us++ds):=r.append hd
  have hl:(us++ds).length=ps.length:=by rw[← r2.length];exact F.len _ _ _ _ h
  refine wpAny_call (codeAny_mono (F.run X.A X.stack s H ⟨us,[]⟩ (us++ds) (vs++dvs) Q E hr I.env0 (hb s us I.kIn hl) r2 h) fun r s' hq=>?_)
  cases r with
  | error e=>exact hx pins σ H s e s' I hq
  | ok fl=>
    cases fl with
    | ret u=>exact I.after hq
    | next=>exact False.elim hq
    | brk=>exact False.elim hq
    | cont=>exact False.elim hq
theorem Ac6(F:FnOk X.prog X.w X.K X.mg X.base CX k f fd ps sp)(hr:Room k X.A)(hg:Gl X x)(hm:X.mg x=some (.ref f))(hk:PySem.W.keepIn X.K (.ref f)=true)(hb:Binds X.K fd ps ds)(hd:Vals dvs ds)(hx:Kr CX X E)
    (ha:PA X (e::es) t) (hdb:(x == ("__debug__" : Str))=false:=by decide) (he:starEach (e::es) X.env=(false,eval e X.env)::starEach es X.env:=by rfl) (hpl:(backTo pos (starEach es X.env)).any (·.1)=false:=by rfl) :
    PE X (.Call (.Name x p) (e::es) [] pos) (Aiw sp dvs E t):=by
  intro pins s σ H Q I h
  refine wpAny_Call_Name_kw (Wk I hg hm ?_ hdb)
  refine PySem.W.callWith_K (h₀:=X.base) I.ok.mod.kin hk (thn (ha pos pins s σ H _ I h) fun us s1 ⟨vs,H1,I1,r,q⟩=>⟨I1.kIn,?_⟩) he hpl
  exact Vs F hr hb hd hx I1 r q
theorem Aer{pl:Sem Bool}(he:PE X o ta)(c:Cls X.K C)(hm:Meth X.K C m f)(F:FnOk X.prog X.w X.K X.mg X.base CX k f fd ps sp)(hr:Room k X.A)(hb:Binds X.K fd ps ds)(hd:Vals dvs ds)(hx:Kr CX X E)(ha:PA X (e::es) t)
    (hst:starEach (e::es) X.env=(false,eval e X.env)::starEach es X.env:=by rfl) (hpl:(backTo pos (starEach es X.env)).any (·.1)=false:=by rfl)
    (ht:eval (.Call (.Attribute o m apos) (e::es) [] pos) X.env=(do
      let ov ← eval o X.env
      standAt apos.atName
      let (f,first) ← holding [ov] (getMethod ov m pl)
      callWith pos f first (backTo pos (starEach (e::es) X.env)) (backToKw pos (keywordEach [] X.env))):=by rfl) :
    PE X (.Call (.Attribute o m apos) (e::es) [] pos) (Abk C m sp dvs E ta t):=by
  intro pins s σ H Q I h
  refine PySem.W.methodCall_KW (pl:=pl) (thn (he pins s σ H _ I h) fun u s1 ⟨x,H1,I1,rx,a,dx,fs,ex,ea,l,q⟩=>?_) ht
  subst ex
  obtain rfl:u=Value.ref a:=rx
  refine O1 I1 ea c hm l ?_
  refine PySem.W.callWith_K (first:=[.ref a]) (h₀:=X.base) I.ok.mod.kin hm.kp (thn (ha pos pins s1 σ H1 _ I1 q) fun us s2 ⟨vs,H2,I2,r,q2⟩=>⟨I2.kIn,?_⟩) hst hpl
  exact Vs (us:=.ref a::us) (vs:=.ref a::vs) F hr hb hd hx I2 (.cons rfl r) q2
theorem Aa4{pl:Sem Bool}(he:PE X o ta)(c:Cls X.K C)(hm:Meth X.K C m f)(F:FnOk X.prog X.w X.K X.mg X.base CX k f fd ps sp)(hr:Room k X.A)(hb:Binds X.K fd ps ds)(hd:Vals dvs ds)(hx:Kr CX X E)
    (ht:eval (.Call (.Attribute o m apos) [] [] pos) X.env=(do
      let ov ← eval o X.env
      standAt apos.atName
      let (f,first) ← holding [ov] (getMethod ov m pl)
      callWith pos f first (backTo pos (starEach [] X.env)) (backToKw pos (keywordEach [] X.env))):=by rfl) :
    PE X (.Call (.Attribute o m apos) [] [] pos) (Abk C m sp dvs E ta Ahw):=by
  intro pins s σ H Q I h
  refine PySem.W.methodCall_KW (pl:=pl) (thn (he pins s σ H _ I h) fun u s1 ⟨x,H1,I1,rx,a,dx,fs,ex,ea,l,q⟩=>?_) ht
  subst ex
  obtain rfl:u=Value.ref a:=rx
  refine O1 I1 ea c hm l ?_
  exact PySem.W.callWith_K0 (first:=[.ref a]) I1.kIn hm.kp (Vs (us:=[.ref a]) (vs:=[.ref a]) F hr hb hd hx I1 (.cons rfl .nil) q)
structure Mk(K:PySem.W.Frag)(C f:Addr):Prop where
  makes:PySem.W.makesIn K C=true
  init:PySem.W.findIn K (.ref C) "__init__" = some (some (.ref f))
  fn:PySem.W.isFn K (.ref f)=true
  kp:PySem.W.keepIn K (.ref C)=true
theorem Yx{pins:List (Addr×Obj)}{σ:St}{H:Hp}{s:Shared}{Q:VK}{us:List Value}{vs:List V}(M:Mk X.K C f)(F:FnOk X.prog X.w X.K X.mg X.base CX k f fd ps sp)(hr:Room (k+1) X.A)(hb:Binds X.K fd ps ds)(hd:Vals dvs ds)
    (hx:Kr CX X E) (I:Inv X pins σ H s) (r:Vals vs us)
    (h:∀ x dx,H x=none→H dx=none→dx≠x→sp (.ref x::(vs++dvs)) (upd (upd H dx (.own x)) x (.ins C dx [])) (fun v H2=>v = .non∧Q (.ref x) H2) E) :
    wpAny (model X.prog X.w) X.A (call (.ref C) us) (EP X pins σ Q) X.xe s:=by
  have hq:=h (s.heap.objs.size+1) s.heap.objs.size (I.hok.fresh (Nat.le_succ _)) (I.hok.fresh (Nat.le_refl _)) (Nat.ne_of_lt (Nat.lt_succ_self _))
  have I2:=Inv.made (C:=C) I
  have r2:Vals (V.ref (s.heap.objs.size+1)::(vs++dvs)) (Value.ref (s.heap.objs.size+1)::(us++ds)):=.cons rfl (r.append hd)
  have hl:(Value.ref (s.heap.objs.size+1)::us++ds).length=ps.length:=by
    have e:=r2.length
    rw[F.len _ _ _ _ hq] at e
    exact e.symm
  refine wpAny_call (Ab2 (f:=f) I.kIn M.makes M.init (beq_iff_eq.mp M.fn) (codeAny_mono (F.run _ X.stack _ _ ⟨Value.ref (s.heap.objs.size+1)::us,[]⟩ (Value.ref (s.heap.objs.size+1)::(us++ds)) _ _ E (hr.make C us [])
    (I2.env0.make C us []) (hb _ (Value.ref (s.heap.objs.size+1)::us) I2.kIn hl) r2 hq) fun r s' hq'=>?_))
  cases r with
  | error e=>exact hx pins σ _ _ e s' I2 hq'
  | ok fl=>
    cases fl with
    | ret u=>
      obtain ⟨v,H',I3,rv,ev,q3⟩:=I2.after hq'
      subst ev
      exact ⟨rv,⟨V.ref (s.heap.objs.size+1),H',I3,rfl,q3⟩⟩
    | next=>exact False.elim hq'
    | brk=>exact False.elim hq'
    | cont=>exact False.elim hq'
theorem Adr(M:Mk X.K C f)(F:FnOk X.prog X.w X.K X.mg X.base CX k f fd ps sp)(hr:Room (k+1) X.A)(hg:Gl X x)(hm:X.mg x=some (.ref C))(hb:Binds X.K fd ps ds)(hd:Vals dvs ds)(hx:Kr CX X E)
    (ha:PA X (e::es) t) (hdb:(x == ("__debug__" : Str))=false:=by decide) (he:starEach (e::es) X.env=(false,eval e X.env)::starEach es X.env:=by rfl) (hpl:(backTo pos (starEach es X.env)).any (·.1)=false:=by rfl) :
    PE X (.Call (.Name x p) (e::es) [] pos) (Afk C sp dvs E t):=by
  intro pins s σ H Q I h
  refine wpAny_Call_Name_kw (Wk I hg hm ?_ hdb)
  refine PySem.W.callWith_K (h₀:=X.base) I.ok.mod.kin M.kp (thn (ha pos pins s σ H _ I h) fun us s1 ⟨vs,H1,I1,r,q⟩=>⟨I1.kIn,?_⟩) he hpl
  exact Yx M F hr hb hd hx I1 r q
end
noncomputable def PK(X:Cx)(kws:List Keyword)(t:TA):Prop:=
  ∀ (pos:Pos) (pins:List (Addr×Obj)) (s:Shared) (σ:St) (H:Hp) (Q:List V→Hp→Prop),Inv X pins σ H s→t σ H Q→wpAny (model X.prog X.w) X.A (evalAll ((backToKw pos (keywordEach kws X.env)).map (·.2))) (AP X pins σ Q) X.xe s
section
variable {X:Cx}{CX:CXT}{k:Nat}{f C:Addr}{fd:FuncData}{ps ks:List Str}{sp:Sp}{E:XK}{x m:Str}{p pos apos kpos:Pos}{e o:Expr}{es:List Expr}{kws:List Keyword}{te ta:TE}{t tk:TA}{nm:Option Str}
theorem Aid:PK X [] Ahw:=fun _ _ _ _ H Q I h=>wpAny_evalAll_nil ⟨[],H,I,.nil,h⟩
theorem Ac7(ha:PE X e te)(hr:PK X kws t):PK X (⟨nm,e,kpos⟩::kws) (Afs te t):=by
  intro pos pins s σ H Q I h
  show wpAny _ _ (evalAll ((do let v ← eval e X.env;standAt pos;pure v)::(backToKw pos (keywordEach kws X.env)).map (·.2))) _ _ s
  refine wpAny_evalAll_cons (wpAny_bind (thn (ha pins s σ H _ I h) fun u s1 ⟨x,H1,I1,r1,q1⟩=>wpAny_bind (wpAny_standAt (wpAny_pure ?_))))
  exact thn (hr pos pins s1 σ H1 _ I1 q1) fun us s2 ⟨xs,H2,I2,r2,q2⟩=>⟨x::xs,H2,I2,.cons r1 r2,q2⟩
structure KBinds(K:PySem.W.Frag)(fd:FuncData)(ps ks:List Str)(g:List Value→List Value→List Value)(gV:List V→List V→List V):Prop where
  to:∀ (s:Shared) (us ws:List Value),K.In s.heap→(g us ws).length=ps.length→BindsTo s fd ⟨us,ks.zip ws⟩ (ps.zip (g us ws))
  rel:∀ {vs:List V} {us:List Value} {zs:List V} {ws:List Value},Vals vs us→Vals zs ws→Vals (gV vs zs) (g us ws)
variable {g:List Value→List Value→List Value}{gV:List V→List V→List V}
end
structure FnScope(N P:List Str)(sc:Scope):Prop where
  kind:sc.kind = .function
  co:sc.isCoroutine=false
  gen:sc.isGenerator=false
  nd:N.Nodup
  pre:N.take P.length=P
  par:∀ x∈P,sc.names.lookup x=some .local∨sc.names.lookup x=some .cell
  nofree:∀ y∈sc.names,y.2≠.free
theorem Qp{kindOf:Str→Option NameKind}{x:Str}:∀ {binds:List (Str×Value)} {m:Str→Option Value},(∀ v,(x,v)∉binds)→bindL kindOf binds m x=m x
  | [],_,_=>rfl
  | (n,v)::r,m,h=>by
    unfold bindL
    rw[Qp fun w hw=>h w (List.mem_cons_of_mem _ hw)]
    split
    · have:x≠n:=by rintro rfl;exact h v List.mem_cons_self
      simp[this]
    · rfl
theorem Qm{kindOf:Str→Option NameKind}{x:Str}:∀ {binds:List (Str×Value)} {m:Str→Option Value},(∀ v,(x,v)∉binds)→bindC kindOf binds m x=m x
  | [],_,_=>rfl
  | (n,v)::r,m,h=>by
    unfold bindC
    rw[Qm fun w hw=>h w (List.mem_cons_of_mem _ hw)]
    split
    · rfl
    · have:x≠n:=by rintro rfl;exact h v List.mem_cons_self
      simp[this]
theorem Qa{kindOf:Str→Option NameKind}{x:Str}{v:Value}:∀ {P:List Str} {vs:List Value} {i:Nat} {m:Str→Option Value},P.Nodup→P[i]? = some x→vs[i]? = some v→kindOf x=some .local →
    bindL kindOf (P.zip vs) m x=some v
  | [],_,_,_,_,h,_,_=>by simp at h
  | _::_,[],_,_,_,_,h,_=>by simp at h
  | p::P,w::vs,0,m,nd,h1,h2,hk=>by
    simp at h1 h2;subst h1;subst h2
    show bindL kindOf ((p,w)::P.zip vs) m p=_
    unfold bindL
    rw[Qp fun v hv=>(List.nodup_cons.mp nd).1 (List.of_mem_zip hv).1,if_pos hk]
    simp
  | p::P,w::vs,i+1,m,nd,h1,h2,hk=>by
    show bindL kindOf ((p,w)::P.zip vs) m x=_
    unfold bindL
    exact Qa (i:=i) (List.nodup_cons.mp nd).2 (by simpa using h1) (by simpa using h2) hk
theorem Qk{kindOf:Str→Option NameKind}{x:Str}{v:Value}:∀ {P:List Str} {vs:List Value} {i:Nat} {m:Str→Option Value},P.Nodup→P[i]? = some x→vs[i]? = some v→kindOf x≠some .local →
    bindC kindOf (P.zip vs) m x=some v
  | [],_,_,_,_,h,_,_=>by simp at h
  | _::_,[],_,_,_,_,h,_=>by simp at h
  | p::P,w::vs,0,m,nd,h1,h2,hk=>by
    simp at h1 h2;subst h1;subst h2
    show bindC kindOf ((p,w)::P.zip vs) m p=_
    unfold bindC
    rw[Qm fun v hv=>(List.nodup_cons.mp nd).1 (List.of_mem_zip hv).1,if_neg hk]
    simp
  | p::P,w::vs,i+1,m,nd,h1,h2,hk=>by
    show bindC kindOf ((p,w)::P.zip vs) m x=_
    unfold bindC
    exact Qk (i:=i) (List.nodup_cons.mp nd).2 (by simpa using h1) (by simpa using h2) hk
noncomputable def start(N:List Str)(vs:List V):St:=vs.map some++List.replicate (N.length - vs.length) none
noncomputable def U1(CX:CXT)(P:Program)(w:World)(K:PySem.W.Frag)(mg:Str→Option Value)(base:Heap)(N:List Str)(qual:Str)(scope:Scope)(f:Addr)(cd:Value)(A:Around)(outer:List Env)(s:Shared)(H:Hp)(E:XK):Cx where
  prog:=P
  w:=w
  K:=K
  mg:=mg
  base:=base
  A:=A.deeper (envOfC qual scope s.heap.objs.size f cd)
  N:=N
  s₀:=s
  H₀:=H
  env:=envOfC qual scope s.heap.objs.size f cd
  outer:=outer
  stack:=envOfC qual scope s.heap.objs.size f cd::outer
  ex:=[]
  calm:=true
  fn:=fun _=>true
  pn:=[]
  xe:=fun e s'=>wpAny (model P w) (A.deeper (envOfC qual scope s.heap.objs.size f cd)) (leaving (envOfC qual scope s.heap.objs.size f cd) e) (fun _ s''=>CX outer H s E e s'') (fun e' s''=>CX outer H s E e' s'') s'
theorem Tv{sc:Scope}{n:Nat}{x:Str}(h:sc.names.lookup x=some .cell):∃ c,(cellsFrom n sc.names []).lookup x=some c:=by
  have q:=PySem.W.cellsFrom_some sc.names n [] (.inl h)
  exact Option.isSome_iff_exists.mp q
theorem Ye{CX:CXT}{P:Program}{w:World}{K:PySem.W.Frag}{mg:Str→Option Value}{base:Heap}{N ps:List Str}{qual:Str}{scope:Scope}{f:Addr}{cd:Value}{A:Around}{outer:List Env}{s s1:Shared}{H:Hp}{E:XK}{us:List Value}{vs:List V}
    (S:FnScope N ps scope) (hd:A.handled=none) (e0:Env0 P w K mg base A outer s H) (hl:vs.length=ps.length) (r:Vals vs us)
    (x:InCallC s s.heap.objs.size (bindL (envOfC qual scope s.heap.objs.size f cd).kindOf (ps.zip us) fun _=>none) (cellsFrom (s.heap.objs.size+1) scope.names []) (bindC (envOfC qual scope s.heap.objs.size f cd).kindOf (ps.zip us) fun _=>none) s1) :
    Inv (U1 CX P w K mg base N qual scope f cd A outer s H E) [] (start N vs) H s1:=by
  have hpl:ps.length≤N.length:=by have:=congrArg List.length S.pre;rw[List.length_take] at this;omega
  obtain ⟨h1,tk,rfl,hk⟩:=x.done
  have noA:∀ b:Addr,b∉(U1 CX P w K mg base N qual scope f cd A outer s H E).ex:=fun b z=>absurd (show b∈([]:List Addr) from z) (by simp)
  refine ⟨⟨e0.mod,S.kind,rfl,rfl,Nat.le_refl _,fun y z c h1 h2=>?_,fun y hy=>?_,fun y c _ h=>?_,fun _=>hd,Around.frames_deeper e0.frames,.inr ⟨rfl,rfl⟩,fun b z=>absurd z (noA b),e0.bs,e0.bsz,fun b _ _=>noA b,fun b z=>absurd z (noA b),e0.funs,e0.frf⟩,
    rfl,e0.bare,Un.kept hk,⟨_,x.toInCall.ns,fun i y v h1 h2 h3=>?_⟩,fun y c h=>⟨_,x.cell y c h⟩,e0.hok.fresh (Nat.le_refl _),fun y c h=>?_,fun p hp=>absurd (show p∈([]:List (Addr×Obj)) from hp) (by simp),e0.hok.kept hk,?_⟩
  · exact name_of_addr x.apart (PySem.mem_of_lookup h1) (PySem.mem_of_lookup h2)
  · have hy:scope.names.lookup y=some .cell∨scope.names.lookup y=some .free:=hy
    rcases hy with hy | hy
    · exact Tv hy
    · exact absurd rfl (S.nofree _ (PySem.mem_of_lookup hy))
  · exact Nat.le_of_lt (x.above y c (PySem.mem_of_lookup h))
  · have hi:i < vs.length:=by
      unfold start at h2
      by_cases hi:i < vs.length
      · exact hi
      · rw[List.getElem?_append_right (by simpa using hi)] at h2
        rw[List.getElem?_replicate] at h2
        split at h2 <;> cases h2
    have ha:vs[i]? = some v:=by
      unfold start at h2
      rw[List.getElem?_append_left (by simpa using hi),List.getElem?_map] at h2
      cases e:vs[i]? with
      | none=>rw[e] at h2;cases h2
      | some a=>rw[e] at h2;cases h2;rfl
    obtain ⟨u,hu,rv⟩:=r.get ha
    have hp:ps[i]? = some y:=by
      rw[← S.pre,List.getElem?_take_of_lt (by omega)];exact h1
    have ndP:ps.Nodup:=by rw[← S.pre];exact S.nd.sublist (List.take_sublist _ _)
    refine ⟨u,rv,?_⟩
    rcases S.par y (List.mem_of_getElem? hp) with k | k
    · exact .inl ⟨k,Qa ndP hp hu k⟩
    · obtain ⟨c,e⟩:=Tv (n:=s.heap.objs.size+1) k
      refine .inr ⟨.inl k,c,e,?_⟩
      have q:=x.cell y c e
      rw[Qk ndP hp hu (by show scope.names.lookup y≠_;rw[k];decide)] at q
      exact q
  · exact e0.hok.fresh (Nat.le_of_lt (x.above y c (PySem.mem_of_lookup h)))
  · unfold start
    show _=N.length
    rw[List.length_append,List.length_map,List.length_replicate]
    omega
theorem Ajs{CX:CXT}{P:Program}{w:World}{K:PySem.W.Frag}{mg:Str→Option Value}{base:Heap}{k:Nat}{f:Addr}{name qual:Str}{params:Arguments}{body:List Stmt}{scope:Scope}{dV kV doc pm cdv ct oc:Value}{an od:Option Addr}
    {osl:Array (Option Value)} {N ps:List Str} {sp:Sp} (lk:K.lookup f=some ⟨oc,od,.func (PySem.W.fnOf name qual params body scope dV kV doc pm an cdv ct),osl⟩) (hcd:PySem.W.codeIn K cdv qual=true) (S:FnScope N ps scope)
    (len:∀ vs H Q E,sp vs H Q E→vs.length=ps.length)
    (hbody:∀ (A:Around) (outer:List Env) (s:Shared) (H:Hp) (vs:List V) (Q:VK) (E:XK),Room k (A.deeper (envOfC qual scope s.heap.objs.size f cdv))→sp vs H Q E →
      ∃ t,PSs (U1 CX P w K mg base N qual scope f cdv A outer s H E) body t∧t { nx:=fun _ H'=>Q .non H',rt:=Q } (start N vs) H) :
    FnOk P w K mg base CX (k+1) f (PySem.W.fnOf name qual params body scope dV kV doc pm an cdv ct) ps sp:=by
  refine ⟨len,fun A outer s H args us vs Q E hr e0 hb r hsp=>?_⟩
  have hl:=len _ _ _ _ hsp
  have KX:K.In s.heap:=e0.mod.kin.keeps fun b o e=>(e0.bs b o e).1
  have lim:s.heap.NoLimit:=e0.mod.nolimit.keeps fun b o e=>(e0.bs b o e).1
  have hkind:∀ y∈ps.zip us,scope.names.lookup y.1=some .local∨(scope.names.lookup y.1=some .cell∧((cellsFrom (s.heap.objs.size+1) scope.names []).lookup y.1).isSome=true):=fun ⟨n,v⟩ hy=>by
    rcases S.par n (List.of_mem_zip hy).1 with q | q
    · exact .inl q
    · exact .inr ⟨q,PySem.W.cellsFrom_some _ _ _ (.inl q)⟩
  refine codeAny_call_function hr.depth (KX _ _ lk) rfl S.co S.gen rfl (PySem.W.codeRec_of KX hcd) (hb _ _ _ _ ?_)
  refine wpAny_newFunctionEnv_cells S.kind hkind fun env he s1 x=>?_
  subst he
  refine ⟨lim.keeps x.toInCall.keep,codeAny_func ?_⟩
  obtain ⟨t,ht,hq⟩:=hbody A outer s H vs Q E (hr.deeper _) hsp
  have I:Inv (U1 CX P w K mg base N qual scope f cdv A outer s H E) [] (start N vs) H s1:=Ye S hr.hd e0 hl r x
  refine wpAny_mono (ht [] s1 (start N vs) H _ I hq) (fun fl s' hs=>?_) fun e s' hs=>hs
  have fin:∀ {σ':St} {H':Hp} {v:V} {u:Value},Inv (U1 CX P w K mg base N qual scope f cdv A outer s H E) [] σ' H' s'→RelV v u→Q v H'→CE outer P w H s Q u s':=
    fun {σ' H' v u} J rv q=>⟨v,H',J.os,J.bare,J.base,J.hok,rv,q⟩
  cases fl with
  | ret u=>
    obtain ⟨v,σ',H',J,rv,q⟩:=hs
    exact fin J rv q
  | next=>
    obtain ⟨σ',H',J,q⟩:=hs
    exact fin (v:=V.non) (u:=Value.none) J rfl q
  | brk=>
    obtain ⟨_,_,_,q⟩:=hs
    exact False.elim q
  | cont=>
    obtain ⟨_,_,_,q⟩:=hs
    exact False.elim q
section
variable {X:Cx}{x:Str}{p pos:Pos}{e:Expr}{es:List Expr}{t:TA}{id T:String}{r:List V→Hp→VK→Prop}
noncomputable def tCB(r:List V→Hp→VK→Prop)(t:TA):TE:=fun σ H Q=>t σ H fun vs H1=>r vs H1 Q
theorem Tw(hc:CallR X (.builtin id) r)(hg:Gl X x)(hm:X.mg x=none)(hv:bootBuiltins x=some (.builtin id))(ha:PA X (e::es) t)(hn:x ≠ "__name__" := by decide)(hdb:(x == ("__debug__" : Str))=false:=by decide)
    (he:starEach (e::es) X.env=(false,eval e X.env)::starEach es X.env:=by rfl) (hpl:(backTo pos (starEach es X.env)).any (·.1)=false:=by rfl):PE X (.Call (.Name x p) (e::es) [] pos) (tCB r t):=by
  intro pins s σ H Q I h
  refine wpAny_Call_Name_kw (Gg I hg hm hv ?_ hn hdb)
  exact PyProof.Rows.callWith_builtin1 (thn (ha pos pins s σ H _ I h) fun us s1 ⟨vs,H1,I1,r1,q1⟩=>hc pins s1 σ H1 vs us Q I1 r1 q1) he hpl
theorem Yu(hc:CallR X (.type T) r)(hg:Gl X x)(hm:X.mg x=none)(hv:bootBuiltins x=some (.type T))(ha:PA X (e::es) t)(hn:x ≠ "__name__" := by decide)(hdb:(x == ("__debug__" : Str))=false:=by decide)
    (he:starEach (e::es) X.env=(false,eval e X.env)::starEach es X.env:=by rfl) (hpl:(backTo pos (starEach es X.env)).any (·.1)=false:=by rfl):PE X (.Call (.Name x p) (e::es) [] pos) (tCB r t):=by
  intro pins s σ H Q I h
  refine wpAny_Call_Name_kw (Gg I hg hm hv ?_ hn hdb)
  exact PyProof.Rows.callWith_type1 (thn (ha pos pins s σ H _ I h) fun us s1 ⟨vs,H1,I1,r1,q1⟩=>hc pins s1 σ H1 vs us Q I1 r1 q1) he hpl
end
end L2
namespace HT
open PySem PyProof.Rows
section
open PySem.SeqAt
open PySem.AutoSeq1 (wpAny_loadPart')
open PySem.MeetsSeq PySem.MeetsSeq2 PySem.MeetsSeq3
end
section
variable {prog:Program}{w:World}{A:Around}{E:Value→Shared→Prop}{s:Shared}
theorem Aev{t b:Addr}{vs ws:List Value}{Q:Value→Shared→Prop}(ht:IsTup s.heap t vs.toArray)(hb:IsTup s.heap b ws.toArray)(hv:vs≠[])
    (h1:ws=[]→Q (.ref t) s) (h2:ws≠[]→Q (.ref s.heap.objs.size) { s with heap:=s.heap.push { cls:=.type "tuple",data:=.seq (vs++ws).toArray } })
    (hsz:vs.length+ws.length≤sizeLine):wpAny (model prog w) A (binaryOp .Add (.ref t) (.ref b)) Q E s:=by
  obtain ⟨⟨cls,dd,data,sl⟩,ho,hc,n,hd⟩:=id ht
  obtain ⟨⟨cls2,dd2,data2,sl2⟩,ho2,hc2,n2,hd2⟩:=id hb
  simp only at hc hd hc2 hd2
  subst hc hd hc2 hd2
  have e:vs.toArray++ws.toArray=(vs++ws).toArray:=by simp
  by_cases hw:ws=[]
  · exact concat_meets ⟨_,ho,rfl⟩ ⟨_,ho2,rfl⟩ noFill_tuple_add seq_tuple_add PySem.F.slot_tuple_add PySem.F.entry_tuple_add (PySem.F.args_tuple_add_2 _ _)
      (tuple_addW1 t b vs.toArray ws.toArray n n2 dd dd2 sl sl2 (by simpa using hv) (by simp[hw])) ⟨ho,ho2,h1 hw⟩
  · refine concat_meets ⟨_,ho,rfl⟩ ⟨_,ho2,rfl⟩ noFill_tuple_add seq_tuple_add PySem.F.slot_tuple_add PySem.F.entry_tuple_add (PySem.F.args_tuple_add_2 _ _)
      (tuple_addW2 t b vs.toArray ws.toArray n n2 dd dd2 sl sl2 (by simpa using hv) (by simpa using hw) (by rw[List.size_toArray,List.size_toArray];exact hsz)) ⟨ho,ho2,?_⟩
    rw[e]
    exact h2 hw
noncomputable def sIx(n d:Nat):Option Int→Nat
  | none=>d
  | some v=>if v < 0 then (v+(n:Int)).toNat else min v.toNat n
theorem R9(n d:Nat):sIx n d none=d:=rfl
theorem Ld(n d k:Nat):sIx n d (some (k:Int))=min k n:=by
  show (if (k:Int) < 0 then ((k:Int)+(n:Int)).toNat else min (k:Int).toNat n)=min k n
  rw[if_neg (by omega),Int.toNat_natCast]
theorem Ahp(n d:Nat)(hd:d≤n)(o:Option Int):sIx n d o≤n:=by
  cases o with
  | none=>exact hd
  | some v=>
    show (if v < 0 then (v+(n:Int)).toNat else min v.toNat n)≤n
    by_cases hv:v < 0
    · rw[if_pos hv];omega
    · rw[if_neg hv];exact Nat.min_le_right _ _
theorem Wa(v:Int)(n d:Nat):(if v < 0 then max (v+(n:Int)) 0 else min v (n:Int))=((sIx n d (some v):Nat):Int):=by
  show (if v < 0 then max (v+(n:Int)) 0 else min v (n:Int))=(((if v < 0 then (v+(n:Int)).toNat else min v.toNat n):Nat):Int)
  by_cases hv:v < 0
  · simp only[if_pos hv];omega
  · simp only[if_neg hv];omega
theorem Ux(lo hi:Option Int)(n:Nat):Builtin.Slice.sliceAdjust lo hi 1 (n:Int)=(((sIx n 0 lo:Nat):Int),((sIx n n hi:Nat):Int)):=by
  have h1:¬ ((1:Int) < 0):=by omega
  unfold Builtin.Slice.sliceAdjust
  simp only[h1,if_false]
  refine Prod.ext ?_ ?_
  · cases lo with
    | none=>rfl
    | some v=>exact Wa v n 0
  · cases hi with
    | none=>rfl
    | some v=>exact Wa v n n
theorem Uf(i j:Nat):Builtin.Slice.slicePlaces (i:Int) (j:Int) 1=j - i:=by
  unfold Builtin.Slice.slicePlaces
  have h1:(1:Int) > 0:=by omega
  simp only[h1,if_true,Int.ediv_one]
  split <;> omega
theorem Og{v:Value}{o:Option Int}{Q:Option Int→Shared→Prop}(p:IsPart v o)(h:Q o s):wpAny (model prog w) A (Builtin.Slice.slicePartIndex v) Q E s:=by
  cases p with
  | none=>exact slicePart_none h
  | int i t=>exact slicePart_int h
theorem Io{sl:Addr}{vl vu:Value}{lo hi:Option Int}{n:Nat}{Q:Int×Int×Nat→Shared→Prop}(hs:s.heap.IsSliceOf sl vl vu .none)(pl:IsPart vl lo)(pu:IsPart vu hi)
    (h:Q (((sIx n 0 lo:Nat):Int),1,sIx n n hi - sIx n 0 lo) s):wpAny (model prog w) A (Builtin.Slice.sliceApplied (.ref sl) (pure (n:Int))) Q E s:=by
  obtain ⟨os,hos,hcs,hds⟩:=id hs
  unfold Builtin.Slice.sliceApplied Builtin.Slice.sliceFields
  refine wpAny_bind (wpAny_bind (wpAny_field hos hds (x:=vl) rfl (wpAny_bind (wpAny_field hos hds (x:=vu) rfl (wpAny_bind (wpAny_field hos hds (x:=.none) rfl (wpAny_pure ?_)))))))
  refine wpAny_bind (slicePart_none ?_)
  show wpAny _ _ (if ((1:Int) == 0)=true then _ else _) _ _ s
  rw[if_neg (by decide)]
  refine wpAny_bind (Og pl (wpAny_bind (Og pu (wpAny_bind (wpAny_pure ?_)))))
  show wpAny _ _ (match Builtin.Slice.sliceAdjust lo hi 1 (n:Int) with | (lo,hi)=>pure (lo,(1:Int),Builtin.Slice.slicePlaces lo hi 1)) _ _ s
  rw[Ux lo hi n]
  show wpAny _ _ (pure (((sIx n 0 lo:Nat):Int),(1:Int),Builtin.Slice.slicePlaces ((sIx n 0 lo:Nat):Int) ((sIx n n hi:Nat):Int) 1)) _ _ s
  rw[Uf]
  exact wpAny_pure h
theorem Aa9(xs:Array Value)(i k:Nat):((List.range k).filterMap fun (m:Nat)=>xs[((i:Int)+(m:Int) * 1).toNat]?).toArray=((xs.toList.drop i).take k).toArray:=by
  have e:(fun (m:Nat)=>xs[((i:Int)+(m:Int) * 1).toNat]?)=fun m=>xs[i+m]?:=by
    funext m
    have:((i:Int)+(m:Int) * 1).toNat=i+m:=by omega
    rw[this]
  rw[e]
  have:=pick_run xs i k
  rw[List.filterMap_map] at this
  have e2:((fun x=>xs[x]?)∘fun x=>i+x)=fun m=>xs[i+m]?:=rfl
  rw[e2] at this
  rw[this]
theorem Lk{t sl:Addr}{items:Array Value}{vl vu:Value}{lo hi:Option Int}{Q:Value→Shared→Prop}(ht:IsTup s.heap t items)(hs:s.heap.IsSliceOf sl vl vu .none)(pl:IsPart vl lo)(pu:IsPart vu hi)
    (hw:¬ (sIx items.size 0 lo=0∧sIx items.size items.size hi=items.size))
    (h:Q (.ref s.heap.objs.size) { s with heap:=s.heap.push { cls:=.type "tuple",data:=.seq ((items.toList.drop (sIx items.size 0 lo)).take (sIx items.size items.size hi - sIx items.size 0 lo)).toArray } })
    (hsz:items.size≤sizeLine):wpAny (model prog w) A (getItem (.ref t) (.ref sl)) Q E s:=by
  have htake:sizeOk (.seq ((items.toList.drop (sIx items.size 0 lo)).take (sIx items.size items.size hi - sIx items.size 0 lo)).toArray):=by
    show ((items.toList.drop (sIx items.size 0 lo)).take (sIx items.size items.size hi - sIx items.size 0 lo)).toArray.size≤sizeLine
    rw[List.size_toArray,List.length_take,List.length_drop,Array.length_toList]
    omega
  have hj:sIx items.size items.size hi≤items.size:=Ahp _ _ (Nat.le_refl _) hi
  obtain ⟨os,hos,hcs,hds⟩:=id hs
  have hTs:s.TypeIs (.ref sl) "slice" := ⟨os,hos,hcs⟩
  unfold getItem
  try with_reducible refine wpAny_holding ?_
  first | refine wpAny_bind (wpAny_pure ?_) | skip
  refine wpAny_bind (wpAny_sequenceKey ht.typeIs (by decide) ?_)
  refine wpAny_bind (wpAny_callSpecial?_slot (name:=Str.ofString "__getitem__") ht.typeIs PyProof.Rows.slot_tuple_getitem
    (wpAny_call_entry PyProof.Rows.slot_tuple_getitem ht.typeIs entry_tuple_getitem ?_ (args_tuple_getitem _ _)))
  show wpAny _ _ (Builtin.Tuple.tupleItemsOf (.ref t) >>= _) _ _ s
  refine wpAny_bind (tupleItemsOf_ ht ?_)
  refine wpAny_bind (wpAny_typeOf hTs ?_)
  rw[if_pos (by decide)]
  refine wpAny_bind (Io hs pl pu ?_)
  have hno:¬ ((((sIx items.size 0 lo:Nat):Int) == 0&&(1:Int) == 1&&(sIx items.size items.size hi - sIx items.size 0 lo) == items.size)=true):=by
    intro q
    rw[Bool.and_eq_true,Bool.and_eq_true] at q
    have q1:((sIx items.size 0 lo:Nat):Int)=0:=eq_of_beq q.1.1
    have q2:sIx items.size items.size hi - sIx items.size 0 lo=items.size:=eq_of_beq q.2
    exact hw ⟨by omega,by omega⟩
  show wpAny _ _ (if (((sIx items.size 0 lo:Nat):Int) == 0&&(1:Int) == 1&&(sIx items.size items.size hi - sIx items.size 0 lo) == items.size)=true then _ else _) _ _ s
  rw[if_neg hno,Aa9]
  first
    | exact wpAny_bind (m:=Builtin.Tuple.tupleExact _) (wpAny_newObj_type (wpAny_pure ⟨_,rfl,wpAny_pure h⟩) htake)
    | exact wpAny_bind (m:=Builtin.Tuple.tupleExact _) (wpAny_newObj_type (wpAny_bind (wpAny_pure (wpAny_pure ⟨_,rfl,wpAny_pure h⟩))) htake)
    | exact wpAny_bind (wpAny_bind (m:=Builtin.Tuple.tupleExact _) (wpAny_newObj_type (wpAny_pure (wpAny_pure ⟨_,rfl,wpAny_pure h⟩)) htake))
    | exact wpAny_bind (wpAny_bind (m:=Builtin.Tuple.tupleExact _) (wpAny_newObj_type (wpAny_pure ⟨_,rfl,wpAny_pure h⟩) htake))
end
end HT
namespace L2
open PySem PySem.Spec PyProof.Rows
noncomputable abbrev TO:=St→Hp→(Option Int→Hp→Prop)→Prop
noncomputable def PO(X:Cx)(e:Option Expr)(t:TO):Prop:=
  ∀ (pins:List (Addr×Obj)) (s:Shared) (σ:St) (H:Hp) (Q:Option Int→Hp→Prop),Inv X pins σ H s→t σ H Q →
    wpAny (model X.prog X.w) X.A (evalPart e X.env) (fun u s'=>∃ o H',Inv X pins σ H' s'∧IsPart u o∧Q o H') X.xe s
noncomputable def Aeo:TO:=fun _ H Q=>Q none H
noncomputable def Aj3(t:TE):TO:=fun σ H Q=>t σ H fun x H1=>∃ i,x = .int i∧Q (some i) H1
theorem Kt{ns:List Int}:∀ {us:List Value},Vals (ns.map V.int) us→IntsAre us ns:=by
  induction ns with
  | nil=>intro us r;rw[List.map_nil] at r;cases r;exact .nil
  | cons n ns ih=>
    intro us r
    rw[List.map_cons] at r
    cases r with
    | cons r1 r2=>
      obtain ⟨t,e⟩:=r1
      subst e
      exact .cons n t (ih r2)
section
variable {X:Cx}{e:Expr}{te:TE}{lo hi:Option Expr}{tl th:TO}{pos p2:Pos}
theorem Aec:PO X none Aeo:=by
  intro pins s σ H Q I h
  rw[evalPart_none]
  exact wpAny_pure ⟨none,H,I,.none,h⟩
theorem Ady(h:PE X e te):PO X (some e) (Aj3 te):=by
  intro pins s σ H Q I hw
  rw[evalPart_some]
  refine thn (h pins s σ H _ I hw) fun u s1 ⟨x,H1,I1,r1,q1⟩=>?_
  obtain ⟨i,rfl,q⟩:=q1
  obtain ⟨t,rfl⟩:=r1
  exact ⟨some i,H1,I1,.int i t,q⟩
noncomputable def SlR(X:Cx)(r:V→Option Int→Option Int→Hp→VK→Prop):Prop:=
  ∀ (pins:List (Addr×Obj)) (s:Shared) (σ:St) (H:Hp) (x:V) (v vl vu:Value) (lo hi:Option Int) (sl:Addr) (Q:VK),Inv X pins σ H s→RelV x v→s.heap.IsSliceOf sl vl vu .none→IsPart vl lo→IsPart vu hi→r x lo hi H Q →
    ∃ T id,typeLookup (.type T) "__getitem__" = pure (some (.builtin id))∧s.TypeIs v T∧wpAny (model X.prog X.w) X.A (getItem v (.ref sl)) (EP X pins σ Q) X.xe s
theorem SlR.or{r r':V→Option Int→Option Int→Hp→VK→Prop}(h:SlR X r)(h':SlR X r'):SlR X (fun x lo hi H Q=>r x lo hi H Q∨r' x lo hi H Q):=by
  intro pins s σ H x v vl vu lo hi sl Q I rx hs pl pu q
  rcases q with q | q
  · exact h pins s σ H x v vl vu lo hi sl Q I rx hs pl pu q
  · exact h' pins s σ H x v vl vu lo hi sl Q I rx hs pl pu q
noncomputable def tSl(r:V→Option Int→Option Int→Hp→VK→Prop)(te:TE)(tl th:TO):TE:=fun σ H Q=>te σ H fun x H1=>tl σ H1 fun l H2=>th σ H2 fun u H3=>r x l u H3 Q
theorem Aaa{r:V→Option Int→Option Int→Hp→VK→Prop}(hr:SlR X r)(he:PE X e te)(hl:PO X lo tl)(hu:PO X hi th):PE X (.Subscript e (.Slice lo hi none p2) pos) (tSl r te tl th):=by
  intro pins s σ H Q I h
  refine Subscript_ (thn (he pins s σ H _ I h) fun v s1 ⟨x,H1,I1,r1,q1⟩=>?_)
  refine wpAny_Slice (thn (hl pins s1 σ H1 _ I1 q1) fun vl s2 ⟨l,H2,I2,pl,q2⟩=>thn (hu pins s2 σ H2 _ I2 q2) fun vu s3 ⟨u,H3,I3,pu,q3⟩=>?_)
  rw[evalPart_none]
  refine wpAny_pure ?_
  have I4:Inv X pins σ H3 { s3 with heap:=s3.heap.push { cls:=.type "slice",data:=.fields #[vl,vu,.none] } }:=I3.kept (t':=s3.toks) fun b ob q=>Heap.get?_push_of_some _ q
  obtain ⟨T,id,hT,ht,hg⟩:=hr pins { s3 with heap:=s3.heap.push { cls:=.type "slice",data:=.fields #[vl,vu,.none] } } σ H3 x v vl vu l u s3.heap.objs.size Q I4 r1 (Heap.IsSliceOf.new ..) pl pu q3
  show wpAny (model X.prog X.w) X.A (subscriptTail e (.Slice lo hi none p2) v (.ref s3.heap.objs.size)) (EP X pins σ Q) X.xe { s3 with heap:=s3.heap.push { cls:=.type "slice",data:=.fields #[vl,vu,.none] } }
  exact tail_any (ops:=[.ref s3.heap.objs.size,v]) ht hT hg (by with_unfolding_all rfl)
noncomputable def Tt(xs:List V)(lo hi:Option Int):List V:=(xs.drop (HT.sIx xs.length 0 lo)).take (HT.sIx xs.length xs.length hi - HT.sIx xs.length 0 lo)
theorem Mz(xs:List V)(lo hi:Option Int):(Tt xs lo hi).length≤xs.length:=by
  unfold Tt
  rw[List.length_take,List.length_drop]
  omega
noncomputable def Ajm(K:PySem.W.Frag):V→Option Int→Option Int→Hp→VK→Prop:=fun x lo hi H Q=>∃ a xs,x = .ref a∧SqT K H a xs ∧
  ¬ (HT.sIx xs.length 0 lo=0∧HT.sIx xs.length xs.length hi=xs.length)∧∀ p,H p=none→Q (.ref p) (upd H p (.tup (Tt xs lo hi)))
theorem Aga:SlR X (Ajm X.K):=by
  intro pins s σ H x v vl vu lo hi sl Q I rx hs pl pu h
  obtain ⟨a,xs,rfl,hx,hw,q⟩:=h
  cases rx
  obtain ⟨its,r,ht,hz⟩:=I.tuple hx
  have hlen:its.toArray.size=xs.length:=by rw[List.size_toArray];exact r.length.symm
  refine ⟨"tuple",_,PyProof.Rows.slot_tuple_getitem.lookup,ht.typeIs,?_⟩
  refine HT.Lk ht hs pl pu (by rw[hlen];exact hw) ?_ (by rw[hlen];exact hz)
  rw[hlen]
  refine ⟨.ref s.heap.objs.size,_,I.laid (t':=s.toks) (o:=.tup (Tt xs lo hi)) (fun b ob q=>Heap.get?_push_of_some _ q) (Nat.le_refl _) ?_,rfl,q _ (I.hok.fresh (Nat.le_refl _))⟩
  exact ⟨Nat.le_trans (Mz xs lo hi) hz,_,(r.drop (HT.sIx xs.length 0 lo)).take (HT.sIx xs.length xs.length hi - HT.sIx xs.length 0 lo),TupN.new _ _⟩
noncomputable def Afu(K:PySem.W.Frag):R2:=fun x y H Q=>∃ a b xs ys,x = .ref a∧y = .ref b∧SqT K H a xs∧SqT K H b ys∧xs≠[]∧xs.length+ys.length≤sizeLine ∧
  (ys=[]→Q (.ref a) H)∧(ys≠[]→∀ p,H p=none→Q (.ref p) (upd H p (.tup (xs++ys))))
theorem Vals.nil_iff{xs:List V}{us:List Value}(r:Vals xs us):us=[]↔xs=[]:=by
  cases r with
  | nil=>simp
  | cons _ _=>simp
theorem Adz:OpR X (binaryOp .Add) (Afu X.K):=by
  intro pins s σ H x y v u Q I rx ry h
  obtain ⟨a,b,xs,ys,rfl,rfl,ha,hb,hx,hz,q1,q2⟩:=h
  cases rx
  cases ry
  obtain ⟨its,r1,p1,_⟩:=I.tuple ha
  obtain ⟨its2,r2,p2,_⟩:=I.tuple hb
  refine HT.Aev p1 p2 (fun z=>hx (r1.nil_iff.mp z)) (fun z=>⟨.ref a,H,I,rfl,q1 (r2.nil_iff.mp z)⟩) (fun z=>?_) (by rw[← r1.length,← r2.length];exact hz)
  refine ⟨.ref s.heap.objs.size,_,I.laid (t':=s.toks) (o:=.tup (xs++ys)) (fun b ob q=>Heap.get?_push_of_some _ q) (Nat.le_refl _) ?_,rfl,q2 (fun w=>z (r2.nil_iff.mpr w)) _ (I.hok.fresh (Nat.le_refl _))⟩
  exact ⟨by rw[List.length_append];exact hz,_,r1.append r2,TupN.new _ _⟩
end
noncomputable def ixN(n:Nat)(i:Int):Option Nat:=if 0≤i then (if i < n then some i.toNat else none) else if -(n:Int)≤i then some (i+n).toNat else none
noncomputable def atI{α:Type}(xs:List α)(i:Int):Option α:=(ixN xs.length i).bind fun j=>xs[j]?
theorem W9{n:Nat}{i:Int}{j:Nat}(h:ixN n i=some j):seqIndex? i n=some j∧j < n∧-(n:Int)≤i∧i < n:=by
  unfold ixN at h
  by_cases h0:0≤i
  · rw[if_pos h0] at h
    by_cases h1:i < n
    · rw[if_pos h1] at h
      have e:i.toNat=j:=Option.some.inj h
      exact ⟨by rw[seqIndex_of h0 h1,e],by omega,by omega,h1⟩
    · rw[if_neg h1] at h;cases h
  · rw[if_neg h0] at h
    by_cases h1:-(n:Int)≤i
    · rw[if_pos h1] at h
      have e:(i+n).toNat=j:=Option.some.inj h
      exact ⟨by rw[seqIndex_neg (by omega) h1,e],by omega,h1,by omega⟩
    · rw[if_neg h1] at h;cases h
theorem Rq{α:Type}{xs:List α}{i:Int}{v:α}(h:atI xs i=some v):∃ j,seqIndex? i xs.length=some j∧xs[j]? = some v∧j < xs.length∧-(xs.length:Int)≤i∧i < xs.length:=by
  unfold atI at h
  cases e:ixN xs.length i with
  | none=>rw[e] at h;cases h
  | some j=>
    rw[e] at h
    obtain ⟨h1,h2,h3,h4⟩:=W9 e
    exact ⟨j,h1,h,h2,h3,h4⟩
noncomputable def V4(b:Expr):Prop:=∀ o i,subscripted b false o i=operate [o,i] (getItem o i)
noncomputable def IxR(X:Cx)(r:R2):Prop:=
  ∀ (value slice:Expr) (pins:List (Addr×Obj)) (s:Shared) (σ:St) (H:Hp) (x y:V) (v u:Value) (Q:VK),Inv X pins σ H s→RelV x v→RelV y u→r x y H Q →
    subscripted slice false v u=operate [v,u] (getItem v u)→wpAny (model X.prog X.w) X.A (subscriptTail value slice v u) (EP X pins σ Q) X.xe s
noncomputable def MtR(X:Cx)(id:String)(r:V→List V→Hp→VK→Prop):Prop:=
  ∀ (pins:List (Addr×Obj)) (s:Shared) (σ:St) (H:Hp) (x:V) (xs:List V) (v:Value) (us:List Value) (Q:VK),Inv X pins σ H s→RelV x v→Vals xs us→r x xs H Q →
    wpAny (model X.prog X.w) X.A (call (.builtin id) (v::us)) (EP X pins σ Q) X.xe s
section
variable {X:Cx}{a b:Expr}{ta tb:TE}{pos:Pos}
theorem IxR.or{r r':R2}(h:IxR X r)(h':IxR X r'):IxR X (fun x y H Q=>r x y H Q∨r' x y H Q):=by
  intro value slice pins s σ H x y v u Q I rx ry q hs
  rcases q with q | q
  · exact h value slice pins s σ H x y v u Q I rx ry q hs
  · exact h' value slice pins s σ H x y v u Q I rx ry q hs
theorem MtR.or{id:String}{r r':V→List V→Hp→VK→Prop}(h:MtR X id r)(h':MtR X id r'):MtR X id (fun x xs H Q=>r x xs H Q∨r' x xs H Q):=by
  intro pins s σ H x xs v us Q I rx rs q
  rcases q with q | q
  · exact h pins s σ H x xs v us Q I rx rs q
  · exact h' pins s σ H x xs v us Q I rx rs q
theorem Aj9{r:R2}(hr:IxR X r)(ha:PE X a ta)(hb:PE X b tb)(hs:V4 b):PE X (.Subscript a b pos) (tOp r ta tb):=by
  intro pins s σ H Q I h
  exact Subscript_ (Ah4 ha hb I h fun v u s2 x y H2 I2 rx ry q=>hr a b pins s2 σ H2 x y v u Q I2 rx ry q (hs _ _))
noncomputable def Aj0(K:PySem.W.Frag):R2:=fun x y H Q=>∃ p xs i v,x = .ref p∧y = .int i∧SqL K H p xs∧atI xs i=some v∧Q v H
noncomputable def Akd(K:PySem.W.Frag):R2:=fun x y H Q=>∃ p xs i v,x = .ref p∧y = .int i∧SqT K H p xs∧atI xs i=some v∧Q v H
noncomputable def Aj6:R2:=fun x y H Q=>∃ z i c,x = .str z∧y = .int i∧z.length≤sizeLine∧atI z.cps.toList i=some c∧Q (.str ⟨#[c]⟩) H
theorem Afg:IxR X (Aj0 X.K):=by
  intro value slice pins s σ H x y v u Q I rx ry h hs
  obtain ⟨p,xs,i,z,rfl,rfl,hq,he,q⟩:=h
  cases rx
  obtain ⟨t,rfl⟩:=ry
  obtain ⟨its,r,pl,hz⟩:=I.list hq
  obtain ⟨j,h1,h2,h3,h4,h5⟩:=Rq he
  obtain ⟨w,ew,rw'⟩:=r.get h2
  have hl:=r.length
  have hn:=Mm
  have fin:EP X pins σ Q w s:=⟨z,H,I,rw',q⟩
  by_cases h0:0≤i
  · have hj:i.toNat=j:=by
      rw[seqIndex_of h0 h5] at h1
      exact Option.some.inj h1
    exact item_listR pl.isList h0 (by omega) (by rw[hj];simpa using ew) fin hs
  · have hj:(i+(its.toArray.size:Int)).toNat=j:=by
      rw[seqIndex_neg (by omega) h4] at h1
      rw[List.size_toArray,← hl]
      exact Option.some.inj h1
    exact subscriptTail_builtinR (x:=w) pl.isList.typeIs slot_list_getitem.lookup
      (wpAny_getItem_list_neg (Q:=fun r s'=>r=w∧EP X pins σ Q r s') pl.isList (by omega) (by rw[List.size_toArray] <;> omega) (by omega) (by rw[hj];simpa using ew) ⟨rfl,fin⟩) hs
theorem Ahv:IxR X (Akd X.K):=by
  intro value slice pins s σ H x y v u Q I rx ry h hs
  obtain ⟨p,xs,i,z,rfl,rfl,hq,he,q⟩:=h
  cases rx
  obtain ⟨t,rfl⟩:=ry
  obtain ⟨its,r,pl,hz⟩:=I.tuple hq
  obtain ⟨j,h1,h2,h3,h4,h5⟩:=Rq he
  obtain ⟨w,ew,rw'⟩:=r.get h2
  have hl:=r.length
  have hn:=Mm
  have fin:EP X pins σ Q w s:=⟨z,H,I,rw',q⟩
  exact subscriptTail_builtinR (x:=w) pl.typeIs slot_tuple_getitem.lookup
    (getItem_tuple (j:=j) (Q:=fun r s'=>r=w∧EP X pins σ Q r s') pl (by omega) (by omega) (by rw[List.size_toArray,← hl];exact h1) (by simpa using ew) ⟨rfl,fin⟩) hs
theorem Aha:IxR X Aj6:=by
  intro value slice pins s σ H x y v u Q I rx ry h hs
  obtain ⟨z,i,c,rfl,rfl,hz,he,q⟩:=h
  obtain ⟨t,rfl⟩:=rx
  obtain ⟨t',rfl⟩:=ry
  obtain ⟨j,h1,h2,h3,h4,h5⟩:=Rq he
  have hl:z.cps.toList.length=z.length:=by simp[Str.length]
  rw[hl] at h1 h4 h5
  have hn:=Mm
  exact tail_any (typeIs_str s z t) slot_str_getitem.lookup (getItem_str (c:=c) (by
    have e1:decide (i < -(2 ^ 63:Int))=false:=decide_eq_false (by omega)
    have e2:decide (i ≥ 2 ^ 63)=false:=decide_eq_false (by omega)
    rw[e1,e2,Bool.or_false]) (by rw[h1];simpa using h2) ⟨.str ⟨#[c]⟩,H,I.tok _,⟨_,rfl⟩,q⟩) hs
noncomputable def rIx(K:PySem.W.Frag):R2:=fun x y H Q=>Aj0 K x y H Q∨Akd K x y H Q∨Aj6 x y H Q
theorem Fm:IxR X (rIx X.K):=Afg.or (Ahv.or Aha)
theorem U3(its:List Value)(n j:Nat)(u:Value):Obj.mapSeq (·.setIfInBounds j u) { cls:=.type "list",data:=.seq its.toArray n } = { cls:=.type "list",data:=.seq (its.set j u).toArray n }:=by
  simp[Obj.mapSeq]
theorem Inv.lst{pins:List (Addr×Obj)}{σ:St}{H:Hp}{s:Shared}{p:Addr}{xs:List V}(I:Inv X pins σ H s)(h:H p=some (.lst xs)) :
    ∃ (its:List Value) (n:Nat),Vals xs its∧s.heap.get? p=some { cls:=.type "list",data:=.seq its.toArray n }∧xs.length≤sizeLine:=by
  obtain ⟨z,its,n,r,e⟩:=I.hok p _ h
  exact ⟨its,n,r,e,z⟩
theorem Inv.lstUpd{pins:List (Addr×Obj)}{σ:St}{H:Hp}{s:Shared}{p:Addr}{xs ys:List V}{its its':List Value}{n n':Nat}{f:Obj→Obj}(I:Inv X pins σ H s)(h:H p=some (.lst xs))
    (ho:s.heap.get? p=some { cls:=.type "list",data:=.seq its.toArray n }) (hf:f { cls:=.type "list",data:=.seq its.toArray n } = { cls:=.type "list",data:=.seq its'.toArray n' }) (r:Vals ys its') (hz:ys.length≤sizeLine) (t:Nat) :
    Inv X pins σ (upd H p (.lst ys)) { s with heap:=s.heap.update p f,toks:=t }:=by
  have e:(s.heap.update p f).get? p=some { cls:=.type "list",data:=.seq its'.toArray n' }:=by
    rw[Heap.get?_update_self f ho (by rw[hf] <;> rfl),hf]
  refine I.write (x:=p) (e:=p) (by rw[h];trivial) (.inl rfl) (fun b u hb q=>(Heap.get?_update_other _ _ (Ne.symm hb)).trans q) ⟨_,e⟩ ?_
  exact ⟨hz,its',n',r,e⟩
noncomputable def Aiv:V→V→V→Hp→(Hp→Prop)→Prop:=fun o i v H Q=>∃ p xs k j,o = .ref p∧i = .int k∧H p=some (.lst xs)∧ixN xs.length k=some j∧Q (upd H p (.lst (xs.set j v)))
theorem Aae:Ai8 X Aiv:=by
  intro pins s σ H o i v ov iv u Q I ro ri rv h
  obtain ⟨p,xs,k,j,rfl,rfl,hp,hj,q⟩:=h
  cases ro
  obtain ⟨t,rfl⟩:=ri
  obtain ⟨its,n,r,ho,hz⟩:=I.lst hp
  obtain ⟨h1,h2,h3,h4⟩:=W9 hj
  have hl:=r.length
  have hn:=Mm
  have I':Inv X pins σ (upd H p (.lst (xs.set j v))) { s with heap:=s.heap.update p (Obj.mapSeq (·.setIfInBounds j u)) }:=
    I.lstUpd hp ho (U3 its n j u) (r.set rv j) (by rw[List.length_set];exact hz) s.toks
  by_cases h0:0≤k
  · have hk:k.toNat=j:=by
      rw[seqIndex_of h0 h4] at h1
      exact Option.some.inj h1
    exact PySem.W.ki_setAt ho h0 (by omega) (by rw[List.size_toArray,← hl];exact h4) (by rw[hk];exact ⟨_,I',q⟩)
  · have hk:(k+(its.toArray.size:Int)).toNat=j:=by
      rw[seqIndex_neg (by omega) h3] at h1
      rw[List.size_toArray,← hl]
      exact Option.some.inj h1
    exact PySem.W.ki_setBack ho (by omega) (by rw[List.size_toArray,← hl];exact h3) (by omega) (by rw[hk];exact ⟨_,I',q⟩)
theorem Q7(lo hi:Option Int)(n:Nat):(sliceBounds lo hi none n).1=((HT.sIx n 0 lo:Nat):Int)∧(sliceBounds lo hi none n).2.1=((HT.sIx n n hi:Nat):Int)∧(sliceBounds lo hi none n).2.2=1:=by
  refine ⟨?_,?_,rfl⟩
  · cases lo with
    | none=>simp[sliceBounds,HT.sIx]
    | some i=>
      simp only[sliceBounds,HT.sIx,Option.getD_none,show (1:Int) > 0 by decide,if_true]
      by_cases h:i < 0
      · simp only[h,if_true] <;> omega
      · simp only[h,if_false] <;> omega
  · cases hi with
    | none=>simp[sliceBounds,HT.sIx]
    | some i=>
      simp only[sliceBounds,HT.sIx,Option.getD_none,show (1:Int) > 0 by decide,if_true]
      by_cases h:i < 0
      · simp only[h,if_true] <;> omega
      · simp only[h,if_false] <;> omega
theorem P2(its:List Value)(lo hi:Option Int):slicePick its.toArray lo hi none=((its.drop (HT.sIx its.length 0 lo)).take (HT.sIx its.length its.length hi - HT.sIx its.length 0 lo)).toArray:=by
  obtain ⟨h1,h2,h3⟩:=Q7 lo hi its.toArray.size
  unfold slicePick
  rw[h1,h2,h3]
  simp only[sliceRange_one,pick_run,List.size_toArray] <;> rfl
noncomputable def Aj7(K:PySem.W.Frag):V→Option Int→Option Int→Hp→VK→Prop:=fun x lo hi H Q=>∃ a xs,x = .ref a∧SqL K H a xs∧∀ p,H p=none→Q (.ref p) (upd H p (.lst (Tt xs lo hi)))
theorem Ae7:SlR X (Aj7 X.K):=by
  intro pins s σ H x v vl vu lo hi sl Q I rx hs pl pu h
  obtain ⟨a,xs,rfl,hx,q⟩:=h
  cases rx
  obtain ⟨its,r,ht,hz⟩:=I.list hx
  have hlen:=r.length
  refine ⟨"list",_,slot_list_getitem.lookup,ht.isList.typeIs,?_⟩
  refine wpAny_getItem_list_slice ht.isList hs pl pu .none (by simp) ?_ (by rw[List.size_toArray] <;> omega)
  rw[P2,← hlen]
  refine ⟨.ref s.heap.objs.size,_,I.laid (t':=s.toks) (o:=.lst (Tt xs lo hi)) (fun b ob q=>Heap.get?_push_of_some _ q) (Nat.le_refl _) ?_,rfl,q _ (I.hok.fresh (Nat.le_refl _))⟩
  exact ⟨Nat.le_trans (Mz xs lo hi) hz,_,0,(r.drop (HT.sIx xs.length 0 lo)).take (HT.sIx xs.length xs.length hi - HT.sIx xs.length 0 lo),Heap.get?_push_size _ rfl⟩
theorem CallR.or{f:Value}{r r':List V→Hp→VK→Prop}(h:CallR X f r)(h':CallR X f r'):CallR X f (fun xs H Q=>r xs H Q∨r' xs H Q):=by
  intro pins s σ H xs us Q I rs q
  rcases q with q | q
  · exact h pins s σ H xs us Q I rs q
  · exact h' pins s σ H xs us Q I rs q
theorem B2:CallR X (.type "tuple") (fun xs H Q=>∃ p ys,xs=[.ref p]∧((SqL X.K H p ys∧∀ l,H l=none→Q (.ref l) (upd H l (.tup ys)))∨(SqT X.K H p ys∧Q (.ref p) H))):=by
  intro pins s σ H xs us Q I r h
  obtain ⟨p,ys,rfl,h⟩:=h
  obtain ⟨u,rfl,rx⟩:=Ij r
  cases rx
  rcases h with ⟨hq,q⟩ | ⟨hq,q⟩
  · obtain ⟨its,r',pl,hz⟩:=I.list hq
    have hlen:=r'.length
    refine call_tuple_list pl.isList (fun h' kp=>?_) (by simp only[List.size_toArray] <;> omega)
    have I1:Inv X pins σ H { s with heap:=h' }:=I.kept (t':=s.toks) kp
    have I2:Inv X pins σ (upd H h'.objs.size (.tup ys)) { s with heap:=h'.push { cls:=.type "tuple",data:=.seq its.toArray } }:=
      I1.laid (t':=s.toks) (fun b o e=>Heap.get?_push_of_some _ e) (Nat.le_refl _) (show ObjOk X.prog X.w _ _ _ (.tup ys) from ⟨hz,its,r',TupN.new _ _⟩)
    exact ⟨.ref h'.objs.size,_,I2,rfl,q _ (I1.hok.fresh (Nat.le_refl _))⟩
  · obtain ⟨its,r',pl,hz⟩:=I.tuple hq
    exact call_tuple_same pl ⟨.ref p,H,I,rfl,q⟩
noncomputable def tyV(K:PySem.W.Frag)(T:String)(x:V)(H:Hp):Prop:=match x with
  | .str _=>T = "str"
  | .int _=>T = "int"
  | .ref p=>(T = "list" ∧ ∃ xs,SqL K H p xs)∨(T = "tuple" ∧ ∃ xs,SqT K H p xs) ∨
      (T = "dict" ∧ ((∃ kvs,H p=some (.dK kvs))∨∃ kvs,H p=some (.dT kvs)))∨(T = "set" ∧ ∃ S n,H p=some (.set S n))
  | _=>False
theorem Aia{pins:List (Addr×Obj)}{σ:St}{H:Hp}{s:Shared}{T:String}{x:V}{v:Value}(I:Inv X pins σ H s)(r:RelV x v)(ty:tyV X.K T x H) :
    s.TypeIs v T∧∀ a,v = .ref a→∃ ob,s.heap.get? a=some ob∧ob.dict=none:=by
  cases x with
  | str z=>
    obtain ⟨t,rfl⟩:=r
    cases (show T = "str" from ty)
    exact ⟨typeIs_str s z t,fun _ e=>nomatch e⟩
  | int i=>
    obtain ⟨t,rfl⟩:=r
    cases (show T = "int" from ty)
    exact ⟨typeIs_int s i t,fun _ e=>nomatch e⟩
  | ref p=>
    cases r
    rcases ty with ⟨rfl,xs,hq⟩ | ⟨rfl,xs,hq⟩ | ⟨rfl,hk⟩ | ⟨rfl,S,n,hk⟩
    · obtain ⟨its,_,pl,_⟩:=I.list hq
      refine ⟨pl.isList.typeIs,fun a e=>?_⟩
      cases e
      obtain ⟨o,n,e,c,hd,_⟩:=pl
      exact ⟨o,e,hd⟩
    · obtain ⟨its,_,⟨o,ho,hc,_⟩,_⟩:=I.tupleN hq
      obtain ⟨h1,h2⟩:=Prod.mk.inj hc
      refine ⟨⟨o,ho,h1⟩,fun a e=>?_⟩
      cases e
      exact ⟨o,ho,h2⟩
    · have z:∃ o,s.heap.get? p=some o∧o.ExactDict:=by
        rcases hk with ⟨kvs,hk⟩ | ⟨kvs,hk⟩
        · obtain ⟨_,_,_,_,o,_,_,e,ex,_⟩:=I.hok p _ hk
          exact ⟨o,e,ex⟩
        · obtain ⟨_,_,_,_,o,_,_,e,ex,_⟩:=I.hok p _ hk
          exact ⟨o,e,ex⟩
      obtain ⟨o,e,ex⟩:=z
      refine ⟨⟨o,e,ex.1⟩,fun a e2=>?_⟩
      cases e2
      exact ⟨o,e,ex.2.1⟩
    · obtain ⟨o,_,_,_,e,ex,_⟩:=I.hok p _ hk
      refine ⟨⟨o,e,ex.1⟩,fun a e2=>?_⟩
      cases e2
      exact ⟨o,e,ex.2.1⟩
  | _=>exact False.elim ty
noncomputable def tBM(K:PySem.W.Frag)(T:String)(r:V→List V→Hp→VK→Prop)(to:TE)(t:TA):TE:=fun σ H Q=>to σ H fun x H1=>tyV K T x H1∧t σ H1 fun xs H2=>r x xs H2 Q
variable {o e:Expr}{es:List Expr}{to:TE}{t:TA}{name:Str}{apos cpos:Pos}{T id:String}{r:V→List V→Hp→VK→Prop}
theorem Akc(pa:PlainAttrs T)(slot:Slot T name id)(hty:typeOf (.builtin id)=pure (.type "method_descriptor"))(hm:MtR X id r)(ho:PE X o to)(ha:PA X (e::es) t)
    (hbase:attributeBase o name X.env (eval o X.env)=eval o X.env:=by rfl)
    (hfew:((backTo cpos (starEach (e::es) X.env)).all (fun x=>!x.1)&&(backToKw cpos (keywordEach [] X.env)).all (fun x=>x.1.isSome)
      && decide ((e::es).length+([]:List Keyword).length+(if ([]:List Keyword).isEmpty then 0 else 1) < 30))=true:=by rfl)
    (hline:(apos.endLine == cpos.line)=true:=by rfl) (hs:starEach (e::es) X.env=(false,eval e X.env)::starEach es X.env:=by rfl) (hplain:(backTo cpos (starEach es X.env)).any (·.1)=false:=by rfl) :
    PE X (.Call (.Attribute o name apos) (e::es) [] cpos) (tBM X.K T r to t):=by
  intro pins s σ H Q I h
  refine wpAny_Call_method_late hbase hfew hline rfl (thn (ho pins s σ H _ I h) fun v s1 ⟨x,H1,I1,r1,ty,q1⟩=>?_)
  obtain ⟨h1,h2⟩:=Aia I1 r1 ty
  refine ⟨T,id,pa,slot,hty,h1,h2,?_⟩
  have hA:=ha cpos pins s1 σ H1 _ I1 q1
  rw[hs] at hA ⊢
  refine Calls.callWith_builtin (by show (false || (backTo cpos (starEach es X.env)).any (·.1))=false;rw[hplain] <;> rfl) (Calls.evalArgs_plain ?_)
  exact thn hA fun us s2 ⟨vs,H2,I2,r2,q2⟩=>hm pins s2 σ H2 x vs v us Q I2 r1 r2 q2
end
noncomputable def MtM(X:Cx)(id:String)(r:V→List V→Hp→VK→Prop):Prop:=
  ∀ (pins:List (Addr×Obj)) (s:Shared) (σ:St) (H:Hp) (x:V) (xs:List V) (v:Value) (us:List Value) (Q:VK),Inv X pins σ H s→RelV x v→Vals xs us→r x xs H Q →
    wpAny (model X.prog X.w) X.A (call (.builtin id) (v::us)) (EP X pins σ Q) X.xe s
theorem Vals.one:∀ {x:V} {us:List Value},Vals [x] us→∃ u,us=[u]∧RelV x u
  | _,_,.cons r .nil=>⟨_,rfl,r⟩
theorem Vals.two:∀ {x y:V} {us:List Value},Vals [x,y] us→∃ u v,us=[u,v]∧RelV x u∧RelV y v
  | _,_,_,.cons r (.cons q .nil)=>⟨_,_,rfl,r,q⟩
theorem Vals.zero:∀ {us:List Value},Vals [] us→us=[]
  | _,.nil=>rfl
theorem Vals.dropLast{xs:List V}{us:List Value}(h:Vals xs us):Vals xs.dropLast us.dropLast:=by
  induction h with
  | nil=>exact .nil
  | cons r t ih=>
    cases t with
    | nil=>exact .nil
    | cons q t'=>exact .cons r ih
theorem Vals.reverse{xs:List V}{us:List Value}(h:Vals xs us):Vals xs.reverse us.reverse:=by
  induction h with
  | nil=>exact .nil
  | cons r t ih=>rw[List.reverse_cons,List.reverse_cons];exact Vals.append ih (.cons r .nil)
theorem Vals.rep{xs:List V}{us:List Value}(h:Vals xs us):∀ k:Nat,Vals (List.replicate k xs).flatten (List.replicate k us).flatten
  | 0=>.nil
  | k+1=>by
    rw[List.replicate_succ,List.replicate_succ,List.flatten_cons,List.flatten_cons]
    exact Vals.append h (Vals.rep h k)
theorem Qt(its:List Value):∀ (k:Nat) (acc:List Value),
    List.foldl (fun x1 x2=>x1++x2) acc.toArray (List.replicate k its.toArray)=(acc++(List.replicate k its).flatten).toArray
  | 0,acc=>by simp
  | k+1,acc=>by
    have e:acc.toArray++its.toArray=(acc++its).toArray:=by simp
    have e2:(acc++its)++(List.replicate k its).flatten=acc++(List.replicate (k+1) its).flatten:=by
      rw[List.replicate_succ,List.flatten_cons,List.append_assoc]
    rw[← e2,← Qt its k (acc++its),← e,List.replicate_succ,List.foldl_cons]
section
variable {X:Cx}{pins:List (Addr×Obj)}{σ:St}{H:Hp}{s:Shared}{l b:Addr}{xs ys zs:List V}
theorem Inv.lset{its its':List Value}{n:Nat}{f:Array Value→Array Value}{t':Nat}(I:Inv X pins σ H s)(hH:H l=some (.lst xs))
    (e:s.heap.get? l=some { cls:=.type "list",data:=.seq its.toArray n }) (hf:f its.toArray=its'.toArray) (hv:Vals ys its') (hz:ys.length≤sizeLine) :
    Inv X pins σ (upd H l (.lst ys)) { s with heap:=s.heap.update l (Obj.mapSeq f),toks:=t' }:=by
  have q:=PySem.IsL.update e f
  rw[hf] at q
  refine I.write (x:=l) (e:=l) (by rw[hH];exact trivial) (.inl rfl) (fun b' u hb hu=>(Heap.get?_update_other s.heap (Obj.mapSeq f) (Ne.symm hb)).trans hu) ⟨_,q⟩ ?_
  exact ⟨hz,its',_,hv,q⟩
theorem Inv.lnew{its:List Value}{t':Nat}(I:Inv X pins σ H s)(hv:Vals ys its)(hz:ys.length≤sizeLine) :
    Inv X pins σ (upd H s.heap.objs.size (.lst ys)) { s with heap:=s.heap.push { cls:=.type "list",data:=.seq its.toArray },toks:=t' }:=
  I.laid (fun _ _ q=>Heap.get?_push_of_some _ q) (Nat.le_refl _) ⟨hz,its,0,hv,Heap.get?_push_size _ rfl⟩
theorem Inv.fresh(I:Inv X pins σ H s):H s.heap.objs.size=none:=I.hok.fresh (Nat.le_refl _)
theorem Inv.lstM(I:Inv X pins σ H s)(hH:H l=some (.lst xs)):xs.length≤sizeLine∧∃ (its:List Value) (n:Nat),Vals xs its∧xs.length=its.length∧s.heap.get? l=some { cls:=.type "list",data:=.seq its.toArray n }:=by
  obtain ⟨z,its,n,r,e⟩:=I.hok l _ hH
  exact ⟨z,its,n,r,r.length,e⟩
theorem Aa6{n:Nat}(h:n≤sizeLine):Builtin.List.listTooLong n=false:=by
  unfold Builtin.List.listTooLong
  exact decide_eq_false (by omega)
end
section
variable {X:Cx}
noncomputable def Wj:V→List V→Hp→VK→Prop:=fun x vs H Q=>∃ l xs y,x = .ref l∧vs=[y]∧H l=some (.lst xs)∧xs.length < sizeLine∧Q .non (upd H l (.lst (xs++[y])))
theorem Qq:MtM X "list.append" Wj:=by
  intro pins s σ H x vs v us Q I rx rv h
  obtain ⟨l,xs,y,rfl,rfl,hH,hz,q⟩:=h
  cases rx
  obtain ⟨u,rfl,ru⟩:=rv.one
  obtain ⟨z,its,n,r,hl,e⟩:=I.lstM hH
  refine call_meets F.slot_list_append ⟨_,e,rfl⟩ F.entry_list_append (F.args_list_append_2 _ _) (PySem.list_append l its.toArray n u (by rw[List.size_toArray];omega)) ⟨e,?_⟩
  refine ⟨.non,_,I.lset (its':=its++[u]) hH e (by simp) (r.append (.cons ru .nil)) ?_,rfl,q⟩
  rw[List.length_append,List.length_singleton]
  omega
noncomputable def Ait:R2:=fun x y H Q=>∃ l b xs zs,x = .ref l∧y = .ref b∧H l=some (.lst xs)∧H b=some (.lst zs)∧xs.length+zs.length≤sizeLine∧∀ p,H p=none→Q (.ref p) (upd H p (.lst (xs++zs)))
theorem Agw:OpR X (binaryOp .Add) Ait:=by
  intro pins s σ H x y v u Q I rx ry h
  obtain ⟨l,b,xs,zs,rfl,rfl,hH,hB,hz,q⟩:=h
  cases rx
  cases ry
  obtain ⟨z,its,n,r,hl,e⟩:=I.lstM hH
  obtain ⟨z2,its2,n2,r2,hl2,e2⟩:=I.lstM hB
  refine PySem.P.add_list e e2 ?_ (by rw[List.size_toArray,List.size_toArray];omega)
  have ea:its.toArray++its2.toArray=(its++its2).toArray:=by simp
  rw[ea]
  exact ⟨.ref _,_,I.lnew (t':=s.toks) (r.append r2) (by rw[List.length_append];omega),rfl,q _ I.fresh⟩
noncomputable def Ai0:R2:=fun x y H Q=>∃ l k xs,x = .ref l∧y = .int k∧H l=some (.lst xs)∧-(2 ^ 63)≤k∧k < 2 ^ 63∧xs.length * k.toNat≤sizeLine ∧
  ∀ p,H p=none→Q (.ref p) (upd H p (.lst (List.replicate k.toNat xs).flatten))
theorem Ac2{α:Type}(xs:List α)(k:Nat):(List.replicate k xs).flatten.length=k * xs.length:=by
  induction k with
  | zero=>simp
  | succ k ih=>rw[List.replicate_succ,List.flatten_cons,List.length_append,ih,Nat.succ_mul,Nat.add_comm]
theorem Agv:OpR X (binaryOp .Mult) Ai0:=by
  intro pins s σ H x y v u Q I rx ry h
  obtain ⟨l,k,xs,rfl,rfl,hH,h1,h2,hz,q⟩:=h
  cases rx
  obtain ⟨t,rfl⟩:=ry
  obtain ⟨z,its,n,r,hl,e⟩:=I.lstM hH
  have hlen:its.toArray.size * k.toNat≤sizeLine:=by rw[List.size_toArray,← hl];exact hz
  have hcap:¬ its.toArray.size * k.toNat > (2 ^ 63 - 1) / 8:=by
    have:(sizeLine:Nat)≤(2 ^ 63 - 1) / 8:=by decide
    omega
  have hfit:¬ (!Builtin.List.listFitsIndex k)=true:=by
    rw[fitsIndex_both h1 h2]
    exact Bool.false_ne_true
  have hlong:¬ Builtin.List.listTooLong (its.toArray.size * k.toNat)=true:=by
    rw[Aa6 hlen]
    exact Bool.false_ne_true
  have hnew:List.foldl (fun x1 x2=>x1++x2) #[] (List.replicate (if its.toArray.isEmpty=true then 0 else k.toNat) its.toArray)=(List.replicate k.toNat its).flatten.toArray:=by
    have f0:∀ m:Nat,List.foldl (fun x1 x2=>x1++x2) #[] (List.replicate m its.toArray)=(List.replicate m its).flatten.toArray:=fun m=>by
      have:=Qt its m []
      rw[List.nil_append] at this
      exact this
    rw[f0]
    cases its with
    | nil=>simp
    | cons a r'=>rw[if_neg (by simp)]
  refine wpAny_binaryOp_repeat_ref (T := "list") (U := "int") (by decide) ⟨_,e,rfl⟩ (fun s'=>typeIs_int s' k t) noFill_list_mul F.fills_int_mul F.slot_int_rmul repeat_list F.slot_int_index.lookup
    (call_meets F.slot_int_rmul (typeIs_int s k t) F.entry_int_rmul (F.args_int_rmul_2 _ _) (int___rmul___int_list k t l its.toArray n)
      ⟨e,rfl,⟨_,e,rfl⟩,call_meets F.slot_list_mul ⟨_,e,rfl⟩ F.entry_list_mul (F.args_list_mul_2 _ _) (AutoListH.list___mul___list_int_3 l its.toArray n k t hfit hcap hlong) ⟨e,?_⟩⟩)
  rw[hnew]
  exact ⟨.ref _,_,I.lnew (t':=s.toks) (r.rep k.toNat) (by rw[Ac2,Nat.mul_comm];exact hz),rfl,q _ I.fresh⟩
end
section
variable {prog:Program}{w:World}{A:Around}{E:Value→Shared→Prop}{s:Shared}
end
section
variable {X:Cx}
end
end L2
namespace Att
open PySem PySem.W PySem.Calls PyProof.Rows
theorem Nn{P:Params}{h:Heap}:∀ (ns:List Int) (vs:List Value),WellAll P h vs (ns.map WData.int)→IntsAre vs ns:=by
  intro ns
  induction ns with
  | nil=>
    intro vs w
    rw[List.map_nil] at w
    cases w
    exact .nil
  | cons n ns ih=>
    intro vs w
    rw[List.map_cons] at w
    cases w with
    | cons a b=>
      cases a
      exact .cons _ _ (ih _ b)
theorem Xj{l:OpenLaw}{n:Nat}(hn:l.most=some n){P:Params}{h:Heap}{args:List WData}{vals:List Value}
    (hpre:l.row.toRowW.claim.pre args=true) (hwl:WellAll P h vals args) :
    ∃ a vs ns,vals=[Value.ref a]∧args=[WData.list (ns.map WData.int)]∧h.get? a=some { cls:=.type "list",data:=.seq vs.toArray }∧IntsAre vs ns∧ns.length≤n:=by
  have hsh:WShape.hasAll [] args [.list .int]=true:=(pre_splitW hpre).1
  have hc:l.pre.holds [] { args:=args } = true:=(pre_splitW hpre).2
  obtain ⟨d,r,rfl,h1,h2⟩:=hasAllW_cons hsh
  obtain rfl:=hasAllW_nil h2
  obtain ⟨xs,rfl,h3⟩:=hasW_list h1
  obtain ⟨ns,rfl⟩:=items_int h3
  have hlen:ns.length≤n:=by
    unfold OpenLaw.pre at hc
    have h4:(WTm.not (.lt (.lit (.int (n:Int))) (.len (.arg 0)))).holds [] { args:=[.list (ns.map .int)] } = true:=by
      have h4:=(holds_andW hc).1
      rw[hn] at h4
      exact h4
    have h5:=condW_of h4 (w_not (w_lt w_lit (w_len_list (w_arg rfl))))
    rw[List.length_map] at h5
    refine Nat.le_of_not_lt fun q=>?_
    have q':(n:Int) < ((ns.length:Nat):Int):=by omega
    first
      | (rw[decide_eq_true q'] at h5;exact absurd h5 (by decide))
      | (simp at h5;omega)
  cases hwl with
  | cons w1 w2=>
    cases w2
    cases w1 with
    | list ho hall=>exact ⟨_,_,ns,rfl,rfl,ho,Nn ns _ hall,hlen⟩
theorem Xz(l:OpenLaw)(args:List WData):l.row.toRowW.claim.post args (.bool true) args=true:=
  postW_of (r:=l.row.toRowW) (X:=(true == true))
    (show WShape.has [] (.bool true) .bool=true by first | rfl | decide | simp[WShape.has,WShape.arms,WShape.armsAll])
    (show (WTm.eq .res (.lit (.bool true))).value [] { args:=args,res:=some (.bool true),after:=args } = some (.bool (true == true)) from w_eq_bool (w_res rfl) w_lit) rfl
theorem S8{l:OpenLaw}{n:Nat}{q:Program}{loose:List Str}{XP:(Str→Option Value)→Heap→Prop}{YP:World→Heap→Prop}{d:DefRec}
    (hn:l.most=some n) (hdf:d.params.defaults=[])
    (call:∀ (w:World) (s₀ s₁:Shared) (mg mb:Str→Option Value) (fa:Addr) (o:Obj) (pm cd doc:Value) (a:Addr) (vs:List Value) (ns:List Int),
      Ground q loose [] XP w s₀ mg mb s₁.heap→YP w s₁.heap →
      s₁.heap.get? fa=some o→o.data = .func (docDef d.name d.params d.body d.scope pm cd doc)→s₁.heap.CodeRec cd d.name→mg d.name=some (.ref fa) →
      s₁.heap.get? a=some { cls:=.type "list",data:=.seq vs.toArray }→IntsAre vs ns→ns.length≤n→s₁.gens=#[] →
      codeAny (model l.prog w) callerA (.call (.ref fa) ⟨[.ref a],[]⟩) (fun r s'=>r = .ok (.ret (.bool true))∧OldK s₁.heap s'.heap∧s'.os=s₁.os∧AllBare s'.gens) s₁) :
    WalkO q loose XP YP l.row.toRowW d [] (fun f vs=>PySem.call f vs):=by
  intro w s₀ s₁ mg mb G Y fa o pm cd doc dV kV ho hd hcd hD hmg hg args vals as hpre hlay hrd hwl hlo
  obtain rfl:dV = .none:=Dflts.none hD hdf
  obtain rfl:kV = .none:=Dflts.noKw hD
  obtain ⟨a,vs,ns,rfl,rfl,hobj,hints,hlen⟩:=Xj hn hpre hwl
  refine enter_call (codeAny_mono (call w s₀ s₁ mg mb fa o pm cd doc a vs ns G Y ho (fd_plain hd) hcd hmg hobj hints hlen hg) fun r s' hq=>?_)
  obtain ⟨rfl,h2,h3,h4⟩:=hq
  exact ⟨.inl ⟨.bool true,.bool true,[],rfl,fun _=>rfl,.bool true,Xz l _,fun _=>⟨List.Pairwise.nil,fun _ hm=>(nomatch hm)⟩⟩,h2,h3,h4⟩
section
variable {prog:Program}{w:World}{A:Around}{E:Value→Shared→Prop}{s:Shared}{K:Frag}
end
end Att
namespace L2
open PySem PySem.Spec PyProof.Rows
theorem Mo:∀ {vs:List Value} {ns:List Int},IntsAre vs ns→Vals (ns.map V.int) vs
  | _,_,.nil=>.nil
  | _,_,.cons n t h=>.cons ⟨t,rfl⟩ (Mo h)
noncomputable def Aeg(H:Hp):Prop:=∀ b,H b=none∨∃ o xs,H b=some (.frz o (.lst xs))
theorem Aby{P:Program}{w:World}{K:PySem.W.Frag}{mg mb:Str→Option Value}{CX:CXT}{k:Nat}{fa a:Addr}{fd:FuncData}{x:Str}{sp:Sp}{s₁:Shared}{vs:List Value}{ns:List Int}
    (KX:K.In s₁.heap) (hns:s₁.heap.Ns mainGlobals mg) (hb:s₁.heap.Ns builtinsNs mb) (hbb:∀ x:Str,x ≠ "__name__" → mb x=bootBuiltins x) (hlim:s₁.heap.NoLimit) (hg:s₁.gens=#[])
    (ha:s₁.heap.get? a=some { cls:=.type "list",data:=.seq vs.toArray }) (hi:IntsAre vs ns) (hl:ns.length≤sizeLine) (hr:Room k callerA)
    (F:∀ base:Heap,K.In base→base.Ns mainGlobals mg→FnOk P w K mg base CX k fa fd [x] sp) (hbind:∀ (s:Shared) (u:Value),BindsTo s fd ⟨[u],[]⟩ [(x,u)])
    (hsp:∀ H:Hp,Aeg H→SqL K H a (ns.map V.int)→sp [.ref a] H (fun v _=>v = .bl true) fun _ _ _=>False)
    (hCX:∀ H e s',CX [] H s₁ (fun _ _ _=>False) e s'→False) :
    codeAny (model P w) callerA (.call (.ref fa) ⟨[.ref a],[]⟩) (fun r s'=>r = .ok (.ret (.bool true))∧OldK s₁.heap s'.heap∧s'.os=s₁.os∧AllBare s'.gens) s₁:=by
  have rv:=Mo hi
  have lenV:=hi.length
  have core:∀ H:Hp,Aeg H→SqL K H a (ns.map V.int)→HOk P w H s₁.heap→(∀ b,H b≠none→b=a)→(H a≠none→K.lookup a=none) →
      codeAny (model P w) callerA (.call (.ref fa) ⟨[.ref a],[]⟩) (fun r s'=>r = .ok (.ret (.bool true))∧OldK s₁.heap s'.heap∧s'.os=s₁.os∧AllBare s'.gens) s₁:=by
    intro H hO hS hok hA hK
    have base_of:∀ {b:Addr} {o:Obj},s₁.heap.get? b=some o→H b=none→(Rr s₁.heap H).get? b=some o:=fun e n=>Aa5 e n
    have noA:∀ {b:Addr} {o:Obj} {es:Array DictEntry} {ep:Nat},s₁.heap.get? b=some o→o.data = .dict es ep→H b=none:=fun {b o es ep} e d=>by
      cases q:H b with
      | none=>rfl
      | some u=>
        have e':b=a:=hA b (by rw[q];simp)
        subst e'
        rw[ha] at e;cases e
        have d':Data.seq vs.toArray _=Data.dict es ep:=d
        cases d'
    have nsK:∀ {b:Addr} {m:Str→Option Value},s₁.heap.Ns b m→(Rr s₁.heap H).Ns b m:=fun {b m} ⟨o,es,ep,e,d,r⟩=>⟨o,es,ep,base_of e (noA e d),d,r⟩
    have hKb:K.In (Rr s₁.heap H):=fun b o e=>base_of (KX b o e) (by
      cases q:H b with
      | none=>rfl
      | some u=>
        have e':b=a:=hA b (by rw[q];simp)
        subst e'
        rw[hK (by rw[q];simp)] at e;cases e)
    have hM:Mod K mg (Rr s₁.heap H):=⟨hKb,nsK hns,⟨mb,nsK hb,hbb⟩,let ⟨mc,h1,h2⟩:=hlim;⟨mc,nsK h1,h2⟩⟩
    have e0:Env0 P w K mg (Rr s₁.heap H) callerA [] s₁ H:=⟨rfl,hM,fun b o e=>Aee e,Nat.le_of_eq (Yq _ _),trivial,fun b hb=>absurd (show b∈([]:List Addr) from hb) (by simp),hok,.of_eq hg⟩
    refine codeAny_mono ((F _ hKb (nsK hns)).run callerA [] s₁ H ⟨[.ref a],[]⟩ [.ref a] [.ref a] _ _ hr e0 (hbind s₁ (.ref a)) (.cons rfl .nil) (hsp H hO hS)) fun r s' h=>?_
    cases r with
    | error e=>exact (hCX H e s' h).elim
    | ok fl=>
      cases fl with
      | next=>exact False.elim h
      | brk=>exact False.elim h
      | cont=>exact False.elim h
      | ret u=>
        obtain ⟨v,H',os,bare,un,hok',r',q⟩:=h
        have q':v = .bl true:=q
        subst q'
        obtain rfl:u=Value.bool true:=r'
        refine ⟨rfl,OldK.of_keep fun b o e=>?_,os,bare⟩
        cases q:H b with
        | none=>exact un.keep b o e q (by intro z;exact absurd (show b∈([]:List Addr) from z) (by simp)) (by simp)
        | some u=>
          rcases hO b with z | ⟨ob,xs,z⟩
          · rw[q] at z;cases z
          · have z2:=un.frzs b ob _ z
            obtain ⟨e1,_⟩:=hok b _ z
            obtain ⟨e2,_⟩:=hok' b _ z2
            rw[e] at e1;cases e1
            exact e2
  cases hk:K.lookup a with
  | some o=>
    have e:=KX a o hk
    rw[ha] at e
    cases e
    refine core (fun _=>none) (fun _=>.inl rfl) (.inr ⟨_,vs.toArray,_,hk,rfl,rfl,rfl,by rw[List.size_toArray,lenV];exact hl,by simpa using rv⟩) (fun b u z=>by have z':(none:Option HO)=some u:=z;cases z') (fun b z=>absurd rfl z) fun z=>absurd rfl z
  | none=>
    refine core (fun b=>if b=a then some (.frz { cls:=.type "list",data:=.seq vs.toArray } (.lst (ns.map V.int))) else none) (fun b=>?_) (.inl (.inr ⟨{ cls:=.type "list",data:=.seq vs.toArray },if_pos rfl⟩)) (fun b u z=>?_) (fun b z=>?_) fun _=>hk
    · by_cases hb:b=a
      · exact .inr ⟨_,_,if_pos hb⟩
      · exact .inl (if_neg hb)
    · by_cases hb:b=a
      · have z':=(if_pos hb).symm.trans z
        cases z'
        subst hb
        exact ⟨ha,by rw[List.length_map];exact hl,vs,_,rv,ha⟩
      · have z':=(if_neg hb).symm.trans z
        cases z'
    · by_cases hb:b=a
      · exact hb
      · exact absurd (if_neg hb) z
theorem Adk{l:PySem.W.OpenLaw}{n k:Nat}{q:Program}{loose:List Str}{XP:(Str→Option Value)→Heap→Prop}{YP:World→Heap→Prop}{d:DefRec}{K:Params→PySem.W.Frag}{CX:World→CXT}{sp:World→Sp}{x:Str}
    (hn:l.most=some n) (hn2:n≤sizeLine) (hdf:d.params.defaults=[]) (hr:Room k callerA)
    (hY:∀ (w:World) (h:Heap),YP w h→(K w.params).In h)
    (F:∀ (w:World) (mg:Str→Option Value) (fa:Addr) (h:Heap),(K w.params).In h→h.Ns mainGlobals mg→mg d.name=some (.ref fa) →
      ∃ fd:FuncData,(∀ (s:Shared) (u:Value),BindsTo s fd ⟨[u],[]⟩ [(x,u)]) ∧
        ∀ base:Heap,(K w.params).In base→base.Ns mainGlobals mg→FnOk l.prog w (K w.params) mg base (CX w) k fa fd [x] (sp w))
    (hsp:∀ (w:World) (H:Hp) (a:Addr) (ns:List Int),ns.length≤n→Aeg H→SqL (K w.params) H a (ns.map V.int)→sp w [.ref a] H (fun v _=>v = .bl true) fun _ _ _=>False)
    (hCX:∀ (w:World) (H:Hp) (s:Shared) (e:Value) (s':Shared),CX w [] H s (fun _ _ _=>False) e s'→False) :
    PySem.W.WalkO q loose XP YP l.row.toRowW d [] (fun f vs=>PySem.call f vs):=by
  refine Att.S8 hn hdf fun w s₀ s₁ mg mb fa o pm cd doc a vs ns G Y ho hd hcd hmg hobj hints hlen hg=>?_
  have KX:=hY w _ Y
  obtain ⟨fd,hb,hF⟩:=F w mg fa _ KX G.T.g hmg
  exact Aby KX G.T.g G.T.b G.T.builtins G.T.nolimit hg hobj hints (Nat.le_trans hlen hn2) hr hF hb (fun H hO hS=>hsp w H a ns hlen hO hS) fun H e s'=>hCX w H s₁ e s'
noncomputable def Gs(s:Stmt)(j:Nat):Stmt:=match s with
  | .ClassDef _ _ _ body _ _ _ _ _ _ _=>body.getD j (.Pass ⟨0,0,0,0⟩)
  | _=>.Pass ⟨0,0,0,0⟩
noncomputable def Bi(s:Stmt):Arguments:=match s with
  | .FunctionDef _ a _ _ _ _ _ _ _ _=>a
  | _=>{ posonlyargs:=[],args:=[],vararg:=none,kwonlyargs:=[],kw_defaults:=[],kwarg:=none,defaults:=[] }
noncomputable def Bf(s:Stmt):List Stmt:=match s with
  | .FunctionDef _ _ b _ _ _ _ _ _ _=>b
  | _=>[]
noncomputable def Am(s:Stmt):Scope:=match s with
  | .FunctionDef _ _ _ _ _ _ sc _ _ _=>sc
  | _=>{ kind:=.function,names:=[],isGenerator:=false,isCoroutine:=false }
noncomputable abbrev CX0:CXT:=fun _ _ _ _ _ _=>False
noncomputable abbrev E0:XK:=fun _ _ _=>False
theorem Wy{X:Cx}:Kr CX0 X E0:=fun _ _ _ _ _ _ _ h=>h.elim
structure Fun(K:PySem.W.Frag)(x qual:Str)(st:Stmt)(f:Addr)(fd:FuncData):Prop where
  ex:∃ (oc:Value) (od:Option Addr) (kV doc pm:Value) (an:Option Addr) (cdv ct:Value) (osl:Array (Option Value)),
    fd=PySem.W.fnOf x qual (Bi st) (Bf st) (Am st) .none kV doc pm an cdv ct∧K.lookup f=some ⟨oc,od,.func fd,osl⟩∧PySem.W.codeIn K cdv qual=true
  kp:PySem.W.keepIn K (.ref f)=true
section
variable {P:Program}{w:World}{K:PySem.W.Frag}{mg:Str→Option Value}{base:Heap}
theorem Fun.ok{x qual:Str}{st:Stmt}{f:Addr}{fd:FuncData}{N ps:List Str}{k:Nat}{sp:Sp}(F:Fun K x qual st f fd)(S:FnScope N ps (Am st))(len:∀ vs H Q E,sp vs H Q E→vs.length=ps.length)
    (hbody:∀ (cdv:Value) (A:Around) (outer:List Env) (s:Shared) (H:Hp) (vs:List V) (Q:VK) (E:XK),Room k (A.deeper (envOfC qual (Am st) s.heap.objs.size f cdv))→sp vs H Q E →
      ∃ t,PSs (U1 CX0 P w K mg base N qual (Am st) f cdv A outer s H E).nox (Bf st) t∧t { nx:=fun _ H'=>Q .non H',rt:=Q } (start N vs) H):FnOk P w K mg base CX0 (k+1) f fd ps sp:=by
  obtain ⟨oc,od,kV,doc,pm,an,cdv,ct,osl,rfl,lk,hcd⟩:=F.ex
  refine Ajs lk hcd S len fun A outer s H vs Q E hr hsp=>?_
  obtain ⟨t,h,q⟩:=hbody cdv A outer s H vs Q E hr hsp
  exact ⟨t,h.nox,q⟩
theorem Fun.binds{x qual:Str}{st:Stmt}{f:Addr}{fd:FuncData}{ps:List Str}(F:Fun K x qual st f fd)
    (h:∀ (kV doc pm:Value) (an:Option Addr) (cdv ct:Value) (us:List Value),us.length=ps.length→bindArgs (PySem.W.fnOf x qual (Bi st) (Bf st) (Am st) .none kV doc pm an cdv ct) ⟨us,[]⟩=pure (ps.zip us)):Binds K fd ps []:=by
  obtain ⟨oc,od,kV,doc,pm,an,cdv,ct,osl,rfl,lk,hcd⟩:=F.ex
  exact .all (h kV doc pm an cdv ct)
theorem Cg{x qual:Str}{st:Stmt}{f:Addr}{oc:Value}{od an:Option Addr}{osl:Array (Option Value)}{kV doc pm cdv ct:Value}(l:K.lookup f=some ⟨oc,od,.func (PySem.W.fnOf x qual (Bi st) (Bf st) (Am st) .none kV doc pm an cdv ct),osl⟩)
    (c:PySem.W.codeIn K cdv qual=true) (k:PySem.W.keepIn K (.ref f)=true):Fun K x qual st f (PySem.W.fnOf x qual (Bi st) (Bf st) (Am st) .none kV doc pm an cdv ct):=⟨⟨oc,od,kV,doc,pm,an,cdv,ct,osl,rfl,l,c⟩,k⟩
end
section
variable {X:Cx}
theorem pv(i:Nat){x:Str}{pos:Pos}(hN:X.N[i]? = some x:=by rfl)(hv:Vis X.env.scope x:=by first | exact Or.inl rfl | exact Or.inr (Or.inl rfl) | exact Or.inr (Or.inr rfl))(hd:(x == ("__debug__" : Str))=false:=by decide)
    (hcd:(x == ("__classdict__" : Str))=false:=by decide):PE X (.Name x pos) (Ajy i):=Aak hN hv hd hcd
end
theorem Xc{A B:Prop}(h:B):if false=true then A else B:=by
  rw[if_neg Bool.false_ne_true]
  exact h
theorem Xq{A B:Prop}(h:A):if true=true then A else B:=by
  rw[if_pos rfl]
  exact h
noncomputable def Same(H H':Hp):Prop:=∀ b o,H b=some o→H' b=some o
theorem Same.refl(H:Hp):Same H H:=fun _ _ h=>h
theorem Same.trans{H H1 H2:Hp}(a:Same H H1)(b:Same H1 H2):Same H H2:=fun c o h=>b c o (a c o h)
theorem Same.free{H H':Hp}(e:Same H H'){l:Addr}(h:H' l=Option.none):H l=Option.none:=by
  cases q:H l with
  | none=>rfl
  | some o=>
    rw[e l o q] at h
    cases h
theorem Same.seq{K:PySem.W.Frag}{H H':Hp}{a:Addr}{xs:List V}(e:Same H H')(h:SqL K H a xs):SqL K H' a xs:=by
  rcases h with (h | ⟨o,h⟩) | h
  · exact .inl (.inl (e _ _ h))
  · exact .inl (.inr ⟨o,e _ _ h⟩)
  · exact .inr h
section
variable {κ:Type}[DecidableEq κ]
noncomputable def K8(kvs:List (κ×V))(k:κ):Option V:=(kvs.find? fun kv=>decide (kv.1=k)).map (·.2)
noncomputable def Kd(kvs:List (κ×V))(k:κ)(v:V):List (κ×V):=
  if (kvs.any fun kv=>decide (kv.1=k))=true then kvs.map (fun kv=>if kv.1=k then (kv.1,v) else kv) else kvs++[(k,v)]
noncomputable def Af1(kvs:List (κ×V))(k:κ):List (κ×V):=kvs.filter fun kv=>decide (kv.1≠k)
theorem Pj{p:κ×V}{r:List (κ×V)}{k:κ}(e:p.1=k):K8 (p::r) k=some p.2:=by simp[K8,List.find?_cons,e]
theorem Ow{p:κ×V}{r:List (κ×V)}{k:κ}(e:¬ p.1=k):K8 (p::r) k=K8 r k:=by simp[K8,List.find?_cons,e]
theorem T0(k:κ):∀ kvs:List (κ×V),(kvs.any fun kv=>decide (kv.1=k))=(K8 kvs k).isSome
  | []=>rfl
  | p::r=>by
    rw[List.any_cons]
    by_cases e:p.1=k
    · simp only[Pj e,decide_eq_true e,Bool.true_or,Option.isSome_some]
    · rw[Ow e,decide_eq_false e,Bool.false_or];exact T0 k r
theorem M0(kvs:List (κ×V))(k:κ)(v:V):(Kd kvs k v).length≤kvs.length+1:=by
  unfold Kd
  split
  · rw[List.length_map];omega
  · rw[List.length_append,List.length_cons,List.length_nil];omega
theorem RelO.isSome_eq{o:Option V}{u:Option Value}(r:RelO o u):o.isSome=u.isSome:=by
  cases o with
  | none=>cases u with
    | none=>rfl
    | some _=>exact (show False from r).elim
  | some _=>cases u with
    | none=>exact (show False from r).elim
    | some _=>rfl
theorem RelO.getD{o:Option V}{u:Option Value}{d:V}{d':Value}(r:RelO o u)(rd:RelV d d'):RelV (o.getD d) (u.getD d'):=by
  cases o with
  | none=>cases u with
    | none=>exact rd
    | some _=>exact (show False from r).elim
  | some _=>cases u with
    | none=>exact (show False from r).elim
    | some _=>exact r
theorem KV.val{kvs:List (κ×V)}{vs:List (κ×Value)}(r:KV kvs vs)(k:κ):RelO (K8 kvs k) (valueAt vs k):=by
  unfold KV at r
  induction r with
  | nil=>exact True.intro
  | @cons p q ps qs h t ih=>
    obtain ⟨h1,h2⟩:=h
    by_cases e:p.1=k
    · have e':q.1=k:=h1.symm.trans e
      have b:valueAt (q::qs) k=some q.2:=by simp[valueAt,List.find?_cons,e']
      rw[Pj e,b];exact h2
    · have e':¬ q.1=k:=fun z=>e (h1.trans z)
      have b:valueAt (q::qs) k=valueAt qs k:=by simp[valueAt,List.find?_cons,e']
      rw[Ow e,b];exact ih
theorem KV.any{kvs:List (κ×V)}{vs:List (κ×Value)}(r:KV kvs vs)(k:κ):(kvs.any fun kv=>decide (kv.1=k))=vs.any fun kv=>decide (kv.1=k):=by
  unfold KV at r
  induction r with
  | nil=>rfl
  | cons h t ih=>rw[List.any_cons,List.any_cons,ih,h.1]
theorem KV.repl{kvs:List (κ×V)}{vs:List (κ×Value)}(r:KV kvs vs)(k:κ){y:V}{u:Value}(ry:RelV y u) :
    KV (kvs.map fun kv=>if kv.1=k then (kv.1,y) else kv) (vs.map fun kv=>if kv.1=k then (kv.1,u) else kv):=by
  unfold KV at r ⊢
  induction r with
  | nil=>exact .nil
  | @cons p q ps qs h t ih=>
    rw[List.map_cons,List.map_cons]
    refine .cons ?_ ih
    obtain ⟨h1,h2⟩:=h
    by_cases e:p.1=k
    · rw[if_pos e,if_pos (h1.symm.trans e)];exact ⟨h1,ry⟩
    · rw[if_neg e,if_neg (fun z=>e (h1.trans z))];exact ⟨h1,h2⟩
theorem KV.put{kvs:List (κ×V)}{vs:List (κ×Value)}(r:KV kvs vs)(k:κ){y:V}{u:Value}(ry:RelV y u):KV (Kd kvs k y) (stored vs k u):=by
  unfold Kd stored
  rw[r.any k]
  by_cases e:(vs.any fun kv=>decide (kv.1=k))=true
  · rw[if_pos e,if_pos e];exact r.repl k ry
  · rw[if_neg e,if_neg e];exact Paired.snoc r ⟨rfl,ry⟩
theorem KV.drop{kvs:List (κ×V)}{vs:List (κ×Value)}(r:KV kvs vs)(k:κ):KV (Af1 kvs k) (without vs k):=by
  unfold KV at r ⊢
  unfold Af1 without
  induction r with
  | nil=>exact .nil
  | @cons p q ps qs h t ih=>
    obtain ⟨h1,h2⟩:=h
    rw[List.filter_cons,List.filter_cons]
    by_cases e:p.1=k
    · have a:¬ decide (p.1≠k)=true:=by simp[e]
      have b:¬ decide (q.1≠k)=true:=by simp[h1.symm.trans e]
      rw[if_neg a,if_neg b];exact ih
    · have e':¬ q.1=k:=fun z=>e (h1.trans z)
      have a:decide (p.1≠k)=true:=by simp[e]
      have b:decide (q.1≠k)=true:=by simp[e']
      rw[if_pos a,if_pos b];exact .cons ⟨h1,h2⟩ ih
theorem KV.keys{kvs:List (κ×V)}{vs:List (κ×Value)}(r:KV kvs vs):kvs.map (·.1)=vs.map (·.1):=by
  unfold KV at r
  induction r with
  | nil=>rfl
  | cons h t ih=>rw[List.map_cons,List.map_cons,ih,h.1]
theorem KV.length{kvs:List (κ×V)}{vs:List (κ×Value)}(r:KV kvs vs):kvs.length=vs.length:=Paired.length r
end
theorem Ace{P:Program}{w:World}{k:Key}{u:Value}(r:RelV (kV k) u):(Ee P w).is k u=true:=by
  cases k with
  | inl i=>obtain ⟨t,e⟩:=(show ∃ t,u=Value.int i t from r);subst e;exact S7 P w i t
  | inr x=>obtain ⟨t,e⟩:=(show ∃ t,u=Value.str x t from r);subst e;exact S0 P w x t
theorem Qn{P:Program}{w:World}:∀ {ks:List Key} {us:List Value},Vals (ks.map kV) us→ItemsAre (Ee P w) ks us
  | [],_,r=>by rw[List.map_nil] at r;cases r;exact .nil
  | k::ks,_,r=>by
    rw[List.map_cons] at r
    cases r with
    | cons h t=>exact .cons (Ace h) (Qn t)
noncomputable abbrev KT(H:Hp):List (List Key×V)→List (List Key×Addr×Value)→Prop:=Paired fun p q=>p.1=q.1∧H q.2.1=some (.tup (p.1.map kV))∧RelV p.2 q.2.2
theorem KT.val{H:Hp}{kvs:List (List Key×V)}{xs:List (List Key×Addr×Value)}(r:KT H kvs xs)(k:List Key):RelO (K8 kvs k) ((atKey xs k).map (·.2)):=by
  induction r with
  | nil=>exact True.intro
  | @cons p q ps qs h t ih=>
    obtain ⟨h1,_,h2⟩:=h
    by_cases e:p.1=k
    · have e':q.1=k:=h1.symm.trans e
      have b:atKey (q::qs) k=some q.2:=by simp[atKey,List.find?_cons,e']
      rw[Pj e,b];exact h2
    · have e':¬ q.1=k:=fun z=>e (h1.trans z)
      have b:atKey (q::qs) k=atKey qs k:=by simp[atKey,List.find?_cons,e']
      rw[Ow e,b];exact ih
theorem KT.repl{H:Hp}{kvs:List (List Key×V)}{xs:List (List Key×Addr×Value)}(r:KT H kvs xs)(k:List Key){y:V}{u:Value}(ry:RelV y u) :
    KT H (kvs.map fun kv=>if kv.1=k then (kv.1,y) else kv) (xs.map (putAt k u)):=by
  induction r with
  | nil=>exact .nil
  | @cons p q ps qs h t ih=>
    rw[List.map_cons,List.map_cons]
    refine .cons ?_ ih
    obtain ⟨h1,h2,h3⟩:=h
    unfold putAt
    by_cases e:p.1=k
    · rw[if_pos e,if_pos (h1.symm.trans e)];exact ⟨h1,h2,ry⟩
    · rw[if_neg e,if_neg (fun z=>e (h1.trans z))];exact ⟨h1,h2,h3⟩
theorem KT.put{H:Hp}{kvs:List (List Key×V)}{xs:List (List Key×Addr×Value)}(r:KT H kvs xs)(k:List Key){b:Addr}{y:V}{u:Value}(hb:H b=some (.tup (k.map kV)))(ry:RelV y u) :
    KT H (Kd kvs k y) (storedH xs k b u):=by
  have e:(kvs.any fun kv=>decide (kv.1=k))=(atKey xs k).isSome:=by
    rw[T0,(r.val k).isSome_eq,Option.isSome_map]
  unfold Kd storedH
  rw[e]
  by_cases q:(atKey xs k).isSome=true
  · rw[if_pos q,if_pos q];exact r.repl k ry
  · rw[if_neg q,if_neg q];exact Paired.snoc r ⟨rfl,hb,ry⟩
theorem KT.keeps{H H':Hp}{kvs:List (List Key×V)}{xs:List (List Key×Addr×Value)}(r:KT H kvs xs)(ht:∀ b ys,H b=some (.tup ys)→H' b=some (.tup ys)):KT H' kvs xs:=
  Paired.mapP r fun _ _ z=>⟨z.1,ht _ _ z.2.1,z.2.2⟩
section
variable {P:Program}{w:World}{H:Hp}{h:Heap}{a:Addr}
theorem Af0{u:HO}(ok:HOk P w H h)(e:Rd H a u):ObjOk P w H h a u:=e.ok ok
theorem Aat{kvs:List (Key×V)}(ok:HOk P w H h)(e:Rd H a (.dK kvs)):kvs.length≤sizeLine∧(a == sysModules)=false∧∃ vs,KV kvs vs∧h.DictOf (Ee P w) a vs:=
  show ObjOk P w H h a (.dK kvs) from Af0 ok e
theorem Ai2{kvs:List (Key×V)}(ok:HOk P w H h)(e:H a=some (.dK kvs)):kvs.length≤sizeLine∧(a == sysModules)=false∧∃ vs,KV kvs vs∧h.DictOf (Ee P w) a vs:=Aat ok (.inl e)
theorem Vy{ks:List Key}(ok:HOk P w H h)(e:H a=some (.tup (ks.map kV))):(tupleKind (Ee P w)).is h ks a:=by
  obtain ⟨_,its,r,o,h1,h2,n,h3⟩:=(show ObjOk P w H h a (.tup (ks.map kV)) from ok a _ e)
  exact ⟨o,its.toArray,n,h1,(Prod.mk.inj h2).1,h3,by simpa using Qn r⟩
theorem Acm{kvs:List (List Key×V)}(ok:HOk P w H h)(e:Rd H a (.dT kvs)):kvs.length≤sizeLine∧(a == sysModules)=false ∧
    ∃ xs,KT H kvs xs∧h.DictOfH (tupleKind (Ee P w)) a xs:=by
  obtain ⟨z,y,xs,r,o,es,ep,h1,h2,h3,h4,h5⟩:=(show ObjOk P w H h a (.dT kvs) from Af0 ok e)
  refine ⟨z,y,xs,r,o,es,ep,h1,h2,h3,h4,fun x hx=>?_,h5⟩
  have all:∀ {l:List (List Key×V)} {m:List (List Key×Addr×Value)},KT H l m→∀ x∈m,(tupleKind (Ee P w)).is h x.1 x.2.1:=by
    intro l m q
    induction q with
    | nil=>intro x hx;exact nomatch hx
    | @cons p q ps qs hq t ih=>
      intro x hx
      rcases List.mem_cons.mp hx with e | hx
      · subst e
        exact Vy ok (by rw[← hq.1];exact hq.2.1)
      · exact ih x hx
  exact all r x hx
theorem Aiu{kvs:List (List Key×V)}(ok:HOk P w H h)(e:H a=some (.dT kvs)):kvs.length≤sizeLine∧(a == sysModules)=false ∧
    ∃ xs,KT H kvs xs∧h.DictOfH (tupleKind (Ee P w)) a xs:=Acm ok (.inl e)
end
noncomputable def DGet(H:Hp)(a:Addr)(y:V)(r:Option V):Prop:=
  (∃ kvs k,Rd H a (.dK kvs)∧y=kV k∧r=K8 kvs k)∨∃ kvs k b,Rd H a (.dT kvs)∧y = .ref b∧H b=some (.tup (k.map kV))∧r=K8 kvs k
noncomputable def DPut(H:Hp)(a:Addr)(y v:V)(H':Hp):Prop:=
  (∃ kvs k,H a=some (.dK kvs)∧y=kV k∧kvs.length < sizeLine∧H'=upd H a (.dK (Kd kvs k v))) ∨
  ∃ kvs k b,H a=some (.dT kvs)∧y = .ref b∧H b=some (.tup (k.map kV))∧kvs.length < sizeLine∧H'=upd H a (.dT (Kd kvs k v))
theorem DGet.k{H:Hp}{a:Addr}{kvs:List (Key×V)}{k:Key}(e:H a=some (.dK kvs)):DGet H a (kV k) (K8 kvs k):=.inl ⟨kvs,k,.inl e,rfl,rfl⟩
theorem DGet.t{H:Hp}{a b:Addr}{kvs:List (List Key×V)}{k:List Key}(e:H a=some (.dT kvs))(eb:H b=some (.tup (k.map kV))):DGet H a (.ref b) (K8 kvs k):=.inr ⟨kvs,k,b,.inl e,rfl,eb,rfl⟩
theorem DPut.k{H:Hp}{a:Addr}{kvs:List (Key×V)}{k:Key}{v:V}(e:H a=some (.dK kvs))(hl:kvs.length < sizeLine):DPut H a (kV k) v (upd H a (.dK (Kd kvs k v))):=.inl ⟨kvs,k,e,rfl,hl,rfl⟩
theorem DPut.t{H:Hp}{a b:Addr}{kvs:List (List Key×V)}{k:List Key}{v:V}(e:H a=some (.dT kvs))(eb:H b=some (.tup (k.map kV)))(hl:kvs.length < sizeLine) :
    DPut H a (.ref b) v (upd H a (.dT (Kd kvs k v))):=.inr ⟨kvs,k,b,e,rfl,eb,hl,rfl⟩
section
variable {X:Cx}{pins:List (Addr×Obj)}{σ:St}{H:Hp}{s:Shared}{a:Addr}{y v:V}{u r:Value}{o:Option V}{A:Around}{E:Value→Shared→Prop}
theorem Inv.big(I:Inv X pins σ H s):sysModules < s.heap.objs.size:=by
  have h:mainGlobals < s.heap.objs.size:=(I.mod.glob.keeps I.bk).lt
  exact Nat.lt_trans (by decide) h
theorem Xs{Q:Value→Shared→Prop}(hu:A.units+1 < cLine)(I:Inv X pins σ H s)(g:DGet H a y (some v))(ry:RelV y u)(h:∀ w' s',Inv X pins σ H s'→RelV v w'→Q w' s') :
    wpAny (model X.prog X.w) A (getItem (.ref a) u) Q E s:=by
  rcases g with ⟨kvs,k,e,ey,l⟩ | ⟨kvs,k,b,e,ey,eb,l⟩
  · subst ey
    obtain ⟨z,hd,vs,rel,dd⟩:=Aat I.hok e
    obtain ⟨w',hw,rw'⟩:=RelO.some_of (v:=v) (o:=valueAt vs k) (by rw[l];exact rel.val k)
    exact wpAny_getItem_of (Ace ry) dd.mapOf hw (h w' _ (I.tok _) rw')
  · subst ey
    cases (show u=Value.ref b from ry)
    obtain ⟨z,hd,xs,rel,dd⟩:=Acm I.hok e
    obtain ⟨w',hw,rw'⟩:=RelO.some_of (v:=v) (o:=(atKey xs k).map (·.2)) (by rw[l];exact rel.val k)
    obtain ⟨p,hp,hp2⟩:=Option.map_eq_some_iff.mp hw
    refine wpAny_getItem_heap (tupleKind_room_in1 hu) (Vy I.hok eb) dd hp ?_
    rw[hp2]
    exact h w' _ (I.tok _) rw'
theorem Wu{h':Heap}{t':Nat}{ob:HO}(I:Inv X pins σ H s)(mu:Mut (H a))(hs:Heap.SameBut a s.heap h')(he:∃ q,h'.get? a=some q)(new:ObjOk X.prog X.w (upd H a ob) h' a ob) :
    Inv X pins σ (upd H a ob) { s with heap:=h',toks:=t' }:=
  I.write (x:=a) (e:=a) mu (.inl rfl) (fun b q hb z=>(hs.2 b hb).trans z) he new
theorem Agg{P:Program}{w:World}{H':Hp}{h':Heap}{kvs:List (Key×V)}{vs:List (Key×Value)}(z:kvs.length≤sizeLine)(hd:(a == sysModules)=false)(rel:KV kvs vs)(dd:h'.DictOf (Ee P w) a vs) :
    ObjOk P w H' h' a (.dK kvs):=⟨z,hd,vs,rel,dd⟩
theorem Yw{H':Hp}{Q:Unit→Shared→Prop}(hu:A.units+1 < cLine)(I:Inv X pins σ H s)(g:DPut H a y v H')(ry:RelV y u)(rv:RelV v r)(h:∀ s',Inv X pins σ H' s'→Q () s') :
    wpAny (model X.prog X.w) A (setItem (.ref a) u r) Q E s:=by
  rcases g with ⟨kvs,k,e,ey,l,eH⟩ | ⟨kvs,k,b,e,ey,eb,l,eH⟩
  · subst ey eH
    obtain ⟨z,hd,vs,rel,dd⟩:=Ai2 I.hok e
    have hz:vs.length≤sizeLine:=by rw[← rel.length];exact z
    have hl:(Kd kvs k v).length≤sizeLine:=by have:=M0 kvs k v;omega
    refine wpAny_setItem_pairs (hsz:=hz) (Ace ry) dd fun h' dd' hs=>h _ ?_
    have he:∃ q,h'.get? a=some q:=let ⟨q,_,_,hq,_⟩:=dd';⟨q,hq⟩
    exact Wu I (by rw[e];exact True.intro) hs he (Agg hl hd (rel.put k rv) dd')
  · subst ey eH
    cases (show u=Value.ref b from ry)
    obtain ⟨z,hd,xs,rel,dd⟩:=Aiu I.hok e
    have hz:xs.length≤sizeLine:=by rw[← Paired.length rel];exact z
    have hl:(Kd kvs k v).length≤sizeLine:=by have:=M0 kvs k v;omega
    refine wpAny_setItem_heap (hsz:=hz) (tupleKind_room_in1 hu) (Vy I.hok eb) dd fun h' dd' hs=>h _ ?_
    obtain ⟨q,es,ep,hq,h2,h3,h4,_,h5⟩:=dd'
    refine Wu I (by rw[e];exact True.intro) hs ⟨q,hq⟩ ⟨hl,hd,_,(rel.put k eb rv).keeps fun c ys ec=>?_,q,es,ep,hq,h2,h3,h4,h5⟩
    rw[Ba (Abu ec e (fun z=>nomatch z))]
    exact ec
end
section
variable {X:Cx}{pins:List (Addr×Obj)}{σ:St}{H:Hp}{s:Shared}{a:Addr}{kvs:List (Key×V)}{k:Key}{u:Value}{A:Around}{E:Value→Shared→Prop}
end
noncomputable def Ahf(i:Expr):Prop:=∀ ov iv,subscripted i false ov iv=operate [ov,iv] (getItem ov iv)
theorem Ae5{prog:Program}{w:World}{A:Around}{E:Value→Shared→Prop}{s:Shared}{env:Env}{value slice:Expr}{pos:Pos}{T id:String}{Q:Value→Shared→Prop}
    (hl:typeLookup (.type T) "__getitem__" = pure (some (.builtin id))) (hs:Ahf slice)
    (h:wpAny (model prog w) A (eval value env) (fun o s₁=>wpAny (model prog w) A (eval slice env) (fun i s₂=>s₂.TypeIs o T∧wpAny (model prog w) A (getItem o i) Q E s₂) E s₁) E s) :
    wpAny (model prog w) A (eval (.Subscript value slice pos) env) Q E s:=by
  refine Subscript_ (wpAny_mono h (fun o s₁ h₁=>wpAny_mono h₁ (fun i s₂ h₂=>?_) fun _ _ x=>x) fun _ _ x=>x)
  obtain ⟨hT,h₂⟩:=h₂
  unfold subscriptTail
  refine wpAny_bind ?_
  rw[getitemInPython_of_ne hT.not_modules]
  refine wpAny_bind (wpAny_specialOf hT hl ?_)
  have fin:wpAny (model prog w) A (subscripted slice false o i) (fun r s₃=>wpAny (model prog w) A (letTemporaryGo value o r >>= fun _=>pure r) Q E s₃) E s₂:=by
    rw[hs o i]
    exact wpAny_operating (wpAny_mono h₂ (fun r s₃ h₃=>wpAny_bind (wpAny_letTemporaryGo (wpAny_pure h₃))) fun _ _ x=>x)
  first
    | exact wpAny_pure (wpAny_bind fin)
    | exact wpAny_bind (wpAny_pure (wpAny_bind fin))
    | exact wpAny_bind fin
theorem To{X:Cx}{pins:List (Addr×Obj)}{σ:St}{H:Hp}{s:Shared}{a:Addr}{y:V}{o:Option V}(I:Inv X pins σ H s)(g:DGet H a y o):s.TypeIs (.ref a) "dict" := by
  rcases g with ⟨kvs,k,e,_,_⟩ | ⟨kvs,k,b,e,_,_,_⟩
  · obtain ⟨_,_,vs,_,dd⟩:=Aat I.hok e
    exact dd.typeIs
  · obtain ⟨_,_,xs,_,dd⟩:=Acm I.hok e
    exact dd.typeIs
noncomputable def Ajj(td ty:TE):TE:=fun σ H Q=>td σ H fun x H1=>ty σ H1 fun y H2=>∃ a v,x = .ref a∧DGet H2 a y (some v)∧Q v H2
noncomputable def Aje(td ty tv:TE):TS:=fun D σ H=>tv σ H fun v H1=>td σ H1 fun x H2=>ty σ H2 fun y H3=>∃ a H4,x = .ref a∧DPut H3 a y v H4∧D.nx σ H4
section
variable {X:Cx}{o i e value:Expr}{pos pos' tpos:Pos}{td ty tv:TE}
theorem Adg(hu:X.A.units+1 < cLine)(ho:PE X o td)(hi:PE X i ty)(hs:Ahf i):PE X (.Subscript o i pos) (Ajj td ty):=by
  intro pins s σ H Q I h
  refine Ae5 PySem.F.slot_dict_getitem.lookup hs (thn (ho pins s σ H _ I h) fun u s1 ⟨x,H1,I1,rx,q1⟩=>thn (hi pins s1 σ H1 _ I1 q1) fun iv s2 ⟨y,H2,I2,ry,a,v,ex,g,q2⟩=>?_)
  subst ex
  obtain rfl:u=Value.ref a:=rx
  exact ⟨To I2 g,Xs hu I2 g ry fun w' s3 I3 rw'=>⟨v,H2,I3,rw',q2⟩⟩
theorem Ac5(hu:X.A.units+1 < cLine)(ho:PE X o td)(hi:PE X i ty)(hv:PE X value tv)(hs:swapsWith value (some (.Subscript o i pos')) pos.line X.env=pure false) :
    PS X (.Assign [.Subscript o i pos'] value pos) (Aje td ty tv):=by
  intro pins s σ H D I h
  refine wpAny_Assign_Subscript (thn (hv pins s σ H _ I h) fun r s1 ⟨v,H1,I1,rv,q1⟩=>thn (ho pins s1 σ H1 _ I1 q1) fun u s2 ⟨x,H2,I2,rx,q2⟩=>thn (hi pins s2 σ H2 _ I2 q2) fun iv s3 ⟨y,H3,I3,ry,a,H4,ex,g,q3⟩=>?_) hs
  subst ex
  obtain rfl:u=Value.ref a:=rx
  exact Yw hu I3 g ry rv fun s4 I4=>⟨σ,H4,I4,q3⟩
end
theorem Abo{P:Program}{w:World}{H:Hp}(h:Heap)(hb:sysModules < h.objs.size):ObjOk P w H (h.push { cls:=.type "dict",data:=.dict #[] }) h.objs.size (.dK []):=
  ⟨Nat.zero_le _,beq_eq_false_iff_ne.mpr (Ne.symm (Nat.ne_of_lt hb)),[],.nil,Heap.DictOf.new h⟩
noncomputable def Ag0:TE:=fun _ H Q=>∀ p,H p=none→Q (.ref p) (upd H p (.dK []))
section
variable {X:Cx}{pos:Pos}
theorem Acq:PE X (.Dict [] [] pos) Ag0:=fun pins s σ H Q I h=>
  wpAny_Dict_empty ⟨.ref s.heap.objs.size,_,I.laid (a:=s.heap.objs.size) (o:=.dK []) (t':=s.toks) (fun _ _ q=>Heap.get?_push_of_some _ q) (Nat.le_refl _) (Abo s.heap I.big),rfl,h _ (I.hok.fresh (Nat.le_refl _))⟩
end
noncomputable def Agx(kvs more:List (Key×V)):List (Key×V):=more.foldl (fun acc kv=>Kd acc kv.1 kv.2) kvs
theorem KV.merge:∀ {more:List (Key×V)} {rs:List (Key×Value)} {kvs:List (Key×V)} {vs:List (Key×Value)},KV more rs→KV kvs vs→KV (Agx kvs more) (merged vs rs):=by
  intro more rs kvs vs r
  unfold KV at r
  induction r generalizing kvs vs with
  | nil=>intro q;exact q
  | @cons p q ps qs h t ih=>
    intro r0
    have e:KV (Kd kvs p.1 p.2) (stored vs q.1 q.2):=by
      have:=r0.put p.1 h.2
      rw[← h.1];exact this
    exact ih e
structure M1(X:Cx)(o:Expr)(m:Str)(apos:Pos)(e:Expr)(cpos:Pos):Prop where
  base:attributeBase o m X.env (eval o X.env)=eval o X.env
  few:((backTo cpos (starEach [e] X.env)).all (fun x=>!x.1)&&(backToKw cpos (keywordEach [] X.env)).all (fun x=>x.1.isSome)
    && decide (([e]:List Expr).length+([]:List Keyword).length+(if ([]:List Keyword).isEmpty then 0 else 1) < 30))=true
  line:(apos.endLine == cpos.line)=true
  trees:backTo cpos (starEach [e] X.env)=[(false,eval e X.env)]
structure M2(X:Cx)(o:Expr)(m:Str)(apos:Pos)(e f:Expr)(cpos:Pos):Prop where
  base:attributeBase o m X.env (eval o X.env)=eval o X.env
  few:((backTo cpos (starEach [e,f] X.env)).all (fun x=>!x.1)&&(backToKw cpos (keywordEach [] X.env)).all (fun x=>x.1.isSome)
    && decide (([e,f]:List Expr).length+([]:List Keyword).length+(if ([]:List Keyword).isEmpty then 0 else 1) < 30))=true
  line:(apos.endLine == cpos.line)=true
  trees:backTo cpos (starEach [e,f] X.env)=[(false,eval e X.env),(false,eval f X.env)]
section
variable {X:Cx}{pins:List (Addr×Obj)}{σ:St}{H:Hp}{s:Shared}{a:Addr}{y d:V}{u r:Value}{o:Option V}{A:Around}{E:Value→Shared→Prop}
end
section
variable {X:Cx}{o e f:Expr}{apos cpos:Pos}{td ty tx:TE}
end
section
variable {X:Cx}{pins:List (Addr×Obj)}{σ:St}{H:Hp}{s:Shared}{a:Addr}{kvs:List (Key×V)}{A:Around}{E:Value→Shared→Prop}
end
section
variable {X:Cx}{pins:List (Addr×Obj)}{σ:St}{H:Hp}{s:Shared}{a:Addr}{y:V}{u:Value}{A:Around}{E:Value→Shared→Prop}
end
end L2
namespace MR
open PySem PySem.Spec PyProof.Rows L2
inductive U where
  | non | bl (b:Bool) | int (i:Int) | str (x:Str) | tup (l:List U) | ref (n:Nat)
inductive HU where
  | lst (xs:List U) | ro (xs:List U) | dic (kvs:List (Key×U)) | rod (kvs:List (Key×U)) | ins (C:Str) (fs:List (Str×U)) | exc (C:Str) (fr:Bool) (fs:List (Str×U))
noncomputable abbrev UH:=List HU
noncomputable abbrev UE:=List (Option U)
section
variable (K:PySem.W.Frag)(H:Hp)(α:List Addr)
mutual
noncomputable def RepU:U→V→Prop
  | .non,v=>v = .non
  | .bl b,v=>v = .bl b
  | .int i,v=>v = .int i
  | .str x,v=>v = .str x
  | .tup l,v=>∃ a xs,v = .ref a∧SqT K H a xs∧RepL l xs
  | .ref n,v=>∃ a,α[n]? = some a∧v = .ref a
noncomputable def RepL:List U→List V→Prop
  | [],xs=>xs=[]
  | u::l,xs=>∃ x r,xs=x::r∧RepU u x∧RepL l r
end
end
noncomputable def Stay(H H':Hp):Prop:=(∀ b xs,H b=some (.tup xs)→H' b=some (.tup xs))∧∀ b o u,H b=some (.frz o u)→H' b=some (.frz o u)
theorem Stay.refl(H:Hp):Stay H H:=⟨fun _ _ q=>q,fun _ _ _ q=>q⟩
theorem Stay.trans{H H1 H2:Hp}(a:Stay H H1)(b:Stay H1 H2):Stay H H2:=⟨fun c xs q=>b.1 c xs (a.1 c xs q),fun c o u q=>b.2 c o u (a.2 c o u q)⟩
theorem Stay.sqT{K:PySem.W.Frag}{H H':Hp}{a:Addr}{xs:List V}(e:Stay H H')(h:SqT K H a xs):SqT K H' a xs:=by
  rcases h with (h | ⟨o,h⟩) | h
  · exact .inl (.inl (e.1 _ _ h))
  · exact .inl (.inr ⟨o,e.2 _ _ _ h⟩)
  · exact .inr h
theorem Stay.new{H:Hp}{p:Addr}(h:H p=none)(o:HO):Stay H (upd H p o):=⟨fun b u q=>by rw[Ba (Bk q h)];exact q,fun b o u q=>by rw[Ba (Bk q h)];exact q⟩
theorem Stay.write{H:Hp}{p:Addr}{o:HO}(h:H p=some o)(m:Mut (some o))(o':HO):Stay H (upd H p o'):=
  ⟨fun b u q=>by rw[Ba (Abu q h (fun z=>by subst z;exact m))];exact q,fun b w u q=>by rw[Ba (Abu q h (fun z=>by subst z;exact m))];exact q⟩
structure Gr(H:Hp)(α:List Addr)(H':Hp)(α':List Addr):Prop where
  pre:∃ β,α' = α ++ β
  st:Stay H H'
theorem Gr.refl(H:Hp)(α:List Addr):Gr H α H α:=⟨⟨[],by simp⟩,.refl H⟩
theorem Gr.trans{H H1 H2:Hp}{α α1 α2:List Addr}(a:Gr H α H1 α1)(b:Gr H1 α1 H2 α2):Gr H α H2 α2:=by
  obtain ⟨⟨β,e⟩,s⟩:=a
  obtain ⟨⟨γ,e'⟩,s'⟩:=b
  exact ⟨⟨β ++ γ,by rw[e',e,List.append_assoc]⟩,s.trans s'⟩
theorem Gr.at{H H':Hp}{α α':List Addr}(g:Gr H α H' α'){n:Nat}{a:Addr}(h:α[n]? = some a):α'[n]? = some a:=by
  obtain ⟨β,e⟩:=g.pre
  have hn:n < α.length:=(List.getElem?_eq_some_iff.mp h).1
  rw[e,List.getElem?_append_left hn];exact h
section
variable {K:PySem.W.Frag}{H H':Hp}{α α':List Addr}
mutual
theorem RepU.mono(g:Gr H α H' α'):∀ (u:U) (v:V),RepU K H α u v→RepU K H' α' u v
  | .non,_,h=>h
  | .bl _,_,h=>h
  | .int _,_,h=>h
  | .str _,_,h=>h
  | .tup l,v,h=>by
    unfold RepU at h ⊢
    obtain ⟨a,xs,e,s,r⟩:=h
    exact ⟨a,xs,e,g.st.sqT s,RepL.mono g l xs r⟩
  | .ref n,v,h=>by
    unfold RepU at h ⊢
    obtain ⟨a,e,q⟩:=h
    exact ⟨a,g.at e,q⟩
theorem RepL.mono(g:Gr H α H' α'):∀ (l:List U) (xs:List V),RepL K H α l xs→RepL K H' α' l xs
  | [],xs,h=>h
  | u::l,xs,h=>by
    unfold RepL at h ⊢
    obtain ⟨x,r,e,h1,h2⟩:=h
    exact ⟨x,r,e,RepU.mono g u x h1,RepL.mono g l r h2⟩
end
theorem RepL.length:∀ {l:List U} {xs:List V},RepL K H α l xs→l.length=xs.length
  | [],xs,h=>by unfold RepL at h;subst h;rfl
  | u::l,xs,h=>by
    unfold RepL at h
    obtain ⟨x,r,e,_,h2⟩:=h
    subst e
    simp[RepL.length h2]
theorem RepL.get:∀ {l:List U} {xs:List V} {i:Nat} {u:U},RepL K H α l xs→l[i]? = some u→∃ x,xs[i]? = some x∧RepU K H α u x
  | [],xs,i,u,h,e=>by simp at e
  | w::l,xs,i,u,h,e=>by
    unfold RepL at h
    obtain ⟨x,r,e',h1,h2⟩:=h
    subst e'
    cases i with
    | zero=>simp at e;subst e;exact ⟨x,rfl,h1⟩
    | succ i=>simpa using RepL.get (i:=i) h2 (by simpa using e)
theorem RepL.nil:RepL K H α [] []:=by unfold RepL;rfl
theorem RepL.cons{u:U}{l:List U}{x:V}{xs:List V}(h:RepU K H α u x)(t:RepL K H α l xs):RepL K H α (u::l) (x::xs):=by
  unfold RepL;exact ⟨x,xs,rfl,h,t⟩
theorem RepL.append:∀ {l l':List U} {xs ys:List V},RepL K H α l xs→RepL K H α l' ys→RepL K H α (l++l') (xs++ys)
  | [],l',xs,ys,h,t=>by unfold RepL at h;subst h;exact t
  | u::l,l',xs,ys,h,t=>by
    unfold RepL at h
    obtain ⟨x,r,e,h1,h2⟩:=h
    subst e
    exact .cons h1 (RepL.append h2 t)
theorem RepL.take:∀ {l:List U} {xs:List V} (n:Nat),RepL K H α l xs→RepL K H α (l.take n) (xs.take n)
  | [],xs,n,h=>by unfold RepL at h;subst h;simp[RepL.nil]
  | u::l,xs,0,h=>by simp[RepL.nil]
  | u::l,xs,n+1,h=>by
    unfold RepL at h
    obtain ⟨x,r,e,h1,h2⟩:=h
    subst e
    exact .cons h1 (RepL.take n h2)
theorem RepL.drop:∀ {l:List U} {xs:List V} (n:Nat),RepL K H α l xs→RepL K H α (l.drop n) (xs.drop n)
  | [],xs,n,h=>by unfold RepL at h;subst h;simp[RepL.nil]
  | u::l,xs,0,h=>h
  | u::l,xs,n+1,h=>by
    unfold RepL at h
    obtain ⟨x,r,e,h1,h2⟩:=h
    subst e
    exact RepL.drop n h2
theorem RepL.set{u:U}{x:V}(q:RepU K H α u x):∀ {l:List U} {xs:List V} (n:Nat),RepL K H α l xs→RepL K H α (l.set n u) (xs.set n x)
  | [],xs,n,h=>by unfold RepL at h;subst h;exact .nil
  | w::l,xs,0,h=>by
    unfold RepL at h
    obtain ⟨y,r,e,h1,h2⟩:=h
    subst e
    exact .cons q h2
  | w::l,xs,n+1,h=>by
    unfold RepL at h
    obtain ⟨y,r,e,h1,h2⟩:=h
    subst e
    exact .cons h1 (RepL.set q n h2)
theorem RepL.reverse:∀ {l:List U} {xs:List V},RepL K H α l xs→RepL K H α l.reverse xs.reverse
  | [],xs,h=>by unfold RepL at h;subst h;exact .nil
  | w::l,xs,h=>by
    unfold RepL at h
    obtain ⟨y,r,e,h1,h2⟩:=h
    subst e
    rw[List.reverse_cons,List.reverse_cons]
    exact (RepL.reverse h2).append (.cons h1 .nil)
theorem RepL.ints:∀ (ns:List Int),RepL K H α (ns.map U.int) (ns.map V.int)
  | []=>.nil
  | n::r=>.cons rfl (RepL.ints r)
end
noncomputable def RO(K:PySem.W.Frag)(H:Hp)(a:Addr)(xs:List V):Prop:=
  (∃ o,H a=some (.frz o (.lst xs)))∨∃ (o:Obj) (its:Array Value) (n:Nat),K.lookup a=some o∧o.cls = .type "list" ∧ o.dict=none∧o.data = .seq its n∧its.size≤sizeLine∧Vals xs its.toList
theorem RO.sq{K:PySem.W.Frag}{H:Hp}{a:Addr}{xs:List V}(h:RO K H a xs):SqL K H a xs:=by
  rcases h with ⟨o,h⟩ | h
  · exact .inl (.inr ⟨o,h⟩)
  · exact .inr h
theorem RO.stay{K:PySem.W.Frag}{H H':Hp}{a:Addr}{xs:List V}(st:Stay H H')(h:RO K H a xs):RO K H' a xs:=by
  rcases h with ⟨o,h⟩ | h
  · exact .inl ⟨o,st.2 _ _ _ h⟩
  · exact .inr h
noncomputable def Aja(a Ca:Addr)(dd:Option Addr)(fr:Bool)(h:Heap):Prop:=∃ (o:Obj) (vs:Array Value),h.get? a=some o∧o.cls = .ref Ca∧o.dict=dd∧o.data = .fields vs∧1 < vs.size∧o.slots=#[]∧(fr=true→vs[1]? = some .none)
noncomputable def DictIs(H:Hp)(dd:Option Addr)(vs:List (Str×V)):Prop:=match dd with
  | none=>vs=[]
  | some dx=>vs≠[]∧∃ od,H dx=some (.frz od (.xd vs))
theorem DictIs.stay{H H':Hp}{dd:Option Addr}{vs:List (Str×V)}(st:∀ b o ws,H b=some (.frz o (.xd ws))→H' b=some (.frz o (.xd ws)))(h:DictIs H dd vs):DictIs H' dd vs:=by
  cases dd with
  | none=>exact h
  | some dx=>obtain ⟨ne,od,q⟩:=h;exact ⟨ne,od,st _ _ _ q⟩
noncomputable def HRep(K:PySem.W.Frag)(H:Hp)(α:List Addr)(a:Addr):HU→Prop
  | .lst us=>∃ xs,H a=some (.lst xs)∧RepL K H α us xs
  | .ro us=>∃ xs,RO K H a xs∧RepL K H α us xs
  | .dic kvs=>∃ vs,H a=some (.dK vs)∧kvs.map (·.1)=vs.map (·.1)∧RepL K H α (kvs.map (·.2)) (vs.map (·.2))
  | .rod kvs=>∃ o vs,H a=some (.frz o (.dK vs))∧kvs.map (·.1)=vs.map (·.1)∧RepL K H α (kvs.map (·.2)) (vs.map (·.2))
  | .ins C fs=>∃ Ca dx vs,PySem.W.nsIn K mainGlobals C=some (some (.ref Ca))∧H a=some (.ins Ca dx vs)∧fs.map (·.1)=vs.map (·.1)∧RepL K H α (fs.map (·.2)) (vs.map (·.2))
  | .exc C fr fs=>∃ Ca dd vs,PySem.W.nsIn K mainGlobals C=some (some (.ref Ca))∧H a=some (.ext (Aja a Ca dd fr))∧DictIs H dd vs∧fs.map (·.1)=vs.map (·.1)∧RepL K H α (fs.map (·.2)) (vs.map (·.2))
noncomputable def HU.isRo:HU→Bool
  | .ro _=>true
  | _=>false
structure Abs(K:PySem.W.Frag)(H:Hp)(α:List Addr)(L:UH):Prop where
  len:α.length=L.length
  inj:∀ (i j:Nat) (a:Addr) (o o':HU),α[i]? = some a→α[j]? = some a→L[i]? = some o→L[j]? = some o'→i=j∨o.isRo=true∨o'.isRo=true
  rep:∀ (i:Nat) (a:Addr) (o:HU),α[i]? = some a→L[i]? = some o→HRep K H α a o
theorem Abs.addr{K:PySem.W.Frag}{H:Hp}{α:List Addr}{L:UH}(A:Abs K H α L){n:Nat}{o:HU}(h:L[n]? = some o):∃ a,α[n]? = some a∧HRep K H α a o:=by
  have hn:n < α.length:=by rw[A.len];exact (List.getElem?_eq_some_iff.mp h).1
  exact ⟨α[n],List.getElem?_eq_getElem hn,A.rep n _ o (List.getElem?_eq_getElem hn) h⟩
theorem HRep.other{K:PySem.W.Frag}{H H':Hp}{α α':List Addr}{a:Addr}{o:HU}(g:Gr H α H' α')(hs:o.isRo=true∨∀ u,H a=some u→H' a=some u)(h:HRep K H α a o):HRep K H' α' a o:=by
  cases o with
  | lst us=>obtain ⟨xs,e,r⟩:=h;exact ⟨xs,(hs.resolve_left (by simp[HU.isRo])) _ e,r.mono g⟩
  | ro us=>obtain ⟨xs,e,r⟩:=h;exact ⟨xs,e.stay g.st,r.mono g⟩
  | dic kvs=>obtain ⟨vs,e,k,r⟩:=h;exact ⟨vs,(hs.resolve_left (by simp[HU.isRo])) _ e,k,r.mono g⟩
  | rod kvs=>obtain ⟨o,vs,e,k,r⟩:=h;exact ⟨o,vs,(hs.resolve_left (by simp[HU.isRo])) _ e,k,r.mono g⟩
  | ins C fs=>obtain ⟨Ca,dx,vs,n,e,k,r⟩:=h;exact ⟨Ca,dx,vs,n,(hs.resolve_left (by simp[HU.isRo])) _ e,k,r.mono g⟩
  | exc C fr fs=>obtain ⟨Ca,dd,vs,n,e,d,k,r⟩:=h;exact ⟨Ca,dd,vs,n,(hs.resolve_left (by simp[HU.isRo])) _ e,d.stay fun b o ws q=>g.st.2 b o _ q,k,r.mono g⟩
theorem HRep.some{K:PySem.W.Frag}{H:Hp}{α:List Addr}{a:Addr}{o:HU}(h:HRep K H α a o)(n:o.isRo=false):∃ u,H a=some u:=by
  cases o with
  | lst us=>obtain ⟨xs,e,r⟩:=h;exact ⟨_,e⟩
  | ro us=>simp[HU.isRo] at n
  | dic kvs=>obtain ⟨vs,e,k,r⟩:=h;exact ⟨_,e⟩
  | rod kvs=>obtain ⟨o,vs,e,k,r⟩:=h;exact ⟨_,e⟩
  | ins C fs=>obtain ⟨Ca,dx,vs,n',e,k,r⟩:=h;exact ⟨_,e⟩
  | exc C fr fs=>obtain ⟨Ca,dd,vs,n',e,k,r⟩:=h;exact ⟨_,e⟩
theorem Abs.new{K:PySem.W.Frag}{H:Hp}{α:List Addr}{L:UH}{p:Addr}{o:HO}{u:HU}(A:Abs K H α L)(hp:H p=none)(hr:HRep K (upd H p o) (α ++ [p]) p u) :
    Abs K (upd H p o) (α ++ [p]) (L++[u])∧Gr H α (upd H p o) (α ++ [p]):=by
  have g:Gr H α (upd H p o) (α ++ [p]):=⟨⟨[p],rfl⟩,.new hp o⟩
  have hl:=A.len
  refine ⟨⟨by simp[hl],fun i j a o1 o2 e1 e2 e3 e4=>?_,fun i a o1 e1 e2=>?_⟩,g⟩
  · have fresh:∀ (k:Nat) (o3:HU),α[k]? = some p→L[k]? = some o3→o3.isRo=true:=fun k o3 q1 q2=>by
      cases hh:o3.isRo with
      | true=>rfl
      | false=>
        obtain ⟨u3,q⟩:=(A.rep k p o3 q1 q2).some hh
        rw[hp] at q;cases q
    by_cases hi:i < α.length
    · rw[List.getElem?_append_left hi] at e1
      rw[List.getElem?_append_left (by omega)] at e3
      by_cases hj:j < α.length
      · rw[List.getElem?_append_left hj] at e2
        rw[List.getElem?_append_left (by omega)] at e4
        exact A.inj i j a o1 o2 e1 e2 e3 e4
      · rw[List.getElem?_append_right (by omega)] at e2
        have:a=p:=by
          cases hk:j - α.length with
          | zero=>rw[hk] at e2;simp at e2;exact e2.symm
          | succ k=>rw[hk] at e2;simp at e2
        subst this
        exact .inr (.inl (fresh i o1 e1 e3))
    · rw[List.getElem?_append_right (by omega)] at e1
      have hia:a=p∧i = α.length:=by
        cases hk:i - α.length with
        | zero=>rw[hk] at e1;simp at e1;exact ⟨e1.symm,by omega⟩
        | succ k=>rw[hk] at e1;simp at e1
      obtain ⟨rfl,hi'⟩:=hia
      by_cases hj:j < α.length
      · rw[List.getElem?_append_left hj] at e2
        rw[List.getElem?_append_left (by omega)] at e4
        exact .inr (.inr (fresh j o2 e2 e4))
      · rw[List.getElem?_append_right (by omega)] at e2
        have:j = α.length:=by
          cases hk:j - α.length with
          | zero=>omega
          | succ k=>rw[hk] at e2;simp at e2
        exact .inl (by omega)
  · by_cases hi:i < α.length
    · rw[List.getElem?_append_left hi] at e1
      rw[List.getElem?_append_left (by omega)] at e2
      refine (A.rep i a o1 e1 e2).other g ?_
      exact .inr fun u3 q=>by rw[Ba (Bk q hp)];exact q
    · rw[List.getElem?_append_right (by omega)] at e1
      rw[List.getElem?_append_right (by omega)] at e2
      have h1:i - α.length=0:=by
        cases hk:i - α.length with
        | zero=>rfl
        | succ k=>rw[hk] at e1;simp at e1
      rw[h1] at e1
      rw[show i - L.length=0 by omega] at e2
      simp at e1 e2
      subst e1;subst e2
      exact hr
theorem Abs.put{K:PySem.W.Frag}{H:Hp}{α:List Addr}{L:UH}{p:Addr}{n:Nat}{o0 o:HO}{u0 u:HU}(A:Abs K H α L)(hn:α[n]? = some p)(hL:L[n]? = some u0)(hro:u0.isRo=false)(hro':u.isRo=false)(hp:H p=some o0)(hm:Mut (some o0))(hr:HRep K (upd H p o) α p u) :
    Abs K (upd H p o) α (L.set n u)∧Gr H α (upd H p o) α:=by
  have g:Gr H α (upd H p o) α:=⟨⟨[],by simp⟩,.write hp hm o⟩
  have hl:=A.len
  have hlt:n < L.length:=(List.getElem?_eq_some_iff.mp hL).1
  have look:∀ (i:Nat) (o1:HU),(L.set n u)[i]? = some o1→∃ o2,L[i]? = some o2∧o2.isRo=o1.isRo∧(i≠n→o2=o1):=fun i o1 e=>by
    by_cases hi:n=i
    · subst hi
      rw[List.getElem?_set_self hlt] at e
      cases e
      exact ⟨u0,hL,by rw[hro,hro'],fun z=>absurd rfl z⟩
    · rw[List.getElem?_set_ne hi] at e
      exact ⟨o1,e,rfl,fun _=>rfl⟩
  refine ⟨⟨by simp[hl],fun i j a o1 o2 e1 e2 e3 e4=>?_,fun i a o1 e1 e2=>?_⟩,g⟩
  · obtain ⟨x1,q1,r1,_⟩:=look i o1 e3
    obtain ⟨x2,q2,r2,_⟩:=look j o2 e4
    rw[← r1,← r2]
    exact A.inj i j a x1 x2 e1 e2 q1 q2
  · by_cases hi:n=i
    · subst hi
      rw[List.getElem?_set_self hlt] at e2
      cases e2
      rw[hn] at e1;cases e1
      exact hr
    · rw[List.getElem?_set_ne hi] at e2
      refine (A.rep i a o1 e1 e2).other g ?_
      by_cases hap:a=p
      · subst hap
        rcases A.inj i n a o1 u0 e1 hn e2 hL with z | z | z
        · exact absurd z.symm hi
        · exact .inl z
        · rw[hro] at z;cases z
      · exact .inr fun u3 q=>by rw[Ba hap];exact q
structure RepS(K:PySem.W.Frag)(H:Hp)(α:List Addr)(δ:UE)(σ:L2.St):Prop where
  len:δ.length = σ.length
  at_:∀ (i:Nat) (u:U),δ[i]? = some (some u)→∃ v,σ[i]? = some (some v)∧RepU K H α u v
theorem RepS.mono{K:PySem.W.Frag}{H H':Hp}{α α':List Addr}{δ:UE}{σ:L2.St}(g:Gr H α H' α')(h:RepS K H α δ σ):RepS K H' α' δ σ:=
  ⟨h.len,fun i u e=>let ⟨v,q,r⟩:=h.at_ i u e;⟨v,q,r.mono g⟩⟩
theorem RepS.set{K:PySem.W.Frag}{H:Hp}{α:List Addr}{δ:UE}{σ:L2.St}(h:RepS K H α δ σ)(i:Nat){u:U}{v:V}(r:RepU K H α u v):RepS K H α (δ.set i (some u)) (σ.set i (some v)):=
  ⟨by simp[h.len],fun j w e=>by
    by_cases hj:i=j
    · subst hj
      by_cases hi:i < δ.length
      · rw[List.getElem?_set_self hi] at e
        cases e
        exact ⟨v,List.getElem?_set_self (by rw[← h.len];exact hi),r⟩
      · rw[List.getElem?_eq_none (by simpa using hi)] at e;cases e
    · rw[List.getElem?_set_ne hj] at e
      obtain ⟨v',q,r'⟩:=h.at_ j w e
      exact ⟨v',by rw[List.getElem?_set_ne hj];exact q,r'⟩⟩
theorem RepS.start{K:PySem.W.Frag}{H:Hp}{α:List Addr}(N:List Str){us:List U}{vs:List V}(h:RepL K H α us vs):RepS K H α (us.map some++List.replicate (N.length - us.length) none) (start N vs):=by
  have hl:=h.length
  refine ⟨by simp[L2.start,hl],fun i u e=>?_⟩
  by_cases hi:i < us.length
  · rw[List.getElem?_append_left (by simpa using hi),List.getElem?_map] at e
    cases q:us[i]? with
    | none=>rw[q] at e;simp at e
    | some w=>
      rw[q] at e
      simp at e
      subst e
      obtain ⟨x,e2,r⟩:=h.get q
      refine ⟨x,?_,r⟩
      unfold L2.start
      rw[List.getElem?_append_left (by simp;omega),List.getElem?_map,e2];rfl
  · rw[List.getElem?_append_right (by simpa using hi)] at e
    have:=List.mem_of_getElem? e
    simp at this
noncomputable abbrev FE:=UE→UH→Option (U×UH)
noncomputable abbrev FT:=UE→UH→Option (Bool×UH)
noncomputable abbrev FA:=UE→UH→Option (List U×UH)
noncomputable def lE(K:PySem.W.Frag)(f:FE):TE:=fun σ H Q=>∃ α δ L,Abs K H α L∧RepS K H α δ σ∧∃ u L',f δ L=some (u,L')∧∀ v H' α',Gr H α H' α'→Abs K H' α' L'→RepU K H' α' u v→Q v H'
noncomputable def lT(K:PySem.W.Frag)(f:FT):TT:=fun σ H Q=>∃ α δ L,Abs K H α L∧RepS K H α δ σ∧∃ b L',f δ L=some (b,L')∧∀ H' α',Gr H α H' α'→Abs K H' α' L'→Q b H'
noncomputable def lA(K:PySem.W.Frag)(f:FA):TA:=fun σ H Q=>∃ α δ L,Abs K H α L∧RepS K H α δ σ∧∃ us L',f δ L=some (us,L')∧∀ vs H' α',Gr H α H' α'→Abs K H' α' L'→RepL K H' α' us vs→Q vs H'
noncomputable def PEF(X:Cx)(e:Expr)(f:FE):Prop:=PE X e (lE X.K f)
noncomputable def PTF(X:Cx)(e:Expr)(f:FT):Prop:=PT X e (lT X.K f)
noncomputable def PWF(X:Cx)(e:Expr)(f:FT):Prop:=PW X e (lT X.K f)
noncomputable def PAF(X:Cx)(es:List Expr)(f:FA):Prop:=PA X es (lA X.K f)
section
variable {X:Cx}{e:Expr}{es:List Expr}
theorem PE.imp{t t':TE}(h:PE X e t)(hi:∀ σ H Q,t' σ H Q→t σ H Q):PE X e t':=fun pins s σ H Q I q=>h pins s σ H Q I (hi σ H Q q)
theorem PT.imp{t t':TT}(h:PT X e t)(hi:∀ σ H Q,t' σ H Q→t σ H Q):PT X e t':=fun pins s σ H Q I q=>h pins s σ H Q I (hi σ H Q q)
theorem PW.imp{t t':TT}(h:PW X e t)(hi:∀ σ H Q,t' σ H Q→t σ H Q):PW X e t':=fun wh pins s σ H Q I q=>h wh pins s σ H Q I (hi σ H Q q)
theorem PA.imp{t t':TA}(h:PA X es t)(hi:∀ σ H Q,t' σ H Q→t σ H Q):PA X es t':=fun pos pins s σ H Q I q=>h pos pins s σ H Q I (hi σ H Q q)
end
noncomputable def Ad(i:Nat):FE:=fun δ L=>(δ[i]?).join.map fun u=>(u,L)
noncomputable def fC(u:U):FE:=fun _ L=>some (u,L)
section
variable {X:Cx}{a b c e:Expr}{pos:Pos}
theorem Ah(i:Nat){x:Str}{pos:Pos}(hN:X.N[i]? = some x:=by rfl)(hv:Vis X.env.scope x:=by first | exact Or.inl rfl | exact Or.inr (Or.inl rfl) | exact Or.inr (Or.inr rfl))
    (hd:(x == ("__debug__" : Str))=false:=by decide) (hcd:(x == ("__classdict__" : Str))=false:=by decide):PEF X (.Name x pos) (Ad i):=by
  refine PE.imp (Aak hN hv hd hcd) ?_
  rintro σ H Q ⟨α,δ,L,A,S,u,L',e,q⟩
  unfold Ad at e
  cases h:δ[i]? with
  | none=>rw[h] at e;simp at e
  | some o=>
    cases o with
    | none=>rw[h] at e;simp at e
    | some w=>
      rw[h] at e
      simp at e
      obtain ⟨rfl,rfl⟩:=e
      obtain ⟨v,hv,r⟩:=S.at_ i w h
      exact ⟨v,hv,q v H α (.refl _ _) A r⟩
theorem Ahj{v:V}{u:U}(h:PE X e (tC v))(r:∀ H α,RepU X.K H α u v):PEF X e (fC u):=by
  refine PE.imp h ?_
  rintro σ H Q ⟨α,δ,L,A,S,w,L',e,q⟩
  unfold fC at e
  cases e
  exact q v H α (.refl _ _) A (r H α)
theorem Ak{i:Int}{j pos}:PEF X (.Constant (.int i) j pos) (fC (.int i)):=Ahj Aa8 fun _ _=>rfl
theorem Hk{b:Bool}{j pos}:PEF X (.Constant (.bool b) j pos) (fC (.bl b)):=Ahj Aiz fun _ _=>rfl
theorem Q1{j pos}:PEF X (.Constant .none j pos) (fC .non):=Ahj Ah0 fun _ _=>rfl
noncomputable abbrev S2:=U→U→UH→Option (U×UH)
noncomputable def Ej(K:PySem.W.Frag)(r:R2)(sem:S2):Prop:=∀ (H:Hp) (α:List Addr) (L:UH) (u w:U) (x y:V) (z:U) (L':UH) (Q:VK),Abs K H α L→RepU K H α u x→RepU K H α w y→sem u w L=some (z,L') →
  (∀ v H' α',Gr H α H' α'→Abs K H' α' L'→RepU K H' α' z v→Q v H')→r x y H Q
noncomputable def f2(sem:S2)(fa fb:FE):FE:=fun δ L=>(fa δ L).bind fun p=>(fb δ p.2).bind fun q=>sem p.1 q.1 q.2
theorem V6{K:PySem.W.Frag}{r:R2}{sem:S2}{fa fb:FE}(h:Ej K r sem):∀ σ H Q,lE K (f2 sem fa fb) σ H Q→tOp r (lE K fa) (lE K fb) σ H Q:=by
  rintro σ H Q ⟨α,δ,L,A,S,z,L3,e,q⟩
  obtain ⟨⟨u,L1⟩,e1,e⟩:=Option.bind_eq_some_iff.mp e
  obtain ⟨⟨w,L2⟩,e2,e3⟩:=Option.bind_eq_some_iff.mp e
  refine ⟨α,δ,L,A,S,u,L1,e1,fun x H1 α1 g1 A1 r1=>⟨α1,δ,L1,A1,S.mono g1,w,L2,e2,fun y H2 α2 g2 A2 r2=>?_⟩⟩
  exact h H2 α2 L2 u w x y z L3 Q A2 (r1.mono g2) r2 e3 fun v H3 α3 g3 A3 r3=>q v H3 α3 (g1.trans (g2.trans g3)) A3 r3
theorem At{op:Operator}{r:R2}{sem:S2}{fa fb:FE}(ho:OpR X (binaryOp op) r)(h:Ej X.K r sem)(ha:PEF X a fa)(hb:PEF X b fb):PEF X (.BinOp a op b pos) (f2 sem fa fb):=PE.imp (Ajd ho ha hb) (V6 h)
theorem Ko{op:CmpOp}{r:R2}{sem:S2}{fa fb:FE}(ho:OpR X (compareOp op) r)(h:Ej X.K r sem)(ha:PEF X a fa)(hb:PEF X b fb)(hm:behindInMarks op b=false):PEF X (.Compare a [op] [b] pos) (f2 sem fa fb):=PE.imp (Adv ho ha hb hm) (V6 h)
noncomputable def Be(f:FE):FT:=fun δ L=>(f δ L).bind fun p=>match p.1 with | .bl k=>some (k,p.2) | _=>none
theorem Aez{K:PySem.W.Frag}{t:TE}{f:FE}(ht:∀ σ H Q,lE K f σ H Q→t σ H Q):∀ σ H Q,lT K (Be f) σ H Q→Afr t σ H Q:=by
  rintro σ H Q ⟨α,δ,L,A,S,b,L1,e,q⟩
  obtain ⟨⟨u,L2⟩,e1,e⟩:=Option.bind_eq_some_iff.mp e
  refine ht σ H _ ⟨α,δ,L,A,S,u,L2,e1,fun x H1 α1 g1 A1 r1=>?_⟩
  cases u with
  | bl k=>simp at e;obtain ⟨rfl,rfl⟩:=e;exact ⟨k,r1,q H1 α1 g1 A1⟩
  | _=>simp at e
theorem Bd{op:CmpOp}{r:R2}{sem:S2}{fa fb:FE}(ho:OpR X (compareOp op) r)(h:Ej X.K r sem)(ha:PEF X a fa)(hb:PEF X b fb)(hm:behindInMarks op b=false):PTF X (.Compare a [op] [b] pos) (Be (f2 sem fa fb)):=PT.imp (Adw ho ha hb hm) (Aez (V6 h))
end
section
variable {X:Cx}{a b c e:Expr}{pos:Pos}{rest:List Expr}
noncomputable def Ab6(f g:FT):FT:=fun δ L=>(f δ L).bind fun p=>if p.1=true then g δ p.2 else some (false,p.2)
noncomputable def fOr(f g:FT):FT:=fun δ L=>(f δ L).bind fun p=>if p.1=true then some (true,p.2) else g δ p.2
noncomputable def Nm(f:FT):FT:=fun δ L=>(f δ L).map fun p=>(!p.1,p.2)
noncomputable def Sf(f g:FE):FE:=fun δ L=>(f δ L).bind fun p=>match p.1 with | .bl k=>if k=true then g δ p.2 else some (.bl false,p.2) | _=>none
noncomputable def Akx(f g:FE):FE:=fun δ L=>(f δ L).bind fun p=>match p.1 with | .bl k=>if k=true then some (.bl true,p.2) else g δ p.2 | _=>none
noncomputable def Acb(f:FE):FE:=fun δ L=>(f δ L).bind fun p=>match p.1 with | .bl k=>some (.bl (!k),p.2) | _=>none
noncomputable def fIf(c:FT)(f g:FE):FE:=fun δ L=>(c δ L).bind fun p=>if p.1=true then f δ p.2 else g δ p.2
theorem Sy{f:FT}(ha:PTF X a f):PWF X (.BoolOp .And [a] pos) f:=Aek ha
theorem Gy{f:FT}(ha:PTF X a f):PWF X (.BoolOp .Or [a] pos) f:=Ag4 ha
theorem Wr{f g:FT}(ha:PTF X a f)(hb:PWF X (.BoolOp .And (b::rest) pos) g):PWF X (.BoolOp .And (a::b::rest) pos) (Ab6 f g):=by
  refine PW.imp (Agn ha hb) ?_
  rintro σ H Q ⟨α,δ,L,A,S,z,L3,e,q⟩
  obtain ⟨⟨u,L1⟩,e1,e⟩:=Option.bind_eq_some_iff.mp e
  refine ⟨α,δ,L,A,S,u,L1,e1,fun H1 α1 g1 A1=>?_⟩
  cases u with
  | true=>exact Xq ⟨α1,δ,L1,A1,S.mono g1,z,L3,e,fun H2 α2 g2 A2=>q H2 α2 (g1.trans g2) A2⟩
  | false=>cases e;exact Xc (q H1 α1 g1 A1)
theorem Hz{f g:FT}(ha:PTF X a f)(hb:PWF X (.BoolOp .Or (b::rest) pos) g):PWF X (.BoolOp .Or (a::b::rest) pos) (fOr f g):=by
  refine PW.imp (Ajo ha hb) ?_
  rintro σ H Q ⟨α,δ,L,A,S,z,L3,e,q⟩
  obtain ⟨⟨u,L1⟩,e1,e⟩:=Option.bind_eq_some_iff.mp e
  refine ⟨α,δ,L,A,S,u,L1,e1,fun H1 α1 g1 A1=>?_⟩
  cases u with
  | false=>exact Xc ⟨α1,δ,L1,A1,S.mono g1,z,L3,e,fun H2 α2 g2 A2=>q H2 α2 (g1.trans g2) A2⟩
  | true=>cases e;exact Xq (q H1 α1 g1 A1)
theorem PWF.pt{f:FT}(h:PWF X e f):PTF X e f:=PW.pt h
theorem Jc{f:FT}(ha:PTF X a f):PTF X (.UnaryOp .Not a pos) (Nm f):=by
  refine PT.imp (Agc ha) ?_
  rintro σ H Q ⟨α,δ,L,A,S,z,L3,e,q⟩
  obtain ⟨⟨u,L1⟩,e1,e⟩:=Option.map_eq_some_iff.mp e
  cases e
  exact ⟨α,δ,L,A,S,u,L1,e1,fun H1 α1 g1 A1=>q H1 α1 g1 A1⟩
theorem Aaq{op}{f:FE}(h:PEF X a f):PEF X (.BoolOp op [a] pos) f:=Ah9 h
theorem Ut{f g:FE}(ha:PEF X a f)(hb:PEF X (.BoolOp .And (b::rest) pos) g):PEF X (.BoolOp .And (a::b::rest) pos) (Sf f g):=by
  refine PE.imp (Ahl ha hb) ?_
  rintro σ H Q ⟨α,δ,L,A,S,z,L3,e,q⟩
  obtain ⟨⟨u,L1⟩,e1,e⟩:=Option.bind_eq_some_iff.mp e
  refine ⟨α,δ,L,A,S,u,L1,e1,fun v H1 α1 g1 A1 r1=>?_⟩
  cases u with
  | bl k=>
    cases k with
    | true=>exact ⟨true,r1,Xq ⟨α1,δ,L1,A1,S.mono g1,z,L3,e,fun v H2 α2 g2 A2 r=>q v H2 α2 (g1.trans g2) A2 r⟩⟩
    | false=>cases e;exact ⟨false,r1,Xc (q _ H1 α1 g1 A1 rfl)⟩
  | _=>simp at e
theorem Ahi{f:FE}(ha:PEF X a f):PEF X (.UnaryOp .Not a pos) (Acb f):=by
  refine PE.imp (Aie ha) ?_
  rintro σ H Q ⟨α,δ,L,A,S,z,L3,e,q⟩
  obtain ⟨⟨u,L1⟩,e1,e⟩:=Option.bind_eq_some_iff.mp e
  refine ⟨α,δ,L,A,S,u,L1,e1,fun v H1 α1 g1 A1 r1=>?_⟩
  cases u with
  | bl k=>cases e;exact ⟨k,r1,q _ H1 α1 g1 A1 rfl⟩
  | _=>simp at e
noncomputable def Ag:FA:=fun _ L=>some ([],L)
noncomputable def Ae(f:FE)(g:FA):FA:=fun δ L=>(f δ L).bind fun p=>(g δ p.2).map fun q=>(p.1::q.1,q.2)
theorem Af:PAF X [] Ag:=by
  refine PA.imp Aas ?_
  rintro σ H Q ⟨α,δ,L,A,S,z,L3,e,q⟩
  cases e
  exact q [] H α (.refl _ _) A .nil
theorem Ac{es:List Expr}{f:FE}{g:FA}(ha:PEF X e f)(hr:PAF X es g)(hs:starEach (e::es) X.env=(false,eval e X.env)::starEach es X.env:=by rfl):PAF X (e::es) (Ae f g):=by
  refine PA.imp (Ro ha hr hs) ?_
  rintro σ H Q ⟨α,δ,L,A,S,z,L3,e,q⟩
  obtain ⟨⟨u,L1⟩,e1,e⟩:=Option.bind_eq_some_iff.mp e
  obtain ⟨⟨us,L2⟩,e2,e⟩:=Option.map_eq_some_iff.mp e
  cases e
  exact ⟨α,δ,L,A,S,u,L1,e1,fun x H1 α1 g1 A1 r1=>⟨α1,δ,L1,A1,S.mono g1,us,L2,e2,fun xs H2 α2 g2 A2 r2=>q (x::xs) H2 α2 (g1.trans g2) A2 (.cons (r1.mono g2) r2)⟩⟩
noncomputable def Gk(n:Nat):Bool:=decide (n≤sizeLine)
noncomputable def Kf(g:FA):FE:=fun δ L=>(g δ L).bind fun p=>if Gk p.1.length=true then some (.tup p.1,p.2) else none
noncomputable def H9(g:FA):FE:=fun δ L=>(g δ L).bind fun p=>if Gk p.1.length=true then some (.ref p.2.length,p.2++[.lst p.1]) else none
theorem Fg{n:Nat}(h:Gk n=true):n≤sizeLine:=of_decide_eq_true h
theorem Abs.tup{K:PySem.W.Frag}{H:Hp}{α:List Addr}{L:UH}{p:Addr}{us:List U}{xs:List V}(A:Abs K H α L)(r:RepL K H α us xs)(hp:H p=none) :
    Gr H α (upd H p (.tup xs)) α∧Abs K (upd H p (.tup xs)) α L∧RepU K (upd H p (.tup xs)) α (.tup us) (.ref p):=by
  have g:Gr H α (upd H p (.tup xs)) α:=⟨⟨[],by simp⟩,.new hp _⟩
  refine ⟨g,⟨A.len,A.inj,fun i a o e1 e2=>(A.rep i a o e1 e2).other g (.inr fun u q=>by rw[Ba (Bk q hp)];exact q)⟩,?_⟩
  unfold RepU
  exact ⟨p,xs,rfl,.of upd_same,r.mono g⟩
theorem Abs.lst{K:PySem.W.Frag}{H:Hp}{α:List Addr}{L:UH}{p:Addr}{us:List U}{xs:List V}(A:Abs K H α L)(r:RepL K H α us xs)(hp:H p=none) :
    Gr H α (upd H p (.lst xs)) (α ++ [p])∧Abs K (upd H p (.lst xs)) (α ++ [p]) (L++[.lst us])∧RepU K (upd H p (.lst xs)) (α ++ [p]) (.ref L.length) (.ref p):=by
  have g:Gr H α (upd H p (.lst xs)) (α ++ [p]):=⟨⟨[p],rfl⟩,.new hp _⟩
  obtain ⟨A',_⟩:=A.new (o:=.lst xs) (u:=.lst us) hp ⟨xs,upd_same,r.mono g⟩
  refine ⟨g,A',?_⟩
  unfold RepU
  exact ⟨p,by rw[← A.len];simp,rfl⟩
theorem R8{es:List Expr}{g:FA}{x1}(h:PAF X es g):PEF X (.Tuple es x1 pos) (Kf g):=by
  refine PE.imp (Ahc h) ?_
  rintro σ H Q ⟨α,δ,L,A,S,z,L3,e,q⟩
  obtain ⟨⟨us,L1⟩,e1,e⟩:=Option.bind_eq_some_iff.mp e
  refine ⟨α,δ,L,A,S,us,L1,e1,fun xs H1 α1 g1 A1 r1=>?_⟩
  simp only at e
  split at e
  · rename_i hs
    cases e
    refine ⟨by rw[← r1.length];exact Fg hs,fun p hp=>?_⟩
    obtain ⟨g2,A2,r2⟩:=A1.tup r1 hp
    exact q _ _ α1 (g1.trans g2) A2 r2
  · cases e
theorem Iz{es:List Expr}{g:FA}(h:PAF X es g):PEF X (.List es pos) (H9 g):=by
  refine PE.imp (Aib h) ?_
  rintro σ H Q ⟨α,δ,L,A,S,z,L3,e,q⟩
  obtain ⟨⟨us,L1⟩,e1,e⟩:=Option.bind_eq_some_iff.mp e
  refine ⟨α,δ,L,A,S,us,L1,e1,fun xs H1 α1 g1 A1 r1=>?_⟩
  simp only at e
  split at e
  · rename_i hs
    cases e
    refine ⟨by rw[← r1.length];exact Fg hs,fun p hp=>?_⟩
    obtain ⟨g2,A2,r2⟩:=A1.lst r1 hp
    exact q _ _ _ (g1.trans g2) A2 r2
  · cases e
noncomputable abbrev SC:=List U→UH→Option (U×UH)
noncomputable def Py(K:PySem.W.Frag)(r:List V→Hp→VK→Prop)(sem:SC):Prop:=∀ (H:Hp) (α:List Addr) (L:UH) (us:List U) (xs:List V) (z:U) (L':UH) (Q:VK),Abs K H α L→RepL K H α us xs→sem us L=some (z,L') →
  (∀ v H' α',Gr H α H' α'→Abs K H' α' L'→RepU K H' α' z v→Q v H')→r xs H Q
noncomputable def Ax(sem:SC)(g:FA):FE:=fun δ L=>(g δ L).bind fun p=>sem p.1 p.2
theorem Afp{K:PySem.W.Frag}{r:List V→Hp→VK→Prop}{sem:SC}{g:FA}(h:Py K r sem):∀ σ H Q,lE K (Ax sem g) σ H Q→tCB r (lA K g) σ H Q:=by
  rintro σ H Q ⟨α,δ,L,A,S,z,L3,e,q⟩
  obtain ⟨⟨us,L1⟩,e1,e⟩:=Option.bind_eq_some_iff.mp e
  exact ⟨α,δ,L,A,S,us,L1,e1,fun xs H1 α1 g1 A1 r1=>h H1 α1 L1 us xs z L3 Q A1 r1 e fun v H2 α2 g2 A2 r2=>q v H2 α2 (g1.trans g2) A2 r2⟩
variable {x:Str}{p:Pos}{es:List Expr}{id T:String}{r:List V→Hp→VK→Prop}{sem:SC}{g:FA}
theorem Bt(hc:CallR X (.builtin id) r)(h:Py X.K r sem)(hg:Gl X x)(hm:X.mg x=none)(hv:bootBuiltins x=some (.builtin id))(ha:PAF X (e::es) g)(hn:x ≠ "__name__" := by decide)(hdb:(x == ("__debug__" : Str))=false:=by decide)
    (he:starEach (e::es) X.env=(false,eval e X.env)::starEach es X.env:=by rfl) (hpl:(backTo pos (starEach es X.env)).any (·.1)=false:=by rfl) :
    PEF X (.Call (.Name x p) (e::es) [] pos) (Ax sem g):=PE.imp (Tw hc hg hm hv ha hn hdb he hpl) (Afp h)
theorem Cv(hc:CallR X (.type T) r)(h:Py X.K r sem)(hg:Gl X x)(hm:X.mg x=none)(hv:bootBuiltins x=some (.type T))(ha:PAF X (e::es) g)(hn:x ≠ "__name__" := by decide)(hdb:(x == ("__debug__" : Str))=false:=by decide)
    (he:starEach (e::es) X.env=(false,eval e X.env)::starEach es X.env:=by rfl) (hpl:(backTo pos (starEach es X.env)).any (·.1)=false:=by rfl) :
    PEF X (.Call (.Name x p) (e::es) [] pos) (Ax sem g):=PE.imp (Yu hc hg hm hv ha hn hdb he hpl) (Afp h)
noncomputable abbrev SM:=U→List U→UH→Option (U×UH)
noncomputable def Ac9(K:PySem.W.Frag)(r:V→List V→Hp→VK→Prop)(sem:SM):Prop:=∀ (H:Hp) (α:List Addr) (L:UH) (u:U) (us:List U) (x:V) (xs:List V) (z:U) (L':UH) (Q:VK),Abs K H α L→RepU K H α u x→RepL K H α us xs→sem u us L=some (z,L') →
  (∀ v H' α',Gr H α H' α'→Abs K H' α' L'→RepU K H' α' z v→Q v H')→r x xs H Q
noncomputable def tyU(T:String)(u:U)(L:UH):Bool:=match u with
  | .str _=>T == "str"
  | .int _=>T == "int"
  | .tup _=>T == "tuple"
  | .ref n=>match L[n]? with
    | some (.lst _)=>T == "list"
    | some (.ro _)=>T == "list"
    | some (.dic _)=>T == "dict"
    | _=>false
  | _=>false
theorem Ahn{K:PySem.W.Frag}{H:Hp}{α:List Addr}{L:UH}{u:U}{x:V}(A:Abs K H α L)(r:RepU K H α u x)(h:tyU T u L=true):tyV K T x H:=by
  cases u with
  | str y=>unfold RepU at r;subst r;simpa[tyU,tyV] using h
  | int i=>unfold RepU at r;subst r;simpa[tyU,tyV] using h
  | ref n=>
    unfold RepU at r
    obtain ⟨a,ea,rfl⟩:=r
    unfold tyU at h
    simp only at h
    cases q:L[n]? with
    | none=>rw[q] at h;simp at h
    | some o=>
      have hr:=A.rep n a o ea q
      rw[q] at h
      cases o with
      | lst us=>simp at h;obtain ⟨xs,e,_⟩:=hr;exact .inl ⟨h,xs,.of e⟩
      | ro us=>simp at h;obtain ⟨xs,e,_⟩:=hr;exact .inl ⟨h,xs,e.sq⟩
      | dic kvs=>simp at h;obtain ⟨vs,e,_⟩:=hr;exact .inr (.inr (.inl ⟨h,.inl ⟨vs,e⟩⟩))
      | rod kvs=>simp at h
      | ins C fs=>simp at h
      | exc C fr fs=>simp at h
  | non=>simp[tyU] at h
  | bl b=>simp[tyU] at h
  | tup l=>
    unfold RepU at r
    obtain ⟨a,ys,rfl,sq,_⟩:=r
    have hT:T = "tuple" := by simpa[tyU] using h
    exact .inr (.inl ⟨hT,ys,sq⟩)
noncomputable def Of(T:String)(sem:SM)(f:FE)(g:FA):FE:=fun δ L=>(f δ L).bind fun p=>if tyU T p.1 p.2=true then (g δ p.2).bind fun q=>sem p.1 q.1 q.2 else none
theorem Aj4{K:PySem.W.Frag}{r:V→List V→Hp→VK→Prop}{sem:SM}{f:FE}{g:FA}(h:Ac9 K r sem):∀ σ H Q,lE K (Of T sem f g) σ H Q→tBM K T r (lE K f) (lA K g) σ H Q:=by
  rintro σ H Q ⟨α,δ,L,A,S,z,L3,e,q⟩
  obtain ⟨⟨u,L1⟩,e1,e⟩:=Option.bind_eq_some_iff.mp e
  simp only at e
  split at e
  · rename_i ht
    obtain ⟨⟨us,L2⟩,e2,e⟩:=Option.bind_eq_some_iff.mp e
    refine ⟨α,δ,L,A,S,u,L1,e1,fun x H1 α1 g1 A1 r1=>⟨Ahn A1 r1 ht,α1,δ,L1,A1,S.mono g1,us,L2,e2,fun xs H2 α2 g2 A2 r2=>?_⟩⟩
    exact h H2 α2 L2 u us x xs z L3 Q A2 (r1.mono g2) r2 e fun v H3 α3 g3 A3 r3=>q v H3 α3 (g1.trans (g2.trans g3)) A3 r3
  · cases e
section
variable {o e:Expr}{es:List Expr}{f:FE}{g:FA}{name:Str}{apos cpos:Pos}{T id:String}{r:V→List V→Hp→VK→Prop}{sem:SM}
theorem Acw(pa:PlainAttrs T)(slot:Slot T name id)(hty:typeOf (.builtin id)=pure (.type "method_descriptor"))(hm:MtR X id r)(h:Ac9 X.K r sem)(ho:PEF X o f)(ha:PAF X (e::es) g)
    (hbase:attributeBase o name X.env (eval o X.env)=eval o X.env:=by rfl)
    (hfew:((backTo cpos (starEach (e::es) X.env)).all (fun x=>!x.1)&&(backToKw cpos (keywordEach [] X.env)).all (fun x=>x.1.isSome)&&decide ((e::es).length+([]:List Keyword).length+(if ([]:List Keyword).isEmpty then 0 else 1) < 30))=true:=by rfl)
    (hline:(apos.endLine == cpos.line)=true:=by rfl) (hst:starEach (e::es) X.env=(false,eval e X.env)::starEach es X.env:=by rfl) (hpl:(backTo cpos (starEach es X.env)).any (·.1)=false:=by rfl) :
    PEF X (.Call (.Attribute o name apos) (e::es) [] cpos) (Of T sem f g):=
  PE.imp (Akc pa slot hty hm ho ha hbase hfew hline hst hpl) (Aj4 h)
end
end
noncomputable abbrev FN:=List U→UH→Option (U×UH)
noncomputable def spF(K:PySem.W.Frag)(n:Nat)(f:FN):Sp:=fun vs H Q _=>∃ α L us,Abs K H α L∧RepL K H α us vs∧us.length=n∧∃ u L',f us L=some (u,L')∧∀ v H' α',Gr H α H' α'→Abs K H' α' L'→RepU K H' α' u v→Q v H'
section
variable {X:Cx}{a b c e o:Expr}{es:List Expr}{pos p:Pos}{x:Str}{k:Nat}{f:Addr}{fd:FuncData}{ps:List Str}{F:FN}{g:FA}{fa fb fc:FE}
noncomputable def Bj(n:Nat)(F:FN)(g:FA):FE:=fun δ L=>(g δ L).bind fun p=>if p.1.length=n then F p.1 p.2 else none
theorem Av{n:Nat}(hF:FnOk X.prog X.w X.K X.mg X.base CX0 k f fd ps (spF X.K n F))(hr:Room k X.A)(hg:Gl X x)(hm:X.mg x=some (.ref f))(hk:PySem.W.keepIn X.K (.ref f)=true)(hb:Binds X.K fd ps [])
    (ha:PAF X (e::es) g) (hdb:(x == ("__debug__" : Str))=false:=by decide) (he:starEach (e::es) X.env=(false,eval e X.env)::starEach es X.env:=by rfl) (hpl:(backTo pos (starEach es X.env)).any (·.1)=false:=by rfl) :
    PEF X (.Call (.Name x p) (e::es) [] pos) (Bj n F g):=by
  refine PE.imp (Ac6 hF hr hg hm hk hb .nil Wy ha hdb he hpl) ?_
  rintro σ H Q ⟨α,δ,L,A,S,z,L3,e,q⟩
  obtain ⟨⟨us,L1⟩,e1,e⟩:=Option.bind_eq_some_iff.mp e
  simp only at e
  split at e
  · rename_i hl
    refine ⟨α,δ,L,A,S,us,L1,e1,fun xs H1 α1 g1 A1 r1=>?_⟩
    exact ⟨α1,L1,us,A1,by rw[List.append_nil];exact r1,hl,z,L3,e,fun v H2 α2 g2 A2 r2=>q v H2 α2 (g1.trans g2) A2 r2⟩
  · cases e
theorem Hq{r:R2}{sem:S2}(hr:IxR X r)(h:Ej X.K r sem)(ha:PEF X a fa)(hb:PEF X b fb)(hs:V4 b):PEF X (.Subscript a b pos) (f2 sem fa fb):=PE.imp (Aj9 hr ha hb hs) (V6 h)
noncomputable abbrev FO:=UE→UH→Option (Option Int×UH)
noncomputable def lO(K:PySem.W.Frag)(f:FO):TO:=fun σ H Q=>∃ α δ L,Abs K H α L∧RepS K H α δ σ∧∃ i L',f δ L=some (i,L')∧∀ H' α',Gr H α H' α'→Abs K H' α' L'→Q i H'
noncomputable def POF(X:Cx)(e:Option Expr)(f:FO):Prop:=PO X e (lO X.K f)
noncomputable def Dq:FO:=fun _ L=>some (none,L)
noncomputable def Cz(f:FE):FO:=fun δ L=>(f δ L).bind fun p=>match p.1 with | .int i=>some (some i,p.2) | _=>none
theorem PO.imp{e:Option Expr}{t t':TO}(h:PO X e t)(hi:∀ σ H Q,t' σ H Q→t σ H Q):PO X e t':=fun pins s σ H Q I q=>h pins s σ H Q I (hi σ H Q q)
theorem Lm:POF X none Dq:=by
  refine PO.imp Aec ?_
  rintro σ H Q ⟨α,δ,L,A,S,z,L3,e,q⟩
  cases e
  exact q H α (.refl _ _) A
theorem Et(h:PEF X e fa):POF X (some e) (Cz fa):=by
  refine PO.imp (Ady h) ?_
  rintro σ H Q ⟨α,δ,L,A,S,z,L3,e,q⟩
  obtain ⟨⟨u,L1⟩,e1,e⟩:=Option.bind_eq_some_iff.mp e
  refine ⟨α,δ,L,A,S,u,L1,e1,fun x H1 α1 g1 A1 r1=>?_⟩
  cases u with
  | int i=>cases e;exact ⟨i,r1,q H1 α1 g1 A1⟩
  | _=>simp at e
noncomputable abbrev SS:=U→Option Int→Option Int→UH→Option (U×UH)
noncomputable def Ab7(K:PySem.W.Frag)(r:V→Option Int→Option Int→Hp→VK→Prop)(sem:SS):Prop:=∀ (H:Hp) (α:List Addr) (L:UH) (u:U) (x:V) (lo hi:Option Int) (z:U) (L':UH) (Q:VK),Abs K H α L→RepU K H α u x→sem u lo hi L=some (z,L') →
  (∀ v H' α',Gr H α H' α'→Abs K H' α' L'→RepU K H' α' z v→Q v H')→r x lo hi H Q
noncomputable def fSl(sem:SS)(f:FE)(l h:FO):FE:=fun δ L=>(f δ L).bind fun p=>(l δ p.2).bind fun q=>(h δ q.2).bind fun r=>sem p.1 q.1 r.1 r.2
theorem Hc{r:V→Option Int→Option Int→Hp→VK→Prop}{sem:SS}{lo hi:Option Expr}{fl fh:FO}{p2:Pos}(hr:SlR X r)(h:Ab7 X.K r sem)(he:PEF X e fa)(hl:POF X lo fl)(hu:POF X hi fh):PEF X (.Subscript e (.Slice lo hi none p2) pos) (fSl sem fa fl fh):=by
  refine PE.imp (Aaa hr he hl hu) ?_
  rintro σ H Q ⟨α,δ,L,A,S,z,L3,e,q⟩
  obtain ⟨⟨u,L1⟩,e1,e⟩:=Option.bind_eq_some_iff.mp e
  obtain ⟨⟨i,L2⟩,e2,e⟩:=Option.bind_eq_some_iff.mp e
  obtain ⟨⟨j,L4⟩,e3,e⟩:=Option.bind_eq_some_iff.mp e
  refine ⟨α,δ,L,A,S,u,L1,e1,fun x H1 α1 g1 A1 r1=>⟨α1,δ,L1,A1,S.mono g1,i,L2,e2,fun H2 α2 g2 A2=>⟨α2,δ,L2,A2,(S.mono g1).mono g2,j,L4,e3,fun H3 α3 g3 A3=>?_⟩⟩⟩
  exact h H3 α3 L4 u x i j z L3 Q A3 ((r1.mono g2).mono g3) e fun v H4 α4 g4 A4 r4=>q v H4 α4 (g1.trans (g2.trans (g3.trans g4))) A4 r4
noncomputable def U0(f:FE):FE:=fun δ L=>(f δ L).bind fun p=>match p.1 with | .int i=>some (.int (-i),p.2) | _=>none
theorem U8(ha:PEF X a fa):PEF X (.UnaryOp .USub a pos) (U0 fa):=by
  refine PE.imp (Ais Af9 ha) ?_
  rintro σ H Q ⟨α,δ,L,A,S,z,L3,e,q⟩
  obtain ⟨⟨u,L1⟩,e1,e⟩:=Option.bind_eq_some_iff.mp e
  refine ⟨α,δ,L,A,S,u,L1,e1,fun x H1 α1 g1 A1 r1=>?_⟩
  cases u with
  | int i=>cases e;exact ⟨i,r1,q _ H1 α1 g1 A1 rfl⟩
  | _=>simp at e
noncomputable def Xh(u:U)(L:UH):Option Bool:=match u with
  | .non=>some false
  | .bl b=>some b
  | .int i=>some (i != 0)
  | .str y=>if Gk y.length=true then some ((y.length:Int) != 0) else none
  | .tup l=>some (!l.isEmpty)
  | .ref n=>match L[n]? with
    | some (.lst xs)=>some (!xs.isEmpty)
    | some (.ro xs)=>some (!xs.isEmpty)
    | some (.dic kvs)=>some (!kvs.isEmpty)
    | _=>none
theorem Hr{α β:Type}{l:List α}{m:List β}(h:l.length=m.length):l.isEmpty=m.isEmpty:=by
  cases l <;> cases m <;> simp_all
theorem Ad7{K:PySem.W.Frag}{H:Hp}{α:List Addr}{L:UH}{u:U}{x:V}{k:Bool}(A:Abs K H α L)(r:RepU K H α u x)(h:Xh u L=some k):Ah5 K x H k:=by
  cases u with
  | non=>unfold RepU at r;subst r;exact (Option.some.inj h).symm
  | bl b=>unfold RepU at r;subst r;exact (Option.some.inj h).symm
  | int i=>unfold RepU at r;subst r;exact (Option.some.inj h).symm
  | str y=>
    unfold RepU at r;subst r
    unfold Xh at h
    simp only at h
    split at h
    · rename_i hs;cases h;exact ⟨Fg hs,rfl⟩
    · cases h
  | tup l=>
    unfold RepU at r
    obtain ⟨a,xs,rfl,s,r⟩:=r
    exact .inr (.inl ⟨xs,s,by rw[← Hr r.length];exact (Option.some.inj h).symm⟩)
  | ref n=>
    unfold RepU at r
    obtain ⟨a,ea,rfl⟩:=r
    unfold Xh at h
    simp only at h
    cases q:L[n]? with
    | none=>rw[q] at h;simp at h
    | some o=>
      have hr:=A.rep n a o ea q
      rw[q] at h
      cases o with
      | lst us=>obtain ⟨xs,e,r⟩:=hr;exact .inl ⟨xs,.of e,by rw[← Hr r.length];exact (Option.some.inj h).symm⟩
      | ro us=>obtain ⟨xs,e,r⟩:=hr;exact .inl ⟨xs,e.sq,by rw[← Hr r.length];exact (Option.some.inj h).symm⟩
      | dic kvs=>obtain ⟨vs,e,ek,_⟩:=hr;exact .inr (.inr ⟨vs,e,by rw[← Hr (show kvs.length=vs.length by simpa using congrArg List.length ek)];exact (Option.some.inj h).symm⟩)
      | rod kvs=>simp at h
      | ins C fs=>simp at h
      | exc C fr fs=>simp at h
noncomputable def Nh(f:FE):FT:=fun δ L=>(f δ L).bind fun p=>(Xh p.1 p.2).map fun k=>(k,p.2)
theorem Iu(ha:PEF X a fa)(he:∀ whole,isTrue a X.env whole=(do let v ← whole;standAt a.pos;holding [v] (truthy v)):=by intro _;rfl):PTF X a (Nh fa):=by
  refine PT.imp (Abm ha he) ?_
  rintro σ H Q ⟨α,δ,L,A,S,z,L3,e,q⟩
  obtain ⟨⟨u,L1⟩,e1,e⟩:=Option.bind_eq_some_iff.mp e
  obtain ⟨k,e2,e⟩:=Option.map_eq_some_iff.mp e
  cases e
  exact ⟨α,δ,L,A,S,u,_,e1,fun x H1 α1 g1 A1 r1=>⟨_,Ad7 A1 r1 e2,q H1 α1 g1 A1⟩⟩
end
inductive Fl where
  | nx (δ:UE) | rt (u:U) | bk (δ:UE) | ct (δ:UE)
noncomputable abbrev FS:=UE→UH→Option (Fl×UH)
noncomputable def Post(K:PySem.W.Frag)(D:Ends)(H:Hp)(α:List Addr)(fl:Fl)(L':UH):Prop:=match fl with
  | .nx δ'=>∀ σ' H' α',Gr H α H' α'→Abs K H' α' L'→RepS K H' α' δ' σ'→D.nx σ' H'
  | .bk δ'=>∀ σ' H' α',Gr H α H' α'→Abs K H' α' L'→RepS K H' α' δ' σ'→D.bk σ' H'
  | .ct δ'=>∀ σ' H' α',Gr H α H' α'→Abs K H' α' L'→RepS K H' α' δ' σ'→D.ct σ' H'
  | .rt u=>∀ v H' α',Gr H α H' α'→Abs K H' α' L'→RepU K H' α' u v→D.rt v H'
theorem Post.from{K:PySem.W.Frag}{D:Ends}{H H1:Hp}{α α1:List Addr}{fl:Fl}{L':UH}(g:Gr H α H1 α1)(p:Post K D H α fl L'):Post K D H1 α1 fl L':=by
  cases fl with
  | nx δ=>exact fun σ' H' α' g'=>p σ' H' α' (g.trans g')
  | bk δ=>exact fun σ' H' α' g'=>p σ' H' α' (g.trans g')
  | ct δ=>exact fun σ' H' α' g'=>p σ' H' α' (g.trans g')
  | rt u=>exact fun v H' α' g'=>p v H' α' (g.trans g')
noncomputable def lS(K:PySem.W.Frag)(f:FS):TS:=fun D σ H=>∃ α δ L,Abs K H α L∧RepS K H α δ σ∧∃ fl L',f δ L=some (fl,L')∧Post K D H α fl L'
noncomputable def PSF(X:Cx)(st:Stmt)(f:FS):Prop:=PS X st (lS X.K f)
noncomputable def Rj(X:Cx)(st:List Stmt)(f:FS):Prop:=PSs X st (lS X.K f)
section
variable {X:Cx}{st:Stmt}{rest:List Stmt}{e:Expr}{pos:Pos}{f g:FS}{fe:FE}
theorem PS.imp{t t':TS}(h:PS X st t)(hi:∀ D σ H,t' D σ H→t D σ H):PS X st t':=fun pins s σ H D I q=>h pins s σ H D I (hi D σ H q)
theorem PSs.imp{sts:List Stmt}{t t':TS}(h:PSs X sts t)(hi:∀ D σ H,t' D σ H→t D σ H):PSs X sts t':=fun pins s σ H D I q=>h pins s σ H D I (hi D σ H q)
noncomputable def Co:FS:=fun δ L=>some (.nx δ,L)
noncomputable def Ay(f g:FS):FS:=fun δ L=>(f δ L).bind fun p=>match p.1 with | .nx δ'=>g δ' p.2 | fl=>some (fl,p.2)
theorem B4:Rj X [] Co:=by
  refine PSs.imp Ae9 ?_
  rintro D σ H ⟨α,δ,L,A,S,fl,L',e,q⟩
  cases e
  exact q σ H α (.refl _ _) A S
theorem Aj(h1:PSF X st f)(h2:Rj X rest g):Rj X (st::rest) (Ay f g):=by
  refine PSs.imp (Y5 h1 h2) ?_
  rintro D σ H ⟨α,δ,L,A,S,fl,L',e,q⟩
  obtain ⟨⟨fl1,L1⟩,e1,e⟩:=Option.bind_eq_some_iff.mp e
  refine ⟨α,δ,L,A,S,fl1,L1,e1,?_⟩
  cases fl1 with
  | nx δ1=>exact fun σ1 H1 α1 g1 A1 S1=>⟨α1,δ1,L1,A1,S1,fl,L',e,q.from g1⟩
  | rt u=>cases e;exact q
  | bk δ1=>cases e;exact q
  | ct δ1=>cases e;exact q
theorem Ao(h1:PSF X st f):Rj X [st] f:=Ad3 h1
noncomputable def B0(f:FE):FS:=fun δ L=>(f δ L).map fun p=>(.rt p.1,p.2)
noncomputable def Gp(f:FE):FS:=fun δ L=>(f δ L).map fun p=>(.nx δ,p.2)
noncomputable def Ajb:FS:=fun _ L=>some (.rt .non,L)
theorem Aw(he:PEF X e fe):PSF X (.Return (some e) pos) (B0 fe):=by
  refine PS.imp (Agz he) ?_
  rintro D σ H ⟨α,δ,L,A,S,fl,L',e,q⟩
  obtain ⟨⟨u,L1⟩,e1,e⟩:=Option.map_eq_some_iff.mp e
  cases e
  exact ⟨α,δ,L,A,S,u,_,e1,fun v H1 α1 g1 A1 r1=>q v H1 α1 g1 A1 r1⟩
theorem Fp(he:PEF X e fe)(hs:swapsWith e none pos.line X.env=pure false:=by rfl):PSF X (.Expr e pos) (Gp fe):=by
  refine PS.imp (Adh he hs) ?_
  rintro D σ H ⟨α,δ,L,A,S,fl,L',e,q⟩
  obtain ⟨⟨u,L1⟩,e1,e⟩:=Option.map_eq_some_iff.mp e
  cases e
  exact ⟨α,δ,L,A,S,u,_,e1,fun v H1 α1 g1 A1 r1=>q σ H1 α1 g1 A1 (S.mono g1)⟩
noncomputable def Es(c:FT)(f g:FS):FS:=fun δ L=>(c δ L).bind fun p=>if p.1=true then f δ p.2 else g δ p.2
theorem Cp{c:Expr}{a b:List Stmt}{tc:FT}(hc:PTF X c tc)(ha:Rj X a f)(hb:Rj X b g):PSF X (.If c a b pos) (Es tc f g):=by
  refine PS.imp (Aju hc ha hb) ?_
  rintro D σ H ⟨α,δ,L,A,S,fl,L',e,q⟩
  obtain ⟨⟨u,L1⟩,e1,e⟩:=Option.bind_eq_some_iff.mp e
  refine ⟨α,δ,L,A,S,u,L1,e1,fun H1 α1 g1 A1=>?_⟩
  cases u with
  | true=>exact Xq ⟨α1,δ,L1,A1,S.mono g1,fl,L',e,q.from g1⟩
  | false=>exact Xc ⟨α1,δ,L1,A1,S.mono g1,fl,L',e,q.from g1⟩
noncomputable def Re:FS:=fun _ _=>none
theorem Qx:PSF X st Re:=by
  refine PS.imp Aai ?_
  rintro D σ H ⟨α,δ,L,A,S,fl,L',e,q⟩
  cases e
end
noncomputable abbrev FG:=U→UE→UH→Option (UE×UH)
noncomputable abbrev FGs:=List U→UE→UH→Option (UE×UH)
noncomputable def lG(K:PySem.W.Frag)(f:FG):TG:=fun v σ H Q=>∃ α δ L u,Abs K H α L∧RepS K H α δ σ∧RepU K H α u v∧∃ δ' L',f u δ L=some (δ',L')∧∀ σ' H' α',Gr H α H' α'→Abs K H' α' L'→RepS K H' α' δ' σ'→Q σ' H'
noncomputable def lGs(K:PySem.W.Frag)(f:FGs):TGs:=fun vs σ H Q=>∃ α δ L us,Abs K H α L∧RepS K H α δ σ∧RepL K H α us vs∧∃ δ' L',f us δ L=some (δ',L')∧∀ σ' H' α',Gr H α H' α'→Abs K H' α' L'→RepS K H' α' δ' σ'→Q σ' H'
noncomputable def PGF(X:Cx)(e:Expr)(f:FG):Prop:=PG X e (lG X.K f)
noncomputable def Adf(X:Cx)(es:List Expr)(f:FGs):Prop:=PGs X es (lGs X.K f)
section
variable {X:Cx}{e:Expr}{es:List Expr}{pos:Pos}
theorem PG.imp{t t':TG}(h:PG X e t)(hi:∀ v σ H Q,t' v σ H Q→t v σ H Q):PG X e t':=fun pins s σ H v u Q I r q=>h pins s σ H v u Q I r (hi v σ H Q q)
theorem PGs.imp{t t':TGs}(h:PGs X es t)(hi:∀ v σ H Q,t' v σ H Q→t v σ H Q):PGs X es t':=fun pins s σ H v u Q I r q=>h pins s σ H v u Q I r (hi v σ H Q q)
noncomputable def gN(i:Nat):FG:=fun u δ L=>some (δ.set i (some u),L)
theorem A8{i:Nat}{x:Str}(hN:X.N.Nodup)(hi:X.N[i]? = some x:=by rfl)(hx:Loc X.env.scope x:=by first | exact Or.inl rfl | exact Or.inr rfl)(hf:X.fn x=true∨X.env.scope.names.lookup x=some .local:=by first | exact .inl rfl | exact .inr rfl):PGF X (.Name x pos) (gN i):=by
  refine PG.imp (Ws (i:=i) hN hi hx hf) ?_
  rintro v σ H Q ⟨α,δ,L,u,A,S,r,δ',L',e,q⟩
  cases e
  exact q _ H α (.refl _ _) A (S.set i r)
noncomputable def gNil:FGs:=fun us δ L=>match us with | []=>some (δ,L) | _=>none
noncomputable def gCons(f:FG)(g:FGs):FGs:=fun us δ L=>match us with | []=>none | u::r=>(f u δ L).bind fun p=>g r p.1 p.2
theorem Hm:Adf X [] MR.gNil:=by
  refine PGs.imp Ae1 ?_
  rintro vs σ H Q ⟨α,δ,L,us,A,S,r,δ',L',e,q⟩
  cases us with
  | nil=>cases e;exact ⟨by unfold RepL at r;exact r,q σ H α (.refl _ _) A S⟩
  | cons u us=>cases e
theorem Ce{f:FG}{g:FGs}(h1:PGF X e f)(h2:Adf X es g)(hs:(assignEach (e::es) X.env).map (·.2)=assign e X.env::(assignEach es X.env).map (·.2):=by rfl):Adf X (e::es) (MR.gCons f g):=by
  refine PGs.imp (Y4 h1 h2 hs) ?_
  rintro vs σ H Q ⟨α,δ,L,us,A,S,r,δ',L',e,q⟩
  cases us with
  | nil=>cases e
  | cons u us=>
    unfold RepL at r
    obtain ⟨x,xs,rfl,r1,r2⟩:=r
    obtain ⟨⟨δ1,L1⟩,e1,e⟩:=Option.bind_eq_some_iff.mp e
    refine ⟨x,xs,rfl,α,δ,L,u,A,S,r1,δ1,L1,e1,fun σ1 H1 α1 g1 A1 S1=>?_⟩
    exact ⟨α1,δ1,L1,us,A1,S1,r2.mono g1,δ',L',e,fun σ2 H2 α2 g2 A2 S2=>q σ2 H2 α2 (g1.trans g2) A2 S2⟩
noncomputable def gTup(n:Nat)(g:FGs):FG:=fun u δ L=>match u with | .tup us=>if us.length=n then g us δ L else none | _=>none
theorem I0{k:Nat}{g:FGs}{n:Nat}(hc:X.calm=true)(h:Adf X es g)(hn:(assignEach es X.env).length=n:=by rfl)(hst:(assignEach es X.env).findIdx? (·.1)=none:=by rfl):PGF X (.Tuple es k pos) (MR.gTup n g):=by
  refine PG.imp (Ah1 hc h hn hst) ?_
  rintro v σ H Q ⟨α,δ,L,u,A,S,r,δ',L',e,q⟩
  cases u with
  | tup us=>
    unfold RepU at r
    obtain ⟨a,xs,rfl,s,r⟩:=r
    unfold MR.gTup at e
    simp only at e
    split at e
    · rename_i hl
      exact ⟨a,xs,rfl,s,by rw[← r.length];exact hl,α,δ,L,us,A,S,r,δ',L',e,q⟩
    · cases e
  | _=>simp[MR.gTup] at e
noncomputable def Br(fe:FE)(g:FG):FS:=fun δ L=>(fe δ L).bind fun p=>(g p.1 δ p.2).map fun q=>(.nx q.1,q.2)
theorem Lb{tg:Expr}{fe:FE}{g:FG}(he:PEF X e fe)(hg:PGF X tg g)(hs:swapsWithSole [tg] e pos.line X.env=pure false:=by rfl)(hw:swappedStores [tg] e X.env=pure none:=by rfl)(h1:(assignEach [tg] X.env).map (·.2)=[assign tg X.env]:=by rfl) :
    PSF X (.Assign [tg] e pos) (Br fe g):=by
  refine PS.imp (Ahd he hg hs hw h1) ?_
  rintro D σ H ⟨α,δ,L,A,S,fl,L',e,q⟩
  obtain ⟨⟨u,L1⟩,e1,e⟩:=Option.bind_eq_some_iff.mp e
  obtain ⟨⟨δ2,L2⟩,e2,e⟩:=Option.map_eq_some_iff.mp e
  cases e
  exact ⟨α,δ,L,A,S,u,L1,e1,fun v H1 α1 g1 A1 r1=>⟨α1,δ,L1,u,A1,S.mono g1,r1,δ2,_,e2,fun σ2 H2 α2 g2 A2 S2=>q σ2 H2 α2 (g1.trans g2) A2 S2⟩⟩
theorem Az{i:Nat}{x:Str}{fe:FE}{pos':Pos}(hN:X.N.Nodup)(he:PEF X e fe)(hi:X.N[i]? = some x:=by rfl)(hx:Loc X.env.scope x:=by first | exact Or.inl rfl | exact Or.inr rfl)
    (hs:swapsWith e (some (.Name x pos')) pos.line X.env=pure false:=by rfl) (hf:X.fn x=true∨X.env.scope.names.lookup x=some .local:=by first | exact .inl rfl | exact .inr rfl) :
    PSF X (.Assign [.Name x pos'] e pos) (Br fe (gN i)):=by
  refine PS.imp (Ag7 (i:=i) hN hi hx he hs hf) ?_
  rintro D σ H ⟨α,δ,L,A,S,fl,L',e,q⟩
  obtain ⟨⟨u,L1⟩,e1,e⟩:=Option.bind_eq_some_iff.mp e
  obtain ⟨⟨δ2,L2⟩,e2,e⟩:=Option.map_eq_some_iff.mp e
  cases e
  cases e2
  exact ⟨α,δ,L,A,S,u,_,e1,fun v H1 α1 g1 A1 r1=>q _ H1 α1 g1 A1 ((S.mono g1).set i r1)⟩
end
noncomputable def E6(L:UH)(n:Nat):Option (List U):=match L[n]? with
  | some (.lst us)=>some us
  | _=>none
noncomputable def Ap(L:UH)(n:Nat):Option (List U):=match L[n]? with
  | some (.lst us)=>some us
  | some (.ro us)=>some us
  | _=>none
inductive IU where
  | seq (us:List U) | ref (n:Nat) | enm (n:Nat) | zip2 (n m:Nat) | zipT (us:List U) (m:Nat) | zipL (n:Nat) (ws:List U)
noncomputable def Jl:Option U→Option U→Option U
  | some x,some y=>some (.tup [x,y])
  | _,_=>none
noncomputable def IU.at(i:IU)(k:Nat)(L:UH):Option (Option U):=match i with
  | .seq us=>some us[k]?
  | .ref n=>match L[n]? with
    | some (.lst us)=>some us[k]?
    | some (.ro us)=>some us[k]?
    | _=>none
  | .enm n=>(Ap L n).map fun us=>(us[k]?).map fun u=>.tup [.int k,u]
  | .zip2 n m=>(Ap L n).bind fun us=>(Ap L m).map fun ws=>Jl us[k]? ws[k]?
  | .zipT us m=>(Ap L m).map fun ws=>Jl us[k]? ws[k]?
  | .zipL n ws=>(Ap L n).map fun us=>Jl us[k]? ws[k]?
noncomputable def IU.size(i:IU)(L:UH):Nat:=match i with
  | .seq us=>us.length
  | .ref n=>match L[n]? with
    | some (.lst us)=>us.length
    | some (.ro us)=>us.length
    | _=>0
  | .enm n=>match Ap L n with
    | some us=>us.length
    | none=>0
  | .zip2 n m=>match Ap L n,Ap L m with
    | some us,some ws=>min us.length ws.length
    | _,_=>0
  | .zipT us m=>match Ap L m with
    | some ws=>min us.length ws.length
    | none=>0
  | .zipL n ws=>match Ap L n with
    | some us=>min us.length ws.length
    | none=>0
noncomputable abbrev FI:=UE→UH→Option (IU×UH)
noncomputable def Mb(K:PySem.W.Frag)(J:It)(i:IU)(H:Hp)(α:List Addr):Prop:=∀ (H2:Hp) (α2:List Addr) (L2:UH),Gr H α H2 α2→Abs K H2 α2 L2→∀ k:Nat,
  (∀ u,i.at k L2=some (some u)→J.go k H2∧∀ x H3,J.yld k H2 x H3→Gr H2 α2 H3 α2∧Abs K H3 α2 L2∧RepU K H3 α2 u x)∧(i.at k L2=some none→J.stop k H2)
noncomputable def lI(K:PySem.W.Frag)(f:FI):TI:=fun σ H R=>∃ α δ L,Abs K H α L∧RepS K H α δ σ∧∃ i L',f δ L=some (i,L')∧∀ J H' α',Gr H α H' α'→Abs K H' α' L'→Mb K J i H' α'→R J H'
noncomputable def PIF(X:Cx)(tg iter:Expr)(f:FI):Prop:=PI X tg iter (lI X.K f)
section
variable {X:Cx}{tg iter l:Expr}{pos:Pos}{fe:FE}
theorem PI.imp{t t':TI}(h:PI X tg iter t)(hi:∀ σ H R,t' σ H R→t σ H R):PI X tg iter t':=fun pins s σ H R I q=>h pins s σ H R I (hi σ H R q)
theorem PI.or{t t':TI}(h:PI X tg iter t)(h':PI X tg iter t'):PI X tg iter (fun σ H R=>t σ H R∨t' σ H R):=fun pins s σ H R I q=>by
  rcases q with q | q
  · exact h pins s σ H R I q
  · exact h' pins s σ H R I q
noncomputable def Sa(u:U)(L:UH):Option IU:=match u with
  | .tup us=>some (.seq us)
  | .ref n=>match L[n]? with
    | some (.lst _)=>some (.ref n)
    | some (.ro _)=>some (.ref n)
    | _=>none
  | _=>none
theorem Ww{K:PySem.W.Frag}{H:Hp}{α:List Addr}{n:Nat}{a:Addr}(ea:α[n]? = some a):Mb K (Itl K a) (.ref n) H α:=by
  intro H2 α2 L2 g A2 k
  have ea2:=g.at ea
  have go:∀ (us:List U) (xs:List V),SqL K H2 a xs→RepL K H2 α2 us xs→(∀ ys,SqL K H2 a ys→True)→(∀ u,us[k]? = some u→(Itl K a).go k H2∧∀ x H3,(Itl K a).yld k H2 x H3→Gr H2 α2 H3 α2∧Abs K H3 α2 L2∧RepU K H3 α2 u x)∧(us[k]? = none→(Itl K a).stop k H2):=by
    intro us xs sq r _
    refine ⟨fun u eu=>?_,fun eu=>?_⟩
    · obtain ⟨x,ex,rx⟩:=r.get eu
      refine ⟨⟨xs,x,sq,ex⟩,?_⟩
      rintro y H3 ⟨rfl,hy⟩
      have:=hy xs sq
      rw[ex] at this;cases this
      exact ⟨.refl _ _,A2,rx⟩
    · exact ⟨xs,sq,by rw[← r.length];exact List.getElem?_eq_none_iff.mp eu⟩
  unfold IU.at
  simp only
  cases q:L2[n]? with
  | none=>simp
  | some o=>
    have hr:=A2.rep n a o ea2 q
    cases o with
    | lst us=>
      obtain ⟨xs,e,r⟩:=hr
      obtain ⟨h1,h2⟩:=go us xs (.of e) r fun _ _=>trivial
      exact ⟨fun u eu=>h1 u (Option.some.inj eu),fun eu=>h2 (Option.some.inj eu)⟩
    | ro us=>
      obtain ⟨xs,e,r⟩:=hr
      obtain ⟨h1,h2⟩:=go us xs e.sq r fun _ _=>trivial
      exact ⟨fun u eu=>h1 u (Option.some.inj eu),fun eu=>h2 (Option.some.inj eu)⟩
    | dic kvs=>simp
    | rod kvs=>simp
    | ins C fs=>simp
    | exc C fr fs=>simp
theorem Ada{K:PySem.W.Frag}{H:Hp}{α:List Addr}{us:List U}{xs:List V}{a:Addr}(sq:SqT K H a xs)(r:RepL K H α us xs):Mb K (Itt K a) (.seq us) H α:=by
  intro H2 α2 L2 g A2 k
  have sq2:=g.st.sqT (K:=K) sq
  have r2:=r.mono g
  refine ⟨fun u eu=>?_,fun eu=>?_⟩
  · obtain ⟨x,ex,rx⟩:=r2.get (Option.some.inj eu)
    refine ⟨⟨xs,x,sq2,ex⟩,?_⟩
    rintro y H3 ⟨rfl,hy⟩
    have:=hy xs sq2
    rw[ex] at this;cases this
    exact ⟨.refl _ _,A2,rx⟩
  · exact ⟨xs,sq2,by rw[← r2.length];exact List.getElem?_eq_none_iff.mp (Option.some.inj eu)⟩
theorem Wq{K:PySem.W.Frag}{H:Hp}{α:List Addr}(lo:Int)(n:Nat):Mb K (Itr lo n) (.seq ((List.range n).map fun i=>U.int (lo+(i:Nat)))) H α:=by
  intro H2 α2 L2 g A2 k
  refine ⟨fun u eu=>?_,fun eu=>?_⟩
  · have eu:=Option.some.inj eu
    rw[List.getElem?_map] at eu
    by_cases hk:k < n
    · rw[List.getElem?_range hk] at eu
      simp at eu
      refine ⟨hk,?_⟩
      rintro x H3 ⟨rfl,rfl⟩
      subst eu
      exact ⟨.refl _ _,A2,rfl⟩
    · rw[List.getElem?_eq_none (by simpa using hk)] at eu
      simp at eu
  · have:=List.getElem?_eq_none_iff.mp (Option.some.inj eu)
    show n≤k
    simpa using this
noncomputable def Cq(f:FE):FI:=fun δ L=>(f δ L).bind fun p=>(Sa p.1 p.2).map fun i=>(i,p.2)
theorem Gv(h:PEF X l fe):PIF X tg l (Cq fe):=by
  refine PI.imp (PI.or (Aey h) (Agy h)) ?_
  rintro σ H R ⟨α,δ,L,A,S,i,L3,e,q⟩
  obtain ⟨⟨u,L1⟩,e1,e⟩:=Option.bind_eq_some_iff.mp e
  obtain ⟨j,e2,e⟩:=Option.map_eq_some_iff.mp e
  cases e
  cases u with
  | tup us=>
    cases e2
    refine .inr ⟨α,δ,L,A,S,_,_,e1,fun x H1 α1 g1 A1 r1=>?_⟩
    unfold RepU at r1
    obtain ⟨a,xs,rfl,sq,r⟩:=r1
    exact ⟨a,rfl,⟨xs,sq⟩,q _ H1 α1 g1 A1 (Ada sq r)⟩
  | ref n=>
    refine .inl ⟨α,δ,L,A,S,_,_,e1,fun x H1 α1 g1 A1 r1=>?_⟩
    unfold RepU at r1
    obtain ⟨a,ea,rfl⟩:=r1
    refine ⟨a,rfl,?_⟩
    unfold Sa at e2
    simp only at e2
    cases w:L1[n]? with
    | none=>simp only[w] at e2;cases e2
    | some o=>
      have hr:=A1.rep n a o ea w
      cases o with
      | lst us=>simp only[w] at e2;cases e2;obtain ⟨xs,e,r⟩:=hr;exact ⟨⟨xs,.of e⟩,q _ H1 α1 g1 A1 (Ww ea)⟩
      | ro us=>simp only[w] at e2;cases e2;obtain ⟨xs,e,r⟩:=hr;exact ⟨⟨xs,e.sq⟩,q _ H1 α1 g1 A1 (Ww ea)⟩
      | dic kvs=>simp only[w] at e2;cases e2
      | rod kvs=>simp only[w] at e2;cases e2
      | ins C fs=>simp only[w] at e2;cases e2
      | exc C fr fs=>simp only[w] at e2;cases e2
  | _=>cases e2
noncomputable def Ch(lo:Int)(n:Nat):List U:=(List.range n).map fun i=>U.int (lo+(i:Nat))
noncomputable def Ia(g:FA):FI:=fun δ L=>(g δ L).bind fun p=>match p.1 with
  | [.int j]=>if -(2 ^ 62)≤j∧j < 2 ^ 62 then some (.seq (Ch 0 j.toNat),p.2) else none
  | _=>none
noncomputable def Lf(g:FA):FI:=fun δ L=>(g δ L).bind fun p=>match p.1 with
  | [.int i,.int j]=>if (-(2 ^ 62)≤i∧i < 2 ^ 62)∧-(2 ^ 62)≤j∧j < 2 ^ 62 then some (.seq (Ch i (j - i).toNat),p.2) else none
  | _=>none
theorem RepL.one{K:PySem.W.Frag}{H:Hp}{α:List Addr}{u:U}{xs:List V}(h:RepL K H α [u] xs):∃ x,xs=[x]∧RepU K H α u x:=by
  unfold RepL at h
  obtain ⟨x,r,e,h1,h2⟩:=h
  unfold RepL at h2
  subst h2
  exact ⟨x,e,h1⟩
theorem RepL.two{K:PySem.W.Frag}{H:Hp}{α:List Addr}{u w:U}{xs:List V}(h:RepL K H α [u,w] xs):∃ x y,xs=[x,y]∧RepU K H α u x∧RepU K H α w y:=by
  unfold RepL at h
  obtain ⟨x,r,e,h1,h2⟩:=h
  obtain ⟨y,e2,h3⟩:=h2.one
  subst e2
  exact ⟨x,y,e,h1,h3⟩
theorem G8{a:Expr}{g:FA}{p pos:Pos}(hg:Gl X "range")(hm:X.mg "range" = none)(ha:PAF X [a] g)(hs:starEach [a] X.env=[(false,eval a X.env)]:=by rfl):PIF X tg (.Call (.Name "range" p) [a] [] pos) (Ia g):=by
  refine PI.imp (Xm hg hm ha hs) ?_
  rintro σ H R ⟨α,δ,L,A,S,i,L3,e,q⟩
  obtain ⟨⟨us,L1⟩,e1,e⟩:=Option.bind_eq_some_iff.mp e
  refine ⟨α,δ,L,A,S,us,L1,e1,fun xs H1 α1 g1 A1 r1=>?_⟩
  simp only at e
  split at e
  · rename_i _ j
    split at e
    · rename_i hj
      cases e
      obtain ⟨x,rfl,rx⟩:=r1.one
      unfold RepU at rx
      subst rx
      exact ⟨j,rfl,hj.1,hj.2,q _ H1 α1 g1 A1 (Wq 0 _)⟩
    · cases e
  · cases e
theorem Pf{a b:Expr}{g:FA}{p pos:Pos}(hg:Gl X "range")(hm:X.mg "range" = none)(ha:PAF X [a,b] g)(hs:starEach [a,b] X.env=[(false,eval a X.env),(false,eval b X.env)]:=by rfl)(hs2:starEach [b] X.env=[(false,eval b X.env)]:=by rfl):PIF X tg (.Call (.Name "range" p) [a,b] [] pos) (Lf g):=by
  refine PI.imp (Yt hg hm ha hs hs2) ?_
  rintro σ H R ⟨α,δ,L,A,S,i,L3,e,q⟩
  obtain ⟨⟨us,L1⟩,e1,e⟩:=Option.bind_eq_some_iff.mp e
  refine ⟨α,δ,L,A,S,us,L1,e1,fun xs H1 α1 g1 A1 r1=>?_⟩
  simp only at e
  split at e
  · rename_i _ i j
    split at e
    · rename_i hj
      cases e
      obtain ⟨x,y,rfl,rx,ry⟩:=r1.two
      unfold RepU at rx ry
      subst rx
      subst ry
      exact ⟨i,j,rfl,⟨hj.1.1,hj.1.2,hj.2.1,hj.2.2⟩,q _ H1 α1 g1 A1 (Wq i _)⟩
    · cases e
  · cases e
noncomputable def Jm(i:IU)(g:FG)(body:FS):Nat→Nat→UE→UH→Option (Fl×UH)
  | 0,_,_,_=>none
  | m+1,k,δ,L=>match i.at k L with
    | none=>none
    | some none=>some (.nx δ,L)
    | some (some u)=>(g u δ L).bind fun p=>(body p.1 p.2).bind fun q=>match q.1 with
      | .nx δ'=>Jm i g body m (k+1) δ' q.2
      | .ct δ'=>Jm i g body m (k+1) δ' q.2
      | .bk δ'=>some (.nx δ',q.2)
      | .rt w=>some (.rt w,q.2)
noncomputable def Hn(fi:FI)(g:FG)(body:FS):FS:=fun δ L=>(fi δ L).bind fun p=>Jm p.1 g body (p.1.size p.2+1) 0 δ p.2
theorem Fa{body:List Stmt}{fi:FI}{g:FG}{fb:FS}(hp:PassesOwn (model X.prog X.w) X.A X.env X.xe)(hc:X.calm=true)(hi:PIF X tg iter fi)(hg:PGF X tg g)(hb:Rj X body fb)
    (hs:∀ x,foldedSetIterable iter X.env x=pure x:=by intro _;rfl):PSF X (.For tg iter body [] pos) (Hn fi g fb):=by
  refine PS.imp (Aij hp hc hi hg hb hs) ?_
  rintro D σ H ⟨α,δ,L,A,S,fl,L',e,q⟩
  obtain ⟨⟨it,L1⟩,e1,e⟩:=Option.bind_eq_some_iff.mp e
  refine ⟨α,δ,L,A,S,it,L1,e1,fun J H1 α1 g1 A1 hJ=>?_⟩
  refine ⟨fun k m σ2 H2=>∃ α2 δ2 L2,Gr H1 α1 H2 α2∧Abs X.K H2 α2 L2∧RepS X.K H2 α2 δ2 σ2∧Jm it g fb m k δ2 L2=some (fl,L')∧Post X.K D H2 α2 fl L',⟨_,α1,δ,L1,.refl _ _,A1,S.mono g1,e,q.from g1⟩,?_⟩
  rintro k m σ2 H2 ⟨α2,δ2,L2,g2,A2,S2,e2,q2⟩
  cases m with
  | zero=>cases e2
  | succ m=>
    obtain ⟨hgo,hstop⟩:=hJ H2 α2 L2 g2 A2 k
    unfold Jm at e2
    cases hat:it.at k L2 with
    | none=>rw[hat] at e2;cases e2
    | some o=>
      cases o with
      | none=>
        rw[hat] at e2
        cases e2
        exact .inl ⟨hstop hat,q2 σ2 H2 α2 (.refl _ _) A2 S2⟩
      | some u=>
        rw[hat] at e2
        obtain ⟨go,yld⟩:=hgo u hat
        obtain ⟨⟨δ3,L3⟩,e3,e2⟩:=Option.bind_eq_some_iff.mp e2
        obtain ⟨⟨fl4,L4⟩,e4,e2⟩:=Option.bind_eq_some_iff.mp e2
        refine .inr ⟨go,fun σ5 H5=>∃ α5 δ5 L5,Gr H1 α1 H5 α5∧Abs X.K H5 α5 L5∧RepS X.K H5 α5 δ5 σ5∧Jm it g fb m (k+1) δ5 L5=some (fl,L')∧Post X.K D H5 α5 fl L',fun σ5 H5 h5=>⟨m,Nat.lt_succ_self _,h5⟩,fun x H3 y3=>?_⟩
        obtain ⟨g3,A3,r3⟩:=yld x H3 y3
        refine ⟨α2,δ2,L2,u,A3,S2.mono g3,r3,δ3,L3,e3,fun σ4 H4 α4 g4 A4 S4=>⟨α4,δ3,L3,A4,S4,fl4,L4,e4,?_⟩⟩
        have gA:=g2.trans (g3.trans g4)
        have gB:=g3.trans g4
        cases fl4 with
        | nx δ5=>exact fun σ5 H5 α5 g5 A5 S5=>⟨α5,δ5,L4,gA.trans g5,A5,S5,e2,q2.from (gB.trans g5)⟩
        | ct δ5=>exact fun σ5 H5 α5 g5 A5 S5=>⟨α5,δ5,L4,gA.trans g5,A5,S5,e2,q2.from (gB.trans g5)⟩
        | bk δ5=>cases e2;exact fun σ5 H5 α5 g5 A5 S5=>q2 σ5 H5 α5 (gB.trans g5) A5 S5
        | rt w=>cases e2;exact fun v H5 α5 g5 A5 r5=>q2 v H5 α5 (gB.trans g5) A5 r5
noncomputable def Gh(c:FT)(body:FS):Nat→UE→UH→Option (Fl×UH)
  | 0,_,_=>none
  | m+1,δ,L=>(c δ L).bind fun p=>if p.1=true then (body δ p.2).bind fun q=>match q.1 with
      | .nx δ'=>Gh c body m δ' q.2
      | .ct δ'=>Gh c body m δ' q.2
      | .bk δ'=>some (.nx δ',q.2)
      | .rt w=>some (.rt w,q.2)
    else some (.nx δ,p.2)
theorem P7{c:Expr}{body:List Stmt}{tc:FT}{fb:FS}(n:Nat)(hp:PassesOwn (model X.prog X.w) X.A X.env X.xe)(hc:PTF X c tc)(hb:Rj X body fb):PSF X (.While c body [] pos) (Gh tc fb n):=by
  refine PS.imp (Aau hp hc hb) ?_
  rintro D σ H ⟨α,δ,L,A,S,fl,L',e,q⟩
  refine ⟨fun m σ2 H2=>∃ α2 δ2 L2,Abs X.K H2 α2 L2∧RepS X.K H2 α2 δ2 σ2∧Gh tc fb m δ2 L2=some (fl,L')∧Post X.K D H2 α2 fl L',⟨n,α,δ,L,A,S,e,q⟩,?_⟩
  rintro m σ2 H2 ⟨α2,δ2,L2,A2,S2,e2,q2⟩
  cases m with
  | zero=>cases e2
  | succ m=>
    unfold Gh at e2
    obtain ⟨⟨b,L3⟩,e3,e2⟩:=Option.bind_eq_some_iff.mp e2
    refine ⟨α2,δ2,L2,A2,S2,b,L3,e3,fun H3 α3 g3 A3=>?_⟩
    cases b with
    | false=>cases e2;exact Xc (q2 σ2 H3 α3 g3 A3 (S2.mono g3))
    | true=>
      obtain ⟨⟨fl4,L4⟩,e4,e2⟩:=Option.bind_eq_some_iff.mp e2
      refine Xq ⟨fun σ5 H5=>∃ α5 δ5 L5,Abs X.K H5 α5 L5∧RepS X.K H5 α5 δ5 σ5∧Gh tc fb m δ5 L5=some (fl,L')∧Post X.K D H5 α5 fl L',fun σ5 H5 h5=>⟨m,Nat.lt_succ_self _,h5⟩,?_⟩
      refine ⟨α3,δ2,L3,A3,S2.mono g3,fl4,L4,e4,?_⟩
      cases fl4 with
      | nx δ5=>exact fun σ5 H5 α5 g5 A5 S5=>⟨α5,δ5,L4,A5,S5,e2,q2.from (g3.trans g5)⟩
      | ct δ5=>exact fun σ5 H5 α5 g5 A5 S5=>⟨α5,δ5,L4,A5,S5,e2,q2.from (g3.trans g5)⟩
      | bk δ5=>cases e2;exact fun σ5 H5 α5 g5 A5 S5=>q2 σ5 H5 α5 (g3.trans g5) A5 S5
      | rt w=>cases e2;exact fun v H5 α5 g5 A5 r5=>q2 v H5 α5 (g3.trans g5) A5 r5
end
noncomputable def fnU(n m:Nat)(body:FS):FN:=fun us L=>if us.length=m then (body (us.map some++List.replicate (n - us.length) none) L).bind fun p=>match p.1 with
  | .rt u=>some (u,p.2)
  | .nx _=>some (.non,p.2)
  | _=>none
  else none
section
variable {P:Program}{w:World}{K:PySem.W.Frag}{mg:Str→Option Value}{base:Heap}
theorem Fun.okF{x qual:Str}{st:Stmt}{f:Addr}{fd:FuncData}{N ps:List Str}{k:Nat}{body:FS}(F:Fun K x qual st f fd)(S:FnScope N ps (Am st))
    (hbody:∀ (cdv:Value) (A:Around) (outer:List PySem.Env) (s:Shared) (H:Hp) (E:XK),Room k (A.deeper (envOfC qual (Am st) s.heap.objs.size f cdv))→Rj (U1 CX0 P w K mg base N qual (Am st) f cdv A outer s H E).nox (Bf st) body) :
    FnOk P w K mg base CX0 (k+1) f fd ps (spF K ps.length (fnU N.length ps.length body)):=by
  refine F.ok S (fun vs H Q E ⟨α,L,us,A,r,hl,_⟩=>by rw[← r.length];exact hl) (fun cdv A outer s H vs Q E hr h=>?_)
  obtain ⟨α,L,us,Ab,r,hl,u,L',e,q⟩:=h
  refine ⟨_,hbody cdv A outer s H E hr,?_⟩
  unfold fnU at e
  rw[if_pos hl] at e
  obtain ⟨⟨fl,L1⟩,e1,e⟩:=Option.bind_eq_some_iff.mp e
  refine ⟨α,_,L,Ab,RepS.start N r,fl,L1,e1,?_⟩
  cases fl with
  | rt w=>cases e;exact q
  | nx δ=>cases e;exact fun σ' H' α' g' A' S'=>q .non H' α' g' A' rfl
  | bk δ=>cases e
  | ct δ=>cases e
end
section
variable {K:PySem.W.Frag}{H:Hp}{α:List Addr}{L:UH}{u:U}{x:V}
theorem N6{n:Nat}{us:List U}(h:E6 L n=some us):L[n]? = some (.lst us):=by
  unfold E6 at h
  split at h
  · rename_i e;cases h;exact e
  · cases h
theorem K5{n:Nat}{us:List U}(A:Abs K H α L)(h:E6 L n=some us):∃ a xs,α[n]? = some a∧H a=some (.lst xs)∧RepL K H α us xs:=by
  obtain ⟨a,ea,xs,e,r⟩:=A.addr (N6 h)
  exact ⟨a,xs,ea,e,r⟩
theorem Ir{n:Nat}{us:List U}(A:Abs K H α L)(h:Ap L n=some us):∃ a xs,α[n]? = some a∧SqL K H a xs∧RepL K H α us xs:=by
  unfold Ap at h
  split at h
  · rename_i e;cases h
    obtain ⟨a,ea,xs,e,r⟩:=A.addr e
    exact ⟨a,xs,ea,.of e,r⟩
  · rename_i e;cases h
    obtain ⟨a,ea,xs,e,r⟩:=A.addr e
    exact ⟨a,xs,ea,e.sq,r⟩
  · cases h
theorem Abs.setL{n:Nat}{a:Addr}{xs ys:List V}{us ws:List U}(A:Abs K H α L)(h:E6 L n=some us)(ea:α[n]? = some a)(e:H a=some (.lst xs))(r:RepL K H α ws ys) :
    Gr H α (upd H a (.lst ys)) α∧Abs K (upd H a (.lst ys)) α (L.set n (.lst ws)):=by
  have g:Gr H α (upd H a (.lst ys)) α:=⟨⟨[],by simp⟩,.write e (by exact trivial) _⟩
  obtain ⟨A',_⟩:=A.put (o:=.lst ys) (u:=.lst ws) ea (N6 h) rfl rfl e (by exact trivial) ⟨ys,upd_same,r.mono g⟩
  exact ⟨g,A'⟩
theorem RepU.ref_of{n:Nat}(A:Abs K H α L)(h:RepU K H α (.ref n) x):∃ a,α[n]? = some a∧x = .ref a:=by unfold RepU at h;exact h
end
noncomputable def Bl:S2:=fun u w L=>match u,w with
  | .int i,.int j=>some (.int (i+j),L)
  | .str a,.str b=>if Gk (a.length+b.length)=true then some (.str (a++b),L) else none
  | .tup a,.tup b=>if a.isEmpty=false∧Gk (a.length+b.length)=true then some (.tup (a++b),L) else none
  | .ref n,.ref m=>(E6 L n).bind fun a=>(E6 L m).bind fun b=>if Gk (a.length+b.length)=true then some (.ref L.length,L++[.lst (a++b)]) else none
  | _,_=>none
noncomputable def Aal(K:PySem.W.Frag):R2:=fun x y H Q=>rI0 (fun i j=>.int (i+j)) x y H Q∨(∃ i j,x = .str i∧y = .str j∧i.length+j.length≤sizeLine∧Q (.str (i++j)) H)∨Afu K x y H Q∨Ait x y H Q
theorem Cy{X:Cx}:OpR X (binaryOp .Add) (Aal X.K):=Aic.or (Va.or (Adz.or Agw))
theorem C1{K:PySem.W.Frag}:Ej K (Aal K) Bl:=by
  intro H α L u w x y z L' Q A ru rw e q
  unfold Bl at e
  split at e
  · cases e
    unfold RepU at ru rw
    exact .inl ⟨_,_,ru,rw,q _ H α (.refl _ _) A rfl⟩
  · split at e
    · rename_i h
      cases e
      unfold RepU at ru rw
      exact .inr (.inl ⟨_,_,ru,rw,Fg h,q _ H α (.refl _ _) A rfl⟩)
    · cases e
  · rename_i a b
    split at e
    · rename_i h
      cases e
      unfold RepU at ru rw
      obtain ⟨p,xs,rfl,s1,r1⟩:=ru
      obtain ⟨p2,ys,rfl,s2,r2⟩:=rw
      have e1:=r1.length
      have e2:=r2.length
      refine .inr (.inr (.inl ⟨p,p2,xs,ys,rfl,rfl,s1,s2,?_,by rw[← e1,← e2];exact Fg h.2,fun hy=>?_,fun hy l hl=>?_⟩))
      · intro hx;subst hx
        cases a with
        | nil=>simp at h
        | cons _ _=>simp at e1
      · subst hy
        have hb:b=[]:=by
          cases b with
          | nil=>rfl
          | cons _ _=>simp at e2
        subst hb
        refine q _ H α (.refl _ _) A ?_
        unfold RepU
        exact ⟨p,xs,rfl,s1,by rw[List.append_nil];exact r1⟩
      · obtain ⟨g,A',r⟩:=A.tup (r1.append r2) hl
        exact q _ _ α g A' r
    · cases e
  · rename_i n m
    obtain ⟨a,ha,e⟩:=Option.bind_eq_some_iff.mp e
    obtain ⟨b,hb,e⟩:=Option.bind_eq_some_iff.mp e
    split at e
    · rename_i h
      cases e
      obtain ⟨p,xs,e1,h1,r1⟩:=K5 A ha
      obtain ⟨p2,ys,e2,h2,r2⟩:=K5 A hb
      obtain ⟨p',e1',rfl⟩:=ru.ref_of A
      obtain ⟨p2',e2',rfl⟩:=rw.ref_of A
      rw[e1] at e1';cases e1'
      rw[e2] at e2';cases e2'
      refine .inr (.inr (.inr ⟨p,p2,xs,ys,rfl,rfl,h1,h2,by rw[← r1.length,← r2.length];exact Fg h,fun l hl=>?_⟩))
      obtain ⟨g,A',r⟩:=A.lst (r1.append r2) hl
      exact q _ _ _ g A' r
    · cases e
  · cases e
noncomputable def Aa0(C:Int→Int→Bool)(g:Int→Int→U):S2:=fun u w L=>match u,w with
  | .int i,.int j=>if C i j=true then some (g i j,L) else none
  | _,_=>none
theorem Abz{K:PySem.W.Frag}{C:Int→Int→Prop}{Cb:Int→Int→Bool}{g:Int→Int→V}{g':Int→Int→U}(hC:∀ i j,Cb i j=true→C i j)(hg:∀ i j H α,RepU K H α (g' i j) (g i j)):Ej K (rI C g) (Aa0 Cb g'):=by
  intro H α L u w x y z L' Q A ru rw e q
  unfold Aa0 at e
  split at e
  · split at e
    · rename_i h
      cases e
      unfold RepU at ru rw
      exact ⟨_,_,ru,rw,hC _ _ h,q _ H α (.refl _ _) A (hg _ _ _ _)⟩
    · cases e
  · cases e
noncomputable def Ln(g:Int→Int→U):S2:=fun u w L=>match u,w with
  | .int i,.int j=>some (g i j,L)
  | _,_=>none
theorem Mh{K:PySem.W.Frag}{g:Int→Int→V}{g':Int→Int→U}(hg:∀ i j H α,RepU K H α (g' i j) (g i j)):Ej K (rI0 g) (Ln g'):=by
  intro H α L u w x y z L' Q A ru rw e q
  unfold Ln at e
  split at e
  · cases e
    unfold RepU at ru rw
    exact ⟨_,_,ru,rw,q _ H α (.refl _ _) A (hg _ _ _ _)⟩
  · cases e
noncomputable def B8:S2:=Ln fun i j=>.int (i - j)
theorem C8{K:PySem.W.Frag}:Ej K (rI0 fun i j=>.int (i - j)) B8:=Mh fun _ _ _ _=>rfl
noncomputable def Hh(i j:Int):Bool:=(decide (-(2 ^ 64) < i)&&decide (i < 2 ^ 64)) || (decide (-(2 ^ 64) < j)&&decide (j < 2 ^ 64))
noncomputable def Di:S2:=fun u w L=>match u,w with
  | .int i,.int j=>if Hh i j=true then some (.int (i * j),L) else none
  | .str a,.int j=>if a.length≤1000∧-1000≤j∧j≤1000 then some (.str (Txt.mul a j),L) else none
  | .ref n,.int k=>(E6 L n).bind fun a=>if -1000000≤k∧k≤1000000∧Gk (a.length * k.toNat)=true then some (.ref L.length,L++[.lst (List.replicate k.toNat a).flatten]) else none
  | _,_=>none
noncomputable def Aft:R2:=fun x y H Q=>rI CMul (fun i j=>.int (i * j)) x y H Q∨(∃ a j,x = .str a∧y = .int j∧MulOk a j∧Q (.str (Txt.mul a j)) H)∨Ai0 x y H Q
theorem Vi{X:Cx}:OpR X (binaryOp .Mult) (fun x y H Q=>∃ a j,x = .str a∧y = .int j∧MulOk a j∧Q (.str (Txt.mul a j)) H):=by
  intro pins s σ H x y v u Q I rx ry h
  obtain ⟨a,j,rfl,rfl,hok,q⟩:=h
  obtain ⟨t,rfl⟩:=rx
  obtain ⟨t',rfl⟩:=ry
  exact SB.mul hok fun t' k=>⟨.str (Txt.mul a j),H,I.tok _,⟨_,rfl⟩,q⟩
theorem G1{X:Cx}:OpR X (binaryOp .Mult) Aft:=Ag1.or (Vi.or Agv)
theorem RepL.flat{K:PySem.W.Frag}{H:Hp}{α:List Addr}{us:List U}{xs:List V}(h:RepL K H α us xs):∀ k:Nat,RepL K H α (List.replicate k us).flatten (List.replicate k xs).flatten
  | 0=>.nil
  | k+1=>by rw[List.replicate_succ,List.replicate_succ,List.flatten_cons,List.flatten_cons];exact h.append (RepL.flat h k)
theorem G2{K:PySem.W.Frag}:Ej K Aft Di:=by
  intro H α L u w x y z L' Q A ru rw e q
  unfold Di at e
  split at e
  · rename_i i j
    split at e
    · rename_i h
      cases e
      unfold RepU at ru rw
      refine .inl ⟨_,_,ru,rw,?_,q _ H α (.refl _ _) A rfl⟩
      simp only[Hh,Bool.or_eq_true,Bool.and_eq_true,decide_eq_true_eq] at h
      exact h
    · cases e
  · rename_i a j
    split at e
    · rename_i h
      cases e
      unfold RepU at ru rw
      exact .inr (.inl ⟨_,_,ru,rw,mulOk_of 1000 1000 h.1 (by omega) (by omega) (by decide) (by decide),q _ H α (.refl _ _) A rfl⟩)
    · cases e
  · rename_i n k
    obtain ⟨a,ha,e⟩:=Option.bind_eq_some_iff.mp e
    split at e
    · rename_i h
      cases e
      obtain ⟨p,xs,e1,h1,r1⟩:=K5 A ha
      obtain ⟨p',e1',rfl⟩:=ru.ref_of A
      rw[e1] at e1';cases e1'
      unfold RepU at rw
      refine .inr (.inr ⟨p,k,xs,rfl,rw,h1,by omega,by omega,by rw[← r1.length];exact Fg h.2.2,fun l hl=>?_⟩)
      obtain ⟨g,A',r⟩:=A.lst (r1.flat k.toNat) hl
      exact q _ _ _ g A' r
    · cases e
  · cases e
noncomputable def Abq(i j:Int):Prop:=0 < j∧j < 1152921504606846976
theorem Ly{X:Cx}:OpR X (binaryOp .FloorDiv) (rI Abq fun i j=>.int (i / j)):=opI fun i j _ _ _ _ _ hc q=>by
  have h1:(0:Int) < j:=hc.1
  have h2:j < 1152921504606846976:=hc.2
  refine floordiv_int (by omega) (by rw[Int.fdiv_eq_ediv_of_nonneg i (by omega)];exact q) (.inl (PyProof.noPylong_of_log2 ?_))
  have h3:j.natAbs.log2 < 60:=(Nat.log2_lt (by omega)).mpr (by omega)
  omega
noncomputable def Nc(i j:Int):Bool:=decide (0 < j)&&decide (j < 1152921504606846976)
noncomputable def Kx:S2:=Aa0 Nc fun i j=>.int (i / j)
theorem Nq{K:PySem.W.Frag}:Ej K (rI Abq fun i j=>.int (i / j)) Kx:=Abz (fun i j h=>by simpa[Nc,Abq] using h) fun _ _ _ _=>rfl
noncomputable def Hw:S2:=Aa0 (fun _ j=>decide (0 < j)) fun i j=>.int (i % j)
theorem Hv{K:PySem.W.Frag}:Ej K (rI (fun _ j=>0 < j) fun i j=>.int (i % j)) Hw:=Abz (fun i j h=>by simpa using h) fun _ _ _ _=>rfl
noncomputable def Qd(i j:Int):Bool:=decide (0≤j)&&decide (j≤1000000)&&decide (i.natAbs < 2 ^ 64)
noncomputable def Kw:S2:=Aa0 Qd fun i j=>.int (i ^ j.toNat)
theorem Lh{K:PySem.W.Frag}:Ej K (rI Ajk fun i j=>.int (i ^ j.toNat)) Kw:=Abz (fun i j h=>by simp[Qd] at h;exact ⟨h.1.1,h.1.2,h.2⟩) fun _ _ _ _=>rfl
noncomputable def semBitAnd:S2:=Ln fun i j=>.int (Builtin.bitAnd i j)
theorem Pt{K:PySem.W.Frag}:Ej K (rI0 fun i j=>.int (Builtin.bitAnd i j)) semBitAnd:=Mh fun _ _ _ _=>rfl
noncomputable def W7:S2:=Ln fun i j=>.bl (decide (i≤j))
noncomputable def K4:S2:=Ln fun i j=>.bl (decide (j < i))
noncomputable def Ou:S2:=Ln fun i j=>.bl (decide (j≤i))
noncomputable def Nd:S2:=Ln fun i j=>.bl (decide (i < j))
theorem Aa1{K:PySem.W.Frag}:Ej K (rI0 fun i j=>.bl (decide (i≤j))) W7:=Mh fun _ _ _ _=>rfl
theorem O6{K:PySem.W.Frag}:Ej K (rI0 fun i j=>.bl (decide (j < i))) K4:=Mh fun _ _ _ _=>rfl
theorem Vj{K:PySem.W.Frag}:Ej K (rI0 fun i j=>.bl (decide (j≤i))) Ou:=Mh fun _ _ _ _=>rfl
theorem Q9{K:PySem.W.Frag}:Ej K (rI0 fun i j=>.bl (decide (i < j))) Nd:=Mh fun _ _ _ _=>rfl
noncomputable def mapO{β γ:Type}(f:β→Option γ):List β→Option (List γ)
  | []=>some []
  | u::r=>(f u).bind fun d=>(mapO f r).map fun ds=>d::ds
noncomputable def toP(L:UH):Nat→U→Option PyData
  | 0,_=>none
  | _+1,.non=>some .none
  | _+1,.bl b=>some (.bool b)
  | _+1,.int i=>some (.int i)
  | _+1,.str x=>some (.str x)
  | n+1,.tup l=>(mapO (toP L n) l).map .tuple
  | n+1,.ref k=>(Ap L k).bind fun l=>(mapO (toP L n) l).map .list
section
variable {X:Cx}{pins:List (Addr×Obj)}{σ:L2.St}{H:Hp}{s:Shared}{α:List Addr}{L:UH}
theorem Rw{n:Nat}(ih:∀ (u:U) (x:V) (v:Value) (d:PyData),RepU X.K H α u x→RelV x v→toP L n u=some d→∃ as,Reads s.heap v d as):∀ (l:List U) (xs:List V) (vs:List Value) (ds:List PyData),RepL X.K H α l xs→Vals xs vs→mapO (toP L n) l=some ds→∃ as,ReadsAll s.heap vs ds as
  | [],xs,vs,ds,r,hv,e=>by
    unfold RepL at r;subst r;cases hv;cases e;exact ⟨_,.nil⟩
  | u::l,xs,vs,ds,r,hv,e=>by
    unfold RepL at r
    obtain ⟨x,xr,rfl,r1,r2⟩:=r
    cases hv with
    | cons h1 h2=>
      obtain ⟨d,e1,e⟩:=Option.bind_eq_some_iff.mp e
      obtain ⟨dr,e2,e⟩:=Option.map_eq_some_iff.mp e
      subst e
      obtain ⟨as,q1⟩:=ih u x _ d r1 h1 e1
      obtain ⟨bs,q2⟩:=Rw ih l xr _ dr r2 h2 e2
      exact ⟨_,.cons q1 q2⟩
theorem Mf(I:Inv X pins σ H s)(A:Abs X.K H α L):∀ (n:Nat) (u:U) (x:V) (v:Value) (d:PyData),RepU X.K H α u x→RelV x v→toP L n u=some d→∃ as,Reads s.heap v d as
  | 0,_,_,_,_,_,_,e=>by cases e
  | n+1,u,x,v,d,r,hv,e=>by
    cases u with
    | non=>unfold RepU at r;subst r;cases hv;cases e;exact ⟨_,.none⟩
    | bl b=>unfold RepU at r;subst r;cases hv;cases e;exact ⟨_,.bool b⟩
    | int i=>unfold RepU at r;subst r;obtain ⟨t,rfl⟩:=hv;cases e;exact ⟨_,.int i t⟩
    | str y=>unfold RepU at r;subst r;obtain ⟨t,rfl⟩:=hv;cases e;exact ⟨_,.str y t⟩
    | tup l=>
      unfold RepU at r
      obtain ⟨a,xs,rfl,sq,r⟩:=r
      cases hv
      unfold toP at e
      obtain ⟨ds,e1,e⟩:=Option.map_eq_some_iff.mp e
      subst e
      obtain ⟨its,hv,⟨o,h1,h2,m,h3⟩,_⟩:=I.tuple sq
      obtain ⟨as,q⟩:=Rw (Mf I A n) l xs its ds r hv e1
      exact ⟨_,.tuple h1 h2 h3 (by simpa using q)⟩
    | ref k=>
      unfold RepU at r
      obtain ⟨a,ea,rfl⟩:=r
      cases hv
      unfold toP at e
      obtain ⟨l,hl,e⟩:=Option.bind_eq_some_iff.mp e
      obtain ⟨ds,e1,e⟩:=Option.map_eq_some_iff.mp e
      subst e
      obtain ⟨a',xs,ea',sq,r⟩:=Ir A hl
      rw[ea] at ea';cases ea'
      obtain ⟨its,hv,⟨o,m,h1,h2,_,h3⟩,_⟩:=I.list sq
      obtain ⟨as,q⟩:=Rw (Mf I A n) l xs its ds r hv e1
      exact ⟨_,.list h1 h2 h3 (by simpa using q)⟩
end
noncomputable def eqP(u w:U)(L:UH):Option Bool:=(toP L 8 u).bind fun d=>(toP L 8 w).bind fun e=>if SeqAt.shaped d=true∧SeqAt.shaped e=true then some (PyData.eqv d e) else none
noncomputable def Aef(K:PySem.W.Frag)(neg:Bool):R2:=fun x y H Q=>∃ α L u w b,Abs K H α L∧RepU K H α u x∧RepU K H α w y∧eqP u w L=some b∧Q (.bl (if neg then !b else b)) H
theorem Hy{X:Cx}(hu:X.A.units+64 < cLine):OpR X (compareOp .Eq) (Aef X.K false):=by
  intro pins s σ H x y v u Q I rx ry h
  obtain ⟨α,L,a,b,k,A,ra,rb,e,q⟩:=h
  obtain ⟨d,e1,e⟩:=Option.bind_eq_some_iff.mp e
  obtain ⟨d2,e2,e⟩:=Option.bind_eq_some_iff.mp e
  split at e
  · rename_i hs
    cases e
    obtain ⟨as,q1⟩:=Mf I A 8 a x v d ra rx e1
    obtain ⟨bs,q2⟩:=Mf I A 8 b y u d2 rb ry e2
    exact eq_dataH q1 q2 hs.1 hs.2 hu ⟨.bl _,H,I,rfl,q⟩
  · cases e
theorem Fc{X:Cx}(hu:X.A.units+64 < cLine):OpR X (compareOp .NotEq) (Aef X.K true):=by
  intro pins s σ H x y v u Q I rx ry h
  obtain ⟨α,L,a,b,k,A,ra,rb,e,q⟩:=h
  obtain ⟨d,e1,e⟩:=Option.bind_eq_some_iff.mp e
  obtain ⟨d2,e2,e⟩:=Option.bind_eq_some_iff.mp e
  split at e
  · rename_i hs
    cases e
    obtain ⟨as,q1⟩:=Mf I A 8 a x v d ra rx e1
    obtain ⟨bs,q2⟩:=Mf I A 8 b y u d2 rb ry e2
    exact ne_dataH q1 q2 hs.1 hs.2 hu ⟨.bl _,H,I,rfl,q⟩
  · cases e
noncomputable def Eh:S2:=fun u w L=>(eqP u w L).map fun b=>(.bl b,L)
noncomputable def C4:S2:=fun u w L=>(eqP u w L).map fun b=>(.bl (!b),L)
theorem Hx{K:PySem.W.Frag}:Ej K (Aef K false) Eh:=by
  intro H α L u w x y z L' Q A ru rw e q
  obtain ⟨b,e1,e⟩:=Option.map_eq_some_iff.mp e
  cases e
  exact ⟨α,_,u,w,b,A,ru,rw,e1,q _ H α (.refl _ _) A rfl⟩
theorem Fb{K:PySem.W.Frag}:Ej K (Aef K true) C4:=by
  intro H α L u w x y z L' Q A ru rw e q
  obtain ⟨b,e1,e⟩:=Option.map_eq_some_iff.mp e
  cases e
  exact ⟨α,_,u,w,b,A,ru,rw,e1,q _ H α (.refl _ _) A rfl⟩
noncomputable def P4(neg:Bool):S2:=fun u w L=>match u,w with
  | .non,.non=>some (.bl (!neg),L)
  | .bl a,.bl b=>some (.bl (if neg then !(a == b) else a == b),L)
  | .int _,.non=>some (.bl neg,L)
  | .bl _,.non=>some (.bl neg,L)
  | .str _,.non=>some (.bl neg,L)
  | .tup _,.non=>some (.bl neg,L)
  | .ref _,.non=>some (.bl neg,L)
  | _,_=>none
noncomputable def isSome:U→Bool
  | .non=>false
  | _=>true
noncomputable def Ah7(neg:Bool):R2:=fun x y H Q=>(y = .non∧Q (.bl (if neg then !decide (x = .non) else decide (x = .non))) H)∨∃ a b,x = .bl a∧y = .bl b∧Q (.bl (if neg then !(a == b) else a == b)) H
theorem Abf{X:Cx}:OpR X (compareOp .Is) (Ah7 false):=Agt.or (by
  intro pins s σ H x y v u Q I rx ry h
  obtain ⟨a,b,rfl,rfl,q⟩:=h
  cases rx;cases ry
  exact is_bool ⟨.bl _,H,I,rfl,q⟩)
theorem Ab8{K:PySem.W.Frag}(neg:Bool):Ej K (Ah7 neg) (P4 neg):=by
  intro H α L u w x y z L' Q A ru rw e q
  unfold P4 at e
  have fin:∀ (k:Bool),x≠.non→w = .non→some (U.bl neg,L)=some (z,L')→Ah7 neg x y H Q:=fun _ hx hw e'=>by
    subst hw
    obtain ⟨rfl,rfl⟩:U.bl neg=z∧L=L':=by simpa using e'
    unfold RepU at rw
    subst rw
    refine .inl ⟨rfl,?_⟩
    rw[decide_eq_false hx]
    have:(if neg=true then !false else false)=neg:=by cases neg <;> rfl
    rw[this]
    exact q _ H α (.refl _ _) A rfl
  split at e
  · cases e
    unfold RepU at ru rw
    subst ru;subst rw
    refine .inl ⟨rfl,?_⟩
    have:(if neg=true then !decide (V.non=V.non) else decide (V.non=V.non)) = !neg:=by cases neg <;> simp
    rw[this]
    exact q _ H α (.refl _ _) A rfl
  · cases e
    unfold RepU at ru rw
    exact .inr ⟨_,_,ru,rw,q _ H α (.refl _ _) A rfl⟩
  · unfold RepU at ru;subst ru;exact fin true (fun z=>nomatch z) rfl e
  · unfold RepU at ru;subst ru;exact fin true (fun z=>nomatch z) rfl e
  · unfold RepU at ru;subst ru;exact fin true (fun z=>nomatch z) rfl e
  · unfold RepU at ru;obtain ⟨_,_,rfl,_⟩:=ru;exact fin true (fun z=>nomatch z) rfl e
  · unfold RepU at ru;obtain ⟨_,_,rfl⟩:=ru;exact fin true (fun z=>nomatch z) rfl e
  · cases e
theorem RepL.atI{K:PySem.W.Frag}{H:Hp}{α:List Addr}{us:List U}{xs:List V}{i:Int}{u:U}(r:RepL K H α us xs)(h:L2.atI us i=some u):∃ x,L2.atI xs i=some x∧RepU K H α u x:=by
  unfold L2.atI at h ⊢
  obtain ⟨j,e1,e2⟩:=Option.bind_eq_some_iff.mp h
  obtain ⟨x,e3,r3⟩:=r.get e2
  exact ⟨x,by rw[← r.length,e1];exact e3,r3⟩
noncomputable def Dh:S2:=fun u w L=>match u,w with
  | .tup l,.int i=>(L2.atI l i).map fun z=>(z,L)
  | .ref n,.int i=>(Ap L n).bind fun l=>(L2.atI l i).map fun z=>(z,L)
  | .str x,.int i=>if Gk x.length=true then (L2.atI x.cps.toList i).map fun c=>(.str ⟨#[c]⟩,L) else none
  | _,_=>none
theorem Ff{K:PySem.W.Frag}:Ej K (rIx K) Dh:=by
  intro H α L u w x y z L' Q A ru rw e q
  unfold Dh at e
  split at e
  · obtain ⟨c,e1,e⟩:=Option.map_eq_some_iff.mp e
    cases e
    unfold RepU at ru rw
    obtain ⟨a,xs,rfl,sq,r⟩:=ru
    obtain ⟨v,e2,r2⟩:=r.atI e1
    exact .inr (.inl ⟨a,xs,_,v,rfl,rw,sq,e2,q _ H α (.refl _ _) A r2⟩)
  · obtain ⟨l,hl,e⟩:=Option.bind_eq_some_iff.mp e
    obtain ⟨c,e1,e⟩:=Option.map_eq_some_iff.mp e
    cases e
    obtain ⟨a,xs,ea,sq,r⟩:=Ir A hl
    obtain ⟨a',ea',rfl⟩:=ru.ref_of A
    rw[ea] at ea';cases ea'
    unfold RepU at rw
    obtain ⟨v,e2,r2⟩:=r.atI e1
    exact .inl ⟨a,xs,_,v,rfl,rw,sq,e2,q _ H α (.refl _ _) A r2⟩
  · split at e
    · rename_i hs
      obtain ⟨c,e1,e⟩:=Option.map_eq_some_iff.mp e
      cases e
      unfold RepU at ru rw
      exact .inr (.inr ⟨_,_,c,ru,rw,Fg hs,e1,q _ H α (.refl _ _) A rfl⟩)
    · cases e
  · cases e
noncomputable def Jq(l:List U)(lo hi:Option Int):List U:=(l.drop (HT.sIx l.length 0 lo)).take (HT.sIx l.length l.length hi - HT.sIx l.length 0 lo)
theorem RepL.cut{K:PySem.W.Frag}{H:Hp}{α:List Addr}{us:List U}{xs:List V}(r:RepL K H α us xs)(lo hi:Option Int):RepL K H α (Jq us lo hi) (Tt xs lo hi):=by
  unfold Jq Tt
  rw[r.length]
  exact (r.drop _).take _
noncomputable def Lx:SS:=fun u lo hi L=>match u with
  | .tup l=>if HT.sIx l.length 0 lo=0∧HT.sIx l.length l.length hi=l.length then none else some (.tup (Jq l lo hi),L)
  | .ref n=>(Ap L n).map fun l=>(.ref L.length,L++[.lst (Jq l lo hi)])
  | _=>none
noncomputable def Ado(K:PySem.W.Frag):V→Option Int→Option Int→Hp→VK→Prop:=fun x lo hi H Q=>Ajm K x lo hi H Q∨Aj7 K x lo hi H Q
theorem Vd{X:Cx}:SlR X (Ado X.K):=Aga.or Ae7
theorem Q6{K:PySem.W.Frag}:Ab7 K (Ado K) Lx:=by
  intro H α L u x lo hi z L' Q A ru e q
  unfold Lx at e
  split at e
  · split at e
    · cases e
    · rename_i hn
      cases e
      unfold RepU at ru
      obtain ⟨a,xs,rfl,sq,r⟩:=ru
      refine .inl ⟨a,xs,rfl,sq,by rw[← r.length];exact hn,fun p hp=>?_⟩
      obtain ⟨g,A',r'⟩:=A.tup (r.cut lo hi) hp
      exact q _ _ α g A' r'
  · obtain ⟨l,hl,e⟩:=Option.map_eq_some_iff.mp e
    cases e
    obtain ⟨a,xs,ea,sq,r⟩:=Ir A hl
    obtain ⟨a',ea',rfl⟩:=ru.ref_of A
    rw[ea] at ea';cases ea'
    refine .inr ⟨a,xs,rfl,sq,fun p hp=>?_⟩
    obtain ⟨g,A',r'⟩:=A.lst (r.cut lo hi) hp
    exact q _ _ _ g A' r'
  · cases e
noncomputable def lenU(u:U)(L:UH):Option Nat:=match u with
  | .str y=>if Gk y.length=true then some y.length else none
  | .tup l=>some l.length
  | .ref n=>(Ap L n).map List.length
  | _=>none
noncomputable def semLen:SC:=fun us L=>match us with
  | [u]=>(lenU u L).map fun (n:Nat)=>(U.int (n:Int),L)
  | _=>none
theorem Ev{K:PySem.W.Frag}:Py K (fun xs H Q=>∃ x n,xs=[x]∧Ajl K x H n∧Q (.int n) H) semLen:=by
  intro H α L us xs z L' Q A r e q
  unfold semLen at e
  split at e
  · rename_i u
    obtain ⟨n,e1,e⟩:=Option.map_eq_some_iff.mp e
    cases e
    obtain ⟨x,rfl,rx⟩:=r.one
    refine ⟨x,n,rfl,?_,q _ H α (.refl _ _) A rfl⟩
    cases u with
    | str y=>
      unfold lenU at e1
      simp only at e1
      split at e1
      · rename_i hs;cases e1;unfold RepU at rx;subst rx;exact ⟨Fg hs,rfl⟩
      · cases e1
    | tup l=>
      cases e1
      unfold RepU at rx
      obtain ⟨a,ys,rfl,sq,r2⟩:=rx
      exact .inr ⟨ys,sq,r2.length⟩
    | ref k=>
      obtain ⟨l,hl,e2⟩:=Option.map_eq_some_iff.mp e1
      subst e2
      obtain ⟨a,ys,ea,sq,r2⟩:=Ir A hl
      obtain ⟨a',ea',rfl⟩:=rx.ref_of A
      rw[ea] at ea';cases ea'
      exact .inl ⟨ys,sq,r2.length⟩
    | _=>cases e1
  · cases e
noncomputable def toI:U→Option Int
  | .int i=>some i
  | _=>none
theorem J8{K:PySem.W.Frag}{H:Hp}{α:List Addr}:∀ {us:List U} {xs:List V} {ns:List Int},RepL K H α us xs→mapO toI us=some ns→xs=ns.map V.int
  | [],xs,ys,r,h=>by unfold RepL at r;subst r;cases h;rfl
  | u::us,xs,ys,r,h=>by
    unfold RepL at r
    obtain ⟨x,xr,rfl,r1,r2⟩:=r
    obtain ⟨y,e1,h⟩:=Option.bind_eq_some_iff.mp h
    obtain ⟨yr,e2,h⟩:=Option.map_eq_some_iff.mp h
    subst h
    cases u <;> simp only[toI] at e1 <;> first
      | (cases e1;unfold RepU at r1;subst r1;rw[J8 r2 e2];rfl)
      | cases e1
noncomputable def Q2:List Int→Int
  | []=>0
  | [a]=>a
  | a::r=>max a (Q2 r)
theorem W3:∀ (ns:List Int) (M:Int),M∈ns→(∀ a,a∈ns→a≤M)→Q2 ns=M
  | [],M,h,_=>by cases h
  | [a],M,h,_=>by simp at h;exact h.symm
  | a::b::r,M,h,hm=>by
    show max a (Q2 (b::r))=M
    by_cases hb:M∈b::r
    · rw[W3 (b::r) M hb fun c hc=>hm c (List.mem_cons_of_mem _ hc)]
      have:=hm a (List.mem_cons_self ..)
      omega
    · rcases List.mem_cons.mp h with rfl | h
      · have hle:∀ (l:List Int),l≠[]→(∀ c,c∈l→c≤M)→Q2 l≤M:=by
          intro l
          induction l with
          | nil=>intro h;exact absurd rfl h
          | cons c t ih=>
            intro _ hc
            cases t with
            | nil=>exact hc c (List.mem_cons_self ..)
            | cons d t=>
              have h1:=hc c (List.mem_cons_self ..)
              have h2:=ih (by simp) fun e he=>hc e (List.mem_cons_of_mem _ he)
              show max c (Q2 (d::t))≤M
              omega
        have:=hle (b::r) (by simp) fun c hc=>hm c (List.mem_cons_of_mem _ hc)
        omega
      · exact absurd h hb
section
variable {X:Cx}
theorem Xb(hc:X.calm=true):CallR X (.builtin "sum") (fun xs H Q=>∃ (p:Addr) (ns:List Int),xs=[.ref p]∧SqL X.K H p (ns.map V.int)∧Q (.int ns.sum) H):=by
  intro pins s σ H xs us Q I r h
  obtain ⟨p,ns,rfl,hq,q⟩:=h
  obtain ⟨u,rfl,rx⟩:=Ij r
  cases rx
  obtain ⟨its,r',pl,hz⟩:=I.list hq
  have hi:IntsAre its ns:=Kt r'
  obtain ⟨m,F⟩:=I.fr
  obtain ⟨xs,hx⟩:=hi.allInts.items
  have hl':s.heap.IsList p (intItems xs):=hx ▸ pl.isList
  refine sum_intListG (I.ok.hd hc) hl' fun h' tk t' hk=>?_
  have e1:ns=xs.toList.map (·.1):=by
    rw[← nums_intItems,← hx]
    exact (show numsOf its.toArray.toList=ns from hi.numsOf).symm
  have e2:preSum (numAt xs) xs.size=ns.sum:=by
    rw[preSum_eq,List.take_of_length_le (by simp),e1]
  rw[e2]
  exact ⟨.int ns.sum,H,I.kept hk,⟨_,rfl⟩,q⟩
theorem Yv(hc:X.calm=true):CallR X (.builtin "sum") (fun xs H Q=>∃ (p:Addr) (ns:List Int),xs=[.ref p]∧SqT X.K H p (ns.map V.int)∧Q (.int ns.sum) H):=by
  intro pins s σ H xs us Q I r h
  obtain ⟨p,ns,rfl,hq,q⟩:=h
  obtain ⟨u,rfl,rx⟩:=Ij r
  cases rx
  obtain ⟨its,r',pl,hz⟩:=I.tuple hq
  have hi:IntsAre its ns:=Kt r'
  obtain ⟨xs,hx⟩:=hi.allInts.items
  have hl':s.heap.IsTuple p (intItems xs):=hx ▸ pl
  refine PySem.W.ktm_sumG (I.ok.hd hc) hl' fun h' tk t' hk=>?_
  have e1:ns=xs.toList.map (·.1):=by
    rw[← nums_intItems,← hx]
    exact (show numsOf its.toArray.toList=ns from hi.numsOf).symm
  have e2:preSum (numAt xs) xs.size=ns.sum:=by
    rw[preSum_eq,List.take_of_length_le (by simp),e1]
  rw[e2]
  exact ⟨.int ns.sum,H,I.kept hk,⟨_,rfl⟩,q⟩
theorem Fu(hc:X.calm=true):CallR X (.builtin "sum") (fun xs H Q=>(∃ (p:Addr) (ns:List Int),xs=[.ref p]∧SqL X.K H p (ns.map V.int)∧Q (.int ns.sum) H)∨∃ (p:Addr) (ns:List Int),xs=[.ref p]∧SqT X.K H p (ns.map V.int)∧Q (.int ns.sum) H):=(Xb hc).or (Yv hc)
theorem Xy(hc:X.calm=true):CallR X (.builtin "max") (fun xs H Q=>∃ (p:Addr) (ns:List Int),xs=[.ref p]∧SqL X.K H p (ns.map V.int)∧0 < ns.length∧Q (.int (Q2 ns)) H):=by
  intro pins s σ H xs us Q I r h
  obtain ⟨p,ns,rfl,hq,hne,q⟩:=h
  obtain ⟨u,rfl,rx⟩:=Ij r
  cases rx
  obtain ⟨its,r',pl,hz⟩:=I.list hq
  have hi:IntsAre its ns:=Kt r'
  obtain ⟨xs,e⟩:=hi.allInts.items
  have hns:ns=xs.toList.map (·.1):=by rw[← hi.numsOf,← nums_intItems,← e]
  have hsz:0 < xs.size:=by
    have h3:=hne;rw[hns,List.length_map,Array.length_toList] at h3;exact h3
  have hl':s.heap.IsList p (intItems xs):=e ▸ pl.isList
  refine max_intList (I.ok.hd hc) hl' hsz fun v h' tk hv hk=>?_
  obtain ⟨t,rfl⟩:=intItems_at hv
  obtain ⟨h1,h2⟩:=argBest_gt (numAt xs) (xs.size - 1)
  have hM:=W3 ns (numAt xs (argBest (fun i j=>decide (numAt xs i > numAt xs j)) (xs.size - 1))) (by rw[hns,numAt_eq];exact getD_mem (by rw[List.length_map,Array.length_toList];omega)) (fun a ha=>by
    rw[hns] at ha
    obtain ⟨j,hj,rfl⟩:=mem_getD ha
    rw[List.length_map,Array.length_toList] at hj
    rw[← numAt_eq];exact h2 j (by omega))
  rw[hM] at q
  exact ⟨.int _,H,I.kept hk,⟨_,rfl⟩,q⟩
end
noncomputable def Do:SC:=fun us L=>match us with
  | [.ref n]=>(Ap L n).bind fun l=>(mapO toI l).map fun ns=>(.int ns.sum,L)
  | [.tup l]=>(mapO toI l).map fun ns=>(.int ns.sum,L)
  | _=>none
theorem Li{K:PySem.W.Frag}{H:Hp}{α:List Addr}{L:UH}{n:Nat}{l:List U}{x:V}(A:Abs K H α L)(hl:Ap L n=some l)(rx:RepU K H α (.ref n) x):∃ a ys,x = .ref a∧SqL K H a ys∧RepL K H α l ys:=by
  obtain ⟨a,ys,ea,sq,r2⟩:=Ir A hl
  obtain ⟨a',ea',rfl⟩:=rx.ref_of A
  rw[ea] at ea';cases ea'
  exact ⟨a,ys,rfl,sq,r2⟩
theorem Jk{K:PySem.W.Frag}:Py K (fun xs H Q=>(∃ (p:Addr) (ns:List Int),xs=[.ref p]∧SqL K H p (ns.map V.int)∧Q (.int ns.sum) H)∨∃ (p:Addr) (ns:List Int),xs=[.ref p]∧SqT K H p (ns.map V.int)∧Q (.int ns.sum) H) Do:=by
  intro H α L us xs z L' Q A r e q
  unfold Do at e
  split at e
  · obtain ⟨l,hl,e⟩:=Option.bind_eq_some_iff.mp e
    obtain ⟨ns,e1,e⟩:=Option.map_eq_some_iff.mp e
    cases e
    obtain ⟨x,rfl,rx⟩:=r.one
    obtain ⟨a,ys,rfl,sq,r2⟩:=Li A hl rx
    rw[J8 r2 e1] at sq
    exact .inl ⟨a,ns,rfl,sq,q _ H α (.refl _ _) A rfl⟩
  · obtain ⟨ns,e1,e⟩:=Option.map_eq_some_iff.mp e
    cases e
    obtain ⟨x,rfl,rx⟩:=r.one
    unfold RepU at rx
    obtain ⟨a,ys,rfl,sq,r2⟩:=rx
    rw[J8 r2 e1] at sq
    exact .inr ⟨a,ns,rfl,sq,q _ H α (.refl _ _) A rfl⟩
  · cases e
noncomputable def Aad(g2:Int→Int→Int)(gl:List Int→Int):SC:=fun us L=>match us with
  | [.int i,.int j]=>some (.int (g2 i j),L)
  | [.ref n]=>(Ap L n).bind fun l=>(mapO toI l).bind fun ns=>if ns.isEmpty=true then none else some (.int (gl ns),L)
  | _=>none
noncomputable def Vv:SC:=Aad (fun i j=>if j > i then j else i) Q2
theorem Ag3{K:PySem.W.Frag}{g2:Int→Int→Int}{gl:List Int→Int}:Py K (fun xs H Q=>(∃ i j,xs=[.int i,.int j]∧Q (.int (g2 i j)) H)∨∃ (p:Addr) (ns:List Int),xs=[.ref p]∧SqL K H p (ns.map V.int)∧0 < ns.length∧Q (.int (gl ns)) H) (Aad g2 gl):=by
  intro H α L us xs z L' Q A r e q
  unfold Aad at e
  split at e
  · cases e
    obtain ⟨x,y,rfl,rx,ry⟩:=r.two
    unfold RepU at rx ry
    exact .inl ⟨_,_,by rw[rx,ry],q _ H α (.refl _ _) A rfl⟩
  · obtain ⟨l,hl,e⟩:=Option.bind_eq_some_iff.mp e
    obtain ⟨ns,e1,e⟩:=Option.bind_eq_some_iff.mp e
    split at e
    · cases e
    · rename_i hne
      cases e
      obtain ⟨x,rfl,rx⟩:=r.one
      obtain ⟨a,ys,rfl,sq,r2⟩:=Li A hl rx
      rw[J8 r2 e1] at sq
      exact .inr ⟨a,ns,rfl,sq,by cases ns <;> simp_all,q _ H α (.refl _ _) A rfl⟩
  · cases e
theorem Xv{X:Cx}(hc:X.calm=true):CallR X (.builtin "max") (fun xs H Q=>(∃ i j,xs=[.int i,.int j]∧Q (.int (if j > i then j else i)) H)∨∃ (p:Addr) (ns:List Int),xs=[.ref p]∧SqL X.K H p (ns.map V.int)∧0 < ns.length∧Q (.int (Q2 ns)) H):=(Xo hc).or (Xy hc)
theorem Aex{K:PySem.W.Frag}:Py K (fun xs H Q=>(∃ i j,xs=[.int i,.int j]∧Q (.int (if j > i then j else i)) H)∨∃ (p:Addr) (ns:List Int),xs=[.ref p]∧SqL K H p (ns.map V.int)∧0 < ns.length∧Q (.int (Q2 ns)) H) Vv:=Ag3
noncomputable def semAbs:SC:=fun us L=>match us with
  | [.int i]=>some (.int (if i < 0 then -i else i),L)
  | _=>none
theorem Afi{K:PySem.W.Frag}:Py K (fun xs H Q=>∃ i,xs=[.int i]∧Q (.int (if i < 0 then -i else i)) H) semAbs:=by
  intro H α L us xs z L' Q A r e q
  unfold semAbs at e
  split at e
  · cases e
    obtain ⟨x,rfl,rx⟩:=r.one
    unfold RepU at rx
    exact ⟨_,by rw[rx],q _ H α (.refl _ _) A rfl⟩
  · cases e
noncomputable def Mg:SC:=fun us L=>match us with
  | [.int i]=>some (.int i,L)
  | [.bl k]=>some (.int (if k then 1 else 0),L)
  | _=>none
theorem W8{K:PySem.W.Frag}:Py K (fun xs H Q=>(∃ i,xs=[.int i]∧Q (.int i) H)∨∃ k,xs=[.bl k]∧Q (.int (if k then 1 else 0)) H) Mg:=by
  intro H α L us xs z L' Q A r e q
  unfold Mg at e
  split at e
  · cases e
    obtain ⟨x,rfl,rx⟩:=r.one
    unfold RepU at rx
    exact .inl ⟨_,by rw[rx],q _ H α (.refl _ _) A rfl⟩
  · cases e
    obtain ⟨x,rfl,rx⟩:=r.one
    unfold RepU at rx
    exact .inr ⟨_,by rw[rx],q _ H α (.refl _ _) A rfl⟩
  · cases e
noncomputable def semTuple:SC:=fun us L=>match us with
  | [.ref n]=>(Ap L n).map fun l=>(.tup l,L)
  | [.tup l]=>some (.tup l,L)
  | _=>none
theorem Dy{K:PySem.W.Frag}:Py K (fun xs H Q=>∃ p ys,xs=[.ref p]∧((SqL K H p ys∧∀ l,H l=none→Q (.ref l) (upd H l (.tup ys)))∨(SqT K H p ys∧Q (.ref p) H))) semTuple:=by
  intro H α L us xs z L' Q A r e q
  unfold semTuple at e
  split at e
  · obtain ⟨l,hl,e⟩:=Option.map_eq_some_iff.mp e
    cases e
    obtain ⟨x,rfl,rx⟩:=r.one
    obtain ⟨a,ys,rfl,sq,r2⟩:=Li A hl rx
    refine ⟨a,ys,rfl,.inl ⟨sq,fun p hp=>?_⟩⟩
    obtain ⟨g,A',r'⟩:=A.tup r2 hp
    exact q _ _ _ g A' r'
  · cases e
    obtain ⟨x,rfl,rx⟩:=r.one
    have rx':=rx
    unfold RepU at rx
    obtain ⟨a,ys,rfl,sq,r2⟩:=rx
    exact ⟨a,ys,rfl,.inr ⟨sq,q _ H α (.refl _ _) A rx'⟩⟩
  · cases e
noncomputable def G5:SM:=fun u us L=>match u,us with
  | .ref n,[y]=>(E6 L n).bind fun l=>if decide (l.length < sizeLine)=true then some (.non,L.set n (.lst (l++[y]))) else none
  | _,_=>none
theorem Wn{K:PySem.W.Frag}{H:Hp}{α:List Addr}{L:UH}{n:Nat}{l:List U}{x:V}(A:Abs K H α L)(hl:E6 L n=some l)(rx:RepU K H α (.ref n) x):∃ a ys,x = .ref a∧α[n]? = some a∧H a=some (.lst ys)∧RepL K H α l ys:=by
  obtain ⟨a,ys,ea,sq,r2⟩:=K5 A hl
  obtain ⟨a',ea',rfl⟩:=rx.ref_of A
  rw[ea] at ea';cases ea'
  exact ⟨a,ys,rfl,ea,sq,r2⟩
theorem Oh{K:PySem.W.Frag}:Ac9 K Wj G5:=by
  intro H α L u us x xs z L' Q A ru r e q
  unfold G5 at e
  split at e
  · obtain ⟨l,hl,e⟩:=Option.bind_eq_some_iff.mp e
    split at e
    · rename_i hs
      cases e
      obtain ⟨y,rfl,ry⟩:=r.one
      obtain ⟨a,ys,rfl,ea,h,r2⟩:=Wn A hl ru
      obtain ⟨g,A'⟩:=A.setL hl ea h (r2.append (.cons ry .nil))
      exact ⟨a,ys,y,rfl,rfl,h,by rw[← r2.length];exact of_decide_eq_true hs,q _ _ _ g A' rfl⟩
    · cases e
  · cases e
noncomputable def gSub(fo fi:FE):FG:=fun v δ L=>(fo δ L).bind fun p=>(fi δ p.2).bind fun q=>match p.1,q.1 with
  | .ref n,.int k=>(E6 q.2 n).bind fun l=>(ixN l.length k).map fun j=>(δ,q.2.set n (.lst (l.set j v)))
  | _,_=>none
theorem Ny{X:Cx}{o i:Expr}{fo fi:FE}{pos:Pos}(ho:PEF X o fo)(hi:PEF X i fi)(ha:∀ v,assign (.Subscript o i pos) X.env v=(do let ov ← holding [v] (eval o X.env);let iv ← holding [v,ov] (eval i X.env);standAt pos;holding [v,ov,iv] (setItem ov iv v);release [v,ov,iv] []):=by intro _;rfl):PGF X (.Subscript o i pos) (MR.gSub fo fi):=by
  refine PG.imp (Af7 ho hi Aae ha) ?_
  rintro v σ H Q ⟨α,δ,L,u,A,S,r,δ',L',e,q⟩
  obtain ⟨⟨o',L1⟩,e1,e⟩:=Option.bind_eq_some_iff.mp e
  obtain ⟨⟨i',L2⟩,e2,e⟩:=Option.bind_eq_some_iff.mp e
  refine ⟨α,δ,L,A,S,o',L1,e1,fun x H1 α1 g1 A1 r1=>⟨α1,δ,L1,A1,S.mono g1,i',L2,e2,fun y H2 α2 g2 A2 r2=>?_⟩⟩
  simp only at e
  split at e
  · obtain ⟨l,hl,e⟩:=Option.bind_eq_some_iff.mp e
    obtain ⟨j,ej,e⟩:=Option.map_eq_some_iff.mp e
    cases e
    unfold RepU at r2
    subst r2
    obtain ⟨a,ys,rfl,ea,h,r3⟩:=Wn A2 hl (r1.mono g2)
    obtain ⟨g,A'⟩:=A2.setL hl ea h (r3.set ((r.mono g1).mono g2) j)
    exact ⟨a,ys,_,j,rfl,rfl,h,by rw[← r3.length];exact ej,q _ _ _ (g1.trans (g2.trans g)) A' (((S.mono g1).mono g2).mono g)⟩
  · cases e
noncomputable def Kv(u:U)(L:UH):Option String:=match u with
  | .non=>some "NoneType"
  | .bl _=>some "bool"
  | .int _=>some "int"
  | .str _=>some "str"
  | .tup _=>some "tuple"
  | .ref n=>match L[n]? with
    | some (.lst _)=>some "list"
    | some (.ro _)=>some "list"
    | some (.dic _)=>some "dict"
    | _=>none
noncomputable def isT(t c:String):Bool:=t == c || (t == "bool" && c == "int")
noncomputable def Rp:List String:=["NoneType","bool","int","str","tuple","list","dict"]
noncomputable def Kit(K:PySem.W.Frag)(c:String):Prop:=∀ t∈Rp,PySem.W.kitOne K (.type t) (.type c)=some (isT t c)
theorem U4{K:PySem.W.Frag}{c:String}(h1:PySem.W.kitOne K (.type "NoneType") (.type c)=some (isT "NoneType" c))(h2:PySem.W.kitOne K (.type "bool") (.type c)=some (isT "bool" c))(h3:PySem.W.kitOne K (.type "int") (.type c)=some (isT "int" c))
    (h4:PySem.W.kitOne K (.type "str") (.type c)=some (isT "str" c)) (h5:PySem.W.kitOne K (.type "tuple") (.type c)=some (isT "tuple" c)) (h6:PySem.W.kitOne K (.type "list") (.type c)=some (isT "list" c)) (h7:PySem.W.kitOne K (.type "dict") (.type c)=some (isT "dict" c)):Kit K c:=by
  intro t ht
  simp only[Rp,List.mem_cons,List.not_mem_nil,or_false] at ht
  rcases ht with rfl | rfl | rfl | rfl | rfl | rfl | rfl <;> assumption
theorem Y9{K:PySem.W.Frag}:Kit K "bool" := U4 (by with_unfolding_all rfl) (by with_unfolding_all rfl) (by with_unfolding_all rfl) (by with_unfolding_all rfl) (by with_unfolding_all rfl) (by with_unfolding_all rfl) (by with_unfolding_all rfl)
theorem Afe{K:PySem.W.Frag}:Kit K "int" := U4 (by with_unfolding_all rfl) (by with_unfolding_all rfl) (by with_unfolding_all rfl) (by with_unfolding_all rfl) (by with_unfolding_all rfl) (by with_unfolding_all rfl) (by with_unfolding_all rfl)
theorem Qw{K:PySem.W.Frag}:Kit K "tuple" := U4 (by with_unfolding_all rfl) (by with_unfolding_all rfl) (by with_unfolding_all rfl) (by with_unfolding_all rfl) (by with_unfolding_all rfl) (by with_unfolding_all rfl) (by with_unfolding_all rfl)
noncomputable def TyV(K:PySem.W.Frag)(H:Hp)(x:V)(t:String):Prop:=match x with
  | .non=>t = "NoneType"
  | .bl _=>t = "bool"
  | .int _=>t = "int"
  | .str _=>t = "str"
  | .ref a=>(t = "list" ∧ ∃ xs,SqL K H a xs)∨(t = "tuple" ∧ ∃ xs,SqT K H a xs)∨(t = "dict" ∧ ∃ kvs,H a=some (.dK kvs))
  | _=>False
theorem Yy{X:Cx}{c:String}:CallR X (.builtin "isinstance") (fun xs H Q=>∃ x t b,xs=[x,.ty c]∧TyV X.K H x t∧PySem.W.kitOne X.K (.type t) (.type c)=some b∧Q (.bl b) H):=by
  intro pins s σ H xs us Q I r h
  obtain ⟨x,t,b,rfl,ty,e,q⟩:=h
  obtain ⟨u,w',rfl,rx,ry⟩:=Wf r
  cases ry
  have fin:∀ tk,EP X pins σ Q (.bool b) { s with toks:=tk }:=fun tk=>⟨.bl b,H,I.tok _,rfl,q⟩
  cases x with
  | non=>cases ty;exact Ip I rx (.non) e fin
  | bl y=>cases ty;exact Ip I rx (.bl y) e fin
  | int y=>cases ty;exact Ip I rx (.int y) e fin
  | str y=>cases ty;exact Ip I rx (.str y) e fin
  | ref a=>
    cases (show u=Value.ref a from rx)
    rcases ty with ⟨rfl,ys,sq⟩ | ⟨rfl,ys,sq⟩ | ⟨rfl,kvs,ea⟩
    · obtain ⟨its,_,⟨o,n,h1,h2,_⟩,_⟩:=I.list sq
      exact PySem.W.kia_one PySem.W.kitx_list I.kIn ⟨o,h1,h2⟩ e (fun z=>nomatch z) fin
    · obtain ⟨its,_,⟨o,h1,h2,_⟩,_⟩:=I.tuple sq
      exact PySem.W.kia_one PySem.W.kitx_tuple I.kIn ⟨o,h1,h2⟩ e (fun z=>nomatch z) fin
    · exact Ip I rx (.dK ea) e fin
  | byt y=>cases ty
  | flt y=>cases ty
  | ty y=>cases ty
theorem Yp{K:PySem.W.Frag}{H:Hp}{α:List Addr}{L:UH}{u:U}{x:V}{t:String}(A:Abs K H α L)(r:RepU K H α u x)(h:Kv u L=some t):TyV K H x t∧t∈Rp:=by
  cases u with
  | non=>unfold RepU at r;subst r;cases h;exact ⟨rfl,by decide⟩
  | bl b=>unfold RepU at r;subst r;cases h;exact ⟨rfl,by decide⟩
  | int i=>unfold RepU at r;subst r;cases h;exact ⟨rfl,by decide⟩
  | str y=>unfold RepU at r;subst r;cases h;exact ⟨rfl,by decide⟩
  | tup l=>unfold RepU at r;obtain ⟨a,xs,rfl,sq,_⟩:=r;cases h;exact ⟨.inr (.inl ⟨rfl,xs,sq⟩),by decide⟩
  | ref n=>
    unfold RepU at r
    obtain ⟨a,ea,rfl⟩:=r
    unfold Kv at h
    simp only at h
    split at h
    · rename_i e;cases h;obtain ⟨xs,h,_⟩:=A.rep n a _ ea e;exact ⟨.inl ⟨rfl,xs,.of h⟩,by decide⟩
    · rename_i e;cases h;obtain ⟨xs,h,_⟩:=A.rep n a _ ea e;exact ⟨.inl ⟨rfl,xs,h.sq⟩,by decide⟩
    · rename_i e;cases h;obtain ⟨xs,h,_⟩:=A.rep n a _ ea e;exact ⟨.inr (.inr ⟨rfl,xs,h⟩),by decide⟩
    · cases h
noncomputable def Tf(c:String)(f:FE):FE:=fun δ L=>(f δ L).bind fun p=>(Kv p.1 p.2).map fun t=>(.bl (isT t c),p.2)
theorem Rc{X:Cx}{e:Expr}{fe:FE}{p p2 pos:Pos}{cn:Str}{c:String}(hk:Kit X.K c)(he:PEF X e fe)(hg:Gl X "isinstance")(hm:X.mg "isinstance" = none)(hg2:Gl X cn)(hm2:X.mg cn=none)(hv2:bootBuiltins cn=some (.type c))
    (hn:cn ≠ "__name__" := by decide) (hdb:(cn == ("__debug__" : Str))=false:=by decide)
    (hs:starEach [e,.Name cn p2] X.env=(false,eval e X.env)::starEach [.Name cn p2] X.env:=by rfl) (hs2:starEach [.Name cn p2] X.env=(false,eval (.Name cn p2) X.env)::starEach [] X.env:=by rfl)
    (hpl:(backTo pos (starEach [.Name cn p2] X.env)).any (·.1)=false:=by rfl):PEF X (.Call (.Name "isinstance" p) [e,.Name cn p2] [] pos) (Tf c fe):=by
  refine PE.imp (Tw (Yy (c:=c)) hg hm (by decide +kernel) (Ro he (Ro (Ad9 hg2 hm2 hv2 (v:=.ty c) rfl hn hdb) Aas hs2) hs) (by decide) (by decide) hs hpl) ?_
  rintro σ H Q ⟨α,δ,L,A,S,z,L3,e,q⟩
  obtain ⟨⟨u,L1⟩,e1,e⟩:=Option.bind_eq_some_iff.mp e
  obtain ⟨t,e2,e⟩:=Option.map_eq_some_iff.mp e
  cases e
  refine ⟨α,δ,L,A,S,u,_,e1,fun x H1 α1 g1 A1 r1=>?_⟩
  obtain ⟨h1,h2⟩:=Yp A1 r1 e2
  exact ⟨x,t,_,rfl,h1,hk t h2,q _ H1 α1 g1 A1 rfl⟩
theorem Aih{K:PySem.W.Frag}{F:FN}{H:Hp}{a:Addr}{ns:List Int}{E:XK}(ho:Aeg H)(hS:SqL K H a (ns.map V.int))(h:∃ L',F [.ref 0] [.ro (ns.map U.int)]=some (.bl true,L')):spF K 1 F [.ref a] H (fun v _=>v = .bl true) E:=by
  obtain ⟨L',e⟩:=h
  have ro:RO K H a (ns.map V.int):=by
    rcases hS with (q | ⟨o,q⟩) | q
    · rcases ho a with z | ⟨o,xs,z⟩
      · rw[z] at q;cases q
      · rw[z] at q;cases q
    · exact .inl ⟨o,q⟩
    · exact .inr q
  refine ⟨[a],[.ro (ns.map U.int)],[.ref 0],⟨rfl,fun i j b o o' e1 e2 e3 e4=>?_,fun i b o e1 e2=>?_⟩,.cons ?_ .nil,rfl,.bl true,L',e,fun v H' α' _ _ r=>r⟩
  · cases i with
    | zero=>cases j with
      | zero=>exact .inl rfl
      | succ j=>simp at e2
    | succ i=>simp at e1
  · cases i with
    | zero=>simp at e1 e2;subst e1;subst e2;exact ⟨_,ro,RepL.ints ns⟩
    | succ i=>simp at e1
  · unfold RepU;exact ⟨a,rfl,rfl⟩
theorem Ks(env:PySem.Env):∀ (names:List (Str×NameKind)) (cs:List (Str×Addr)),(∀ y∈names,y.2 = .free→∃ c,env.cells.lookup y.1=some c)→(∀ x c,cs.lookup x=some c→env.cells.lookup x=some c) →
    ∃ cl:List (Str×Addr),(forIn names cs fun (x:Str×NameKind) r=>if (x.2 == NameKind.free)=true then do let c ← cellOf env x.1;pure (ForInStep.yield ((x.1,c)::r)) else pure (ForInStep.yield r):Sem (List (Str×Addr)))=pure cl ∧
      (∀ x c,cl.lookup x=some c→env.cells.lookup x=some c)∧(∀ y∈names,y.2 = .free→∃ c,cl.lookup y.1=some c)∧∀ x,(∃ c,cs.lookup x=some c)→∃ c,cl.lookup x=some c
  | [],cs,_,h2=>⟨cs,rfl,h2,(fun _ h=>nomatch h),fun _ h=>h⟩
  | (n,k)::r,cs,h1,h2=>by
    cases hk:k == NameKind.free with
    | true=>
      have hk':k = .free:=by simpa using hk
      obtain ⟨c,hc⟩:=h1 (n,k) (List.mem_cons_self ..) hk'
      have look:∀ x c',List.lookup x ((n,c)::cs)=some c'→env.cells.lookup x=some c':=fun x c' e=>by
        rw[List.lookup_cons] at e
        cases hx:x == n with
        | true => rw [hx] at e; simp at e; subst e; have : x = n := by simpa using hx
                  rw[this];exact hc
        | false=>rw[hx] at e;exact h2 x c' e
      obtain ⟨cl,e,p1,p2,p3⟩:=Ks env r ((n,c)::cs) (fun y hy=>h1 y (List.mem_cons_of_mem _ hy)) look
      refine ⟨cl,?_,p1,fun y hy hf=>?_,fun x hx=>?_⟩
      · rw[List.forIn_cons]
        have e0:(cellOf env n:Sem Addr)=pure c:=by unfold cellOf;rw[hc]
        simp only[hk,if_true,e0]
        exact e
      · rcases List.mem_cons.mp hy with rfl | hy
        · exact p3 n ⟨c,by simp⟩
        · exact p2 y hy hf
      · refine p3 x ?_
        rw[List.lookup_cons]
        cases hx':x == n with
        | true=>exact ⟨c,rfl⟩
        | false=>exact hx
    | false=>
      obtain ⟨cl,e,p1,p2,p3⟩:=Ks env r cs (fun y hy=>h1 y (List.mem_cons_of_mem _ hy)) h2
      refine ⟨cl,?_,p1,fun y hy hf=>?_,p3⟩
      · rw[List.forIn_cons]
        simp only[hk,Bool.false_eq_true,if_false]
        exact e
      · rcases List.mem_cons.mp hy with rfl | hy
        · rw[show k=NameKind.free from hf] at hk;cases hk
        · exact p2 y hy hf
theorem Kh{scope:Scope}{env:PySem.Env}(h:∀ y∈scope.names,y.2 = .free→∃ c,env.cells.lookup y.1=some c) :
    ∃ cl,closureFor scope env=pure cl∧(∀ x c,cl.lookup x=some c→env.cells.lookup x=some c)∧∀ y∈scope.names,y.2 = .free→∃ c,cl.lookup y.1=some c:=by
  obtain ⟨cl,e,p1,p2,_⟩:=Ks env scope.names [] h (fun x c e=>by simp at e)
  refine ⟨cl,?_,p1,p2⟩
  unfold closureFor
  show (forIn scope.names [] _ >>= fun cs=>pure cs)=pure cl
  have:(forIn scope.names ([]:List (Str×Addr)) (fun (x:Str×NameKind) (r:List (Str×Addr))=>if (x.2 == NameKind.free)=true then do let c ← cellOf env x.1;pure (ForInStep.yield ((x.1,c)::r)) else pure (ForInStep.yield r)):Sem (List (Str×Addr))) >>= (fun cs=>pure cs)=pure cl:=by rw[e];rfl
  exact this
noncomputable def blk(X:Cx)(scope:Scope)(cl:List (Str×Addr))(C:Addr)(N':List Str)(s2:Shared)(H2:Hp)(fp:List Addr)(pins:List (Addr×Obj)):Cx:=
  { X with env:=compEnvC scope cl C X.env,N:=N',s₀:=s2,H₀:=H2,outer:=X.stack,ex:=fp,fn:=fun _=>false,pn:=X.pn++pins,xe:=fun _ _=>False }
theorem HOk.adopt{P:Program}{w:World}{H:Hp}{h:Heap}{a:Addr}{o:HO}(x:HOk P w H h)(hn:H a=none)(new:ObjOk P w (upd H a o) h a o):HOk P w (upd H a o) h:=fun b u e=>by
  by_cases hb:b=a
  · subst hb;rw[upd_same] at e;cases e;exact new
  · rw[Ba hb] at e
    exact (x b u e).stay (fun c v _ q=>q) (fun c q=>by rw[Ba (Bk q hn)];exact q) fun c xs q=>by rw[Ba (Bk q hn)];exact q
theorem Un.adopt{fs ex:List Addr}{H H1:Hp}{h h1:Heap}{a:Addr}{o:HO}(u:Un fs ex H H1 h h1)(hn:H1 a=none)(ha:h.get? a=none):Un fs ex H (upd H1 a o) h h1 where
  keep:=u.keep
  slot:=u.slot
  free:=fun b ob q n hx=>by
    have:b≠a:=fun z=>by rw[z,ha] at q;cases q
    rw[Ba this];exact u.free b ob q n hx
  there:=u.there
  tups:=fun b xs q=>by have q':=u.tups b xs q;rw[Ba (Bk q' hn)];exact q'
  frzs:=fun b ob xs q=>by have q':=u.frzs b ob xs q;rw[Ba (Bk q' hn)];exact q'
  tbls:=fun b ps q=>by
    obtain ⟨m,q'⟩:=u.tbls b ps q
    exact ⟨m,by rw[Ba (Bk q' hn)];exact q'⟩
structure CompSc(X:Cx)(scope:Scope)(N':List Str)(ix:List (Option Nat)):Prop where
  kind:scope.kind = .function
  cell:(scope.names.all fun y=>y.2 != .cell)=true
  loc:(scope.names.all fun y=>y.2 != .local || scope.names.lookup y.1 == some .local)=true
  free:(scope.names.all fun y=>y.2 != .free || (X.env.kindOf y.1 == some .cell || X.env.kindOf y.1 == some .free))=true
  ixs:((N'.zip ix).all fun p=>match p.2 with | none=>true | some i=>(X.N[i]? == some p.1)&&(scope.names.lookup p.1 == some .free))=true
  len:N'.length=ix.length
noncomputable def inner(ix:List (Option Nat))(σ:L2.St):L2.St:=ix.map fun o=>o.bind fun i=>(σ[i]?).join
noncomputable def Aaw(J:It)(g:TG)(tt:TT)(te:TE)(σ':L2.St)(H:Hp)(Fin:List V→Hp→Prop):Prop:=∃ W:Nat→Nat→List V→L2.St→Hp→Prop,(∃ m,W 0 m [] σ' H)∧∀ i m acc σ1 H1,W i m acc σ1 H1 →
  (J.stop i H1∧Fin acc H1)∨(J.go i H1∧∀ x H3,J.yld i H1 x H3→g x σ1 H3 fun σ2 H4=>tt σ2 H4 fun b H5=>
    if b=true then te σ2 H5 fun y H6=>acc.length < sizeLine∧∃ m',m' < m∧W (i+1) m' (acc++[y]) σ2 H6 else ∃ m',m' < m∧W (i+1) m' acc σ2 H5)
section
variable {X:Cx}{scope:Scope}{N':List Str}{ix:List (Option Nat)}{pins:List (Addr×Obj)}{σ:L2.St}{H2:Hp}{s2:Shared}{cl:List (Str×Addr)}{fp:List Addr}
theorem Ha{β:Type}{x:Str}{v:β}:∀ {l:List (Str×β)},l.lookup x=some v→(x,v)∈l
  | [],h=>by simp at h
  | (n,k)::r,h=>by
    rw[List.lookup_cons] at h
    cases hx:x == n with
    | true => rw [hx] at h; simp at h; have : x = n := by simpa using hx
              subst this;subst h;exact List.mem_cons_self ..
    | false=>rw[hx] at h;exact List.mem_cons_of_mem _ (Ha h)
theorem Hj{env:PySem.Env}{x:Str}:∀ {names:List (Str×NameKind)} {k:NameKind},(names.map fun (n,k)=>if (k == NameKind.free&&env.scope.kind == .function&&env.kindOf n == some .cell) then (n,NameKind.cell) else (n,k)).lookup x=some k →
    names.lookup x=some k∨(names.lookup x=some .free∧k = .cell)
  | [],k,h=>by simp at h
  | (n,k')::r,k,h=>by
    have ih:=@Hj env x r k
    rw[List.map_cons] at h
    cases hx:x == n with
    | true=>
      rw[List.lookup_cons,hx]
      simp only at h ⊢
      split at h
      · rename_i hc
        rw[List.lookup_cons,hx] at h
        simp at h
        simp only[Bool.and_eq_true] at hc
        have:k' = .free:=by simpa using hc.1.1
        subst this
        exact .inr ⟨rfl,h.symm⟩
      · rw[List.lookup_cons,hx] at h
        exact .inl h
    | false=>
      rw[List.lookup_cons,hx]
      simp only at h ⊢
      split at h
      · rw[List.lookup_cons,hx] at h;exact ih h
      · rw[List.lookup_cons,hx] at h;exact ih h
theorem Gn{env:PySem.Env}{x:Str}:∀ {names:List (Str×NameKind)},names.lookup x=some .free →
    (names.map fun (n,k)=>if (k == NameKind.free&&env.scope.kind == .function&&env.kindOf n == some .cell) then (n,NameKind.cell) else (n,k)).lookup x=some .free∨(names.map fun (n,k)=>if (k == NameKind.free&&env.scope.kind == .function&&env.kindOf n == some .cell) then (n,NameKind.cell) else (n,k)).lookup x=some .cell
  | [],h=>by simp at h
  | (n,k')::r,h=>by
    have ih:=@Gn env x r
    rw[List.map_cons]
    cases hx:x == n with
    | true=>
      rw[List.lookup_cons,hx] at h
      simp at h
      subst h
      simp only
      split
      · right;rw[List.lookup_cons,hx]
      · left;rw[List.lookup_cons,hx]
    | false=>
      rw[List.lookup_cons,hx] at h
      have:=ih h
      simp only
      split
      · rw[List.lookup_cons,hx];exact this
      · rw[List.lookup_cons,hx];exact this
end
section
variable {X:Cx}{scope:Scope}{N':List Str}{ix:List (Option Nat)}{pins:List (Addr×Obj)}{σ:L2.St}{H2:Hp}{s2:Shared}{cl:List (Str×Addr)}{fp:List Addr}
noncomputable def P9(X':Cx)(ifs:List Expr)(tt:TT):Prop:=∀ (pins:List (Addr×Obj)) (s:Shared) (σ:L2.St) (H:Hp) (Q:Bool→Hp→Prop) (E:Value→Shared→Prop),Inv X' pins σ H s→tt σ H Q→(∀ e s,X'.xe e s→E e s) →
  wpAny (model X'.prog X'.w) X'.A (forIn ifs true fun c r=>if r=true then do let ok ← isTrue c X'.env (eval c X'.env);pure (ForInStep.yield ok) else pure (ForInStep.yield r)) (TP X' pins σ Q) E s
noncomputable def Adx:TT:=fun _ H Q=>Q true H
theorem P3{X':Cx}:P9 X' [] Adx:=fun pins s σ H Q E I h _=>wpAny_tests_nil ⟨H,I,h⟩
theorem Yr{X':Cx}{c:Expr}{tt:TT}(h:PT X' c tt):P9 X' [c] tt:=fun pins s σ H Q E I q hE=>wpAny_tests_one (wpAny_mono (h pins s σ H Q I q) (fun _ _ z=>z) hE)
noncomputable def Dj(its:List Value)(n:Nat):Obj:={ cls:=.type "list",data:=.seq its.toArray n }
theorem Yf{elt tg iter:Expr}{ifs:List Expr}{pos:Pos}{it D C:Addr}{J:It}{tn:Nat→Heap→Prop}{g:TG}{tt:TT}{te:TE}{Fin:List V→Hp→Prop}{R:Result→Shared→Prop}{X':Cx}
    (hX:X'.A=X.A∧X'.prog=X.prog∧X'.w=X.w∧X'.K=X.K∧X'.calm=true∧∀ e s,¬ X'.xe e s) (T:Turn X.prog X.w X.K tg J fp it tn) (hg:PG X' tg g) (ht:P9 X' ifs tt) (he:PE X' elt te)
    (hD1:s2.heap.objs.size≤D) (hDC:D≠C) (hC:s2.heap.objs.size≤C) (hfp:∀ b∈fp,Km X' [] H2 b∧b≠D) (hDf:∀ H,H D=none→Km X' [] H D)
    {s:Shared} {σ1:L2.St} {H1:Hp} {n0:Nat} (I:Inv X' [(D,Dj [] n0)] σ1 H1 s) (st:tn 0 s.heap) (fr:∀ b∈fp,H1 b=none) (hloop:Aaw J g tt te σ1 H1 Fin)
    (hR:∀ (s':Shared) (σ':L2.St) (H':Hp) (acc:List V) (its:List Value) (n:Nat),Inv X' [(D,Dj its n)] σ' H' s'→Vals acc its→acc.length≤sizeLine→Fin acc H'→R (.ok .next) s') :
    codeAny (model X.prog X.w) X.A (.compLoop (.ListComp elt [⟨tg,iter,ifs,0⟩] scope pos) 0 (.ref it) (.ref D) X'.env) R s:=by
  obtain ⟨W,⟨m0,w0⟩,turn⟩:=hloop
  obtain ⟨hXA,hXp,hXw,hXK,hXc,hxe⟩:=hX
  have hfpo:∀ (o:Obj) (H:Hp),(∀ b∈fp,H b=none)→∀ b∈fp,Km X' [(D,o)] H b:=fun o H hn b hb=>by
    obtain ⟨⟨_,q1,q2,q3,q4,q5⟩,q6⟩:=hfp b hb
    refine ⟨hn b hb,q1,q2,q3,q4,fun p hp=>?_⟩
    rcases List.mem_append.mp hp with z | z
    · exact q5 p (List.mem_append_left _ z)
    · have:p=(D,o):=by simpa using z
      rw[this];exact fun z=>q6 z.symm
  refine codeAny_loop rfl (fun n s=>∃ i acc its k σ1 H1,Inv X' [(D,Dj its k)] σ1 H1 s∧Vals acc its∧acc.length≤sizeLine∧tn i s.heap∧(∀ b∈fp,H1 b=none)∧W i n acc σ1 H1) (fun n s hI=>?_) m0 ⟨0,[],[],n0,σ1,H1,I,.nil,Nat.zero_le _,st,fr,w0⟩
  show wpAny _ X.A ((compTurn (.ListComp elt [⟨tg,iter,ifs,0⟩] scope pos) 0 (.ref it) (.ref D) X'.env).onRaise (fun x=>do noteFrame x X'.env;theTreesLotGoes x)) _ _ s
  refine wpAny_noted ?_
  rw[compTurn_list]
  obtain ⟨i,acc,its,k,σ1,H1,I,hv,hz,st,fr,w1⟩:=hI
  refine wpAny_bind (wpAny_standAt (wpAny_bind ?_))
  rcases turn i n acc σ1 H1 w1 with ⟨stop,fin⟩ | ⟨go,step⟩
  · have h:=T.done X' hXp hXw hXK hXc i _ s σ1 H1 (notedBy (model X.prog X.w) X.A X'.env fun e s'=>R (.error e) s') I (hfpo _ H1 fr) st stop
    rw[hXA] at h
    refine thn h fun r s4 ⟨hr,I4⟩=>?_
    subst hr
    exact wpAny_pure (hR s4 σ1 H1 acc its k I4 hv hz fin)
  · have h:=T.item X' hXp hXw hXK hXc i _ s σ1 H1 (notedBy (model X.prog X.w) X.A X'.env fun e s'=>R (.error e) s') I (hfpo _ H1 fr) st go
    rw[hXA] at h
    refine thn h fun r s4 ⟨u,hr,h4⟩=>?_
    subst hr
    refine wpAny_bind (thn h4 fun _ s5 ⟨x,H5,I5,r5,y5,st5,fr5⟩=>?_)
    have I5':=I5.pinned (hfpo _ H5 fr5) (T.obj _ _ st5)
    have hg5:=hg _ s5 σ1 H5 x u _ I5' r5 (step x H5 y5)
    rw[hXp,hXw,hXA] at hg5
    refine wpAny_bind (wpAny_mono hg5 (fun _ s6 ⟨σ6,H6,I6,q6⟩=>?_) fun e s z=>absurd z (hxe e s))
    have ht6:=ht _ s6 σ6 H6 _ (notedBy (model X.prog X.w) X.A X'.env fun e s'=>R (.error e) s') I6 q6 (fun e s z=>absurd z (hxe e s))
    rw[hXp,hXw,hXA] at ht6
    refine wpAny_bind (thn ht6 fun b s7 ⟨H7,I7,q7⟩=>?_)
    have back:∀ {σ8:L2.St} {H8:Hp} {s8:Shared},Inv X' ([(D,Dj its k)]++Ob fp s5.heap) σ8 H8 s8→tn (i+1) s8.heap∧(∀ b∈fp,H8 b=none)∧s8.heap.get? D=some (Dj its k)∧H8 D=none:=fun {σ8 H8 s8} I8=>by
      refine ⟨T.keep _ _ _ st5 fun b hb o e=>(I8.pin (b,o) (List.mem_append_right _ (List.mem_append_right _ (Jj hb e)))).1,fun b hb=>?_,?_,?_⟩
      · obtain ⟨o,e,d⟩:=T.obj _ _ st5 b hb
        exact (I8.pin (b,o) (List.mem_append_right _ (List.mem_append_right _ (Jj hb e)))).2.1
      · exact (I8.pin (D,Dj its k) (List.mem_append_right _ (List.mem_append_left _ (List.mem_singleton.mpr rfl)))).1
      · exact (I8.pin (D,Dj its k) (List.mem_append_right _ (List.mem_append_left _ (List.mem_singleton.mpr rfl)))).2.1
    cases b with
    | false=>
      obtain ⟨m',hm,w8⟩:=(q7:if false=true then _ else _)
      obtain ⟨st8,fr8,_,_⟩:=back I7
      refine wpAny_pure ⟨rfl,m',hm,i+1,acc,its,k,σ6,H7,?_,hv,hz,st8,fr8,w8⟩
      exact I7.pins_of fun p hp=>I7.pin p (List.mem_append_right _ (List.mem_append_left _ hp))
    | true=>
      have q7':te σ6 H7 fun y H6=>acc.length < sizeLine∧∃ m',m' < n∧W (i+1) m' (acc++[y]) σ6 H6:=q7
      have he7:=he _ s7 σ6 H7 _ I7 q7'
      rw[hXp,hXw,hXA] at he7
      refine wpAny_bind (wpAny_bind (wpAny_mono he7 (fun y s8 ⟨v,H8,I8,r8,hlt,m',hm,w8⟩=>?_) fun e s z=>absurd z (hxe e s)))
      obtain ⟨st8,fr8,hDo,hDn⟩:=back I8
      have hlen:=hv.length
      have hisl:s8.heap.IsList D its.toArray:=⟨_,hDo,rfl,k,rfl⟩
      refine wpAny_bind ?_
      obtain ⟨k',hd'⟩:∃ k',Obj.mapSeq (·.push y) (Dj its k)=Dj (its++[y]) k':=⟨_,by simp[Dj,Obj.mapSeq];rfl⟩
      refine wpAny_call_entry slot_list_append hisl.typeIs entry_list_append ?_ (args_list_append _ _)
      show wpAny _ _ (updateSeq D (·.push y) >>= fun _=>ret .none) _ _ s8
      refine wpAny_bind (wpAny_updateSeq hDo rfl (wpAny_pure ⟨.none,rfl,?_⟩))
      have hk9:∀ b o,b≠D→s8.heap.get? b=some o→(s8.heap.update D (Obj.mapSeq (·.push y))).get? b=some o:=fun b o hb e=>(Heap.SameBut.update (h:=s8.heap) (a:=D) ..).2 b hb |>.trans e
      have hD9:(s8.heap.update D (Obj.mapSeq (·.push y))).get? D=some (Dj (its++[y]) k'):=by
        rw[← hd'];exact Heap.get?_update_self _ hDo (by rw[hd'];exact Obj.isFreed_of_seq (xs:=(its++[y]).toArray) (n:=k') rfl)
      have I8':Inv X' [] σ6 H8 s8:=I8.pins_of fun p hp=>by cases hp
      obtain ⟨d0,d1,d2,d3,d4,d5⟩:=hDf H8 hDn
      have I9:Inv X' [] σ6 H8 { s8 with heap:=s8.heap.update D (Obj.mapSeq (·.push y)) }:=I8'.turned (t':=s8.toks) hk9 hDn d1 d3 d4 d5
      have I10:=I9.pins_of (pins':=[(D,Dj (its++[y]) k')]) fun p hp=>by
        have:p=(D,Dj (its++[y]) k'):=by simpa using hp
        subst this
        exact ⟨hD9,hDn,d1,d2,fun v z=>by simp[Dj] at z⟩
      refine wpAny_pure (wpAny_pure ⟨rfl,m',hm,i+1,acc++[v],its++[y],k',σ6,H8,I10,Vals.append hv (.cons r8 .nil),by rw[List.length_append];simp;omega,?_,fr8,w8⟩)
      refine T.keep _ _ _ st8 fun b hb o e=>hk9 b o (hfp b hb).2 e
end
section
variable {X:Cx}{scope:Scope}{N':List Str}{ix:List (Option Nat)}
noncomputable def Y6(ix:List (Option Nat))(wi:TI)(g:TG)(tt:TT)(te:TE):TE:=fun σ H Q=>wi σ H fun J H1=>Aaw J g tt te (inner ix σ) H1 fun acc H2=>∀ p,H2 p=none→Q (.ref p) (upd H2 p (.lst acc))
theorem CompSc.names{scope:Scope}(S:CompSc X scope N' ix):∀ x∈scope.names,x.2 = .local→scope.names.lookup x.1=some .local:=fun x hx hl=>by
  have:=List.all_eq_true.mp S.loc x hx
  rw[hl] at this
  simpa using this
theorem CompSc.clos{scope:Scope}(S:CompSc X scope N' ix)(ok:X.Ok):∃ cl,closureFor scope X.env=pure cl∧(∀ x c,cl.lookup x=some c→X.env.cells.lookup x=some c)∧∀ y∈scope.names,y.2 = .free→∃ c,cl.lookup y.1=some c:=by
  refine Kh fun y hy hf=>?_
  have:=List.all_eq_true.mp S.free y hy
  rw[hf] at this
  simp at this
  exact ok.has y.1 this
end
noncomputable def Ic(tt:Option FT):FT:=fun δ L=>match tt with
  | none=>some (true,L)
  | some f=>f δ L
noncomputable def Mc(it:IU)(g:FG)(tt:Option FT)(fe:FE):Nat→Nat→List U→UE→UH→Option (List U×UH)
  | 0,_,_,_,_=>none
  | m+1,k,acc,δ,L=>match it.at k L with
    | none=>none
    | some none=>some (acc,L)
    | some (some u)=>(g u δ L).bind fun p=>(Ic tt p.1 p.2).bind fun q=>if q.1=true then (fe p.1 q.2).bind fun r=>if decide (acc.length < sizeLine)=true then Mc it g tt fe m (k+1) (acc++[r.1]) p.1 r.2 else none
      else Mc it g tt fe m (k+1) acc p.1 q.2
noncomputable def J1(ix:List (Option Nat))(δ:UE):UE:=ix.map fun o=>o.bind fun i=>(δ[i]?).join
noncomputable def Df(ix:List (Option Nat))(fi:FI)(g:FG)(tt:Option FT)(fe:FE):FE:=fun δ L=>(fi δ L).bind fun p=>(Mc p.1 g tt fe (p.1.size p.2+1) 0 [] (J1 ix δ) p.2).map fun q=>(.ref q.2.length,q.2++[.lst q.1])
theorem RepS.inner{K:PySem.W.Frag}{H:Hp}{α:List Addr}{δ:UE}{σ:L2.St}(S:RepS K H α δ σ)(ix:List (Option Nat)):RepS K H α (J1 ix δ) (MR.inner ix σ):=by
  refine ⟨by simp[J1,MR.inner],fun j u e=>?_⟩
  unfold J1 at e
  unfold MR.inner
  rw[List.getElem?_map] at e ⊢
  cases hx:ix[j]? with
  | none=>rw[hx] at e;simp at e
  | some o=>
    rw[hx] at e
    cases o with
    | none=>simp at e
    | some i=>
      simp at e
      have:δ[i]? = some (some u):=by
        cases q:δ[i]? with
        | none=>rw[q] at e;simp at e
        | some o=>rw[q] at e;simp at e;rw[e]
      obtain ⟨v,hv,r⟩:=S.at_ i u this
      exact ⟨v,by simp[hv],r⟩
noncomputable def lTo(K:PySem.W.Frag)(tt:Option FT):TT:=match tt with
  | none=>Adx
  | some f=>lT K f
theorem Rz{K:PySem.W.Frag}{ix:List (Option Nat)}{fi:FI}{g:FG}{tt:Option FT}{fe:FE}:∀ σ H Q,lE K (Df ix fi g tt fe) σ H Q→Y6 ix (lI K fi) (lG K g) (lTo K tt) (lE K fe) σ H Q:=by
  rintro σ H Q ⟨α,δ,L,A,S,z,L3,e,q⟩
  obtain ⟨⟨it,L1⟩,e1,e⟩:=Option.bind_eq_some_iff.mp e
  obtain ⟨⟨ys,L2⟩,e2,e⟩:=Option.map_eq_some_iff.mp e
  cases e
  refine ⟨α,δ,L,A,S,it,L1,e1,fun J H1 α1 g1 A1 hJ=>?_⟩
  refine ⟨fun k m acc σ2 H2=>∃ α2 δ2 M us,Gr H1 α1 H2 α2∧Abs K H2 α2 M∧RepS K H2 α2 δ2 σ2∧RepL K H2 α2 us acc∧Mc it g tt fe m k us δ2 M=some (ys,L2),⟨_,α1,_,L1,[],.refl _ _,A1,(S.mono g1).inner ix,.nil,e2⟩,?_⟩
  rintro k m acc σ2 H2 ⟨α2,δ2,M,us,g2,A2,S2,r2,e3⟩
  cases m with
  | zero=>cases e3
  | succ m=>
    obtain ⟨hgo,hstop⟩:=hJ H2 α2 M g2 A2 k
    unfold Mc at e3
    cases hat:it.at k M with
    | none=>rw[hat] at e3;cases e3
    | some o=>
      cases o with
      | none=>
        rw[hat] at e3
        cases e3
        refine .inl ⟨hstop hat,fun p hp=>?_⟩
        obtain ⟨g3,A3,r3⟩:=A2.lst r2 hp
        exact q _ _ _ (g1.trans (g2.trans g3)) A3 r3
      | some u=>
        rw[hat] at e3
        obtain ⟨go,yld⟩:=hgo u hat
        obtain ⟨⟨δ3,L3⟩,e4,e3⟩:=Option.bind_eq_some_iff.mp e3
        obtain ⟨⟨b,L4⟩,e5,e3⟩:=Option.bind_eq_some_iff.mp e3
        refine .inr ⟨go,fun x H3 y3=>?_⟩
        obtain ⟨g3,A3,r3⟩:=yld x H3 y3
        refine ⟨α2,δ2,M,u,A3,S2.mono g3,r3,δ3,L3,e4,fun σ4 H4 α4 g4 A4 S4=>?_⟩
        have after:∀ H5 α5,Gr H4 α4 H5 α5→Abs K H5 α5 L4→(if b=true then lE K fe σ4 H5 (fun y H6=>acc.length < sizeLine∧∃ m',m' < m+1∧∃ α2 δ2 M us,Gr H1 α1 H6 α2∧Abs K H6 α2 M∧RepS K H6 α2 δ2 σ4∧RepL K H6 α2 us (acc++[y])∧Mc it g tt fe m' (k+1) us δ2 M=some (ys,L2)) else ∃ m',m' < m+1∧∃ α2 δ2 M us,Gr H1 α1 H5 α2∧Abs K H5 α2 M∧RepS K H5 α2 δ2 σ4∧RepL K H5 α2 us acc∧Mc it g tt fe m' (k+1) us δ2 M=some (ys,L2)):=fun H5 α5 g5 A5=>by
          have gA:=g2.trans (g3.trans (g4.trans g5))
          have gB:=g3.trans (g4.trans g5)
          cases b with
          | false=>exact Xc ⟨m,Nat.lt_succ_self _,α5,δ3,L4,us,gA,A5,S4.mono g5,r2.mono gB,e3⟩
          | true=>
            obtain ⟨⟨w,L5⟩,e6,e3⟩:=Option.bind_eq_some_iff.mp e3
            simp only at e3
            split at e3
            · rename_i hlt
              refine Xq ⟨α5,δ3,L4,A5,S4.mono g5,w,L5,e6,fun y H6 α6 g6 A6 r6=>?_⟩
              exact ⟨by rw[← r2.length];exact of_decide_eq_true hlt,m,Nat.lt_succ_self _,α6,δ3,L5,us++[w],gA.trans g6,A6,(S4.mono g5).mono g6,(r2.mono (gB.trans g6)).append (.cons r6 .nil),e3⟩
            · cases e3
        cases tt with
        | none=>
          cases e5
          exact after H4 α4 (.refl _ _) A4
        | some f=>exact ⟨α4,δ3,L3,A4,S4,b,L4,e5,fun H5 α5 g5 A5=>after H5 α5 g5 A5⟩
section
variable {X:Cx}{scope:Scope}{N':List Str}{ix:List (Option Nat)}{elt tg iter c:Expr}{pos:Pos}{fi:FI}{g:FG}{ft:FT}{fe:FE}
theorem Age{K:PySem.W.Frag}{i:Nat}{fc:FE}{t:TE}(ht:∀ σ H Q,lE K fc σ H Q→t σ H Q):∀ D σ H,lS K (Br fc (gN i)) D σ H→Ad6 t (Sx i) D σ H:=by
  rintro D σ H ⟨α,δ,L,A,S,fl,L',e,q⟩
  obtain ⟨⟨u,L1⟩,e1,e⟩:=Option.bind_eq_some_iff.mp e
  obtain ⟨⟨δ2,L2⟩,e2,e⟩:=Option.map_eq_some_iff.mp e
  cases e
  cases e2
  exact ht σ H _ ⟨α,δ,L,A,S,u,_,e1,fun v H1 α1 g1 A1 r1=>q _ H1 α1 g1 A1 ((S.mono g1).set i r1)⟩
end
section
variable {X:Cx}{pins:List (Addr×Obj)}{σ:L2.St}{H:Hp}{s:Shared}{h':Heap}
theorem Inv.turnNew{ch:List Addr}{p:Addr}{o:HO}{t':Nat}(I:L2.Inv X pins σ H s)(hch:∀ b∈ch,Km X pins H b)(k:∀ b o,b∉ch→s.heap.get? b=some o→h'.get? b=some o)(hp:s.heap.objs.size≤p)(new:ObjOk X.prog X.w (upd H p o) h' p o) :
    L2.Inv X pins σ (upd H p o) { s with heap:=h',toks:=t' }:=by
  have hn:H p=none:=I.hok.fresh hp
  have nch:∀ b u,H b=some u→b∉ch:=fun b u e hb=>by rw[(hch b hb).1] at e;cases e
  have st:=Stay.new hn o
  refine I.step (g':=s.gens) (d':=s.drawn) (ch:=ch) (fun b hb=>?_) (fun b o _ _ hc e _=>k b o hc e) (fun b o _ _ hc e _=>⟨o.slots,k b o hc e⟩) (fun b u hc e n=>?_) (fun b u hc e=>⟨u,k b u hc e⟩) st.1 st.2 (fun b ps e=>⟨#[],?_⟩) (fun m hm=>?_) (fun b u e=>?_) I.bare
  · obtain ⟨_,f1,_,f3,f4,f5⟩:=hch b hb
    exact ⟨f3,f1,f4,f5⟩
  · rw[Ba (Nat.ne_of_lt (Nat.lt_of_lt_of_le (Heap.lt_size e) hp))];exact n
  · rw[Ba (Bk e hn),e];simp
  · obtain ⟨o1,es,ep,ho,r⟩:=hm
    exact ⟨o1,es,ep,k _ o1 (fun z=>(hch _ z).2.1 rfl) ho,r⟩
  · by_cases hb:b=p
    · subst hb;rw[upd_same] at e;cases e;exact new
    · rw[Ba hb] at e
      refine (I.hok b u e).stay (fun c v hc q=>k c v ?_ q) (fun c q=>by rw[Ba (Bk q hn)];exact q) fun c xs q=>by rw[Ba (Bk q hn)];exact q
      rcases hc with z | z
      · rw[z];exact nch b u e
      · exact nch c _ z
end
noncomputable def Ite(K:PySem.W.Frag)(a:Addr):It:=
  ⟨fun i H=>∃ xs x,SqL K H a xs∧xs[i]? = some x,fun i H x H'=>∃ p v,H p=none∧x = .ref p∧H'=upd H p (.tup [.int i,v])∧∀ xs,SqL K H a xs→xs[i]? = some v,fun i H=>∃ xs,SqL K H a xs∧xs.length≤i⟩
theorem Xu{P:Program}{w:World}{K:PySem.W.Frag}{elts:List Expr}{x1}{pos:Pos}(a e it:Addr)(hne:e≠it):Turn P w K (.Tuple elts x1 pos) (Ite K a) [e,it] e (fun i h=>(∃ old,IsEnum h e it i old)∧h.IsListIter it a i) where
  mem:=by simp
  obj:=fun i h st b hb=>by
    obtain ⟨⟨old,he⟩,o,ho,hc,hd⟩:=st
    rcases List.mem_cons.mp hb with rfl | hb
    · exact ⟨_,he,fun v z=>by simp at z⟩
    · have:b=it:=by simpa using hb
      subst this
      exact ⟨o,ho,fun v z=>by rw[hd] at z;cases z⟩
  keep:=fun i h h' st k=>by
    obtain ⟨⟨old,he⟩,o,ho,hc,hd⟩:=st
    exact ⟨⟨old,k e (by simp) _ he⟩,o,k it (by simp) _ ho,hc,hd⟩
  item:=by
    intro X hP hw hK hc i pins s σ H E I hf st hg
    subst hP hw hK
    obtain ⟨⟨old,he⟩,hit⟩:=st
    obtain ⟨xs,v,sq,hx⟩:=hg
    obtain ⟨its,hv,pl,hz⟩:=I.list sq
    obtain ⟨u,hu,r⟩:=hv.get hx
    refine wpAny_pyNext_enum_item he hit pl.isList (by simpa using hu) hne fun h' o1 o2 o3 o4 o5=>?_
    refine ⟨_,rfl,?_⟩
    have hfr:H s.heap.objs.size=none:=I.hok.fresh (Nat.le_refl _)
    have I1:L2.Inv X pins σ (upd H s.heap.objs.size (.tup [.int i,v])) { s with heap:=h',toks:=s.toks+1 }:=
      Inv.turnNew (ch:=[e,it]) I hf (fun b o hb q=>o5 b o (fun z=>hb (by simp[z])) (fun z=>hb (by simp[z])) q) (Nat.le_refl _)
        (show ObjOk X.prog X.w _ h' _ (.tup [.int i,v]) from ⟨by show 2≤sizeLine;decide,[.int i s.toks,u],.cons ⟨_,rfl⟩ (.cons r .nil),⟨_,o3,rfl,_,rfl⟩⟩)
    refine wpAny_letOwnedTupleGo_enum o1 fun h2 e2 sb2=>?_
    have hne2:∀ b∈[e,it],b≠s.heap.objs.size:=fun b hb z=>by
      rcases List.mem_cons.mp hb with q | q
      · have:=Heap.lt_size he;rw[← q,z] at this;exact Nat.lt_irrefl _ this
      · have q:b=it:=by simpa using q
        obtain ⟨o,ho,_⟩:=hit
        have:=Heap.lt_size ho;rw[← q,z] at this;exact Nat.lt_irrefl _ this
    have hnone:∀ b∈[e,it],(upd H s.heap.objs.size (.tup [.int i,v])) b=none:=fun b hb=>by rw[Ba (hne2 b hb)];exact (hf b hb).1
    obtain ⟨f0,f1,f2,f3,f4,f5⟩:=hf e (by simp)
    have I2:=I1.turned (t':=s.toks+1) (h':=h2) (it:=e) (fun b o hb q=>sb2.2 b hb |>.trans q) (hnone e (by simp)) f1 f3 f4 f5
    obtain ⟨oi,hoi,hci,hdi⟩:=o2
    refine ⟨.ref s.heap.objs.size,_,I2,rfl,⟨_,v,hfr,rfl,rfl,fun ys sq'=>?_⟩,⟨⟨_,e2⟩,oi,(sb2.2 it (Ne.symm hne)).trans hoi,hci,hdi⟩,hnone⟩
    rw[I.list_inj sq' sq];exact hx
  done:=by
    intro X hP hw hK hc i pins s σ H E I hf st hg
    subst hP hw hK
    obtain ⟨⟨old,he⟩,hit⟩:=st
    obtain ⟨xs,sq,hx⟩:=hg
    obtain ⟨its,hv,pl,hz⟩:=I.list sq
    obtain ⟨f0,f1,f2,f3,f4,f5⟩:=hf it (by simp)
    have hlen:=hv.length
    refine wpAny_pyNext_enum_end (I.ok.hd hc) he hit pl.isList (by simp;omega) fun h' eb=>⟨rfl,I.turned (t':=s.toks) (fun b o hb q=>eb b o hb q) f0 f1 f3 f4 f5⟩
  self:=fun _ _ _ _ _ st h=>by obtain ⟨⟨old,he⟩,_⟩:=st;exact wpAny_pyIter_enum he h
theorem Qe(n l1 l2:Nat)(h1:l1 < n)(h2:l2 < n):ZipApart (n+4) (n+2) (n+3) n (n+1) l1 l2:=by
  constructor <;> (intro q;exact absurd (show (_:Nat)=_ from q) (by omega))
section
variable {X:Cx}{elts:List Expr}{x1:Nat}{tpos:Pos}
theorem Me:bootBuiltins "enumerate" = some (.type "enumerate"):=by decide +kernel
theorem Tk:bootBuiltins "zip" = some (.type "zip"):=by decide +kernel
noncomputable def Ajq(K:PySem.W.Frag)(ta:TA):TI:=fun σ H R=>ta σ H fun vs H1=>∃ a xs,vs=[.ref a]∧SqL K H1 a xs∧R (Ite K a) H1
theorem Afd{a:Expr}{ta:TA}{p pos:Pos}(hg:Gl X "enumerate")(hm:X.mg "enumerate" = none)(ha:PA X [a] ta)(hs:starEach [a] X.env=[(false,eval a X.env)]:=by rfl):PI X (.Tuple elts x1 tpos) (.Call (.Name "enumerate" p) [a] [] pos) (Ajq X.K ta):=by
  intro pins s σ H R I h
  refine Call_ (Gg I hg hm Me (PyProof.Rows.callWith_type1 (thn (ha pos pins s σ H _ I h) fun us s1 ⟨vs,H1,I1,r1,q1⟩=>?_) hs rfl))
  obtain ⟨l,xs,rfl,sq,q⟩:=q1
  obtain ⟨u,rfl,ru⟩:=Ij r1
  cases ru
  obtain ⟨its,hv,pl,hz⟩:=I1.list sq
  refine call_enumerate_list pl.isList fun h' o1 o2 o3 o4=>?_
  have I2:L2.Inv X pins σ H1 { s1 with heap:=h' }:=I1.kept (t':=s1.toks) o4
  refine wpAny_pyIter_enum o1 ⟨_,_,_,_,H1,rfl,I2,Xu l (s1.heap.objs.size+1) s1.heap.objs.size (Nat.ne_of_gt (Nat.lt_succ_self _)),⟨⟨_,o1⟩,o2⟩,fun b hb=>?_,q⟩
  have hb':s1.heap.objs.size≤b:=by
    simp only[List.mem_cons,List.not_mem_nil,or_false] at hb
    rcases hb with rfl | rfl
    · exact Nat.le_succ _
    · exact Nat.le_refl _
  exact L2.Inv.fpOk I1 hb' (I1.hok.fresh hb')
noncomputable def Ajh(g:FA):FI:=fun δ L=>(g δ L).bind fun p=>match p.1 with
  | [.ref n]=>(Ap p.2 n).map fun _=>(.enm n,p.2)
  | _=>none
noncomputable def Akp(g:FA):FI:=fun δ L=>(g δ L).bind fun p=>match p.1 with
  | [.ref n,.ref m]=>(Ap p.2 n).bind fun _=>(Ap p.2 m).map fun _=>(.zip2 n m,p.2)
  | _=>none
theorem Jg{K:PySem.W.Frag}{H:Hp}{α:List Addr}{L:UH}{n:Nat}{a:Addr}{us:List U}(A:Abs K H α L)(ea:α[n]? = some a)(h:Ap L n=some us):∃ xs,SqL K H a xs∧RepL K H α us xs:=by
  obtain ⟨a',xs,ea',sq,r⟩:=Ir A h
  rw[ea] at ea';cases ea'
  exact ⟨xs,sq,r⟩
theorem Ae3{K:PySem.W.Frag}{H:Hp}{α:List Addr}{n:Nat}{a:Addr}(hinj:∀ (H:Hp) xs ys,SqL K H a xs→SqL K H a ys→True)(ea:α[n]? = some a):Mb K (Ite K a) (.enm n) H α:=by
  intro H2 α2 L2 g A2 k
  have ea2:=g.at ea
  refine ⟨fun u eu=>?_,fun eu=>?_⟩
  · obtain ⟨us,hs,eu⟩:=Option.map_eq_some_iff.mp eu
    obtain ⟨xs,sq,r⟩:=Jg A2 ea2 hs
    obtain ⟨w,hw,eu⟩:=Option.map_eq_some_iff.mp eu
    subst eu
    obtain ⟨x,hx,rx⟩:=r.get hw
    refine ⟨⟨xs,x,sq,hx⟩,?_⟩
    rintro y H3 ⟨p,v,hp,rfl,rfl,hy⟩
    have:=hy xs sq
    rw[hx] at this;cases this
    exact A2.tup (.cons rfl (.cons rx .nil)) hp
  · obtain ⟨us,hs,eu⟩:=Option.map_eq_some_iff.mp eu
    obtain ⟨xs,sq,r⟩:=Jg A2 ea2 hs
    have:us[k]? = none:=by simpa using eu
    exact ⟨xs,sq,by rw[← r.length];exact List.getElem?_eq_none_iff.mp this⟩
end
end MR
namespace HT
open PySem PySem.Spec PyProof.Rows
section
variable {prog:Program}{w:World}{A:Around}{E:Value→Shared→Prop}{s:Shared}
end
end HT
namespace MR
open PySem PySem.Spec PyProof.Rows L2
section
variable {X:Cx}{e st:Expr}{fa fs:FE}{p2 pos:Pos}
noncomputable def Ak6(f:FE):FE:=fun δ L=>(f δ L).bind fun p=>match p.1 with | .ref n=>(Ap p.2 n).map fun l=>(.ref p.2.length,p.2++[.lst l.reverse]) | .tup l=>some (.tup l.reverse,p.2) | _=>none
end
structure ClsF(K:PySem.W.Frag)(C:Str)(Ca:Addr):Prop where
  ns:PySem.W.nsIn K mainGlobals C=some (some (.ref Ca))
  cl:Cls K Ca
theorem ClsF.eq{K:PySem.W.Frag}{C:Str}{Ca Cb:Addr}(T:ClsF K C Ca)(h:PySem.W.nsIn K mainGlobals C=some (some (.ref Cb))):Cb=Ca:=by
  have:=T.ns.symm.trans h
  simpa using this.symm
noncomputable def Lu(C:Str)(u:U)(L:UH):Option (Nat×List (Str×U)):=match u with
  | .ref n=>match L[n]? with
    | some (.ins C' fs)=>if C'=C then some (n,fs) else none
    | _=>none
  | _=>none
theorem Ol{C:Str}{u:U}{L:UH}{n:Nat}{fs:List (Str×U)}(h:Lu C u L=some (n,fs)):u = .ref n∧L[n]? = some (.ins C fs):=by
  unfold Lu at h
  split at h
  · split at h
    · rename_i e
      split at h
      · rename_i hc
        cases h
        exact ⟨rfl,by rw[e,hc]⟩
      · cases h
    · cases h
  · cases h
theorem Ku{K:PySem.W.Frag}{H:Hp}{α:List Addr}{f:Str}:∀ {fs:List (Str×U)} {vs:List (Str×V)},fs.map (·.1)=vs.map (·.1)→RepL K H α (fs.map (·.2)) (vs.map (·.2))→(∀ u,fs.lookup f=some u→∃ v,vs.lookup f=some v∧RepU K H α u v)∧(fs.lookup f=none→vs.lookup f=none)
  | [],[],_,_=>⟨fun u h=>by simp at h,fun _=>rfl⟩
  | [],_::_,h,_=>by simp at h
  | _::_,[],h,_=>by simp at h
  | (g,u)::fs,(g',v)::vs,h,r=>by
    simp only[List.map_cons,List.cons.injEq] at h
    obtain ⟨h1,h2⟩:=h
    subst h1
    simp only[List.map_cons] at r
    unfold RepL at r
    obtain ⟨x,xr,e,r1,r2⟩:=r
    cases e
    obtain ⟨i1,i2⟩:=Ku (f:=f) h2 r2
    rw[List.lookup_cons,List.lookup_cons]
    cases hq:f == g with
    | true=>exact ⟨fun w hw=>by cases hw;exact ⟨v,rfl,r1⟩,fun hw=>by cases hw⟩
    | false=>exact ⟨i1,i2⟩
noncomputable def R4(f:Str)(v:U):List (Str×U)→List (Str×U)
  | []=>[(f,v)]
  | (g,x)::r=>if g=f then (g,v)::r else (g,x)::R4 f v r
theorem W0{K:PySem.W.Frag}{H:Hp}{α:List Addr}{f:Str}{u:U}{v:V}(ru:RepU K H α u v):∀ {fs:List (Str×U)} {vs:List (Str×V)},fs.map (·.1)=vs.map (·.1)→RepL K H α (fs.map (·.2)) (vs.map (·.2))→(R4 f u fs).map (·.1)=(putF f v vs).map (·.1)∧RepL K H α ((R4 f u fs).map (·.2)) ((putF f v vs).map (·.2))
  | [],[],_,_=>⟨rfl,.cons ru .nil⟩
  | [],_::_,h,_=>by simp at h
  | _::_,[],h,_=>by simp at h
  | (g,x)::fs,(g',y)::vs,h,r=>by
    simp only[List.map_cons,List.cons.injEq] at h
    obtain ⟨h1,h2⟩:=h
    subst h1
    simp only[List.map_cons] at r
    unfold RepL at r
    obtain ⟨z,zr,e,r1,r2⟩:=r
    cases e
    obtain ⟨i1,i2⟩:=W0 (f:=f) ru h2 r2
    unfold R4 putF
    by_cases hq:g=f
    · simp only[hq,if_true,List.map_cons]
      exact ⟨by rw[h2],.cons ru r2⟩
    · simp only[hq,if_false,List.map_cons]
      exact ⟨by rw[i1],.cons r1 i2⟩
section
variable {X:Cx}{o e value:Expr}{es:List Expr}{f m C x:Str}{p pos pos' apos:Pos}{Ca fa:Addr}{fd:FuncData}{ps:List Str}{k n:Nat}{F:FN}{fe fo fv:FE}{g:FA}
noncomputable def Ho(C f:Str)(fe:FE):FE:=fun δ L=>(fe δ L).bind fun p=>(Lu C p.1 p.2).bind fun q=>(q.2.lookup f).map fun v=>(v,p.2)
theorem Jb(T:ClsF X.K C Ca)(hn:NoAttr X.K Ca f)(he:PEF X e fe)(hb:attributeBase e f X.env (eval e X.env)=eval e X.env:=by rfl):PEF X (.Attribute e f pos) (Ho C f fe):=by
  refine PE.imp (Agj he hb) ?_
  rintro σ H Q ⟨α,δ,L,A,S,z,L3,ee,q⟩
  obtain ⟨⟨u,L1⟩,e1,ee⟩:=Option.bind_eq_some_iff.mp ee
  obtain ⟨⟨n,fs⟩,e2,ee⟩:=Option.bind_eq_some_iff.mp ee
  obtain ⟨w,e3,ee⟩:=Option.map_eq_some_iff.mp ee
  cases ee
  obtain ⟨rfl,hL⟩:=Ol e2
  refine ⟨α,δ,L,A,S,_,L1,e1,fun x H1 α1 g1 A1 r1=>?_⟩
  obtain ⟨a,ea,Cb,dx,vs,hns,ha,hk,rr⟩:=A1.addr hL
  obtain ⟨a',ea',rfl⟩:=r1.ref_of A1
  rw[ea] at ea';cases ea'
  have:=T.eq hns
  subst this
  obtain ⟨v,hv,rv⟩:=(Ku hk rr).1 _ e3
  exact ⟨a,Cb,dx,vs,v,rfl,ha,T.cl,hn,hv,q v H1 α1 g1 A1 rv⟩
noncomputable def Od(C f:Str)(fo fv:FE):FS:=fun δ L=>(fv δ L).bind fun p=>(fo δ p.2).bind fun q=>(Lu C q.1 q.2).bind fun r=>if r.2.length < 1000 then some (.nx δ,q.2.set r.1 (.ins C (R4 f p.1 r.2))) else none
theorem V7(T:ClsF X.K C Ca)(hn:NoAttr X.K Ca f)(ho:PEF X o fo)(hv:PEF X value fv)(hs:swapsWith value (some (.Attribute o f pos')) pos.line X.env=pure false:=by rfl):PSF X (.Assign [.Attribute o f pos'] value pos) (Od C f fo fv):=by
  refine PS.imp (Ahy ho hv hs) ?_
  rintro D σ H ⟨α,δ,L,A,S,fl,L',ee,q⟩
  obtain ⟨⟨u,L1⟩,e1,ee⟩:=Option.bind_eq_some_iff.mp ee
  obtain ⟨⟨w,L2⟩,e2,ee⟩:=Option.bind_eq_some_iff.mp ee
  obtain ⟨⟨n,fs⟩,e3,ee⟩:=Option.bind_eq_some_iff.mp ee
  simp only at ee
  split at ee
  · rename_i hlen
    cases ee
    obtain ⟨rfl,hL⟩:=Ol e3
    refine ⟨α,δ,L,A,S,u,L1,e1,fun y H1 α1 g1 A1 r1=>⟨α1,δ,L1,A1,S.mono g1,_,L2,e2,fun x H2 α2 g2 A2 r2=>?_⟩⟩
    obtain ⟨a,ea,Cb,dx,vs,hns,ha,hk,rr⟩:=A2.addr hL
    obtain ⟨a',ea',rfl⟩:=r2.ref_of A2
    rw[ea] at ea';cases ea'
    have:=T.eq hns
    subst this
    have hl:vs.length < 1000:=by
      have:=congrArg List.length hk
      rw[List.length_map,List.length_map] at this
      omega
    have g3:Gr H2 α2 (upd H2 a (.ins Cb dx (putF f y vs))) α2:=⟨⟨[],by simp⟩,.write ha (by exact trivial) _⟩
    obtain ⟨k1,k2⟩:=W0 (f:=f) ((r1.mono g2)) hk rr
    obtain ⟨A3,_⟩:=A2.put (o:=.ins Cb dx (putF f y vs)) (u:=.ins C (R4 f u fs)) ea hL rfl rfl ha (by exact trivial) ⟨Cb,dx,_,hns,upd_same,k1,k2.mono g3⟩
    exact ⟨a,Cb,dx,vs,rfl,ha,T.cl,hn,hl,q _ _ α2 ((g1.trans g2).trans g3) A3 (((S.mono g1).mono g2).mono g3)⟩
  · cases ee
noncomputable def Ar(C m:Str)(k:Nat)(F:FN)(fo:FE)(g:FA):FE:=fun δ L=>(fo δ L).bind fun p=>(Lu C p.1 p.2).bind fun r=>if r.2.lookup m=none then (g δ p.2).bind fun q=>if q.1.length+1=k then F (.ref r.1::q.1) q.2 else none else none
theorem Tu{K:PySem.W.Frag}{E:XK}(T:ClsF K C Ca):∀ σ H Q,lE K (Ar C m n F fo g) σ H Q→Abk Ca m (spF K n F) [] E (lE K fo) (lA K g) σ H Q:=by
  rintro σ H Q ⟨α,δ,L,A,S,z,L3,ee,q⟩
  obtain ⟨⟨u,L1⟩,e1,ee⟩:=Option.bind_eq_some_iff.mp ee
  obtain ⟨⟨j,fs⟩,e2,ee⟩:=Option.bind_eq_some_iff.mp ee
  simp only at ee
  split at ee
  · rename_i hno
    obtain ⟨⟨us,L2⟩,e3,ff⟩:=Option.bind_eq_some_iff.mp ee
    simp only at ff
    split at ff
    · rename_i hlen
      obtain ⟨rfl,hL⟩:=Ol e2
      refine ⟨α,δ,L,A,S,_,L1,e1,fun x H1 α1 g1 A1 r1=>?_⟩
      obtain ⟨a,ea,Cb,dx,vs,hns,ha,hk,rr⟩:=A1.addr hL
      obtain ⟨a',ea',hx⟩:=r1.ref_of A1
      rw[ea] at ea';cases ea'
      have:=T.eq hns
      subst this
      refine ⟨a,dx,vs,hx,ha,(Ku hk rr).2 hno,α1,δ,L1,A1,S.mono g1,us,L2,e3,fun xs H2 α2 g2 A2 r2=>?_⟩
      refine ⟨α2,L2,.ref j::us,A2,?_,by simpa using hlen,z,L3,ff,fun v H3 α3 g3 A3 r3=>q v H3 α3 (g1.trans (g2.trans g3)) A3 r3⟩
      rw[List.append_nil]
      exact .cons (r1.mono g2) r2
    · cases ff
  · cases ee
theorem Bv{pl:Sem Bool}(T:ClsF X.K C Ca)(hm:Meth X.K Ca m fa)(hF:FnOk X.prog X.w X.K X.mg X.base CX0 k fa fd ps (spF X.K n F))(hr:Room k X.A)(hb:Binds X.K fd ps [])(ho:PEF X o fo)(ha:PAF X (e::es) g)
    (hst:starEach (e::es) X.env=(false,eval e X.env)::starEach es X.env:=by rfl) (hpl:(backTo pos (starEach es X.env)).any (·.1)=false:=by rfl)
    (ht:eval (.Call (.Attribute o m apos) (e::es) [] pos) X.env=(do
      let ov ← eval o X.env
      standAt apos.atName
      let (f,first) ← holding [ov] (getMethod ov m pl)
      callWith pos f first (backTo pos (starEach (e::es) X.env)) (backToKw pos (keywordEach [] X.env))):=by rfl) :
    PEF X (.Call (.Attribute o m apos) (e::es) [] pos) (Ar C m n F fo g):=
  PE.imp (Aer (pl:=pl) ho T.cl hm hF hr hb .nil Wy ha hst hpl ht) (Tu T)
theorem G7{pl:Sem Bool}(T:ClsF X.K C Ca)(hm:Meth X.K Ca m fa)(hF:FnOk X.prog X.w X.K X.mg X.base CX0 k fa fd ps (spF X.K n F))(hr:Room k X.A)(hb:Binds X.K fd ps [])(ho:PEF X o fo)
    (ht:eval (.Call (.Attribute o m apos) [] [] pos) X.env=(do
      let ov ← eval o X.env
      standAt apos.atName
      let (f,first) ← holding [ov] (getMethod ov m pl)
      callWith pos f first (backTo pos (starEach [] X.env)) (backToKw pos (keywordEach [] X.env))):=by rfl) :
    PEF X (.Call (.Attribute o m apos) [] [] pos) (Ar C m n F fo Ag):=
  PE.imp (Aa4 (pl:=pl) ho T.cl hm hF hr hb .nil Wy ht) (fun σ H Q h=>by
    have h:=Tu (E:=E0) T σ H Q h
    obtain ⟨α,δ,L,A,S,u,L1,e1,h⟩:=h
    refine ⟨α,δ,L,A,S,u,L1,e1,fun x H1 α1 g1 A1 r1=>?_⟩
    obtain ⟨a,dx,vs,hx,ha,hl,α2,δ2,L2,A2,S2,us,L3,e3,h3⟩:=h x H1 α1 g1 A1 r1
    cases e3
    exact ⟨a,dx,vs,hx,ha,hl,h3 [] H1 α2 (.refl _ _) A2 .nil⟩)
noncomputable def O9(C:Str)(k:Nat)(F:FN)(g:FA):FE:=fun δ L=>(g δ L).bind fun p=>if p.1.length+1=k then (F (.ref p.2.length::p.1) (p.2++[.ins C []])).bind fun q=>match q.1 with | .non=>some (.ref p.2.length,q.2) | _=>none else none
theorem Acr{K:PySem.W.Frag}{E:XK}(hns:PySem.W.nsIn K mainGlobals C=some (some (.ref Ca))):∀ σ H Q,lE K (O9 C n F g) σ H Q→Afk Ca (spF K n F) [] E (lA K g) σ H Q:=by
  rintro σ H Q ⟨α,δ,L,A,S,z,L3,ee,q⟩
  obtain ⟨⟨us,L1⟩,e1,ee⟩:=Option.bind_eq_some_iff.mp ee
  simp only at ee
  split at ee
  · rename_i hlen
    obtain ⟨⟨w,L2⟩,e2,ee⟩:=Option.bind_eq_some_iff.mp ee
    cases w with
    | non=>
      cases ee
      refine ⟨α,δ,L,A,S,us,L1,e1,fun xs H1 α1 g1 A1 r1 x dx nx ndx nex=>?_⟩
      have ga:Gr H1 α1 (upd H1 dx (.own x)) α1:=⟨⟨[],by simp⟩,.new ndx _⟩
      have Aa:Abs K (upd H1 dx (.own x)) α1 L1:=⟨A1.len,A1.inj,fun i a o e1 e2=>(A1.rep i a o e1 e2).other ga (.inr fun u q=>by rw[Ba (Bk q ndx)];exact q)⟩
      have nx':(upd H1 dx (.own x)) x=none:=by rw[Ba (Ne.symm nex)];exact nx
      obtain ⟨Ab,gb⟩:=Aa.new (o:=.ins Ca dx []) (u:=.ins C []) nx' ⟨Ca,dx,[],hns,upd_same,rfl,.nil⟩
      have rx:RepU K (upd (upd H1 dx (.own x)) x (.ins Ca dx [])) (α1++[x]) (.ref L1.length) (.ref x):=by
        unfold RepU
        exact ⟨x,by rw[← A1.len];simp,rfl⟩
      refine ⟨α1++[x],L1++[.ins C []],.ref L1.length::us,Ab,?_,by simpa using hlen,.non,L2,e2,fun v H3 α3 g3 A3 r3=>?_⟩
      · rw[List.append_nil]
        exact .cons rx ((r1.mono ga).mono gb)
      · have hv:v = .non:=by unfold RepU at r3;exact r3
        exact ⟨hv,q _ H3 α3 (g1.trans (ga.trans (gb.trans g3))) A3 (rx.mono g3)⟩
    | _=>cases ee
  · cases ee
theorem Wx(hns:PySem.W.nsIn X.K mainGlobals C=some (some (.ref Ca)))(M:Mk X.K Ca fa)(hF:FnOk X.prog X.w X.K X.mg X.base CX0 k fa fd ps (spF X.K n F))(hr:Room (k+1) X.A)(hg:Gl X C)(hm:X.mg C=some (.ref Ca))(hb:Binds X.K fd ps [])
    (ha:PAF X (e::es) g) (hdb:(C == ("__debug__" : Str))=false:=by decide) (he:starEach (e::es) X.env=(false,eval e X.env)::starEach es X.env:=by rfl) (hpl:(backTo pos (starEach es X.env)).any (·.1)=false:=by rfl) :
    PEF X (.Call (.Name C p) (e::es) [] pos) (O9 C n F g):=
  PE.imp (Adr M hF hr hg hm hb .nil Wy ha hdb he hpl) (Acr hns)
end
end MR
namespace ZT
open PySem PySem.Spec PyProof.Rows
open Sem (wp)
noncomputable def SqK(b:Bool)(h:Heap)(l:Addr)(xs:Array Value):Prop:=match b with
  | true=>h.IsList l xs
  | false=>h.IsTuple l xs
noncomputable def ItK(b:Bool)(h:Heap)(jt l:Addr)(k:Nat):Prop:=match b with
  | true=>h.IsListIter jt l k
  | false=>h.IsTupleIter jt l k
theorem SqK.keep{b:Bool}{h h':Heap}{l:Addr}{xs:Array Value}(x:SqK b h l xs)(e:∀ o,h.get? l=some o→h'.get? l=some o):SqK b h' l xs:=by
  cases b with
  | true=>obtain ⟨o,ho,r⟩:=x;exact ⟨o,e _ ho,r⟩
  | false=>obtain ⟨o,ho,r⟩:=x;exact ⟨o,e _ ho,r⟩
theorem ItK.keep{b:Bool}{h h':Heap}{jt l:Addr}{k:Nat}(x:ItK b h jt l k)(e:∀ o,h.get? jt=some o→h'.get? jt=some o):ItK b h' jt l k:=by
  cases b with
  | true=>obtain ⟨o,ho,r⟩:=x;exact ⟨o,e _ ho,r⟩
  | false=>obtain ⟨o,ho,r⟩:=x;exact ⟨o,e _ ho,r⟩
theorem ItK.lt{b:Bool}{h:Heap}{jt l:Addr}{k:Nat}(x:ItK b h jt l k):jt < h.objs.size:=by
  cases b with
  | true=>obtain ⟨o,ho,r⟩:=x;exact Heap.lt_size ho
  | false=>obtain ⟨o,ho,r⟩:=x;exact Heap.lt_size ho
theorem ItK.obj{b:Bool}{h:Heap}{jt l:Addr}{k:Nat}(x:ItK b h jt l k):∃ o,h.get? jt=some o∧o.data = .fields #[.ref l,.int k 0]:=by
  cases b with
  | true=>obtain ⟨o,ho,_,r⟩:=x;exact ⟨o,ho,r⟩
  | false=>obtain ⟨o,ho,_,r⟩:=x;exact ⟨o,ho,r⟩
section
variable {prog:Program}{w:World}{A:Around}{E:Value→Shared→Prop}{s:Shared}
theorem Ti{jt t:Addr}{k:Nat}{its:Array Value}{v:Value}{Q:Value→Shared→Prop}(hj:s.heap.IsTupleIter jt t k)(ht:s.heap.IsTuple t its)(hv:its[k]? = some v)
    (hQ:∀ h',h'.IsTupleIter jt t (k+1)→Heap.SameBut jt s.heap h'→Q v { s with heap:=h' }):wpAny (model prog w) A (Builtin.SmallTypes.nextOf (.ref jt)) Q E s:=by
  obtain ⟨ob,hob,hcl,hda⟩:=id hj
  obtain ⟨ot,hot,_,nt,hdt⟩:=ht
  unfold Builtin.SmallTypes.nextOf
  refine wpAny_bind (wpAny_callSpecial?_slot (name:=Str.ofString "__next__") hj.typeIs F.slot_tuple_iterator_next (wpAny_call_entry F.slot_tuple_iterator_next hj.typeIs F.entry_tuple_iterator_next ?_ (F.args_tuple_iterator_next_1 _)))
  show wpAny _ _ (field (.ref jt) 0 >>= _) _ _ s
  refine wpAny_bind (wpAny_field hob hda (x:=.ref t) rfl ?_)
  show wpAny _ _ (if (Value.ref t == Value.none)=true then _ else _) _ _ s
  rw[if_neg (show ¬ ((Value.ref t == Value.none)=true) from (fun z=>Bool.false_ne_true z))]
  show wpAny _ _ (field (.ref jt) 1 >>= _) _ _ s
  refine wpAny_bind (wpAny_field hob hda (x:=.int k 0) rfl ?_)
  show wpAny _ _ (seqItems? (.ref t) >>= fun z=>_) _ _ s
  refine wpAny_bind (wpAny_seqItems hot hdt ?_)
  simp only[Int.toNat_natCast,hv]
  refine wpAny_bind (wpAny_setField hob hda (by simp) (wpAny_pure ⟨v,rfl,wpAny_pure (hQ _ ?_ (Heap.SameBut.update ..))⟩))
  exact ⟨_,Heap.get?_update_self _ hob (Obj.isFreed_of_fields (Obj.data_mapFields hda _)),(Obj.cls_mapFields ..).trans hcl,by rw[Obj.data_mapFields hda];simp[rawInt]⟩
theorem Ot{jt t:Addr}{k:Nat}{its:Array Value}{Q:Value→Shared→Prop}(hh:A.handled=none)(hj:s.heap.IsTupleIter jt t k)(ht:s.heap.IsTuple t its)(hv:its[k]? = none)
    (hE:∀ h' e,Heap.ExtBut jt s.heap h'→(∃ ob,h'.get? e=some ob∧ob.cls = .type "StopIteration")→E (.ref e) { s with heap:=h' }):wpAny (model prog w) A (Builtin.SmallTypes.nextOf (.ref jt)) Q E s:=by
  obtain ⟨ob,hob,hcl,hda⟩:=id hj
  obtain ⟨ot,hot,_,nt,hdt⟩:=ht
  unfold Builtin.SmallTypes.nextOf
  refine wpAny_bind (wpAny_callSpecial?_slot (name:=Str.ofString "__next__") hj.typeIs F.slot_tuple_iterator_next (wpAny_call_entry F.slot_tuple_iterator_next hj.typeIs F.entry_tuple_iterator_next ?_ (F.args_tuple_iterator_next_1 _)))
  show wpAny _ _ (field (.ref jt) 0 >>= _) _ _ s
  refine wpAny_bind (wpAny_field hob hda (x:=.ref t) rfl ?_)
  show wpAny _ _ (if (Value.ref t == Value.none)=true then _ else _) _ _ s
  rw[if_neg (show ¬ ((Value.ref t == Value.none)=true) from (fun z=>Bool.false_ne_true z))]
  show wpAny _ _ (field (.ref jt) 1 >>= _) _ _ s
  refine wpAny_bind (wpAny_field hob hda (x:=.int k 0) rfl ?_)
  show wpAny _ _ (seqItems? (.ref t) >>= fun z=>_) _ _ s
  refine wpAny_bind (wpAny_seqItems hot hdt ?_)
  simp only[Int.toNat_natCast,hv]
  refine wpAny_bind (wpAny_rule (wpAny_bind (wpAny_setField hob hda (by simp) ?_)))
  show wpAny _ _ (newExc (.type "StopIteration") [] >>= fun z=>_) _ _ _
  refine wpAny_bind ?_
  simp only[newExc,newTuple];refine wpAny_bind (wpAny_newObj_type ?_ (by size_fits))
  refine wpAny_bind (m:=firstArgMember _ _) (wpAny_of_eq (a:=Value.none) (by first | rfl | (simp only[firstArgMember];rfl)) (wpAny_newObj_type ?_ (by size_fits)))
  simp only[raiseNew];refine wpAny_bind (wpAny_handled ?_)
  first | rw[show A.in1.handled=none from hh] | (rw[hh])
  exact wpAny_bind (wpAny_pure (wpAny_throw (hE _ _ (((Heap.SameBut.update ..).extBut.push _).push _) ⟨_,Heap.get?_push_size _ rfl,rfl⟩)))
theorem U7{b:Bool}{jt l:Addr}{k:Nat}{its:Array Value}{v:Value}{Q:Value→Shared→Prop}(hj:ItK b s.heap jt l k)(hl:SqK b s.heap l its)(hv:its[k]? = some v)
    (hQ:∀ h',ItK b h' jt l (k+1)→Heap.SameBut jt s.heap h'→Q v { s with heap:=h' }):wpAny (model prog w) A (Builtin.SmallTypes.nextOf (.ref jt)) Q E s:=by
  cases b with
  | true=>exact wpAny_nextOf_list_item hj hl hv hQ
  | false=>exact Ti hj hl hv hQ
theorem Aar{b:Bool}{jt l:Addr}{k:Nat}{its:Array Value}{Q:Value→Shared→Prop}(hh:A.handled=none)(hj:ItK b s.heap jt l k)(hl:SqK b s.heap l its)(hv:its[k]? = none)
    (hE:∀ h' e,Heap.ExtBut jt s.heap h'→(∃ ob,h'.get? e=some ob∧ob.cls = .type "StopIteration")→E (.ref e) { s with heap:=h' }):wpAny (model prog w) A (Builtin.SmallTypes.nextOf (.ref jt)) Q E s:=by
  cases b with
  | true=>exact wpAny_nextOf_list_end hh hj hl hv hE
  | false=>exact Ot hh hj hl hv hE
theorem SqK.but{b:Bool}{h h':Heap}{l c:Addr}{xs:Array Value}(x:SqK b h l xs)(e:Heap.ExtBut c h h')(hne:l≠c):SqK b h' l xs:=x.keep fun o q=>e l o hne q
theorem ItK.but{b:Bool}{h h':Heap}{jt l c:Addr}{k:Nat}(x:ItK b h jt l k)(e:Heap.ExtBut c h h')(hne:jt≠c):ItK b h' jt l k:=x.keep fun o q=>e jt o hne q
variable {b1 b2:Bool}{z TI TO j1 j2 l1 l2:Addr}{k1 k2:Nat}{xs ys:Array Value}{a b:Value}
theorem Aet{x y:Value}{Q:Value→Shared→Prop}(D:ZipApart z TI TO j1 j2 l1 l2)(hz:IsZip s.heap z TI TO .none)(hI:IsPair s.heap TI (.ref j1) (.ref j2))(hO:IsPair s.heap TO a b)
    (h1:ItK b1 s.heap j1 l1 k1) (h2:ItK b2 s.heap j2 l2 k2) (g1:SqK b1 s.heap l1 xs) (g2:SqK b2 s.heap l2 ys) (hx:xs[k1]? = some x) (hy:ys[k2]? = some y)
    (hQ:∀ h',IsZip h' z TI TO (rawInt s.heap.objs.size)→IsPair h' TO x y→ItK b1 h' j1 l1 (k1+1)→ItK b2 h' j2 l2 (k2+1)→IsPair h' s.heap.objs.size x y→h'.objs.size=s.heap.objs.size+1 →
      (∀ c o,c≠z→c≠TO→c≠j1→c≠j2→s.heap.get? c=some o→h'.get? c=some o)→Q (.ref s.heap.objs.size) { s with heap:=h' }) :
    wpAny (model prog w) A (Builtin.«zip.__next__» ⟨[.ref z],[]⟩) (fun fin s'=>∃ v,fin = .done (.ret v)∧Q v s') E s:=by
  show wpAny _ _ (field (.ref z) 2 >>= fun q=>_) _ _ _
  refine wpAny_bind (wpAny_field hz rfl (x:=.bool false) rfl ?_);show wpAny _ _ (field (.ref z) 3 >>= _) _ _ _
  refine wpAny_bind (wpAny_field hz rfl (x:=.ref TI) rfl (wpAny_bind (wpAny_seqItems hI rfl ?_)))
  show wpAny _ _ (Builtin.SmallTypes.ownedTupleIsFree (.ref z) >>= fun q=>_) _ _ _
  refine wpAny_bind ?_;unfold Builtin.SmallTypes.ownedTupleIsFree
  refine wpAny_bind (wpAny_field hz rfl (x:=.none) rfl (wpAny_pure ?_));simp only[if_true]
  refine wpAny_bind (wpAny_rule (wpAny_bind (wpAny_field hz rfl (x:=.ref TO) rfl (wpAny_bind (wpAny_setField_rec hz (by simp) fun p1 z1 s1=>?_)))))
  replace z1:IsZip p1 z TI TO .ellipsis:=z1
  refine wpAny_bind ?_;simp only[List.zipIdx_cons,List.zipIdx_nil,List.forIn_cons,List.forIn_nil]
  refine wpAny_bind (wpAny_bind (wpAny_onRaise ?_));show wpAny _ _ (Builtin.SmallTypes.nextOf (.ref j1) >>= _) _ _ _
  refine wpAny_bind (U7 (h1.but s1.extBut D.i1z) (g1.but s1.extBut D.l1z) hx fun p2 i2 s2=>wpAny_pure ?_)
  have O2:IsPair p2 TO a b:=s2.extBut _ _ D.TOi1 (s1.extBut _ _ D.TOz hO)
  refine wpAny_bind (wpAny_seqItems O2 rfl (wpAny_bind (wpAny_updateSeq_pair O2 fun p3 O3 s3=>?_)))
  replace O3:IsPair p3 TO x b:=O3
  refine wpAny_bind (wpAny_letGo (wpAny_pure ?_));refine wpAny_bind (wpAny_bind (wpAny_onRaise ?_))
  show wpAny _ _ (Builtin.SmallTypes.nextOf (.ref j2) >>= fun q=>_) _ _ _
  refine wpAny_bind (U7 (((h2.but s1.extBut D.i2z).but s2.extBut D.i12.symm).but s3.extBut D.TOi2.symm) (((g2.but s1.extBut D.l2z).but s2.extBut D.l2i1).but s3.extBut D.l2TO) hy fun p4 i4 s4=>wpAny_pure ?_)
  have O4:IsPair p4 TO x b:=s4.extBut _ _ D.TOi2 O3
  refine wpAny_bind (wpAny_seqItems O4 rfl (wpAny_bind (wpAny_updateSeq_pair O4 fun p5 O5 s5=>?_)))
  replace O5:IsPair p5 TO x y:=O5
  refine wpAny_bind (wpAny_letGo (wpAny_pure (wpAny_pure ?_)));refine wpAny_bind (wpAny_seqItems O5 rfl (wpAny_bind (wpAny_newTuple ?_)))
  have hsz:p5.objs.size=s.heap.objs.size:=by rw[s5.1,s4.1,s3.1,s2.1,s1.1]
  have z5:IsZip p5 z TI TO .ellipsis:=s5.extBut _ _ D.TOz.symm (s4.extBut _ _ D.i2z.symm (s3.extBut _ _ D.TOz.symm (s2.extBut _ _ D.i1z.symm z1)))
  have k5:∀ c o,c≠z→c≠TO→c≠j1→c≠j2→s.heap.get? c=some o→p5.get? c=some o:=fun c o c1 c2 c3 c4 e=>s5.extBut _ _ c2 (s4.extBut _ _ c4 (s3.extBut _ _ c2 (s2.extBut _ _ c3 (s1.extBut _ _ c1 e))))
  have i15:ItK b1 p5 j1 l1 (k1+1):=((i2.but s3.extBut D.TOi1.symm).but s4.extBut D.i12).but s5.extBut D.TOi1.symm
  have i25:ItK b2 p5 j2 l2 (k2+1):=i4.but s5.extBut D.TOi2.symm
  have zlt:z < p5.objs.size:=Heap.lt_size z5
  show wpAny _ _ (Builtin.SmallTypes.ownedTupleHandOut (.ref z) (.ref p5.objs.size) >>= fun q=>_) _ _ _
  refine wpAny_bind ?_;unfold Builtin.SmallTypes.ownedTupleHandOut
  have z6:IsZip (p5.push { cls:=.type "tuple",data:=.seq #[x,y] }) z TI TO .ellipsis:=Heap.get?_push_of_some _ z5
  refine wpAny_bind (wpAny_setField_rec z6 (by simp) fun p7 z7 s7=>?_)
  replace z7:IsZip p7 z TI TO (rawInt p5.objs.size):=z7
  refine wpAny_setField_rec z7 (by simp) fun p8 z8 s8=>?_
  replace z8:IsZip p8 z TI TO (rawInt p5.objs.size):=z8
  have up:∀ c o,c≠z→p5.get? c=some o→p8.get? c=some o:=fun c o c1 e=>s8.extBut _ _ c1 (s7.extBut _ _ c1 (Heap.get?_push_of_some _ e))
  have t8:IsPair p8 p5.objs.size x y:=s8.extBut _ _ (Nat.ne_of_gt zlt) (s7.extBut _ _ (Nat.ne_of_gt zlt) (Heap.get?_push_size _ rfl))
  have e8:p8.objs.size=p5.objs.size+1:=by rw[s8.1,s7.1,Heap.size_push]
  rw[hsz] at z8 t8 e8
  refine wpAny_pure ⟨_,rfl,?_⟩
  show Q (.ref p5.objs.size) _
  rw[hsz]
  exact hQ p8 z8 (up _ _ D.TOz O5) (i15.keep fun o e=>up _ o D.i1z e) (i25.keep fun o e=>up _ o D.i2z e) t8 e8 fun c o c1 c2 c3 c4 e=>up c o c1 (k5 c o c1 c2 c3 c4 e)
theorem Aig{Q:Fin→Shared→Prop}(hh:A.handled=none)(D:ZipApart z TI TO j1 j2 l1 l2)(hz:IsZip s.heap z TI TO .none)(hI:IsPair s.heap TI (.ref j1) (.ref j2))(hO:IsPair s.heap TO a b)
    (h1:ItK b1 s.heap j1 l1 k1) (h2:ItK b2 s.heap j2 l2 k2) (g1:SqK b1 s.heap l1 xs) (g2:SqK b2 s.heap l2 ys) (hend:xs[k1]? = none∨ys[k2]? = none)
    (hE:∀ h' e,(∀ c o,c≠z→c≠TO→c≠j1→c≠j2→s.heap.get? c=some o→h'.get? c=some o)→(∃ ob,h'.get? e=some ob∧ob.cls = .type "StopIteration")→E (.ref e) { s with heap:=h' }) :
    wpAny (model prog w) A (Builtin.«zip.__next__» ⟨[.ref z],[]⟩) Q E s:=by
  show wpAny _ _ (field (.ref z) 2 >>= fun q=>_) _ _ _
  refine wpAny_bind (wpAny_field hz rfl (x:=.bool false) rfl ?_);show wpAny _ _ (field (.ref z) 3 >>= _) _ _ _
  refine wpAny_bind (wpAny_field hz rfl (x:=.ref TI) rfl (wpAny_bind (wpAny_seqItems hI rfl ?_)))
  show wpAny _ _ (Builtin.SmallTypes.ownedTupleIsFree (.ref z) >>= fun q=>_) _ _ _
  refine wpAny_bind ?_;unfold Builtin.SmallTypes.ownedTupleIsFree
  refine wpAny_bind (wpAny_field hz rfl (x:=.none) rfl (wpAny_pure ?_));simp only[if_true]
  refine wpAny_bind (wpAny_rule (wpAny_bind (wpAny_field hz rfl (x:=.ref TO) rfl (wpAny_bind (wpAny_setField_rec hz (by simp) fun p1 z1 s1=>?_)))))
  replace z1:IsZip p1 z TI TO .ellipsis:=z1
  refine wpAny_bind ?_;simp only[List.zipIdx_cons,List.zipIdx_nil,List.forIn_cons,List.forIn_nil]
  refine wpAny_bind (wpAny_bind (wpAny_onRaise ?_));show wpAny _ _ (Builtin.SmallTypes.nextOf (.ref j1) >>= _) _ _ _
  cases hx:xs[k1]? with
  | none=>
    refine wpAny_bind (Aar hh (h1.but s1.extBut D.i1z) (g1.but s1.extBut D.l1z) hx fun p2 e s2 he=>?_)
    obtain ⟨oe,hoe,hce⟩:=he
    have z2:IsZip p2 z TI TO .ellipsis:=s2 _ _ D.i1z.symm z1
    have hez:e≠z:=fun q=>by subst q;rw[z2] at hoe;cases hoe;simp at hce
    refine wpAny_setField_rec z2 (by simp) fun p3 _ s3=>hE p3 e (fun c o c1 _ c3 _ q=>s3.extBut _ _ c1 (s2 _ _ c3 (s1.extBut _ _ c1 q))) ⟨oe,s3.extBut _ _ hez hoe,hce⟩
  | some x=>
    have hy:ys[k2]? = none:=by rcases hend with h | h;(rw[hx] at h;cases h);exact h
    refine wpAny_bind (U7 (h1.but s1.extBut D.i1z) (g1.but s1.extBut D.l1z) hx fun p2 i2 s2=>wpAny_pure ?_)
    have O2:IsPair p2 TO a b:=s2.extBut _ _ D.TOi1 (s1.extBut _ _ D.TOz hO)
    refine wpAny_bind (wpAny_seqItems O2 rfl (wpAny_bind (wpAny_updateSeq_pair O2 fun p3 O3 s3=>?_)))
    refine wpAny_bind (wpAny_letGo (wpAny_pure ?_));refine wpAny_bind (wpAny_bind (wpAny_onRaise ?_))
    show wpAny _ _ (Builtin.SmallTypes.nextOf (.ref j2) >>= fun q=>_) _ _ _
    refine wpAny_bind (Aar hh (((h2.but s1.extBut D.i2z).but s2.extBut D.i12.symm).but s3.extBut D.TOi2.symm) (((g2.but s1.extBut D.l2z).but s2.extBut D.l2i1).but s3.extBut D.l2TO) hy fun p4 e s4 he=>?_)
    obtain ⟨oe,hoe,hce⟩:=he
    have z4:IsZip p4 z TI TO .ellipsis:=s4 _ _ D.i2z.symm (s3.extBut _ _ D.TOz.symm (s2.extBut _ _ D.i1z.symm z1))
    have hez:e≠z:=fun q=>by subst q;rw[z4] at hoe;cases hoe;simp at hce
    refine wpAny_setField_rec z4 (by simp) fun p5 _ s5=>hE p5 e (fun c o c1 c2 c3 c4 q=>s5.extBut _ _ c1 (s4 _ _ c4 (s3.extBut _ _ c2 (s2.extBut _ _ c3 (s1.extBut _ _ c1 q))))) ⟨oe,s5.extBut _ _ hez hoe,hce⟩
theorem Ade{x y:Value}{Q:Option Value→Shared→Prop}(D:ZipApart z TI TO j1 j2 l1 l2)(hz:IsZip s.heap z TI TO .none)(hI:IsPair s.heap TI (.ref j1) (.ref j2))(hO:IsPair s.heap TO a b)
    (h1:ItK b1 s.heap j1 l1 k1) (h2:ItK b2 s.heap j2 l2 k2) (g1:SqK b1 s.heap l1 xs) (g2:SqK b2 s.heap l2 ys) (hx:xs[k1]? = some x) (hy:ys[k2]? = some y)
    (hQ:∀ h',IsZip h' z TI TO (rawInt s.heap.objs.size)→IsPair h' TO x y→ItK b1 h' j1 l1 (k1+1)→ItK b2 h' j2 l2 (k2+1)→IsPair h' s.heap.objs.size x y→h'.objs.size=s.heap.objs.size+1 →
      (∀ c o,c≠z→c≠TO→c≠j1→c≠j2→s.heap.get? c=some o→h'.get? c=some o)→Q (some (.ref s.heap.objs.size)) { s with heap:=h' }) :
    wpAny (model prog w) A (pyNext (.ref z)) Q E s:=by
  have ty:s.TypeIs (.ref z) "zip" := ⟨_,hz,rfl⟩
  unfold pyNext
  exact wpAny_bind (wpAny_attempt (wpAny_callSpecial?_slot (name:=Str.ofString "__next__") ty F.slot_zip_next (wpAny_call_entry F.slot_zip_next ty F.entry_zip_next (Aet D hz hI hO h1 h2 g1 g2 hx hy fun h' q1 q2 q3 q4 q5 q6 q7=>wpAny_pure (hQ h' q1 q2 q3 q4 q5 q6 q7)) (F.args_zip_next_1 _))))
theorem Ahs{Q:Option Value→Shared→Prop}(hh:A.handled=none)(D:ZipApart z TI TO j1 j2 l1 l2)(hz:IsZip s.heap z TI TO .none)(hI:IsPair s.heap TI (.ref j1) (.ref j2))(hO:IsPair s.heap TO a b)
    (h1:ItK b1 s.heap j1 l1 k1) (h2:ItK b2 s.heap j2 l2 k2) (g1:SqK b1 s.heap l1 xs) (g2:SqK b2 s.heap l2 ys) (hend:xs[k1]? = none∨ys[k2]? = none)
    (hQ:∀ h',(∀ c o,c≠z→c≠TO→c≠j1→c≠j2→s.heap.get? c=some o→h'.get? c=some o)→Q none { s with heap:=h' }):wpAny (model prog w) A (pyNext (.ref z)) Q E s:=by
  have ty:s.TypeIs (.ref z) "zip" := ⟨_,hz,rfl⟩
  unfold pyNext
  refine wpAny_bind (wpAny_attempt (wpAny_callSpecial?_slot (name:=Str.ofString "__next__") ty F.slot_zip_next (wpAny_call_entry F.slot_zip_next ty F.entry_zip_next (Aig hh D hz hI hO h1 h2 g1 g2 hend fun h' e hk he=>?_) (F.args_zip_next_1 _))))
  obtain ⟨ob,hob,hcl⟩:=he
  exact wpAny_bind (wpAny_isInstance (T := "StopIteration") (b:=true) ⟨ob,hob,hcl⟩ isSubtype_stop (wpAny_pure (hQ _ hk)))
end
noncomputable abbrev zh1(c1:String)(h:Heap)(l1:Addr):Heap:=h.push { cls:=.type c1,data:=.fields #[.ref l1,.int 0 0] }
noncomputable abbrev zh2(c1 c2:String)(h:Heap)(l1 l2:Addr):Heap:=(zh1 c1 h l1).push { cls:=.type c2,data:=.fields #[.ref l2,.int 0 0] }
noncomputable abbrev zh3(c1 c2:String)(h:Heap)(l1 l2:Addr):Heap:=(zh2 c1 c2 h l1 l2).push { cls:=.type "tuple",data:=.seq #[.ref h.objs.size,.ref (zh1 c1 h l1).objs.size] }
noncomputable abbrev zh4(c1 c2:String)(h:Heap)(l1 l2:Addr):Heap:=(zh3 c1 c2 h l1 l2).push { cls:=.type "tuple",data:=.seq #[.none,.none] }
noncomputable abbrev zh5(c1 c2:String)(h:Heap)(l1 l2:Addr):Heap:=(zh4 c1 c2 h l1 l2).push { cls:=.type "zip",data:=.fields #[.none,.bool false,.bool false,.ref (zh2 c1 c2 h l1 l2).objs.size,.ref (zh3 c1 c2 h l1 l2).objs.size] }
theorem Agh (l1 l2 : Addr) (xs ys : Array Value) : Meets (Builtin.«zip.__new__» ⟨[.type "zip", .ref l1, .ref l2], []⟩) (fun _ R s => s.heap.IsTuple l1 xs ∧ s.heap.IsTuple l2 ys ∧
      R (.ok (.ret (.ref (zh4 "tuple_iterator" "tuple_iterator" s.heap l1 l2).objs.size))) { s with heap:=zh5 "tuple_iterator" "tuple_iterator" s.heap l1 l2 }):=
  .of_wp fun prog w A R s h=>by
    obtain ⟨hp,g,d,tk,os⟩:=s
    obtain ⟨t1,t2,h⟩:=h
    have hsub:=sub_zip
    have T1:Heap.IsTuple (Shared.heap ⟨hp,g,d,tk,os⟩) l1 xs:=t1
    have T2:Heap.IsTuple (Shared.heap ⟨hp.push { cls:=.type "tuple_iterator",data:=.fields #[.ref l1,.int 0 0] },g,d,tk,os⟩) l2 ys:=Heap.IsTuple.push t2 _
    wp_walk using wpAny_pyIter_tuple T1,wpAny_pyIter_tuple T2
    exact ⟨_,rfl,h⟩
theorem Ahx (l1 l2 : Addr) (xs ys : Array Value) : Meets (Builtin.«zip.__new__» ⟨[.type "zip", .ref l1, .ref l2], []⟩) (fun _ R s => s.heap.IsTuple l1 xs ∧ s.heap.IsList l2 ys ∧
      R (.ok (.ret (.ref (zh4 "tuple_iterator" "list_iterator" s.heap l1 l2).objs.size))) { s with heap:=zh5 "tuple_iterator" "list_iterator" s.heap l1 l2 }):=
  .of_wp fun prog w A R s h=>by
    obtain ⟨hp,g,d,tk,os⟩:=s
    obtain ⟨t1,t2,h⟩:=h
    have hsub:=sub_zip
    have T1:Heap.IsTuple (Shared.heap ⟨hp,g,d,tk,os⟩) l1 xs:=t1
    have T2:Heap.IsList (Shared.heap ⟨hp.push { cls:=.type "tuple_iterator",data:=.fields #[.ref l1,.int 0 0] },g,d,tk,os⟩) l2 ys:=Heap.IsList.push t2 _
    wp_walk using wpAny_pyIter_tuple T1,wpAny_pyIter_list T2
    exact ⟨_,rfl,h⟩
section
variable {prog:Program}{w:World}{A:Around}{E:Value→Shared→Prop}{s:Shared}
theorem Adi{l1 l2:Addr}{xs ys:Array Value}{Q:Value→Shared→Prop}(t1:s.heap.IsTuple l1 xs)(t2:s.heap.IsTuple l2 ys)
    (h:∀ h',IsZip h' (s.heap.objs.size+4) (s.heap.objs.size+2) (s.heap.objs.size+3) .none→IsPair h' (s.heap.objs.size+2) (.ref s.heap.objs.size) (.ref (s.heap.objs.size+1)) →
      IsPair h' (s.heap.objs.size+3) .none .none→ItK false h' s.heap.objs.size l1 0→ItK false h' (s.heap.objs.size+1) l2 0→(∀ c o,s.heap.get? c=some o→h'.get? c=some o)→Q (.ref (s.heap.objs.size+4)) { s with heap:=h' }) :
    wpAny (model prog w) A (call (.type "zip") [.ref l1,.ref l2]) Q E s:=by
  refine callType_new F.called_zip (by decide) (F.typeCall_zip_2 _ _) (F.newCall_zip_2 _ _) (fun obj=>F.args_object_init_3 obj _ _) F.entry_zip_new (Agh l1 l2 xs ys) ⟨t1,t2,?_⟩
  have z1:(zh1 "tuple_iterator" s.heap l1).objs.size=s.heap.objs.size+1:=Heap.size_push ..
  have z2:(zh2 "tuple_iterator" "tuple_iterator" s.heap l1 l2).objs.size=s.heap.objs.size+2:=by rw[Heap.size_push,z1]
  have z3:(zh3 "tuple_iterator" "tuple_iterator" s.heap l1 l2).objs.size=s.heap.objs.size+3:=by rw[Heap.size_push,z2]
  have z4:(zh4 "tuple_iterator" "tuple_iterator" s.heap l1 l2).objs.size=s.heap.objs.size+4:=by rw[Heap.size_push,z3]
  have q5:(zh5 "tuple_iterator" "tuple_iterator" s.heap l1 l2).get? (zh4 "tuple_iterator" "tuple_iterator" s.heap l1 l2).objs.size=some _:=Heap.get?_push_size _ rfl
  have q4:(zh5 "tuple_iterator" "tuple_iterator" s.heap l1 l2).get? (zh3 "tuple_iterator" "tuple_iterator" s.heap l1 l2).objs.size=some _:=Heap.get?_push_of_some _ (Heap.get?_push_size _ rfl)
  have q3:(zh5 "tuple_iterator" "tuple_iterator" s.heap l1 l2).get? (zh2 "tuple_iterator" "tuple_iterator" s.heap l1 l2).objs.size=some _:=Heap.get?_push_of_some _ (Heap.get?_push_of_some _ (Heap.get?_push_size _ rfl))
  have q2:(zh5 "tuple_iterator" "tuple_iterator" s.heap l1 l2).get? (zh1 "tuple_iterator" s.heap l1).objs.size=some _:=Heap.get?_push_of_some _ (Heap.get?_push_of_some _ (Heap.get?_push_of_some _ (Heap.get?_push_size _ rfl)))
  have q1:(zh5 "tuple_iterator" "tuple_iterator" s.heap l1 l2).get? s.heap.objs.size=some _:=Heap.get?_push_of_some _ (Heap.get?_push_of_some _ (Heap.get?_push_of_some _ (Heap.get?_push_of_some _ (Heap.get?_push_size _ rfl))))
  show _∧_
  rw[z2,z3,z4] at q5;rw[z1,z2] at q3;rw[z3] at q4
  rw[z1] at q2;rw[z4]
  exact ⟨⟨_,q5,rfl⟩,h _ q5 q3 q4 ⟨_,q1,rfl,rfl⟩ ⟨_,q2,rfl,rfl⟩ fun c o q=>Heap.get?_push_of_some _ (Heap.get?_push_of_some _ (Heap.get?_push_of_some _ (Heap.get?_push_of_some _ (Heap.get?_push_of_some _ q))))⟩
theorem Ad2{l1 l2:Addr}{xs ys:Array Value}{Q:Value→Shared→Prop}(t1:s.heap.IsTuple l1 xs)(t2:s.heap.IsList l2 ys)
    (h:∀ h',IsZip h' (s.heap.objs.size+4) (s.heap.objs.size+2) (s.heap.objs.size+3) .none→IsPair h' (s.heap.objs.size+2) (.ref s.heap.objs.size) (.ref (s.heap.objs.size+1)) →
      IsPair h' (s.heap.objs.size+3) .none .none→ItK false h' s.heap.objs.size l1 0→ItK true h' (s.heap.objs.size+1) l2 0→(∀ c o,s.heap.get? c=some o→h'.get? c=some o)→Q (.ref (s.heap.objs.size+4)) { s with heap:=h' }) :
    wpAny (model prog w) A (call (.type "zip") [.ref l1,.ref l2]) Q E s:=by
  refine callType_new F.called_zip (by decide) (F.typeCall_zip_2 _ _) (F.newCall_zip_2 _ _) (fun obj=>F.args_object_init_3 obj _ _) F.entry_zip_new (Ahx l1 l2 xs ys) ⟨t1,t2,?_⟩
  have z1:(zh1 "tuple_iterator" s.heap l1).objs.size=s.heap.objs.size+1:=Heap.size_push ..
  have z2:(zh2 "tuple_iterator" "list_iterator" s.heap l1 l2).objs.size=s.heap.objs.size+2:=by rw[Heap.size_push,z1]
  have z3:(zh3 "tuple_iterator" "list_iterator" s.heap l1 l2).objs.size=s.heap.objs.size+3:=by rw[Heap.size_push,z2]
  have z4:(zh4 "tuple_iterator" "list_iterator" s.heap l1 l2).objs.size=s.heap.objs.size+4:=by rw[Heap.size_push,z3]
  have q5:(zh5 "tuple_iterator" "list_iterator" s.heap l1 l2).get? (zh4 "tuple_iterator" "list_iterator" s.heap l1 l2).objs.size=some _:=Heap.get?_push_size _ rfl
  have q4:(zh5 "tuple_iterator" "list_iterator" s.heap l1 l2).get? (zh3 "tuple_iterator" "list_iterator" s.heap l1 l2).objs.size=some _:=Heap.get?_push_of_some _ (Heap.get?_push_size _ rfl)
  have q3:(zh5 "tuple_iterator" "list_iterator" s.heap l1 l2).get? (zh2 "tuple_iterator" "list_iterator" s.heap l1 l2).objs.size=some _:=Heap.get?_push_of_some _ (Heap.get?_push_of_some _ (Heap.get?_push_size _ rfl))
  have q2:(zh5 "tuple_iterator" "list_iterator" s.heap l1 l2).get? (zh1 "tuple_iterator" s.heap l1).objs.size=some _:=Heap.get?_push_of_some _ (Heap.get?_push_of_some _ (Heap.get?_push_of_some _ (Heap.get?_push_size _ rfl)))
  have q1:(zh5 "tuple_iterator" "list_iterator" s.heap l1 l2).get? s.heap.objs.size=some _:=Heap.get?_push_of_some _ (Heap.get?_push_of_some _ (Heap.get?_push_of_some _ (Heap.get?_push_of_some _ (Heap.get?_push_size _ rfl))))
  show _∧_
  rw[z2,z3,z4] at q5;rw[z1,z2] at q3;rw[z3] at q4
  rw[z1] at q2;rw[z4]
  exact ⟨⟨_,q5,rfl⟩,h _ q5 q3 q4 ⟨_,q1,rfl,rfl⟩ ⟨_,q2,rfl,rfl⟩ fun c o q=>Heap.get?_push_of_some _ (Heap.get?_push_of_some _ (Heap.get?_push_of_some _ (Heap.get?_push_of_some _ (Heap.get?_push_of_some _ q))))⟩
end
end ZT
namespace MR
open PySem PySem.Spec PyProof.Rows L2
noncomputable def SK(bb:Bool)(K:PySem.W.Frag)(H:Hp)(a:Addr)(xs:List V):Prop:=match bb with
  | true=>SqL K H a xs
  | false=>SqT K H a xs
theorem SK.at{X:Cx}{pins:List (Addr×Obj)}{σ:L2.St}{H:Hp}{s:Shared}{bb:Bool}{a:Addr}{xs:List V}(I:L2.Inv X pins σ H s)(h:SK bb X.K H a xs):∃ its:List Value,Vals xs its∧ZT.SqK bb s.heap a its.toArray∧xs.length≤sizeLine:=by
  cases bb with
  | true=>obtain ⟨its,r,p,z⟩:=I.list h;exact ⟨its,r,p.isList,z⟩
  | false=>obtain ⟨its,r,p,z⟩:=I.tuple h;exact ⟨its,r,p,z⟩
theorem SK.inj{X:Cx}{pins:List (Addr×Obj)}{σ:L2.St}{H:Hp}{s:Shared}{bb:Bool}{a:Addr}{xs ys:List V}(I:L2.Inv X pins σ H s)(h:SK bb X.K H a xs)(h':SK bb X.K H a ys):xs=ys:=by
  cases bb with
  | true=>exact I.list_inj h h'
  | false=>exact I.tuple_inj h h'
noncomputable def Y7(b1 b2:Bool)(K:PySem.W.Frag)(a b:Addr):It:=
  ⟨fun i H=>∃ xs ys x y,SK b1 K H a xs∧SK b2 K H b ys∧xs[i]? = some x∧ys[i]? = some y,fun i H z H'=>∃ p x y,H p=none∧z = .ref p∧H'=upd H p (.tup [x,y])∧(∀ xs,SK b1 K H a xs→xs[i]? = some x)∧∀ ys,SK b2 K H b ys→ys[i]? = some y,
    fun i H=>∃ xs ys,SK b1 K H a xs∧SK b2 K H b ys∧(xs.length≤i∨ys.length≤i)⟩
theorem Qg{b1 b2:Bool}{P:Program}{w:World}{K:PySem.W.Frag}{elts:List Expr}{x1}{pos:Pos}(a b z TI TO i1 i2:Addr)(D:ZipApart z TI TO i1 i2 a b):Turn P w K (.Tuple elts x1 pos) (Y7 b1 b2 K a b) [z,TI,TO,i1,i2] z
    (fun i h=>IsZip h z TI TO .none∧IsPair h TI (.ref i1) (.ref i2)∧(∃ u v,IsPair h TO u v)∧ZT.ItK b1 h i1 a i∧ZT.ItK b2 h i2 b i) where
  mem:=by simp
  obj:=fun i h st c hb=>by
    obtain ⟨h1,h2,⟨u,v,h3⟩,h4',h5'⟩:=st
    obtain ⟨o4,h4,d4⟩:=h4'.obj
    obtain ⟨o5,h5,d5⟩:=h5'.obj
    simp only[List.mem_cons,List.not_mem_nil,or_false] at hb
    rcases hb with rfl | rfl | rfl | rfl | rfl
    · exact ⟨_,h1,fun v z=>by simp at z⟩
    · exact ⟨_,h2,fun v z=>by simp at z⟩
    · exact ⟨_,h3,fun v z=>by simp at z⟩
    · exact ⟨_,h4,fun v z=>by rw[d4] at z;cases z⟩
    · exact ⟨_,h5,fun v z=>by rw[d5] at z;cases z⟩
  keep:=fun i h h' st k=>by
    obtain ⟨h1,h2,⟨u,v,h3⟩,h4,h5⟩:=st
    exact ⟨k z (by simp) _ h1,k TI (by simp) _ h2,⟨u,v,k TO (by simp) _ h3⟩,h4.keep (k i1 (by simp)),h5.keep (k i2 (by simp))⟩
  item:=by
    intro X hP hw hK hc i pins s σ H E I hf st hg
    subst hP hw hK
    obtain ⟨h1,h2,⟨u0,v0,h3⟩,h4,h5⟩:=st
    obtain ⟨xs,ys,x,y,sq1,sq2,hx,hy⟩:=hg
    obtain ⟨its1,hv1,pl1,hz1⟩:=SK.at I sq1
    obtain ⟨its2,hv2,pl2,hz2⟩:=SK.at I sq2
    obtain ⟨u,hu,r⟩:=hv1.get hx
    obtain ⟨u',hu',r'⟩:=hv2.get hy
    refine ZT.Ade D h1 h2 h3 h4 h5 pl1 pl2 (by simpa using hu) (by simpa using hu') fun h' o1 o2 o3 o4 o5 o6 o7=>?_
    refine ⟨_,rfl,?_⟩
    have hfr:H s.heap.objs.size=none:=I.hok.fresh (Nat.le_refl _)
    have I1:L2.Inv X pins σ (upd H s.heap.objs.size (.tup [x,y])) { s with heap:=h',toks:=s.toks }:=
      Inv.turnNew (ch:=[z,TI,TO,i1,i2]) I hf (fun c o hb q=>o7 c o (fun z=>hb (by simp[z])) (fun z=>hb (by simp[z])) (fun z=>hb (by simp[z])) (fun z=>hb (by simp[z])) q) (Nat.le_refl _)
        (show ObjOk X.prog X.w _ h' _ (.tup [x,y]) from ⟨by show 2≤sizeLine;decide,[u,u'],.cons r (.cons r' .nil),⟨_,o5,rfl,_,rfl⟩⟩)
    refine wpAny_letOwnedTupleGo_zip o1 fun h9 e2 sb2=>?_
    have hlt:∀ c∈[z,TI,TO,i1,i2],c < s.heap.objs.size:=fun c hb=>by
      simp only[List.mem_cons,List.not_mem_nil,or_false] at hb
      rcases hb with rfl | rfl | rfl | rfl | rfl
      · exact Heap.lt_size h1
      · exact Heap.lt_size h2
      · exact Heap.lt_size h3
      · exact h4.lt
      · exact h5.lt
    have hnone:∀ c∈[z,TI,TO,i1,i2],(upd H s.heap.objs.size (.tup [x,y])) c=none:=fun c hb=>by rw[Ba (Nat.ne_of_lt (hlt c hb))];exact (hf c hb).1
    obtain ⟨f0,f1,f2,f3,f4,f5⟩:=hf z (by simp)
    have I2:=I1.turned (t':=s.toks) (h':=h9) (it:=z) (fun c o hb q=>sb2.2 c hb |>.trans q) (hnone z (by simp)) f1 f3 f4 f5
    have hTI:IsPair h' TI (.ref i1) (.ref i2):=o7 TI _ D.TIz D.TITO D.TIi1 D.TIi2 h2
    refine ⟨.ref s.heap.objs.size,_,I2,rfl,⟨_,x,y,hfr,rfl,rfl,fun ys sq'=>?_,fun ys sq'=>?_⟩,⟨e2,(sb2.2 TI D.TIz).trans hTI,⟨_,_,(sb2.2 TO D.TOz).trans o2⟩,o3.keep (fun o q=>(sb2.2 i1 D.i1z).trans q),o4.keep (fun o q=>(sb2.2 i2 D.i2z).trans q)⟩,hnone⟩
    · rw[SK.inj I sq' sq1];exact hx
    · rw[SK.inj I sq' sq2];exact hy
  done:=by
    intro X hP hw hK hc i pins s σ H E I hf st hg
    subst hP hw hK
    obtain ⟨h1,h2,⟨u0,v0,h3⟩,h4,h5⟩:=st
    obtain ⟨xs,ys,sq1,sq2,hx⟩:=hg
    obtain ⟨its1,hv1,pl1,hz1⟩:=SK.at I sq1
    obtain ⟨its2,hv2,pl2,hz2⟩:=SK.at I sq2
    have hl1:=hv1.length
    have hl2:=hv2.length
    refine ZT.Ahs (I.ok.hd hc) D h1 h2 h3 h4 h5 pl1 pl2 (by simp;omega) fun h' k=>⟨rfl,?_⟩
    have nch:∀ b u,H b=some u→b∉[z,TI,TO,i1,i2]:=fun b u e hb=>by rw[(hf b hb).1] at e;cases e
    have k':∀ b o,b∉[z,TI,TO,i1,i2]→s.heap.get? b=some o→h'.get? b=some o:=fun c o hb q=>k c o (fun z=>hb (by simp[z])) (fun z=>hb (by simp[z])) (fun z=>hb (by simp[z])) (fun z=>hb (by simp[z])) q
    refine I.step (g':=s.gens) (d':=s.drawn) (t':=s.toks) (ch:=[z,TI,TO,i1,i2]) (fun b hb=>?_) (fun b o _ _ hc e _=>k' b o hc e) (fun b o _ _ hc e _=>⟨o.slots,k' b o hc e⟩) (fun _ _ _ _ n=>n) (fun b u hc e=>⟨u,k' b u hc e⟩) (fun _ _ e=>e) (fun _ _ _ e=>e) (fun b ps e=>⟨#[],by rw[e];simp⟩) (fun m hm=>?_) (fun b u e=>?_) I.bare
    · obtain ⟨_,f1,_,f3,f4,f5⟩:=hf b hb
      exact ⟨f3,f1,f4,f5⟩
    · obtain ⟨o1,es,ep,ho,r⟩:=hm
      exact ⟨o1,es,ep,k' _ o1 (fun z=>(hf _ z).2.1 rfl) ho,r⟩
    · refine (I.hok b u e).stay (fun c v hc q=>k' c v ?_ q) (fun _ q=>q) fun _ _ q=>q
      rcases hc with z | z
      · rw[z];exact nch b u e
      · exact nch c _ z
  self:=fun _ _ _ _ _ st h=>wpAny_pyIter_zip st.1 h
section
variable {X:Cx}{elts:List Expr}{x1:Nat}{tpos:Pos}
noncomputable def Ajc(K:PySem.W.Frag)(ta:TA):TI:=fun σ H R=>ta σ H fun vs H1=>∃ a b xs ys,vs=[.ref a,.ref b]∧SqT K H1 a xs∧SqT K H1 b ys∧R (Y7 false false K a b) H1
theorem Aea{a b:Expr}{ta:TA}{p pos:Pos}(hg:Gl X "zip")(hm:X.mg "zip" = none)(ha:PA X [a,b] ta)(hs:starEach [a,b] X.env=(false,eval a X.env)::starEach [b] X.env:=by rfl)(hpl:(backTo pos (starEach [b] X.env)).any (·.1)=false:=by rfl):PI X (.Tuple elts x1 tpos) (.Call (.Name "zip" p) [a,b] [] pos) (Ajc X.K ta):=by
  intro pins s σ H R I h
  refine Call_ (Gg I hg hm Tk (PyProof.Rows.callWith_type1 (thn (ha pos pins s σ H _ I h) fun us s1 ⟨vs,H1,I1,r1,q1⟩=>?_) hs hpl))
  obtain ⟨l1,l2,xs,ys,rfl,sq1,sq2,q⟩:=q1
  obtain ⟨u,u',rfl,ru,ru'⟩:=Wf r1
  cases ru;cases ru'
  obtain ⟨its1,hv1,pl1,hz1⟩:=I1.tuple sq1
  obtain ⟨its2,hv2,pl2,hz2⟩:=I1.tuple sq2
  have lt1:l1 < s1.heap.objs.size:=by obtain ⟨o,e,_⟩:=pl1;exact Heap.lt_size e
  have lt2:l2 < s1.heap.objs.size:=by obtain ⟨o,e,_⟩:=pl2;exact Heap.lt_size e
  refine ZT.Adi pl1 pl2 fun h' o1 o2 o3 o4 o5 o7=>?_
  have I2:L2.Inv X pins σ H1 { s1 with heap:=h' }:=I1.kept (t':=s1.toks) o7
  refine wpAny_pyIter_zip o1 ⟨_,_,_,_,H1,rfl,I2,Qg (b1:=false) (b2:=false) l1 l2 _ _ _ _ _ (Qe _ _ _ lt1 lt2),⟨o1,o2,⟨_,_,o3⟩,o4,o5⟩,fun b hb=>?_,q⟩
  have hb':s1.heap.objs.size≤b:=by
    simp only[List.mem_cons,List.not_mem_nil,or_false] at hb
    rcases hb with rfl | rfl | rfl | rfl | rfl <;> first | exact Nat.le_add_right _ _ | exact Nat.le_refl _
  exact L2.Inv.fpOk I1 hb' (I1.hok.fresh hb')
noncomputable def Ai5(K:PySem.W.Frag)(ta:TA):TI:=fun σ H R=>ta σ H fun vs H1=>∃ a b xs ys,vs=[.ref a,.ref b]∧SqT K H1 a xs∧SqL K H1 b ys∧R (Y7 false true K a b) H1
theorem Adl{a b:Expr}{ta:TA}{p pos:Pos}(hg:Gl X "zip")(hm:X.mg "zip" = none)(ha:PA X [a,b] ta)(hs:starEach [a,b] X.env=(false,eval a X.env)::starEach [b] X.env:=by rfl)(hpl:(backTo pos (starEach [b] X.env)).any (·.1)=false:=by rfl):PI X (.Tuple elts x1 tpos) (.Call (.Name "zip" p) [a,b] [] pos) (Ai5 X.K ta):=by
  intro pins s σ H R I h
  refine Call_ (Gg I hg hm Tk (PyProof.Rows.callWith_type1 (thn (ha pos pins s σ H _ I h) fun us s1 ⟨vs,H1,I1,r1,q1⟩=>?_) hs hpl))
  obtain ⟨l1,l2,xs,ys,rfl,sq1,sq2,q⟩:=q1
  obtain ⟨u,u',rfl,ru,ru'⟩:=Wf r1
  cases ru;cases ru'
  obtain ⟨its1,hv1,pl1,hz1⟩:=I1.tuple sq1
  obtain ⟨its2,hv2,pl2,hz2⟩:=I1.list sq2
  have lt1:l1 < s1.heap.objs.size:=by obtain ⟨o,e,_⟩:=pl1;exact Heap.lt_size e
  have lt2:l2 < s1.heap.objs.size:=by obtain ⟨o,_,e,_⟩:=pl2;exact Heap.lt_size e
  refine ZT.Ad2 pl1 pl2.isList fun h' o1 o2 o3 o4 o5 o7=>?_
  have I2:L2.Inv X pins σ H1 { s1 with heap:=h' }:=I1.kept (t':=s1.toks) o7
  refine wpAny_pyIter_zip o1 ⟨_,_,_,_,H1,rfl,I2,Qg (b1:=false) (b2:=true) l1 l2 _ _ _ _ _ (Qe _ _ _ lt1 lt2),⟨o1,o2,⟨_,_,o3⟩,o4,o5⟩,fun b hb=>?_,q⟩
  have hb':s1.heap.objs.size≤b:=by
    simp only[List.mem_cons,List.not_mem_nil,or_false] at hb
    rcases hb with rfl | rfl | rfl | rfl | rfl <;> first | exact Nat.le_add_right _ _ | exact Nat.le_refl _
  exact L2.Inv.fpOk I1 hb' (I1.hok.fresh hb')
noncomputable def J2(us ws:List U):List U:=(us.zip ws).map fun p=>.tup [p.1,p.2]
theorem Ox(us ws:List U)(k:Nat):(J2 us ws)[k]? = Jl us[k]? ws[k]?:=by
  unfold J2
  rw[List.getElem?_map,List.zip,List.getElem?_zipWith]
  cases us[k]? <;> cases ws[k]? <;> rfl
theorem Y2{K:PySem.W.Frag}{H:Hp}{α:List Addr}{a b:Addr}{us ws:List U}{xs ys:List V}(sa:SqT K H a xs)(sb:SqT K H b ys)(ra:RepL K H α us xs)(rb:RepL K H α ws ys):Mb K (Y7 false false K a b) (.seq (J2 us ws)) H α:=by
  intro H2 α2 L2 g A2 k
  have mv:∀ (c:Addr) (vs:List U) (zs:List V),SqT K H c zs→RepL K H α vs zs→∃ zs2,SqT K H2 c zs2∧RepL K H2 α2 vs zs2:=fun c vs zs s r=>by
    have m:=(show RepU K H α (.tup vs) (.ref c) by unfold RepU;exact ⟨c,zs,rfl,s,r⟩).mono g
    unfold RepU at m
    obtain ⟨c',zs2,e,s2,r2⟩:=m
    cases e
    exact ⟨zs2,s2,r2⟩
  obtain ⟨xs2,sa2,ra2⟩:=mv a us xs sa ra
  obtain ⟨ys2,sb2,rb2⟩:=mv b ws ys sb rb
  refine ⟨fun u eu=>?_,fun eu=>?_⟩
  · have eu:(J2 us ws)[k]? = some u:=by simpa[IU.at] using eu
    rw[Ox] at eu
    cases h1:us[k]? with
    | none=>rw[h1] at eu;simp[Jl] at eu
    | some u1=>
      cases h2:ws[k]? with
      | none=>rw[h1,h2] at eu;simp[Jl] at eu
      | some u2=>
        rw[h1,h2] at eu
        simp[Jl] at eu
        subst eu
        obtain ⟨x,hx,rx⟩:=ra2.get h1
        obtain ⟨y,hy,ry⟩:=rb2.get h2
        refine ⟨⟨xs2,ys2,x,y,sa2,sb2,hx,hy⟩,?_⟩
        rintro z H3 ⟨p,v,v',hp,rfl,rfl,hy1,hy2⟩
        have e1:=hy1 xs2 sa2
        have e2:=hy2 ys2 sb2
        rw[hx] at e1;cases e1
        rw[hy] at e2;cases e2
        exact A2.tup (.cons rx (.cons ry .nil)) hp
  · have eu:(J2 us ws)[k]? = none:=by simpa[IU.at] using eu
    rw[Ox] at eu
    refine ⟨xs2,ys2,sa2,sb2,?_⟩
    cases h1:us[k]? with
    | none=>left;rw[← ra2.length];exact List.getElem?_eq_none_iff.mp h1
    | some u1=>
      cases h2:ws[k]? with
      | none=>right;rw[← rb2.length];exact List.getElem?_eq_none_iff.mp h2
      | some u2=>rw[h1,h2] at eu;simp[Jl] at eu
theorem Abh{K:PySem.W.Frag}{H:Hp}{α:List Addr}{m:Nat}{a b:Addr}{us:List U}{xs:List V}(sa:SqT K H a xs)(ra:RepL K H α us xs)(eb:α[m]? = some b):Mb K (Y7 false true K a b) (.zipT us m) H α:=by
  intro H2 α2 L2 g A2 k
  have eb2:=g.at eb
  have mv:∃ zs2,SqT K H2 a zs2∧RepL K H2 α2 us zs2:=by
    have m:=(show RepU K H α (.tup us) (.ref a) by unfold RepU;exact ⟨a,xs,rfl,sa,ra⟩).mono g
    unfold RepU at m
    obtain ⟨c',zs2,e,s2,r2⟩:=m
    cases e
    exact ⟨zs2,s2,r2⟩
  obtain ⟨xs2,sa2,ra2⟩:=mv
  refine ⟨fun u eu=>?_,fun eu=>?_⟩
  · obtain ⟨ws,hw,eu⟩:=Option.map_eq_some_iff.mp eu
    obtain ⟨ys2,sb2,rb2⟩:=Jg A2 eb2 hw
    cases h1:us[k]? with
    | none=>rw[h1] at eu;simp[Jl] at eu
    | some u1=>
      cases h2:ws[k]? with
      | none=>rw[h1,h2] at eu;simp[Jl] at eu
      | some u2=>
        rw[h1,h2] at eu
        simp[Jl] at eu
        subst eu
        obtain ⟨x,hx,rx⟩:=ra2.get h1
        obtain ⟨y,hy,ry⟩:=rb2.get h2
        refine ⟨⟨xs2,ys2,x,y,sa2,sb2,hx,hy⟩,?_⟩
        rintro z H3 ⟨p,v,v',hp,rfl,rfl,hy1,hy2⟩
        have e1:=hy1 xs2 sa2
        have e2:=hy2 ys2 sb2
        rw[hx] at e1;cases e1
        rw[hy] at e2;cases e2
        exact A2.tup (.cons rx (.cons ry .nil)) hp
  · obtain ⟨ws,hw,eu⟩:=Option.map_eq_some_iff.mp eu
    obtain ⟨ys2,sb2,rb2⟩:=Jg A2 eb2 hw
    refine ⟨xs2,ys2,sa2,sb2,?_⟩
    cases h1:us[k]? with
    | none=>left;rw[← ra2.length];exact List.getElem?_eq_none_iff.mp h1
    | some u1=>
      cases h2:ws[k]? with
      | none=>right;rw[← rb2.length];exact List.getElem?_eq_none_iff.mp h2
      | some u2=>rw[h1,h2] at eu;simp[Jl] at eu
end
end MR
namespace MR
open PySem PySem.Spec PyProof.Rows PySem.Calls L2
section
variable {X:Cx}
end
section
variable {X:Cx}
end
end MR
namespace ZT
open PySem PySem.Spec PyProof.Rows
open Sem (wp)
theorem Jo(l:Addr)(items:Array Value) :
    Meets (Builtin.«enumerate.__new__» ⟨[.type "enumerate",.ref l],[]⟩) (fun _ R s=>s.heap.IsTuple l items ∧
      R (.ok (.ret (.ref (s.heap.push { cls:=.type "tuple_iterator",data:=.fields #[.ref l,.int 0 0] }).objs.size)))
        { s with heap:=(s.heap.push { cls:=.type "tuple_iterator",data:=.fields #[.ref l,.int 0 0] }).push { cls:=.type "enumerate",data:=.fields #[.none,.bool false,.ref s.heap.objs.size,rawInt 0,.none,.none] } }):=
  .of_wp fun prog w A R s h=>by
    obtain ⟨hp,g,d,tk,os⟩:=s;obtain ⟨hl,h⟩:=h
    have hsub:=sub_enumerate
    have hL:Heap.IsTuple (Shared.heap ⟨hp,g,d,tk,os⟩) l items:=hl
    wp_walk using wpAny_pyIter_tuple hL
    refine wpAny_stack_any fun st=>wpAny_pure ?_
    split
    · rename_i c _ _ _ _ _
      cases (c == Value.type "enumerate")
      · wp_walk using wpAny_pyIter_tuple hL
        exact ⟨_,rfl,h⟩
      · wp_walk using wpAny_pyIter_tuple hL
        exact ⟨_,rfl,h⟩
    · wp_walk using wpAny_pyIter_tuple hL
      exact ⟨_,rfl,h⟩
section
variable {prog:Program}{w:World}{A:Around}{E:Value→Shared→Prop}{s:Shared}
theorem Jz{l:Addr}{items:Array Value}{Q:Value→Shared→Prop}(hL:s.heap.IsTuple l items)
    (h:∀ h',IsEnum h' (s.heap.objs.size+1) s.heap.objs.size 0 .none→h'.IsTupleIter s.heap.objs.size l 0→h'.objs.size=s.heap.objs.size+2 →
      (∀ b o,s.heap.get? b=some o→h'.get? b=some o)→Q (.ref (s.heap.objs.size+1)) { s with heap:=h' }) :
    wpAny (model prog w) A (call (.type "enumerate") [.ref l]) Q E s:=by
  refine callType_new F.called_enumerate (by decide) (F.typeCall_enumerate_1 _) (F.newCall_enumerate_1 _) (fun obj=>F.args_object_init_2 obj _) F.entry_enumerate_new
    (Jo l items) ⟨hL,?_⟩
  have hz:(s.heap.push { cls:=.type "tuple_iterator",data:=.fields #[.ref l,.int 0 0] }).objs.size=s.heap.objs.size+1:=Heap.size_push ..
  show _∧_
  rw[hz]
  have he:IsEnum ((s.heap.push { cls:=.type "tuple_iterator",data:=.fields #[.ref l,.int 0 0] }).push
      { cls:=.type "enumerate",data:=.fields #[.none,.bool false,.ref s.heap.objs.size,rawInt 0,.none,.none] }) (s.heap.objs.size+1) s.heap.objs.size 0 .none:=by
    have:=Heap.get?_push_size (s.heap.push { cls:=.type "tuple_iterator",data:=.fields #[.ref l,.int 0 0] })
      (o:={ cls:=.type "enumerate",data:=.fields #[.none,.bool false,.ref s.heap.objs.size,rawInt 0,.none,.none] }) rfl
    rw[hz] at this;exact this
  refine ⟨⟨_,he,rfl⟩,h _ he ⟨_,Heap.get?_push_of_some _ (Heap.get?_push_size _ rfl),rfl,rfl⟩ (by rw[Heap.size_push,hz]) fun b o x=>Heap.get?_push_of_some _ (Heap.get?_push_of_some _ x)⟩
end
theorem Na{prog:Program}{w:World}{A:Around}(hh:A.handled=none)(it l:Addr)(hne:l≠it)(items:Array Value) :
    Draws prog w A it [it,l] items.size (fun i v=>items[i]? = some v) (fun i h=>h.IsTupleIter it l i∧h.IsTuple l items) where
  live:=fun _ _ st=>let ⟨o,ho,_⟩:=st.1;⟨o,ho⟩
  frame:=fun _ _ _ st hk=>⟨st.1.at fun o e=>hk it (by simp) o e,st.2.at fun o e=>hk l (by simp) o e⟩
  item:=fun i s Q E hi st hQ=>by
    refine Ti st.1 st.2 (v:=items[i]) (by simp[hi]) fun h' hit' hs'=>?_
    exact hQ _ h' s.toks (by simp[hi]) ⟨hit',st.2.extBut hs'.extBut hne⟩ hs'
  done:=fun s Q E st hE=>Ot hh st.1 st.2 (by simp) hE
section
variable {prog:Program}{w:World}{A:Around}{E:Value→Shared→Prop}{s:Shared}
theorem Ls{e it l:Addr}{n:Nat}{i:Int}{items:Array Value}{old:Value}{Q:Option Value→Shared→Prop}(hh:A.handled=none)
    (he:IsEnum s.heap e it i old) (hit:s.heap.IsTupleIter it l n) (hl:s.heap.IsTuple l items) (hn:items.size≤n)
    (hQ:∀ h',Heap.ExtBut it s.heap h'→Q none { s with heap:=h' }):wpAny (model prog w) A (pyNext (.ref e)) Q E s:=by
  have hT:s.TypeIs (.ref e) "enumerate" := ⟨_,he,rfl⟩
  unfold pyNext
  refine wpAny_bind (wpAny_attempt (wpAny_callSpecial?_slot (name:=Str.ofString "__next__") hT F.slot_enumerate_next
    (wpAny_call_entry F.slot_enumerate_next hT F.entry_enumerate_next ?_ (F.args_enumerate_next_1 _))))
  show wpAny _ _ (field (.ref e) 2 >>= _) _ _ _
  refine wpAny_bind (wpAny_field he rfl (x:=.ref it) rfl ?_)
  refine wpAny_bind (Ot (A:=Around.in1 A) hh hit hl (by simp;omega) fun h' x he' hx'=>?_)
  obtain ⟨o,ho,hc⟩:=hx'
  refine wpAny_bind (wpAny_isInstance (T := "StopIteration") (b:=true) ⟨o,ho,hc⟩ isSubtype_stop ?_)
  exact wpAny_pure (hQ _ he')
end
end ZT
namespace MR
open PySem PySem.Spec PyProof.Rows L2
noncomputable def Agf(K:PySem.W.Frag)(a:Addr):It:=
  ⟨fun i H=>∃ xs x,SqT K H a xs∧xs[i]? = some x,fun i H x H'=>∃ p v,H p=none∧x = .ref p∧H'=upd H p (.tup [.int i,v])∧∀ xs,SqT K H a xs→xs[i]? = some v,fun i H=>∃ xs,SqT K H a xs∧xs.length≤i⟩
theorem Vu{P:Program}{w:World}{K:PySem.W.Frag}{elts:List Expr}{x1}{pos:Pos}(a e it:Addr)(hne:e≠it):Turn P w K (.Tuple elts x1 pos) (Agf K a) [e,it] e (fun i h=>(∃ old,IsEnum h e it i old)∧h.IsTupleIter it a i) where
  mem:=by simp
  obj:=fun i h st b hb=>by
    obtain ⟨⟨old,he⟩,o,ho,hc,hd⟩:=st
    rcases List.mem_cons.mp hb with rfl | hb
    · exact ⟨_,he,fun v z=>by simp at z⟩
    · have:b=it:=by simpa using hb
      subst this
      exact ⟨o,ho,fun v z=>by rw[hd] at z;cases z⟩
  keep:=fun i h h' st k=>by
    obtain ⟨⟨old,he⟩,o,ho,hc,hd⟩:=st
    exact ⟨⟨old,k e (by simp) _ he⟩,o,k it (by simp) _ ho,hc,hd⟩
  item:=by
    intro X hP hw hK hc i pins s σ H E I hf st hg
    subst hP hw hK
    obtain ⟨⟨old,he⟩,hit⟩:=st
    obtain ⟨xs,v,sq,hx⟩:=hg
    obtain ⟨its,hv,pl,hz⟩:=I.tuple sq
    obtain ⟨u,hu,r⟩:=hv.get hx
    have hae:e≠a:=fun q=>by
      subst q
      obtain ⟨o,ho,hc,_⟩:=pl
      have:some o=some _:=ho.symm.trans he
      cases this
      simp at hc
    have hai:a≠it:=fun q=>by
      subst q
      obtain ⟨o,ho,hc,_⟩:=pl
      obtain ⟨o',ho',hc',_⟩:=hit
      have:some o=some o':=ho.symm.trans ho'
      cases this
      rw[hc] at hc';simp at hc'
    have hlt:i < its.toArray.size:=by
      have:=(List.getElem?_eq_some_iff.mp hu).1
      simpa using this
    refine wpAny_pyNext_enum_itemD (ZT.Na (A:=Around.in1 _) (I.ok.hd hc) it a hai its.toArray) he ⟨hit,pl⟩ hlt hne (by simp[hne,hae]) fun x h' tk px o1 o2 o3 o4 o5=>?_
    have hxu:x=u:=by
      have:its[i]? = some x:=by simpa using px
      rw[hu] at this;cases this;rfl
    subst hxu
    refine ⟨_,rfl,?_⟩
    have hfr:H s.heap.objs.size=none:=I.hok.fresh (Nat.le_refl _)
    have I1:L2.Inv X pins σ (upd H s.heap.objs.size (.tup [.int i,v])) { s with heap:=h',toks:=tk+1 }:=
      Inv.turnNew (ch:=[e,it]) I hf (fun b o hb q=>o5 b o (fun z=>hb (by simp[z])) (fun z=>hb (by simp[z])) q) (Nat.le_refl _)
        (show ObjOk X.prog X.w _ h' _ (.tup [.int i,v]) from ⟨by show 2≤sizeLine;decide,[.int i tk,x],.cons ⟨_,rfl⟩ (.cons r .nil),⟨_,o3,rfl,_,rfl⟩⟩)
    refine wpAny_letOwnedTupleGo_enum o1 fun h2 e2 sb2=>?_
    have hne2:∀ b∈[e,it],b≠s.heap.objs.size:=fun b hb z=>by
      rcases List.mem_cons.mp hb with q | q
      · have:=Heap.lt_size he;rw[← q,z] at this;exact Nat.lt_irrefl _ this
      · have q:b=it:=by simpa using q
        obtain ⟨o,ho,_⟩:=hit
        have:=Heap.lt_size ho;rw[← q,z] at this;exact Nat.lt_irrefl _ this
    have hnone:∀ b∈[e,it],(upd H s.heap.objs.size (.tup [.int i,v])) b=none:=fun b hb=>by rw[Ba (hne2 b hb)];exact (hf b hb).1
    obtain ⟨f0,f1,f2,f3,f4,f5⟩:=hf e (by simp)
    have I2:=I1.turned (t':=tk+1) (h':=h2) (it:=e) (fun b o hb q=>sb2.2 b hb |>.trans q) (hnone e (by simp)) f1 f3 f4 f5
    obtain ⟨oi,hoi,hci,hdi⟩:=o2.1
    refine ⟨.ref s.heap.objs.size,_,I2,rfl,⟨_,v,hfr,rfl,rfl,fun ys sq'=>?_⟩,⟨⟨_,e2⟩,oi,(sb2.2 it (Ne.symm hne)).trans hoi,hci,hdi⟩,hnone⟩
    rw[I.tuple_inj sq' sq];exact hx
  done:=by
    intro X hP hw hK hc i pins s σ H E I hf st hg
    subst hP hw hK
    obtain ⟨⟨old,he⟩,hit⟩:=st
    obtain ⟨xs,sq,hx⟩:=hg
    obtain ⟨its,hv,pl,hz⟩:=I.tuple sq
    obtain ⟨f0,f1,f2,f3,f4,f5⟩:=hf it (by simp)
    have hlen:=hv.length
    exact ZT.Ls (I.ok.hd hc) he hit pl (by simp;omega) fun h' eb=>⟨rfl,I.turned (t':=s.toks) (fun b o hb q=>eb b o hb q) f0 f1 f3 f4 f5⟩
  self:=fun _ _ _ _ _ st h=>by obtain ⟨⟨old,he⟩,_⟩:=st;exact wpAny_pyIter_enum he h
section
variable {X:Cx}{elts:List Expr}{x1:Nat}{tpos:Pos}
noncomputable def Aht(K:PySem.W.Frag)(ta:TA):TI:=fun σ H R=>ta σ H fun vs H1=>∃ a xs,vs=[.ref a]∧SqT K H1 a xs∧R (Agf K a) H1
theorem Ab5{a:Expr}{ta:TA}{p pos:Pos}(hg:Gl X "enumerate")(hm:X.mg "enumerate" = none)(ha:PA X [a] ta)(hs:starEach [a] X.env=[(false,eval a X.env)]:=by rfl):PI X (.Tuple elts x1 tpos) (.Call (.Name "enumerate" p) [a] [] pos) (Aht X.K ta):=by
  intro pins s σ H R I h
  refine Call_ (Gg I hg hm Me (PyProof.Rows.callWith_type1 (thn (ha pos pins s σ H _ I h) fun us s1 ⟨vs,H1,I1,r1,q1⟩=>?_) hs rfl))
  obtain ⟨l,xs,rfl,sq,q⟩:=q1
  obtain ⟨u,rfl,ru⟩:=Ij r1
  cases ru
  obtain ⟨its,hv,pl,hz⟩:=I1.tuple sq
  refine ZT.Jz pl fun h' o1 o2 o3 o4=>?_
  have I2:L2.Inv X pins σ H1 { s1 with heap:=h' }:=I1.kept (t':=s1.toks) o4
  refine wpAny_pyIter_enum o1 ⟨_,_,_,_,H1,rfl,I2,Vu l (s1.heap.objs.size+1) s1.heap.objs.size (Nat.ne_of_gt (Nat.lt_succ_self _)),⟨⟨_,o1⟩,o2⟩,fun b hb=>?_,q⟩
  have hb':s1.heap.objs.size≤b:=by
    simp only[List.mem_cons,List.not_mem_nil,or_false] at hb
    rcases hb with rfl | rfl
    · exact Nat.le_succ _
    · exact Nat.le_refl _
  exact L2.Inv.fpOk I1 hb' (I1.hok.fresh hb')
noncomputable def Hf(us:List U):List U:=us.mapIdx fun i u=>.tup [.int i,u]
noncomputable def Jf(g:FA):FI:=fun δ L=>(g δ L).bind fun p=>match p.1 with
  | [.ref n]=>(Ap p.2 n).map fun _=>(.enm n,p.2)
  | [.tup us]=>some (.seq (Hf us),p.2)
  | _=>none
theorem Ab1{K:PySem.W.Frag}{H:Hp}{α:List Addr}{a:Addr}{us:List U}{xs:List V}(sq:SqT K H a xs)(r:RepL K H α us xs):Mb K (Agf K a) (.seq (Hf us)) H α:=by
  intro H2 α2 L2 g A2 k
  have m:=(show RepU K H α (.tup us) (.ref a) by unfold RepU;exact ⟨a,xs,rfl,sq,r⟩).mono g
  unfold RepU at m
  obtain ⟨c',xs,e,sq2,r2⟩:=m
  cases e
  refine ⟨fun u eu=>?_,fun eu=>?_⟩
  · have eu:(Hf us)[k]? = some u:=by simpa[IU.at] using eu
    unfold Hf at eu
    rw[List.getElem?_mapIdx] at eu
    obtain ⟨w,hw,eu⟩:=Option.map_eq_some_iff.mp eu
    subst eu
    obtain ⟨x,hx,rx⟩:=r2.get hw
    refine ⟨⟨xs,x,sq2,hx⟩,?_⟩
    rintro y H3 ⟨p,v,hp,rfl,rfl,hy⟩
    have:=hy xs sq2
    rw[hx] at this;cases this
    exact A2.tup (.cons rfl (.cons rx .nil)) hp
  · have eu:(Hf us)[k]? = none:=by simpa[IU.at] using eu
    unfold Hf at eu
    rw[List.getElem?_mapIdx] at eu
    have:us[k]? = none:=by simpa using eu
    exact ⟨xs,sq2,by rw[← r2.length];exact List.getElem?_eq_none_iff.mp this⟩
theorem Qu{a:Expr}{g:FA}{p pos:Pos}(hg:Gl X "enumerate")(hm:X.mg "enumerate" = none)(ha:PAF X [a] g)(hs:starEach [a] X.env=[(false,eval a X.env)]:=by rfl):PIF X (.Tuple elts x1 tpos) (.Call (.Name "enumerate" p) [a] [] pos) (Jf g):=by
  refine PI.imp (PI.or (Afd hg hm ha hs) (Ab5 hg hm ha hs)) ?_
  rintro σ H R ⟨α,δ,L,A,S,i,L3,e,q⟩
  obtain ⟨⟨us,L1⟩,e1,e⟩:=Option.bind_eq_some_iff.mp e
  simp only at e
  split at e
  · obtain ⟨l,hl,e⟩:=Option.map_eq_some_iff.mp e
    cases e
    refine .inl ⟨α,δ,L,A,S,_,_,e1,fun xs H1 α1 g1 A1 r1=>?_⟩
    obtain ⟨x,rfl,rx⟩:=r1.one
    obtain ⟨a',ys,rfl,sq,r2⟩:=Li A1 hl rx
    obtain ⟨a2,ea,ha2⟩:=rx.ref_of A1
    cases ha2
    exact ⟨a',ys,rfl,sq,q _ H1 α1 g1 A1 (Ae3 (fun _ _ _ _ _=>trivial) ea)⟩
  · cases e
    refine .inr ⟨α,δ,L,A,S,_,_,e1,fun xs H1 α1 g1 A1 r1=>?_⟩
    obtain ⟨x,rfl,rx⟩:=r1.one
    unfold RepU at rx
    obtain ⟨a',ys,rfl,sq,r2⟩:=rx
    exact ⟨a',ys,rfl,sq,q _ H1 α1 g1 A1 (Ab1 sq r2)⟩
  · cases e
end
theorem Nv:∀ (names:List (Str×NameKind)) (n:Nat) (acc:List (Str×Addr)) (x:Str) (c:Addr),(cellsFrom n names acc).lookup x=some c→((x,NameKind.cell)∈names∧n≤c)∨acc.lookup x=some c
  | [],n,acc,x,c,h=>.inr h
  | (y,k)::r,n,acc,x,c,h=>by
    unfold cellsFrom at h
    split at h
    · rename_i hk
      have hk':k = .cell:=by simpa using hk
      rcases Nv r (n+1) _ x c h with ⟨a,b⟩ | q
      · exact .inl ⟨List.mem_cons_of_mem _ a,by omega⟩
      · rw[List.lookup_cons] at q
        cases hx:x == y with
        | true => rw [hx] at q; simp at q; have : x = y := by simpa using hx
                  subst this;subst hk';subst q
                  exact .inl ⟨List.mem_cons_self ..,Nat.le_refl _⟩
        | false=>rw[hx] at q;exact .inr q
    · rcases Nv r n acc x c h with ⟨a,b⟩ | q
      · exact .inl ⟨List.mem_cons_of_mem _ a,b⟩
      · exact .inr q
theorem Q0:∀ (names:List (Str×NameKind)) (n:Nat) (acc:List (Str×Addr)) (x:Str),(x,NameKind.cell)∉names→(cellsFrom n names acc).lookup x=acc.lookup x
  | [],n,acc,x,h=>rfl
  | (y,k)::r,n,acc,x,h=>by
    unfold cellsFrom
    have h2:(x,NameKind.cell)∉r:=fun q=>h (List.mem_cons_of_mem _ q)
    split
    · rename_i hk
      have hk':k = .cell:=by simpa using hk
      rw[Q0 r (n+1) _ x h2,List.lookup_cons]
      cases hx:x == y with
      | true => have : x = y := by simpa using hx
                subst this;subst hk'
                exact absurd (List.mem_cons_self ..) h
      | false=>rfl
    · exact Q0 r n acc x h2
theorem Uy:∀ (names:List (Str×NameKind)) (n:Nat) (acc:List (Str×Addr)),(∀ x c,acc.lookup x=some c→c < n)→(∀ x y c,acc.lookup x=some c→acc.lookup y=some c→x=y)→∀ x y c,(cellsFrom n names acc).lookup x=some c→(cellsFrom n names acc).lookup y=some c→x=y
  | [],n,acc,_,h,x,y,c,a,b=>h x y c a b
  | (z,k)::r,n,acc,h1,h2,x,y,c,a,b=>by
    unfold cellsFrom at a b
    split at a
    · rw[if_pos (by assumption)] at b
      refine Uy r (n+1) ((z,n)::acc) (fun u v q=>?_) (fun u v w q1 q2=>?_) x y c a b
      · rw[List.lookup_cons] at q
        cases hx:u == z with
        | true=>rw[hx] at q;simp at q;subst q;exact Nat.lt_succ_self _
        | false=>rw[hx] at q;exact Nat.lt_succ_of_lt (h1 u v q)
      · rw[List.lookup_cons] at q1 q2
        cases hu:u == z with
        | true=>
          rw[hu] at q1;simp at q1
          cases hv:v == z with
          | true => have e1 : u = z := by simpa using hu
                    have e2:v=z:=by simpa using hv
                    rw[e1,e2]
          | false=>rw[hv] at q2;subst q1;exact absurd (h1 v _ q2) (Nat.lt_irrefl _)
        | false=>
          rw[hu] at q1
          cases hv:v == z with
          | true=>rw[hv] at q2;simp at q2;subst q2;exact absurd (h1 u _ q1) (Nat.lt_irrefl _)
          | false=>rw[hv] at q2;exact h2 u v w q1 q2
    · rw[if_neg (by assumption)] at b
      exact Uy r n acc h1 h2 x y c a b
theorem O0:∀ (names:List (Str×NameKind)) (h:Heap) (acc:List (Str×Addr)),(∀ x c,acc.lookup x=some c→∃ v,h.IsCell c v)→∀ x c,(cellsFrom h.objs.size names acc).lookup x=some c→∃ v,(pushCells h names).IsCell c v
  | [],h,acc,q,x,c,e=>q x c e
  | (y,k)::r,h,acc,q,x,c,e=>by
    unfold cellsFrom at e
    unfold pushCells
    split at e
    · rw[if_pos (by assumption)]
      have hz:h.objs.size+1=(h.push { cls:=.type "cell",data:=.cell none }).objs.size:=(Heap.size_push ..).symm
      rw[hz] at e
      refine O0 r _ _ (fun u v z=>?_) x c e
      rw[List.lookup_cons] at z
      cases hx:u == y with
      | true=>rw[hx] at z;simp at z;subst z;exact ⟨none,⟨_,Heap.get?_push_size _ rfl,rfl⟩⟩
      | false=>rw[hx] at z;obtain ⟨w,hw⟩:=q u v z;exact ⟨w,hw.keeps fun b o e=>Heap.get?_push_of_some _ e⟩
    · rw[if_neg (by assumption)]
      exact O0 r h acc q x c e
theorem Ve:∀ (names:List (Str×NameKind)) (n:Nat) (acc:List (Str×Addr)) (x:Str) (c:Addr) (n0:Nat),n0≤n→((x,NameKind.cell)∈names∨∀ c':Addr,acc.lookup x=some c'→n0≤c')→(cellsFrom n names acc).lookup x=some c→n0≤c
  | [],n,acc,x,c,n0,_,h,e=>by
    rcases h with h | h
    · cases h
    · exact h c e
  | (y,k)::r,n,acc,x,c,n0,hn,h,e=>by
    unfold cellsFrom at e
    split at e
    · rename_i hk
      refine Ve r (n+1) _ x c n0 (Nat.le_succ_of_le hn) ?_ e
      cases hx:x == y with
      | true=>right;intro c' q;rw[List.lookup_cons,hx] at q;simp at q;subst q;exact hn
      | false=>
        rcases h with h | h
        · rcases List.mem_cons.mp h with q | q
          · have:x=y:=(Prod.mk.inj q).1
            rw[this] at hx;simp at hx
          · exact .inl q
        · right;intro c' q;rw[List.lookup_cons,hx] at q;exact h c' q
    · rename_i hk
      refine Ve r n acc x c n0 hn ?_ e
      rcases h with h | h
      · rcases List.mem_cons.mp h with q | q
        · have:NameKind.cell=k:=(Prod.mk.inj q).2
          rw[← this] at hk;simp at hk
        · exact .inl q
      · exact .inr h
theorem Xr{M:Model}{A:Around}{E:Value→Shared→Prop}{s:Shared}{scope:Scope}{globals:Addr}{closure:List (Str×Addr)}{qual:Str}{func:Option Addr}{code:Value}{outer:PySem.Env}{builtins:Addr}{Q:PySem.Env→Shared→Prop}
    (hQ:Q (newEnv scope s.heap.objs.size globals (cellsFrom (s.heap.objs.size+1) scope.names closure) qual func code (some outer) builtins) { s with heap:=pushCells (s.heap.push { cls:=.type "dict",data:=.dict #[] }) scope.names }) :
    wpAny M A (newFunctionEnv scope globals closure [] qual func code (some outer) builtins) Q E s:=by
  simp only[newFunctionEnv,Option.isSome_some,if_true]
  refine wpAny_bind (wpAny_alloc ?_)
  refine wpAny_bind (wpAny_layCells _ (fun name kind cells=>by cases hkc:kind == NameKind.cell <;> simp[hkc]) _ _ _ _ ?_)
  rw[show ({ s with heap:=s.heap.push { cls:=.type "dict",data:=.dict #[] } }:Shared).heap.objs.size=s.heap.objs.size+1 from Heap.size_push ..]
  rw[List.forIn_nil]
  exact wpAny_bind (wpAny_pure (wpAny_pure hQ))
structure CompScC(X:Cx)(scope:Scope)(N':List Str)(ix:List (Option Nat)):Prop where
  kind:scope.kind = .function
  own:(scope.names.all fun y=>scope.names.lookup y.1 == some y.2)=true
  free:(scope.names.all fun y=>y.2 != .free || (X.env.kindOf y.1 == some .cell || X.env.kindOf y.1 == some .free))=true
  ixs:((N'.zip ix).all fun p=>match p.2 with | none=>true | some i=>(X.N[i]? == some p.1)&&(scope.names.lookup p.1 == some .free))=true
  len:N'.length=ix.length
noncomputable def Ge(X:Cx)(scope:Scope)(cl:List (Str×Addr))(C:Addr)(N':List Str)(s2:Shared)(H2:Hp)(fp:List Addr)(pins:List (Addr×Obj)):Cx:=
  { blk X scope (cellsFrom (C+1) scope.names cl) C N' s2 H2 fp pins with fn:=fun x=>scope.names.lookup x == some .cell }
section
variable {X:Cx}{scope:Scope}{N':List Str}{ix:List (Option Nat)}{pins:List (Addr×Obj)}{σ:L2.St}{H2:Hp}{s2:Shared}{cl:List (Str×Addr)}{fp:List Addr}
theorem CompScC.lk(S:CompScC X scope N' ix){x:Str}{k:NameKind}(h:(x,k)∈scope.names):scope.names.lookup x=some k:=by
  have:=List.all_eq_true.mp S.own _ h
  simpa using this
theorem Uc(S:CompScC X scope N' ix)(hcalm:X.calm=true)(I2:Inv X pins σ H2 s2)(hcl:∀ x c,cl.lookup x=some c→X.env.cells.lookup x=some c)(hcl2:∀ y∈scope.names,y.2 = .free→∃ c,cl.lookup y.1=some c)
    (f2:∀ b∈fp,Km X pins H2 b) (hfp:∀ b∈fp,b < s2.heap.objs.size) {C:Addr} {h4:Heap} {m:Str→Option Value} {t4:Nat} (hC:s2.heap.objs.size≤C) (hns:h4.Ns C m) (keep:∀ b o,s2.heap.get? b=some o→h4.get? b=some o)
    (hcells:∀ x c,(cellsFrom (C+1) scope.names cl).lookup x=some c→∃ v,h4.IsCell c v) :
    Inv (Ge X scope cl C N' s2 H2 fp pins) [] (inner ix σ) H2 { s2 with heap:=h4,toks:=t4 }:=by
  have hkindC:(relabel scope X.env).kind = .function:=S.kind
  have clt:∀ x c,cl.lookup x=some c→c < s2.heap.objs.size:=fun x c e=>by
    obtain ⟨v,oc,ho,_⟩:=I2.cell x c (hcl x c e)
    exact Heap.lt_size ho
  have new:∀ x c,(cellsFrom (C+1) scope.names cl).lookup x=some c→(C+1≤c)∨cl.lookup x=some c:=fun x c e=>by
    rcases Nv _ _ _ _ _ e with ⟨_,q⟩ | q
    · exact .inl q
    · exact .inr q
  have fr:∀ x,scope.names.lookup x=some .free→(cellsFrom (C+1) scope.names cl).lookup x=cl.lookup x:=fun x hx=>Q0 _ _ _ _ fun q=>by
    have:=S.lk q
    rw[hx] at this;cases this
  have ok:(Ge X scope cl C N' s2 H2 fp pins).Ok:=
    { mod:=I2.ok.mod
      kind:=hkindC
      glob:=I2.ok.glob
      blt:=I2.ok.blt
      above:=hC
      inj:=Uy _ _ _ (fun x c e=>Nat.lt_succ_of_lt (Nat.lt_of_lt_of_le (clt x c e) hC)) (fun x y c e1 e2=>I2.ok.inj x y c (hcl x c e1) (hcl y c e2))
      has:=fun x h=>by
        have h':(relabel scope X.env).names.lookup x=some .cell∨(relabel scope X.env).names.lookup x=some .free:=h
        have two:scope.names.lookup x=some .free∨scope.names.lookup x=some .cell:=by
          rcases h' with h' | h'
          · rcases Hj h' with q | ⟨q,_⟩
            · exact .inr q
            · exact .inl q
          · rcases Hj h' with q | ⟨q,z⟩
            · exact .inl q
            · cases z
        rcases two with hfree | hcell
        · obtain ⟨c,hc⟩:=hcl2 _ (Ha hfree) rfl
          exact ⟨c,(fr x hfree).trans hc⟩
        · exact Option.isSome_iff_exists.mp (PySem.W.cellsFrom_some _ _ _ (.inl hcell))
      cab:=fun x c h e=>by
        have hx:scope.names.lookup x=some .cell:=by
          have:(scope.names.lookup x == some NameKind.cell)=true:=h
          simpa using this
        exact Nat.le_trans hC (Nat.le_trans (Nat.le_succ _) (Ve _ _ _ _ _ (C+1) (Nat.le_refl _) (.inl (Ha hx)) e))
      hd:=fun _=>I2.ok.hd hcalm
      frames:=I2.ok.frames
      stk:=.inl rfl
      exf:=fun b hb=>⟨Nat.ne_of_lt (Nat.lt_of_lt_of_le (hfp b hb) hC),fun x c e=>by
        rcases new x c e with q | q
        · intro z;subst z;exact absurd (Nat.lt_of_lt_of_le (hfp c hb) (Nat.le_trans hC (Nat.le_trans (Nat.le_succ _) q))) (Nat.lt_irrefl _)
        · exact (f2 b hb).2.2.2.2.1 x c (hcl x c q)⟩
      bs:=fun b o e=>I2.bs b o e
      bsz:=Nat.le_trans I2.ok.bsz I2.sz
      noex:=fun b o e hb=>by
        rcases (f2 b hb).2.2.2.1 with z | z
        · exact I2.ok.noex b o e z
        · exact absurd (Nat.lt_of_lt_of_le (Heap.lt_size (I2.ok.bs b o e).1) z) (Nat.lt_irrefl _)
      exfs:=fun b hb z=>by
        rcases List.mem_cons.mp (I2.stkSub b z) with q | q
        · exact (f2 b hb).2.1 q
        · exact (f2 b hb).2.2.1 q
      funs:=I2.stack
      frf:=I2.stkFree }
  obtain ⟨m0,hn0,hl0⟩:=id I2.loc
  refine ⟨ok,rfl,I2.bare,Un.kept keep,⟨m,hns,fun j x v e1 e2 e3=>?_⟩,fun x c e=>hcells x c e,I2.hok.fresh hC,fun x c e=>?_,fun p hp=>?_,I2.hok.kept keep,?_⟩
  · have e1':N'[j]? = some x:=e1
    have e2':(inner ix σ)[j]? = some (some v):=e2
    unfold inner at e2'
    rw[List.getElem?_map] at e2'
    cases hx:ix[j]? with
    | none=>rw[hx] at e2';simp at e2'
    | some o=>
      rw[hx] at e2'
      cases o with
      | none=>simp at e2'
      | some i=>
        simp at e2'
        have hz:(x,some i)∈N'.zip ix:=List.mem_of_getElem? (i:=j) (by rw[List.getElem?_zip_eq_some];exact ⟨e1',hx⟩)
        have hz':=List.all_eq_true.mp S.ixs _ hz
        simp only[Bool.and_eq_true,beq_iff_eq] at hz'
        obtain ⟨hXN,hfr⟩:=hz'
        have hσ:σ[i]? = some (some v):=by
          cases q:σ[i]? with
          | none=>rw[q] at e2';simp at e2'
          | some o=>rw[q] at e2';simp at e2';rw[e2']
        have hk:=List.all_eq_true.mp S.free _ (Ha hfr)
        simp at hk
        have hvis:Vis X.env.scope x:=by
          rcases hk with q | q
          · exact .inr (.inl q)
          · exact .inr (.inr q)
        obtain ⟨u,r,look⟩:=hl0 i x v hXN hσ hvis
        rcases look with ⟨q,_⟩ | ⟨_,c,ec,hc⟩
        · rcases hk with z | z
          · rw[z] at q;cases q
          · rw[z] at q;cases q
        · obtain ⟨c',ec'⟩:=hcl2 _ (Ha hfr) rfl
          have:c'=c:=by have:=hcl x c' ec';rw[ec] at this;cases this;rfl
          subst this
          refine ⟨u,r,.inr ⟨?_,c',(fr x hfr).trans ec',?_⟩⟩
          · rcases Gn (env:=X.env) hfr with q | q
            · exact .inr q
            · exact .inl q
          · obtain ⟨oc,ho,hd⟩:=hc
            exact ⟨oc,keep _ _ ho,hd⟩
  · rcases new x c e with q | q
    · exact I2.hok.fresh (Nat.le_trans hC (Nat.le_trans (Nat.le_succ _) q))
    · exact I2.freeC x c (hcl x c q)
  · have hp':p∈X.pn++pins:=by simpa[Ge,blk] using hp
    obtain ⟨q1,q2,q3,q4,q5⟩:=I2.pin p hp'
    refine ⟨keep _ _ q1,q2,Nat.ne_of_lt (Nat.lt_of_lt_of_le (Heap.lt_size q1) hC),fun z=>?_,q5⟩
    rcases List.mem_cons.mp (I2.stkSub p.1 z) with q | q
    · exact q3 q
    · exact q4 q
  · show (inner ix σ).length=N'.length
    rw[S.len];simp[inner]
theorem Oj{elt tg iter:Expr}{ifs:List Expr}{pos:Pos}{g:TG}{tt:TT}{te:TE}{it:Addr}{J:It}{tn:Nat→Heap→Prop}{E:Value→Shared→Prop}{Fin:List V→Hp→Prop}{RR:Value→Addr→Result→Shared→Prop}
    (S:CompScC X scope N' ix) (hcalm:X.calm=true) (hcl:∀ x c,cl.lookup x=some c→X.env.cells.lookup x=some c) (hcl2:∀ y∈scope.names,y.2 = .free→∃ c,cl.lookup y.1=some c)
    (hg:∀ C,PG (Ge X scope cl C N' s2 H2 fp pins) tg g) (ht:∀ C,P9 (Ge X scope cl C N' s2 H2 fp pins) ifs tt) (he:∀ C,PE (Ge X scope cl C N' s2 H2 fp pins) elt te)
    (I2:Inv X pins σ H2 s2) (T:Turn X.prog X.w X.K tg J fp it tn) (st2:tn 0 s2.heap) (f2:∀ b∈fp,Km X pins H2 b) (hloop:Aaw J g tt te (inner ix σ) H2 Fin)
    (hRR:∀ (D C:Addr) (s':Shared) (H':Hp) (acc:List V),Inv X pins σ (upd H' D (.lst acc)) s'→H' D=none→(∃ m,s'.heap.Ns C m)→(upd H' D (.lst acc)) C=none→Km X pins (upd H' D (.lst acc)) C→Fin acc H'→RR (.ref D) C (.ok .next) s') :
    wpAny (model X.prog X.w) X.A (newList []) (fun acc s₃=>wpAny (model X.prog X.w) X.A (newFunctionEnv scope X.env.globals cl [] X.env.qual none .none (some X.env)) (fun cenv s₄=>
      codeAny (model X.prog X.w) X.A (.compStart (.ListComp elt [⟨tg,iter,ifs,0⟩] scope pos) 0 (.ref it) acc { cenv with scope:=relabel scope X.env }) (RR acc cenv.locals) s₄) E s₃) E s2:=by
  refine wpAny_newObj_type (Xr ?_)
  dsimp only
  generalize hH2:s2.heap.push { cls:=.type "list",dict:=none,data:=.seq ([]:List Value).toArray } = HP
  have hCs:HP.objs.size=s2.heap.objs.size+1:=by rw[← hH2,Heap.size_push]
  have hDC:s2.heap.objs.size≠HP.objs.size:=by rw[hCs];exact Nat.ne_of_lt (Nat.lt_succ_self _)
  have hCle:s2.heap.objs.size≤HP.objs.size:=by rw[hCs];exact Nat.le_succ _
  have hz1:(HP.push { cls:=.type "dict",data:=.dict #[] }).objs.size=HP.objs.size+1:=Heap.size_push ..
  generalize h1eq:pushCells (HP.push { cls:=.type "dict",data:=.dict #[] }) scope.names=h₁
  have old:∀ b o,s2.heap.get? b=some o→h₁.get? b=some o:=fun b o e=>h1eq ▸ pushCells_keeps _ _ _ _ (Heap.get?_push_of_some _ (hH2 ▸ Heap.get?_push_of_some _ e))
  have hacc:h₁.get? s2.heap.objs.size=some (Dj [] 0):=h1eq ▸ pushCells_keeps _ _ _ _ (Heap.get?_push_of_some _ (hH2 ▸ Heap.get?_push_size _ rfl))
  have hns₁:h₁.Ns HP.objs.size (fun _=>none):=h1eq ▸ (Heap.Ns.new HP (.type "dict")).keeps (pushCells_keeps _ _)
  have hcells:∀ x c,(cellsFrom (HP.objs.size+1) scope.names cl).lookup x=some c→∃ v,h₁.IsCell c v:=fun x c e=>by
    rw[← hz1] at e
    rw[← h1eq]
    refine O0 _ _ _ (fun y d q=>?_) x c e
    obtain ⟨v,oc,ho,hd⟩:=I2.cell y d (hcl y d q)
    exact ⟨v,oc,Heap.get?_push_of_some _ (hH2 ▸ Heap.get?_push_of_some _ ho),hd⟩
  have hfp:∀ b∈fp,b < s2.heap.objs.size:=fun b hb=>by
    obtain ⟨o,e,_⟩:=T.obj _ _ st2 b hb
    exact Heap.lt_size e
  generalize hDg:s2.heap.objs.size=D at hDC hacc
  generalize hCg:HP.objs.size=C at *
  have hDle:s2.heap.objs.size≤D:=Nat.le_of_eq hDg
  have hD2:s2.heap.get? D=none:=by
    cases q:s2.heap.get? D with
    | none=>rfl
    | some o=>exact absurd (Nat.lt_of_lt_of_le (Heap.lt_size q) hDle) (Nat.lt_irrefl _)
  have I4:=Uc (t4:=s2.toks) S hcalm I2 hcl hcl2 f2 hfp hCle hns₁ old hcells
  have above:∀ a,s2.heap.objs.size≤a→a∉frs X.stack∧(∀ x c,X.env.cells.lookup x=some c→c≠a)∧(∀ p∈X.pn++pins,p.1≠a)∧a≠X.env.locals:=fun a ha=>by
    refine ⟨fun z=>?_,fun x c e z=>?_,fun p hp z=>?_,?_⟩
    · rcases List.mem_cons.mp (I2.stkSub a z) with q | q
      · exact absurd (Nat.lt_of_lt_of_le I2.lt (q ▸ ha)) (Nat.lt_irrefl _)
      · exact I2.nofs ha q
    · obtain ⟨v,q⟩:=I2.cell x c e
      exact absurd (Nat.lt_of_lt_of_le q.lt (z ▸ ha)) (Nat.lt_irrefl _)
    · exact absurd (Nat.lt_of_lt_of_le (Heap.lt_size (I2.pin p hp).1) (z ▸ ha)) (Nat.lt_irrefl _)
    · intro z;exact absurd (Nat.lt_of_lt_of_le I2.lt (z ▸ ha)) (Nat.lt_irrefl _)
  have newc:∀ x c,(cellsFrom (C+1) scope.names cl).lookup x=some c→(C+1≤c)∨X.env.cells.lookup x=some c:=fun x c e=>by
    rcases Nv _ _ _ _ _ e with ⟨_,q⟩ | q
    · exact .inl q
    · exact .inr (hcl x c q)
  have hfpX:∀ b∈fp,Km (Ge X scope cl C N' s2 H2 fp pins) [] H2 b∧b≠D:=fun b hb=>by
    obtain ⟨q0,q1,q2,q3,q4,q5⟩:=f2 b hb
    have hlt:=hfp b hb
    refine ⟨⟨q0,Nat.ne_of_lt (Nat.lt_of_lt_of_le hlt hCle),fun z=>?_,.inl hb,fun x c e=>?_,fun p hp=>q5 p (by simpa[Ge,blk] using hp)⟩,Nat.ne_of_lt (Nat.lt_of_lt_of_le hlt hDle)⟩
    · rcases List.mem_cons.mp (I2.stkSub b z) with q | q
      · exact q1 q
      · exact q2 q
    · rcases newc x c e with q | q
      · intro z;subst z;exact absurd (Nat.lt_of_lt_of_le hlt (Nat.le_trans hCle (Nat.le_trans (Nat.le_succ _) q))) (Nat.lt_irrefl _)
      · exact q4 x c q
  have hDC':D < C:=by rw[← hDg,hCs];exact Nat.lt_succ_self _
  have hDf:∀ H:Hp,H D=none→Km (Ge X scope cl C N' s2 H2 fp pins) [] H D:=fun H hn=>by
    obtain ⟨a1,a2,a3,a4⟩:=above D hDle
    refine ⟨hn,hDC,a1,.inr hDle,fun x c e=>?_,fun p hp=>a3 p (by simpa[Ge,blk] using hp)⟩
    rcases newc x c e with q | q
    · intro z;subst z;exact absurd (Nat.lt_of_lt_of_le hDC' (Nat.le_trans (Nat.le_succ _) q)) (Nat.lt_irrefl _)
    · exact a2 x c q
  have hDn2:H2 D=none:=I2.hok.fresh hDle
  have I5:Inv (Ge X scope cl C N' s2 H2 fp pins) [(D,Dj [] 0)] (inner ix σ) H2 { s2 with heap:=h₁,toks:=s2.toks }:=I4.pins_of fun p hp=>by
    have:p=(D,Dj [] 0):=by simpa using hp
    subst this
    obtain ⟨_,d1,d2,_⟩:=hDf H2 hDn2
    exact ⟨hacc,hDn2,d1,d2,fun v z=>by simp[Dj] at z⟩
  have st5:tn 0 h₁:=T.keep _ _ _ st2 fun b _ o e=>old b o e
  have loop:codeAny (model X.prog X.w) X.A (.compLoop (.ListComp elt [⟨tg,iter,ifs,0⟩] scope pos) 0 (.ref it) (.ref D) (Ge X scope cl C N' s2 H2 fp pins).env) (RR (.ref D) C) { s2 with heap:=h₁,toks:=s2.toks }:=by
    refine Yf (X':=Ge X scope cl C N' s2 H2 fp pins) ⟨rfl,rfl,rfl,rfl,hcalm,fun _ _ z=>z⟩ T (hg C) (ht C) (he C) hDle hDC hCle hfpX hDf I5 st5 (fun b hb=>(f2 b hb).1) hloop ?_
    intro s' σ' H' acc its n I hv hz fin
    obtain ⟨hDo,hDn,_⟩:=I.pin (D,Dj its n) (List.mem_append_right _ (List.mem_singleton.mpr rfl))
    have hbase:Un (frs X.stack) fp H2 H' s2.heap s'.heap:=I.base
    have hok:HOk X.prog X.w (upd H' D (.lst acc)) s'.heap:=HOk.adopt I.hok hDn ⟨hz,its,n,hv,hDo⟩
    have IX:Inv X pins σ (upd H' D (.lst acc)) s':=I2.call' I.os (Un.adopt hbase hDn hD2) hok I.bare fun b hb=>⟨(f2 b hb).2.2.2.1,(f2 b hb).2.1,(f2 b hb).2.2.2.2.1,(f2 b hb).2.2.2.2.2⟩
    obtain ⟨m,hm,_⟩:=I.loc
    have hCn:(upd H' D (.lst acc)) C=none:=by rw[Ba (Ne.symm hDC)];exact I.free
    obtain ⟨a1,a2,a3,a4⟩:=above C hCle
    refine hRR D C s' H' acc IX hDn ⟨m,hm⟩ hCn ⟨hCn,a4,fun z=>?_,.inr (Nat.le_trans I2.sz hCle),a2,a3⟩ fin
    exact I2.nofs hCle z
  exact codeAny_compStart_list loop (T.self _ 0 _ _ _ st5 loop)
theorem CompScC.names(S:CompScC X scope N' ix):∀ x∈scope.names,x.2 = .local→scope.names.lookup x.1=some .local:=fun x hx hl=>by
  have:=S.lk (x:=x.1) (k:=x.2) hx
  rw[hl] at this
  exact this
theorem CompScC.clos(S:CompScC X scope N' ix)(ok:X.Ok):∃ cl,closureFor scope X.env=pure cl∧(∀ x c,cl.lookup x=some c→X.env.cells.lookup x=some c)∧∀ y∈scope.names,y.2 = .free→∃ c,cl.lookup y.1=some c:=by
  refine Kh fun y hy hf=>?_
  have:=List.all_eq_true.mp S.free y hy
  rw[hf] at this
  simp at this
  exact ok.has y.1 this
theorem Ta{elt tg iter:Expr}{ifs:List Expr}{pos:Pos}{wi:TI}{g:TG}{tt:TT}{te:TE}(S:CompScC X scope N' ix)(hcalm:X.calm=true)(hi:PI X tg iter wi)
    (hg:∀ cl C s2 H2 fp pins,PG (Ge X scope cl C N' s2 H2 fp pins) tg g) (ht:∀ cl C s2 H2 fp pins,P9 (Ge X scope cl C N' s2 H2 fp pins) ifs tt) (he:∀ cl C s2 H2 fp pins,PE (Ge X scope cl C N' s2 H2 fp pins) elt te)
    (hs:∀ x,foldedSetIterable iter X.env x=pure x:=by intro _;rfl):PE X (.ListComp elt [⟨tg,iter,ifs,0⟩] scope pos) (Y6 ix wi g tt te):=by
  intro pins s σ H Q I h
  obtain ⟨cl,hclos,hcl,hcl2⟩:=S.clos I.ok
  rw[eval_ListComp]
  refine wpAny_comprehension_free (use:=none) rfl hs hclos S.kind S.names (thn (hi pins s σ H _ I h) fun v s1 h1=>thn h1 fun itv s2 h2=>?_)
  obtain ⟨it,fp,tn,J,H2,e,I2,T,st2,f2,loop⟩:=h2
  subst e
  refine Oj (RR:=fun acc C=>compPost (model X.prog X.w) X.A X.xe none (EP X pins σ Q) acc C) S hcalm hcl hcl2 (fun C=>hg cl C s2 H2 fp pins) (fun C=>ht cl C s2 H2 fp pins) (fun C=>he cl C s2 H2 fp pins) I2 T st2 f2 loop ?_
  intro D C s' H' acc IX hDn ⟨m,hm⟩ hCn hC fin
  refine ⟨m,hm,fun h' hsb=>?_⟩
  obtain ⟨c0,c1,c2,c3,c4,c5⟩:=hC
  exact ⟨.ref D,_,IX.turned (t':=s'.toks) (fun b o hb e=>hsb.2 b hb |>.trans e) c0 c1 c3 c4 c5,rfl,fin D hDn⟩
theorem Acs{i:Nat}{y:Str}{py spos:Pos}{elt tg iter:Expr}{ifs:List Expr}{pos:Pos}{wi:TI}{g:TG}{tt:TT}{te:TE}(hN:X.N.Nodup)(hiN:X.N[i]? = some y)(hx:Loc X.env.scope y)(hf:X.fn y=true∨X.env.scope.names.lookup y=some .local)
    (S:CompScC X scope N' ix) (hcalm:X.calm=true) (hi:PI X tg iter wi)
    (hg:∀ cl C s2 H2 fp pins,PG (Ge X scope cl C N' s2 H2 fp pins) tg g) (ht:∀ cl C s2 H2 fp pins,P9 (Ge X scope cl C N' s2 H2 fp pins) ifs tt) (he:∀ cl C s2 H2 fp pins,PE (Ge X scope cl C N' s2 H2 fp pins) elt te)
    (hsw:swapsWith (.ListComp elt [⟨tg,iter,ifs,0⟩] scope pos) (some (.Name y py)) spos.line X.env=pure true)
    (hs:∀ x,foldedSetIterable iter X.env x=pure x:=by intro _;rfl):PS X (.Assign [.Name y py] (.ListComp elt [⟨tg,iter,ifs,0⟩] scope pos) spos) (Ad6 (Y6 ix wi g tt te) (Sx i)):=by
  intro pins s σ H Dn I h
  obtain ⟨cl,hclos,hcl,hcl2⟩:=S.clos I.ok
  rw[exec_Assign_Name_used _ _ _ _ hsw]
  refine wpAny_bind (wpAny_standAt (wpAny_bind ?_))
  show wpAny _ X.A (do let _ ← comprehension (.ListComp elt [⟨tg,iter,ifs,0⟩] scope pos) scope X.env _ (newList []) false (eval iter X.env) (some (assign (.Name y py) X.env))) _ _ s
  refine wpAny_bind (wpAny_mono (wpAny_comprehension_free (Q:=fun _ s'=>SP X pins Dn .next s') (use:=some (assign (.Name y py) X.env)) rfl hs hclos S.kind S.names (thn (hi pins s σ H _ I h) fun v s1 h1=>thn h1 fun itv s2 h2=>?_)) (fun _ s' hq=>wpAny_pure (wpAny_pure hq)) fun _ _ e=>e)
  obtain ⟨it,fp,tn,J,H2,e,I2,T,st2,f2,loop⟩:=h2
  subst e
  refine Oj (RR:=fun acc C=>compPost (model X.prog X.w) X.A X.xe (some (assign (.Name y py) X.env)) (fun _ s'=>SP X pins Dn .next s') acc C) S hcalm hcl hcl2 (fun C=>hg cl C s2 H2 fp pins) (fun C=>ht cl C s2 H2 fp pins) (fun C=>he cl C s2 H2 fp pins) I2 T st2 f2 loop ?_
  intro D C s' H' acc IX hDn ⟨m,hm⟩ hCn hC fin
  obtain ⟨c0,c1,c2,c3,c4,c5⟩:=hC
  obtain ⟨oC,es,ep,hoC,hdC,hrest⟩:=id hm
  have IP:Inv X (pins++[(C,oC)]) σ (upd H' D (.lst acc)) s':=IX.pins_of fun p hp=>by
    rcases List.mem_append.mp hp with z | z
    · exact IX.pin p (List.mem_append_right _ z)
    · have:p=(C,oC):=by simpa using z
      subst this
      exact ⟨hoC,c0,c1,c2,fun v z=>by rw[hdC] at z;cases z⟩
  have hq:Sx i (.ref D) σ (upd H' D (.lst acc)) Dn.nx:=fin D hDn
  refine thn (Ws (i:=i) (pos:=py) hN hiN hx hf (pins++[(C,oC)]) s' σ _ (.ref D) (.ref D) Dn.nx IP rfl hq) fun _ s'' ⟨σ'',H'',I'',q''⟩=>?_
  obtain ⟨p1,p2,p3,p4,p5⟩:=I''.pin (C,oC) (List.mem_append_right _ (List.mem_append_right _ (List.mem_singleton.mpr rfl)))
  refine ⟨m,⟨oC,es,ep,p1,hdC,hrest⟩,fun h' hsb=>?_⟩
  exact ⟨σ'',H'',(I''.unpinned).turned (t':=s''.toks) (fun b o hb e=>hsb.2 b hb |>.trans e) p2 p3 c3 c4 c5,q''⟩
end
section
variable {X:Cx}{scope:Scope}{N':List Str}{ix:List (Option Nat)}{elt tg iter c:Expr}{pos:Pos}{fi:FI}{g:FG}{ft:FT}{fe:FE}
theorem Il(S:CompScC X scope N' ix)(hcalm:X.calm=true)(hi:PIF X tg iter fi)(hg:∀ cl C s2 H2 fp pins,PGF (Ge X scope cl C N' s2 H2 fp pins) tg g)(he:∀ cl C s2 H2 fp pins,PEF (Ge X scope cl C N' s2 H2 fp pins) elt fe)
    (hs:∀ x,foldedSetIterable iter X.env x=pure x:=by intro _;rfl):PEF X (.ListComp elt [⟨tg,iter,[],0⟩] scope pos) (Df ix fi g none fe):=
  PE.imp (Ta (g:=lG X.K g) (te:=lE X.K fe) (tt:=Adx) S hcalm hi hg (fun _ _ _ _ _ _=>P3) he hs) Rz
theorem Mt(S:CompScC X scope N' ix)(hcalm:X.calm=true)(hi:PIF X tg iter fi)(hg:∀ cl C s2 H2 fp pins,PGF (Ge X scope cl C N' s2 H2 fp pins) tg g)(ht:∀ cl C s2 H2 fp pins,PTF (Ge X scope cl C N' s2 H2 fp pins) c ft)(he:∀ cl C s2 H2 fp pins,PEF (Ge X scope cl C N' s2 H2 fp pins) elt fe)
    (hs:∀ x,foldedSetIterable iter X.env x=pure x:=by intro _;rfl):PEF X (.ListComp elt [⟨tg,iter,[c],0⟩] scope pos) (Df ix fi g (some ft) fe):=
  PE.imp (Ta (g:=lG X.K g) (te:=lE X.K fe) (tt:=lT X.K ft) S hcalm hi hg (fun _ _ _ _ _ _=>Yr (ht _ _ _ _ _ _)) he hs) (Rz (tt:=some ft))
theorem Qz{i:Nat}{y:Str}{py spos:Pos}(hN:X.N.Nodup)(S:CompScC X scope N' ix)(hcalm:X.calm=true)(hi:PIF X tg iter fi)(hg:∀ cl C s2 H2 fp pins,PGF (Ge X scope cl C N' s2 H2 fp pins) tg g)(he:∀ cl C s2 H2 fp pins,PEF (Ge X scope cl C N' s2 H2 fp pins) elt fe)
    (hiN:X.N[i]? = some y:=by rfl) (hx:Loc X.env.scope y:=by first | exact Or.inl rfl | exact Or.inr rfl) (hf:X.fn y=true∨X.env.scope.names.lookup y=some .local:=by first | exact .inl rfl | exact .inr rfl)
    (hsw:swapsWith (.ListComp elt [⟨tg,iter,[],0⟩] scope pos) (some (.Name y py)) spos.line X.env=pure true:=by rfl)
    (hs:∀ x,foldedSetIterable iter X.env x=pure x:=by intro _;rfl):PSF X (.Assign [.Name y py] (.ListComp elt [⟨tg,iter,[],0⟩] scope pos) spos) (Br (Df ix fi g none fe) (gN i)):=
  PS.imp (Acs (i:=i) (g:=lG X.K g) (te:=lE X.K fe) (tt:=Adx) hN hiN hx hf S hcalm hi hg (fun _ _ _ _ _ _=>P3) he hsw hs) (Age Rz)
end
section
variable {X:Cx}{tg:Expr}
end
end MR
namespace ZT
open PySem PySem.Spec PyProof.Rows
open Sem (wp)
section
variable {prog:Program}{w:World}{A:Around}{s:Shared}{R:Result→Shared→Prop}
variable {I:Addr}{fp wr:List Addr}{G:Array GenState→Array GenState→Prop}{n:Nat}{P:Nat→Value→Prop}{St:Nat→Shared→Prop}
end
section
variable {prog:Program}{w:World}{A:Around}{E:Value→Shared→Prop}{s:Shared}
variable {I:Addr}{fp wr:List Addr}{G:Array GenState→Array GenState→Prop}{n:Nat}{P:Nat→Value→Prop}{St:Nat→Shared→Prop}
end
end ZT
namespace MR
open PySem PySem.Spec PyProof.Rows PySem.Calls L2
section
variable {X:Cx}
end
end MR
namespace ZT
open PySem PySem.Spec PyProof.Rows HT
section
variable {prog:Program}{w:World}{A:Around}{E:Value→Shared→Prop}{s:Shared}
theorem Kg{t sl:Addr}{items:Array Value}{vl vu:Value}{lo hi:Option Int}{Q:Value→Shared→Prop}(ht:IsTup s.heap t items)(hs:s.heap.IsSliceOf sl vl vu .none)(pl:IsPart vl lo)(pu:IsPart vu hi)
    (hw:sIx items.size 0 lo=0∧sIx items.size items.size hi=items.size) (h:Q (.ref t) s):wpAny (model prog w) A (getItem (.ref t) (.ref sl)) Q E s:=by
  obtain ⟨os,hos,hcs,hds⟩:=id hs
  have hTs:s.TypeIs (.ref sl) "slice" := ⟨os,hos,hcs⟩
  unfold getItem
  try with_reducible refine wpAny_holding ?_
  first | refine wpAny_bind (wpAny_pure ?_) | skip
  refine wpAny_bind (wpAny_sequenceKey ht.typeIs (by decide) ?_)
  refine wpAny_bind (wpAny_callSpecial?_slot (name:=Str.ofString "__getitem__") ht.typeIs PyProof.Rows.slot_tuple_getitem
    (wpAny_call_entry PyProof.Rows.slot_tuple_getitem ht.typeIs entry_tuple_getitem ?_ (args_tuple_getitem _ _)))
  show wpAny _ _ (Builtin.Tuple.tupleItemsOf (.ref t) >>= _) _ _ s
  refine wpAny_bind (tupleItemsOf_ ht ?_)
  refine wpAny_bind (wpAny_typeOf hTs ?_)
  rw[if_pos (by decide)]
  refine wpAny_bind (Io hs pl pu ?_)
  have hyes:((((sIx items.size 0 lo:Nat):Int) == 0&&(1:Int) == 1&&(sIx items.size items.size hi - sIx items.size 0 lo) == items.size)=true):=by
    rw[hw.1,hw.2];simp
  show wpAny _ _ (if (((sIx items.size 0 lo:Nat):Int) == 0&&(1:Int) == 1&&(sIx items.size items.size hi - sIx items.size 0 lo) == items.size)=true then _ else _) _ _ s
  rw[if_pos hyes]
  unfold Builtin.Tuple.tupleIsExact
  refine wpAny_bind (wpAny_bind (wpAny_typeOf ht.typeIs (wpAny_pure ?_)))
  rw[if_pos (by decide)]
  refine wpAny_bind (wpAny_rule ?_)
  first
    | exact wpAny_pure ⟨_,rfl,wpAny_pure h⟩
    | exact wpAny_bind (wpAny_pure ⟨_,rfl,wpAny_pure h⟩)
    | exact wpAny_bind (wpAny_pure (wpAny_pure ⟨_,rfl,wpAny_pure h⟩))
    | trace_state
end
end ZT
namespace MR
open PySem PySem.Spec PyProof.Rows PySem.Calls L2
section
variable {X:Cx}{tg:Expr}
noncomputable def Ahm(K:PySem.W.Frag):V→Option Int→Option Int→Hp→VK→Prop:=fun x lo hi H Q=>∃ a xs,x = .ref a∧SqT K H a xs∧(HT.sIx xs.length 0 lo=0∧HT.sIx xs.length xs.length hi=xs.length)∧Q (.ref a) H
theorem Y8:SlR X (Ahm X.K):=by
  intro pins s σ H x v vl vu lo hi sl Q I rx hs pl pu h
  obtain ⟨a,xs,rfl,hx,hw,q⟩:=h
  cases rx
  obtain ⟨its,r,ht,hz⟩:=I.tuple hx
  have hlen:its.toArray.size=xs.length:=by rw[List.size_toArray];exact r.length.symm
  refine ⟨"tuple",_,PyProof.Rows.slot_tuple_getitem.lookup,ht.typeIs,?_⟩
  exact ZT.Kg ht hs pl pu (by rw[hlen];exact hw) ⟨.ref a,H,I,rfl,q⟩
noncomputable def C3:SS:=fun u lo hi L=>match u with
  | .tup l=>if HT.sIx l.length 0 lo=0∧HT.sIx l.length l.length hi=l.length then some (.tup l,L) else some (.tup (Jq l lo hi),L)
  | .ref n=>(Ap L n).map fun l=>(.ref L.length,L++[.lst (Jq l lo hi)])
  | _=>none
theorem K3:SlR X (fun x lo hi H Q=>Ado X.K x lo hi H Q∨Ahm X.K x lo hi H Q):=Vd.or Y8
theorem Lg{K:PySem.W.Frag}:Ab7 K (fun x lo hi H Q=>Ado K x lo hi H Q∨Ahm K x lo hi H Q) C3:=by
  intro H α L u x lo hi z L' Q A ru e q
  cases u with
  | tup l=>
    by_cases hw:HT.sIx l.length 0 lo=0∧HT.sIx l.length l.length hi=l.length
    · unfold C3 at e
      simp only at e
      rw[if_pos hw] at e
      cases e
      have ru':=ru
      unfold RepU at ru
      obtain ⟨a,ys,rfl,sq,r2⟩:=ru
      exact .inr ⟨a,ys,rfl,sq,by rw[← r2.length];exact hw,q _ H α (.refl _ _) A ru'⟩
    · refine .inl (Q6 H α L (.tup l) x lo hi z L' Q A ru ?_ q)
      unfold C3 at e
      unfold Lx
      simp only at e ⊢
      rw[if_neg hw] at e ⊢
      exact e
  | ref n=>exact .inl (Q6 H α L (.ref n) x lo hi z L' Q A ru e q)
  | _=>cases e
theorem Pb{k:Int}{t:Tok}:∀ {its:List Value} {ns:List Int},Vals (ns.map V.int) its→(its.countP fun v=>match v with | .int a _=>a == k | _=>false)=ns.count k
  | its,[],r=>by rw[List.map_nil] at r;cases r;rfl
  | its,n::ns,r=>by
    rw[List.map_cons] at r
    cases r with
    | cons r1 r2=>
      obtain ⟨t',rfl⟩:=r1
      rw[List.countP_cons,List.count_cons,Pb (t:=t) r2]
end
section
variable {X:Cx}
noncomputable def Af2(K:PySem.W.Frag):R2:=fun x y H Q=>∃ a b ys,x = .ref a∧y = .ref b∧SqT K H a []∧SqT K H b ys∧Q (.ref b) H
theorem Aeq:OpR X (binaryOp .Add) (Af2 X.K):=by
  intro pins s σ H x y v u Q I rx ry h
  obtain ⟨a,b,ys,rfl,rfl,ha,hb,q⟩:=h
  cases rx
  cases ry
  obtain ⟨its,r1,p1,_⟩:=I.tuple ha
  obtain ⟨its2,r2,p2,_⟩:=I.tuple hb
  have he:its=[]:=r1.nil_iff.mpr rfl
  obtain ⟨⟨cls,dd,data,sl⟩,ho,hc,n,hd⟩:=id p1
  obtain ⟨⟨cls2,dd2,data2,sl2⟩,ho2,hc2,n2,hd2⟩:=id p2
  simp only at hc hd hc2 hd2
  subst hc hd hc2 hd2
  exact concat_meets ⟨_,ho,rfl⟩ ⟨_,ho2,rfl⟩ noFill_tuple_add seq_tuple_add PySem.F.slot_tuple_add PySem.F.entry_tuple_add (PySem.F.args_tuple_add_2 _ _)
    (tuple_addW0 a b its.toArray its2.toArray n n2 dd dd2 sl sl2 (by simp[he])) ⟨ho,ho2,⟨.ref b,H,I,rfl,q⟩⟩
end
noncomputable def semAddA:S2:=fun u w L=>match u,w with
  | .tup [],.tup b=>some (.tup b,L)
  | u,w=>Bl u w L
noncomputable def Afx(K:PySem.W.Frag):R2:=fun x y H Q=>Aal K x y H Q∨Af2 K x y H Q
theorem Ew{X:Cx}:OpR X (binaryOp .Add) (Afx X.K):=Cy.or Aeq
theorem Dv{K:PySem.W.Frag}:Ej K (Afx K) semAddA:=by
  intro H α L u w x y z L' Q A ru rw e q
  unfold semAddA at e
  split at e
  · cases e
    have rw':=rw
    unfold RepU at ru rw
    obtain ⟨a,xs,rfl,sq,r2⟩:=ru
    obtain ⟨b,ys,rfl,sq',r2'⟩:=rw
    unfold RepL at r2
    subst r2
    exact .inr ⟨a,b,ys,rfl,rfl,sq,sq',q _ H α (.refl _ _) A rw'⟩
  · exact .inl (C1 H α L _ _ x y z L' Q A ru rw e q)
@[simp] theorem semAddA_int(i j:Int)(L:UH):semAddA (.int i) (.int j) L=some (.int (i+j),L):=rfl
end MR
namespace MR
open PySem PyProof.Rows L2
section
variable {X:Cx}
end
noncomputable def toS:U→Option Str
  | .str a=>some a
  | _=>none
end MR
namespace MR
open PySem PySem.W PyProof.Rows L2
end MR
namespace Att
open PySem PySem.W PySem.Calls PyProof.Rows L2 MR
end Att
namespace MR
open PySem PyProof.Rows L2
noncomputable def g0(us ws:List Value):List Value:=match us with | []=>ws | _=>[]
section
variable {X:Cx}{k:Nat}{f:Addr}{fd:FuncData}{p:Str}{ps:List Str}{x:Str}{pp pos kpos:Pos}{e:Expr}{kws:List Keyword}{nm:Option Str}
theorem PK.imp{t t':TA}(h:PK X kws t)(hi:∀ σ H Q,t' σ H Q→t σ H Q):PK X kws t':=fun pos pins s σ H Q I q=>h pos pins s σ H Q I (hi σ H Q q)
end
end MR
namespace MR
open PySem PySem.Spec PyProof.Rows PySem.Calls L2
section
variable {X:Cx}
end
section
variable {X:Cx}
end
end MR
namespace MR
open PySem PyProof.Rows L2
theorem RepL.init{K:PySem.W.Frag}{H:Hp}{α:List Addr}:∀ {us:List U} {xs:List V},RepL K H α us xs→RepL K H α us.dropLast xs.dropLast
  | [],xs,r=>by unfold RepL at r;subst r;exact .nil
  | [u],xs,r=>by
    unfold RepL at r
    obtain ⟨x,xr,rfl,rx,r⟩:=r
    unfold RepL at r
    subst r
    exact .nil
  | u::w::us,xs,r=>by
    unfold RepL at r
    obtain ⟨x,xr,rfl,rx,r⟩:=r
    have r':=r
    unfold RepL at r'
    obtain ⟨y,yr,rfl,ry,_⟩:=r'
    exact .cons rx (RepL.init r)
noncomputable def toK:U→Option Key
  | .int i=>some (.inl i)
  | .str x=>some (.inr x)
  | _=>none
theorem Acx{K:PySem.W.Frag}{H:Hp}{α:List Addr}{u:U}{x:V}{k:Key}(r:RepU K H α u x)(h:toK u=some k):x=kV k:=by
  cases u <;> simp only[toK] at h <;> first | (cases h;unfold RepU at r;exact r) | cases h
noncomputable def No(kvs:List (Key×U))(k:Key):Option U:=(kvs.find? fun kv=>decide (kv.1=k)).map (·.2)
noncomputable def Te(kvs:List (Key×U))(k:Key)(v:U):List (Key×U):=
  if (kvs.any fun kv=>decide (kv.1=k))=true then kvs.map (fun kv=>if kv.1=k then (kv.1,v) else kv) else kvs++[(k,v)]
section
variable {K:PySem.W.Frag}{H:Hp}{α:List Addr}
noncomputable def RepKV(K:PySem.W.Frag)(H:Hp)(α:List Addr)(kvs:List (Key×U))(vs:List (Key×V)):Prop:=kvs.map (·.1)=vs.map (·.1)∧RepL K H α (kvs.map (·.2)) (vs.map (·.2))
theorem RepKV.nil:RepKV K H α [] []:=⟨rfl,.nil⟩
theorem RepKV.cons{kv:Key×U}{kvs:List (Key×U)}{vs:List (Key×V)}(h:RepKV K H α (kv::kvs) vs):∃ x vs',vs=(kv.1,x)::vs'∧RepU K H α kv.2 x∧RepKV K H α kvs vs':=by
  obtain ⟨h1,h2⟩:=h
  cases vs with
  | nil=>simp at h1
  | cons w vs'=>
    simp only[List.map_cons,List.cons.injEq] at h1
    rw[List.map_cons,List.map_cons] at h2
    unfold RepL at h2
    obtain ⟨x,xr,hx,rx,r⟩:=h2
    injection hx with e1 e2
    subst e1
    refine ⟨w.2,vs',by rw[h1.1],rx,h1.2,?_⟩
    rw[e2];exact r
theorem RepKV.mk{k:Key}{u:U}{x:V}{kvs:List (Key×U)}{vs:List (Key×V)}(r:RepU K H α u x)(h:RepKV K H α kvs vs):RepKV K H α ((k,u)::kvs) ((k,x)::vs):=
  ⟨by simp[h.1],by rw[List.map_cons,List.map_cons];exact .cons r h.2⟩
theorem RepKV.val{k:Key}{u:U}:∀ {kvs:List (Key×U)} {vs:List (Key×V)},RepKV K H α kvs vs→No kvs k=some u→∃ x,K8 vs k=some x∧RepU K H α u x
  | [],vs,_,e=>by simp[No] at e
  | kv::kvs,vs,r,e=>by
    obtain ⟨x,vs',rfl,rx,r'⟩:=r.cons
    unfold No at e
    unfold K8
    rw[List.find?_cons] at e ⊢
    by_cases h:kv.1=k
    · simp only[h,decide_true,Option.map_some] at e ⊢
      cases e
      exact ⟨x,rfl,rx⟩
    · simp only[h,decide_false] at e ⊢
      exact RepKV.val r' e
theorem RepKV.any{k:Key}:∀ {kvs:List (Key×U)} {vs:List (Key×V)},RepKV K H α kvs vs→(kvs.any fun kv=>decide (kv.1=k))=(vs.any fun kv=>decide (kv.1=k))
  | [],vs,r=>by
    obtain ⟨h1,_⟩:=r
    cases vs with
    | nil=>rfl
    | cons _ _=>simp at h1
  | kv::kvs,vs,r=>by
    obtain ⟨x,vs',rfl,rx,r'⟩:=r.cons
    rw[List.any_cons,List.any_cons,RepKV.any r']
theorem RepKV.len{kvs:List (Key×U)}{vs:List (Key×V)}(r:RepKV K H α kvs vs):kvs.length=vs.length:=by
  have:=congrArg List.length r.1
  simpa using this
theorem RepKV.upd{k:Key}{u:U}{x:V}(ru:RepU K H α u x):∀ {kvs:List (Key×U)} {vs:List (Key×V)},RepKV K H α kvs vs→RepKV K H α (kvs.map fun kv=>if kv.1=k then (kv.1,u) else kv) (vs.map fun kv=>if kv.1=k then (kv.1,x) else kv)
  | [],vs,r=>by
    obtain ⟨h1,_⟩:=r
    cases vs with
    | nil=>exact .nil
    | cons _ _=>simp at h1
  | kv::kvs,vs,r=>by
    obtain ⟨y,vs',rfl,ry,r'⟩:=r.cons
    rw[List.map_cons,List.map_cons]
    by_cases h:kv.1=k
    · rw[if_pos h,if_pos h]
      exact .mk ru (RepKV.upd ru r')
    · rw[if_neg h,if_neg h]
      exact .mk ry (RepKV.upd ru r')
theorem RepKV.add{k:Key}{u:U}{x:V}(ru:RepU K H α u x):∀ {kvs:List (Key×U)} {vs:List (Key×V)},RepKV K H α kvs vs→RepKV K H α (kvs++[(k,u)]) (vs++[(k,x)])
  | [],vs,r=>by
    obtain ⟨h1,_⟩:=r
    cases vs with
    | nil=>exact .mk ru .nil
    | cons _ _=>simp at h1
  | kv::kvs,vs,r=>by
    obtain ⟨y,vs',rfl,ry,r'⟩:=r.cons
    exact .mk ry (RepKV.add ru r')
theorem RepKV.put{k:Key}{u:U}{x:V}{kvs:List (Key×U)}{vs:List (Key×V)}(ru:RepU K H α u x)(r:RepKV K H α kvs vs):RepKV K H α (Te kvs k u) (Kd vs k x):=by
  unfold Te Kd
  rw[r.any]
  split
  · exact r.upd ru
  · exact r.add ru
theorem RepKV.mono{H':Hp}{α':List Addr}{kvs:List (Key×U)}{vs:List (Key×V)}(r:RepKV K H α kvs vs)(g:Gr H α H' α'):RepKV K H' α' kvs vs:=⟨r.1,r.2.mono g⟩
end
noncomputable def Kl(L:UH)(n:Nat):Option (List (Key×U)):=match L[n]? with
  | some (.dic kvs)=>some kvs
  | _=>none
theorem Pe{L:UH}{n:Nat}{kvs:List (Key×U)}(h:Kl L n=some kvs):L[n]? = some (.dic kvs):=by
  unfold Kl at h
  split at h
  · rename_i e;cases h;exact e
  · cases h
theorem V2{K:PySem.W.Frag}{H:Hp}{α:List Addr}{L:UH}{n:Nat}{x:V}{kvs:List (Key×U)}(A:Abs K H α L)(h:Kl L n=some kvs)(r:RepU K H α (.ref n) x):∃ a vs,x = .ref a∧α[n]? = some a∧H a=some (.dK vs)∧RepKV K H α kvs vs:=by
  unfold RepU at r
  obtain ⟨a,ea,rfl⟩:=r
  obtain ⟨vs,e,k1,k2⟩:=A.rep n a _ ea (Pe h)
  exact ⟨a,vs,rfl,ea,e,k1,k2⟩
theorem Abs.setD{K:PySem.W.Frag}{H:Hp}{α:List Addr}{L:UH}{n:Nat}{a:Addr}{vs ws:List (Key×V)}{kvs kws:List (Key×U)}(A:Abs K H α L)(h:Kl L n=some kvs)(ea:α[n]? = some a)(e:H a=some (.dK vs))(r:RepKV K H α kws ws) :
    Gr H α (upd H a (.dK ws)) α∧Abs K (upd H a (.dK ws)) α (L.set n (.dic kws)):=by
  have g:Gr H α (upd H a (.dK ws)) α:=⟨⟨[],by simp⟩,.write e (by exact trivial) _⟩
  obtain ⟨A',_⟩:=A.put (o:=.dK ws) (u:=.dic kws) ea (Pe h) rfl rfl e (by exact trivial) ⟨ws,upd_same,(r.mono g).1,(r.mono g).2⟩
  exact ⟨g,A'⟩
section
variable {X:Cx}{o i value:Expr}{pos pos':Pos}{fo fi fv:FE}
noncomputable def Acu:FE:=fun _ L=>some (.ref L.length,L++[.dic []])
theorem Ac3:PEF X (.Dict [] [] pos) Acu:=by
  refine PE.imp Acq ?_
  rintro σ H Q ⟨α,δ,L,A,S,z,L3,e,q⟩
  cases e
  intro p hp
  have g:Gr H α (upd H p (.dK [])) (α ++ [p]):=⟨⟨[p],rfl⟩,.new hp _⟩
  obtain ⟨A',_⟩:=A.new (o:=.dK []) (u:=.dic []) hp ⟨[],upd_same,rfl,.nil⟩
  refine q _ _ _ g A' ?_
  unfold RepU
  exact ⟨p,by rw[← A.len];simp,rfl⟩
noncomputable def Abg(fo fi:FE):FE:=fun δ L=>(fo δ L).bind fun p=>(fi δ p.2).bind fun q=>match p.1 with
  | .ref n=>(toK q.1).bind fun k=>(Kl q.2 n).bind fun kvs=>(No kvs k).map fun u=>(u,q.2)
  | _=>none
theorem Adb(hu:X.A.units+64 < cLine)(ho:PEF X o fo)(hi:PEF X i fi)(hs:Ahf i):PEF X (.Subscript o i pos) (Abg fo fi):=by
  refine PE.imp (Adg (by omega) ho hi hs) ?_
  rintro σ H Q ⟨α,δ,L,A,S,z,L3,e,q⟩
  obtain ⟨⟨u,L1⟩,e1,e⟩:=Option.bind_eq_some_iff.mp e
  obtain ⟨⟨w,L2⟩,e2,e⟩:=Option.bind_eq_some_iff.mp e
  refine ⟨α,δ,L,A,S,u,L1,e1,fun x H1 α1 g1 A1 r1=>⟨α1,δ,L1,A1,S.mono g1,w,L2,e2,fun y H2 α2 g2 A2 r2=>?_⟩⟩
  simp only at e
  split at e
  · obtain ⟨k,hk,e⟩:=Option.bind_eq_some_iff.mp e
    obtain ⟨kvs,hd,e⟩:=Option.bind_eq_some_iff.mp e
    obtain ⟨v,hv,e⟩:=Option.map_eq_some_iff.mp e
    cases e
    obtain ⟨a,vs,rfl,ea,ha,rk⟩:=V2 A2 hd (r1.mono g2)
    obtain ⟨x',hx',rx'⟩:=rk.val hv
    refine ⟨a,x',rfl,?_,q _ _ _ (g1.trans g2) A2 rx'⟩
    rw[Acx r2 hk,← hx']
    exact DGet.k ha
  · cases e
noncomputable def Y3(fo fi fv:FE):FS:=fun δ L=>(fv δ L).bind fun p=>(fo δ p.2).bind fun q=>(fi δ q.2).bind fun r=>match q.1 with
  | .ref n=>(toK r.1).bind fun k=>(Kl r.2 n).bind fun kvs=>if kvs.length < 1000000 then some (.nx δ,r.2.set n (.dic (Te kvs k p.1))) else none
  | _=>none
theorem Ach(hu:X.A.units+64 < cLine)(ho:PEF X o fo)(hi:PEF X i fi)(hv:PEF X value fv)(hs:swapsWith value (some (.Subscript o i pos')) pos.line X.env=pure false:=by rfl):PSF X (.Assign [.Subscript o i pos'] value pos) (Y3 fo fi fv):=by
  refine PS.imp (Ac5 (by omega) ho hi hv hs) ?_
  rintro D σ H ⟨α,δ,L,A,S,fl,L',e,q⟩
  obtain ⟨⟨v,L1⟩,e1,e⟩:=Option.bind_eq_some_iff.mp e
  obtain ⟨⟨u,L2⟩,e2,e⟩:=Option.bind_eq_some_iff.mp e
  obtain ⟨⟨w,L3⟩,e3,e⟩:=Option.bind_eq_some_iff.mp e
  refine ⟨α,δ,L,A,S,v,L1,e1,fun xv H1 α1 g1 A1 rv=>⟨α1,δ,L1,A1,S.mono g1,u,L2,e2,fun x H2 α2 g2 A2 rx=>⟨α2,δ,L2,A2,(S.mono g1).mono g2,w,L3,e3,fun y H3 α3 g3 A3 ry=>?_⟩⟩⟩
  simp only at e
  split at e
  · obtain ⟨k,hk,e⟩:=Option.bind_eq_some_iff.mp e
    obtain ⟨kvs,hd,e⟩:=Option.bind_eq_some_iff.mp e
    split at e
    · rename_i hl
      cases e
      obtain ⟨a,vs,rfl,ea,ha,rk⟩:=V2 A3 hd (rx.mono g3)
      have rv':=rv.mono (g2.trans g3)
      obtain ⟨g4,A4⟩:=A3.setD hd ea ha (rk.put (k:=k) rv')
      refine ⟨a,_,rfl,?_,q σ _ α3 ((g1.trans (g2.trans g3)).trans g4) A4 ((((S.mono g1).mono g2).mono g3).mono g4)⟩
      rw[Acx ry hk]
      exact DPut.k ha (by rw[← rk.len];unfold sizeLine;omega)
    · cases e
  · cases e
end
theorem Akt{β:Type}{P:List β→Prop}(h:P [])(us:List β)(hl:us.length=0):P us:=by
  cases us with
  | nil=>exact h
  | cons=>cases hl
theorem Ag9{β:Type}{n:Nat}{P:List β→Prop}(h:∀ (a:β) (us:List β),us.length=n→P (a::us))(us:List β)(hl:us.length=n+1):P us:=by
  cases us with
  | nil=>cases hl
  | cons a us=>exact h a us (Nat.succ.inj hl)
theorem Nj{β:Type}{P:List β→Prop}(h:∀ a,P [a]):∀ us:List β,us.length=1→P us:=Ag9 fun a=>Akt (h a)
theorem Mw{β:Type}{P:List β→Prop}(h:∀ a b,P [a,b]):∀ us:List β,us.length=2→P us:=Ag9 fun a=>Nj (h a)
theorem Ajx{β:Type}{P:List β→Prop}(h:∀ a b c,P [a,b,c]):∀ us:List β,us.length=3→P us:=Ag9 fun a=>Mw (h a)
section
variable {X:Cx}{elts:List Expr}{x1:Nat}{tpos:Pos}
noncomputable def Qb(g:FA):FI:=fun δ L=>(g δ L).bind fun p=>match p.1 with
  | [.tup us,.tup ws]=>some (.seq (J2 us ws),p.2)
  | _=>none
theorem Sk{a b:Expr}{g:FA}{p pos:Pos}(hg:Gl X "zip")(hm:X.mg "zip" = none)(ha:PAF X [a,b] g)(hs:starEach [a,b] X.env=(false,eval a X.env)::starEach [b] X.env:=by rfl)(hpl:(backTo pos (starEach [b] X.env)).any (·.1)=false:=by rfl):PIF X (.Tuple elts x1 tpos) (.Call (.Name "zip" p) [a,b] [] pos) (Qb g):=by
  refine PI.imp (Aea hg hm ha hs hpl) ?_
  rintro σ H R ⟨α,δ,L,A,S,i,L3,e,q⟩
  obtain ⟨⟨us,L1⟩,e1,ee⟩:=Option.bind_eq_some_iff.mp e
  simp only at ee
  split at ee
  · cases ee
    refine ⟨α,δ,L,A,S,_,_,e1,fun xs H1 α1 g1 A1 r1=>?_⟩
    obtain ⟨x,y,rfl,rx,ry⟩:=r1.two
    unfold RepU at rx ry
    obtain ⟨a',ys,rfl,sq,r2⟩:=rx
    obtain ⟨b',ys',rfl,sq',r2'⟩:=ry
    exact ⟨a',b',ys,ys',rfl,sq,sq',q _ H1 α1 g1 A1 (Y2 sq sq' r2 r2')⟩
  · cases ee
end
end MR
namespace SO
open PySem PySem.W PyProof.Rows
noncomputable def On{α:Type}(n:Nat)(lt:Nat→Nat→Bool)(P:α→Prop):KasT α→Prop
  | .ret a=>P a
  | .ask i j k=>i < n∧j < n∧On n lt P (k (lt i j))
theorem On.bind{α β:Type}{n:Nat}{lt:Nat→Nat→Bool}{P:α→Prop}{Q:β→Prop}{f:α→KasT β}(hf:∀ a,P a→On n lt Q (f a)):∀ {t:KasT α},On n lt P t→On n lt Q (t.bind f)
  | .ret a,h=>hf a h
  | .ask i j k,h=>⟨h.1,h.2.1,On.bind hf h.2.2⟩
theorem On.imp{α:Type}{n:Nat}{lt:Nat→Nat→Bool}{P Q:α→Prop}(hf:∀ a,P a→Q a):∀ {t:KasT α},On n lt P t→On n lt Q t
  | .ret a,h=>hf a h
  | .ask i j k,h=>⟨h.1,h.2.1,On.imp hf h.2.2⟩
theorem On.wp{α:Type}{n:Nat}{lt:Nat→Nat→Bool}{P:α→Prop}{cmp:Nat→Nat→(Bool→Shared→Prop)→Shared→Prop}{s:Shared}{Q:α→Shared→Prop}(hc:∀ i j C,i < n→j < n→C (lt i j) s→cmp i j C s)(hq:∀ a,P a→Q a s):∀ {t:KasT α},On n lt P t→t.kasWp cmp Q s
  | .ret a,h=>hq a h
  | .ask i j k,h=>hc i j _ h.1 h.2.1 (On.wp hc hq h.2.2)
structure Wo(lt:Nat→Nat→Bool):Prop where
  asym:∀ i j,lt i j=true→lt j i=false
  tr:∀ i j k,lt j i=false→lt k j=false→lt k i=false
section
variable {lt:Nat→Nat→Bool}{n:Nat}
noncomputable def Le(lt:Nat→Nat→Bool)(i j:Nat):Prop:=lt j i=false
noncomputable def Eqv(lt:Nat→Nat→Bool)(i j:Nat):Prop:=Le lt i j∧Le lt j i
theorem Wo.refl(W:Wo lt)(i:Nat):Le lt i i:=by
  unfold Le
  cases h:lt i i with
  | false=>rfl
  | true=>have:=W.asym i i h;rw[h] at this;cases this
theorem Wo.le(W:Wo lt){i j:Nat}(h:lt i j=true):Le lt i j:=W.asym i j h
theorem Wo.trans(W:Wo lt){i j k:Nat}(h1:Le lt i j)(h2:Le lt j k):Le lt i k:=W.tr i j k h1 h2
noncomputable def at0(p:Array Nat)(i:Nat):Nat:=p.getD i 0
structure Pm(n:Nat)(p:Array Nat):Prop where
  size:p.size=n
  perm:p.toList.Perm (List.range n)
noncomputable def Up(lt:Nat→Nat→Bool)(p:Array Nat)(k:Nat):Prop:=∀ i j,i≤j→j < k→Le lt (at0 p i) (at0 p j)
noncomputable def Dn(lt:Nat→Nat→Bool)(p:Array Nat)(k:Nat):Prop:=∀ i j,i≤j→j < k→Le lt (at0 p j) (at0 p i)
theorem Up.one(W:Wo lt)(p:Array Nat):Up lt p 1:=fun i j h1 h2=>by
  have:i=j:=by omega
  subst this;exact W.refl _
theorem Up.snoc(W:Wo lt){p:Array Nat}{m:Nat}(h:Up lt p m)(hm:1≤m)(hl:Le lt (at0 p (m - 1)) (at0 p m)):Up lt p (m+1):=fun i j h1 h2=>by
  by_cases hj:j < m
  · exact h i j h1 hj
  · have hj:j=m:=by omega
    subst hj
    by_cases hi:i=j
    · subst hi;exact W.refl _
    · exact W.trans (h i (j - 1) (by omega) (by omega)) hl
theorem Dn.snoc(W:Wo lt){p:Array Nat}{m:Nat}(h:Dn lt p m)(hm:1≤m)(hl:Le lt (at0 p m) (at0 p (m - 1))):Dn lt p (m+1):=fun i j h1 h2=>by
  by_cases hj:j < m
  · exact h i j h1 hj
  · have hj:j=m:=by omega
    subst hj
    by_cases hi:i=j
    · subst hi;exact W.refl _
    · exact W.trans hl (h i (j - 1) (by omega) (by omega))
theorem Dn.eqv(W:Wo lt){p p':Array Nat}{m:Nat}(h:Dn lt p m)(he:∀ k,Eqv lt (at0 p' k) (at0 p k)):Dn lt p' m:=fun i j h1 h2=>W.trans (he j).1 (W.trans (h i j h1 h2) (he i).2)
end
end SO
namespace SO
open PySem PySem.W PySem.Calls PyProof.Rows
section
variable {P:Program}{w:World}{A:Around}{E:Value→Shared→Prop}{s:Shared}{vs:List Value}{lt:Nat→Nat→Bool}{κ:SortKind}
noncomputable def Kb(a:Addr)(h h':Heap):Prop:=∀ b o,b≠a→h.get? b=some o→h'.get? b=some o
theorem Kb.trans{a:Addr}{h h1 h2:Heap}(x:Kb a h h1)(y:Kb a h1 h2):Kb a h h2:=fun b o hb e=>y b o hb (x b o hb e)
theorem Act(h:Heap)(a:Addr)(f:Obj→Obj):Kb a h (h.update a f):=fun b o hb e=>((Heap.SameBut.update h a f).2 b hb).trans e
theorem Wd(a:Addr)(h:Heap)(o:Obj):Kb a h (h.push o):=fun _ _ _ e=>Heap.get?_push_of_some _ e
end
end SO
namespace LS
open PySem PyProof PyProof.Rows
noncomputable def Fo:Bool→Keyed→Array Keyed→Nat→Nat→Nat→StateT SortSt Sem (Option Nat):=sortPriv% PySem.Builtin.gallop
noncomputable def Oy:Array Keyed→Array Keyed→StateT SortSt Sem (Array Keyed):=sortPriv% PySem.Builtin.mergeLo
noncomputable def N9:Array Keyed→Array Keyed→StateT SortSt Sem (Array Keyed):=sortPriv% PySem.Builtin.mergeHi
noncomputable abbrev Ab3(st:SortSt)(g:Nat):SortSt:=SortSt.mk' (kindOf st) (arrOf st) (pendingOf st) g (failedOf st)
noncomputable abbrev Wv(g:Nat):StateT SortSt Sem Unit:=modify fun s=>Ab3 s g
noncomputable def Mx(left:Bool)(key:Keyed)(arr:Array Keyed)(base i:Nat):StateT SortSt Sem (Option Bool):=do
  let x ← elem' arr (base+i)
  if left then lt' x key else return (← lt' key x).map (!·)
theorem Vk(left:Bool)(key:Keyed)(arr:Array Keyed)(base n hint:Nat):Fo left key arr base n hint=(do
  let mut lastofs:=0
  let mut ofs:=1
  let mut lo:=0
  let mut hi:=0
  let some right ← Mx left key arr base hint | return none
  if right then
    for _ in [0:n] do
      if ofs ≥ n - hint then break
      let some more ← Mx left key arr base (hint+ofs) | return none
      if !more then break
      lastofs:=ofs
      ofs:=2 * ofs+1
    lo:=hint+lastofs+1
    hi:=hint+min ofs (n - hint)
  else
    for _ in [0:n] do
      if ofs ≥ hint+1 then break
      let some found ← Mx left key arr base (hint - ofs) | return none
      if found then break
      lastofs:=ofs
      ofs:=2 * ofs+1
    lo:=hint+1 - min ofs (hint+1)
    hi:=hint - lastofs
  for _ in [0:n] do
    if lo ≥ hi then break
    let m:=lo+(hi - lo) / 2
    let some more ← Mx left key arr base m | return none
    if more then lo:=m+1 else hi:=m
  return some hi):=rfl
section
variable {prog:Program}{w:World}{A:Around}{E:Value→Shared→Prop}{s:Shared}
theorem Wc{n:Nat}{st:SortSt}{Q:Option Nat→SortSt→Prop}(Pd:Nat→Bool)
    (hm:∀ i j,i≤j→j < n→Pd j=true→Pd i=true)
    (h:∀ k,k≤n→(∀ i,i < k→Pd i=true)→(∀ i,k≤i→i < n→Pd i=false)→Q (some k) st)
    (f:Nat→Option (Option Nat)×Nat×Nat→StateT SortSt Sem (ForInStep (Option (Option Nat)×Nat×Nat))) (g:Option (Option Nat)×Nat×Nat→StateT SortSt Sem (Option Nat))
    (hf1:∀ x l r,∀ Q:ForInStep (Option (Option Nat)×Nat×Nat)→SortSt→Prop,l ≥ r→Q (.done (none,l,r)) st→wpS (model prog w) A E s (f x (none,l,r)) Q st)
    (hf2:∀ x l r,∀ Q:ForInStep (Option (Option Nat)×Nat×Nat)→SortSt→Prop,¬ l ≥ r→r≤n→(Pd (l+(r - l) / 2)=true→Q (.yield (none,l+(r - l) / 2+1,r)) st) →
      (Pd (l+(r - l) / 2)=false→Q (.yield (none,l,l+(r - l) / 2)) st)→wpS (model prog w) A E s (f x (none,l,r)) Q st)
    (hg:∀ k,Q (some k) st→wpS (model prog w) A E s (g (none,k,k)) Q st)
    (lo hi:Nat) (h1:lo≤hi) (h2:hi≤n) (h3:∀ i,i < lo→Pd i=true) (h4:∀ i,hi≤i→i < n→Pd i=false) :
    wpS (model prog w) A E s (forIn [0:n] ((none,lo,hi):Option (Option Nat)×Nat×Nat) f >>= g) Q st:=by
  refine wpS_bind (wpS_mono (wpS_forRange (I:=fun x c st'=>st'=st∧∃ lo hi,c=(none,lo,hi)∧lo≤hi∧hi≤n∧hi - lo≤n - x∧(∀ i,i < lo→Pd i=true)∧(∀ i,hi≤i→i < n→Pd i=false))
    (Q:=fun c st'=>st'=st∧∃ k,c=(none,k,k)∧k≤n∧(∀ i,i < k→Pd i=true)∧(∀ i,k≤i→i < n→Pd i=false)) ?step ?fin ⟨rfl,lo,hi,rfl,h1,h2,by omega,h3,h4⟩) ?post)
  case post=>
    rintro c st' ⟨rfl,k,rfl,a,b,d⟩
    exact hg k (h k a b d)
  case fin=>
    rintro c st' ⟨rfl,l,r,rfl,a1,a2,a3,a4,a5⟩
    have:l=r:=by omega
    subst this
    exact ⟨rfl,l,rfl,a2,a4,a5⟩
  case step=>
    rintro x c st' _ hx ⟨rfl,l,r,rfl,a1,a2,a3,a4,a5⟩
    by_cases hgr:l ≥ r
    · have:l=r:=by omega
      subst this
      exact hf1 x l l _ hgr ⟨rfl,l,rfl,a2,a4,a5⟩
    · refine hf2 x l r _ hgr a2 (fun hp=>?_) (fun hp=>?_)
      · exact ⟨rfl,_,r,rfl,by omega,a2,by omega,fun i b1=>hm i _ (by omega) (by omega) hp,a5⟩
      · refine ⟨rfl,l,_,rfl,by omega,by omega,by omega,a4,fun i b1 b2=>?_⟩
        cases hq:Pd i
        · rfl
        · rw[hm _ i b1 b2 hq] at hp;cases hp
theorem Ud{left:Bool}{key:Keyed}{arr:Array Keyed}{base n hint:Nat}{st:SortSt}{Q:Option Nat→SortSt→Prop}(Pd:Nat→Bool)
    (hb:∀ i,i < n→∀ Q:Option Bool→SortSt→Prop,Q (some (Pd i)) st→wpS (model prog w) A E s (Mx left key arr base i) Q st)
    (hm:∀ i j,i≤j→j < n→Pd j=true→Pd i=true) (hh:hint < n)
    (h:∀ k,k≤n→(∀ i,i < k→Pd i=true)→(∀ i,k≤i→i < n→Pd i=false)→Q (some k) st) :
    wpS (model prog w) A E s (Fo left key arr base n hint) Q st:=by
  rw[Vk]
  dsimp only
  refine wpS_bind (hb _ hh _ ?_)
  dsimp only
  have up:∀ m,m < n→Pd m=false→∀ i,m≤i→i < n→Pd i=false:=by
    intro m _ hp i b1 b2
    cases hq:Pd i
    · rfl
    · rw[hm m i b1 b2 hq] at hp;cases hp
  cases hp:Pd hint
  · rw[if_neg (by simp)]
    refine wpS_bind (wpS_mono (wpS_forRange (I:=fun x c st'=>st'=st∧∃ la o,c=(none,la,o)∧la < o∧x+1≤o∧la≤hint∧Pd (hint - la)=false)
      (Q:=fun c st'=>st'=st∧∃ la o,c=(none,la,o)∧la < o∧la≤hint∧Pd (hint - la)=false∧(hint+1≤o∨Pd (hint - o)=true)) ?step ?fin
      ⟨rfl,0,1,rfl,by omega,by omega,by omega,hp⟩) ?post)
    case post=>
      rintro c st' ⟨rfl,la,o,rfl,b1,b2,b3,b4⟩
      dsimp only
      refine Wc Pd hm h _ _ (fun x l r Q hl hq=>by
        dsimp only
        rw[if_pos hl];exact wpS_pure hq) (fun x l r Q hl hr q1 q2=>by
        dsimp only
        rw[if_neg hl]
        refine wpS_bind (hb _ (by omega) _ ?_)
        dsimp only
        cases hq:Pd (l+(r - l) / 2)
        · rw[if_neg (by simp)];exact wpS_pure (q2 hq)
        · rw[if_pos rfl];exact wpS_pure (q1 hq)) (fun k hk=>wpS_pure hk) (hint+1 - min o (hint+1)) (hint - la) (by omega) (by omega) ?_ (up _ (by omega) b3)
      intro i hi
      rcases b4 with b4 | b4
      · omega
      · exact hm i _ (by omega) (by omega) b4
    case fin=>
      rintro c st' ⟨rfl,la,o,rfl,b1,b2,b3,b4⟩
      exact ⟨rfl,la,o,rfl,b1,b3,b4,.inl (by omega)⟩
    case step=>
      rintro x c st' _ hx ⟨rfl,la,o,rfl,b1,b2,b3,b4⟩
      dsimp only
      by_cases hg:o ≥ hint+1
      · rw[if_pos hg]
        exact wpS_pure ⟨rfl,la,o,rfl,b1,b3,b4,.inl hg⟩
      · rw[if_neg hg]
        refine wpS_bind (hb _ (by omega) _ ?_)
        dsimp only
        cases hq:Pd (hint - o)
        · rw[if_neg (by simp)]
          exact wpS_pure ⟨rfl,o,_,rfl,by omega,by omega,by omega,hq⟩
        · rw[if_pos rfl]
          exact wpS_pure ⟨rfl,la,o,rfl,b1,b3,b4,.inr hq⟩
  · rw[if_pos rfl]
    refine wpS_bind (wpS_mono (wpS_forRange (I:=fun x c st'=>st'=st∧∃ la o,c=(none,la,o)∧la < o∧x+1≤o∧la < n - hint∧Pd (hint+la)=true)
      (Q:=fun c st'=>st'=st∧∃ la o,c=(none,la,o)∧la < o∧la < n - hint∧Pd (hint+la)=true∧(n - hint≤o∨(o < n - hint∧Pd (hint+o)=false))) ?step ?fin
      ⟨rfl,0,1,rfl,by omega,by omega,by omega,hp⟩) ?post)
    case post=>
      rintro c st' ⟨rfl,la,o,rfl,b1,b2,b3,b4⟩
      dsimp only
      refine Wc Pd hm h _ _ (fun x l r Q hl hq=>by
        dsimp only
        rw[if_pos hl];exact wpS_pure hq) (fun x l r Q hl hr q1 q2=>by
        dsimp only
        rw[if_neg hl]
        refine wpS_bind (hb _ (by omega) _ ?_)
        dsimp only
        cases hq:Pd (l+(r - l) / 2)
        · rw[if_neg (by simp)];exact wpS_pure (q2 hq)
        · rw[if_pos rfl];exact wpS_pure (q1 hq)) (fun k hk=>wpS_pure hk) (hint+la+1) (hint+min o (n - hint)) (by omega) (by omega) (fun i hi=>hm i _ (by omega) (by omega) b3) ?_
      intro i hi hi2
      rcases b4 with b4 | ⟨b4,b5⟩
      · omega
      · exact up _ (by omega) b5 i (by omega) hi2
    case fin=>
      rintro c st' ⟨rfl,la,o,rfl,b1,b2,b3,b4⟩
      exact ⟨rfl,la,o,rfl,b1,b3,b4,.inl (by omega)⟩
    case step=>
      rintro x c st' _ hx ⟨rfl,la,o,rfl,b1,b2,b3,b4⟩
      dsimp only
      by_cases hg:o ≥ n - hint
      · rw[if_pos hg]
        exact wpS_pure ⟨rfl,la,o,rfl,b1,b3,b4,.inl hg⟩
      · rw[if_neg hg]
        refine wpS_bind (hb _ (by omega) _ ?_)
        dsimp only
        cases hq:Pd (hint+o)
        · rw[if_pos (by simp)]
          exact wpS_pure ⟨rfl,la,o,rfl,b1,b3,b4,.inr ⟨by omega,hq⟩⟩
        · rw[if_neg (by simp)]
          exact wpS_pure ⟨rfl,o,_,rfl,by omega,by omega,by omega,hq⟩
end
noncomputable def nk(p:Keyed):Int:=numOf p.1
noncomputable def IK(p:Keyed):Prop:=∃ n t,p.1 = .int n t
noncomputable def Srt(l:List Keyed):Prop:=l.Pairwise fun p q=>nk p≤nk q
section
variable {prog:Program}{w:World}{A:Around}{E:Value→Shared→Prop}{s:Shared}
theorem O8{st:SortSt}{p q:Keyed}{Q:Option Bool→SortSt→Prop}(hk:kindOf st=oneType')(hp:IK p)(hq:IK q)(h:Q (some (decide (nk p < nk q))) st) :
    wpS (model prog w) A E s (lt' p q) Q st:=by
  obtain ⟨n,t,hn⟩:=hp
  obtain ⟨m,u,hm⟩:=hq
  rw[lt'_eq]
  refine wpS_bind (wpS_get ?_)
  rw[hk,keyLt'_oneType,hn,hm]
  refine wpS_bind (wpS_lift (wpAny_attempt (oneLt_int ⟨rfl,?_⟩)))
  unfold nk at h
  rw[hn,hm] at h
  exact wpS_pure h
theorem Bn{st:SortSt}{arr:Array Keyed}{i:Nat}{p:Keyed}{Q:Keyed→SortSt→Prop}(e:arr.toList[i]? = some p)(h:Q p st) :
    wpS (model prog w) A E s (elem' arr i) Q st:=by
  rw[elem'_eq,← Array.getElem?_toList,e]
  exact wpS_pure h
theorem Th{left:Bool}{key:Keyed}{arr:Array Keyed}{base n hint:Nat}{st:SortSt}{Q:Option Nat→SortSt→Prop}(X:List Keyed)(T:Keyed→Bool)
    (hX:X.length=n) (he:∀ i,i < n→arr.toList[base+i]? = X[i]?)
    (hb:∀ p∈X,∀ Q:Option Bool→SortSt→Prop,Q (some (T p)) st→wpS (model prog w) A E s (if left then lt' p key else do return (← lt' key p).map (!·)) Q st)
    (hm:X.Pairwise fun p q=>T q=true→T p=true) (hh:hint < n)
    (h:∀ k,k≤n→(∀ p∈X.take k,T p=true)→(∀ p∈X.drop k,T p=false)→Q (some k) st) :
    wpS (model prog w) A E s (Fo left key arr base n hint) Q st:=by
  subst hX
  refine Ud (fun i=>(X[i]?.map T).getD false) ?_ ?_ hh ?_
  · intro i hi Q hq
    unfold Mx
    have e:X[i]? = some X[i]:=List.getElem?_eq_getElem hi
    rw[e] at hq
    refine wpS_bind (Bn ((he i hi).trans e) ?_)
    exact hb _ (List.getElem_mem hi) Q hq
  · intro i j hij hj hT
    have ej:X[j]? = some X[j]:=List.getElem?_eq_getElem hj
    have ei:X[i]? = some X[i]:=List.getElem?_eq_getElem (by omega)
    rw[ej] at hT
    rw[ei]
    by_cases hl:i=j
    · subst hl;exact hT
    · exact List.pairwise_iff_getElem.mp hm i j (by omega) hj (by omega) hT
  · intro k hk h1 h2
    refine h k hk ?_ ?_
    · intro p hp
      obtain ⟨i,hi,rfl⟩:=List.mem_iff_getElem.mp hp
      have hi':i < k∧i < X.length:=by simpa[List.length_take,Nat.lt_min] using hi
      have:=h1 i hi'.1
      rw[List.getElem?_eq_getElem hi'.2] at this
      rw[List.getElem_take]
      exact this
    · intro p hp
      obtain ⟨i,hi,rfl⟩:=List.mem_iff_getElem.mp hp
      have hi':k+i < X.length:=by simp[List.length_drop] at hi;omega
      have:=h2 (k+i) (by omega) hi'
      rw[List.getElem?_eq_getElem hi'] at this
      rw[List.getElem_drop]
      exact this
theorem Mq{key:Keyed}{arr:Array Keyed}{base n hint:Nat}{st:SortSt}{Q:Option Nat→SortSt→Prop}(X:List Keyed)
    (hX:X.length=n) (he:∀ i,i < n→arr.toList[base+i]? = X[i]?) (hk:kindOf st=oneType') (hi:∀ p∈X,IK p) (hkey:IK key) (hs:Srt X) (hh:hint < n)
    (h:∀ k,k≤n→(∀ p∈X.take k,nk p≤nk key)→(∀ p∈X.drop k,nk key < nk p)→Q (some k) st) :
    wpS (model prog w) A E s (Fo false key arr base n hint) Q st:=by
  refine Th X (fun p=>!decide (nk key < nk p)) hX he ?_ (hs.imp ?_) hh ?_
  · intro p hp Q hq
    rw[if_neg (by simp)]
    exact wpS_bind (O8 hk hkey (hi p hp) (wpS_pure hq))
  · intro p q hpq ht
    simp at ht ⊢
    omega
  · intro k a b c
    refine h k a (fun p hp=>?_) fun p hp=>?_
    · have:=b p hp
      simpa using this
    · have:=c p hp
      simpa using this
theorem Ph{key:Keyed}{arr:Array Keyed}{base n hint:Nat}{st:SortSt}{Q:Option Nat→SortSt→Prop}(X:List Keyed)
    (hX:X.length=n) (he:∀ i,i < n→arr.toList[base+i]? = X[i]?) (hk:kindOf st=oneType') (hi:∀ p∈X,IK p) (hkey:IK key) (hs:Srt X) (hh:hint < n)
    (h:∀ k,k≤n→(∀ p∈X.take k,nk p < nk key)→(∀ p∈X.drop k,nk key≤nk p)→Q (some k) st) :
    wpS (model prog w) A E s (Fo true key arr base n hint) Q st:=by
  refine Th X (fun p=>decide (nk p < nk key)) hX he ?_ (hs.imp ?_) hh ?_
  · intro p hp Q hq
    rw[if_pos rfl]
    exact O8 hk (hi p hp) hkey hq
  · intro p q hpq ht
    simp at ht ⊢
    omega
  · intro k a b c
    refine h k a (fun p hp=>?_) fun p hp=>?_
    · have:=b p hp
      simpa using this
    · have:=c p hp
      simpa using this
end
structure J(L out x y:List Keyed):Prop where
  perm:(out++(x++y)).Perm L
  sx:Srt (out++x)
  sy:Srt (out++y)
theorem Bc{x y:List Keyed}:Srt (x++y)↔Srt x∧Srt y∧∀ p∈x,∀ q∈y,nk p≤nk q:=List.pairwise_append
theorem J.ga{L out x1 x2 y:List Keyed}(h:J L out (x1++x2) y)(hl:∀ p∈x1,∀ q∈y,nk p≤nk q):J L (out++x1) x2 y:=by
  have a:=h.sx
  have b:=Bc.mp h.sy
  refine ⟨by simpa[List.append_assoc] using h.perm,by simpa[List.append_assoc] using a,?_⟩
  rw[← List.append_assoc] at a
  refine Bc.mpr ⟨(Bc.mp a).1,b.2.1,?_⟩
  intro p hp q hq
  rcases List.mem_append.mp hp with hp | hp
  · exact b.2.2 p hp q hq
  · exact hl p hp q hq
theorem J.swap{L out x y:List Keyed}(h:J L out x y):J L out y x:=⟨(List.perm_append_comm.append_left out).trans h.perm,h.sy,h.sx⟩
theorem J.gb{L out x y1 y2:List Keyed}(h:J L out x (y1++y2))(hl:∀ p∈y1,∀ q∈x,nk p≤nk q):J L (out++y1) x y2:=(h.swap.ga hl).swap
noncomputable def Fin(L:List Keyed)(r:Array Keyed):Prop:=r.toList.Perm L∧Srt r.toList
theorem ext_end(a:Array Keyed)(i:Nat):(a.extract i a.size).toList=a.toList.drop i:=by
  simp only[Array.toList_extract,List.extract_eq_take_drop]
  exact List.take_of_length_le (by simp)
theorem ext_k(a:Array Keyed)(i k:Nat):(a.extract i (i+k)).toList=(a.toList.drop i).take k:=by
  simp[List.extract_eq_take_drop]
noncomputable abbrev dn(a b out:Array Keyed)(ia ib:Nat):Array Keyed:=out++a.extract ia a.size++b.extract ib b.size
noncomputable abbrev lA(a b out:Array Keyed)(ia ib:Nat):Array Keyed:=out++b.extract ib b.size++a.extract ia a.size
theorem Oo{L:List Keyed}{a b out:Array Keyed}{ia ib:Nat}(h:J L out.toList (a.toList.drop ia) (b.toList.drop ib))(hb:ib=b.size∨ia=a.size):Fin L (dn a b out ia ib):=by
  have e:(dn a b out ia ib).toList=out.toList++(a.toList.drop ia++b.toList.drop ib):=by
    show (out++a.extract ia a.size++b.extract ib b.size).toList=_
    rw[Array.toList_append,Array.toList_append,ext_end,ext_end,List.append_assoc]
  unfold Fin
  rw[e]
  refine ⟨h.perm,?_⟩
  rcases hb with hb | hb
  · rw[List.drop_eq_nil_of_le (as:=b.toList) (by rw[hb];simp),List.append_nil]
    exact h.sx
  · rw[List.drop_eq_nil_of_le (as:=a.toList) (by rw[hb];simp),List.nil_append]
    exact h.sy
theorem Rh{L:List Keyed}{a b out:Array Keyed}{ia ib:Nat}(h:J L out.toList (a.toList.drop ia) (b.toList.drop ib))(ha:ia+1=a.size)
    (ht:∀ p∈a.toList.drop (a.size - 1),∀ q∈b.toList,nk q≤nk p):Fin L (lA a b out ia ib):=by
  have e:(lA a b out ia ib).toList=out.toList++(b.toList.drop ib++a.toList.drop ia):=by
    show (out++b.extract ib b.size++a.extract ia a.size).toList=_
    rw[Array.toList_append,Array.toList_append,ext_end,ext_end,List.append_assoc]
  unfold Fin
  rw[e]
  refine ⟨h.swap.perm,?_⟩
  have x:=Bc.mp h.sx
  have y:=Bc.mp h.sy
  refine Bc.mpr ⟨x.1,Bc.mpr ⟨y.2.1,x.2.1,?_⟩,?_⟩
  · intro p hp q hq
    exact ht q (by rw[← ha];exact hq) p (List.mem_of_mem_drop hp)
  · intro p hp q hq
    rcases List.mem_append.mp hq with hq | hq
    · exact y.2.2 p hp q hq
    · exact x.2.2 p hp q hq
noncomputable abbrev GS:Type:=Option (Array Keyed)×Array Keyed×Nat×Nat×Nat×Nat×Nat
noncomputable abbrev AS:Type:=Option (Array Keyed)×Array Keyed×Nat×Nat×Nat×Nat
noncomputable abbrev OS:Type:=Option (Array Keyed)×Array Keyed×Nat×Nat×Nat
noncomputable def lo3(a b:Array Keyed)(g k k2:Nat)(out:Array Keyed)(ia ib:Nat):StateT SortSt Sem (ForInStep GS):=do
  let p ← elem' a ia
  if (ia+1+1 == a.size)=true then pure (.done (some (lA a b (out.push p) (ia+1) ib),out.push p,ia+1,ib,g,k,k2)) else
  if (decide (k < 7)&&decide (k2 < 7))=true then pure (.done (none,out.push p,ia+1,ib,g,k,k2)) else pure (.yield (none,out.push p,ia+1,ib,g,k,k2))
noncomputable def lo2(a b:Array Keyed)(g k bc:Nat)(out:Array Keyed)(ia ib:Nat):StateT SortSt Sem (ForInStep GS):=do
  let p ← elem' b ib
  if (ib+1 == b.size)=true then pure (.done (some (dn a b (out.push p) ia (ib+1)),out.push p,ia,ib+1,g,k,bc)) else do
  let q ← elem' a ia
  let x ← Fo true q b (ib+1) (b.size - (ib+1)) 0
  match x with
  | some k2=>
    if k2 > 0 then
      if (ib+1+k2 == b.size)=true then
        pure (.done (some (dn a b (out.push p++b.extract (ib+1) (ib+1+k2)) ia (ib+1+k2)),out.push p++b.extract (ib+1) (ib+1+k2),ia,ib+1+k2,g,k,k2))
      else lo3 a b g k k2 (out.push p++b.extract (ib+1) (ib+1+k2)) ia (ib+1+k2)
    else lo3 a b g k k2 (out.push p) ia (ib+1)
  | _=>pure (.done (some (dn a b (out.push p) ia (ib+1)),out.push p,ia,ib+1,g,k,bc))
noncomputable def lo1(a b:Array Keyed)(c:GS)(g:Nat):StateT SortSt Sem (ForInStep GS):=do
  Wv g
  let p ← elem' b c.2.2.2.1
  let x ← Fo false p a c.2.2.1 (a.size - c.2.2.1) 0
  match x with
  | some k=>
    if k > 0 then
      if (c.2.2.1+k+1 == a.size)=true then
        pure (.done (some (lA a b (c.2.1++a.extract c.2.2.1 (c.2.2.1+k)) (c.2.2.1+k) c.2.2.2.1),c.2.1++a.extract c.2.2.1 (c.2.2.1+k),c.2.2.1+k,c.2.2.2.1,g,k,c.2.2.2.2.2.2))
      else
        if (c.2.2.1+k == a.size)=true then
          pure (.done (some (dn a b (c.2.1++a.extract c.2.2.1 (c.2.2.1+k)) (c.2.2.1+k) c.2.2.2.1),c.2.1++a.extract c.2.2.1 (c.2.2.1+k),c.2.2.1+k,c.2.2.2.1,g,k,c.2.2.2.2.2.2))
        else lo2 a b g k c.2.2.2.2.2.2 (c.2.1++a.extract c.2.2.1 (c.2.2.1+k)) (c.2.2.1+k) c.2.2.2.1
    else lo2 a b g k c.2.2.2.2.2.2 c.2.1 c.2.2.1 c.2.2.2.1
  | _=>pure (.done (some (dn a b c.2.1 c.2.2.1 c.2.2.2.1),c.2.1,c.2.2.1,c.2.2.2.1,g,c.2.2.2.2.2.1,c.2.2.2.2.2.2))
noncomputable def loB(a b:Array Keyed)(_:Nat)(c:GS):StateT SortSt Sem (ForInStep GS):=
  if c.2.2.2.2.1 > 1 then lo1 a b c (c.2.2.2.2.1 - 1) else lo1 a b c c.2.2.2.2.1
noncomputable def loA(a b:Array Keyed)(g:Nat)(_:Nat)(c:AS):StateT SortSt Sem (ForInStep AS):=do
  let p ← elem' b c.2.2.2.1
  let q ← elem' a c.2.2.1
  let x ← lt' p q
  match x with
  | some bWins=>
    if bWins=true then do
      let p ← elem' b c.2.2.2.1
      if (c.2.2.2.1+1 == b.size)=true then pure (.done (some (dn a b (c.2.1.push p) c.2.2.1 (c.2.2.2.1+1)),c.2.1.push p,c.2.2.1,c.2.2.2.1+1,0,c.2.2.2.2.2+1))
      else if c.2.2.2.2.2+1 ≥ g then pure (.done (none,c.2.1.push p,c.2.2.1,c.2.2.2.1+1,0,c.2.2.2.2.2+1))
      else pure (.yield (none,c.2.1.push p,c.2.2.1,c.2.2.2.1+1,0,c.2.2.2.2.2+1))
    else do
      let p ← elem' a c.2.2.1
      if (c.2.2.1+1+1 == a.size)=true then pure (.done (some (lA a b (c.2.1.push p) (c.2.2.1+1) c.2.2.2.1),c.2.1.push p,c.2.2.1+1,c.2.2.2.1,c.2.2.2.2.1+1,0))
      else if c.2.2.2.2.1+1 ≥ g then pure (.done (none,c.2.1.push p,c.2.2.1+1,c.2.2.2.1,c.2.2.2.2.1+1,0))
      else pure (.yield (none,c.2.1.push p,c.2.2.1+1,c.2.2.2.1,c.2.2.2.2.1+1,0))
  | _=>pure (.done (some (dn a b c.2.1 c.2.2.1 c.2.2.2.1),c.2.1,c.2.2.1,c.2.2.2.1,c.2.2.2.2.1,c.2.2.2.2.2))
noncomputable def loO(a b:Array Keyed)(_:Nat)(c:OS):StateT SortSt Sem (ForInStep OS):=do
  let d ← forIn [0:a.size+b.size] ((none,c.2.1,c.2.2.1,c.2.2.2.1,0,0):AS) (loA a b c.2.2.2.2)
  match d.1 with
  | some r=>pure (.done (some r,d.2.1,d.2.2.1,d.2.2.2.1,c.2.2.2.2))
  | none=>do
    liftM (rule "list.sort.gallop")
    let e ← forIn [0:a.size+b.size] ((none,d.2.1,d.2.2.1,d.2.2.2.1,c.2.2.2.2+1,d.2.2.2.2.1,d.2.2.2.2.2):GS) (loB a b)
    match e.1 with
    | some r=>pure (.done (some r,e.2.1,e.2.2.1,e.2.2.2.1,e.2.2.2.2.1))
    | none=>do
      Wv (e.2.2.2.2.1+1)
      pure (.yield (none,e.2.1,e.2.2.1,e.2.2.2.1,e.2.2.2.2.1+1))
theorem Tq(a b:Array Keyed):Oy a b=(do
  liftM (rule "list.sort.merge-lo")
  let p ← elem' b 0
  if (1 == b.size)=true then pure (dn a b #[p] 0 1) else
  if (0+1 == a.size)=true then pure (lA a b #[p] 0 1) else do
  let s ← get
  let c ← forIn [0:a.size+b.size] ((none,#[p],0,1,gallopOf s):OS) (loO a b)
  match c.1 with
  | some r=>pure r
  | none=>liftM (unsupported (α:=Array Keyed) "internal:list.sort.merge-bound")):=by
  kernel_rfl
section
variable {prog:Program}{w:World}{A:Around}{E:Value→Shared→Prop}{s:Shared}{L:List Keyed}{a b:Array Keyed}{st:SortSt}
structure Lo(L:List Keyed)(a b out:Array Keyed)(ia ib:Nat):Prop where
  ha:ia+1 < a.size
  hb:ib < b.size
  j:J L out.toList (a.toList.drop ia) (b.toList.drop ib)
structure Ms(a b:Array Keyed)(st:SortSt):Prop where
  kind:kindOf st=oneType'
  ka:∀ p∈a.toList,IK p
  kb:∀ p∈b.toList,IK p
noncomputable def Top(a b:Array Keyed):Prop:=∀ p∈a.toList.drop (a.size - 1),∀ q∈b.toList,nk q≤nk p
noncomputable def Sg(st st':SortSt):Prop:=∃ g,st'=Ab3 st g
theorem Sg.kind{st st':SortSt}(h:Sg st st'):kindOf st'=kindOf st:=by obtain ⟨g,rfl⟩:=h;rfl
theorem Sg.set{st st':SortSt}(h:Sg st st')(g:Nat):Sg st (Ab3 st' g):=by obtain ⟨g',rfl⟩:=h;exact ⟨g,rfl⟩
theorem Ms.of{st st':SortSt}(h:Ms a b st)(e:Sg st st'):Ms a b st':=⟨e.kind.trans h.kind,h.ka,h.kb⟩
theorem Je{a:Array Keyed}{i:Nat}(h:i < a.size):∃ p,a.toList[i]? = some p∧p∈a.toList∧a.toList.drop i=p::a.toList.drop (i+1):=by
  have h':i < a.toList.length:=by simpa using h
  exact ⟨a.toList[i],List.getElem?_eq_getElem h',List.getElem_mem h',List.drop_eq_getElem_cons h'⟩
noncomputable def PG(L:List Keyed)(a b:Array Keyed)(st:SortSt)(m:Nat)(r:ForInStep GS)(st':SortSt):Prop:=
  Sg st st'∧match r with
  | .done (some r,_)=>Fin L r
  | .done (none,out,ia,ib,_)=>Lo L a b out ia ib∧m≤ia+ib
  | .yield (none,out,ia,ib,_)=>Lo L a b out ia ib∧m≤ia+ib
  | .yield (some _,_)=>False
theorem N3{x:List Keyed}{p:Keyed}(h:Srt (p::x)):∀ q∈p::x,nk p≤nk q:=by
  intro q hq
  rcases List.mem_cons.mp hq with rfl | hq
  · exact Int.le_refl _
  · exact (List.pairwise_cons.mp h).1 q hq
theorem Aab{g k k2:Nat}{out:Array Keyed}{ia ib m:Nat}{st':SortSt}(M:Ms a b st)(hT:Top a b)(hs:Sg st st')(ha:ia+1 < a.size)(hb:ib < b.size)
    (j:J L out.toList (a.toList.drop ia) (b.toList.drop ib)) (hm:m≤ia+ib) (hl:∀ p,a.toList[ia]? = some p→∀ q∈b.toList.drop ib,nk p≤nk q) :
    wpS (model prog w) A E s (lo3 a b g k k2 out ia ib) (PG L a b st (m+1)) st':=by
  unfold lo3
  obtain ⟨p,e,hp,ed⟩:=Je (a:=a) (i:=ia) (by omega)
  refine wpS_bind (Bn e ?_)
  have j':J L (out.push p).toList (a.toList.drop (ia+1)) (b.toList.drop ib):=by
    rw[Array.toList_push]
    rw[ed] at j
    exact J.ga (x1:=[p]) j (fun x hx q hq=>by rw[List.mem_singleton.mp hx];exact hl p e q hq)
  by_cases h1:ia+1+1=a.size
  · rw[if_pos (by simpa using h1)]
    exact wpS_pure ⟨hs,Rh j' h1 hT⟩
  · rw[if_neg (by simpa using h1)]
    have lo:Lo L a b (out.push p) (ia+1) ib:=⟨by omega,hb,j'⟩
    split
    · exact wpS_pure ⟨hs,lo,by omega⟩
    · exact wpS_pure ⟨hs,lo,by omega⟩
theorem Abi{g k bc:Nat}{out:Array Keyed}{ia ib m:Nat}{st':SortSt}(M:Ms a b st)(hT:Top a b)(hs:Sg st st')(ha:ia+1 < a.size)(hb:ib < b.size)
    (j:J L out.toList (a.toList.drop ia) (b.toList.drop ib)) (hm:m≤ia+ib) (hl:∀ p,b.toList[ib]? = some p→∀ q∈a.toList.drop ia,nk p≤nk q) :
    wpS (model prog w) A E s (lo2 a b g k bc out ia ib) (PG L a b st (m+1)) st':=by
  unfold lo2
  obtain ⟨p,e,hp,ed⟩:=Je (a:=b) (i:=ib) hb
  refine wpS_bind (Bn e ?_)
  have j':J L (out.push p).toList (a.toList.drop ia) (b.toList.drop (ib+1)):=by
    rw[Array.toList_push]
    rw[ed] at j
    exact J.gb (y1:=[p]) j (fun x hx q hq=>by rw[List.mem_singleton.mp hx];exact hl p e q hq)
  by_cases h1:ib+1=b.size
  · rw[if_pos (by simpa using h1)]
    exact wpS_pure ⟨hs,Oo j' (.inl h1)⟩
  · rw[if_neg (by simpa using h1)]
    obtain ⟨q,eq,hq,edq⟩:=Je (a:=a) (i:=ia) (by omega)
    refine wpS_bind (Bn eq ?_)
    have hsa:Srt (q::a.toList.drop (ia+1)):=by rw[← edq];exact (Bc.mp j'.sx).2.1
    refine wpS_bind (Ph (b.toList.drop (ib+1)) (by simp) (fun i _=>by rw[List.getElem?_drop]) ((M.of hs).kind) (fun x hx=>M.kb x (List.mem_of_mem_drop hx)) (M.ka q hq)
      (Bc.mp j'.sy).2.1 (by omega) fun k2 hk2 c1 c2=>?_)
    dsimp only
    have hle:∀ p,a.toList[ia]? = some p→∀ x∈(b.toList.drop (ib+1)).drop k2,nk p≤nk x:=by
      intro p' ep x hx
      rw[eq] at ep
      cases ep
      exact c2 x hx
    have j2:J L ((out.push p).toList++(b.toList.drop (ib+1)).take k2) (a.toList.drop ia) ((b.toList.drop (ib+1)).drop k2):=by
      refine J.gb (by rw[List.take_append_drop];exact j') fun x hx y hy=>?_
      rw[edq] at hy
      have:=N3 hsa y hy
      have:=c1 x hx
      omega
    by_cases hk:k2 > 0
    · rw[if_pos hk]
      have j3:J L (out.push p++b.extract (ib+1) (ib+1+k2)).toList (a.toList.drop ia) (b.toList.drop (ib+1+k2)):=by
        rw[Array.toList_append,ext_k,show b.toList.drop (ib+1+k2)=(b.toList.drop (ib+1)).drop k2 from List.drop_drop.symm]
        exact j2
      by_cases h2:ib+1+k2=b.size
      · rw[if_pos (by simpa using h2)]
        exact wpS_pure ⟨hs,Oo j3 (.inl h2)⟩
      · rw[if_neg (by simpa using h2)]
        refine wpS_mono (Aab (m:=m) M hT hs ha (by omega) j3 (by omega) (by rw[← List.drop_drop];exact hle)) fun r st'' h=>h
    · rw[if_neg hk]
      have k0:k2=0:=by omega
      subst k0
      exact Aab (m:=m) M hT hs ha (by omega) j' (by omega) hle
theorem Aa2{c:GS}{g m:Nat}{st':SortSt}(M:Ms a b st)(hT:Top a b)(hs:Sg st st')(hL:Lo L a b c.2.1 c.2.2.1 c.2.2.2.1)(hm:m≤c.2.2.1+c.2.2.2.1) :
    wpS (model prog w) A E s (lo1 a b c g) (PG L a b st (m+1)) st':=by
  obtain ⟨r,out,ia,ib,g0,ac,bc⟩:=c
  dsimp only at hL hm
  obtain ⟨ha,hb,j⟩:=hL
  unfold lo1
  dsimp only
  refine wpS_bind (wpS_modify ?_)
  obtain ⟨p,e,hp,ed⟩:=Je (a:=b) (i:=ib) hb
  refine wpS_bind (Bn e ?_)
  have hs':Sg st (Ab3 st' g):=hs.set g
  have hsb:Srt (p::b.toList.drop (ib+1)):=by rw[← ed];exact (Bc.mp j.sy).2.1
  refine wpS_bind (Mq (a.toList.drop ia) (by simp) (fun i _=>by rw[List.getElem?_drop]) ((M.of hs').kind) (fun x hx=>M.ka x (List.mem_of_mem_drop hx)) (M.kb p hp)
    (Bc.mp j.sx).2.1 (by omega) fun k hk2 c1 c2=>?_)
  dsimp only
  have hle:∀ p',b.toList[ib]? = some p'→∀ x∈(a.toList.drop ia).drop k,nk p'≤nk x:=by
    intro p' ep x hx
    rw[e] at ep
    cases ep
    exact Int.le_of_lt (c2 x hx)
  have j2:J L (out.toList++(a.toList.drop ia).take k) ((a.toList.drop ia).drop k) (b.toList.drop ib):=by
    refine J.ga (by rw[List.take_append_drop];exact j) fun x hx y hy=>?_
    rw[ed] at hy
    have:=N3 hsb y hy
    have:=c1 x hx
    omega
  by_cases hk:k > 0
  · rw[if_pos hk]
    have j3:J L (out++a.extract ia (ia+k)).toList (a.toList.drop (ia+k)) (b.toList.drop ib):=by
      rw[Array.toList_append,ext_k,← List.drop_drop]
      exact j2
    by_cases h2:ia+k+1=a.size
    · rw[if_pos (by simpa using h2)]
      exact wpS_pure ⟨hs',Rh j3 h2 hT⟩
    · rw[if_neg (by simpa using h2)]
      by_cases h3:ia+k=a.size
      · rw[if_pos (by simpa using h3)]
        exact wpS_pure ⟨hs',Oo j3 (.inr h3)⟩
      · rw[if_neg (by simpa using h3)]
        exact Abi (m:=m) M hT hs' (by omega) hb j3 (by omega) (by rw[← List.drop_drop];exact hle)
  · rw[if_neg hk]
    have k0:k=0:=by omega
    subst k0
    exact Abi (m:=m) M hT hs' ha hb j hm hle
noncomputable def PA(L:List Keyed)(a b:Array Keyed)(st:SortSt)(m:Nat)(r:ForInStep AS)(st':SortSt):Prop:=
  Sg st st'∧match r with
  | .done (some r,_)=>Fin L r
  | .done (none,out,ia,ib,_)=>Lo L a b out ia ib∧m≤ia+ib
  | .yield (none,out,ia,ib,_)=>Lo L a b out ia ib∧m≤ia+ib
  | .yield (some _,_)=>False
theorem Agm{c:AS}{g x m:Nat}{st':SortSt}(M:Ms a b st)(hT:Top a b)(hs:Sg st st')(hL:Lo L a b c.2.1 c.2.2.1 c.2.2.2.1)(hm:m≤c.2.2.1+c.2.2.2.1) :
    wpS (model prog w) A E s (loA a b g x c) (PA L a b st (m+1)) st':=by
  obtain ⟨r,out,ia,ib,ac,bc⟩:=c
  dsimp only at hL hm
  obtain ⟨ha,hb,j⟩:=hL
  unfold loA
  dsimp only
  obtain ⟨p,e,hp,ed⟩:=Je (a:=b) (i:=ib) hb
  obtain ⟨q,eq,hq,edq⟩:=Je (a:=a) (i:=ia) (by omega)
  refine wpS_bind (Bn e ?_)
  refine wpS_bind (Bn eq ?_)
  refine wpS_bind (O8 ((M.of hs).kind) (M.kb p hp) (M.ka q hq) ?_)
  dsimp only
  have hsb:Srt (p::b.toList.drop (ib+1)):=by rw[← ed];exact (Bc.mp j.sy).2.1
  have hsa:Srt (q::a.toList.drop (ia+1)):=by rw[← edq];exact (Bc.mp j.sx).2.1
  by_cases hlt:nk p < nk q
  · rw[if_pos (by simpa using hlt)]
    refine wpS_bind (Bn e ?_)
    have j':J L (out.push p).toList (a.toList.drop ia) (b.toList.drop (ib+1)):=by
      rw[Array.toList_push]
      rw[ed] at j
      refine J.gb (y1:=[p]) j (fun x hx y hy=>?_)
      rw[List.mem_singleton.mp hx]
      rw[edq] at hy
      have:=N3 hsa y hy
      omega
    by_cases h1:ib+1=b.size
    · rw[if_pos (by simpa using h1)]
      exact wpS_pure ⟨hs,Oo j' (.inl h1)⟩
    · rw[if_neg (by simpa using h1)]
      have lo:Lo L a b (out.push p) ia (ib+1):=⟨ha,by omega,j'⟩
      split
      · exact wpS_pure ⟨hs,lo,by omega⟩
      · exact wpS_pure ⟨hs,lo,by omega⟩
  · rw[if_neg (by simpa using hlt)]
    refine wpS_bind (Bn eq ?_)
    have j':J L (out.push q).toList (a.toList.drop (ia+1)) (b.toList.drop ib):=by
      rw[Array.toList_push]
      rw[edq] at j
      refine J.ga (x1:=[q]) j (fun x hx y hy=>?_)
      rw[List.mem_singleton.mp hx]
      rw[ed] at hy
      have:=N3 hsb y hy
      omega
    by_cases h1:ia+1+1=a.size
    · rw[if_pos (by simpa using h1)]
      exact wpS_pure ⟨hs,Rh j' h1 hT⟩
    · rw[if_neg (by simpa using h1)]
      have lo:Lo L a b (out.push q) (ia+1) ib:=⟨by omega,hb,j'⟩
      split
      · exact wpS_pure ⟨hs,lo,by omega⟩
      · exact wpS_pure ⟨hs,lo,by omega⟩
theorem Aax{g m:Nat}{out:Array Keyed}{ia ib:Nat}{st':SortSt}(M:Ms a b st)(hT:Top a b)(hs:Sg st st')(hL:Lo L a b out ia ib)(hm:m≤ia+ib) :
    wpS (model prog w) A E s (forIn [0:a.size+b.size] ((none,out,ia,ib,0,0):AS) (loA a b g))
      (fun d st''=>Sg st st''∧match d with | (some r,_)=>Fin L r | (none,out,ia,ib,_)=>Lo L a b out ia ib∧m+1≤ia+ib) st':=by
  have hpos:0 < a.size+b.size:=by have:=hL.ha;omega
  refine wpS_forRange (I:=fun x (d:AS) st''=>Sg st st''∧d.1=none∧Lo L a b d.2.1 d.2.2.1 d.2.2.2.1∧m+min x 1≤d.2.2.1+d.2.2.2.1) ?_ ?_ ⟨hs,rfl,hL,by show m+min 0 1≤ia+ib;omega⟩
  · rintro x ⟨r,c⟩ st'' _ hx ⟨h1,h2,h3,h4⟩
    refine wpS_mono (Agm (m:=m) M hT h1 h3 (by omega)) ?_
    rintro (⟨r',o,i1,i2,c'⟩ | ⟨r',o,i1,i2,c'⟩) st3 ⟨k1,k2⟩
    · cases r' with
      | some r'=>exact ⟨k1,k2⟩
      | none=>exact ⟨k1,k2⟩
    · cases r' with
      | some r'=>exact k2.elim
      | none=>exact ⟨k1,rfl,k2.1,by have:=k2.2;show m+min (x+1) 1≤i1+i2;omega⟩
  · rintro ⟨r,o,i1,i2,c⟩ st'' ⟨h1,h2,h3,h4⟩
    dsimp only at h2 h3 h4
    subst h2
    exact ⟨h1,h3,by omega⟩
theorem Aaz{g m ac bc:Nat}{out:Array Keyed}{ia ib:Nat}{st':SortSt}(M:Ms a b st)(hT:Top a b)(hs:Sg st st')(hL:Lo L a b out ia ib)(hm:m≤ia+ib) :
    wpS (model prog w) A E s (forIn [0:a.size+b.size] ((none,out,ia,ib,g,ac,bc):GS) (loB a b))
      (fun d st''=>Sg st st''∧match d with | (some r,_)=>Fin L r | (none,out,ia,ib,_)=>Lo L a b out ia ib∧m≤ia+ib) st':=by
  refine wpS_forRange (I:=fun x (d:GS) st''=>Sg st st''∧d.1=none∧Lo L a b d.2.1 d.2.2.1 d.2.2.2.1∧m≤d.2.2.1+d.2.2.2.1) ?_ ?_ ⟨hs,rfl,hL,hm⟩
  · rintro x d st'' _ hx ⟨h1,h2,h3,h4⟩
    have key:wpS (model prog w) A E s (loB a b x d) (PG L a b st (m+1)) st'':=by
      unfold loB
      split
      · exact Aa2 (m:=m) M hT h1 h3 h4
      · exact Aa2 (m:=m) M hT h1 h3 h4
    refine wpS_mono key ?_
    rintro (⟨r',o,i1,i2,c'⟩ | ⟨r',o,i1,i2,c'⟩) st3 ⟨k1,k2⟩
    · cases r' with
      | some r'=>exact ⟨k1,k2⟩
      | none=>exact ⟨k1,k2.1,by have:=k2.2;omega⟩
    · cases r' with
      | some r'=>exact k2.elim
      | none=>exact ⟨k1,rfl,k2.1,by have:=k2.2;show m≤i1+i2;omega⟩
  · rintro ⟨r,o,i1,i2,c⟩ st'' ⟨h1,h2,h3,h4⟩
    dsimp only at h2 h3 h4
    subst h2
    exact ⟨h1,h3,h4⟩
theorem Ah3{c:OS}{x m:Nat}{st':SortSt}(M:Ms a b st)(hT:Top a b)(hs:Sg st st')(hL:Lo L a b c.2.1 c.2.2.1 c.2.2.2.1)(hm:m≤c.2.2.1+c.2.2.2.1) :
    wpS (model prog w) A E s (loO a b x c) (fun r st''=>Sg st st''∧match r with
      | .done d=>∃ r,d.1=some r∧Fin L r
      | .yield d=>d.1=none∧Lo L a b d.2.1 d.2.2.1 d.2.2.2.1∧m+1≤d.2.2.1+d.2.2.2.1) st':=by
  unfold loO
  refine wpS_bind (wpS_mono (Aax (m:=m) M hT hs hL hm) ?_)
  rintro ⟨r,o,i1,i2,ac,bc⟩ st2 ⟨h1,h2⟩
  cases r with
  | some r=>exact wpS_pure ⟨h1,r,rfl,h2⟩
  | none=>
    refine wpS_bind (wpS_lift (wpAny_rule ⟨rfl,?_⟩))
    refine wpS_bind (wpS_mono (Aaz (m:=m+1) M hT h1 h2.1 h2.2) ?_)
    rintro ⟨r,o,i1,i2,g,ac,bc⟩ st3 ⟨k1,k2⟩
    cases r with
    | some r=>exact wpS_pure ⟨k1,r,rfl,k2⟩
    | none=>
      refine wpS_bind (wpS_modify (wpS_pure ⟨k1.set _,rfl,k2.1,k2.2⟩))
theorem U9{Q:Array Keyed→SortSt→Prop}(M:Ms a b st)(hT:Top a b)(h1:0 < a.size)(h2:0 < b.size)(sa:Srt a.toList)(sb:Srt b.toList)
    (hf:∀ p,b.toList[0]? = some p→∀ q∈a.toList,nk p≤nk q)
    (h:∀ r st',Sg st st'→Fin (a.toList++b.toList) r→Q r st'):wpS (model prog w) A E s (Oy a b) Q st:=by
  rw[Tq]
  refine wpS_bind (wpS_lift (wpAny_rule ⟨rfl,?_⟩))
  obtain ⟨p,e,hp,ed⟩:=Je (a:=b) (i:=0) h2
  refine wpS_bind (Bn e ?_)
  have s0:Sg st st:=⟨gallopOf st,rfl⟩
  have j:J (a.toList++b.toList) (#[p]:Array Keyed).toList (a.toList.drop 0) (b.toList.drop 1):=by
    have j0:J (a.toList++b.toList) [] a.toList ([p]++b.toList.drop (0+1)):=by
      rw[List.drop_zero] at ed
      refine ⟨?_,?_,?_⟩
      · show ([]++(a.toList++(p::b.toList.drop (0+1)))).Perm _
        rw[← ed];exact List.Perm.refl _
      · exact sa
      · show Srt (p::b.toList.drop (0+1))
        rw[← ed];exact sb
    exact j0.gb (fun x hx q hq=>by rw[List.mem_singleton.mp hx];exact hf p e q hq)
  by_cases c1:1=b.size
  · rw[if_pos (by simpa using c1)]
    exact wpS_pure (h _ _ s0 (Oo j (.inl c1)))
  · rw[if_neg (by simpa using c1)]
    by_cases c2:0+1=a.size
    · rw[if_pos (by simpa using c2)]
      exact wpS_pure (h _ _ s0 (Rh j c2 hT))
    · rw[if_neg (by simpa using c2)]
      refine wpS_bind (wpS_get ?_)
      refine wpS_bind (wpS_mono (wpS_forRange (I:=fun x (d:OS) st'=>Sg st st'∧d.1=none∧Lo (a.toList++b.toList) a b d.2.1 d.2.2.1 d.2.2.2.1∧x+1≤d.2.2.1+d.2.2.2.1)
        (Q:=fun d st'=>Sg st st'∧∃ r,d.1=some r∧Fin (a.toList++b.toList) r) ?_ ?_ ⟨s0,rfl,⟨by show 0+1 < a.size;omega,by show 1 < b.size;omega,j⟩,by show 0+1≤0+1;omega⟩) ?_)
      · rintro x c st' _ hx ⟨k1,k2,k3,k4⟩
        refine wpS_mono (Ah3 (m:=x+1) M hT k1 k3 k4) ?_
        rintro (d | d) st'' ⟨l1,l2⟩
        · exact ⟨l1,l2⟩
        · exact ⟨l1,l2.1,l2.2.1,l2.2.2⟩
      · rintro c st' ⟨k1,k2,k3,k4⟩
        have:=k3.ha
        have:=k3.hb
        omega
      · rintro ⟨r,c⟩ st' ⟨k1,r',k2,k3⟩
        dsimp only at k2
        subst k2
        exact wpS_pure (h _ _ k1 k3)
end
noncomputable abbrev HG:Type:=Option (Array Keyed)×Nat×Nat×Array Keyed×Nat×Nat×Nat
noncomputable abbrev HA:Type:=Option (Array Keyed)×Nat×Nat×Array Keyed×Nat×Nat
noncomputable abbrev HO:Type:=Option (Array Keyed)×Nat×Nat×Array Keyed×Nat
noncomputable abbrev dnH(a b out:Array Keyed)(na nb:Nat):Array Keyed:=a.extract 0 na++b.extract 0 nb++out.reverse
noncomputable abbrev fB(a b out:Array Keyed)(na nb:Nat):Array Keyed:=b.extract 0 nb++a.extract 0 na++out.reverse
noncomputable def hi3(a b:Array Keyed)(g k k2:Nat)(out:Array Keyed)(na nb:Nat):StateT SortSt Sem (ForInStep HG):=do
  let p ← elem' a (na - 1)
  if (na - 1 == 0)=true then pure (.done (some (dnH a b (out.push p) (na - 1) nb),na - 1,nb,out.push p,g,k,k2)) else
  if (decide (k < 7)&&decide (k2 < 7))=true then pure (.done (none,na - 1,nb,out.push p,g,k,k2)) else pure (.yield (none,na - 1,nb,out.push p,g,k,k2))
noncomputable def hi2(a b:Array Keyed)(g k bc:Nat)(out:Array Keyed)(na nb:Nat):StateT SortSt Sem (ForInStep HG):=do
  let p ← elem' b (nb - 1)
  if (nb - 1 == 1)=true then pure (.done (some (fB a b (out.push p) na (nb - 1)),na,nb - 1,out.push p,g,k,bc)) else do
  let q ← elem' a (na - 1)
  let x ← Fo true q b 0 (nb - 1) (nb - 1 - 1)
  match x with
  | some t=>
    if nb - 1 - t > 0 then
      if (t == 1)=true then
        pure (.done (some (fB a b (out.push p++(b.extract t (nb - 1)).reverse) na t),na,t,out.push p++(b.extract t (nb - 1)).reverse,g,k,nb - 1 - t))
      else if (t == 0)=true then
        pure (.done (some (dnH a b (out.push p++(b.extract t (nb - 1)).reverse) na t),na,t,out.push p++(b.extract t (nb - 1)).reverse,g,k,nb - 1 - t))
      else hi3 a b g k (nb - 1 - t) (out.push p++(b.extract t (nb - 1)).reverse) na t
    else hi3 a b g k (nb - 1 - t) (out.push p) na (nb - 1)
  | _=>pure (.done (some (dnH a b (out.push p) na (nb - 1)),na,nb - 1,out.push p,g,k,bc))
noncomputable def hi1(a b:Array Keyed)(c:HG)(g:Nat):StateT SortSt Sem (ForInStep HG):=do
  Wv g
  let p ← elem' b (c.2.2.1 - 1)
  let x ← Fo false p a 0 c.2.1 (c.2.1 - 1)
  match x with
  | some t=>
    if c.2.1 - t > 0 then
      if (t == 0)=true then
        pure (.done (some (dnH a b (c.2.2.2.1++(a.extract t c.2.1).reverse) t c.2.2.1),t,c.2.2.1,c.2.2.2.1++(a.extract t c.2.1).reverse,g,c.2.1 - t,c.2.2.2.2.2.2))
      else hi2 a b g (c.2.1 - t) c.2.2.2.2.2.2 (c.2.2.2.1++(a.extract t c.2.1).reverse) t c.2.2.1
    else hi2 a b g (c.2.1 - t) c.2.2.2.2.2.2 c.2.2.2.1 c.2.1 c.2.2.1
  | _=>pure (.done (some (dnH a b c.2.2.2.1 c.2.1 c.2.2.1),c.2.1,c.2.2.1,c.2.2.2.1,g,c.2.2.2.2.2.1,c.2.2.2.2.2.2))
noncomputable def hiB(a b:Array Keyed)(_:Nat)(c:HG):StateT SortSt Sem (ForInStep HG):=
  if c.2.2.2.2.1 > 1 then hi1 a b c (c.2.2.2.2.1 - 1) else hi1 a b c c.2.2.2.2.1
noncomputable def hiA(a b:Array Keyed)(g:Nat)(_:Nat)(c:HA):StateT SortSt Sem (ForInStep HA):=do
  let p ← elem' b (c.2.2.1 - 1)
  let q ← elem' a (c.2.1 - 1)
  let x ← lt' p q
  match x with
  | some aWins=>
    if aWins=true then do
      let p ← elem' a (c.2.1 - 1)
      if (c.2.1 - 1 == 0)=true then pure (.done (some (dnH a b (c.2.2.2.1.push p) (c.2.1 - 1) c.2.2.1),c.2.1 - 1,c.2.2.1,c.2.2.2.1.push p,c.2.2.2.2.1+1,0))
      else if c.2.2.2.2.1+1 ≥ g then pure (.done (none,c.2.1 - 1,c.2.2.1,c.2.2.2.1.push p,c.2.2.2.2.1+1,0))
      else pure (.yield (none,c.2.1 - 1,c.2.2.1,c.2.2.2.1.push p,c.2.2.2.2.1+1,0))
    else do
      let p ← elem' b (c.2.2.1 - 1)
      if (c.2.2.1 - 1 == 1)=true then pure (.done (some (fB a b (c.2.2.2.1.push p) c.2.1 (c.2.2.1 - 1)),c.2.1,c.2.2.1 - 1,c.2.2.2.1.push p,0,c.2.2.2.2.2+1))
      else if c.2.2.2.2.2+1 ≥ g then pure (.done (none,c.2.1,c.2.2.1 - 1,c.2.2.2.1.push p,0,c.2.2.2.2.2+1))
      else pure (.yield (none,c.2.1,c.2.2.1 - 1,c.2.2.2.1.push p,0,c.2.2.2.2.2+1))
  | _=>pure (.done (some (dnH a b c.2.2.2.1 c.2.1 c.2.2.1),c.2.1,c.2.2.1,c.2.2.2.1,c.2.2.2.2.1,c.2.2.2.2.2))
noncomputable def hiO(a b:Array Keyed)(_:Nat)(c:HO):StateT SortSt Sem (ForInStep HO):=do
  let d ← forIn [0:a.size+b.size] ((none,c.2.1,c.2.2.1,c.2.2.2.1,0,0):HA) (hiA a b c.2.2.2.2)
  match d.1 with
  | some r=>pure (.done (some r,d.2.1,d.2.2.1,d.2.2.2.1,c.2.2.2.2))
  | none=>do
    liftM (rule "list.sort.gallop")
    let e ← forIn [0:a.size+b.size] ((none,d.2.1,d.2.2.1,d.2.2.2.1,c.2.2.2.2+1,d.2.2.2.2.1,d.2.2.2.2.2):HG) (hiB a b)
    match e.1 with
    | some r=>pure (.done (some r,e.2.1,e.2.2.1,e.2.2.2.1,e.2.2.2.2.1))
    | none=>do
      Wv (e.2.2.2.2.1+1)
      pure (.yield (none,e.2.1,e.2.2.1,e.2.2.2.1,e.2.2.2.2.1+1))
theorem Sl(a b:Array Keyed):N9 a b=(do
  liftM (rule "list.sort.merge-hi")
  let p ← elem' a (a.size - 1)
  if (a.size - 1 == 0)=true then pure (dnH a b #[p] (a.size - 1) b.size) else
  if (b.size == 1)=true then pure (fB a b #[p] (a.size - 1) b.size) else do
  let s ← get
  let c ← forIn [0:a.size+b.size] ((none,a.size - 1,b.size,#[p],gallopOf s):HO) (hiO a b)
  match c.1 with
  | some r=>pure r
  | none=>liftM (unsupported (α:=Array Keyed) "internal:list.sort.merge-bound")):=by
  kernel_rfl
structure JH(L R x y:List Keyed):Prop where
  perm:(x++y++R).Perm L
  sx:Srt (x++R)
  sy:Srt (y++R)
theorem JH.ga{L R x1 x2 y:List Keyed}(h:JH L R (x1++x2) y)(hl:∀ p∈x2,∀ q∈y,nk q≤nk p):JH L (x2++R) x1 y:=by
  have a:=h.sx
  have b:=Bc.mp h.sy
  refine ⟨?_,by simpa[List.append_assoc] using a,?_⟩
  · refine List.Perm.trans ?_ h.perm
    rw[List.append_assoc,List.append_assoc,List.append_assoc]
    refine List.Perm.append_left x1 ?_
    rw[← List.append_assoc,← List.append_assoc]
    exact List.Perm.append_right R List.perm_append_comm
  · rw[List.append_assoc] at a
    refine Bc.mpr ⟨b.1,(Bc.mp a).2.1,?_⟩
    intro p hp q hq
    rcases List.mem_append.mp hq with hq | hq
    · exact hl q hq p hp
    · exact b.2.2 p hp q hq
theorem JH.swap{L R x y:List Keyed}(h:JH L R x y):JH L R y x:=⟨(List.perm_append_comm.append_right R).trans h.perm,h.sy,h.sx⟩
theorem JH.gb{L R x y1 y2:List Keyed}(h:JH L R x (y1++y2))(hl:∀ p∈y2,∀ q∈x,nk q≤nk p):JH L (y2++R) x y1:=(h.swap.ga hl).swap
theorem ext_0(a:Array Keyed)(n:Nat):(a.extract 0 n).toList=a.toList.take n:=by
  simp[List.extract_eq_take_drop]
theorem Afz(a:Array Keyed)(t n:Nat):(a.extract t n).toList=(a.toList.take n).drop t:=by
  simp only[Array.toList_extract,List.extract_eq_take_drop]
  rw[List.drop_take]
theorem K1{L:List Keyed}{a b out:Array Keyed}{na nb:Nat}(h:JH L out.toList.reverse (a.toList.take na) (b.toList.take nb))(hz:na=0∨nb=0):Fin L (dnH a b out na nb):=by
  have e:(dnH a b out na nb).toList=a.toList.take na++b.toList.take nb++out.toList.reverse:=by
    show (a.extract 0 na++b.extract 0 nb++out.reverse).toList=_
    rw[Array.toList_append,Array.toList_append,ext_0,ext_0,Array.toList_reverse]
  unfold Fin
  rw[e]
  refine ⟨h.perm,?_⟩
  rcases hz with rfl | rfl
  · rw[List.take_zero,List.nil_append]
    exact h.sy
  · rw[List.take_zero,List.append_nil]
    exact h.sx
theorem Rv{L:List Keyed}{a b out:Array Keyed}{na nb:Nat}(h:JH L out.toList.reverse (a.toList.take na) (b.toList.take nb))(hb:nb=1)
    (ht:∀ p∈b.toList.take 1,∀ q∈a.toList,nk p≤nk q):Fin L (fB a b out na nb):=by
  have e:(fB a b out na nb).toList=b.toList.take nb++a.toList.take na++out.toList.reverse:=by
    show (b.extract 0 nb++a.extract 0 na++out.reverse).toList=_
    rw[Array.toList_append,Array.toList_append,ext_0,ext_0,Array.toList_reverse]
  unfold Fin
  rw[e]
  refine ⟨h.swap.perm,?_⟩
  have x:=Bc.mp h.sx
  have y:=Bc.mp h.sy
  refine Bc.mpr ⟨Bc.mpr ⟨y.1,x.1,?_⟩,x.2.1,?_⟩
  · intro p hp q hq
    exact ht p (by rw[← hb];exact hp) q (List.mem_of_mem_take hq)
  · intro p hp q hq
    rcases List.mem_append.mp hp with hp | hp
    · exact y.2.2 p hp q hq
    · exact x.2.2 p hp q hq
section
variable {prog:Program}{w:World}{A:Around}{E:Value→Shared→Prop}{s:Shared}{L:List Keyed}{a b:Array Keyed}{st:SortSt}
structure Hi(L:List Keyed)(a b out:Array Keyed)(na nb:Nat):Prop where
  h1:0 < na
  h2:1 < nb
  ha:na≤a.size
  hb:nb≤b.size
  j:JH L out.toList.reverse (a.toList.take na) (b.toList.take nb)
noncomputable def Bot(a b:Array Keyed):Prop:=∀ p∈b.toList.take 1,∀ q∈a.toList,nk p≤nk q
theorem Iy{a:Array Keyed}{n:Nat}(h0:0 < n)(h:n≤a.size):∃ p,a.toList[n - 1]? = some p∧p∈a.toList∧a.toList.take n=a.toList.take (n - 1)++[p]:=by
  have h':n - 1 < a.toList.length:=by simp;omega
  refine ⟨a.toList[n - 1],List.getElem?_eq_getElem h',List.getElem_mem h',?_⟩
  have:=List.take_append_getElem h'
  rw[this]
  congr 1
  omega
theorem Nt{x:List Keyed}{p:Keyed}(h:Srt (x++[p])):∀ q∈x++[p],nk q≤nk p:=by
  intro q hq
  rcases List.mem_append.mp hq with hq | hq
  · exact (Bc.mp h).2.2 q hq p (List.mem_singleton.mpr rfl)
  · rw[List.mem_singleton.mp hq];exact Int.le_refl _
noncomputable def PH(L:List Keyed)(a b:Array Keyed)(st:SortSt)(m:Nat)(r:ForInStep HG)(st':SortSt):Prop:=
  Sg st st'∧match r with
  | .done (some r,_)=>Fin L r
  | .done (none,na,nb,out,_)=>Hi L a b out na nb∧na+nb+m≤a.size+b.size
  | .yield (none,na,nb,out,_)=>Hi L a b out na nb∧na+nb+m≤a.size+b.size
  | .yield (some _,_)=>False
theorem Acg{g k k2:Nat}{out:Array Keyed}{na nb m:Nat}{st':SortSt}(M:Ms a b st)(hs:Sg st st')(h:Hi L a b out na nb)(hm:na+nb+m≤a.size+b.size)
    (hl:∀ p,a.toList[na - 1]? = some p→∀ q∈b.toList.take nb,nk q≤nk p) :
    wpS (model prog w) A E s (hi3 a b g k k2 out na nb) (PH L a b st (m+1)) st':=by
  obtain ⟨z1,z2,ha,hb,j⟩:=h
  unfold hi3
  obtain ⟨p,e,hp,ed⟩:=Iy (a:=a) z1 ha
  refine wpS_bind (Bn e ?_)
  have j':JH L (out.push p).toList.reverse (a.toList.take (na - 1)) (b.toList.take nb):=by
    rw[Array.toList_push,List.reverse_append]
    rw[ed] at j
    exact JH.ga (x2:=[p]) j (fun x hx q hq=>by rw[List.mem_singleton.mp hx];exact hl p e q hq)
  by_cases h1:na - 1=0
  · rw[if_pos (by simpa using h1)]
    exact wpS_pure ⟨hs,K1 j' (.inl h1)⟩
  · rw[if_neg (by simpa using h1)]
    have lo:Hi L a b (out.push p) (na - 1) nb:=⟨by omega,z2,by omega,hb,j'⟩
    split
    · exact wpS_pure ⟨hs,lo,by omega⟩
    · exact wpS_pure ⟨hs,lo,by omega⟩
theorem Aaf{g k bc:Nat}{out:Array Keyed}{na nb m:Nat}{st':SortSt}(M:Ms a b st)(hB:Bot a b)(hs:Sg st st')(h:Hi L a b out na nb)(hm:na+nb+m≤a.size+b.size)
    (hl:∀ p,b.toList[nb - 1]? = some p→∀ q∈a.toList.take na,nk q≤nk p) :
    wpS (model prog w) A E s (hi2 a b g k bc out na nb) (PH L a b st (m+1)) st':=by
  obtain ⟨z1,z2,ha,hb,j⟩:=h
  unfold hi2
  obtain ⟨p,e,hp,ed⟩:=Iy (a:=b) (n:=nb) (by omega) hb
  refine wpS_bind (Bn e ?_)
  have j':JH L (out.push p).toList.reverse (a.toList.take na) (b.toList.take (nb - 1)):=by
    rw[Array.toList_push,List.reverse_append]
    rw[ed] at j
    exact JH.gb (y2:=[p]) j (fun x hx q hq=>by rw[List.mem_singleton.mp hx];exact hl p e q hq)
  by_cases h1:nb - 1=1
  · rw[if_pos (by simpa using h1)]
    exact wpS_pure ⟨hs,Rv j' h1 hB⟩
  · rw[if_neg (by simpa using h1)]
    obtain ⟨q,eq,hq,edq⟩:=Iy (a:=a) z1 ha
    refine wpS_bind (Bn eq ?_)
    have hsa:Srt (a.toList.take (na - 1)++[q]):=by rw[← edq];exact (Bc.mp j'.sx).1
    refine wpS_bind (Ph (b.toList.take (nb - 1)) (by simp;omega) (fun i hi=>by rw[Nat.zero_add,List.getElem?_take_of_lt hi]) ((M.of hs).kind) (fun x hx=>M.kb x (List.mem_of_mem_take hx)) (M.ka q hq)
      (Bc.mp j'.sy).1 (by omega) fun t ht c1 c2=>?_)
    dsimp only
    have ht2:(b.toList.take (nb - 1)).take t=b.toList.take t:=by rw[List.take_take];congr 1;omega
    have j2:JH L ((b.toList.take (nb - 1)).drop t++(out.push p).toList.reverse) (a.toList.take na) (b.toList.take t):=by
      refine JH.gb (by rw[← ht2,List.take_append_drop];exact j') fun x hx y hy=>?_
      rw[edq] at hy
      have:=Nt hsa y hy
      have:=c2 x hx
      omega
    have hle:∀ p,a.toList[na - 1]? = some p→∀ x∈b.toList.take t,nk x≤nk p:=by
      intro p' ep x hx
      rw[eq] at ep
      cases ep
      rw[← ht2] at hx
      exact Int.le_of_lt (c1 x hx)
    by_cases hk:nb - 1 - t > 0
    · rw[if_pos hk]
      have j3:JH L (out.push p++(b.extract t (nb - 1)).reverse).toList.reverse (a.toList.take na) (b.toList.take t):=by
        rw[Array.toList_append,List.reverse_append,Array.toList_reverse,List.reverse_reverse,Afz]
        exact j2
      by_cases h2:t=1
      · rw[if_pos (by simpa using h2)]
        exact wpS_pure ⟨hs,Rv j3 h2 hB⟩
      · rw[if_neg (by simpa using h2)]
        by_cases h3:t=0
        · rw[if_pos (by simpa using h3)]
          exact wpS_pure ⟨hs,K1 j3 (.inr h3)⟩
        · rw[if_neg (by simpa using h3)]
          exact Acg (m:=m) M hs ⟨z1,by omega,ha,by omega,j3⟩ (by omega) hle
    · rw[if_neg hk]
      have k0:t=nb - 1:=by omega
      subst k0
      exact Acg (m:=m) M hs ⟨z1,by omega,ha,by omega,j'⟩ (by omega) hle
theorem Aba{c:HG}{g m:Nat}{st':SortSt}(M:Ms a b st)(hB:Bot a b)(hs:Sg st st')(h:Hi L a b c.2.2.2.1 c.2.1 c.2.2.1)(hm:c.2.1+c.2.2.1+m≤a.size+b.size) :
    wpS (model prog w) A E s (hi1 a b c g) (PH L a b st (m+1)) st':=by
  obtain ⟨r,na,nb,out,g0,ac,bc⟩:=c
  dsimp only at h hm
  obtain ⟨z1,z2,ha,hb,j⟩:=h
  unfold hi1
  dsimp only
  refine wpS_bind (wpS_modify ?_)
  obtain ⟨p,e,hp,ed⟩:=Iy (a:=b) (n:=nb) (by omega) hb
  refine wpS_bind (Bn e ?_)
  have hs':Sg st (Ab3 st' g):=hs.set g
  have hsb:Srt (b.toList.take (nb - 1)++[p]):=by rw[← ed];exact (Bc.mp j.sy).1
  refine wpS_bind (Mq (a.toList.take na) (by simp;omega) (fun i hi=>by rw[Nat.zero_add,List.getElem?_take_of_lt hi]) ((M.of hs').kind) (fun x hx=>M.ka x (List.mem_of_mem_take hx)) (M.kb p hp)
    (Bc.mp j.sx).1 (by omega) fun t ht c1 c2=>?_)
  dsimp only
  have ht2:(a.toList.take na).take t=a.toList.take t:=by rw[List.take_take];congr 1;omega
  have j2:JH L ((a.toList.take na).drop t++out.toList.reverse) (a.toList.take t) (b.toList.take nb):=by
    refine JH.ga (by rw[← ht2,List.take_append_drop];exact j) fun x hx y hy=>?_
    rw[ed] at hy
    have:=Nt hsb y hy
    have:=c2 x hx
    omega
  have hle:∀ p',b.toList[nb - 1]? = some p'→∀ x∈a.toList.take t,nk x≤nk p':=by
    intro p' ep x hx
    rw[e] at ep
    cases ep
    rw[← ht2] at hx
    exact c1 x hx
  by_cases hk:na - t > 0
  · rw[if_pos hk]
    have j3:JH L (out++(a.extract t na).reverse).toList.reverse (a.toList.take t) (b.toList.take nb):=by
      rw[Array.toList_append,List.reverse_append,Array.toList_reverse,List.reverse_reverse,Afz]
      exact j2
    by_cases h3:t=0
    · rw[if_pos (by simpa using h3)]
      exact wpS_pure ⟨hs',K1 j3 (.inl h3)⟩
    · rw[if_neg (by simpa using h3)]
      exact Aaf (m:=m) M hB hs' ⟨by omega,z2,by omega,hb,j3⟩ (by omega) hle
  · rw[if_neg hk]
    have k0:t=na:=by omega
    subst k0
    exact Aaf (m:=m) M hB hs' ⟨z1,z2,ha,hb,j⟩ (by omega) hle
noncomputable def PHA(L:List Keyed)(a b:Array Keyed)(st:SortSt)(m:Nat)(r:ForInStep HA)(st':SortSt):Prop:=
  Sg st st'∧match r with
  | .done (some r,_)=>Fin L r
  | .done (none,na,nb,out,_)=>Hi L a b out na nb∧na+nb+m≤a.size+b.size
  | .yield (none,na,nb,out,_)=>Hi L a b out na nb∧na+nb+m≤a.size+b.size
  | .yield (some _,_)=>False
theorem Ah8{c:HA}{g x m:Nat}{st':SortSt}(M:Ms a b st)(hB:Bot a b)(hs:Sg st st')(h:Hi L a b c.2.2.2.1 c.2.1 c.2.2.1)(hm:c.2.1+c.2.2.1+m≤a.size+b.size) :
    wpS (model prog w) A E s (hiA a b g x c) (PHA L a b st (m+1)) st':=by
  obtain ⟨r,na,nb,out,ac,bc⟩:=c
  dsimp only at h hm
  obtain ⟨z1,z2,ha,hb,j⟩:=h
  unfold hiA
  dsimp only
  obtain ⟨p,e,hp,ed⟩:=Iy (a:=b) (n:=nb) (by omega) hb
  obtain ⟨q,eq,hq,edq⟩:=Iy (a:=a) z1 ha
  refine wpS_bind (Bn e ?_)
  refine wpS_bind (Bn eq ?_)
  refine wpS_bind (O8 ((M.of hs).kind) (M.kb p hp) (M.ka q hq) ?_)
  dsimp only
  have hsb:Srt (b.toList.take (nb - 1)++[p]):=by rw[← ed];exact (Bc.mp j.sy).1
  have hsa:Srt (a.toList.take (na - 1)++[q]):=by rw[← edq];exact (Bc.mp j.sx).1
  by_cases hlt:nk p < nk q
  · rw[if_pos (by simpa using hlt)]
    refine wpS_bind (Bn eq ?_)
    have j':JH L (out.push q).toList.reverse (a.toList.take (na - 1)) (b.toList.take nb):=by
      rw[Array.toList_push,List.reverse_append]
      rw[edq] at j
      refine JH.ga (x2:=[q]) j (fun x hx y hy=>?_)
      rw[List.mem_singleton.mp hx]
      rw[ed] at hy
      have:=Nt hsb y hy
      omega
    by_cases h1:na - 1=0
    · rw[if_pos (by simpa using h1)]
      exact wpS_pure ⟨hs,K1 j' (.inl h1)⟩
    · rw[if_neg (by simpa using h1)]
      have lo:Hi L a b (out.push q) (na - 1) nb:=⟨by omega,z2,by omega,hb,j'⟩
      split
      · exact wpS_pure ⟨hs,lo,by omega⟩
      · exact wpS_pure ⟨hs,lo,by omega⟩
  · rw[if_neg (by simpa using hlt)]
    refine wpS_bind (Bn e ?_)
    have j':JH L (out.push p).toList.reverse (a.toList.take na) (b.toList.take (nb - 1)):=by
      rw[Array.toList_push,List.reverse_append]
      rw[ed] at j
      refine JH.gb (y2:=[p]) j (fun x hx y hy=>?_)
      rw[List.mem_singleton.mp hx]
      rw[edq] at hy
      have:=Nt hsa y hy
      omega
    by_cases h1:nb - 1=1
    · rw[if_pos (by simpa using h1)]
      exact wpS_pure ⟨hs,Rv j' h1 hB⟩
    · rw[if_neg (by simpa using h1)]
      have lo:Hi L a b (out.push p) na (nb - 1):=⟨z1,by omega,ha,by omega,j'⟩
      split
      · exact wpS_pure ⟨hs,lo,by omega⟩
      · exact wpS_pure ⟨hs,lo,by omega⟩
theorem Yg{g m:Nat}{out:Array Keyed}{na nb:Nat}{st':SortSt}(M:Ms a b st)(hB:Bot a b)(hs:Sg st st')(hL:Hi L a b out na nb)(hm:na+nb+m≤a.size+b.size) :
    wpS (model prog w) A E s (forIn [0:a.size+b.size] ((none,na,nb,out,0,0):HA) (hiA a b g))
      (fun d st''=>Sg st st''∧match d with | (some r,_)=>Fin L r | (none,na,nb,out,_)=>Hi L a b out na nb∧na+nb+(m+1)≤a.size+b.size) st':=by
  have hpos:0 < a.size+b.size:=by have:=hL.h1;have:=hL.ha;omega
  refine wpS_forRange (I:=fun x (d:HA) st''=>Sg st st''∧d.1=none∧Hi L a b d.2.2.2.1 d.2.1 d.2.2.1∧d.2.1+d.2.2.1+(m+min x 1)≤a.size+b.size) ?_ ?_
    ⟨hs,rfl,hL,by show na+nb+(m+min 0 1)≤_;omega⟩
  · rintro x ⟨r,c⟩ st'' _ hx ⟨h1,h2,h3,h4⟩
    refine wpS_mono (Ah8 (m:=m) M hB h1 h3 (by omega)) ?_
    rintro (⟨r',i1,i2,o,c'⟩ | ⟨r',i1,i2,o,c'⟩) st3 ⟨k1,k2⟩
    · cases r' with
      | some r'=>exact ⟨k1,k2⟩
      | none=>exact ⟨k1,k2⟩
    · cases r' with
      | some r'=>exact k2.elim
      | none=>exact ⟨k1,rfl,k2.1,by have:=k2.2;show i1+i2+(m+min (x+1) 1)≤_;omega⟩
  · rintro ⟨r,i1,i2,o,c⟩ st'' ⟨h1,h2,h3,h4⟩
    dsimp only at h2 h3 h4
    subst h2
    exact ⟨h1,h3,by omega⟩
theorem X0{g m ac bc:Nat}{out:Array Keyed}{na nb:Nat}{st':SortSt}(M:Ms a b st)(hB:Bot a b)(hs:Sg st st')(hL:Hi L a b out na nb)(hm:na+nb+m≤a.size+b.size) :
    wpS (model prog w) A E s (forIn [0:a.size+b.size] ((none,na,nb,out,g,ac,bc):HG) (hiB a b))
      (fun d st''=>Sg st st''∧match d with | (some r,_)=>Fin L r | (none,na,nb,out,_)=>Hi L a b out na nb∧na+nb+m≤a.size+b.size) st':=by
  refine wpS_forRange (I:=fun x (d:HG) st''=>Sg st st''∧d.1=none∧Hi L a b d.2.2.2.1 d.2.1 d.2.2.1∧d.2.1+d.2.2.1+m≤a.size+b.size) ?_ ?_ ⟨hs,rfl,hL,hm⟩
  · rintro x d st'' _ hx ⟨h1,h2,h3,h4⟩
    have key:wpS (model prog w) A E s (hiB a b x d) (PH L a b st (m+1)) st'':=by
      unfold hiB
      split
      · exact Aba (m:=m) M hB h1 h3 h4
      · exact Aba (m:=m) M hB h1 h3 h4
    refine wpS_mono key ?_
    rintro (⟨r',i1,i2,o,c'⟩ | ⟨r',i1,i2,o,c'⟩) st3 ⟨k1,k2⟩
    · cases r' with
      | some r'=>exact ⟨k1,k2⟩
      | none=>exact ⟨k1,k2.1,by have:=k2.2;omega⟩
    · cases r' with
      | some r'=>exact k2.elim
      | none=>exact ⟨k1,rfl,k2.1,by have:=k2.2;show i1+i2+m≤_;omega⟩
  · rintro ⟨r,i1,i2,o,c⟩ st'' ⟨h1,h2,h3,h4⟩
    dsimp only at h2 h3 h4
    subst h2
    exact ⟨h1,h3,h4⟩
theorem Ahz{c:HO}{x m:Nat}{st':SortSt}(M:Ms a b st)(hB:Bot a b)(hs:Sg st st')(hL:Hi L a b c.2.2.2.1 c.2.1 c.2.2.1)(hm:c.2.1+c.2.2.1+m≤a.size+b.size) :
    wpS (model prog w) A E s (hiO a b x c) (fun r st''=>Sg st st''∧match r with
      | .done d=>∃ r,d.1=some r∧Fin L r
      | .yield d=>d.1=none∧Hi L a b d.2.2.2.1 d.2.1 d.2.2.1∧d.2.1+d.2.2.1+(m+1)≤a.size+b.size) st':=by
  unfold hiO
  refine wpS_bind (wpS_mono (Yg (m:=m) M hB hs hL hm) ?_)
  rintro ⟨r,i1,i2,o,ac,bc⟩ st2 ⟨h1,h2⟩
  cases r with
  | some r=>exact wpS_pure ⟨h1,r,rfl,h2⟩
  | none=>
    refine wpS_bind (wpS_lift (wpAny_rule ⟨rfl,?_⟩))
    refine wpS_bind (wpS_mono (X0 (m:=m+1) M hB h1 h2.1 h2.2) ?_)
    rintro ⟨r,i1,i2,o,g,ac,bc⟩ st3 ⟨k1,k2⟩
    cases r with
    | some r=>exact wpS_pure ⟨k1,r,rfl,k2⟩
    | none=>exact wpS_bind (wpS_modify (wpS_pure ⟨k1.set _,rfl,k2.1,k2.2⟩))
theorem Us{Q:Array Keyed→SortSt→Prop}(M:Ms a b st)(hB:Bot a b)(h1:0 < a.size)(h2:0 < b.size)(sa:Srt a.toList)(sb:Srt b.toList)
    (hf:∀ p,a.toList[a.size - 1]? = some p→∀ q∈b.toList,nk q≤nk p)
    (h:∀ r st',Sg st st'→Fin (a.toList++b.toList) r→Q r st'):wpS (model prog w) A E s (N9 a b) Q st:=by
  rw[Sl]
  refine wpS_bind (wpS_lift (wpAny_rule ⟨rfl,?_⟩))
  obtain ⟨p,e,hp,ed⟩:=Iy (a:=a) h1 (Nat.le_refl _)
  refine wpS_bind (Bn e ?_)
  have s0:Sg st st:=⟨gallopOf st,rfl⟩
  have ea:a.toList.take a.size=a.toList:=List.take_of_length_le (by simp)
  have eb:b.toList.take b.size=b.toList:=List.take_of_length_le (by simp)
  have j:JH (a.toList++b.toList) (#[p]:Array Keyed).toList.reverse (a.toList.take (a.size - 1)) (b.toList.take b.size):=by
    have j0:JH (a.toList++b.toList) [] (a.toList.take (a.size - 1)++[p]) b.toList:=by
      rw[← ed,ea]
      exact ⟨by rw[List.append_nil],by rw[List.append_nil];exact sa,by rw[List.append_nil];exact sb⟩
    rw[eb]
    exact j0.ga (fun x hx q hq=>by rw[List.mem_singleton.mp hx];exact hf p e q hq)
  by_cases c1:a.size - 1=0
  · rw[if_pos (by simpa using c1)]
    exact wpS_pure (h _ _ s0 (K1 j (.inl c1)))
  · rw[if_neg (by simpa using c1)]
    by_cases c2:b.size=1
    · rw[if_pos (by simpa using c2)]
      exact wpS_pure (h _ _ s0 (Rv j c2 hB))
    · rw[if_neg (by simpa using c2)]
      refine wpS_bind (wpS_get ?_)
      refine wpS_bind (wpS_mono (wpS_forRange (I:=fun x (d:HO) st'=>Sg st st'∧d.1=none∧Hi (a.toList++b.toList) a b d.2.2.2.1 d.2.1 d.2.2.1∧d.2.1+d.2.2.1+(x+1)≤a.size+b.size)
        (Q:=fun d st'=>Sg st st'∧∃ r,d.1=some r∧Fin (a.toList++b.toList) r) ?_ ?_
        ⟨s0,rfl,⟨by show 0 < a.size - 1;omega,by show 1 < b.size;omega,by show a.size - 1≤_;omega,Nat.le_refl _,j⟩,by show a.size - 1+b.size+(0+1)≤_;omega⟩) ?_)
      · rintro x c st' _ hx ⟨k1,k2,k3,k4⟩
        refine wpS_mono (Ahz (m:=x+1) M hB k1 k3 k4) ?_
        rintro (d | d) st'' ⟨l1,l2⟩
        · exact ⟨l1,l2⟩
        · exact ⟨l1,l2.1,l2.2.1,l2.2.2⟩
      · rintro c st' ⟨k1,k2,k3,k4⟩
        have:=k3.h1
        omega
      · rintro ⟨r,c⟩ st' ⟨k1,r',k2,k3⟩
        dsimp only at k2
        subst k2
        exact wpS_pure (h _ _ k1 k3)
end
noncomputable def mA3(a0:Array Keyed)(sa na sb t:Nat):StateT SortSt Sem Bool:=do
  let merged ← if na≤t then Oy (a0.extract sa sb) (a0.extract sb (sb+t)) else N9 (a0.extract sa sb) (a0.extract sb (sb+t))
  modify fun s=>setArr s (merged.toList.zipIdx.foldl (fun a x=>a.setIfInBounds (sa+x.2) x.1) (arrOf s))
  let s ← get
  pure (failedOf s).isNone
noncomputable def mA2(a0:Array Keyed)(sa na sb nb:Nat):StateT SortSt Sem Bool:=do
  let q ← elem' a0 (sa+na - 1)
  let x ← Fo true q a0 sb nb (nb - 1)
  match x with
  | some t=>if (t == 0)=true then pure true else mA3 a0 sa na sb t
  | _=>pure false
noncomputable def mA1(a0:Array Keyed)(sa na sb nb:Nat):StateT SortSt Sem Bool:=do
  let p ← elem' a0 sb
  let x ← Fo false p a0 sa na 0
  match x with
  | some k=>if (na - k == 0)=true then pure true else mA2 a0 (sa+k) (na - k) sb nb
  | _=>pure false
theorem T4(i:Nat):mergeAt' i=(do
  let s ← get
  match (pendingOf s)[i]?,(pendingOf s)[i+1]? with
  | some (sa,na,pw),some (sb,nb,_)=>do
    set (setPending s (((pendingOf s).setIfInBounds i (sa,na+nb,pw)).eraseIdxIfInBounds (i+1)))
    mA1 (arrOf s) sa na sb nb
  | _,_=>liftM (unsupported (α:=Bool) "internal:list.sort.pending")):=by
  kernel_rfl
theorem put_back(b:Nat):∀ (l P W Z:List Keyed) (j:Nat) (arr:Array Keyed),W.length=l.length→P.length=b+j→arr.toList=P++(W++Z) →
    ((l.zipIdx j).foldl (fun (a:Array Keyed) x=>a.setIfInBounds (b+x.2) x.1) arr).toList=P++(l++Z)
  | [],P,W,Z,j,arr,h1,h2,h3=>by
    have:W=[]:=List.length_eq_zero_iff.mp h1
    subst this
    exact h3
  | p::l,P,[],Z,j,arr,h1,h2,h3=>by simp at h1
  | p::l,P,v::W,Z,j,arr,h1,h2,h3=>by
    rw[List.zipIdx_cons,List.foldl_cons]
    have e:(arr.setIfInBounds (b+j) p).toList=(P++[p])++(W++Z):=by
      rw[Array.toList_setIfInBounds,h3,← h2,List.set_append_right _ _ (Nat.le_refl _),Nat.sub_self]
      simp
    have:=put_back b l (P++[p]) W Z (j+1) (arr.setIfInBounds (b+j) p) (by simpa using h1) (by simp[h2];omega) e
    rw[this]
    simp
section
variable {prog:Program}{w:World}{A:Around}{E:Value→Shared→Prop}{s:Shared}
theorem Adn{σ:Type}{st0:σ}{Q:PUnit→σ→Prop}{st:σ}{M:Model}(h:Q ⟨⟩ st0):wpS M A E s (set st0:StateT σ Sem PUnit) Q st:=by
  unfold wpS;rw[StateT.run_set];exact wpAny_pure ⟨rfl,h⟩
structure Kn(st:SortSt):Prop where
  kind:kindOf st=oneType'
  fl:failedOf st=none
  ik:∀ p∈(arrOf st).toList,IK p
theorem Acn{a:Array Keyed}{P X Z:List Keyed}{i j:Nat}(e:a.toList=P++(X++Z))(hi:i=P.length)(hj:j=i+X.length):(a.extract i j).toList=X:=by
  simp only[Array.toList_extract,List.extract_eq_take_drop]
  rw[e,hi,List.drop_left,hj,hi,show P.length+X.length - P.length=X.length by omega,List.take_left]
theorem Ago{st:SortSt}{sa na sb t:Nat}{P X Y Z:List Keyed}{Q:Bool→SortSt→Prop}(hk:Kn st)(e:(arrOf st).toList=P++(X++(Y++Z)))
    (h1:sa=P.length) (h2:na=X.length) (h3:sb=sa+na) (h4:t=Y.length) (z1:0 < na) (z2:0 < t) (sx:Srt X) (sy:Srt Y)
    (hf:∀ p,Y[0]? = some p→∀ q∈X,nk p≤nk q) (hl:∀ p,X[X.length - 1]? = some p→∀ q∈Y,nk q≤nk p)
    (h:∀ st' W,W.Perm (X++Y)→Srt W→(arrOf st').toList=P++(W++Z)→kindOf st'=kindOf st→failedOf st'=failedOf st→pendingOf st'=pendingOf st→Q true st') :
    wpS (model prog w) A E s (mA3 (arrOf st) sa na sb t) Q st:=by
  unfold mA3
  have ex:((arrOf st).extract sa sb).toList=X:=Acn e h1 (by omega)
  have ey:((arrOf st).extract sb (sb+t)).toList=Y:=Acn (P:=P++X) (by rw[e,List.append_assoc]) (by simp;omega) (by omega)
  have nx:((arrOf st).extract sa sb).size=X.length:=by rw[← Array.length_toList,ex]
  have ny:((arrOf st).extract sb (sb+t)).size=Y.length:=by rw[← Array.length_toList,ey]
  have M:Ms ((arrOf st).extract sa sb) ((arrOf st).extract sb (sb+t)) st:=by
    refine ⟨hk.kind,fun p hp=>?_,fun p hp=>?_⟩
    · rw[ex] at hp;exact hk.ik p (by rw[e];simp[hp])
    · rw[ey] at hp;exact hk.ik p (by rw[e];simp[hp])
  have fin:∀ (r:Array Keyed) (st':SortSt),Sg st st'→Fin (((arrOf st).extract sa sb).toList++((arrOf st).extract sb (sb+t)).toList) r →
      wpS (model prog w) A E s (do
        modify fun s=>setArr s (r.toList.zipIdx.foldl (fun a x=>a.setIfInBounds (sa+x.2) x.1) (arrOf s))
        let s ← get
        pure (failedOf s).isNone) Q st':=by
    rintro r st' ⟨g,rfl⟩ ⟨f1,f2⟩
    rw[ex,ey] at f1
    refine wpS_bind (wpS_modify (wpS_bind (wpS_get (wpS_pure ?_))))
    have:=put_back sa r.toList P (X++Y) Z 0 (arrOf st) (by rw[f1.length_eq]) (by omega) (by rw[e];simp)
    have hfl:(failedOf st).isNone=true:=by rw[hk.fl];rfl
    show Q ((failedOf st).isNone) _
    rw[hfl]
    exact h _ r.toList f1 f2 this rfl rfl rfl
  by_cases c:na≤t
  · rw[if_pos c]
    refine wpS_bind (U9 M ?_ (by omega) (by omega) (by rw[ex];exact sx) (by rw[ey];exact sy) (by rw[ex,ey];exact hf) fin)
    unfold Top
    rw[ex,ey,nx]
    intro p hp q hq
    have hl':X.length - 1 < X.length:=by omega
    rw[List.drop_eq_getElem_cons hl',List.drop_eq_nil_of_le (by omega)] at hp
    rw[List.mem_singleton.mp hp]
    exact hl _ (List.getElem?_eq_getElem hl') q hq
  · rw[if_neg c]
    refine wpS_bind (Us M ?_ (by omega) (by omega) (by rw[ex];exact sx) (by rw[ey];exact sy) (by rw[ex,ey,nx];exact hl) fin)
    unfold Bot
    rw[ex,ey]
    intro p hp q hq
    cases Y with
    | nil=>simp at hp
    | cons y Y=>
      simp at hp
      subst hp
      exact hf p rfl q hq
theorem Ah2{st:SortSt}{sa na sb nb:Nat}{P X Y Z:List Keyed}{Q:Bool→SortSt→Prop}(hk:Kn st)(e:(arrOf st).toList=P++(X++(Y++Z)))
    (h1:sa=P.length) (h2:na=X.length) (h3:sb=sa+na) (h4:nb=Y.length) (z1:0 < na) (z2:0 < nb) (sx:Srt X) (sy:Srt Y)
    (hf:∀ p,Y[0]? = some p→∀ q∈X,nk p≤nk q)
    (h:∀ st' W,W.Perm (X++Y)→Srt W→(arrOf st').toList=P++(W++Z)→kindOf st'=kindOf st→failedOf st'=failedOf st→pendingOf st'=pendingOf st→Q true st') :
    wpS (model prog w) A E s (mA2 (arrOf st) sa na sb nb) Q st:=by
  unfold mA2
  have hl':X.length - 1 < X.length:=by omega
  have eq:(arrOf st).toList[sa+na - 1]? = some X[X.length - 1]:=by
    rw[e,List.getElem?_append_right (by omega),List.getElem?_append_left (by omega),show sa+na - 1 - P.length=X.length - 1 by omega]
    exact List.getElem?_eq_getElem hl'
  refine wpS_bind (Bn eq ?_)
  have hx:∀ p∈X,nk p≤nk X[X.length - 1]:=by
    intro p hp
    obtain ⟨i,hi,rfl⟩:=List.mem_iff_getElem.mp hp
    by_cases c:i=X.length - 1
    · subst c;exact Int.le_refl _
    · exact List.pairwise_iff_getElem.mp sx i (X.length - 1) hi hl' (by omega)
  refine wpS_bind (Ph Y h4.symm ?_ hk.kind (fun p hp=>hk.ik p (by rw[e];simp[hp])) (hk.ik _ (by rw[e];simp[List.getElem_mem])) sy (by omega) fun t ht c1 c2=>?_)
  · intro i hi
    rw[e,List.getElem?_append_right (by omega),List.getElem?_append_right (by omega),List.getElem?_append_left (by omega)]
    congr 1
    omega
  dsimp only
  by_cases c:t=0
  · rw[if_pos (by simpa using c)]
    subst c
    refine wpS_pure (h st (X++Y) (List.Perm.refl _) (Bc.mpr ⟨sx,sy,fun p hp q hq=>?_⟩) (by rw[e,List.append_assoc]) rfl rfl rfl)
    have:=hx p hp
    have:=c2 q hq
    omega
  · rw[if_neg (by simpa using c)]
    have sy':Srt (Y.take t++Y.drop t):=by rw[List.take_append_drop];exact sy
    have s3:=Bc.mp sy'
    refine Ago (Y:=Y.take t) (Z:=Y.drop t++Z) hk (by rw[e,← List.append_assoc (Y.take t),List.take_append_drop]) h1 h2 h3 (by simp;omega) z1 (by omega) sx s3.1 ?_ ?_ ?_
    · intro p hp q hq
      refine hf p ?_ q hq
      rw[List.getElem?_take_of_lt (by omega)] at hp
      exact hp
    · intro p hp q hq
      rw[List.getElem?_eq_getElem hl'] at hp
      cases hp
      exact Int.le_of_lt (c1 q hq)
    · intro st' W w1 w2 w3 w4 w5 w6
      refine h st' (W++Y.drop t) ?_ (Bc.mpr ⟨w2,s3.2.1,fun p hp q hq=>?_⟩) (by rw[w3,List.append_assoc]) w4 w5 w6
      · have:=w1.append_right (Y.drop t)
        rwa [List.append_assoc,List.take_append_drop] at this
      · rcases List.mem_append.mp (w1.mem_iff.mp hp) with hp | hp
        · have:=hx p hp
          have:=c2 q hq
          omega
        · exact s3.2.2 p hp q hq
theorem Af3{st:SortSt}{sa na sb nb:Nat}{P X Y Z:List Keyed}{Q:Bool→SortSt→Prop}(hk:Kn st)(e:(arrOf st).toList=P++(X++(Y++Z)))
    (h1:sa=P.length) (h2:na=X.length) (h3:sb=sa+na) (h4:nb=Y.length) (z1:0 < na) (z2:0 < nb) (sx:Srt X) (sy:Srt Y)
    (h:∀ st' W,W.Perm (X++Y)→Srt W→(arrOf st').toList=P++(W++Z)→kindOf st'=kindOf st→failedOf st'=failedOf st→pendingOf st'=pendingOf st→Q true st') :
    wpS (model prog w) A E s (mA1 (arrOf st) sa na sb nb) Q st:=by
  unfold mA1
  have hl':0 < Y.length:=by omega
  have eq:(arrOf st).toList[sb]? = some Y[0]:=by
    rw[e,List.getElem?_append_right (by omega),List.getElem?_append_right (by omega),List.getElem?_append_left (by omega),show sb - P.length - X.length=0 by omega]
    exact List.getElem?_eq_getElem hl'
  refine wpS_bind (Bn eq ?_)
  have hy:∀ p∈Y,nk Y[0]≤nk p:=by
    intro p hp
    obtain ⟨i,hi,rfl⟩:=List.mem_iff_getElem.mp hp
    by_cases c:i=0
    · subst c;exact Int.le_refl _
    · exact List.pairwise_iff_getElem.mp sy 0 i hl' hi (by omega)
  refine wpS_bind (Mq X h2.symm ?_ hk.kind (fun p hp=>hk.ik p (by rw[e];simp[hp])) (hk.ik _ (by rw[e];simp[List.getElem_mem])) sx z1 fun k hk2 c1 c2=>?_)
  · intro i hi
    rw[e,List.getElem?_append_right (by omega),List.getElem?_append_left (by omega)]
    congr 1
    omega
  dsimp only
  have sx':Srt (X.take k++X.drop k):=by rw[List.take_append_drop];exact sx
  have s3:=Bc.mp sx'
  by_cases c:na - k=0
  · rw[if_pos (by simpa using c)]
    have ek:X.take k=X:=List.take_of_length_le (by omega)
    rw[ek] at c1
    refine wpS_pure (h st (X++Y) (List.Perm.refl _) (Bc.mpr ⟨sx,sy,fun p hp q hq=>?_⟩) (by rw[e,List.append_assoc]) rfl rfl rfl)
    have:=hy q hq
    have:=c1 p hp
    omega
  · rw[if_neg (by simpa using c)]
    refine Ah2 (P:=P++X.take k) (X:=X.drop k) (Y:=Y) (Z:=Z) hk ?_ (by simp;omega) (by simp;omega) (by omega) h4 (by omega) z2 s3.2.1 sy ?_ ?_
    · rw[e,List.append_assoc,← List.append_assoc (X.take k),List.take_append_drop]
    · intro p hp q hq
      rw[List.getElem?_eq_getElem hl'] at hp
      cases hp
      exact Int.le_of_lt (c2 q hq)
    · intro st' W w1 w2 w3 w4 w5 w6
      refine h st' (X.take k++W) ?_ (Bc.mpr ⟨s3.1,w2,fun p hp q hq=>?_⟩) (by rw[w3];simp) w4 w5 w6
      · have:=w1.append_left (X.take k)
        rwa [← List.append_assoc,List.take_append_drop] at this
      · rcases List.mem_append.mp (w1.mem_iff.mp hq) with hq | hq
        · exact s3.2.2 p hp q hq
        · have:=hy q hq
          have:=c1 p hp
          omega
theorem Vl{st:SortSt}{i sa na sb nb pw pv:Nat}{P X Y Z:List Keyed}{Q:Bool→SortSt→Prop}(hk:Kn st)(e:(arrOf st).toList=P++(X++(Y++Z)))
    (p1:(pendingOf st)[i]? = some (sa,na,pw)) (p2:(pendingOf st)[i+1]? = some (sb,nb,pv))
    (h1:sa=P.length) (h2:na=X.length) (h3:sb=sa+na) (h4:nb=Y.length) (z1:0 < na) (z2:0 < nb) (sx:Srt X) (sy:Srt Y)
    (h:∀ st' W,W.Perm (X++Y)→Srt W→(arrOf st').toList=P++(W++Z)→kindOf st'=kindOf st→failedOf st'=failedOf st →
      pendingOf st'=((pendingOf st).setIfInBounds i (sa,na+nb,pw)).eraseIdxIfInBounds (i+1)→Q true st') :
    wpS (model prog w) A E s (mergeAt' i) Q st:=by
  rw[T4]
  refine wpS_bind (wpS_get ?_)
  rw[p1,p2]
  dsimp only
  refine wpS_bind (Adn ?_)
  exact Af3 (st:=setPending st (((pendingOf st).setIfInBounds i (sa,na+nb,pw)).eraseIdxIfInBounds (i+1))) ⟨hk.kind,hk.fl,hk.ik⟩ e h1 h2 h3 h4 z1 z2 sx sy h
end
noncomputable abbrev CA:Type:=Option (Option Nat)×Nat
noncomputable abbrev CD:Type:=Option (Option Nat)×Nat×Nat
noncomputable def cA(lo:Nat)(_:Nat)(c:CA):StateT SortSt Sem (ForInStep CA):=do
  let x ← ltAt' (lo+c.2) (lo+c.2 - 1)
  match x with
  | some smaller=>if smaller=true then pure (.done (none,c.2)) else pure (.yield (none,c.2+1))
  | _=>pure (.done (some none,c.2))
noncomputable def c3(lo nrem n:Nat):StateT SortSt Sem (Option Nat):=do
  reverseSlice' lo (lo+n)
  let d ← forIn [n:nrem] ((none,n):CA) (cA lo)
  match d.1 with
  | some r=>pure r
  | none=>pure (some d.2)
noncomputable def cD(lo:Nat)(_:Nat)(c:CD):StateT SortSt Sem (ForInStep CD):=do
  let x ← ltAt' (lo+c.2.1) (lo+c.2.1 - 1)
  match x with
  | some smaller=>
    if smaller=true then
      if c.2.2 > 0 then do
        reverseSlice' (lo+c.2.1 - (c.2.2+1)) (lo+c.2.1)
        pure (.yield (none,c.2.1+1,0))
      else pure (.yield (none,c.2.1+1,0))
    else do
      let y ← ltAt' (lo+c.2.1 - 1) (lo+c.2.1)
      match y with
      | some larger=>if larger=true then pure (.done (none,c.2.1,c.2.2)) else pure (.yield (none,c.2.1+1,c.2.2+1))
      | _=>pure (.done (some none,c.2.1,c.2.2))
  | _=>pure (.done (some none,c.2.1,c.2.2))
noncomputable def c2(lo nrem n:Nat):StateT SortSt Sem (Option Nat):=do
  liftM (rule "list.sort.descending-run")
  let d ← forIn [n+1:nrem] ((none,n+1,0):CD) (cD lo)
  match d.1 with
  | some r=>pure r
  | none=>
    if d.2.2 > 0 then do
      reverseSlice' (lo+d.2.1 - (d.2.2+1)) (lo+d.2.1)
      c3 lo nrem d.2.1
    else c3 lo nrem d.2.1
theorem Tj(lo nrem:Nat):countRun' lo nrem=(do
  let c ← forIn [1:nrem] ((none,1):CA) (cA lo)
  match c.1 with
  | some r=>pure r
  | none=>
    if (c.2 == nrem)=true then pure (some c.2) else
    if c.2 > 1 then do
      let x ← ltAt' lo (lo+c.2 - 1)
      match x with
      | some rose=>if rose=true then pure (some c.2) else do
        reverseSlice' lo (lo+c.2)
        c2 lo nrem c.2
      | _=>pure none
    else c2 lo nrem c.2):=by
  kernel_rfl
structure Rb(lo:Nat)(st0 st:SortSt):Prop where
  perm:(arrOf st).Perm (arrOf st0)
  low:∀ k,k < lo→(arrOf st)[k]? = (arrOf st0)[k]?
  kind:kindOf st=kindOf st0
  fl:failedOf st=failedOf st0
  pend:pendingOf st=pendingOf st0
theorem Rb.size{lo:Nat}{st0 st:SortSt}(h:Rb lo st0 st):(arrOf st).size=(arrOf st0).size:=h.perm.size_eq
theorem Rb.set{lo:Nat}{st0 st:SortSt}(h:Rb lo st0 st){xs:Array Keyed}(hp:xs.Perm (arrOf st))(hl:∀ k,k < lo→xs[k]? = (arrOf st)[k]?):Rb lo st0 (setArr st xs):=
  ⟨hp.trans h.perm,fun k hk=>(hl k hk).trans (h.low k hk),h.kind,h.fl,h.pend⟩
theorem Rb.kn{lo:Nat}{st0 st:SortSt}(h:Rb lo st0 st)(k:Kn st0):Kn st:=
  ⟨h.kind.trans k.kind,h.fl.trans k.fl,fun p hp=>k.ik p ((Array.perm_iff_toList_perm.mp h.perm).mem_iff.mp hp)⟩
theorem Rb.mir{lo i j:Nat}{st0 st:SortSt}(h:Rb lo st0 st)(hi:lo≤i)(hj:j≤(arrOf st0).size):Rb lo st0 (setArr st (mirror (arrOf st) i j ((j - i) / 2))):=
  h.set (mirror_perm _ _ _ _) fun k hk=>by rw[getElem?_mirror_all (by rw[h.size];exact hj),if_neg (by omega)]
noncomputable def So(xs:Array Keyed)(lo n:Nat):Prop:=∀ i j,i≤j→j < n→K xs (lo+i)≤K xs (lo+j)
noncomputable def Ni(xs:Array Keyed)(lo n:Nat):Prop:=∀ i j,i≤j→j < n→K xs (lo+j)≤K xs (lo+i)
theorem So.one{xs:Array Keyed}{lo:Nat}:So xs lo 1:=fun i j h1 h2=>by
  have:i=j:=by omega
  subst this;exact Int.le_refl _
theorem So.more{xs:Array Keyed}{lo n:Nat}(h:So xs lo n)(hn:0 < n)(hl:K xs (lo+n - 1)≤K xs (lo+n)):So xs lo (n+1):=fun i j h1 h2=>by
  by_cases hj:j < n
  · exact h i j h1 hj
  · have:j=n:=by omega
    subst this
    by_cases hi:i=j
    · subst hi;exact Int.le_refl _
    · have:=h i (j - 1) (by omega) (by omega)
      rw[show lo+(j - 1)=lo+j - 1 by omega] at this
      omega
theorem Ni.more{xs:Array Keyed}{lo n:Nat}(h:Ni xs lo n)(hn:0 < n)(hl:K xs (lo+n)≤K xs (lo+n - 1)):Ni xs lo (n+1):=fun i j h1 h2=>by
  by_cases hj:j < n
  · exact h i j h1 hj
  · have:j=n:=by omega
    subst this
    by_cases hi:i=j
    · subst hi;exact Int.le_refl _
    · have:=h i (j - 1) (by omega) (by omega)
      rw[show lo+(j - 1)=lo+j - 1 by omega] at this
      omega
theorem Ni.congr{xs ys:Array Keyed}{lo n:Nat}(h:Ni xs lo n)(e:∀ k,K ys k=K xs k):Ni ys lo n:=fun i j h1 h2=>by rw[e,e];exact h i j h1 h2
section
variable {prog:Program}{w:World}{A:Around}{E:Value→Shared→Prop}{s:Shared}{st0:SortSt}{lo:Nat}
theorem Lr{st:SortSt}{i j:Nat}{Q:Option Bool→SortSt→Prop}(hk:Kn st)(hi:i < (arrOf st).size)(hj:j < (arrOf st).size)
    (h:Q (some (decide (K (arrOf st) i < K (arrOf st) j))) st):wpS (model prog w) A E s (ltAt' i j) Q st:=by
  rw[ltAt'_eq]
  refine wpS_bind (wpS_get ?_)
  obtain ⟨p,ep,hp,_⟩:=Je hi
  obtain ⟨q,eq,hq,_⟩:=Je hj
  refine wpS_bind (Bn ep (wpS_bind (Bn eq (O8 hk.kind (hk.ik p hp) (hk.ik q hq) ?_))))
  rw[Array.getElem?_toList] at ep eq
  have e1:K (arrOf st) i=nk p:=by unfold K nk;rw[ep]
  have e2:K (arrOf st) j=nk q:=by unfold K nk;rw[eq]
  rw[e1,e2] at h
  exact h
theorem Q3{st:SortSt}{i j:Nat}{Q:Unit→SortSt→Prop}(h:Q () (setArr st (mirror (arrOf st) i j ((j - i) / 2)))) :
    wpS (model prog w) A E s (reverseSlice' i j) Q st:=by
  rw[reverseSlice'_eq];exact wpS_modify h
theorem Afj{st:SortSt}{n nrem:Nat}{Q:CA→SortSt→Prop}(hk:Kn st)(hr:lo+nrem≤(arrOf st).size)(h1:1≤n)(hn:n≤nrem)(hs:So (arrOf st) lo n)
    (h:∀ m,n≤m→m≤nrem→So (arrOf st) lo m→(m=nrem∨K (arrOf st) (lo+m) < K (arrOf st) (lo+m - 1))→Q (none,m) st) :
    wpS (model prog w) A E s (forIn [n:nrem] ((none,n):CA) (cA lo)) Q st:=by
  refine wpS_forRange (I:=fun x c st'=>st'=st∧c=(none,x)∧So (arrOf st) lo x) ?_ ?_ ⟨rfl,rfl,hs⟩
  · rintro x c st' hx hx2 ⟨rfl,rfl,hs'⟩
    unfold cA
    dsimp only
    refine wpS_bind (Lr hk (by omega) (by omega) ?_)
    dsimp only
    by_cases hl:K (arrOf st') (lo+x) < K (arrOf st') (lo+x - 1)
    · rw[if_pos (by simpa using hl)]
      exact wpS_pure (h x hx (by omega) hs' (.inr hl))
    · rw[if_neg (by simpa using hl)]
      exact wpS_pure ⟨rfl,rfl,hs'.more (by omega) (Int.not_lt.mp hl)⟩
  · rintro c st' ⟨rfl,rfl,hs'⟩
    rw[show max n nrem=nrem by omega] at hs' ⊢
    exact h nrem hn (Nat.le_refl _) hs' (.inl rfl)
theorem Afl{st:SortSt}{n nrem:Nat}{Q:Option Nat→SortSt→Prop}(k0:Kn st0)(hb:Rb lo st0 st)(hr:lo+nrem≤(arrOf st0).size)(h1:1≤n)(hn:n≤nrem)(hs:Ni (arrOf st) lo n)
    (h:∀ m st',Rb lo st0 st'→1≤m→m≤nrem→So (arrOf st') lo m→Q (some m) st') :
    wpS (model prog w) A E s (c3 lo nrem n) Q st:=by
  unfold c3
  refine wpS_bind (Q3 ?_)
  have hb':=hb.mir (i:=lo) (j:=lo+n) (Nat.le_refl _) (by omega)
  have hz:lo+n≤(arrOf st).size:=by rw[hb.size];omega
  refine wpS_bind (Afj (hb'.kn k0) (by rw[hb'.size];exact hr) h1 hn ?_ fun m m1 m2 m3 _=>wpS_pure (h m _ hb' (by omega) m2 m3))
  intro i j hij hj
  show K (mirror (arrOf st) lo (lo+n) ((lo+n - lo) / 2)) (lo+i)≤K (mirror (arrOf st) lo (lo+n) ((lo+n - lo) / 2)) (lo+j)
  rw[K_mirror hz,K_mirror hz,if_pos (by omega),if_pos (by omega)]
  have:=hs (n - 1 - j) (n - 1 - i) (by omega) (by omega)
  rw[show lo+(n - 1 - j)=lo+(lo+n) - 1 - (lo+j) by omega,show lo+(n - 1 - i)=lo+(lo+n) - 1 - (lo+i) by omega] at this
  exact this
noncomputable def Al(xs:Array Keyed)(lo n q:Nat):Prop:=q+1≤n∧∀ k,lo+n - (q+1)≤k→k < lo+n→K xs k=K xs (lo+n - 1)
theorem Aiq{st:SortSt}{n nrem:Nat}{Q:CD→SortSt→Prop}(k0:Kn st0)(hb:Rb lo st0 st)(hr:lo+nrem≤(arrOf st0).size)(h1:1≤n)(hn:n≤nrem)(hs:Ni (arrOf st) lo n)
    (h:∀ m q st',Rb lo st0 st'→n≤m→m≤nrem→Ni (arrOf st') lo m→Al (arrOf st') lo m q→Q (none,m,q) st') :
    wpS (model prog w) A E s (forIn [n:nrem] ((none,n,0):CD) (cD lo)) Q st:=by
  have al0:∀ (xs:Array Keyed) m,1≤m→Al xs lo m 0:=fun xs m hm=>⟨by omega,fun k a b=>by congr 1;omega⟩
  refine wpS_forRange (I:=fun x c st'=>∃ q,c=(none,x,q)∧Rb lo st0 st'∧Ni (arrOf st') lo x∧Al (arrOf st') lo x q) ?_ ?_ ⟨0,rfl,hb,hs,al0 _ _ h1⟩
  · rintro x c st' hx hx2 ⟨q,rfl,hb',hs',ha⟩
    have kn:=hb'.kn k0
    have hz:=hb'.size
    unfold cD
    dsimp only
    refine wpS_bind (Lr kn (by omega) (by omega) ?_)
    dsimp only
    by_cases hl:K (arrOf st') (lo+x) < K (arrOf st') (lo+x - 1)
    · rw[if_pos (by simpa using hl)]
      by_cases hq:q > 0
      · rw[if_pos hq]
        have ek:∀ k,K (mirror (arrOf st') (lo+x - (q+1)) (lo+x) ((lo+x - (lo+x - (q+1))) / 2)) k=K (arrOf st') k:=K_mirror_equal (by omega) ha.2
        have ha1:=ha.1
        exact wpS_bind (Q3 (wpS_pure ⟨0,rfl,hb'.mir (by omega) (by omega),(hs'.more (by omega) (Int.le_of_lt hl)).congr ek,al0 _ _ (by omega)⟩))
      · rw[if_neg hq]
        exact wpS_pure ⟨0,rfl,hb',hs'.more (by omega) (Int.le_of_lt hl),al0 _ _ (by omega)⟩
    · rw[if_neg (by simpa using hl)]
      refine wpS_bind (Lr kn (by omega) (by omega) ?_)
      dsimp only
      by_cases hg:K (arrOf st') (lo+x - 1) < K (arrOf st') (lo+x)
      · rw[if_pos (by simpa using hg)]
        exact wpS_pure (h x q st' hb' hx (by omega) hs' ha)
      · rw[if_neg (by simpa using hg)]
        have eq:K (arrOf st') (lo+x)=K (arrOf st') (lo+x - 1):=by omega
        refine wpS_pure ⟨q+1,rfl,hb',hs'.more (by omega) (by omega),by have:=ha.1;omega,fun k b1 b2=>?_⟩
        rw[show lo+(x+1) - 1=lo+x by omega]
        by_cases c:k=lo+x
        · rw[c]
        · rw[eq];exact ha.2 k (by omega) (by omega)
  · rintro c st' ⟨q,rfl,hb',hs',ha⟩
    rw[show max n nrem=nrem by omega] at hs' ha ⊢
    exact h nrem q st' hb' hn (Nat.le_refl _) hs' ha
theorem Afn{st:SortSt}{n nrem:Nat}{Q:Option Nat→SortSt→Prop}(k0:Kn st0)(hb:Rb lo st0 st)(hr:lo+nrem≤(arrOf st0).size)(hn:n+1≤nrem)(hs:Ni (arrOf st) lo (n+1))
    (h:∀ m st',Rb lo st0 st'→1≤m→m≤nrem→So (arrOf st') lo m→Q (some m) st') :
    wpS (model prog w) A E s (c2 lo nrem n) Q st:=by
  unfold c2
  refine wpS_bind (wpS_lift (wpAny_rule ⟨rfl,?_⟩))
  refine wpS_bind (Aiq k0 hb hr (by omega) hn hs fun m q st' hb' m1 m2 m3 ha=>?_)
  dsimp only
  have hz:=hb'.size
  by_cases hq:q > 0
  · rw[if_pos hq]
    have ha1:=ha.1
    exact wpS_bind (Q3 (Afl k0 (hb'.mir (by omega) (by omega)) hr (by omega) m2 (m3.congr (K_mirror_equal (by omega) ha.2)) h))
  · rw[if_neg hq]
    exact Afl k0 hb' hr (by omega) m2 m3 h
theorem Sb{nrem:Nat}{Q:Option Nat→SortSt→Prop}(k0:Kn st0)(hr:lo+nrem≤(arrOf st0).size)(h1:1≤nrem)
    (h:∀ m st',Rb lo st0 st'→1≤m→m≤nrem→So (arrOf st') lo m→Q (some m) st') :
    wpS (model prog w) A E s (countRun' lo nrem) Q st0:=by
  rw[Tj]
  have hb:Rb lo st0 st0:=⟨Array.Perm.refl _,fun _ _=>rfl,rfl,rfl,rfl⟩
  refine wpS_bind (Afj k0 hr (Nat.le_refl 1) h1 So.one fun n n1 n2 hs hor=>?_)
  dsimp only
  by_cases hnn:n=nrem
  · rw[if_pos (by simpa using hnn)]
    exact wpS_pure (h n st0 hb n1 n2 hs)
  · rw[if_neg (by simpa using hnn)]
    have hlt:=hor.resolve_left hnn
    by_cases hgt:n > 1
    · rw[if_pos hgt]
      refine wpS_bind (Lr k0 (by omega) (by omega) ?_)
      dsimp only
      by_cases hro:K (arrOf st0) lo < K (arrOf st0) (lo+n - 1)
      · rw[if_pos (by simpa using hro)]
        exact wpS_pure (h n st0 hb n1 n2 hs)
      · rw[if_neg (by simpa using hro)]
        have hall:∀ k,lo≤k→k < lo+n→K (arrOf st0) k=K (arrOf st0) (lo+n - 1):=by
          intro k a b
          have a1:=hs 0 (k - lo) (by omega) (by omega)
          have a2:=hs (k - lo) (n - 1) (by omega) (by omega)
          rw[Nat.add_zero,show lo+(k - lo)=k by omega] at a1
          rw[show lo+(k - lo)=k by omega,show lo+(n - 1)=lo+n - 1 by omega] at a2
          omega
        refine wpS_bind (Q3 (Afn k0 (hb.mir (Nat.le_refl _) (by omega)) hr (by omega) (Ni.congr ?_ (K_mirror_equal (by omega) hall)) h))
        refine Ni.more (fun i j a b=>?_) (by omega) (Int.le_of_lt hlt)
        rw[hall (lo+i) (by omega) (by omega),hall (lo+j) (by omega) (by omega)]
        exact Int.le_refl _
    · rw[if_neg hgt]
      have:n=1:=by omega
      subst this
      refine Afn k0 hb hr (by omega) (Ni.more (fun i j a b=>?_) (by omega) (Int.le_of_lt hlt)) h
      have:i=j:=by omega
      subst this;exact Int.le_refl _
end
noncomputable abbrev BI:Type:=Option Bool×Nat×Nat
noncomputable def bI(lo k:Nat)(_:Nat)(c:BI):StateT SortSt Sem (ForInStep BI):=
  if c.2.1 ≥ c.2.2 then pure (.done (none,c.2.1,c.2.2)) else do
  let x ← ltAt' (lo+k) (lo+(c.2.1+c.2.2) / 2)
  match x with
  | some less=>if less=true then pure (.yield (none,c.2.1,(c.2.1+c.2.2) / 2)) else pure (.yield (none,(c.2.1+c.2.2) / 2+1,c.2.2))
  | _=>pure (.done (some false,c.2.1,c.2.2))
noncomputable def bO(lo:Nat)(k:Nat)(_:Option Bool×Unit):StateT SortSt Sem (ForInStep (Option Bool×Unit)):=do
  let d ← forIn [0:k] ((none,0,k):BI) (bI lo k)
  match d.1 with
  | some r=>pure (.done (some r,()))
  | none=>do
    moveDown' (lo+k) (lo+d.2.1)
    pure (.yield (none,()))
theorem Pw(lo n ok:Nat):binarySort' lo n ok=(do
  let c ← forIn [max ok 1:n] ((none,()):Option Bool×Unit) (bO lo)
  match c.1 with
  | some r=>pure r
  | none=>pure true):=by
  kernel_rfl
noncomputable abbrev MI:Type:=Option Unit×Unit
noncomputable abbrev RO:Type:=Option Unit×Nat
noncomputable def mI(pw:Nat)(_:Nat)(_:MI):StateT SortSt Sem (ForInStep MI):=do
  let s ← get
  match (if (pendingOf s).size > 1 then (pendingOf s)[(pendingOf s).size - 2]? else none) with
  | some (_,_,older)=>
    if older≤pw then pure (.done (none,())) else do
    let b ← mergeAt' ((pendingOf s).size - 2)
    if (!b)=true then pure (.done (some (),())) else pure (.yield (none,()))
  | _=>pure (.done (none,()))
noncomputable def r3(lo n:Nat):StateT SortSt Sem (ForInStep RO):=do
  modify fun s=>setPending s ((pendingOf s).push (lo,n,0))
  pure (.yield (none,lo+n))
noncomputable def r2(size lo n:Nat):StateT SortSt Sem (ForInStep RO):=do
  let s ← get
  match (pendingOf s).back? with
  | some (s1,n1,_)=>do
    let c ← forIn [0:size] ((none,()):MI) (mI (power' size (2 * s1+n1) (2 * s1+n1+n1+n) size))
    match c.1 with
    | some r=>pure (.done (some r,lo))
    | none=>do
      modify fun s=>setPending s ((pendingOf s).modify ((pendingOf s).size - 1) fun x=>(x.1,x.2.1,power' size (2 * s1+n1) (2 * s1+n1+n1+n) size))
      r3 lo n
  | _=>r3 lo n
noncomputable def r1(size:Nat)(_:Nat)(c:RO):StateT SortSt Sem (ForInStep RO):=
  if c.2 ≥ size then pure (.done (none,c.2)) else do
  let x ← countRun' c.2 (size - c.2)
  match x with
  | some found=>
    if found < minRun' size size 0 then do
      liftM (rule "list.sort.binary-insertion")
      let b ← binarySort' c.2 (min (size - c.2) (minRun' size size 0)) found
      if (!b)=true then pure (.done (some (),c.2)) else r2 size c.2 (min (size - c.2) (minRun' size size 0))
    else r2 size c.2 found
  | _=>pure (.done (some (),c.2))
noncomputable def f1(_:Nat)(_:MI):StateT SortSt Sem (ForInStep MI):=do
  let s ← get
  if (pendingOf s).size≤1 then pure (.done (none,())) else do
  let b ← mergeAt' (if (if (pendingOf s).size - 2 > 0 then (pendingOf s)[(pendingOf s).size - 2 - 1]?.map (·.2.1) else none).any (· < ((pendingOf s)[(pendingOf s).size - 2+1]?.elim 0 (·.2.1)))
    then (pendingOf s).size - 2 - 1 else (pendingOf s).size - 2)
  if (!b)=true then pure (.done (some (),())) else pure (.yield (none,()))
theorem Tg:sortRuns'=(do
  let s ← get
  let c ← forIn [0:(arrOf s).size] ((none,0):RO) (r1 (arrOf s).size)
  match c.1 with
  | some r=>pure r
  | none=>do
    let d ← forIn [0:(arrOf s).size] ((none,()):MI) f1
    match d.1 with
    | some r=>pure r
    | none=>pure ()):=by
  kernel_rfl
section
variable {prog:Program}{w:World}{A:Around}{E:Value→Shared→Prop}{s:Shared}{st0:SortSt}{lo:Nat}
theorem Ajr{st:SortSt}{k:Nat}{Q:BI→SortSt→Prop}(hk:Kn st)(hz:lo+k < (arrOf st).size)(hs:So (arrOf st) lo k)
    (h:∀ l r,l≤k→(∀ i,i < l→K (arrOf st) (lo+i)≤K (arrOf st) (lo+k))→(∀ i,l≤i→i < k→K (arrOf st) (lo+k) < K (arrOf st) (lo+i))→Q (none,l,r) st) :
    wpS (model prog w) A E s (forIn [0:k] ((none,0,k):BI) (bI lo k)) Q st:=by
  refine wpS_forRange (I:=fun x c st'=>st'=st∧∃ l r,c=(none,l,r)∧l≤r∧r≤k∧r - l≤k - x ∧
    (∀ i,i < l→K (arrOf st) (lo+i)≤K (arrOf st) (lo+k))∧(∀ i,r≤i→i < k→K (arrOf st) (lo+k) < K (arrOf st) (lo+i))) ?_ ?_
    ⟨rfl,0,k,rfl,by omega,by omega,by omega,fun i hi=>by omega,fun i a b=>by omega⟩
  · rintro x c st' _ hx ⟨rfl,l,r,rfl,a1,a2,a3,a4,a5⟩
    unfold bI
    dsimp only
    by_cases hg:l ≥ r
    · rw[if_pos hg]
      have:l=r:=by omega
      subst this
      exact wpS_pure (h l l a2 a4 a5)
    · rw[if_neg hg]
      refine wpS_bind (Lr hk (by omega) (by omega) ?_)
      dsimp only
      by_cases hl:K (arrOf st') (lo+k) < K (arrOf st') (lo+(l+r) / 2)
      · rw[if_pos (by simpa using hl)]
        refine wpS_pure ⟨rfl,l,(l+r) / 2,rfl,by omega,by omega,by omega,a4,fun i b1 b2=>?_⟩
        exact Int.lt_of_lt_of_le hl (hs _ _ b1 b2)
      · rw[if_neg (by simpa using hl)]
        refine wpS_pure ⟨rfl,(l+r) / 2+1,r,rfl,by omega,by omega,by omega,fun i b1=>?_,a5⟩
        exact Int.le_trans (hs i ((l+r) / 2) (by omega) (by omega)) (Int.not_lt.mp hl)
  · rintro c st' ⟨rfl,l,r,rfl,a1,a2,a3,a4,a5⟩
    have:l=r:=by omega
    subst this
    exact h l l a2 a4 a5
theorem P0{st:SortSt}{n ok:Nat}{Q:Bool→SortSt→Prop}(k0:Kn st0)(hb:Rb lo st0 st)(hn:lo+n≤(arrOf st0).size)(h1:1≤ok)(hok:ok≤n)(hs:So (arrOf st) lo ok)
    (h:∀ st',Rb lo st0 st'→So (arrOf st') lo n→Q true st'):wpS (model prog w) A E s (binarySort' lo n ok) Q st:=by
  rw[Pw]
  refine wpS_bind (wpS_mono (wpS_forRange (I:=fun k c st'=>c=(none,())∧Rb lo st0 st'∧So (arrOf st') lo k)
    (Q:=fun c st'=>c=(none,())∧Rb lo st0 st'∧So (arrOf st') lo n) ?_ ?_ ⟨rfl,hb,by rw[show max ok 1=ok by omega];exact hs⟩) ?_)
  · rintro k c st' hk1 hk2 ⟨rfl,hb',hs'⟩
    have hz:=hb'.size
    unfold bO
    refine wpS_bind (Ajr (hb'.kn k0) (by omega) hs' fun l r l1 l2 l3=>?_)
    dsimp only
    rw[moveDown'_eq]
    have hks:lo+k < (arrOf st').size:=by omega
    refine wpS_bind (wpS_modify (wpS_pure ⟨rfl,hb'.set (bubble_perm _ _ _) (fun j hj=>?_),?_⟩))
    · rw[getElem?_bubble hks _ (by omega),if_neg (by omega),if_neg (by omega)]
    · intro i j hij hj
      show K (bubble (arrOf st') (lo+k) (lo+k - (lo+l))) (lo+i)≤K (bubble (arrOf st') (lo+k) (lo+k - (lo+l))) (lo+j)
      rw[K_bubble hks (by omega),K_bubble hks (by omega),show lo+k - (lo+k - (lo+l))=lo+l by omega]
      have sub:∀ x,0 < x→lo+x - 1=lo+(x - 1):=fun x hx=>by omega
      by_cases ci:i=l
      · rw[if_pos (by omega)]
        by_cases cj:j=l
        · rw[if_pos (by omega)];exact Int.le_refl _
        · rw[if_neg (by omega),if_pos (by omega),sub j (by omega)]
          exact Int.le_of_lt (l3 _ (by omega) (by omega))
      · rw[if_neg (by omega)]
        by_cases ci2:l < i
        · rw[if_pos (by omega),if_neg (by omega),if_pos (by omega),sub i (by omega),sub j (by omega)]
          exact hs' _ _ (by omega) (by omega)
        · rw[if_neg (by omega)]
          by_cases cj:j=l
          · rw[if_pos (by omega)];exact l2 i (by omega)
          · rw[if_neg (by omega)]
            by_cases cj2:l < j
            · rw[if_pos (by omega),sub j (by omega)]
              exact hs' _ _ (by omega) (by omega)
            · rw[if_neg (by omega)]
              exact hs' _ _ hij (by omega)
  · rintro c st' ⟨rfl,hb',hs'⟩
    rw[show max (max ok 1) n=n by omega] at hs'
    exact ⟨rfl,hb',hs'⟩
  · rintro c st' ⟨rfl,hb',hs'⟩
    exact wpS_pure (h st' hb' hs')
end
noncomputable abbrev Pn:Type:=Nat×Nat×Nat
noncomputable def RL(xs:Array Keyed):Nat→List Pn→Nat→Prop
  | s,[],e=>s=e
  | s,x::t,e=>x.1=s∧0 < x.2.1∧So xs s x.2.1∧RL xs (s+x.2.1) t e
theorem RL.le{xs:Array Keyed}:∀ {l:List Pn} {s e:Nat},RL xs s l e→s+l.length≤e
  | [],s,e,h=>by have:s=e:=h;simp[this]
  | x::t,s,e,h=>by have:=RL.le h.2.2.2;have:=h.2.1;simp;omega
theorem So.congr{xs ys:Array Keyed}{s n:Nat}(h:So xs s n)(e:∀ k,s≤k→k < s+n→K ys k=K xs k):So ys s n:=fun i j a b=>by
  rw[e _ (by omega) (by omega),e _ (by omega) (by omega)];exact h i j a b
theorem RL.congr{xs ys:Array Keyed}:∀ {l:List Pn} {s e:Nat},RL xs s l e→(∀ k,s≤k→k < e→K ys k=K xs k)→RL ys s l e
  | [],s,e,h,_=>h
  | x::t,s,e,h,hc=>by
    have l1:=RL.le h.2.2.2
    exact ⟨h.1,h.2.1,h.2.2.1.congr fun k a b=>hc k a (by omega),RL.congr h.2.2.2 fun k a b=>hc k (by omega) b⟩
theorem RL.app{xs:Array Keyed}:∀ {l1 l2:List Pn} {s e:Nat},RL xs s (l1++l2) e↔∃ m,RL xs s l1 m∧RL xs m l2 e
  | [],l2,s,e=>⟨fun h=>⟨s,rfl,h⟩,fun ⟨m,h1,h2⟩=>by have:s=m:=h1;subst this;exact h2⟩
  | x::t,l2,s,e=>by
    constructor
    · rintro ⟨a,b,c,d⟩
      obtain ⟨m,h1,h2⟩:=RL.app.mp d
      exact ⟨m,⟨a,b,c,h1⟩,h2⟩
    · rintro ⟨m,⟨a,b,c,d⟩,h2⟩
      exact ⟨a,b,c,RL.app.mpr ⟨m,d,h2⟩⟩
theorem K_list(xs:Array Keyed)(i:Nat):K xs i=match xs.toList[i]? with | some p=>nk p | none=>0:=by
  unfold K nk
  rw[Array.getElem?_toList]
  cases xs[i]? <;> rfl
theorem Vo{xs:Array Keyed}{P X Z:List Keyed}{s n:Nat}(e:xs.toList=P++(X++Z))(h1:s=P.length)(h2:n=X.length):So xs s n↔Srt X:=by
  have ek:∀ i,(hi:i < X.length)→K xs (s+i)=nk X[i]:=by
    intro i hi
    rw[K_list,e,List.getElem?_append_right (by omega),List.getElem?_append_left (by omega),show s+i - P.length=i by omega,List.getElem?_eq_getElem hi]
  constructor
  · intro h
    refine List.pairwise_iff_getElem.mpr fun i j hi hj hij=>?_
    have:=h i j (by omega) (by omega)
    rwa [ek i hi,ek j hj] at this
  · intro h i j hij hj
    rw[ek i (by omega),ek j (by omega)]
    by_cases c:i=j
    · subst c;exact Int.le_refl _
    · exact List.pairwise_iff_getElem.mp h i j (by omega) (by omega) (by omega)
section
variable {prog:Program}{w:World}{A:Around}{E:Value→Shared→Prop}{s:Shared}{st0:SortSt}{lo:Nat}
theorem N8{st:SortSt}{i e:Nat}{Q:Bool→SortSt→Prop}(hk:Kn st)(R:RL (arrOf st) 0 (pendingOf st).toList e)(he:e≤(arrOf st).size)(hi:i+1 < (pendingOf st).size)
    (h:∀ st',Kn st'→(arrOf st').Perm (arrOf st)→RL (arrOf st') 0 (pendingOf st').toList e→(pendingOf st').size+1=(pendingOf st).size→(∀ k,e≤k→K (arrOf st') k=K (arrOf st) k)→Q true st') :
    wpS (model prog w) A E s (mergeAt' i) Q st:=by
  have hi':i+1 < (pendingOf st).toList.length:=by simpa using hi
  have ep:(pendingOf st).toList=(pendingOf st).toList.take i++((pendingOf st).toList[i]::(pendingOf st).toList[i+1]::(pendingOf st).toList.drop (i+2)):=by
    rw[← List.drop_eq_getElem_cons hi',← List.drop_eq_getElem_cons (by omega),List.take_append_drop]
  have p1:(pendingOf st)[i]? = some ((pendingOf st).toList[i]):=by rw[← Array.getElem?_toList];exact List.getElem?_eq_getElem (by omega)
  have p2:(pendingOf st)[i+1]? = some ((pendingOf st).toList[i+1]):=by rw[← Array.getElem?_toList];exact List.getElem?_eq_getElem hi'
  have hlt:((pendingOf st).toList.take i).length=i:=by rw[List.length_take];omega
  generalize hl1:(pendingOf st).toList.take i=l1 at *
  generalize hl2:(pendingOf st).toList.drop (i+2)=l2 at *
  generalize hx:(pendingOf st).toList[i]=x at *
  generalize hy:(pendingOf st).toList[i+1]=y at *
  obtain ⟨sa,na,pw⟩:=x
  obtain ⟨sb,nb,pv⟩:=y
  rw[ep] at R
  obtain ⟨m,R1,⟨a1,a2,a3,b1,b2,b3,R2⟩⟩:=RL.app.mp R
  dsimp only at a1 a2 a3 b1 b2 b3 R2
  subst a1
  have le2:=RL.le R2
  have hsz:(arrOf st).toList.length=(arrOf st).size:=by simp
  generalize hT:(arrOf st).toList=T at *
  have e4:T=T.take sa++((T.drop sa).take na++((T.drop (sa+na)).take nb++T.drop (sa+na+nb))):=by
    rw[show T.drop (sa+na+nb)=(T.drop (sa+na)).drop nb from List.drop_drop.symm,List.take_append_drop,show T.drop (sa+na)=(T.drop sa).drop na from List.drop_drop.symm,List.take_append_drop,List.take_append_drop]
  have n1:(T.take sa).length=sa:=by rw[List.length_take];omega
  have n2:((T.drop sa).take na).length=na:=by rw[List.length_take,List.length_drop];omega
  have n3:((T.drop (sa+na)).take nb).length=nb:=by rw[List.length_take,List.length_drop];omega
  generalize hP:T.take sa=P at *
  generalize hX:(T.drop sa).take na=X at *
  generalize hY:(T.drop (sa+na)).take nb=Y at *
  generalize hZ:T.drop (sa+na+nb)=Z at *
  have hT4:=hT.trans e4
  have sx:Srt X:=(Vo (s:=sa) (n:=na) hT4 n1.symm n2.symm).mp a3
  have sy:Srt Y:=(Vo (s:=sa+na) (n:=nb) (P:=P++X) (X:=Y) (Z:=Z) (by rw[hT4];simp) (by simp;omega) n3.symm).mp b3
  refine Vl hk hT4 p1 p2 n1.symm n2.symm b1 n3.symm a2 b2 sx sy fun st' W w1 w2 w3 w4 w5 w6=>?_
  have hW:W.length=na+nb:=by rw[w1.length_eq,List.length_append];omega
  have hperm:(arrOf st').Perm (arrOf st):=by
    refine Array.perm_iff_toList_perm.mpr ?_
    rw[w3,hT4,← List.append_assoc X]
    exact List.Perm.append_left P (List.Perm.append_right Z w1)
  have epd:(pendingOf st').toList=l1++(sa,na+nb,pw)::l2:=by
    rw[w6,Array.toList_eraseIdxIfInBounds,Array.toList_setIfInBounds,ep,List.set_append_right _ _ (by omega),show i - l1.length=0 by omega,List.set_cons_zero,
      List.eraseIdx_append_of_length_le (by omega),show i+1 - l1.length=1 by omega]
    rfl
  have klow:∀ k,k < sa→K (arrOf st') k=K (arrOf st) k:=by
    intro k hk'
    rw[K_list,K_list,w3,hT4,List.getElem?_append_left (by omega),List.getElem?_append_left (by omega)]
  have khi:∀ k,sa+na+nb≤k→K (arrOf st') k=K (arrOf st) k:=by
    intro k hk'
    rw[K_list,K_list,w3,hT4,List.getElem?_append_right (by omega),List.getElem?_append_right (by omega),List.getElem?_append_right (by omega),List.getElem?_append_right (by omega),List.getElem?_append_right (by omega)]
    rw[show k - P.length - W.length=k - P.length - X.length - Y.length by omega]
  refine h st' ⟨w4.trans hk.kind,w5.trans hk.fl,fun p hp=>hk.ik p ((Array.perm_iff_toList_perm.mp hperm).mem_iff.mp hp)⟩ hperm ?_ ?_ fun k hk'=>khi k (by omega)
  · rw[epd]
    refine RL.app.mpr ⟨sa,R1.congr fun k _ hk'=>klow k hk',rfl,by show 0 < na+nb;omega,(Vo (s:=sa) (n:=na+nb) w3 n1.symm hW.symm).mpr w2,?_⟩
    show RL (arrOf st') (sa+(na+nb)) l2 e
    rw[← Nat.add_assoc]
    exact R2.congr fun k hk' _=>khi k hk'
  · have c1:(pendingOf st').toList.length=(pendingOf st').size:=by simp
    have c2:(pendingOf st).toList.length=(pendingOf st).size:=by simp
    rw[← c1,← c2,epd,ep]
    simp
    omega
end
section
variable {prog:Program}{w:World}{A:Around}{E:Value→Shared→Prop}{s:Shared}{a₀:Array Keyed}
structure Rn(a₀:Array Keyed)(e:Nat)(st:SortSt):Prop where
  kn:Kn st
  perm:(arrOf st).Perm a₀
  rl:RL (arrOf st) 0 (pendingOf st).toList e
  le:e≤a₀.size
theorem Rn.size{e:Nat}{st:SortSt}(h:Rn a₀ e st):(arrOf st).size=a₀.size:=h.perm.size_eq
theorem Ai1{st:SortSt}{e n pw:Nat}{Q:MI→SortSt→Prop}(h0:Rn a₀ e st)
    (h:∀ st',Rn a₀ e st'→(∀ k,e≤k→K (arrOf st') k=K (arrOf st) k)→Q (none,()) st'):wpS (model prog w) A E s (forIn [0:n] ((none,()):MI) (mI pw)) Q st:=by
  refine wpS_forRange (I:=fun _ c st'=>c=(none,())∧Rn a₀ e st'∧∀ k,e≤k→K (arrOf st') k=K (arrOf st) k) ?_ (fun c st' hh=>by obtain ⟨rfl,a,b⟩:=hh;exact h st' a b) ⟨rfl,h0,fun _ _=>rfl⟩
  rintro x c st' _ _ ⟨rfl,hr,hp'⟩
  unfold mI
  refine wpS_bind (wpS_get ?_)
  by_cases c1:(pendingOf st').size > 1
  · rw[if_pos c1]
    have e1:(pendingOf st')[(pendingOf st').size - 2]? = some (pendingOf st')[(pendingOf st').size - 2]:=getElem?_pos _ _ (by omega)
    rw[e1]
    generalize (pendingOf st')[(pendingOf st').size - 2]=y
    obtain ⟨y1,y2,y3⟩:=y
    dsimp only
    by_cases c2:y3≤pw
    · rw[if_pos c2]
      exact wpS_pure (h st' hr hp')
    · rw[if_neg c2]
      refine wpS_bind (N8 hr.kn hr.rl (by rw[hr.size];exact hr.le) (by omega) fun st2 b1 b2 b3 b4 b5=>?_)
      rw[if_neg (by simp)]
      exact wpS_pure ⟨rfl,⟨b1,b2.trans hr.perm,b3,hr.le⟩,fun k hk=>(b5 k hk).trans (hp' k hk)⟩
  · rw[if_neg c1]
    exact wpS_pure (h st' hr hp')
noncomputable def PR(a₀:Array Keyed)(m:Nat)(r:ForInStep RO)(st':SortSt):Prop:=match r with
  | .done (none,e)=>e=a₀.size∧Rn a₀ e st'
  | .yield (none,e)=>Rn a₀ e st'∧m≤e
  | _=>False
theorem Afq{st:SortSt}{lo n m:Nat}(h0:Rn a₀ lo st)(hn:0 < n)(hs:So (arrOf st) lo n)(hle:lo+n≤a₀.size)(hm:m≤lo+n) :
    wpS (model prog w) A E s (r3 lo n) (PR a₀ m) st:=by
  unfold r3
  refine wpS_bind (wpS_modify (wpS_pure ⟨⟨⟨h0.kn.kind,h0.kn.fl,h0.kn.ik⟩,h0.perm,?_,hle⟩,hm⟩))
  show RL (arrOf st) 0 ((pendingOf st).push (lo,n,0)).toList (lo+n)
  rw[Array.toList_push]
  exact RL.app.mpr ⟨lo,h0.rl,rfl,hn,hs,rfl⟩
theorem Qc{xs:Array Keyed}{pw:Nat}:∀ {l:List Pn} {i s e:Nat},RL xs s l e→RL xs s (l.modify i fun x=>(x.1,x.2.1,pw)) e
  | [],i,s,e,h=>by simpa using h
  | x::t,0,s,e,h=>by rw[List.modify_zero_cons];exact h
  | x::t,i+1,s,e,h=>by
    rw[List.modify_succ_cons]
    exact ⟨h.1,h.2.1,h.2.2.1,Qc h.2.2.2⟩
theorem Afw{st:SortSt}{size lo n m:Nat}(h0:Rn a₀ lo st)(hn:0 < n)(hs:So (arrOf st) lo n)(hle:lo+n≤a₀.size)(hm:m≤lo+n) :
    wpS (model prog w) A E s (r2 size lo n) (PR a₀ m) st:=by
  unfold r2
  refine wpS_bind (wpS_get ?_)
  cases (pendingOf st).back? with
  | none=>exact Afq h0 hn hs hle hm
  | some x=>
    obtain ⟨s1,n1,pw⟩:=x
    dsimp only
    refine wpS_bind (Ai1 h0 fun st' hr hk=>?_)
    dsimp only
    refine wpS_bind (wpS_modify ?_)
    refine Afq ⟨⟨hr.kn.kind,hr.kn.fl,hr.kn.ik⟩,hr.perm,?_,hr.le⟩ hn (hs.congr fun k a _=>hk k a) hle hm
    show RL (arrOf st') 0 ((pendingOf st').modify _ _).toList lo
    rw[Array.toList_modify]
    exact Qc hr.rl
theorem Rn.of{st st':SortSt}{lo:Nat}(h:Rn a₀ lo st)(b:Rb lo st st'):Rn a₀ lo st':=by
  refine ⟨b.kn h.kn,b.perm.trans h.perm,?_,h.le⟩
  rw[b.pend]
  exact h.rl.congr fun k _ hk=>K_congr (b.low k hk)
theorem Ajn{st:SortSt}{c:RO}{x:Nat}(h2:0 < a₀.size)(hc:c.1=none)(h0:Rn a₀ c.2 st)(hx:x≤c.2) :
    wpS (model prog w) A E s (r1 a₀.size x c) (PR a₀ (x+1)) st:=by
  obtain ⟨r,lo⟩:=c
  dsimp only at hc h0 hx
  unfold r1
  dsimp only
  have hle:=h0.le
  have hz:=h0.size
  by_cases c1:lo ≥ a₀.size
  · rw[if_pos c1]
    exact wpS_pure ⟨by omega,h0⟩
  · rw[if_neg c1]
    refine wpS_bind (Sb h0.kn (by omega) (by omega) fun m st' hb m1 m2 hs=>?_)
    dsimp only
    by_cases c2:m < minRun' a₀.size a₀.size 0
    · rw[if_pos c2]
      refine wpS_bind (wpS_lift (wpAny_rule ⟨rfl,?_⟩))
      refine wpS_bind (P0 h0.kn hb (by omega) m1 (by omega) hs fun st2 hb2 hs2=>?_)
      rw[if_neg (by simp)]
      exact Afw (h0.of hb2) (by omega) hs2 (by omega) (by omega)
    · rw[if_neg c2]
      exact Afw (h0.of hb) (by omega) hs (by omega) (by omega)
theorem Ajp{st:SortSt}{Q:MI→SortSt→Prop}{n:Nat}(hn:n=a₀.size)(h0:Rn a₀ n st)
    (h:∀ st',Rn a₀ n st'→(pendingOf st').size≤1→Q (none,()) st'):wpS (model prog w) A E s (forIn [0:n] ((none,()):MI) f1) Q st:=by
  have hl0:=RL.le h0.rl
  have hl1:(pendingOf st).toList.length=(pendingOf st).size:=by simp
  refine wpS_forRange (I:=fun x c st'=>c=(none,())∧Rn a₀ n st'∧((pendingOf st').size+x≤n∨(pendingOf st').size≤1)) ?_ ?_ ⟨rfl,h0,.inl (by omega)⟩
  · rintro x c st' _ hx ⟨rfl,hr,hp⟩
    unfold f1
    refine wpS_bind (wpS_get ?_)
    by_cases c1:(pendingOf st').size≤1
    · rw[if_pos c1]
      exact wpS_pure (h st' hr c1)
    · rw[if_neg c1]
      refine wpS_bind ?_
      have hi:∀ b:Bool,(if b=true then (pendingOf st').size - 2 - 1 else (pendingOf st').size - 2)+1 < (pendingOf st').size:=by
        intro b
        cases b <;> simp <;> omega
      refine N8 hr.kn hr.rl (by rw[hr.size];exact hr.le) (hi _) fun st2 b1 b2 b3 b4 b5=>?_
      rw[if_neg (by simp)]
      exact wpS_pure ⟨rfl,⟨b1,b2.trans hr.perm,b3,hr.le⟩,.inl (by omega)⟩
  · rintro c st' ⟨rfl,hr,hp⟩
    exact h st' hr (by omega)
theorem Ty{st:SortSt}{Q:Unit→SortSt→Prop}(h0:IntKeys (arrOf st))(hk:kindOf st=oneType')(hf:failedOf st=none)(hp:pendingOf st=#[])(h2:0 < (arrOf st).size)
    (h:∀ st',(arrOf st').Perm (arrOf st)→failedOf st'=none→SortedTo (arrOf st') (arrOf st).size→Q () st'):wpS (model prog w) A E s sortRuns' Q st:=by
  rw[Tg]
  refine wpS_bind (wpS_get ?_)
  have r0:Rn (arrOf st) 0 st:=⟨⟨hk,hf,h0⟩,Array.Perm.refl _,by rw[hp];rfl,by omega⟩
  refine wpS_bind (wpS_mono (wpS_forRange (I:=fun x (c:RO) st'=>c.1=none∧Rn (arrOf st) c.2 st'∧x≤c.2) (Q:=fun c st'=>c=(none,(arrOf st).size)∧Rn (arrOf st) (arrOf st).size st') ?_ ?_ ⟨rfl,r0,Nat.le_refl _⟩) ?_)
  · rintro x c st' _ hx ⟨c1,c2,c3⟩
    refine wpS_mono (Ajn h2 c1 c2 c3) ?_
    rintro (⟨r,e⟩ | ⟨r,e⟩) st2 hh
    · cases r with
      | some r=>exact hh.elim
      | none=>
        obtain ⟨rfl,hr⟩:=hh
        exact ⟨rfl,hr⟩
    · cases r with
      | some r=>exact hh.elim
      | none=>exact ⟨rfl,hh.1,hh.2⟩
  · rintro ⟨r,e⟩ st' ⟨c1,c2,c3⟩
    dsimp only at c1 c2 c3
    have:=c2.le
    have:e=(arrOf st).size:=by omega
    subst this c1
    exact ⟨rfl,c2⟩
  · rintro c st' ⟨rfl,hr⟩
    dsimp only
    refine wpS_bind (Ajp rfl hr fun st2 hr2 hs=>?_)
    refine wpS_pure (h st2 hr2.perm hr2.kn.fl ?_)
    have rl:=hr2.rl
    have hl1:(pendingOf st2).toList.length=(pendingOf st2).size:=by simp
    generalize (pendingOf st2).toList=l at rl hl1
    match l,rl,hl1 with
    | [],rl,_=>
      have:0=(arrOf st).size:=rl
      omega
    | [x],rl,_=>
      have e:0+x.2.1=(arrOf st).size:=rl.2.2.2
      intro i j a b
      have:=rl.2.2.1 i j a (by omega)
      simpa using this
    | x::y::t,_,hl=>simp at hl;omega
end
end LS
namespace SO
open PySem PySem.W PySem.Calls PyProof.Rows
section
variable {P:Program}{w:World}{A:Around}{E:Value→Shared→Prop}{s:Shared}{vs:List Value}
theorem Xf{a:Addr}{c0:Nat}{ns:List Int}{F:PySem.Fin→Shared→Prop}(ho:s.heap.get? a=some (seqObj "list" vs.toArray c0))(hI:IntsAre vs ns)(hz:vs.length≤sizeLine)
    (hq:∀ (out:List Value) (ns':List Int) (h':Heap) (c:Nat),IntsAre out ns'→ns'.Perm ns→ns'.Pairwise (·≤·)→Kb a s.heap h'→h'.get? a=some (seqObj "list" out.toArray c)→F (.done (.ret .none)) { s with heap:=h' }) :
    wpAny (model P w) A (Builtin.«list.sort» ⟨[.ref a],[]⟩) F E s:=by
  obtain ⟨c1,h1⟩:∃ c1,(s.heap.update a (Obj.mapSeq fun _=>(#[]:Array Value))).get? a=some (seqObj "list" #[] c1):=⟨_,get?_update_seq ho fun _=>#[]⟩
  have k1:Kb a s.heap (((s.heap.update a (Obj.mapSeq fun _=>(#[]:Array Value))).push (seqObj "tuple" vs.toArray 0)).push (seqObj "list" #[] 0)):=((Act _ _ _).trans (Wd _ _ _)).trans (Wd _ _ _)
  have h3:(((s.heap.update a (Obj.mapSeq fun _=>(#[]:Array Value))).push (seqObj "tuple" vs.toArray 0)).push (seqObj "list" #[] 0)).get? a=some (seqObj "list" #[] c1):=Heap.get?_push_of_some _ (Heap.get?_push_of_some _ h1)
  rw[list_sort_plain]
  refine wpAny_bind (listItems_at ho rfl (wpAny_bind (listUpdate_at ho rfl (wpAny_bind (seqEpoch_at h1 rfl (wpAny_bind (wpAny_newTuple (wpAny_bind (wpAny_newList (wpAny_holding ?_) (Nat.zero_le _))) ?z2)))) ?z1 (Nat.zero_le _))))
  case z1=>rw[List.size_toArray];omega
  case z2=>exact hz
  show wpAny (model P w) A _ F E ({ s with heap:=((s.heap.update a (Obj.mapSeq fun _=>(#[]:Array Value))).push (seqObj "tuple" vs.toArray 0)).push (seqObj "list" #[] 0) }:Shared)
  generalize ((s.heap.update a (Obj.mapSeq fun _=>(#[]:Array Value))).push (seqObj "tuple" vs.toArray 0)).push (seqObj "list" #[] 0)=hp at k1 h3
  dsimp only
  have fin:∀ (st:SortSt),(arrOf st).Perm (pairsOf vs)→SortedTo (arrOf st) (pairsOf vs).size→failedOf st=none→wpAny (model P w) A (do
      let touched:=(← seqEpoch a) != c1
      Builtin.List.listUpdate (.ref a) fun _=>(arrOf st).map (·.2)
      if let some e:=failedOf st then rule "list.sort.comparison-raised";throw e
      if touched then rule "list.sort.modified";raiseError "ValueError" "list modified during sort"
      ret .none) F E { s with heap:=hp }:=by
    intro st hpm hs hfail
    obtain ⟨ns',a1,a2,a3⟩:=sorted_out hI hpm hs
    have hlen:((arrOf st).map (·.2)).size=vs.length:=(Array.size_map ..).trans (hpm.size_eq.trans (pairsOf_size _))
    obtain ⟨c2,h4⟩:∃ c2,(hp.update a (Obj.mapSeq fun _=>(arrOf st).map (·.2))).get? a=some (seqObj "list" ((arrOf st).map (·.2)) c2):=⟨_,get?_update_seq h3 fun _=>(arrOf st).map (·.2)⟩
    rw[hfail]
    refine wpAny_bind (seqEpoch_at h3 rfl (wpAny_bind (listUpdate_at h3 rfl ?_ (Nat.zero_le _) ?z3)))
    case z3=>rw[hlen];omega
    simp only[bne_self_eq_false,Bool.false_eq_true,if_false]
    exact wpAny_pure (hq _ ns' _ c2 a1 a2 a3 (k1.trans (Act _ _ _)) (by rw[h4]))
  by_cases hsmall:vs.toArray.size < 2
  · rw[if_pos hsmall,if_pos hsmall]
    have hs2:vs.length < 2:=by simpa using hsmall
    refine wpAny_bind (wpAny_pure ?_)
    rw[StateT.run_pure]
    refine wpAny_bind (wpAny_pure (fin (SortSt.mk' general' (vs.toArray.zip vs.toArray) #[] 7 none) (Array.Perm.refl _) ?_ rfl))
    intro i j hij hj
    have:i=j:=by rw[pairsOf_size] at hj;omega
    subst this;exact Int.le_refl _
  · rw[if_neg hsmall,if_neg hsmall]
    obtain ⟨v₁,v₂,rest,rfl⟩:∃ v₁ v₂ rest,vs=v₁ :: v₂ :: rest:=by
      match vs,hsmall with
      | [],h2=>simp at h2
      | [_],h2=>simp at h2
      | v₁ :: v₂ :: rest,_=>exact ⟨v₁,v₂,rest,rfl⟩
    rw[keyKind_ints hI]
    refine wpAny_bind (wpAny_pure ?_)
    refine wpAny_bind (wpAny_mono (LS.Ty (st:=SortSt.mk' oneType' ((v₁ :: v₂ :: rest).toArray.zip (v₁ :: v₂ :: rest).toArray) #[] 7 none)
      (Q:=fun _ st'=>(arrOf st').Perm (pairsOf (v₁ :: v₂ :: rest))∧failedOf st'=none∧SortedTo (arrOf st') (pairsOf (v₁ :: v₂ :: rest)).size)
      hI.intKeys rfl rfl rfl (by show 0 < (pairsOf (v₁ :: v₂ :: rest)).size;rw[pairsOf_size];simp) fun st' a1 a2 a3=>⟨a1,a2,a3⟩) ?_ fun _ _ e=>e)
    rintro ⟨⟨⟩,st'⟩ s' ⟨rfl,hp',hf,hs⟩
    exact fin st' hp' hs hf
end
end SO
namespace MR
open PySem PySem.Spec PyProof.Rows PySem.Calls L2 SO
noncomputable def Wt(ns:List Int):List Int:=ns.mergeSort (fun a b=>decide (a≤b))
theorem Hg(ns:List Int):(Wt ns).Perm ns:=List.mergeSort_perm _ _
theorem Sn(ns:List Int):(Wt ns).Pairwise (·≤·):=by
  have:=List.pairwise_mergeSort (le:=fun a b:Int=>decide (a≤b)) (fun a b c h1 h2=>by simp at h1 h2 ⊢;omega) (fun a b=>by simp;omega) ns
  exact this.imp fun h=>by simpa using h
theorem Ae2{a b:List Int}(h:a.Perm b)(ha:a.Pairwise (·≤·))(hb:b.Pairwise (·≤·)):a=b:=
  h.eq_of_pairwise (fun x y _ _ h1 h2=>Int.le_antisymm h1 h2) ha hb
theorem Abc{a b:List Int}(h:a.Perm b)(hb:b.Pairwise (·≤·)):Wt a=b:=Ae2 ((Hg a).trans h) (Sn a) hb
section
variable {X:Cx}
end
end MR
namespace SW
open PySem
noncomputable def Rs(xs:Array Nat):Prop:=xs.toList.Pairwise (· < ·)
theorem Acy{xs:Array Nat}(h:Rs xs){i j:Nat}(hij:i < j)(hj:j < xs.size):xs[i]'(by omega) < xs[j]:=by
  have:=List.pairwise_iff_getElem.mp h i j (by simpa using (by omega:i < xs.size)) (by simpa using hj) hij
  simpa using this
theorem Afo{xs:Array Nat}(h:Rs xs){i j:Nat}(hij:i≤j)(hj:j < xs.size):xs[i]'(by omega)≤xs[j]:=by
  rcases Nat.lt_or_eq_of_le hij with g | g
  · exact Nat.le_of_lt (Acy h g hj)
  · subst g;exact Nat.le_refl _
theorem Abx{xs:Array Nat}(h:Rs xs)(j:Nat):∀ (fuel lo hi:Nat),hi - lo≤fuel→lo≤hi→hi≤xs.size→(∀ i (_:i < xs.size),i < lo→xs[i] < j)→(∀ i (_:i < xs.size),hi≤i→j≤xs[i]) →
    SetTable.below.go xs j fuel lo hi≤xs.size∧(∀ i (_:i < xs.size),i < SetTable.below.go xs j fuel lo hi→xs[i] < j)∧(∀ i (_:i < xs.size),SetTable.below.go xs j fuel lo hi≤i→j≤xs[i]):=by
  intro fuel
  induction fuel with
  | zero=>
    intro lo hi h1 h2 h3 h4 h5
    have:lo=hi:=by omega
    subst this
    unfold SetTable.below.go
    exact ⟨h3,h4,h5⟩
  | succ n ih=>
    intro lo hi h1 h2 h3 h4 h5
    unfold SetTable.below.go
    split
    · rename_i hlt
      have hm:(lo+hi) / 2 < xs.size:=by omega
      have e:xs.getD ((lo+hi) / 2) j=xs[(lo+hi) / 2]:=by simp[Array.getD,hm]
      dsimp only
      rw[e]
      split
      · rename_i hx
        exact ih _ _ (by omega) (by omega) h3 (fun i hi' hlt'=>Nat.lt_of_le_of_lt (Afo h (by omega) hm) hx) h5
      · rename_i hx
        exact ih _ _ (by omega) (by omega) (by omega) h4 (fun i hi' hle=>Nat.le_trans (Nat.not_lt.mp hx) (Afo h hle hi'))
    · have:lo=hi:=by omega
      subst this
      exact ⟨h3,h4,h5⟩
theorem N5{xs:Array Nat}(h:Rs xs)(j:Nat):SetTable.below xs j≤xs.size∧(∀ i (_:i < xs.size),i < SetTable.below xs j→xs[i] < j)∧(∀ i (_:i < xs.size),SetTable.below xs j≤i→j≤xs[i]):=by
  unfold SetTable.below
  exact Abx h j _ _ _ (by omega) (Nat.zero_le _) (Nat.le_refl _) (fun i _ h=>by omega) (fun i h1 h2=>by omega)
theorem Vg{xs:Array Nat}(h:Rs xs):SetTable.below xs 0=0:=by
  obtain ⟨a,b,c⟩:=N5 h 0
  rcases Nat.eq_zero_or_pos (SetTable.below xs 0) with e | e
  · exact e
  · exact absurd (b 0 (by omega) e) (Nat.not_lt_zero _)
theorem Uj{xs:Array Nat}(h:Rs xs){i:Nat}(hi:i < xs.size):SetTable.below xs (xs[i]+1)=i+1:=by
  obtain ⟨a,b,c⟩:=N5 h (xs[i]+1)
  rcases Nat.lt_trichotomy (SetTable.below xs (xs[i]+1)) (i+1) with e | e | e
  · have:=c i hi (by omega);omega
  · exact e
  · have h1:=b (i+1) (by omega) e
    have h2:=Acy h (i:=i) (j:=i+1) (by omega) (by omega)
    omega
theorem Ah6{xs:Array Nat}(h:Rs xs){j:Nat}(hn:xs[SetTable.below xs j]?≠some j):Rs (SetTable.insertAt xs (SetTable.below xs j) j):=by
  obtain ⟨a,b,c⟩:=N5 h j
  unfold Rs
  rw[SetTable.toList_insertAt]
  have hh:xs.toList.Pairwise (· < ·):=h
  rw[List.pairwise_append]
  refine ⟨hh.sublist (List.take_sublist ..),List.pairwise_cons.mpr ⟨fun y hy=>?_,hh.sublist (List.drop_sublist ..)⟩,fun x hx y hy=>?_⟩
  · obtain ⟨i,hi,rfl⟩:=List.getElem_of_mem hy
    rw[List.getElem_drop]
    rw[List.length_drop,Array.length_toList] at hi
    have h1:=c (SetTable.below xs j+i) (by omega) (by omega)
    rw[Array.getElem_toList]
    rcases Nat.lt_or_eq_of_le h1 with g | g
    · exact g
    · exfalso
      rcases Nat.eq_zero_or_pos i with e | e
      · subst e
        exact hn (by rw[Array.getElem?_eq_getElem (by omega)];exact congrArg some g.symm)
      · have h2:=Acy h (by omega:SetTable.below xs j < SetTable.below xs j+i) (by omega)
        have h3:=c (SetTable.below xs j) (by omega) (Nat.le_refl _)
        omega
  · obtain ⟨i,hi,rfl⟩:=List.getElem_of_mem hx
    rw[List.length_take,Array.length_toList] at hi
    rw[List.getElem_take,Array.getElem_toList]
    have h1:=b i (by omega) (by omega)
    rcases List.mem_cons.mp hy with e | e
    · rw[e];exact h1
    · obtain ⟨k,hk,rfl⟩:=List.getElem_of_mem e
      rw[List.length_drop,Array.length_toList] at hk
      rw[List.getElem_drop,Array.getElem_toList]
      have:=c (SetTable.below xs j+k) (by omega) (by omega)
      omega
theorem Wg(j:Nat):SetTable.has #[] j=false:=by
  unfold SetTable.has
  simp
theorem Ui{t:SetTable}{j:Nat}(hd:t.dummies=#[])(h:t.slot j = .empty):t.place[SetTable.below t.place j]?≠some j:=by
  unfold SetTable.slot at h
  dsimp only at h
  intro e
  rw[e] at h
  simp at h
theorem Uk{t:SetTable}{j:Nat}(hd:t.dummies=#[]):t.slot j≠.dummy:=by
  unfold SetTable.slot
  dsimp only
  rw[hd,Wg]
  split <;> simp
theorem Tn{t:SetTable}(hd:t.dummies=#[]){f:Nat→Int}{h:Int}:∀ (fuel:Nat) (p:SetTable.Probe) {j:Nat} {d:Option Nat},p.dummy=none→SetTable.probe.go t f h fuel p=some (.empty j d)→t.slot j = .empty∧d=none:=by
  intro fuel
  induction fuel with
  | zero=>intro p j d _ e;unfold SetTable.probe.go at e;cases e
  | succ n ih=>
    intro p j d hp e
    unfold SetTable.probe.go at e
    have ha:(t.advance p).dummy=none:=by
      unfold SetTable.advance
      split
      · exact hp
      · exact hp
    cases hs:t.slot p.j with
    | empty=>rw[hs] at e;simp only[Option.some.injEq,SetTable.Met.empty.injEq] at e;obtain ⟨rfl,rfl⟩:=e;exact ⟨hs,hp⟩
    | dummy=>exact absurd hs (Uk hd)
    | live i=>
      rw[hs] at e
      dsimp only at e
      split at e
      · cases e
      · exact ih _ ha e
theorem Afh{t:SetTable}(hd:t.dummies=#[]){h:Int}{j:Nat}{b:Bool}(e:t.freeSlot h=some (j,b)):t.slot j = .empty:=by
  unfold SetTable.freeSlot at e
  split at e
  · rename_i j' d hp
    unfold SetTable.probe at hp
    obtain ⟨h1,h2⟩:=Tn hd _ _ (show (t.probeStart h).dummy=none from rfl) hp
    subst h2
    cases e
    exact h1
  · cases e
structure Tb(t:SetTable)(led:Bool):Prop where
  rs:Rs t.place
  du:t.dummies=#[]
  le:t.led=led
theorem Acj(led:Bool):Tb (.fresh 0 0 led) led:=⟨List.Pairwise.nil,rfl,rfl⟩
theorem K6{t:SetTable}{led:Bool}(h:Tb t led)(n:Nat):Tb (t.standIn n) led:=by
  refine ⟨?_,rfl,h.le⟩
  show (Array.range n).toList.Pairwise (· < ·)
  rw[Array.toList_range]
  exact List.pairwise_lt_range
theorem Aka{t:SetTable}{led:Bool}(h:Tb t led)(n:Nat):Tb (t.orStandIn n) led:=by
  unfold SetTable.orStandIn
  split
  · exact h
  · exact K6 h n
theorem Agu{t:SetTable}{led:Bool}(h:Tb t led)(es:Array (Int×Value))(k:Int)(x:Value):Tb (layNew t es k x).2.1 led:=by
  unfold layNew
  split
  · rename_i j b e
    have hs:=Ui h.du (Afh h.du e)
    refine Aka (t:=(t.put j).1) ⟨?_,?_,h.le⟩ _
    · exact Ah6 h.rs hs
    · show (if SetTable.has t.dummies j then _ else t.dummies)=#[]
      rw[h.du,Wg]
      rfl
  · exact K6 h _
theorem Aco{t:SetTable}{led:Bool}(h:Tb t led)(es:Array (Int×Value))(n:Nat):Tb (relayAll t es n).2.1 led:=by
  unfold relayAll
  split
  · rename_i t' order e
    dsimp only
    split
    · unfold SetTable.relaid SetTable.laid at e
      obtain ⟨ow,_,e⟩:=Option.bind_eq_some_iff.mp e
      simp only[Option.pure_def,Option.some.injEq,Prod.mk.injEq] at e
      obtain ⟨rfl,_⟩:=e
      refine ⟨?_,rfl,h.le⟩
      show (List.map _ _).Pairwise (· < ·)
      rw[List.pairwise_map,List.pairwise_filterMap]
      refine List.pairwise_lt_range.imp fun {a b} hab x hx y hy=>?_
      obtain ⟨_,_,rfl⟩:=Option.map_eq_some_iff.mp hx
      obtain ⟨_,_,rfl⟩:=Option.map_eq_some_iff.mp hy
      exact hab
    · exact K6 h _
  · exact K6 h _
theorem Tr{t:SetTable}{led:Bool}(h:Tb t led):Tb { t with plain:=false } led:=⟨h.rs,h.du,h.le⟩
theorem Ae8{α:Type}(f:Nat→Nat):∀ (fuel k:Nat) (left:List α) (out:Array α),fuel=left.length→(pickOrder.go f fuel k left out).toList.Perm (out.toList++left):=by
  intro fuel
  induction fuel with
  | zero=>
    intro k left out e
    have:left=[]:=List.length_eq_zero_iff.mp e.symm
    subst this
    unfold pickOrder.go
    simp
  | succ n ih=>
    intro k left out e
    unfold pickOrder.go
    have hl:f k % left.length < left.length:=Nat.mod_lt _ (by omega)
    rw[List.getElem?_eq_getElem hl]
    dsimp only
    refine (ih _ _ _ (by rw[List.length_eraseIdx,if_pos hl];omega)).trans ?_
    rw[Array.toList_push,List.append_assoc]
    refine List.Perm.append_left _ ?_
    rw[List.eraseIdx_eq_take_drop_succ,List.singleton_append]
    have e2:left=left.take (f k % left.length)++left[f k % left.length]::left.drop (f k % left.length+1):=by rw[List.getElem_cons_drop,List.take_append_drop]
    exact (List.perm_middle.symm).trans (List.Perm.of_eq e2.symm)
theorem Mp{α:Type}(f:Nat→Nat)(xs:Array α):(pickOrder f xs).toList.Perm xs.toList:=by
  unfold pickOrder
  have:=Ae8 f xs.size 0 xs.toList #[] (by simp)
  simpa using this
end SW
namespace SW
open PySem PySem.Spec PyProof.Rows
noncomputable def kOf:Value→Int
  | .int k _=>k
  | _=>0
noncomputable def Ad1(es:Array (Int×Value)):Prop:=∀ e∈es.toList,∃ k tk,e=(hashInt k,Value.int k tk)
noncomputable def IsSet(h:Heap)(a:Addr)(led:Bool)(σ:List Int):Prop:=
  ∃ o es ep t,h.get? a=some o∧o.ExactSet∧o.data = .set es ep t∧Ad1 es∧(es.toList.map fun e=>kOf e.2).Perm σ∧es.size < scanBound∧t.fits es.size=true∧Tb t led
noncomputable def Fd(σ:List Int)(k:Int):List Int:=if k∈σ then σ else σ ++ [k]
theorem Yc(σ:List Int)(k:Int):(Fd σ k).length≤σ.length+1:=by
  unfold Fd;split
  · omega
  · simp
theorem W6{h:Heap}{a:Addr}{o:Obj}{es:Array (Int×Value)}{ep:Nat}{t:SetTable}(ho:h.get? a=some o)(hd:o.data = .set es ep t)(fs:Array (Int×Value))(u:SetTable) :
    (h.update a (Obj.putSet fs u)).get? a=some { o with data:=.set fs (ep+1) u }:=by
  have q:=Heap.get?_update_self (Obj.putSet fs u) ho (by rw[putSet_of fs u hd];rfl)
  rw[putSet_of fs u hd] at q
  exact q
section
variable {prog:Program}{w:World}{A:Around}{E:Value→Shared→Prop}{s:Shared}{led:Bool}{σ:List Int}{a:Addr}
theorem Air{es:Array (Int×Value)}(h:Ad1 es):ElemsOf (intKind prog w) es.toList:=fun e he=>by
  obtain ⟨k,tk,rfl⟩:=h e he
  exact ⟨⟨k,intKind_is _ _ _ _,rfl⟩,rfl⟩
theorem Tc{g:Bool→Sem Unit}(hg:∀ (b:Bool) (r:Shared) (Q:Unit→Shared→Prop),Q () r→wpAny (model prog w) A (g b) Q E r){o:Obj}{es:Array (Int×Value)}{ep:Nat}{t:SetTable}
    (ho:s.heap.get? a=some o) (hex:o.ExactSet) (hd:o.data = .set es ep t) {fs:Array (Int×Value)} {u:SetTable} (he:Ad1 fs) (hp:(fs.toList.map fun e=>kOf e.2).Perm σ) (hb:fs.size < scanBound) (hf:u.fits fs.size=true) (htb:Tb u led) {was:Bool} {R:Option Bool→Shared→Prop}
    (h:∀ h',Heap.SameBut a s.heap h'→IsSet h' a led σ→R (some true) { s with heap:=h' }) :
    wpAny (model prog w) A (do
        storeSet a fs u
        if (!was&&u.tooFull)=true then do
            g (relayAll u fs (SetTable.grown fs.size)).2.2
            storeSet a (relayAll u fs (SetTable.grown fs.size)).1 (relayAll u fs (SetTable.grown fs.size)).2.1
            pure (some true)
          else pure (some true)) R E s:=by
  refine wpAny_bind (wpAny_storeSet_of ho hd ?_ (fits_of_scanBound hb))
  have g1:=W6 ho hd fs u
  have sb1:=Heap.SameBut.update s.heap a (Obj.putSet fs u)
  split
  · have hpr:=relayAll_perm u fs (SetTable.grown fs.size)
    have hfr:=relayAll_fits u fs (SetTable.grown fs.size)
    have htr:=Aco htb fs (SetTable.grown fs.size)
    generalize relayAll u fs (SetTable.grown fs.size)=Rl at hpr hfr htr ⊢
    obtain ⟨fs2,u2,gv⟩:=Rl
    dsimp only at hpr hfr htr ⊢
    have hsz:fs2.size=fs.size:=by rw[← Array.length_toList,hpr.length_eq,Array.length_toList]
    refine wpAny_bind (hg _ _ _ (wpAny_bind (wpAny_storeSet_of g1 rfl (wpAny_pure (h _ (sb1.trans (Heap.SameBut.update _ a _)) ?_)) (fits_of_scanBound (by rw[hsz];exact hb)))))
    exact ⟨_,fs2,ep+1+1,u2,W6 g1 rfl fs2 u2,hex,rfl,fun e he'=>he e (hpr.mem_iff.mp he'),(hpr.map _).trans hp,by rw[hsz];exact hb,hfr,htr⟩
  · exact wpAny_pure (h _ sb1 ⟨_,fs,ep+1,u,g1,hex,rfl,he,hp,hb,hf,htb⟩)
theorem Ai9{k:Int}{tk:Tok}{Q:Bool→Shared→Prop}(hS:IsSet s.heap a led σ)(hb:σ.length+1 < scanBound)
    (h:∀ h' b,Heap.SameBut a s.heap h'→IsSet h' a led (Fd σ k)→Q b { s with heap:=h' }):wpAny (model prog w) A (setAddHashed a (.int k tk) (hashInt k)) Q E s:=by
  obtain ⟨o,es,ep,t,ho,hex,hd,hel,hp,hbs,hf,htb⟩:=hS
  have hlen:es.size = σ.length:=by rw[← hp.length_eq,List.length_map,Array.length_toList]
  have hE:=Air (prog:=prog) (w:=w) hel
  have hmem:k∈σ↔∃ e∈es.toList,(intKind prog w).is k e.2=true:=by
    rw[← hp.mem_iff,List.mem_map]
    constructor
    · rintro ⟨e,he,q⟩
      obtain ⟨k',tk',rfl⟩:=hel e he
      have:k'=k:=q
      subst this
      exact ⟨_,he,intKind_is _ _ _ _⟩
    · rintro ⟨e,he,q⟩
      obtain ⟨k',tk',rfl⟩:=hel e he
      exact ⟨_,he,((intKind prog w).inj _ _ _ q (intKind_is _ _ _ _)).symm⟩
  unfold setAddHashed setAddHashedIn
  refine wpAny_holding (wpAny_bind (wpAny_setState_of ho hd hf ?_))
  dsimp only
  rw[byScan_of (knd:=intKind prog w) (x:=.int k tk) rfl hbs hE]
  simp only[↓reduceIte]
  unfold setAddByScan
  refine wpAny_bind (wpAny_bind (wpAny_rule (wpAny_bind (wpAny_setScan_of (knd:=intKind prog w) (k:=k) (intKind_is _ _ _ _) ho hd hf hE ?_))))
  cases hr:List.findIdx? (fun e=>(intKind prog w).is k e.2) es.toList with
  | some j=>
    dsimp only
    obtain ⟨hj,hpj,_⟩:=List.findIdx?_eq_some_iff_getElem.mp hr
    have hk:k∈σ:=hmem.mpr ⟨_,List.getElem_mem hj,hpj⟩
    refine wpAny_pure (wpAny_pure ?_)
    have e:s = { s with heap:=s.heap }:=by cases s;rfl
    rw[e]
    refine h s.heap _ (Heap.SameBut.refl a s.heap) ?_
    unfold Fd;rw[if_pos hk]
    exact ⟨o,es,ep,t,ho,hex,hd,hel,hp,hbs,hf,htb⟩
  | none=>
    dsimp only
    have hk:k∉σ:=fun hk=>by
      obtain ⟨e,he,q⟩:=hmem.mp hk
      have:=List.findIdx?_eq_none_iff.mp hr e he
      rw[q] at this
      exact Bool.noConfusion this
    have hgw:∀ (b:Bool) {r:Shared} {Q':Unit→Shared→Prop},Q' () r→wpAny (model prog w) A (match b with | true=>rule "set.scan.the-table-gave-way" | false=>pure ()) Q' E r:=
      fun b r Q' hq=>by cases b <;> first | exact wpAny_pure hq | exact wpAny_rule hq
    have hpm:=layNew_perm t es (hashInt k) (.int k tk)
    have hfi:=layNew_fits t es (hashInt k) (.int k tk)
    have ht1:=Agu htb es (hashInt k) (.int k tk)
    show wpAny (model prog w) A (_ >>= _) _ _ _
    generalize hL:layNew t es (hashInt k) (.int k tk)=L at hpm hfi ht1
    obtain ⟨fs,u,was,gave⟩:=L
    have hL':layNew t es ((intKind prog w).hash k) (.int k tk)=(fs,u,was,gave):=hL
    try rw[hL']
    try rw[hL]
    dsimp only at hpm hfi ht1 ⊢
    rw[Array.toList_push] at hpm
    have hsz:fs.size = σ.length+1:=by rw[← Array.length_toList,hpm.length_eq,List.length_append,Array.length_toList,hlen];rfl
    have he1:Ad1 fs:=fun e he=>by
      rcases List.mem_append.mp (hpm.mem_iff.mp he) with q | q
      · exact hel e q
      · rw[List.mem_singleton] at q;subst q;exact ⟨k,tk,rfl⟩
    have hp1:(fs.toList.map fun e=>kOf e.2).Perm (Fd σ k):=by
      unfold Fd;rw[if_neg hk]
      refine (hpm.map _).trans ?_
      rw[List.map_append]
      exact List.Perm.append hp (List.Perm.refl _)
    refine wpAny_bind (hgw _ ?_)
    split
    · refine wpAny_bind ?_
      rw[hashByValue_scannable 8 (x:=.int k tk) rfl]
      refine wpAny_pure ?_
      refine Tc (led:=led) ?_ ho hex hd he1 hp1 (by omega) ?_ ?_ ?_
      · exact fun b=>by cases b <;> first | exact fun r Q' hq=>wpAny_pure hq | exact fun r Q' hq=>wpAny_rule hq
      · split
        · exact hfi
        · exact SetTable.fits_plain_off hfi
      · split
        · exact ht1
        · exact Tr ht1
      · exact fun h' sb i=>wpAny_pure (h h' _ sb i)
    · refine wpAny_bind (wpAny_pure ?_)
      refine Tc (led:=led) ?_ ho hex hd he1 hp1 (by omega) ?_ ?_ ?_
      · exact fun b=>by cases b <;> first | exact fun r Q' hq=>wpAny_pure hq | exact fun r Q' hq=>wpAny_rule hq
      · first | exact hfi | (split <;> first | exact hfi | exact SetTable.fits_plain_off hfi)
      · first | exact ht1 | (split <;> first | exact ht1 | exact Tr ht1)
      · exact fun h' sb i=>wpAny_pure (h h' _ sb i)
end
theorem Sj:Manifest.owners.lookup (String.ofList ['r','o','t','a','r','e','t','i','_','t','e','s'].reverse)=some Manifest.sig_set_iterator:=by kernel_rfl
theorem Bw:Slot "set_iterator" "__next__" "set_iterator.__next__" :=
  .of (owner := "set_iterator") (n := "__next__") (by rw[typeLookup_type,builtinLookup_eq_fast];kernel_rfl) (by decide +kernel) (by decide +kernel) (by decide +kernel) (by first | exact .inl (by decide +kernel) | exact .inr (by decide +kernel)) (by rw[isSubtype_type];kernel_rfl)
theorem Fz:entryFor table "set_iterator.__next__" = some Builtin.«set_iterator.__next__» := entryFor_of_tree (by kernel_rfl)
theorem Gx(a:Value):argsOk "set_iterator.__next__" ⟨[a],[]⟩:=by
  unfold argsOk;rw[signature?_of (id := "set_iterator.__next__") (n:=['_','_','t','x','e','n','_','_']) (o:=['r','o','t','a','r','e','t','i','_','t','e','s']) (by kernel_rfl) Sj];kernel_rfl
theorem Lz:Slot "set_iterator" "__iter__" "set_iterator.__iter__" :=
  .of (owner := "set_iterator") (n := "__iter__") (by rw[typeLookup_type,builtinLookup_eq_fast];kernel_rfl) (by decide +kernel) (by decide +kernel) (by decide +kernel) (by first | exact .inl (by decide +kernel) | exact .inr (by decide +kernel)) (by rw[isSubtype_type];kernel_rfl)
theorem Ra(a:Value):argsOk "set_iterator.__iter__" ⟨[a],[]⟩:=by
  unfold argsOk;rw[signature?_of (id := "set_iterator.__iter__") (n:=['_','_','r','e','t','i','_','_']) (o:=['r','o','t','a','r','e','t','i','_','t','e','s']) (by kernel_rfl) Sj];kernel_rfl
theorem Pu:entryFor table "set_iterator.__iter__" = some Builtin.«dict_keyiterator.__iter__» :=
  entryFor_alias (id' := "dict_keyiterator.__iter__") (by kernel_rfl) (by first | rfl | decide +kernel | (unfold String.splitOn;simp +decide [String.splitOnAux])) (by decide +kernel) (by kernel_rfl)
theorem R5:entryFor table "set.__iter__" = some Builtin.«frozenset.__iter__» :=
  entryFor_alias (id' := "frozenset.__iter__") (by kernel_rfl) (by first | rfl | decide +kernel | (unfold String.splitOn;simp +decide [String.splitOnAux])) (by decide +kernel) (by kernel_rfl)
noncomputable def itO(first:Value)(i:Int)(a:Addr)(n ep:Nat):Obj:={ cls:=.type "set_iterator",dict:=none,data:=.fields #[first,rawInt i,.ref a,rawInt n,rawInt ep],slots:=#[] }
noncomputable def SetAt(h:Heap)(a:Addr)(es:Array (Int×Value))(ep:Nat)(t:SetTable):Prop:=∃ o,h.get? a=some o∧o.ExactSet∧o.data = .set es ep t
section
variable {prog:Program}{w:World}{A:Around}{E:Value→Shared→Prop}{s:Shared}{a I:Addr}{es:Array (Int×Value)}{ep:Nat}{t:SetTable}
theorem Nr{Q:Bool→Shared→Prop}(h:Q (w.params.followText "set-order") s):wpAny (model prog w) A setsByText Q E s:=by
  unfold setsByText
  exact wpAny_bind (wpAny_askSetting (wpAny_pure h))
theorem Hb{Q:Array (Int×Value)→Shared→Prop}(hS:SetAt s.heap a es ep t)(hf:t.fits es.size=true)(h:Q es s):wpAny (model prog w) A (setEntries a) Q E s:=by
  obtain ⟨o,ho,hex,hd⟩:=hS
  unfold setEntries
  exact wpAny_bind (wpAny_setState_of ho hd hf (wpAny_pure h))
theorem Qr{slot i:Nat}{Q:Option (Value×Nat)→Shared→Prop}(hS:SetAt s.heap a es ep t)(hf:t.fits es.size=true)(hb:w.params.followText "set-order" = true)
    (h:Q (((pickOrder (w.params.setOrder a ep) es)[i]?).map fun e=>(e.2,slot)) s):wpAny (model prog w) A (setNext a slot i ep) Q E s:=by
  obtain ⟨o,ho,hex,hd⟩:=hS
  unfold setNext
  refine wpAny_bind (wpAny_setState_of ho hd hf (wpAny_bind (Nr ?_)))
  rw[hb]
  simp only[if_true,bne_self_eq_false,Bool.false_eq_true,if_false]
  refine wpAny_bind ?_
  unfold setWalk
  refine wpAny_bind (wpAny_setState_of ho hd hf (wpAny_bind (Nr ?_)))
  rw[hb]
  simp only[if_true]
  exact wpAny_bind (wpAny_askSetting (wpAny_pure (wpAny_pure h)))
theorem Tz{slot i k:Nat}{Q:Option (Value×Nat)→Shared→Prop}(hS:SetAt s.heap a es ep t)(hf:t.fits es.size=true)(hb:w.params.followText "set-order" = false)(hd':(!t.plain&&decide (es.size > 1))=false)(hl:t.led=true)
    (h:Q (match es[SetTable.below t.place slot]?,t.place[SetTable.below t.place slot]? with
      | some (_,x),some j=>some (x,j+1)
      | _,_=>none) s):wpAny (model prog w) A (setNext a slot i k) Q E s:=by
  obtain ⟨o,ho,hex,hd⟩:=hS
  unfold setNext
  refine wpAny_bind (wpAny_setState_of ho hd hf (wpAny_bind (Nr ?_)))
  rw[hb]
  simp only[Bool.false_eq_true,if_false]
  show wpAny _ _ (if (!t.plain&&decide (es.size > 1))=true then _ else _) _ _ _
  rw[hd',if_neg (by simp)]
  show wpAny _ _ ((if (!t.led && !es.isEmpty)=true then _ else _) >>= _) _ _ _
  rw[hl]
  simp only[Bool.not_true,Bool.false_and,Bool.false_eq_true,if_false]
  exact wpAny_bind (wpAny_pure (wpAny_pure h))
theorem Vp{k:Nat}{x:Int×Value}{Q:Value→Shared→Prop}(hS:SetAt s.heap a es ep t)(hf:t.fits es.size=true)(hx:es[k]? = some x)(h:Q x.2 s):wpAny (model prog w) A (setNextDrawn a k ep) Q E s:=by
  obtain ⟨o,ho,hex,hd⟩:=hS
  unfold setNextDrawn
  refine wpAny_bind (wpAny_setState_of ho hd hf ?_)
  simp only[bne_self_eq_false,Bool.false_eq_true,if_false,hx]
  exact wpAny_pure h
end
section
variable {prog:Program}{w:World}{A:Around}{E:Value→Shared→Prop}{s:Shared}{a I T:Addr}{es:Array (Int×Value)}{ep:Nat}{t:SetTable}
theorem Lv{first:Value}{i:Int}{n:Nat}(hI:s.heap.get? I=some (itO first i a n ep)):s.TypeIs (.ref I) "set_iterator" := ⟨_,hI,rfl⟩
theorem Se{slot i nx:Nat}{x:Value}{Q:Option Value→Shared→Prop}(hI:s.heap.get? I=some (itO (rawInt slot) i a es.size ep))(hS:SetAt s.heap a es ep t)(hf:t.fits es.size=true)
    (hn:∀ (B:Around) (E':Value→Shared→Prop) (Q':Option (Value×Nat)→Shared→Prop),Q' (some (x,nx)) s→wpAny (model prog w) B (setNext a slot i ep) Q' E' s)
    (hQ:∀ h',h'.get? I=some (itO (rawInt nx) ((i:Int)+1) a es.size ep)→(∀ b o,b≠I→s.heap.get? b=some o→h'.get? b=some o)→Q (some x) { s with heap:=h' }):wpAny (model prog w) A (pyNext (.ref I)) Q E s:=by
  have hT:=Lv hI
  unfold pyNext
  refine wpAny_bind (wpAny_attempt (wpAny_callSpecial?_slot (name:=Str.ofString "__next__") hT Bw (wpAny_call_entry Bw hT Fz ?_ (Gx _))))
  unfold Builtin.«set_iterator.__next__»
  refine wpAny_bind (wpAny_of_eq (a:=(Value.ref I,[])) rfl ?_)
  dsimp only
  refine wpAny_bind (wpAny_fieldsOf hI rfl ?_)
  show wpAny _ _ (setEntries a >>= _) _ _ _
  refine wpAny_bind (Hb hS hf ?_)
  simp only[bne_self_eq_false,Bool.false_eq_true,if_false]
  show wpAny _ _ (setNext a ((slot:Int)).toNat ((i:Int)).toNat ((ep:Int)).toNat >>= _) _ _ _
  rw[Int.toNat_natCast,Int.toNat_natCast,Int.toNat_natCast]
  refine wpAny_bind (hn _ _ _ ?_)
  dsimp only
  refine wpAny_bind (wpAny_setField_rec hI (by simp) fun h1 e1 k1=>?_)
  refine wpAny_bind (wpAny_setField_rec (s:={ s with heap:=h1 }) e1 (by simp) fun h2 e2 k2=>?_)
  first
  | refine wpAny_pure ⟨x,rfl,wpAny_pure (hQ h2 ?_ fun b o hb e=>k2.extBut b o hb (k1.extBut b o hb e))⟩
  | refine wpAny_bind (wpAny_pure (wpAny_pure ⟨x,rfl,wpAny_pure (hQ h2 ?_ fun b o hb e=>k2.extBut b o hb (k1.extBut b o hb e))⟩))
  rw[e2]
  rfl
theorem V9{slot i:Nat}{Q:Option Value→Shared→Prop}(hh:A.handled=none)(hI:s.heap.get? I=some (itO (rawInt slot) i a es.size ep))(hS:SetAt s.heap a es ep t)(hf:t.fits es.size=true)
    (hn:∀ (B:Around) (E':Value→Shared→Prop) (Q':Option (Value×Nat)→Shared→Prop),Q' none s→wpAny (model prog w) B (setNext a slot i ep) Q' E' s)
    (hQ:∀ h',(∀ b o,b≠I→s.heap.get? b=some o→h'.get? b=some o)→Q none { s with heap:=h' }):wpAny (model prog w) A (pyNext (.ref I)) Q E s:=by
  have hT:=Lv hI
  unfold pyNext
  refine wpAny_bind (wpAny_attempt (wpAny_callSpecial?_slot (name:=Str.ofString "__next__") hT Bw (wpAny_call_entry Bw hT Fz ?_ (Gx _))))
  unfold Builtin.«set_iterator.__next__»
  refine wpAny_bind (wpAny_of_eq (a:=(Value.ref I,[])) rfl ?_)
  dsimp only
  refine wpAny_bind (wpAny_fieldsOf hI rfl ?_)
  show wpAny _ _ (setEntries a >>= _) _ _ _
  refine wpAny_bind (Hb hS hf ?_)
  simp only[bne_self_eq_false,Bool.false_eq_true,if_false]
  show wpAny _ _ (setNext a ((slot:Int)).toNat ((i:Int)).toNat ((ep:Int)).toNat >>= _) _ _ _
  rw[Int.toNat_natCast,Int.toNat_natCast,Int.toNat_natCast]
  refine wpAny_bind (hn _ _ _ ?_)
  dsimp only
  refine wpAny_bind (wpAny_setField_rec hI (by simp) fun h1 e1 k1=>?_)
  refine wpAny_bind ?_
  simp only[newExc,newTuple]
  refine wpAny_bind (wpAny_newObj_type ?_ (by size_fits))
  refine wpAny_bind (m:=firstArgMember _ _) (wpAny_of_eq (a:=Value.none) (by first | rfl | (simp only[firstArgMember];rfl)) ?_)
  refine wpAny_newObj_type ?_ (by size_fits)
  simp only[raiseNew]
  refine wpAny_bind (wpAny_handled ?_)
  first | rw[show A.in1.handled=none from hh] | rw[hh]
  refine wpAny_bind (wpAny_pure (wpAny_throw ?_))
  refine wpAny_bind (wpAny_isInstance (T := "StopIteration") (b:=true) ⟨_,Heap.get?_push_size _ rfl,rfl⟩ isSubtype_stop ?_)
  exact wpAny_pure (hQ _ fun b o hb e=>Heap.get?_push_of_some _ (Heap.get?_push_of_some _ (k1.extBut b o hb e)))
theorem Acc{ps:List Nat}{i k:Nat}{x:Int×Value}{Q:Option Value→Shared→Prop}(hI:s.heap.get? I=some (itO (.ref T) i a es.size ep))(hS:SetAt s.heap a es ep t)(hf:t.fits es.size=true)
    (hT':s.heap.IsTuple T (ps.map fun (k:Nat)=>rawInt k).toArray) (hk:ps[i]? = some k) (hx:es[k]? = some x)
    (hQ:∀ h',h'.get? I=some (itO (.ref T) ((i:Int)+1) a es.size ep)→(∀ b o,b≠I→s.heap.get? b=some o→h'.get? b=some o)→Q (some x.2) { s with heap:=h' }):wpAny (model prog w) A (pyNext (.ref I)) Q E s:=by
  have hT:=Lv hI
  obtain ⟨ot,hot,_,nt,hdt⟩:=hT'
  unfold pyNext
  refine wpAny_bind (wpAny_attempt (wpAny_callSpecial?_slot (name:=Str.ofString "__next__") hT Bw (wpAny_call_entry Bw hT Fz ?_ (Gx _))))
  unfold Builtin.«set_iterator.__next__»
  refine wpAny_bind (wpAny_of_eq (a:=(Value.ref I,[])) rfl ?_)
  dsimp only
  refine wpAny_bind (wpAny_fieldsOf hI rfl ?_)
  show wpAny _ _ (setEntries a >>= _) _ _ _
  refine wpAny_bind (Hb hS hf ?_)
  simp only[bne_self_eq_false,Bool.false_eq_true,if_false]
  show wpAny _ _ (seqItems? (.ref T) >>= _) _ _ _
  refine wpAny_bind (wpAny_seqItems hot hdt ?_)
  have e1:((ps.map fun (k:Nat)=>rawInt k).toArray)[((i:Int)).toNat]? = some (rawInt k):=by
    rw[Int.toNat_natCast,List.getElem?_toArray,List.getElem?_map,hk];rfl
  dsimp only
  rw[e1]
  show wpAny _ _ (setNextDrawn a ((k:Int)).toNat ((ep:Int)).toNat >>= _) _ _ _
  rw[Int.toNat_natCast,Int.toNat_natCast]
  refine wpAny_bind (Vp hS hf hx ?_)
  refine wpAny_bind (wpAny_setField_rec hI (by simp) fun h1 e1 k1=>?_)
  first
  | refine wpAny_pure ⟨x.2,rfl,wpAny_pure (hQ h1 ?_ fun b o hb e=>k1.extBut b o hb e)⟩
  | refine wpAny_bind (wpAny_pure (wpAny_pure ⟨x.2,rfl,wpAny_pure (hQ h1 ?_ fun b o hb e=>k1.extBut b o hb e)⟩))
  rw[e1]
  rfl
theorem Afa{ps:List Nat}{i:Nat}{Q:Option Value→Shared→Prop}(hh:A.handled=none)(hI:s.heap.get? I=some (itO (.ref T) i a es.size ep))(hS:SetAt s.heap a es ep t)(hf:t.fits es.size=true)
    (hT':s.heap.IsTuple T (ps.map fun (k:Nat)=>rawInt k).toArray) (hk:ps[i]? = none)
    (hQ:∀ h',(∀ b o,b≠I→s.heap.get? b=some o→h'.get? b=some o)→Q none { s with heap:=h' }):wpAny (model prog w) A (pyNext (.ref I)) Q E s:=by
  have hT:=Lv hI
  obtain ⟨ot,hot,_,nt,hdt⟩:=hT'
  unfold pyNext
  refine wpAny_bind (wpAny_attempt (wpAny_callSpecial?_slot (name:=Str.ofString "__next__") hT Bw (wpAny_call_entry Bw hT Fz ?_ (Gx _))))
  unfold Builtin.«set_iterator.__next__»
  refine wpAny_bind (wpAny_of_eq (a:=(Value.ref I,[])) rfl ?_)
  dsimp only
  refine wpAny_bind (wpAny_fieldsOf hI rfl ?_)
  show wpAny _ _ (setEntries a >>= _) _ _ _
  refine wpAny_bind (Hb hS hf ?_)
  simp only[bne_self_eq_false,Bool.false_eq_true,if_false]
  show wpAny _ _ (seqItems? (.ref T) >>= _) _ _ _
  refine wpAny_bind (wpAny_seqItems hot hdt ?_)
  have e1:((ps.map fun (k:Nat)=>rawInt k).toArray)[((i:Int)).toNat]? = none:=by
    rw[Int.toNat_natCast,List.getElem?_toArray,List.getElem?_map,hk];rfl
  dsimp only
  rw[e1]
  dsimp only
  refine wpAny_bind (wpAny_setField_rec hI (by simp) fun h1 e1 k1=>?_)
  refine wpAny_bind (wpAny_setField_rec (s:={ s with heap:=h1 }) e1 (by simp) fun h2 e2 k2=>?_)
  refine wpAny_bind ?_
  simp only[newExc,newTuple]
  refine wpAny_bind (wpAny_newObj_type ?_ (by size_fits))
  refine wpAny_bind (m:=firstArgMember _ _) (wpAny_of_eq (a:=Value.none) (by first | rfl | (simp only[firstArgMember];rfl)) ?_)
  refine wpAny_newObj_type ?_ (by size_fits)
  simp only[raiseNew]
  refine wpAny_bind (wpAny_handled ?_)
  first | rw[show A.in1.handled=none from hh] | rw[hh]
  refine wpAny_bind (wpAny_pure (wpAny_throw ?_))
  refine wpAny_bind (wpAny_isInstance (T := "StopIteration") (b:=true) ⟨_,Heap.get?_push_size _ rfl,rfl⟩ isSubtype_stop ?_)
  exact wpAny_pure (hQ _ fun b o hb e=>Heap.get?_push_of_some _ (Heap.get?_push_of_some _ (k2.extBut b o hb (k1.extBut b o hb e))))
theorem R6{first:Value}{i:Int}{n:Nat}{Q:Value→Shared→Prop}(hI:s.heap.get? I=some (itO first i a n ep))(h:Q (.ref I) s):wpAny (model prog w) A (pyIter (.ref I)) Q E s:=by
  have hT:=Lv hI
  refine wpAny_pyIter_slot hT Lz (wpAny_call_entry Lz hT Pu ?_ (Ra _))
  show wpAny _ _ (ret (.ref I)) _ _ s
  exact wpAny_pure ⟨_,rfl,"set_iterator",_,hT,Bw.lookup,h⟩
end
section
variable {prog:Program}{w:World}{A:Around}{E:Value→Shared→Prop}{s:Shared}{a I T:Addr}{es:Array (Int×Value)}{ep:Nat}{t:SetTable}
theorem SetAt.at{h h':Heap}(x:SetAt h a es ep t)(e:∀ o,h.get? a=some o→h'.get? a=some o):SetAt h' a es ep t:=let ⟨o,ho,r⟩:=x;⟨o,e _ ho,r⟩
noncomputable def PI(xs:List (Int×Value))(i:Nat)(v:Value):Prop:=∃ e,xs[i]? = some e∧v=e.2
theorem Xi(hh:A.handled=none)(hf:t.fits es.size=true)(hb:w.params.followText "set-order" = true)(hne:a≠I) :
    Walks prog w A I [I,a] [I] es.size (PI (pickOrder (w.params.setOrder a ep) es).toList) (fun i h=>h.get? I=some (itO (rawInt (0:Nat)) i a es.size ep)∧SetAt h a es ep t) where
  sub:=fun b hb=>by simp at hb;simp[hb]
  frame:=fun _ _ _ st hk=>⟨hk I (by simp) _ st.1,st.2.at fun o e=>hk a (by simp) o e⟩
  item:=fun i s Q E hi st hQ=>by
    have hl:(pickOrder (w.params.setOrder a ep) es).toList.length=es.size:=by rw[(Mp _ es).length_eq,Array.length_toList]
    have hx:(pickOrder (w.params.setOrder a ep) es).toList[i]? = some ((pickOrder (w.params.setOrder a ep) es).toList[i]'(by omega)):=List.getElem?_eq_getElem _
    refine Se st.1 st.2 hf (x:=((pickOrder (w.params.setOrder a ep) es).toList[i]'(by omega)).2) (nx:=0) (fun B E' Q' q=>Qr st.2 hf hb ?_) fun h' e1 k1=>hQ _ h' s.toks ⟨_,hx,rfl⟩ ⟨e1,st.2.at fun o e=>k1 a o hne e⟩ fun b o hb e=>k1 b o (fun h=>hb (by simp[h])) e
    rw[← Array.getElem?_toList,hx]
    exact q
  done:=fun s Q E st hQ=>by
    refine V9 hh st.1 st.2 hf (fun B E' Q' q=>Qr st.2 hf hb ?_) fun h' k1=>hQ h' s.toks fun b o hb e=>k1 b o (fun h=>hb (by simp[h])) e
    have hl:(pickOrder (w.params.setOrder a ep) es).toList.length=es.size:=by rw[(Mp _ es).length_eq,Array.length_toList]
    rw[← Array.getElem?_toList,List.getElem?_eq_none (by omega)]
    exact q
  self:=fun _ _ _ _ st hQ=>R6 st.1 hQ
theorem Acl(hh:A.handled=none)(hf:t.fits es.size=true)(hb:w.params.followText "set-order" = false)(hd:(!t.plain&&decide (es.size > 1))=false)(tb:Tb t true)(hne:a≠I) :
    Walks prog w A I [I,a] [I] es.size (PI es.toList) (fun i h=>∃ slot:Nat,h.get? I=some (itO (rawInt slot) i a es.size ep)∧SetTable.below t.place slot=i∧SetAt h a es ep t) where
  sub:=fun b hb=>by simp at hb;simp[hb]
  frame:=fun _ _ _ ⟨sl,s1,s2,s3⟩ hk=>⟨sl,hk I (by simp) _ s1,s2,s3.at fun o e=>hk a (by simp) o e⟩
  item:=fun i s Q E hi st hQ=>by
    obtain ⟨sl,s1,s2,s3⟩:=st
    have hps:t.place.size=es.size:=by
      simp only[SetTable.fits,Bool.and_eq_true,beq_iff_eq] at hf
      exact hf.1
    have hx:es[i]? = some es[i]:=Array.getElem?_eq_getElem hi
    have hp:t.place[i]? = some (t.place[i]'(by omega)):=Array.getElem?_eq_getElem _
    refine Se s1 s3 hf (x:=es[i].2) (nx:=t.place[i]'(by omega)+1) (fun B E' Q' q=>Tz s3 hf hb hd tb.le ?_) fun h' e1 k1=>hQ _ h' s.toks ⟨es[i],by rw[Array.getElem?_toList];exact hx,rfl⟩ ⟨_,e1,Uj tb.rs _,s3.at fun o e=>k1 a o hne e⟩ fun b o hb e=>k1 b o (fun h=>hb (by simp[h])) e
    rw[s2,hx,hp]
    exact q
  done:=fun s Q E st hQ=>by
    obtain ⟨sl,s1,s2,s3⟩:=st
    refine V9 hh s1 s3 hf (fun B E' Q' q=>Tz s3 hf hb hd tb.le ?_) fun h' k1=>hQ h' s.toks fun b o hb e=>k1 b o (fun h=>hb (by simp[h])) e
    rw[s2,Array.getElem?_eq_none (Nat.le_refl _)]
    exact q
  self:=fun _ _ _ _ ⟨_,s1,_⟩ hQ=>R6 s1 hQ
theorem Abn{ps:List Nat}(hh:A.handled=none)(hf:t.fits es.size=true)(hp:ps.Perm (List.range es.size))(hne:a≠I)(hnT:T≠I) :
    Walks prog w A I [I,a,T] [I] es.size (PI (ps.map fun k=>es.toList.getD k (0,.none))) (fun i h=>h.get? I=some (itO (.ref T) i a es.size ep)∧SetAt h a es ep t∧h.IsTuple T (ps.map fun (k:Nat)=>rawInt k).toArray) where
  sub:=fun b hb=>by simp at hb;simp[hb]
  frame:=fun _ _ _ st hk=>⟨hk I (by simp) _ st.1,st.2.1.at fun o e=>hk a (by simp) o e,st.2.2.at fun o e=>hk T (by simp) o e⟩
  item:=fun i s Q E hi st hQ=>by
    have hl:ps.length=es.size:=by rw[hp.length_eq,List.length_range]
    have hk:ps[i]? = some (ps[i]'(by omega)):=List.getElem?_eq_getElem _
    have hk2:ps[i]'(by omega) < es.size:=List.mem_range.mp (hp.mem_iff.mp (List.getElem_mem _))
    refine Acc st.1 st.2.1 hf st.2.2 hk (Array.getElem?_eq_getElem hk2) fun h' e1 k1=>hQ _ h' s.toks ⟨es[ps[i]'(by omega)],?_,rfl⟩ ⟨e1,st.2.1.at fun o e=>k1 a o hne e,st.2.2.at fun o e=>k1 T o hnT e⟩ fun b o hb e=>k1 b o (fun h=>hb (by simp[h])) e
    rw[List.getElem?_map,hk,Option.map_some,List.getD_eq_getElem?_getD,Array.getElem?_toList,Array.getElem?_eq_getElem hk2]
    rfl
  done:=fun s Q E st hQ=>by
    have hl:ps.length=es.size:=by rw[hp.length_eq,List.length_range]
    exact Afa hh st.1 st.2.1 hf st.2.2 (List.getElem?_eq_none (by omega)) fun h' k1=>hQ h' s.toks fun b o hb e=>k1 b o (fun h=>hb (by simp[h])) e
  self:=fun _ _ _ _ st hQ=>R6 st.1 hQ
theorem Yl{src:Source}{n:Nat}{Q:Nat→Shared→Prop}(hn:n≠0)(h:∀ i d,i < n→Q i { s with drawn:=d }):wpAny (model prog w) A (choose src n) Q E s:=
  fun _ _ _=>⟨hn,h _ _ (Nat.mod_lt _ (Nat.pos_of_ne_zero hn))⟩
theorem draw_ok{α:Type}:∀ (n:Nat) (xs:List α) (s:Shared) {Q:List α→Shared→Prop},n=xs.length→(∀ ys d,ys.Perm xs→Q ys { s with drawn:=d })→wpAny (model prog w) A (drawOrder n xs) Q E s
  | 0,xs,s,Q,e,h=>by
    have:xs=[]:=List.length_eq_zero_iff.mp e.symm
    subst this
    unfold drawOrder
    have e:s = { s with drawn:=s.drawn }:=by cases s;rfl
    rw[e]
    exact wpAny_pure (h [] _ (List.Perm.refl _))
  | n+1,[],s,Q,e,h=>by cases e
  | n+1,x::xs,s,Q,e,h=>by
    unfold drawOrder
    refine wpAny_bind (Yl (by simp) fun i d hi=>?_)
    rw[List.getElem?_eq_getElem hi]
    dsimp only
    refine wpAny_bind (draw_ok n _ _ (by rw[List.length_eraseIdx,if_pos hi];omega) fun ys d' hp=>wpAny_pure (h _ d' ?_))
    refine (hp.cons _).trans ?_
    generalize x::xs=l at hi
    rw[List.eraseIdx_eq_take_drop_succ]
    have e2:l=l.take i++l[i]::l.drop (i+1):=by rw[List.getElem_cons_drop,List.take_append_drop]
    exact (List.perm_middle.symm).trans (List.Perm.of_eq e2.symm)
theorem Aes{led:Bool}{Q:Value→Shared→Prop}(hS:SetAt s.heap a es ep t)(hf:t.fits es.size=true)(tb:Tb t led)(hl:led = !w.params.followText "set-order")(hz:es.size≤sizeLine)
    (h:∀ (J:Addr) (h1:Heap) (d1:Drawn) (fp:List Addr) (St:Nat→Heap→Prop) (xs:List (Int×Value)),xs.Perm es.toList→s.heap.objs.size≤J→(∀ b o,s.heap.get? b=some o→h1.get? b=some o)→(∀ b∈fp,b=a∨s.heap.objs.size≤b) →
      (∀ B:Around,B.handled=none→Walks prog w B J fp [J] es.size (PI xs) St)→St 0 h1→Q (.ref J) { s with heap:=h1,drawn:=d1 }):wpAny (model prog w) A (pyIter (.ref a)) Q E s:=by
  obtain ⟨o,ho,hex,hd⟩:=id hS
  have hT:s.TypeIs (.ref a) "set" := ⟨o,ho,hex.1⟩
  have hlt:=Heap.lt_size ho
  refine wpAny_pyIter_slot hT PySem.F.slot_set_iter (wpAny_call_entry PySem.F.slot_set_iter hT R5 ?_ (PySem.F.args_set_iter_1 _))
  unfold Builtin.«frozenset.__iter__»
  refine wpAny_bind (wpAny_of_eq (a:=a) rfl ?_)
  refine wpAny_bind ?_
  unfold Builtin.Frozenset.sizeOf
  refine wpAny_bind (Hb hS hf (wpAny_pure ?_))
  refine wpAny_bind ?_
  unfold setDrawn
  refine wpAny_bind (wpAny_setState_of ho hd hf (wpAny_bind (Nr (wpAny_pure ?_))))
  dsimp only
  show wpAny _ _ (if (!w.params.followText "set-order" && (!t.plain&&decide (es.size > 1)))=true then _ else _) _ _ _
  cases hb:w.params.followText "set-order" with
  | true=>
    simp only[Bool.not_true,Bool.false_and,Bool.false_eq_true,if_false]
    refine wpAny_bind (wpAny_pure (wpAny_bind (wpAny_setEpoch_of ho hd hf ?_)))
    have hne:a≠s.heap.objs.size:=Nat.ne_of_lt hlt
    have e0:s = { s with drawn:=s.drawn }:=by cases s;rfl
    refine wpAny_bind (wpAny_newObj_type (wpAny_pure ⟨_,rfl,"set_iterator",_,⟨_,Heap.get?_push_size _ rfl,rfl⟩,Bw.lookup,?_⟩))
    exact h s.heap.objs.size _ s.drawn [s.heap.objs.size,a] _ _ (Mp _ es) (Nat.le_refl _) (fun b o e=>Heap.get?_push_of_some _ e) (fun b hb=>by simp at hb;rcases hb with e | e;exact .inr (Nat.le_of_eq e.symm);exact .inl e)
      (fun B hB=>Xi (t:=t) hB hf hb hne) ⟨Heap.get?_push_size _ rfl,hS.at fun o e=>Heap.get?_push_of_some _ e⟩
  | false=>
    rw[hb] at hl
    cases hdr:(!t.plain&&decide (es.size > 1)) with
    | false=>
      simp only[Bool.not_false,Bool.and_false,Bool.false_eq_true,if_false]
      refine wpAny_bind (wpAny_pure (wpAny_bind (wpAny_setEpoch_of ho hd hf ?_)))
      have hne:a≠s.heap.objs.size:=Nat.ne_of_lt hlt
      refine wpAny_bind (wpAny_newObj_type (wpAny_pure ⟨_,rfl,"set_iterator",_,⟨_,Heap.get?_push_size _ rfl,rfl⟩,Bw.lookup,?_⟩))
      subst hl
      exact h s.heap.objs.size _ s.drawn [s.heap.objs.size,a] _ _ (List.Perm.refl _) (Nat.le_refl _) (fun b o e=>Heap.get?_push_of_some _ e) (fun b hb=>by simp at hb;rcases hb with e | e;exact .inr (Nat.le_of_eq e.symm);exact .inl e)
        (fun B hB=>Acl (t:=t) hB hf hb hdr tb hne) ⟨0,Heap.get?_push_size _ rfl,Vg tb.rs,hS.at fun o e=>Heap.get?_push_of_some _ e⟩
    | true=>
      simp only[Bool.not_false,Bool.and_self,if_true]
      refine wpAny_bind (draw_ok _ _ _ (List.length_range).symm fun ps d hp=>?_)
      have hlp:ps.length=es.size:=by rw[hp.length_eq,List.length_range]
      refine wpAny_bind (wpAny_newTuple ?_ (by rw[List.length_map];omega))
      have g1:∀ b o,s.heap.get? b=some o→(s.heap.push { cls:=.type "tuple",data:=.seq (ps.map fun (k:Nat)=>rawInt k).toArray }).get? b=some o:=fun b o e=>Heap.get?_push_of_some _ e
      have gT:(s.heap.push { cls:=.type "tuple",data:=.seq (ps.map fun (k:Nat)=>rawInt k).toArray }).IsTuple s.heap.objs.size (ps.map fun (k:Nat)=>rawInt k).toArray:=⟨_,Heap.get?_push_size _ rfl,rfl,0,rfl⟩
      have gz:(s.heap.push { cls:=.type "tuple",data:=.seq (ps.map fun (k:Nat)=>rawInt k).toArray }).objs.size=s.heap.objs.size+1:=Heap.size_push _ _
      show wpAny _ _ _ _ _ ({ s with heap:=s.heap.push { cls:=.type "tuple",data:=.seq (ps.map fun (k:Nat)=>rawInt k).toArray },drawn:=d }:Shared)
      generalize s.heap.push { cls:=.type "tuple",data:=.seq (ps.map fun (k:Nat)=>rawInt k).toArray } = hp1 at g1 gT gz
      refine wpAny_bind (wpAny_setEpoch_of (g1 _ _ ho) hd hf ?_)
      refine wpAny_bind (wpAny_newObj_type (wpAny_pure ⟨_,rfl,"set_iterator",_,⟨_,Heap.get?_push_size _ rfl,rfl⟩,Bw.lookup,?_⟩))
      have hpm:(ps.map fun k=>es.toList.getD k (0,.none)).Perm es.toList:=by
        refine (hp.map _).trans (List.Perm.of_eq ?_)
        apply List.ext_getElem
        · simp
        · intro i h1 h2
          have:i < es.size:=by simpa using h1
          simp[this]
      exact h hp1.objs.size _ d [hp1.objs.size,a,s.heap.objs.size] _ _ hpm (by omega) (fun b o e=>Heap.get?_push_of_some _ (g1 b o e)) (fun b hb=>by simp at hb;rcases hb with e | e | e;exact .inr (e ▸ (by omega:s.heap.objs.size≤hp1.objs.size));exact .inl e;exact .inr (Nat.le_of_eq e.symm))
        (fun B hB=>Abn (t:=t) (T:=s.heap.objs.size) hB hf hp (Nat.ne_of_lt (Nat.lt_of_lt_of_le hlt (by omega))) (Nat.ne_of_lt (by omega:s.heap.objs.size < hp1.objs.size))) ⟨Heap.get?_push_size _ rfl,hS.at fun o e=>Heap.get?_push_of_some _ (g1 _ _ e),gT.push _⟩
end
section
variable {prog:Program}{w:World}{A:Around}{E:Value→Shared→Prop}{s:Shared}{a:Addr}{led:Bool}{σ:List Int}
theorem Aah{Q:Bool→Shared→Prop}(hT:s.TypeIs (.ref a) "set")(h:Q false s):wpAny (model prog w) A (Builtin.List.listLengthHint (.ref a)) Q E s:=by
  unfold Builtin.List.listLengthHint
  refine wpAny_bind (wpAny_specialOf hT PySem.F.slot_set_len.lookup ?_)
  generalize hid:("set.__len__" : String)=id0
  wp_delta
  rw[show splitId id0=some ("set","__len__") from by subst hid;decide +kernel]
  subst hid
  refine wpAny_bind (wpAny_isInstance (T := "set") (b:=true) hT (by rw[isSubtype_type];kernel_rfl) ?_)
  refine wpAny_ite_split (fun hab=>absurd hab (by decide)) (fun _=>?_)
  refine wpAny_ite_split (fun _=>?_) (fun hab=>absurd (by decide +kernel) hab)
  exact wpAny_bind (wpAny_typeOf hT (wpAny_pure h))
theorem Wl:∀ {xs:List (Int×Value)},(∀ e∈xs,∃ k tk,e=(hashInt k,Value.int k tk))→IntsAre (xs.map (·.2)) (xs.map fun e=>kOf e.2)
  | [],_=>.nil
  | x::xs,h=>by
    obtain ⟨k,tk,rfl⟩:=h x (List.mem_cons_self ..)
    exact .cons k tk (Wl fun e he=>h e (List.mem_cons_of_mem _ he))
theorem Ac0{xs:List (Int×Value)}{acc:Array Value}(h:ItemsOf (PI xs) acc xs.length):acc.toList=xs.map (·.2):=by
  apply List.ext_getElem?
  intro i
  by_cases hi:i < xs.length
  · have h1:acc[i]? = some (acc[i]'(by have:=h.1;omega)):=Array.getElem?_eq_getElem _
    obtain ⟨e,e1,e2⟩:=h.2 i _ h1
    rw[Array.getElem?_toList,h1,List.getElem?_map,e1,e2]
    rfl
  · rw[List.getElem?_eq_none (by rw[Array.length_toList,h.1];omega),List.getElem?_eq_none (by simp;omega)]
theorem Tm{Q:List Value→Shared→Prop}(hh:A.handled=none)(hS:IsSet s.heap a led σ)(hl:led = !w.params.followText "set-order")
    (hQ:∀ (h':Heap) (tk:Nat) (d:Drawn) (vs:List Value) (ns:List Int),(∀ b o,s.heap.get? b=some o→h'.get? b=some o)→IntsAre vs ns→ns.Perm σ→Q vs { s with heap:=h',toks:=tk,drawn:=d }):wpAny (model prog w) A (collect (.ref a)) Q E s:=by
  obtain ⟨o,es,ep,t,ho,hex,hd,hel,hp,hbs,hf,htb⟩:=hS
  have hz:es.size≤sizeLine:=fits_of_scanBound hbs
  unfold collect
  refine wpAny_bind (wpAny_runValue (codeAny_builtin PySem.F.entry_proto_collect ?_))
  rw[Around.under_plainId PySem.F.plain_proto_collect _]
  show wpAny _ A.in1 (newList [] >>= fun l=>again (.builtin "list.__iadd__" ⟨[l,Value.ref a],[]⟩)) _ _ s
  refine wpAny_bind (wpAny_newObj_type (wpAny_pure ⟨plainId_quiet PySem.F.plain_list_iadd _,codeAny_builtin PySem.F.entry_list_iadd ?_⟩))
  rw[Around.under_plainId PySem.F.plain_list_iadd _]
  show wpAny _ A.in1 (Builtin.List.listExtendWith (.ref s.heap.objs.size) (.ref a) (.ref s.heap.objs.size)) _ _ _
  have hla:=Heap.lt_size ho
  have gS:(s.heap.push { cls:=.type "list",data:=.seq ([]:List Value).toArray }).get? s.heap.objs.size=some { cls:=.type "list",data:=.seq ([]:List Value).toArray }:=Heap.get?_push_size _ rfl
  have g0:∀ b o,s.heap.get? b=some o→(s.heap.push { cls:=.type "list",data:=.seq ([]:List Value).toArray }).get? b=some o:=fun b o e=>Heap.get?_push_of_some _ e
  have gz:(s.heap.push { cls:=.type "list",data:=.seq ([]:List Value).toArray }).objs.size=s.heap.objs.size+1:=Heap.size_push _ _
  show wpAny _ _ _ _ _ ({ s with heap:=s.heap.push { cls:=.type "list",data:=.seq ([]:List Value).toArray } }:Shared)
  generalize s.heap.push { cls:=.type "list",data:=.seq ([]:List Value).toArray } = h0 at gS g0 gz
  have hT:∀ (r:Shared),(∀ b o,h0.get? b=some o→r.heap.get? b=some o)→r.TypeIs (.ref a) "set" := fun r k=>⟨o,k _ _ (g0 _ _ ho),hex.1⟩
  unfold Builtin.List.listExtendWith
  refine wpAny_bind (wpAny_typeOf (T := "set") (hT _ fun _ _ e=>e) ?_)
  have h1:Builtin.List.listSameRef (.ref s.heap.objs.size) (.ref a)=false:=by
    simp only[Builtin.List.listSameRef,beq_eq_false_iff_ne]
    exact Nat.ne_of_gt hla
  have h2:(Value.type "set" == Value.type "list")=false:=by decide
  have h3:(Value.type "set" == Value.type "tuple")=false:=by decide
  simp only[h1,h2,h3,Bool.or_false,Bool.false_eq_true,if_false]
  refine wpAny_bind (Aes (s:={ s with heap:=h0 }) ⟨o,g0 _ _ ho,hex,hd⟩ hf htb hl hz fun J hJ d1 fp St xs hpm hJl hk hfp W st=>?_)
  have hJl:h0.objs.size≤J:=hJl
  have hxl:xs.length=es.size:=by rw[hpm.length_eq,Array.length_toList]
  have hSJ:s.heap.objs.size≠J:=Nat.ne_of_lt (Nat.lt_of_lt_of_le (by omega) hJl)
  have hSf:s.heap.objs.size∉fp:=fun hm=>by
    rcases hfp _ hm with e | e
    · exact absurd e (Nat.ne_of_gt hla)
    · have e:h0.objs.size≤s.heap.objs.size:=e
      omega
  have key:∀ (h:Heap) (c:Nat) (tk:Nat),St 0 h→(∀ b o,b≠s.heap.objs.size→hJ.get? b=some o→h.get? b=some o)→h.get? s.heap.objs.size=some { cls:=.type "list",data:=.seq #[] c } →
      codeAny (model prog w) A (.builtin "list.extend.loop" ⟨[.ref s.heap.objs.size,.ref J,.ref s.heap.objs.size],[]⟩) (wants (fun v s'=>wpAny (model prog w) A (match v with
        | .ref a=>do match (← load a).data with
          | .seq xs _=>pure xs.toList
          | _=>unsupported "internal:collect"
        | _=>unsupported "internal:collect") Q E s') E) { s with heap:=h,toks:=tk,drawn:=d1 }:=by
    intro h c tk hst hkp hSl
    refine codeAny_extend_loopS (W A.in1 hh).toS hz _ hSf _ es.size 0 _ #[] c rfl (Nat.zero_le _) hst hSl (ItemsOf.nil _) fun s' acc' c' hm hS' hacc=>?_
    rw[Moved.eq_with hm]
    show wpAny _ A (load s.heap.objs.size >>= _) _ _ _
    refine wpAny_bind (wpAny_load hS' (wpAny_pure ?_))
    rw[← hxl] at hacc
    rw[Ac0 hacc]
    have hel':∀ e∈xs,∃ k tk,e=(hashInt k,Value.int k tk):=fun e he=>hel e (hpm.mem_iff.mp he)
    refine hQ s'.heap s'.toks d1 _ _ (fun b o e=>hm.heap b o (fun hmem=>?_) (hkp b o (Nat.ne_of_lt (Heap.lt_size e)) (hk _ _ (g0 _ _ e)))) (Wl hel') ((hpm.map _).trans hp)
    rcases List.mem_cons.mp hmem with e' | hmem
    · exact absurd (Heap.lt_size e) (by rw[e'];exact Nat.lt_irrefl _)
    · rw[List.mem_singleton] at hmem
      exact absurd (Nat.lt_of_lt_of_le (Heap.lt_size e) (Nat.le_trans (by omega:s.heap.objs.size≤h0.objs.size) hJl)) (by rw[hmem];exact Nat.lt_irrefl _)
  have gS1:=hk _ _ gS
  refine wpAny_bind (wpAny_holding (Aah (hT _ hk) ?_))
  refine wpAny_ite_split (fun _=>?_) (fun _=>wpAny_pure ⟨plainId_quiet PySem.F.plain_extend_loop _,key _ 0 _ st (fun b o _ e=>e) gS1⟩)
  refine wpAny_bind (wpAny_rule (wpAny_bind ?_))
  show wpAny _ _ (updateSeq s.heap.objs.size (·.push .none) >>= fun _=>updateSeq s.heap.objs.size (·.pop)) _ _ _
  refine wpAny_bind (wpAny_updateSeq gS1 rfl ?_)
  have gS2:=Heap.get?_update_self (Obj.mapSeq (·.push Value.none)) gS1 rfl
  refine wpAny_updateSeq (hz:=by seq_fits) gS2 rfl ?_
  have gS3:=Heap.get?_update_self (Obj.mapSeq (·.pop)) gS2 rfl
  refine wpAny_pure ⟨plainId_quiet PySem.F.plain_extend_loop _,key _ _ _ ?_ (fun b o hb e=>?_) gS3⟩
  · refine (W A hh).frame 0 _ _ st fun b hb o e=>?_
    have hbS:b≠s.heap.objs.size:=fun h=>hSf (h ▸ hb)
    exact (Heap.get?_update_other _ _ (Ne.symm hbS)).trans ((Heap.get?_update_other _ _ (Ne.symm hbS)).trans e)
  · exact (Heap.get?_update_other _ _ (Ne.symm hb)).trans ((Heap.get?_update_other _ _ (Ne.symm hb)).trans e)
end
theorem IsSet.at{h h':Heap}{a:Addr}{led:Bool}{σ:List Int}(x:IsSet h a led σ)(e:∀ o,h.get? a=some o→h'.get? a=some o):IsSet h' a led σ:=let ⟨o,es,ep,t,ho,r⟩:=x;⟨o,es,ep,t,e _ ho,r⟩
noncomputable def Nl(val:Nat→Int)(i:Nat):List Int:=((List.range i).map val).foldl Fd []
theorem Qf(val:Nat→Int)(i:Nat):Nl val (i+1)=Fd (Nl val i) (val i):=by
  unfold Nl;rw[List.range_succ,List.map_append,List.foldl_append];rfl
theorem Nu(val:Nat→Int):∀ i,(Nl val i).length≤i
  | 0=>Nat.le_refl _
  | i+1=>by
    rw[Qf]
    exact Nat.le_trans (Yc _ _) (Nat.succ_le_succ (Nu val i))
section
variable {prog:Program}{w:World}{A:Around}{R:Result→Shared→Prop}{I:Addr}{fp wr:List Addr}{G:Array GenState→Array GenState→Prop}{n:Nat}{P:Nat→Value→Prop}{St:Nat→Shared→Prop}
theorem Yj{led:Bool}(W:WalksS prog w A.in1 I fp wr G n P St)(S:Addr)(hSf:S∉fp)(val:Nat→Int)(hval:∀ i v,P i v→∃ tk,v = .int (val i) tk)(hb:n+1 < scanBound) :
    ∀ (k i:Nat) (s:Shared),n - i=k→i≤n→St i s→IsSet s.heap S led (Nl val i) →
      (∀ s',Moved (S::wr) G s s'→IsSet s'.heap S led (Nl val n)→R (.ok (.ret .none)) s') →
      codeAny (model prog w) A (.builtin "set.update.loop" ⟨[.ref S,.ref I],[]⟩) R s:=by
  have hSw:S∉wr:=fun h=>hSf (W.sub _ h)
  have hsub:∀ b∈wr,b∈S::wr:=fun b hb=>List.mem_cons_of_mem _ hb
  intro k
  induction k with
  | zero=>
    intro i s hk hi hst hS hR
    obtain rfl:i=n:=by omega
    refine codeAny_builtin F.entry_set_update_loop ?_
    rw[Around.under_plainId F.plain_set_update_loop _]
    show wpAny _ A.in1 (pyNext (.ref I) >>= _) _ _ s
    refine wpAny_bind (W.done s _ _ hst fun s' hm=>?_)
    show wpAny _ A.in1 (ret Value.none) _ _ s'
    exact wpAny_pure (hR s' (hm.mono hsub) (hS.at fun o e=>hm.heap S _ hSw e))
  | succ k ih=>
    intro i s hk hi hst hS hR
    have hlt:i < n:=by omega
    refine codeAny_builtin F.entry_set_update_loop ?_
    rw[Around.under_plainId F.plain_set_update_loop _]
    show wpAny _ A.in1 (pyNext (.ref I) >>= _) _ _ s
    refine wpAny_bind (W.item i s _ _ hlt hst fun v s' hP hst' hm=>?_)
    obtain ⟨tk,rfl⟩:=hval i v hP
    have hS':IsSet s'.heap S led (Nl val i):=hS.at fun o e=>hm.heap S _ hSw e
    show wpAny _ A.in1 (holding [Value.int (val i) tk] (setAdd S (.int (val i) tk)) >>= _) _ _ s'
    refine wpAny_bind (wpAny_holding ?_)
    unfold setAdd
    refine wpAny_holding (wpAny_bind ((intKind prog w).pyHash (k:=val i) (intKind_is _ _ _ _) ?_))
    have hroom:(Nl val i).length+1 < scanBound:=by have:=Nu val i;omega
    refine Ai9 (s:={ s' with toks:=s'.toks+1 }) hS' hroom fun h' b hsb hS2=>?_
    rw[← Qf] at hS2
    refine wpAny_pure ⟨plainId_quiet F.plain_set_update_loop _,ih (i+1) _ (by omega) hlt (W.frame _ s' _ _ hst' (Nat.le_succ _) fun b hb o e=>?_) hS2 fun s'' hm'' hS''=>?_⟩
    · rw[hsb.2 b (fun h:b=S=>hSf (by rw[← h];exact hb))];exact e
    · refine hR s'' (Moved.trans W.gtrans ((hm.mono hsub).then_heap (Nat.le_succ _) fun b o hb e=>?_) hm'') hS''
      rw[hsb.2 b (fun h:b=S=>hb (by rw[h];exact List.mem_cons_self))];exact e
end
section
variable {prog:Program}{w:World}{A:Around}{E:Value→Shared→Prop}{s:Shared}
theorem Aeb(a:Value){Q:Value→Shared→Prop}(h:Q (.ref s.heap.objs.size) { s with heap:=s.heap.push { cls:=.type "set",dict:=none,data:=.set #[] 0 (.fresh 0 0 (!w.params.followText "set-order")) } }) :
    codeAny (model prog w) A (.call (.builtin "set.__new__") ⟨[.type "set",a],[]⟩) (wants Q E) s:=by
  refine codeAny_of_tree ?_
  show wpAny _ A.in1 (do checkBuiltinCall "set.__new__" ⟨[.type "set",a],[]⟩;again (Code.builtin "set.__new__" ⟨[.type "set",a],[]⟩)) _ _ s
  refine wpAny_bind (wpAny_of_eq (PySem.F.newCall_set_1 a) (wpAny_pure ⟨plainId_quiet PySem.F.plain_set_new _,codeAny_builtin PySem.F.entry_set_new ?_⟩))
  rw[Around.under_plainId PySem.F.plain_set_new _]
  unfold Builtin.«set.__new__» Builtin.Frozenset.newClass
  have hsub:=sub_set_self
  obtain ⟨hp,g,d,tk,os⟩:=s
  dsimp only
  wp_walk
  refine wpAny_askSetting (wpAny_pure ?_)
  dsimp only
  simp only[newObj]
  exact wpAny_bind (wpAny_alloc (wpAny_pure (wpAny_pure h)))
theorem Rt{t:Addr}{items:Array Value}{val:Nat→Int}{Q:Value→Shared→Prop}(hh:A.handled=none)(ht:s.heap.IsTuple t items)(hi:∀ (i:Nat) (v:Value),items[i]? = some v→∃ tk,v = .int (val i) tk)(hb:items.size+1 < scanBound)
    (h:∀ (h':Heap) (tk:Nat),IsSet h' s.heap.objs.size (!w.params.followText "set-order") (Nl val items.size)→(∀ b o,s.heap.get? b=some o→h'.get? b=some o)→Q (.ref s.heap.objs.size) { s with heap:=h',toks:=tk }) :
    wpAny (model prog w) A (call (.type "set") [.ref t]) Q E s:=by
  obtain ⟨c,tl,hmro⟩:=PySem.F.called_set.mro
  have hmade:=PySem.F.called_set.made
  have hsub:=PySem.F.called_set.sub
  refine wpAny_call (codeAny_of_tree ?_)
  show wpAny _ _ (callAny (.type "set") _) _ _ _
  refine wpAny_pure ⟨Code.quiet_builtin _ (by decide +kernel),codeAny_builtin PySem.F.entry_type_call ?_⟩
  rw[Around.under_plain (weight_type_call_type "set" [.ref t] []) rfl]
  have h1:=PySem.F.called_set.notType
  have h2:=PySem.F.called_set.canCreate
  have hct:=PySem.F.typeCall_set_1 (.ref t)
  repeat (any_goals (first | assumption | wp_step))
  generalize hled:(!w.params.followText "set-order")=led at h
  refine codeAny_mono (Aeb (.ref t) (E:=E) (Q:=fun obj s₁=>obj = .ref s.heap.objs.size∧s₁ = { s with heap:=s.heap.push { cls:=.type "set",dict:=none,data:=.set #[] 0 (.fresh 0 0 led) } }) (by rw[hled];exact ⟨rfl,rfl⟩)) fun r s₁ hr=>?_
  cases r with
  | error e=>exact hr
  | ok fl=>
    cases fl with
    | ret obj=>
      obtain ⟨rfl,rfl⟩:=hr
      have hS:(s.heap.push { cls:=.type "set",dict:=none,data:=.set #[] 0 (.fresh 0 0 led) }).get? s.heap.objs.size=some { cls:=.type "set",dict:=none,data:=.set #[] 0 (.fresh 0 0 led) }:=Heap.get?_push_size _ rfl
      have hT:Shared.TypeIs { s with heap:=s.heap.push { cls:=.type "set",dict:=none,data:=.set #[] 0 (.fresh 0 0 led) } } (.ref s.heap.objs.size) "set" := ⟨_,hS,rfl⟩
      have hli:=PySem.F.called_set.init.lookup
      have hbi:=PySem.F.called_set.init.bind (.ref s.heap.objs.size)
      repeat (any_goals (first | assumption | wp_step))
      refine codeAny_mono (codeAny_call_builtin (R:=wants (fun r s₂=>r = .none∧∃ h' tk,s₂ = { s with heap:=h',toks:=tk }∧IsSet h' s.heap.objs.size led (Nl val items.size)∧(∀ b o,s.heap.get? b=some o→h'.get? b=some o)) E) PySem.F.called_set.init.plain PySem.F.entry_set_init (check_set_init_1 hT ?_)) fun r₂ s₂ hr₂=>?_
      · obtain ⟨ol,hol,hcl,nl,hdl⟩:=ht
        obtain ⟨ocls,odict,odata,oslots⟩:=ol
        simp only at hcl hdl
        subst hcl;subst hdl
        have hol':(s.heap.push { cls:=.type "set",dict:=none,data:=.set #[] 0 (.fresh 0 0 led) }).get? t=some { cls:=.type "tuple",dict:=odict,data:=.seq items nl,slots:=oslots }:=Heap.get?_push_of_some _ hol
        have hsls:=PySem.F.sub_tuple_set
        have hslf:=PySem.F.sub_tuple_frozenset
        have hne:(Value.type "tuple" == Value.type "dict")=false:=by decide
        have hl1:(s.heap.push { cls:=.type "set",dict:=none,data:=.set #[] 0 (.fresh 0 0 led) }).IsTuple t items:=⟨_,hol',rfl,nl,rfl⟩
        unfold Builtin.«set.__init__» noKeywords Builtin.Frozenset.updateFrom
        generalize hPI:pyIter=PI
        wp_walk
        subst hPI
        refine wpAny_pyIter_tuple hl1 ?_
        refine wpAny_bind (wpAny_runValue ?_)
        have hlS:t < s.heap.objs.size:=Heap.lt_size hol
        have hh3:A.in1.in1.in1.handled=none:=by simp[hh]
        have hneI:t≠(s.heap.push { cls:=.type "set",dict:=none,data:=.set #[] 0 (.fresh 0 0 led) }).objs.size:=by
          rw[Heap.size_push];exact Nat.ne_of_lt (Nat.lt_succ_of_lt hlS)
        have hSf:s.heap.objs.size∉[(s.heap.push { cls:=.type "set",dict:=none,data:=.set #[] 0 (.fresh 0 0 led) }).objs.size,t]:=by
          rw[Heap.size_push];simp only[List.mem_cons,List.mem_singleton,List.not_mem_nil,or_false,not_or]
          exact ⟨Nat.ne_of_lt (Nat.lt_succ_self _),Nat.ne_of_gt hlS⟩
        refine Yj (led:=led) ((Walks.tuple hh3 _ t hneI items).toS) s.heap.objs.size hSf val hi hb (items.size - 0) 0 _ (by omega) (Nat.zero_le _) ⟨⟨_,Heap.get?_push_size _ rfl,rfl,rfl⟩,(hl1.push _)⟩ ?hS0 ?hR
        case hS0=>
          have hget:((s.heap.push { cls:=.type "set",dict:=none,data:=.set #[] 0 (.fresh 0 0 led) }).push { cls:=.type "tuple_iterator",data:=.fields #[.ref t,.int 0 0] }).get? s.heap.objs.size
              = some { cls:=.type "set",dict:=none,data:=.set #[] 0 (.fresh 0 0 led) }:=Heap.get?_push_of_some _ hS
          exact ⟨_,#[],0,_,hget,⟨rfl,rfl,rfl⟩,rfl,fun e he=>by simp at he,List.Perm.refl _,by unfold scanBound;simp,rfl,Acj led⟩
        case hR=>
          intro s' hm hS'
          obtain ⟨h',g',d',tk',os'⟩:=s'
          have eg:g'=s.gens:=hm.gens
          have ed:d'=s.drawn:=hm.drawn
          have eo:os'=s.os:=hm.os
          subst eg;subst ed;subst eo
          show wpAny _ _ _ _ _ _
          refine wpAny_pure ?_
          show wpAny _ _ (ret Value.none) _ _ _
          refine wpAny_pure ⟨rfl,h',tk',rfl,hS',fun b o e=>?_⟩
          have hb:=Heap.lt_size e
          have hb1:b≠s.heap.objs.size:=Nat.ne_of_lt hb
          have hb2:b≠(s.heap.push { cls:=.type "set",dict:=none,data:=.set #[] 0 (.fresh 0 0 led) }).objs.size:=by
            rw[Heap.size_push];exact Nat.ne_of_lt (Nat.lt_succ_of_lt hb)
          exact hm.heap b o (by simp only[List.mem_cons,List.mem_singleton,List.not_mem_nil,or_false,not_or];exact ⟨hb1,hb2⟩) (Heap.get?_push_of_some _ (Heap.get?_push_of_some _ e))
      · cases r₂ with
        | error e=>exact hr₂
        | ok fl₂=>
          cases fl₂ with
          | ret r=>
            obtain ⟨rfl,h',tk,rfl,hS',hk'⟩:=hr₂
            repeat (any_goals (first | assumption | wp_step))
            exact h _ _ hS' hk'
          | _=>exact hr₂.elim
    | _=>exact hr.elim
end
end SW
namespace MR
open PySem PySem.Spec PyProof.Rows PySem.Calls L2 SO
noncomputable def unl(ns:List Int):List Int:=Wt (ns.foldl SW.Fd [])
theorem Rg(ns:List Int):SW.Nl (fun i=>ns.getD i 0) ns.length=ns.foldl SW.Fd []:=by
  unfold SW.Nl
  congr 1
  apply List.ext_getElem
  · simp
  · intro i h1 h2
    simp[h2]
theorem Sr:∀ {vs:List Value} {ns:List Int},IntsAre vs ns→vs.length=ns.length
  | _,_,.nil=>rfl
  | _,_,.cons _ _ h=>congrArg (· + 1) (Sr h)
section
variable {X:Cx}
theorem Ym{pins:List (Addr×Obj)}{s:Shared}{σ:L2.St}{H:Hp}{d:Drawn}(I:L2.Inv X pins σ H s):L2.Inv X pins σ H { s with drawn:=d }:=by
  cases I
  constructor <;> assumption
noncomputable def Aao(K:PySem.W.Frag)(ta:TA):TE:=fun σ H Q=>ta σ H fun vs H1=>∃ (a:Addr) (ns:List Int),vs=[.ref a]∧SqT K H1 a (ns.map V.int)∧ns.length≤4000∧∀ p:Addr,H1 p=none→Q (.ref p) (upd H1 p (.lst ((unl ns).map V.int)))
theorem Uo{a:Expr}{ta:TA}{p p' pos pos':Pos}(hc:X.calm=true)(hgL:Gl X "sorted")(hmL:X.mg "sorted" = none)(hg:Gl X "set")(hm:X.mg "set" = none)(ha:PA X [a] ta)(hs:starEach [a] X.env=[(false,eval a X.env)]:=by rfl)
    (hs2:starEach [.Call (.Name "set" p') [a] [] pos'] X.env=[(false,eval (.Call (.Name "set" p') [a] [] pos') X.env)]:=by rfl):PE X (.Call (.Name "sorted" p) [.Call (.Name "set" p') [a] [] pos'] [] pos) (Aao X.K ta):=by
  intro pins s σ H Q I h
  refine wpAny_Call_Name_kw (Gg I hgL hmL PyProof.Rows.boot_sorted ?_)
  refine PyProof.Rows.callWith_builtin1 ?_ hs2 rfl
  rw[hs2]
  refine Calls.spliced_cons ?_
  refine wpAny_Call_Name_kw (Gg I hg hm boot_set (PyProof.Rows.callWith_type1 (thn (ha pos' pins s σ H _ I h) fun us s1 ⟨vs,H1,I1,r1,q1⟩=>?_) hs rfl))
  obtain ⟨t,ns,rfl,hq,hl,q⟩:=q1
  obtain ⟨u,rfl,ru⟩:=Ij r1
  cases ru
  obtain ⟨its,rv,tp,hz⟩:=I1.tuple hq
  have hlen:=rv.length
  rw[List.length_map] at hlen
  have hsz:its.toArray.size=ns.length:=by simp[hlen]
  refine SW.Rt (val:=fun i=>ns.getD i 0) (I1.ok.hd hc) tp (fun i v hv=>?_) (by rw[hsz];unfold scanBound;omega) fun h' tk hS hk=>?_
  · have hv':its[i]? = some v:=by simpa using hv
    have hi:i < ns.length:=by have:=(List.getElem?_eq_some_iff.mp hv').1;omega
    obtain ⟨v',e3,rr⟩:=rv.get (i:=i) (x:=V.int (ns[i]'hi)) (by rw[List.getElem?_map,List.getElem?_eq_getElem hi];rfl)
    rw[hv'] at e3
    cases e3
    obtain ⟨tk,rfl⟩:=rr
    exact ⟨tk,by simp[List.getD_eq_getElem?_getD,List.getElem?_eq_getElem hi]⟩
  · refine Calls.spliced_nil ?_
    rw[hsz,Rg] at hS
    have hln:(ns.foldl SW.Fd []).length≤ns.length:=by
      rw[← Rg];exact SW.Nu _ _
    have I2:L2.Inv X pins σ H1 { s1 with heap:=h',toks:=tk }:=I1.kept hk
    refine call_function_entry kind_sorted plain_sorted entry_sorted (args_sorted1 _) ?_
    unfold Builtin.«sorted»
    refine wpAny_bind (m:=checkCount "sorted" 1 1 _) (wpAny_pure (wpAny_bind (SW.Tm (s:={ s1 with heap:=h',toks:=tk }) (by first | exact I1.ok.hd hc | simpa using I1.ok.hd hc) hS rfl fun h1 tk1 d vs ms kp hI hpm=>?_)))
    have hvl:vs.length≤sizeLine:=by
      have e1:vs.length=ms.length:=Sr hI
      rw[e1,hpm.length_eq,sizeLine_eq];omega
    refine wpAny_bind (wpAny_newList ?_ hvl)
    have e2:(h1.push (seqObj "list" vs.toArray 0)).get? h1.objs.size=some (seqObj "list" vs.toArray 0):=Heap.get?_push_size _ rfl
    have e3:∀ b o,h1.get? b=some o→(h1.push (seqObj "list" vs.toArray 0)).get? b=some o:=fun b o q=>Heap.get?_push_of_some _ q
    have e4:∀ (h2:Heap),Kb h1.objs.size (h1.push (seqObj "list" vs.toArray 0)) h2→∀ b o,h1.get? b=some o→h2.get? b=some o:=fun h2 k b o q=>
      k b o (Nat.ne_of_lt (Heap.lt_size q)) (e3 b o q)
    show wpAny _ _ _ _ _ ({ s1 with heap:=h1.push (seqObj "list" vs.toArray 0),toks:=tk1,drawn:=d }:Shared)
    generalize h1.push (seqObj "list" vs.toArray 0)=hp at e2 e3 e4
    refine wpAny_bind (wpAny_holding (wpAny_call_entry slot_list_sort ⟨_,e2,rfl⟩ entry_list_sort (Xf (s:={ s1 with heap:=hp,toks:=tk1,drawn:=d }) e2 hI hvl fun out ns' h2 c a1 a2 a3 a4 a5=>⟨_,rfl,?_⟩) (args_list_sort _)))
    have J0:L2.Inv X pins σ H1 { s1 with heap:=h1,toks:=tk1,drawn:=d }:=Ym (I2.kept (t':=tk1) kp)
    have en:ns'=unl ns:=by
      unfold unl
      exact (Abc ((a2.trans hpm).symm) a3).symm
    subst en
    have hsz2:((unl ns).map V.int).length≤sizeLine:=by
      rw[List.length_map,sizeLine_eq]
      unfold unl
      rw[(Hg _).length_eq];omega
    have I3:Inv X pins σ (upd H1 h1.objs.size (.lst ((unl ns).map V.int))) { s1 with heap:=h2,toks:=tk1,drawn:=d }:=J0.laid (t':=tk1) (e4 h2 a4) (Nat.le_refl _) ⟨hsz2,out,c,Mo a1,a5⟩
    exact wpAny_pure ⟨_,rfl,.ref h1.objs.size,_,I3,rfl,q _ (J0.hok.fresh (Nat.le_refl _))⟩
end
noncomputable def Hl(g:FA):FE:=fun δ L=>(g δ L).bind fun p=>match p.1 with
  | [.tup us]=>(mapO toI us).bind fun ns=>if ns.length≤4000 then some (.ref p.2.length,p.2++[.lst ((unl ns).map U.int)]) else none
  | _=>none
theorem Pr{X:Cx}{a:Expr}{g:FA}{p p' pos pos':Pos}(hc:X.calm=true)(hgL:Gl X "sorted")(hmL:X.mg "sorted" = none)(hg:Gl X "set")(hm:X.mg "set" = none)(ha:PAF X [a] g)(hs:starEach [a] X.env=[(false,eval a X.env)]:=by rfl)
    (hs2:starEach [.Call (.Name "set" p') [a] [] pos'] X.env=[(false,eval (.Call (.Name "set" p') [a] [] pos') X.env)]:=by rfl):PEF X (.Call (.Name "sorted" p) [.Call (.Name "set" p') [a] [] pos'] [] pos) (Hl g):=by
  refine PE.imp (Uo hc hgL hmL hg hm ha hs hs2) ?_
  rintro σ H Q ⟨α,δ,L,A,S,z,L3,e,q⟩
  obtain ⟨⟨us,L1⟩,e1,e⟩:=Option.bind_eq_some_iff.mp e
  refine ⟨α,δ,L,A,S,us,L1,e1,fun xs H1 α1 g1 A1 r1=>?_⟩
  simp only at e
  split at e
  · obtain ⟨ns,hns,e⟩:=Option.bind_eq_some_iff.mp e
    split at e
    · rename_i hl
      cases e
      obtain ⟨x,rfl,rx⟩:=r1.one
      unfold RepU at rx
      obtain ⟨b,xs,rfl,sq,r2⟩:=rx
      rw[J8 r2 hns] at sq
      refine ⟨b,ns,rfl,sq,hl,fun p hp=>?_⟩
      have rl:RepL X.K H1 α1 ((unl ns).map U.int) ((unl ns).map V.int):=by
        generalize unl ns=ws
        induction ws with
        | nil=>exact .nil
        | cons w ws ih=>exact .cons (by unfold RepU;rfl) ih
      obtain ⟨g2,A2,r3⟩:=A1.lst rl hp
      exact q _ _ _ (g1.trans g2) A2 r3
    · cases e
  · cases e
end MR
namespace ZT
open PySem PySem.Spec PyProof.Rows
open Sem (wp)
section
variable {M:Model}{A:Around}{E:Value→Shared→Prop}{s:Shared}{env:Env}
theorem Uq{pos:Pos}{T:String}{e:Expr}{rest:List Expr}{kws:List Keyword}{Q:Value→Shared→Prop}
    (h:wpAny M A (spliced (backTo pos (starEach (e::rest) env))) (fun vs s₁=>wpAny M A (evalAll ((backToKw pos (keywordEach kws env)).map (·.2)))
      (fun kvs s₂=>wpAny M A (call (.type T) vs (((backToKw pos (keywordEach kws env)).filterMap (·.1)).zip kvs)) Q E s₂) E s₁) E s)
    (he:backTo pos (starEach (e::rest) env)=(false,eval e env)::backTo pos (starEach rest env)) (hp:(backTo pos (starEach (e::rest) env)).any (·.1)=false)
    (hall:(backToKw pos (keywordEach kws env)).all (·.1.isSome)=true) (hkw:(backToKw pos (keywordEach kws env)).any (·.1.isNone)=false) :
    wpAny M A (callWith pos (.type T) [] (backTo pos (starEach (e::rest) env)) (backToKw pos (keywordEach kws env))) Q E s:=by
  have g:wpAny M A (evalArgs (.type T) true (backTo pos (starEach (e::rest) env)) (backToKw pos (keywordEach kws env))) (fun a s₁=>wpAny M A (call (.type T) ([]++a.pos) a.kw) Q E s₁) E s:=by
    rw[he] at h ⊢
    exact evalArgs_kwB hall h
  unfold callWith
  refine wpAny_bind (wpAny_holding (wpAny_mono g (fun a s₁ h₁=>wpAny_bind (wpAny_standAt ?_)) fun _ _ x=>x))
  simp only[hp,hkw,Bool.or_false]
  exact wpAny_bind (wpAny_pure (wpAny_bind (wpAny_mono h₁ (fun r s₂ hr=>wpAny_bind (wpAny_holding (wpAny_point (wpAny_pure hr)))) fun _ _ x=>x)))
end
theorem Si(a v:Value):checkTypeCall "enumerate" ⟨[a],[("start",v)]⟩=pure ():=by kernel_rfl
theorem U6(a v:Value):checkBuiltinCall "enumerate.__new__" ⟨[.type "enumerate",a],[("start",v)]⟩=pure ():=by kernel_rfl
theorem Adm(o a v:Value):argsOk "object.__init__" ⟨[o,a],[("start",v)]⟩:=by
  first | exact (by unfold argsOk;kernel_rfl) | kernel_rfl
theorem Aho(l:Addr)(items:Array Value)(tk1:Tok) :
    Meets (Builtin.«enumerate.__new__» ⟨[.type "enumerate",.ref l],[("start",.int 1 tk1)]⟩) (fun _ R s=>s.heap.IsTuple l items ∧
      R (.ok (.ret (.ref (s.heap.push { cls:=.type "tuple_iterator",data:=.fields #[.ref l,.int 0 0] }).objs.size)))
        { s with heap:=(s.heap.push { cls:=.type "tuple_iterator",data:=.fields #[.ref l,.int 0 0] }).push { cls:=.type "enumerate",data:=.fields #[.none,.bool false,.ref s.heap.objs.size,rawInt 1,.none,.none] } }):=
  .of_wp fun prog w A R s h=>by
    obtain ⟨hp,g,d,tk,os⟩:=s;obtain ⟨hl,h⟩:=h
    have hsub:=sub_enumerate
    have hL:Heap.IsTuple (Shared.heap ⟨hp,g,d,tk,os⟩) l items:=hl
    wp_walk using wpAny_pyIter_tuple hL
    refine wpAny_stack_any fun st=>wpAny_pure ?_
    split
    · rename_i c _ _ _ _ _
      cases (c == Value.type "enumerate")
      · wp_walk using wpAny_pyIter_tuple hL
        exact ⟨_,rfl,h⟩
      · wp_walk using wpAny_pyIter_tuple hL
        exact ⟨_,rfl,h⟩
    · wp_walk using wpAny_pyIter_tuple hL
      exact ⟨_,rfl,h⟩
theorem Ac8{self:Value}{rest:List Value}{kw:List (Str×Value)}(hl:typeLookup (.type "enumerate") "__init__" = pure (some (.builtin "object.__init__")))(hm:Bind.madeBy (.type "enumerate")=pure (some "enumerate.__new__"))(hne:(some "enumerate.__new__" != some "object.__new__")=true){a:Value}{p:Str×Value} :
    Meets (Builtin.«object.__init__» ⟨[self,a],[p]⟩) (fun _ R s=>s.TypeIs self "enumerate" ∧ R (.ok (.ret .none)) s):=by
  refine Meets.of_wp fun prog w A R s hs=>?_
  obtain ⟨hT,hq⟩:=hs
  repeat (any_goals (first | assumption | wp_step))
  exact ⟨_,rfl,hq⟩
section
variable {prog:Program}{w:World}{A:Around}{E:Value→Shared→Prop}{s:Shared}
theorem Aem{l:Addr}{items:Array Value}{tk1:Tok}{Q:Value→Shared→Prop}(hL:s.heap.IsTuple l items)
    (h:∀ h',IsEnum h' (s.heap.objs.size+1) s.heap.objs.size 1 .none→h'.IsTupleIter s.heap.objs.size l 0→h'.objs.size=s.heap.objs.size+2 →
      (∀ b o,s.heap.get? b=some o→h'.get? b=some o)→Q (.ref (s.heap.objs.size+1)) { s with heap:=h' }) :
    wpAny (model prog w) A (call (.type "enumerate") [.ref l] [("start",.int 1 tk1)]) Q E s:=by
  have ft:=F.called_enumerate
  obtain ⟨c,tl,hmro⟩:=ft.mro
  have hmade:=ft.made
  have hsub:=ft.sub
  refine wpAny_call (codeAny_of_tree ?_)
  show wpAny _ _ (callAny (.type "enumerate") _) _ _ _
  refine wpAny_pure ⟨Code.quiet_builtin _ (by decide +kernel),codeAny_builtin F.entry_type_call ?_⟩
  rw[Around.under_plain (weight_type_call_type "enumerate" [.ref l] [("start",.int 1 tk1)]) (units_type_call_type "enumerate" [.ref l] [("start",.int 1 tk1)])]
  have h1:=ft.notType
  have h2:=ft.canCreate
  have hct:=Si (.ref l) (.int 1 tk1)
  have hcn:=U6 (.ref l) (.int 1 tk1)
  repeat (any_goals (first | assumption | wp_step))
  have hz:(s.heap.push { cls:=.type "tuple_iterator",data:=.fields #[.ref l,.int 0 0] }).objs.size=s.heap.objs.size+1:=Heap.size_push ..
  refine codeAny_mono (codeAny_call_builtin (R:=wants (fun obj s₁=>obj = .ref (s.heap.objs.size+1)∧s₁ = { s with heap:=(s.heap.push { cls:=.type "tuple_iterator",data:=.fields #[.ref l,.int 0 0] }).push { cls:=.type "enumerate",data:=.fields #[.none,.bool false,.ref s.heap.objs.size,rawInt 1,.none,.none] } }) E) ft.plain F.entry_enumerate_new (wpAny_of_eq hcn (Aho l items tk1 prog w A.in1 _ s ⟨hL,by rw[hz];exact ⟨rfl,rfl⟩⟩))) fun r s₁ hr=>?_
  cases r with
  | error e=>exact hr
  | ok fl=>
    cases fl with
    | ret obj=>
      obtain ⟨rfl,rfl⟩:=hr
      have he:IsEnum ((s.heap.push { cls:=.type "tuple_iterator",data:=.fields #[.ref l,.int 0 0] }).push { cls:=.type "enumerate",data:=.fields #[.none,.bool false,.ref s.heap.objs.size,rawInt 1,.none,.none] }) (s.heap.objs.size+1) s.heap.objs.size 1 .none:=by
        have:=Heap.get?_push_size (s.heap.push { cls:=.type "tuple_iterator",data:=.fields #[.ref l,.int 0 0] }) (o:={ cls:=.type "enumerate",data:=.fields #[.none,.bool false,.ref s.heap.objs.size,rawInt 1,.none,.none] }) rfl
        rw[hz] at this;exact this
      have q:=h _ he ⟨_,Heap.get?_push_of_some _ (Heap.get?_push_size _ rfl),rfl,rfl⟩ (by rw[Heap.size_push,hz]) fun b o x=>Heap.get?_push_of_some _ (Heap.get?_push_of_some _ x)
      generalize (s.heap.push { cls:=.type "tuple_iterator",data:=.fields #[.ref l,.int 0 0] }).push { cls:=.type "enumerate",data:=.fields #[.none,.bool false,.ref s.heap.objs.size,rawInt 1,.none,.none] } = h3 at he q
      have hT:Shared.TypeIs { s with heap:=h3 } (.ref (s.heap.objs.size+1)) "enumerate" := ⟨_,he,rfl⟩
      have hli:=ft.init.lookup
      have hbi:=ft.init.bind (.ref (s.heap.objs.size+1))
      repeat (any_goals (first | assumption | wp_step))
      refine codeAny_mono (codeAny_call_builtin (R:=wants (fun r s₂=>r = .none∧Q (.ref (s.heap.objs.size+1)) s₂) E) ft.init.plain F.entry_object_init (ft.init.check _ _ _ _ _ _ _ _ hT (Adm _ _ _) (Ac8 (rest:=[]) (kw:=[]) ft.init.lookup ft.made (by decide) prog w A.in1 _ _ ⟨hT,rfl,q⟩))) fun r₂ s₂ hr₂=>?_
      cases r₂ with
      | error e=>exact hr₂
      | ok fl₂=>
        cases fl₂ with
        | ret r=>
          obtain ⟨rfl,hq⟩:=hr₂
          repeat (any_goals (first | assumption | wp_step))
        | _=>exact hr₂.elim
    | _=>exact hr.elim
theorem Su{it:Addr}{fp:List Addr}{n:Nat}{P:Nat→Value→Prop}{St:Nat→Heap→Prop}(D:Draws prog w A it fp n P St):Draws prog w A it fp (n+1) (fun j v=>P (j - 1) v) (fun j h=>1≤j∧St (j - 1) h) where
  live:=fun _ _ st=>D.live _ _ st.2
  frame:=fun _ _ _ st hk=>⟨st.1,D.frame _ _ _ st.2 hk⟩
  item:=fun i s Q E hi st hQ=>D.item (i - 1) s Q E (by have:=st.1;omega) st.2 fun v h' tk p q sb=>hQ v h' tk p ⟨by omega,by have:=st.1;rw[show i+1 - 1=i - 1+1 by omega];exact q⟩ sb
  done:=fun s Q E st hE=>D.done s Q E (by have:=st.2;rw[Nat.add_sub_cancel] at this;exact this) hE
end
end ZT
namespace MR
open PySem PySem.Spec PyProof.Rows L2
noncomputable def Af8(K:PySem.W.Frag)(a:Addr):It:=
  ⟨fun i H=>∃ xs x,SqT K H a xs∧xs[i]? = some x,fun i H x H'=>∃ p v,H p=none∧x = .ref p∧H'=upd H p (.tup [.int ((i+1:Nat):Int),v])∧∀ xs,SqT K H a xs→xs[i]? = some v,fun i H=>∃ xs,SqT K H a xs∧xs.length≤i⟩
theorem Vh{P:Program}{w:World}{K:PySem.W.Frag}{elts:List Expr}{x1}{pos:Pos}(a e it:Addr)(hne:e≠it):Turn P w K (.Tuple elts x1 pos) (Af8 K a) [e,it] e (fun i h=>(∃ old,IsEnum h e it ((i+1:Nat):Int) old)∧h.IsTupleIter it a i) where
  mem:=by simp
  obj:=fun i h st b hb=>by
    obtain ⟨⟨old,he⟩,o,ho,hc,hd⟩:=st
    rcases List.mem_cons.mp hb with rfl | hb
    · exact ⟨_,he,fun v z=>by simp at z⟩
    · have:b=it:=by simpa using hb
      subst this
      exact ⟨o,ho,fun v z=>by rw[hd] at z;cases z⟩
  keep:=fun i h h' st k=>by
    obtain ⟨⟨old,he⟩,o,ho,hc,hd⟩:=st
    exact ⟨⟨old,k e (by simp) _ he⟩,o,k it (by simp) _ ho,hc,hd⟩
  item:=by
    intro X hP hw hK hc i pins s σ H E I hf st hg
    subst hP hw hK
    obtain ⟨⟨old,he⟩,hit⟩:=st
    obtain ⟨xs,v,sq,hx⟩:=hg
    obtain ⟨its,hv,pl,hz⟩:=I.tuple sq
    obtain ⟨u,hu,r⟩:=hv.get hx
    have hae:e≠a:=fun q=>by
      subst q
      obtain ⟨o,ho,hc,_⟩:=pl
      have:some o=some _:=ho.symm.trans he
      cases this
      simp at hc
    have hai:a≠it:=fun q=>by
      subst q
      obtain ⟨o,ho,hc,_⟩:=pl
      obtain ⟨o',ho',hc',_⟩:=hit
      have:some o=some o':=ho.symm.trans ho'
      cases this
      rw[hc] at hc';simp at hc'
    have hlt:i < its.toArray.size:=by
      have:=(List.getElem?_eq_some_iff.mp hu).1
      simpa using this
    refine wpAny_pyNext_enum_itemD (ZT.Su (ZT.Na (A:=Around.in1 _) (I.ok.hd hc) it a hai its.toArray)) he ⟨by omega,by rw[Nat.add_sub_cancel];exact ⟨hit,pl⟩⟩ (Nat.succ_lt_succ hlt) hne (by simp[hne,hae]) fun x h' tk px o1 o2 o3 o4 o5=>?_
    rw[Nat.add_sub_cancel] at px
    have o2:=o2.2
    rw[Nat.add_sub_cancel] at o2
    have hxu:x=u:=by
      have:its[i]? = some x:=by simpa using px
      rw[hu] at this;cases this;rfl
    subst hxu
    refine ⟨_,rfl,?_⟩
    have hfr:H s.heap.objs.size=none:=I.hok.fresh (Nat.le_refl _)
    have I1:L2.Inv X pins σ (upd H s.heap.objs.size (.tup [.int ((i+1:Nat):Int),v])) { s with heap:=h',toks:=tk+1 }:=
      Inv.turnNew (ch:=[e,it]) I hf (fun b o hb q=>o5 b o (fun z=>hb (by simp[z])) (fun z=>hb (by simp[z])) q) (Nat.le_refl _)
        (show ObjOk X.prog X.w _ h' _ (.tup [.int ((i+1:Nat):Int),v]) from ⟨by show 2≤sizeLine;decide,[.int ((i+1:Nat):Int) tk,x],.cons ⟨_,rfl⟩ (.cons r .nil),⟨_,o3,rfl,_,rfl⟩⟩)
    refine wpAny_letOwnedTupleGo_enum o1 fun h2 e2 sb2=>?_
    have hne2:∀ b∈[e,it],b≠s.heap.objs.size:=fun b hb z=>by
      rcases List.mem_cons.mp hb with q | q
      · have:=Heap.lt_size he;rw[← q,z] at this;exact Nat.lt_irrefl _ this
      · have q:b=it:=by simpa using q
        obtain ⟨o,ho,_⟩:=hit
        have:=Heap.lt_size ho;rw[← q,z] at this;exact Nat.lt_irrefl _ this
    have hnone:∀ b∈[e,it],(upd H s.heap.objs.size (.tup [.int ((i+1:Nat):Int),v])) b=none:=fun b hb=>by rw[Ba (hne2 b hb)];exact (hf b hb).1
    obtain ⟨f0,f1,f2,f3,f4,f5⟩:=hf e (by simp)
    have I2:=I1.turned (t':=tk+1) (h':=h2) (it:=e) (fun b o hb q=>sb2.2 b hb |>.trans q) (hnone e (by simp)) f1 f3 f4 f5
    obtain ⟨oi,hoi,hci,hdi⟩:=o2.1
    refine ⟨.ref s.heap.objs.size,_,I2,rfl,⟨_,v,hfr,rfl,rfl,fun ys sq'=>?_⟩,⟨⟨_,e2⟩,oi,(sb2.2 it (Ne.symm hne)).trans hoi,hci,hdi⟩,hnone⟩
    rw[I.tuple_inj sq' sq];exact hx
  done:=by
    intro X hP hw hK hc i pins s σ H E I hf st hg
    subst hP hw hK
    obtain ⟨⟨old,he⟩,hit⟩:=st
    obtain ⟨xs,sq,hx⟩:=hg
    obtain ⟨its,hv,pl,hz⟩:=I.tuple sq
    obtain ⟨f0,f1,f2,f3,f4,f5⟩:=hf it (by simp)
    have hlen:=hv.length
    exact ZT.Ls (I.ok.hd hc) he hit pl (by simp;omega) fun h' eb=>⟨rfl,I.turned (t':=s.toks) (fun b o hb q=>eb b o hb q) f0 f1 f3 f4 f5⟩
  self:=fun _ _ _ _ _ st h=>by obtain ⟨⟨old,he⟩,_⟩:=st;exact wpAny_pyIter_enum he h
section
variable {X:Cx}{elts:List Expr}{x1:Nat}{tpos:Pos}
noncomputable def Ags(K:PySem.W.Frag)(ta:TA):TI:=fun σ H R=>ta σ H fun vs H1=>∃ a xs,vs=[.ref a]∧SqT K H1 a xs∧R (Af8 K a) H1
theorem Abb{a:Expr}{ta:TA}{p pos p1 kp:Pos}{c1:Nat}(hg:Gl X "enumerate")(hm:X.mg "enumerate" = none)(ha:PA X [a] ta)(hs:starEach [a] X.env=[(false,eval a X.env)]:=by rfl) :
    PI X (.Tuple elts x1 tpos) (.Call (.Name "enumerate" p) [a] [⟨some "start",.Constant (.int 1) c1 p1,kp⟩] pos) (Ags X.K ta):=by
  intro pins s σ H R I h
  refine wpAny_Call_Name_kw (Gg I hg hm Me (ZT.Uq (thn (ha pos pins s σ H _ I h) fun us s1 ⟨vs,H1,I1,r1,q1⟩=>?_) (by rw[hs];rfl) (by rw[hs];rfl) rfl rfl))
  obtain ⟨l,xs,rfl,sq,q⟩:=q1
  obtain ⟨u,rfl,ru⟩:=Ij r1
  cases ru
  refine thn (Ac7 (nm:=some (Str.ofString "start")) (kpos:=kp) Aa8 Aid pos pins s1 σ H1 (fun zs H2=>zs=[.int 1]∧H2=H1) I1 ⟨rfl,rfl⟩) fun ws s2 ⟨zs,H2,I2,rz,hz,hH⟩=>?_
  subst hH
  subst hz
  obtain ⟨v2,rfl,rv2⟩:=Ij rz
  obtain ⟨tk1,rfl⟩:=rv2
  obtain ⟨its,hv,pl,hz⟩:=I2.tuple sq
  refine ZT.Aem pl fun h' o1 o2 o3 o4=>?_
  have I3:L2.Inv X pins σ H2 { s2 with heap:=h' }:=I2.kept (t':=s2.toks) o4
  refine wpAny_pyIter_enum o1 ⟨_,_,_,_,H2,rfl,I3,Vh l (s2.heap.objs.size+1) s2.heap.objs.size (Nat.ne_of_gt (Nat.lt_succ_self _)),⟨⟨_,o1⟩,o2⟩,fun b hb=>?_,q⟩
  have hb':s2.heap.objs.size≤b:=by
    simp only[List.mem_cons,List.not_mem_nil,or_false] at hb
    rcases hb with rfl | rfl
    · exact Nat.le_succ _
    · exact Nat.le_refl _
  exact L2.Inv.fpOk I2 hb' (I2.hok.fresh hb')
noncomputable def G9(us:List U):List U:=us.mapIdx fun i u=>.tup [.int ((i+1:Nat):Int),u]
noncomputable def Vn(g:FA):FI:=fun δ L=>(g δ L).bind fun p=>match p.1 with
  | [.tup us]=>some (.seq (G9 us),p.2)
  | _=>none
theorem Aa7{K:PySem.W.Frag}{H:Hp}{α:List Addr}{a:Addr}{us:List U}{xs:List V}(sq:SqT K H a xs)(r:RepL K H α us xs):Mb K (Af8 K a) (.seq (G9 us)) H α:=by
  intro H2 α2 L2 g A2 k
  have m:=(show RepU K H α (.tup us) (.ref a) by unfold RepU;exact ⟨a,xs,rfl,sq,r⟩).mono g
  unfold RepU at m
  obtain ⟨c',xs,e,sq2,r2⟩:=m
  cases e
  refine ⟨fun u eu=>?_,fun eu=>?_⟩
  · have eu:(G9 us)[k]? = some u:=by simpa[IU.at] using eu
    unfold G9 at eu
    rw[List.getElem?_mapIdx] at eu
    obtain ⟨w,hw,eu⟩:=Option.map_eq_some_iff.mp eu
    subst eu
    obtain ⟨x,hx,rx⟩:=r2.get hw
    refine ⟨⟨xs,x,sq2,hx⟩,?_⟩
    rintro y H3 ⟨p,v,hp,rfl,rfl,hy⟩
    have:=hy xs sq2
    rw[hx] at this;cases this
    exact A2.tup (.cons rfl (.cons rx .nil)) hp
  · have eu:(G9 us)[k]? = none:=by simpa[IU.at] using eu
    unfold G9 at eu
    rw[List.getElem?_mapIdx] at eu
    have:us[k]? = none:=by simpa using eu
    exact ⟨xs,sq2,by rw[← r2.length];exact List.getElem?_eq_none_iff.mp this⟩
theorem Ys{a:Expr}{g:FA}{p pos p1 kp:Pos}{c1:Nat}(hg:Gl X "enumerate")(hm:X.mg "enumerate" = none)(ha:PAF X [a] g)(hs:starEach [a] X.env=[(false,eval a X.env)]:=by rfl) :
    PIF X (.Tuple elts x1 tpos) (.Call (.Name "enumerate" p) [a] [⟨some "start",.Constant (.int 1) c1 p1,kp⟩] pos) (Vn g):=by
  refine PI.imp (Abb hg hm ha hs) ?_
  rintro σ H R ⟨α,δ,L,A,S,i,L3,e,q⟩
  obtain ⟨⟨us,L1⟩,e1,e⟩:=Option.bind_eq_some_iff.mp e
  simp only at e
  split at e
  · cases e
    refine ⟨α,δ,L,A,S,_,_,e1,fun xs H1 α1 g1 A1 r1=>?_⟩
    obtain ⟨x,rfl,rx⟩:=r1.one
    unfold RepU at rx
    obtain ⟨a',ys,rfl,sq,r2⟩:=rx
    exact ⟨a',ys,rfl,sq,q _ H1 α1 g1 A1 (Aa7 sq r2)⟩
  · cases e
end
end MR
namespace MR
open PySem PySem.Spec PyProof.Rows PySem.Calls L2
section
variable {X:Cx}
noncomputable def Wb(K:PySem.W.Frag):V→List V→Hp→VK→Prop:=fun x vs H Q=>∃ (l:Addr) (ns:List Int) (k:Int),x = .ref l∧vs=[.int k]∧SqT K H l (ns.map V.int)∧Q (.int (ns.count k:Nat)) H
theorem Yi:MtM X "tuple.count" (Wb X.K):=by
  intro pins s σ H x vs v us Q I rx rv h
  obtain ⟨l,ns,k,rfl,rfl,hH,q⟩:=h
  cases rx
  obtain ⟨u,rfl,ru⟩:=rv.one
  obtain ⟨t,rfl⟩:=ru
  obtain ⟨its,r,tp,hz⟩:=I.tuple hH
  obtain ⟨o,ho,hcl,n,hd⟩:=tp
  obtain ⟨ocls,odict,odata,oslots⟩:=o
  simp only at hcl hd
  subst hcl;subst hd
  refine call_meets F.slot_tuple_count ⟨_,ho,rfl⟩ F.entry_tuple_count (F.args_tuple_count_2 _ _)
    (PySem.SeqAt.tuple_countAt l its.toArray n odict oslots (.int k t) (fun v=>match v with | .int a _=>a == k | _=>false)) ⟨ho,fun y hy=>?_,?_⟩
  · have hy':y∈its:=by simpa using hy
    obtain ⟨i,hi2,rfl⟩:=List.getElem_of_mem hy'
    have hlen:=r.length
    have hx:(ns.map V.int)[i]? = some (.int (ns[i]'(by rw[List.length_map] at hlen;omega))):=by
      rw[List.getElem?_map,List.getElem?_eq_getElem];rfl
    obtain ⟨u',hu',⟨t',ht'⟩⟩:=r.get hx
    have:its[i]=u':=by
      rw[List.getElem?_eq_getElem hi2] at hu';cases hu';rfl
    rw[this,ht']
    first | exact (MeetsSeq.EqGives.int _ _ _ _).at _ _ | exact fun prog w Q E h=>MeetsSeq.EqGives.int _ _ _ _ prog w _ _ _ _ h
  · have hc:(its.toArray.toList.countP fun v=>match v with | .int a _=>a == k | _=>false)=ns.count k:=by
      have:its.toArray.toList=its:=by simp
      rw[this];exact Pb (t:=t) r
    rw[hc]
    exact ⟨.int (ns.count k:Nat),H,I.tok _,⟨_,rfl⟩,q⟩
end
noncomputable def semCountT:SM:=fun u us L=>match u,us with
  | .tup l,[.int k]=>(mapO toI l).map fun ns=>(.int (ns.count k:Nat),L)
  | _,_=>none
theorem V0{K:PySem.W.Frag}:Ac9 K (Wb K) semCountT:=by
  intro H α L u us x xs z L' Q A ru r e q
  unfold semCountT at e
  split at e
  · obtain ⟨ns,hns,e⟩:=Option.map_eq_some_iff.mp e
    cases e
    obtain ⟨v,rfl,rv⟩:=r.one
    unfold RepU at rv
    subst rv
    unfold RepU at ru
    obtain ⟨a,ys,rfl,sq,r2⟩:=ru
    rw[J8 r2 hns] at sq
    exact ⟨a,ns,_,rfl,rfl,sq,q _ H α (.refl _ _) A rfl⟩
  · cases e
end MR
namespace MR
open PySem PySem.Spec PyProof.Rows L2
section
variable {X:Cx}{elts:List Expr}{x1:Nat}{tpos:Pos}
noncomputable def V3(g:FA):FI:=fun δ L=>(g δ L).bind fun p=>match p.1 with
  | [.tup us,.ref m]=>(Ap p.2 m).map fun _=>(.zipT us m,p.2)
  | _=>none
theorem Abr{a b:Expr}{g:FA}{p pos:Pos}(hg:Gl X "zip")(hm:X.mg "zip" = none)(ha:PAF X [a,b] g)(hs:starEach [a,b] X.env=(false,eval a X.env)::starEach [b] X.env:=by rfl)(hpl:(backTo pos (starEach [b] X.env)).any (·.1)=false:=by rfl):PIF X (.Tuple elts x1 tpos) (.Call (.Name "zip" p) [a,b] [] pos) (V3 g):=by
  refine PI.imp (Adl hg hm ha hs hpl) ?_
  rintro σ H R ⟨α,δ,L,A,S,i,L3,e,q⟩
  obtain ⟨⟨us,L1⟩,e1,ee⟩:=Option.bind_eq_some_iff.mp e
  simp only at ee
  split at ee
  · obtain ⟨l',hl',e3⟩:=Option.map_eq_some_iff.mp ee
    cases e3
    refine ⟨α,δ,L,A,S,_,_,e1,fun xs H1 α1 g1 A1 r1=>?_⟩
    obtain ⟨x,y,rfl,rx,ry⟩:=r1.two
    unfold RepU at rx
    obtain ⟨a',ys,rfl,sq,r2⟩:=rx
    obtain ⟨b',ys',rfl,sq',r2'⟩:=Li A1 hl' ry
    obtain ⟨b2,eb,hb2⟩:=ry.ref_of A1
    cases hb2
    exact ⟨a',b',ys,ys',rfl,sq,sq',q _ H1 α1 g1 A1 (Abh sq r2 eb)⟩
  · cases ee
end
end MR
namespace MR
open PySem L2
@[simp] theorem fVar_eq(i:Nat)(δ:UE)(L:UH):Ad i δ L=(δ[i]?).join.map fun u=>(u,L):=rfl
@[simp] theorem fC_eq(u:U)(δ:UE)(L:UH):fC u δ L=some (u,L):=rfl
@[simp] theorem f2_eq(s:S2)(a b:FE)(δ:UE)(L:UH):f2 s a b δ L=(a δ L).bind fun p=>(b δ p.2).bind fun q=>s p.1 q.1 q.2:=rfl
@[simp] theorem fTest_eq(f:FE)(δ:UE)(L:UH):Be f δ L=(f δ L).bind fun p=>match p.1 with | .bl k=>some (k,p.2) | _=>none:=rfl
@[simp] theorem V1(f g:FT)(δ:UE)(L:UH):Ab6 f g δ L=(f δ L).bind fun p=>if p.1=true then g δ p.2 else some (false,p.2):=rfl
@[simp] theorem Ahu(f g:FT)(δ:UE)(L:UH):fOr f g δ L=(f δ L).bind fun p=>if p.1=true then some (true,p.2) else g δ p.2:=rfl
@[simp] theorem Adj(f:FT)(δ:UE)(L:UH):Nm f δ L=(f δ L).map fun p=>(!p.1,p.2):=rfl
@[simp] theorem Aap(f g:FE)(δ:UE)(L:UH):Sf f g δ L=(f δ L).bind fun p=>match p.1 with | .bl k=>if k=true then g δ p.2 else some (.bl false,p.2) | _=>none:=rfl
@[simp] theorem Akh(f g:FE)(δ:UE)(L:UH):Akx f g δ L=(f δ L).bind fun p=>match p.1 with | .bl k=>if k=true then some (.bl true,p.2) else g δ p.2 | _=>none:=rfl
@[simp] theorem Aiy(f:FE)(δ:UE)(L:UH):Acb f δ L=(f δ L).bind fun p=>match p.1 with | .bl k=>some (.bl (!k),p.2) | _=>none:=rfl
@[simp] theorem Ako(c:FT)(f g:FE)(δ:UE)(L:UH):fIf c f g δ L=(c δ L).bind fun p=>if p.1=true then f δ p.2 else g δ p.2:=rfl
@[simp] theorem fNil_eq(δ:UE)(L:UH):Ag δ L=some ([],L):=rfl
@[simp] theorem fCons_eq(f:FE)(g:FA)(δ:UE)(L:UH):Ae f g δ L=(f δ L).bind fun p=>(g δ p.2).map fun q=>(p.1::q.1,q.2):=rfl
@[simp] theorem Aeu(g:FA)(δ:UE)(L:UH):Kf g δ L=(g δ L).bind fun p=>if Gk p.1.length=true then some (.tup p.1,p.2) else none:=rfl
@[simp] theorem fLst_eq(g:FA)(δ:UE)(L:UH):H9 g δ L=(g δ L).bind fun p=>if Gk p.1.length=true then some (.ref p.2.length,p.2++[.lst p.1]) else none:=rfl
@[simp] theorem fCall_eq(s:SC)(g:FA)(δ:UE)(L:UH):Ax s g δ L=(g δ L).bind fun p=>s p.1 p.2:=rfl
@[simp] theorem Kz(n:Nat)(F:FN)(g:FA)(δ:UE)(L:UH):Bj n F g δ L=(g δ L).bind fun p=>if p.1.length=n then F p.1 p.2 else none:=rfl
@[simp] theorem fMeth_eq(T:String)(s:SM)(f:FE)(g:FA)(δ:UE)(L:UH):Of T s f g δ L=(f δ L).bind fun p=>if tyU T p.1 p.2=true then (g δ p.2).bind fun q=>s p.1 q.1 q.2 else none:=rfl
@[simp] theorem fPart_eq(f:FE)(δ:UE)(L:UH):Cz f δ L=(f δ L).bind fun p=>match p.1 with | .int i=>some (some i,p.2) | _=>none:=rfl
@[simp] theorem O7(δ:UE)(L:UH):Dq δ L=some (none,L):=rfl
@[simp] theorem Vc(s:SS)(f:FE)(l h:FO)(δ:UE)(L:UH):fSl s f l h δ L=(f δ L).bind fun p=>(l δ p.2).bind fun q=>(h δ q.2).bind fun r=>s p.1 q.1 r.1 r.2:=rfl
@[simp] theorem Akg(f:FE)(δ:UE)(L:UH):U0 f δ L=(f δ L).bind fun p=>match p.1 with | .int i=>some (.int (-i),p.2) | _=>none:=rfl
@[simp] theorem fTru_eq(f:FE)(δ:UE)(L:UH):Nh f δ L=(f δ L).bind fun p=>(Xh p.1 p.2).map fun k=>(k,p.2):=rfl
@[simp] theorem Aki(c:String)(f:FE)(δ:UE)(L:UH):Tf c f δ L=(f δ L).bind fun p=>(Kv p.1 p.2).map fun t=>(.bl (isT t c),p.2):=rfl
@[simp] theorem Akb(δ:UE)(L:UH):Co δ L=some (.nx δ,L):=rfl
@[simp] theorem fSeq_eq(f g:FS)(δ:UE)(L:UH):Ay f g δ L=(f δ L).bind fun p=>match p.1 with | .nx δ'=>g δ' p.2 | fl=>some (fl,p.2):=rfl
@[simp] theorem Ka(f:FE)(δ:UE)(L:UH):B0 f δ L=(f δ L).map fun p=>(.rt p.1,p.2):=rfl
@[simp] theorem Ii(f:FE)(δ:UE)(L:UH):Gp f δ L=(f δ L).map fun p=>(.nx δ,p.2):=rfl
@[simp] theorem Aj5(δ:UE)(L:UH):Ajb δ L=some (.rt .non,L):=rfl
@[simp] theorem fIfS_eq(c:FT)(f g:FS)(δ:UE)(L:UH):Es c f g δ L=(c δ L).bind fun p=>if p.1=true then f δ p.2 else g δ p.2:=rfl
@[simp] theorem gN_eq(i:Nat)(u:U)(δ:UE)(L:UH):gN i u δ L=some (δ.set i (some u),L):=rfl
@[simp] theorem Akj(δ:UE)(L:UH):MR.gNil [] δ L=some (δ,L):=rfl
@[simp] theorem Ai4(f:FG)(g:FGs)(u:U)(r:List U)(δ:UE)(L:UH):MR.gCons f g (u::r) δ L=(f u δ L).bind fun p=>g r p.1 p.2:=rfl
@[simp] theorem Ake(n:Nat)(g:FGs)(us:List U)(δ:UE)(L:UH):MR.gTup n g (.tup us) δ L=if us.length=n then g us δ L else none:=rfl
@[simp] theorem gSub_eq(a b:FE)(v:U)(δ:UE)(L:UH):MR.gSub a b v δ L=(a δ L).bind fun p=>(b δ p.2).bind fun q=>match p.1,q.1 with
  | .ref n,.int k=>(E6 q.2 n).bind fun l=>(ixN l.length k).map fun j=>(δ,q.2.set n (.lst (l.set j v)))
  | _,_=>none:=rfl
@[simp] theorem Iv(f:FE)(g:FG)(δ:UE)(L:UH):Br f g δ L=(f δ L).bind fun p=>(g p.1 δ p.2).map fun q=>(.nx q.1,q.2):=rfl
@[simp] theorem N1(fi:FI)(g:FG)(b:FS)(δ:UE)(L:UH):Hn fi g b δ L=(fi δ L).bind fun p=>Jm p.1 g b (p.1.size p.2+1) 0 δ p.2:=rfl
@[simp] theorem Aaj(f:FE)(δ:UE)(L:UH):Cq f δ L=(f δ L).bind fun p=>(Sa p.1 p.2).map fun i=>(i,p.2):=rfl
@[simp] theorem Ac1(g:FA)(δ:UE)(L:UH):Ia g δ L=(g δ L).bind fun p=>match p.1 with
  | [.int j]=>if -(2 ^ 62)≤j∧j < 2 ^ 62 then some (.seq (Ch 0 j.toNat),p.2) else none
  | _=>none:=rfl
@[simp] theorem semAdd_int(i j:Int)(L:UH):Bl (.int i) (.int j) L=some (.int (i+j),L):=rfl
@[simp] theorem semSub_int(i j:Int)(L:UH):B8 (.int i) (.int j) L=some (.int (i - j),L):=rfl
@[simp] theorem Vf(i j:Int)(L:UH):Di (.int i) (.int j) L=if Hh i j=true then some (.int (i * j),L) else none:=rfl
@[simp] theorem Oc(i j:Int)(L:UH):Kx (.int i) (.int j) L=if Nc i j=true then some (.int (i / j),L) else none:=rfl
@[simp] theorem Af6(i j:Int)(L:UH):Hw (.int i) (.int j) L=if decide (0 < j)=true then some (.int (i % j),L) else none:=rfl
@[simp] theorem Agi(i j:Int)(L:UH):Kw (.int i) (.int j) L=if Qd i j=true then some (.int (i ^ j.toNat),L) else none:=rfl
@[simp] theorem Aim(i j:Int)(L:UH):W7 (.int i) (.int j) L=some (.bl (decide (i≤j)),L):=rfl
@[simp] theorem Aio(i j:Int)(L:UH):Nd (.int i) (.int j) L=some (.bl (decide (i < j)),L):=rfl
@[simp] theorem semGt_int(i j:Int)(L:UH):K4 (.int i) (.int j) L=some (.bl (decide (j < i)),L):=rfl
@[simp] theorem Ail(i j:Int)(L:UH):Ou (.int i) (.int j) L=some (.bl (decide (j≤i)),L):=rfl
@[simp] theorem Ain(i j:Int)(L:UH):Eh (.int i) (.int j) L=some (.bl (i == j),L):=rfl
@[simp] theorem Xg(i j:Int)(L:UH):C4 (.int i) (.int j) L=some (.bl (!(i == j)),L):=rfl
@[simp] theorem Aj8(i j:Bool)(L:UH):Eh (.bl i) (.bl j) L=some (.bl (i == j),L):=rfl
@[simp] theorem Aj1(i j:Bool)(L:UH):C4 (.bl i) (.bl j) L=some (.bl (!(i == j)),L):=rfl
@[simp] theorem Aix(i j:Bool)(L:UH):P4 false (.bl i) (.bl j) L=some (.bl (i == j),L):=rfl
@[simp] theorem Aik(l:List U)(i:Int)(L:UH):Dh (.tup l) (.int i) L=(L2.atI l i).map fun z=>(z,L):=rfl
@[simp] theorem semIx_ref(n:Nat)(i:Int)(L:UH):Dh (.ref n) (.int i) L=(Ap L n).bind fun l=>(L2.atI l i).map fun z=>(z,L):=rfl
@[simp] theorem Akl(b:Bool)(L:UH):Xh (.bl b) L=some b:=rfl
theorem A0{L:UH}{n:Nat}{us:List U}(h:L[n]? = some (.lst us)):Ap L n=some us:=by unfold Ap;rw[h]
theorem E5{L:UH}{n:Nat}{us:List U}(h:L[n]? = some (.lst us)):E6 L n=some us:=by unfold E6;rw[h]
theorem Gd{n:Nat}(h:n≤16777216):Gk n=true:=by unfold Gk sizeLine;exact decide_eq_true (by omega)
theorem Rx{β:Type}{l:List β}{i:Int}(h0:0≤i)(h:i < l.length):L2.atI l i=l[i.toNat]?:=by
  unfold L2.atI ixN
  rw[if_pos h0,if_pos h];rfl
theorem Agb{n:Nat}{i:Int}(h0:0≤i)(h:i < n):ixN n i=some i.toNat:=by
  unfold ixN
  rw[if_pos h0,if_pos h]
theorem Wp{i j:Int}(h1:-1000000000000000000≤i)(h2:i≤1000000000000000000):Hh i j=true:=by
  unfold Hh;simp only[Bool.or_eq_true,Bool.and_eq_true,decide_eq_true_eq];left;constructor <;> omega
theorem Kc{i j:Int}(h1:-1000000000000000000≤j)(h2:j≤1000000000000000000):Hh i j=true:=by
  unfold Hh;simp only[Bool.or_eq_true,Bool.and_eq_true,decide_eq_true_eq];right;constructor <;> omega
theorem K0{i j:Int}(h1:0 < j)(h2:j < 1152921504606846976):Nc i j=true:=by
  unfold Nc;simp only[Bool.and_eq_true,decide_eq_true_eq];exact ⟨h1,h2⟩
noncomputable def Pi(g:FG)(body:FS)(u:U)(δ:UE)(L:UH)(R:UE→UH→Prop):Prop:=∃ δ1 L1,g u δ L=some (δ1,L1)∧∃ δ2 L2,(body δ1 L1=some (.nx δ2,L2)∨body δ1 L1=some (.ct δ2,L2))∧R δ2 L2
theorem Ll{it:IU}{g:FG}{body:FS}{us:List U}(P:Nat→UE→UH→Prop)(hat:∀ k δ L,k≤us.length→P k δ L→it.at k L=some us[k]?)
    (step:∀ k u δ L,us[k]? = some u→P k δ L→Pi g body u δ L (P (k+1))) :
    ∀ (m k:Nat) (δ:UE) (L:UH),us.length < m+k→k≤us.length→P k δ L→∃ δ' L',Jm it g body m k δ L=some (.nx δ',L')∧P us.length δ' L'
  | 0,k,δ,L,h1,h2,_=>by omega
  | m+1,k,δ,L,h1,h2,hP=>by
    have hk:=hat k δ L h2 hP
    unfold Jm
    rw[hk]
    cases hu:us[k]? with
    | none=>
      have:k=us.length:=by have:=List.getElem?_eq_none_iff.mp hu;omega
      subst this
      exact ⟨δ,L,rfl,hP⟩
    | some u=>
      have hlt:k < us.length:=(List.getElem?_eq_some_iff.mp hu).1
      obtain ⟨δ1,L1,e1,δ2,L2,e2,hP2⟩:=step k u δ L hu hP
      obtain ⟨δ',L',e3,hP3⟩:=Ll P hat step m (k+1) δ2 L2 (by omega) (by omega) hP2
      refine ⟨δ',L',?_,hP3⟩
      rcases e2 with e2 | e2
      · simp only[e1,Option.bind_some,e2,e3]
      · simp only[e1,Option.bind_some,e2,e3]
theorem Ja{fi:FI}{g:FG}{body:FS}{us:List U}{δ:UE}{L L0:UH}(P:Nat→UE→UH→Prop)(hi:fi δ L=some (.seq us,L0))(h0:P 0 δ L0)(step:∀ k u δ L,us[k]? = some u→P k δ L→Pi g body u δ L (P (k+1))) :
    ∃ δ' L',Hn fi g body δ L=some (.nx δ',L')∧P us.length δ' L':=by
  obtain ⟨δ',L',e,h⟩:=Ll (it:=.seq us) (g:=g) (body:=body) (us:=us) P (fun _ _ _ _ _=>rfl) step (us.length+1) 0 δ L0 (by omega) (by omega) h0
  exact ⟨δ',L',by rw[N1,hi];exact e,h⟩
theorem Xa{fi:FI}{g:FG}{body:FS}{us:List U}{n:Nat}{δ:UE}{L L0:UH}(P:Nat→UE→UH→Prop)(hi:fi δ L=some (.ref n,L0))(h0:P 0 δ L0)(hl:∀ k δ L,P k δ L→Ap L n=some us)(step:∀ k u δ L,us[k]? = some u→P k δ L→Pi g body u δ L (P (k+1))) :
    ∃ δ' L',Hn fi g body δ L=some (.nx δ',L')∧P us.length δ' L':=by
  have hat:∀ k δ L,k≤us.length→P k δ L→(IU.ref n).at k L=some us[k]?:=fun k δ L _ hp=>by
    have:=hl k δ L hp
    unfold Ap at this
    unfold IU.at
    simp only
    split at this
    · rename_i e;cases this;first | rw[e] | rfl
    · rename_i e;cases this;first | rw[e] | rfl
    · cases this
  have hsz:(IU.ref n).size L0=us.length:=by
    have:=hl 0 δ L0 h0
    unfold Ap at this
    unfold IU.size
    simp only
    split at this
    · rename_i e;cases this;first | rw[e] | rfl
    · rename_i e;cases this;first | rw[e] | rfl
    · cases this
  obtain ⟨δ',L',e,h⟩:=Ll (it:=.ref n) (g:=g) (body:=body) (us:=us) P hat step (us.length+1) 0 δ L0 (by omega) (by omega) h0
  exact ⟨δ',L',by rw[N1,hi];simp only[Option.bind_some,hsz];exact e,h⟩
theorem Qy{L:UH}{n:Nat}{us:List U}(h:Ap L n=some us):Sa (.ref n) L=some (.ref n):=by
  unfold Ap at h
  unfold Sa
  simp only
  split at h
  · rename_i e;first | rw[e] | rfl
  · rename_i e;first | rw[e] | rfl
  · cases h
theorem Fx{lo:Int}{n k:Nat}{u:U}(h:(Ch lo n)[k]? = some u):k < n∧u = .int (lo+k):=by
  unfold Ch at h
  rw[List.getElem?_map] at h
  by_cases hk:k < n
  · rw[List.getElem?_range hk] at h
    simp at h
    exact ⟨hk,h.symm⟩
  · rw[List.getElem?_eq_none (by simpa using hk)] at h
    simp at h
theorem Ey{lo:Int}{n:Nat}:(Ch lo n).length=n:=by simp[Ch]
@[simp] theorem Ai6(g:FA)(δ:UE)(L:UH):Ajh g δ L=(g δ L).bind fun p=>match p.1 with
  | [.ref n]=>(Ap p.2 n).map fun _=>(.enm n,p.2)
  | _=>none:=rfl
@[simp] theorem Akf(g:FA)(δ:UE)(L:UH):Akp g δ L=(g δ L).bind fun p=>match p.1 with
  | [.ref n,.ref m]=>(Ap p.2 n).bind fun _=>(Ap p.2 m).map fun _=>(.zip2 n m,p.2)
  | _=>none:=rfl
@[simp] theorem Akk(f:FE)(δ:UE)(L:UH):Ak6 f δ L=(f δ L).bind fun p=>match p.1 with | .ref n=>(Ap p.2 n).map fun l=>(.ref p.2.length,p.2++[.lst l.reverse]) | .tup l=>some (.tup l.reverse,p.2) | _=>none:=rfl
@[simp] theorem Y0(g:FA)(δ:UE)(L:UH):Lf g δ L=(g δ L).bind fun p=>match p.1 with
  | [.int i,.int j]=>if (-(2 ^ 62)≤i∧i < 2 ^ 62)∧(-(2 ^ 62)≤j∧j < 2 ^ 62) then some (.seq (Ch i (j - i).toNat),p.2) else none
  | _=>none:=by first | rfl | (unfold Lf;rfl)
theorem N7{it:IU}{g:FG}{tt:Option FT}{fe:FE}{us:List U}(P:Nat→List U→UE→UH→Prop)(hat:∀ k acc δ L,k≤us.length→P k acc δ L→it.at k L=some us[k]?)
    (step:∀ k u acc δ L,us[k]? = some u→P k acc δ L→∃ δ1 L1,g u δ L=some (δ1,L1)∧∃ b L2,Ic tt δ1 L1=some (b,L2)∧(b=true→∃ r L3,fe δ1 L2=some (r,L3)∧acc.length < 16777216∧P (k+1) (acc++[r]) δ1 L3)∧(b=false→P (k+1) acc δ1 L2)) :
    ∀ (m k:Nat) (acc:List U) (δ:UE) (L:UH),us.length < m+k→k≤us.length→P k acc δ L→∃ ys δ' L',Mc it g tt fe m k acc δ L=some (ys,L')∧P us.length ys δ' L'
  | 0,k,acc,δ,L,h1,h2,_=>by omega
  | m+1,k,acc,δ,L,h1,h2,hP=>by
    have hk:=hat k acc δ L h2 hP
    unfold Mc
    rw[hk]
    cases hu:us[k]? with
    | none=>
      have:k=us.length:=by have:=List.getElem?_eq_none_iff.mp hu;omega
      subst this
      exact ⟨acc,δ,L,rfl,hP⟩
    | some u=>
      have hlt:k < us.length:=(List.getElem?_eq_some_iff.mp hu).1
      obtain ⟨δ1,L1,e1,b,L2,e2,h3,h4⟩:=step k u acc δ L hu hP
      cases b with
      | true=>
        obtain ⟨r,L3,e3,hl,hP2⟩:=h3 rfl
        obtain ⟨ys,δ',L',e4,hP3⟩:=N7 P hat step m (k+1) (acc++[r]) δ1 L3 (by omega) (by omega) hP2
        refine ⟨ys,δ',L',?_,hP3⟩
        have hz:decide (acc.length < sizeLine)=true:=decide_eq_true (by unfold sizeLine;omega)
        simp only[e1,Option.bind_some,e2,e3,if_true,hz,e4]
      | false=>
        obtain ⟨ys,δ',L',e4,hP3⟩:=N7 P hat step m (k+1) acc δ1 L2 (by omega) (by omega) (h4 rfl)
        refine ⟨ys,δ',L',?_,hP3⟩
        simp only[e1,Option.bind_some,e2,e4,Bool.false_eq_true,if_false]
theorem Afv{ix:List (Option Nat)}{fi:FI}{it:IU}{g:FG}{tt:Option FT}{fe:FE}{us:List U}{δ:UE}{L L0:UH}(P:Nat→List U→UE→UH→Prop)(hi:fi δ L=some (it,L0))(hsz:us.length≤it.size L0)(h0:P 0 [] (J1 ix δ) L0)
    (hat:∀ k acc δ L,k≤us.length→P k acc δ L→it.at k L=some us[k]?)
    (step:∀ k u acc δ L,us[k]? = some u→P k acc δ L→∃ δ1 L1,g u δ L=some (δ1,L1)∧∃ b L2,Ic tt δ1 L1=some (b,L2)∧(b=true→∃ r L3,fe δ1 L2=some (r,L3)∧acc.length < 16777216∧P (k+1) (acc++[r]) δ1 L3)∧(b=false→P (k+1) acc δ1 L2)) :
    ∃ ys δ' L',Df ix fi g tt fe δ L=some (.ref L'.length,L'++[.lst ys])∧P us.length ys δ' L':=by
  obtain ⟨ys,δ',L',e,h⟩:=N7 P hat step (it.size L0+1) 0 [] (J1 ix δ) L0 (by omega) (by omega) h0
  refine ⟨ys,δ',L',?_,h⟩
  unfold Df
  simp only[hi,Option.bind_some,e,Option.map_some]
noncomputable def enU(us:List U):List U:=us.mapIdx fun k u=>.tup [.int k,u]
theorem Ahq{n k:Nat}{L:UH}{us:List U}(h:Ap L n=some us):(IU.enm n).at k L=some (enU us)[k]?:=by
  show (Ap L n).map _=_
  rw[h]
  simp[enU]
theorem Aav{n:Nat}{L:UH}{us:List U}(h:Ap L n=some us):(IU.enm n).size L=(enU us).length:=by
  show (match Ap L n with | some us=>us.length | none=>0)=_
  rw[h];simp[enU]
theorem Ek{β:Type}{ix:List (Option Nat)}{fi:FI}{it:IU}{g:FG}{tt:Option FT}{fe:FE}{δ:UE}{L L0:UH}(as:List β)(rep:β→U)(f:β→Bool)(e:β→U)(E:UE→Prop)(hi:fi δ L=some (it,L0))(hsz:as.length≤it.size L0)(hl:as.length < 16777216)(h0:E (J1 ix δ))
    (hat:∀ k x,it.at k (L0++x)=some (as.map rep)[k]?)
    (step:∀ (a:β) δ x,a∈as→E δ→∃ δ1,g (rep a) δ (L0++x)=some (δ1,L0++x)∧E δ1∧∃ y,Ic tt δ1 (L0++x)=some (f a,L0++x++y)∧(f a=true→∃ z,fe δ1 (L0++x++y)=some (e a,L0++x++y++z))) :
    ∃ x,Df ix fi g tt fe δ L=some (.ref (L0++x).length,L0++x++[.lst ((as.filter f).map e)]):=by
  obtain ⟨ys,δ',L',e1,⟨h1,h2,x,rfl⟩,h3⟩:=Afv (us:=as.map rep) (ix:=ix) (tt:=tt) (g:=g) (fe:=fe) (δ:=δ) (fun k acc δ L=>(acc=((as.take k).filter f).map e∧E δ∧∃ x,L=L0++x)∧acc.length≤k) hi (by simpa using hsz) ⟨⟨rfl,h0,[],by simp⟩,by simp⟩
    (fun k acc δ L _ ⟨⟨_,_,x,hx⟩,_⟩=>by rw[hx];exact hat k x)
    (fun k u acc δ L hu ⟨⟨ha,hE,x,hx⟩,hlen⟩=>by
      subst hx
      rw[List.getElem?_map] at hu
      obtain ⟨a,hk,rfl⟩:=Option.map_eq_some_iff.mp hu
      have hk':=(List.getElem?_eq_some_iff.mp hk).1
      obtain ⟨δ1,g1,E1,y,t1,r1⟩:=step a δ x (List.mem_of_getElem? hk) hE
      have ht:as.take (k+1)=as.take k++[a]:=by
        rw[List.take_add_one,hk];rfl
      refine ⟨δ1,_,g1,f a,_,t1,fun hf=>?_,fun hf=>?_⟩
      · obtain ⟨z,q⟩:=r1 hf
        refine ⟨_,_,q,by omega,⟨?_,E1,x++y++z,by simp⟩,by simp;omega⟩
        rw[ha,ht];simp[hf]
      · refine ⟨⟨?_,E1,x++y,by simp⟩,by omega⟩
        rw[ha,ht];simp[hf])
  refine ⟨x,?_⟩
  rw[e1,h1]
  simp
theorem J7{L x:UH}{n:Nat}{us:List U}(h:Ap L n=some us):Ap (L++x) n=some us:=by
  unfold Ap at h ⊢
  cases hn:L[n]? with
  | none=>rw[hn] at h;cases h
  | some o=>rw[List.getElem?_append_left (List.getElem?_eq_some_iff.mp hn).1,hn];rw[hn] at h;exact h
noncomputable def Pl:Nat→U→Prop
  | _,.non=>True
  | _,.int _=>True
  | _,.str x=>PyData.strOk x=true
  | n+1,.tup l=>∀ u∈l,Pl n u
  | _,_=>False
mutual
noncomputable def pd:U→PyData
  | .non=>.none
  | .bl b=>.bool b
  | .int i=>.int i
  | .str x=>.str x
  | .tup l=>.tuple (pds l)
  | .ref _=>.none
noncomputable def pds:List U→List PyData
  | []=>[]
  | u::r=>pd u::pds r
end
theorem Kp{n:Nat}{l:List U}:Pl (n+1) (.tup l)↔∀ u∈l,Pl n u:=by rw[Pl]
theorem Nz{L:UH}{n m:Nat}(ih:∀ u,Pl n u→toP L m u=some (pd u)):∀ l:List U,(∀ u∈l,Pl n u)→mapO (toP L m) l=some (pds l)
  | [],_=>rfl
  | u::r,h=>by
    simp only[mapO,ih u (h u (List.mem_cons_self ..)),Nz ih r (fun x hx=>h x (List.mem_cons_of_mem _ hx)),Option.bind_some,Option.map_some,pds]
theorem Pp(L:UH):∀ (n m:Nat) (u:U),n < m→Pl n u→toP L m u=some (pd u)
  | n,0,u,h,_=>by omega
  | n,m+1,.non,_,_=>rfl
  | n,m+1,.int _,_,_=>rfl
  | n,m+1,.str _,_,_=>rfl
  | n,m+1,.bl _,_,h=>by cases n <;> exact absurd h (by simp[Pl])
  | n,m+1,.ref _,_,h=>by cases n <;> exact absurd h (by simp[Pl])
  | 0,m+1,.tup l,_,h=>absurd h (by simp[Pl])
  | n+1,m+1,.tup l,hm,h=>by
    have:=Nz (L:=L) (n:=n) (m:=m) (fun u hu=>Pp L n m u (by omega) hu) l (Kp.mp h)
    show (mapO (toP L m) l).map PyData.tuple=_
    rw[this]
    rfl
theorem Nx{n:Nat}(ih:∀ u,Pl n u→PyData.canLay0 (pd u)=true∧PyData.depth (pd u)≤n):∀ l:List U,(∀ u∈l,Pl n u)→PyData.canLayAll0 (pds l)=true∧PyData.depthAll (pds l)≤n
  | [],_=>⟨rfl,Nat.zero_le _⟩
  | u::r,h=>by
    obtain ⟨a1,a2⟩:=ih u (h u (List.mem_cons_self ..))
    obtain ⟨b1,b2⟩:=Nx ih r (fun x hx=>h x (List.mem_cons_of_mem _ hx))
    refine ⟨by simp[pds,PyData.canLayAll0,a1,b1],?_⟩
    simp only[pds,PyData.depthAll]
    omega
theorem Po:∀ (n:Nat) (u:U),Pl n u→PyData.canLay0 (pd u)=true∧PyData.depth (pd u)≤n
  | n,.non,_=>by simp[pd,PyData.canLay0,PyData.depth]
  | n,.int _,_=>by simp[pd,PyData.canLay0,PyData.depth]
  | n,.str x,h=>by
    have h':PyData.strOk x=true:=by cases n <;> simpa[Pl] using h
    simp[pd,PyData.canLay0,PyData.depth,h']
  | n,.bl _,h=>by cases n <;> exact absurd h (by simp[Pl])
  | n,.ref _,h=>by cases n <;> exact absurd h (by simp[Pl])
  | 0,.tup l,h=>absurd h (by simp[Pl])
  | n+1,.tup l,h=>by
    obtain ⟨a,b⟩:=Nx (fun u hu=>Po n u hu) l (Kp.mp h)
    simp only[pd,PyData.canLay0,PyData.depth]
    exact ⟨a,by omega⟩
theorem Om{n:Nat}(ih:∀ u w,Pl n u→Pl n w→(PyData.eqv (pd u) (pd w)=true↔u=w)):∀ l m:List U,(∀ u∈l,Pl n u)→(∀ u∈m,Pl n u)→(PyData.eqvAll (pds l) (pds m)=true↔l=m)
  | [],[],_,_=>by simp[pds,PyData.eqvAll]
  | [],_::_,_,_=>by simp[pds,PyData.eqvAll]
  | _::_,[],_,_=>by simp[pds,PyData.eqvAll]
  | u::l,w::m,h1,h2=>by
    simp only[pds,PyData.eqvAll,Bool.and_eq_true,ih u w (h1 u (List.mem_cons_self ..)) (h2 w (List.mem_cons_self ..)),Om ih l m (fun x hx=>h1 x (List.mem_cons_of_mem _ hx)) (fun x hx=>h2 x (List.mem_cons_of_mem _ hx)),List.cons.injEq]
theorem W4:∀ (n:Nat) (u w:U),Pl n u→Pl n w→(PyData.eqv (pd u) (pd w)=true↔u=w)
  | n,.bl _,_,h,_=>by cases n <;> exact absurd h (by simp[Pl])
  | n,.ref _,_,h,_=>by cases n <;> exact absurd h (by simp[Pl])
  | n,_,.bl _,_,h=>by cases n <;> exact absurd h (by simp[Pl])
  | n,_,.ref _,_,h=>by cases n <;> exact absurd h (by simp[Pl])
  | 0,.tup _,_,h,_=>absurd h (by simp[Pl])
  | 0,_,.tup _,_,h=>absurd h (by simp[Pl])
  | n+1,.tup l,.tup m,h1,h2=>by
    simp only[pd,PyData.eqv,U.tup.injEq]
    exact Om (fun u w=>W4 n u w) l m (Kp.mp h1) (Kp.mp h2)
  | n,.non,.non,_,_=>by simp[pd,PyData.eqv]
  | n,.non,.int _,_,_=>by simp[pd,PyData.eqv]
  | n,.non,.str _,_,_=>by simp[pd,PyData.eqv]
  | n+1,.non,.tup _,_,_=>by simp[pd,PyData.eqv]
  | n,.int _,.non,_,_=>by simp[pd,PyData.eqv]
  | n,.int _,.int _,_,_=>by simp[pd,PyData.eqv]
  | n,.int _,.str _,_,_=>by simp[pd,PyData.eqv]
  | n+1,.int _,.tup _,_,_=>by simp[pd,PyData.eqv]
  | n,.str _,.non,_,_=>by simp[pd,PyData.eqv]
  | n,.str _,.int _,_,_=>by simp[pd,PyData.eqv]
  | n,.str _,.str _,_,_=>by simp[pd,PyData.eqv]
  | n+1,.str _,.tup _,_,_=>by simp[pd,PyData.eqv]
  | n+1,.tup _,.non,_,_=>by simp[pd,PyData.eqv]
  | n+1,.tup _,.int _,_,_=>by simp[pd,PyData.eqv]
  | n+1,.tup _,.str _,_,_=>by simp[pd,PyData.eqv]
noncomputable def eqB(u w:U):Bool:=PyData.eqv (pd u) (pd w)
theorem R7{u w:U}(h1:Pl 6 u)(h2:Pl 6 w):eqB u w=true↔u=w:=W4 6 u w h1 h2
theorem Jx{u:U}(h1:Pl 6 u):eqB u u=true:=(R7 h1 h1).mpr rfl
theorem Aay{u w:U}(L:UH)(h1:Pl 6 u)(h2:Pl 6 w):eqP u w L=some (eqB u w):=by
  obtain ⟨a1,a2⟩:=Po 6 u h1
  obtain ⟨b1,b2⟩:=Po 6 w h2
  have s1:SeqAt.shaped (pd u)=true:=by unfold SeqAt.shaped;rw[a1];simp;omega
  have s2:SeqAt.shaped (pd w)=true:=by unfold SeqAt.shaped;rw[b1];simp;omega
  unfold eqP
  simp only[Pp L 6 8 u (by decide) h1,Pp L 6 8 w (by decide) h2,Option.bind_some,s1,s2,and_self,if_true,eqB]
theorem Oz{u w:U}(L:UH)(h1:Pl 6 u)(h2:Pl 6 w):Eh u w L=some (.bl (eqB u w),L):=by unfold Eh;rw[Aay L h1 h2];rfl
theorem Lp{u w:U}(L:UH)(h1:Pl 6 u)(h2:Pl 6 w):C4 u w L=some (.bl (!eqB u w),L):=by unfold C4;rw[Aay L h1 h2];rfl
noncomputable def Aej(us ws:List U):Bool:=PyData.eqvAll (pds us) (pds ws)
theorem Ae4{n m:Nat}{us ws:List U}{L:UH}(e1:Ap L n=some us)(e2:Ap L m=some ws)(h1:∀ u∈us,Pl 6 u)(h2:∀ u∈ws,Pl 6 u):eqP (.ref n) (.ref m) L=some (Aej us ws):=by
  obtain ⟨a1,a2⟩:=Nx (Po 6) us h1
  obtain ⟨b1,b2⟩:=Nx (Po 6) ws h2
  have s1:SeqAt.shaped (.list (pds us))=true:=by unfold SeqAt.shaped;simp[PyData.canLay0,PyData.depth,a1];omega
  have s2:SeqAt.shaped (.list (pds ws))=true:=by unfold SeqAt.shaped;simp[PyData.canLay0,PyData.depth,b1];omega
  have t1:toP L 8 (.ref n)=some (.list (pds us)):=by
    show (Ap L n).bind (fun l=>(mapO (toP L 7) l).map PyData.list)=_
    rw[e1]
    simp only[Option.bind_some,Nz (fun u hu=>Pp L 6 7 u (by decide) hu) us h1,Option.map_some]
  have t2:toP L 8 (.ref m)=some (.list (pds ws)):=by
    show (Ap L m).bind (fun l=>(mapO (toP L 7) l).map PyData.list)=_
    rw[e2]
    simp only[Option.bind_some,Nz (fun u hu=>Pp L 6 7 u (by decide) hu) ws h2,Option.map_some]
  unfold eqP
  simp only[t1,t2,Option.bind_some,s1,s2,and_self,if_true,PyData.eqv,Aej]
theorem Yd{n m:Nat}{us ws:List U}{L:UH}(e1:Ap L n=some us)(e2:Ap L m=some ws)(h1:∀ u∈us,Pl 6 u)(h2:∀ u∈ws,Pl 6 u):Eh (.ref n) (.ref m) L=some (.bl (Aej us ws),L):=by unfold Eh;rw[Ae4 e1 e2 h1 h2];rfl
theorem Pl.int(n:Nat)(i:Int):Pl n (.int i):=by cases n <;> exact trivial
theorem Aep{g:FA}{δ:UE}{L L':UH}{j:Int}(hg:g δ L=some ([.int j],L'))(h0:0≤j)(h1:j < 1000000):Ia g δ L=some (.seq (Ch 0 j.toNat),L'):=by
  rw[Ac1,hg]
  simp only[Option.bind_some]
  rw[if_pos ⟨by omega,by omega⟩]
theorem Js{g:FA}{δ:UE}{L L':UH}{n:Nat}(hg:g δ L=some ([.int n],L'))(h1:n < 1000000):Ia g δ L=some (.seq (Ch 0 n),L'):=by
  have:=Aep hg (by omega) (by omega)
  rwa [Int.toNat_natCast] at this
end MR
namespace Lw
open PySem L2 MR
theorem Qi{it:IU}{g:FG}{body:FS}{us:List U}(P:Nat→UE→UH→Prop)(R:Nat→UH→Prop)(stop:Nat→Bool)(val:Nat→U)(hat:∀ k δ L,k≤us.length→P k δ L→it.at k L=some us[k]?)
    (step:∀ k u δ L,us[k]? = some u→P k δ L→∃ δ1 L1,g u δ L=some (δ1,L1)∧(stop k=true→∃ L2,body δ1 L1=some (.rt (val k),L2)∧R k L2)∧(stop k=false→∃ δ2 L2,body δ1 L1=some (.nx δ2,L2)∧P (k+1) δ2 L2)) :
    ∀ (m k:Nat) (δ:UE) (L:UH),us.length < m+k→k≤us.length→P k δ L →
      (∃ j,k≤j∧j < us.length∧stop j=true∧(∀ i,k≤i→i < j→stop i=false)∧∃ L',Jm it g body m k δ L=some (.rt (val j),L')∧R j L')∨((∀ i,k≤i→i < us.length→stop i=false)∧∃ δ' L',Jm it g body m k δ L=some (.nx δ',L')∧P us.length δ' L')
  | 0,k,δ,L,h,hk,_=>by omega
  | m+1,k,δ,L,h,hk,hP=>by
    have ha:=hat k δ L hk hP
    unfold Jm
    rw[ha]
    by_cases hlt:k < us.length
    · rw[List.getElem?_eq_getElem hlt]
      obtain ⟨δ1,L1,e1,s1,s2⟩:=step k _ δ L (List.getElem?_eq_getElem hlt) hP
      simp only[e1,Option.bind_some]
      cases hs:stop k with
      | true=>
        obtain ⟨L2,e2,r⟩:=s1 hs
        exact .inl ⟨k,Nat.le_refl _,hlt,hs,fun i h1 h2=>by omega,L2,by rw[e2];rfl,r⟩
      | false=>
        obtain ⟨δ2,L2,e2,p2⟩:=s2 hs
        have ih:=Qi P R stop val hat step m (k+1) δ2 L2 (by omega) (by omega) p2
        simp only[e2,Option.bind_some]
        rcases ih with ⟨j,h1,h2,h3,h4,h5⟩ | ⟨h1,h2⟩
        · refine .inl ⟨j,by omega,h2,h3,fun i i1 i2=>?_,h5⟩
          by_cases q:i=k
          · rw[q];exact hs
          · exact h4 i (by omega) i2
        · refine .inr ⟨fun i i1 i2=>?_,h2⟩
          by_cases q:i=k
          · rw[q];exact hs
          · exact h1 i (by omega) i2
    · have:k=us.length:=by omega
      subst this
      rw[List.getElem?_eq_none (Nat.le_refl _)]
      exact .inr ⟨fun i i1 i2=>by omega,δ,L,rfl,hP⟩
theorem Ad5{fi:FI}{g:FG}{body:FS}{us:List U}{it:IU}{δ:UE}{L L0:UH}(P:Nat→UE→UH→Prop)(R:Nat→UH→Prop)(stop:Nat→Bool)(val:Nat→U)(hi:fi δ L=some (it,L0))(hsz:us.length≤it.size L0)(hat:∀ k δ L,k≤us.length→P k δ L→it.at k L=some us[k]?)(h0:P 0 δ L0)
    (step:∀ k u δ L,us[k]? = some u→P k δ L→∃ δ1 L1,g u δ L=some (δ1,L1)∧(stop k=true→∃ L2,body δ1 L1=some (.rt (val k),L2)∧R k L2)∧(stop k=false→∃ δ2 L2,body δ1 L1=some (.nx δ2,L2)∧P (k+1) δ2 L2)) :
      (∃ j,j < us.length∧stop j=true∧(∀ i,i < j→stop i=false)∧∃ L',Hn fi g body δ L=some (.rt (val j),L')∧R j L')∨((∀ i,i < us.length→stop i=false)∧∃ δ' L',Hn fi g body δ L=some (.nx δ',L')∧P us.length δ' L'):=by
  have:=Qi P R stop val hat step (it.size L0+1) 0 δ L0 (by omega) (by omega) h0
  unfold Hn
  rw[hi]
  simp only[Option.bind_some]
  rcases this with ⟨j,h1,h2,h3,h4,h5⟩ | ⟨h1,h2⟩
  · exact .inl ⟨j,h2,h3,fun i q=>h4 i (by omega) q,h5⟩
  · exact .inr ⟨fun i q=>h1 i (by omega) q,h2⟩
theorem Ts{fi:FI}{g:FG}{body:FS}{us:List U}{δ:UE}{L L0:UH}(P:Nat→UE→UH→Prop)(R:Nat→UH→Prop)(stop:Nat→Bool)(val:Nat→U)(hi:fi δ L=some (.seq us,L0))(h0:P 0 δ L0)
    (step:∀ k u δ L,us[k]? = some u→P k δ L→∃ δ1 L1,g u δ L=some (δ1,L1)∧(stop k=true→∃ L2,body δ1 L1=some (.rt (val k),L2)∧R k L2)∧(stop k=false→∃ δ2 L2,body δ1 L1=some (.nx δ2,L2)∧P (k+1) δ2 L2)) :
      (∃ j,j < us.length∧stop j=true∧(∀ i,i < j→stop i=false)∧∃ L',Hn fi g body δ L=some (.rt (val j),L')∧R j L')∨((∀ i,i < us.length→stop i=false)∧∃ δ' L',Hn fi g body δ L=some (.nx δ',L')∧P us.length δ' L'):=
  Ad5 P R stop val hi (by simp[IU.size]) (fun k δ L _ _=>rfl) h0 step
structure Ex(d:Nat)(L L':UH):Prop where
  le:L.length≤L'.length
  at_:∀ i,i < L.length→i≠d→L'[i]? = L[i]?
theorem Ex.refl(d:Nat)(L:UH):Ex d L L:=⟨Nat.le_refl _,fun _ _ _=>rfl⟩
theorem Ex.trans{d:Nat}{L L1 L2:UH}(a:Ex d L L1)(b:Ex d L1 L2):Ex d L L2:=
  ⟨Nat.le_trans a.le b.le,fun i h1 h2=>by rw[b.at_ i (Nat.lt_of_lt_of_le h1 a.le) h2,a.at_ i h1 h2]⟩
theorem Ex.new(d:Nat)(L:UH)(x:List HU):Ex d L (L++x):=⟨by simp,fun i h _=>by rw[List.getElem?_append_left h]⟩
theorem Ex.put(d:Nat)(L:UH)(o:HU):Ex d L (L.set d o):=⟨by simp,fun i _ h=>by rw[List.getElem?_set_ne (Ne.symm h)]⟩
theorem Ex.set{d:Nat}{L L':UH}(h:Ex d L L'){n:Nat}(hn:L.length≤n)(o:HU):Ex d L (L'.set n o):=
  ⟨by rw[List.length_set];exact h.le,fun i h1 h2=>by rw[List.getElem?_set_ne (by omega)];exact h.at_ i h1 h2⟩
theorem Ex.get{d:Nat}{L L':UH}{i:Nat}{o:HU}(h:Ex d L L')(e:L[i]? = some o)(hi:i≠d):L'[i]? = some o:=by
  rw[h.at_ i (List.getElem?_eq_some_iff.mp e).1 hi];exact e
noncomputable def Gw(L L':UH):Prop:=∃ x,L'=L++x
theorem Gw.refl(L:UH):Gw L L:=⟨[],by simp⟩
theorem Gw.trans{L L1 M:UH}(a:Gw L L1)(b:Gw L1 M):Gw L M:=by obtain ⟨x,rfl⟩:=a;obtain ⟨y,rfl⟩:=b;exact ⟨x++y,by simp⟩
theorem Gw.new(L x:UH):Gw L (L++x):=⟨x,rfl⟩
theorem Gw.set{L L':UH}(h:Gw L L'){n:Nat}(hn:L.length≤n)(o:HU):Gw L (L'.set n o):=by
  obtain ⟨x,rfl⟩:=h
  exact ⟨x.set (n - L.length) o,by rw[List.set_append_right _ _ hn]⟩
theorem Gw.le{L L':UH}(h:Gw L L'):L.length≤L'.length:=by obtain ⟨x,rfl⟩:=h;simp
theorem Gw.get{L L':UH}(h:Gw L L'){n:Nat}{o:HU}(e:L[n]? = some o):L'[n]? = some o:=by
  obtain ⟨x,rfl⟩:=h
  rw[List.getElem?_append_left (List.getElem?_eq_some_iff.mp e).1];exact e
theorem Gw.seq{L L':UH}(h:Gw L L'){n:Nat}{us:List U}(e:Ap L n=some us):Ap L' n=some us:=by
  obtain ⟨x,rfl⟩:=h;exact J7 e
theorem Gw.ex{L L':UH}(h:Gw L L')(d:Nat):Ex d L L':=by obtain ⟨x,rfl⟩:=h;exact Ex.new d L x
theorem Qv{L:UH}{n:Nat}{l:List U}(u:U)(h:L[n]? = some (.lst l))(hl:l.length < 16777216):G5 (.ref n) [u] L=some (.non,L.set n (.lst (l++[u]))):=by
  show (E6 L n).bind _=_
  rw[E5 h]
  simp only[Option.bind_some]
  rw[if_pos (decide_eq_true (by unfold sizeLine;omega))]
theorem W5{L:UH}{n:Nat}{l:List U}(h:L[n]? = some (.lst l)):tyU "list" (.ref n) L=true:=by simp[tyU,h]
theorem Ad8{L:UH}{n:Nat}{l:List U}(h:L[n]? = some (.lst l)):semLen [.ref n] L=some (.int l.length,L):=by simp[semLen,lenU,A0 h]
theorem An{f g:FS}{δ δ':UE}{L L':UH}(h:f δ L=some (.nx δ',L')):Ay f g δ L=g δ' L':=by rw[fSeq_eq,h];rfl
theorem Ex.seq{d:Nat}{L L':UH}(h:Ex d L L'){n:Nat}{us:List U}(hn:n≠d)(e:Ap L n=some us):Ap L' n=some us:=by
  unfold Ap at e ⊢
  cases hq:L[n]? with
  | none=>rw[hq] at e;cases e
  | some o=>rw[h.get hq hn];rw[hq] at e;exact e
noncomputable def Ji:FS:=(Br (f2 Hw (f2 Bl (f2 Di (Ad 1) (fC (.int 48271))) (f2 Hw (Ad 2) (fC (.int 2147483629)))) (fC (.int 2147483647))) (gN 1))
noncomputable def Pg:FS:=(Ay (Br (Ax semLen (Ae (Ad 0) Ag)) (gN 1)) (Ay (Hn (Cq (Ad 0)) (gN 2) Ji) (B0 (Ad 1))))
noncomputable def E2:FN:=fnU 3 1 Pg
noncomputable def K9:FS:=(Ay (Br (f2 Bl (f2 Dh (Ad 0) (fC (.int 2))) (fC (.int 1))) (MR.gSub (Ad 0) (fC (.int 2)))) (Ay (Es (Ab6 (Be (f2 Eh (f2 Dh (Ad 0) (fC (.int 1))) (fC (.int 1)))) (Be (f2 K4 (f2 Dh (Ad 0) (fC (.int 0))) (fC (.int 0))))) (Ay (Br (f2 Hw (f2 Dh (Ad 0) (fC (.int 0))) (Ad 1)) (gN 2)) (Ay (Br (f2 Kx (f2 Dh (Ad 0) (fC (.int 0))) (Ad 1)) (MR.gSub (Ad 0) (fC (.int 0)))) (B0 (Ad 2)))) Co) (Ay (Br (f2 Hw (f2 Di (f2 Bl (f2 Bl (f2 Dh (Ad 0) (fC (.int 3))) (f2 Di (fC (.int 6997)) (f2 Dh (Ad 0) (fC (.int 2))))) (fC (.int 11))) (fC (.int 48271))) (fC (.int 2147483647))) (gN 3)) (Ay (Br (f2 Hw (f2 Di (f2 Hw (f2 Di (Ad 3) (Ad 3)) (fC (.int 2147483629))) (fC (.int 40692))) (fC (.int 2147483399))) (gN 3)) (B0 (f2 Hw (f2 Kx (Ad 3) (fC (.int 7))) (Ad 1)))))))
noncomputable def As:FN:=fnU 4 2 K9
noncomputable def Iw:FS:=(Ay (Es (Be (f2 Eh (Ad 1) (fC (.int 0)))) (B0 (f2 B8 (Bj 2 As (Ae (Ad 0) (Ae (fC (.int 4)) Ag))) (fC (.int 1)))) Co) (Ay (Es (Be (f2 Eh (Ad 1) (fC (.int 1)))) (B0 (f2 B8 (Bj 2 As (Ae (Ad 0) (Ae (fC (.int 41)) Ag))) (fC (.int 20)))) Co) (Ay (Br (f2 Dh (H9 (Ae (f2 Bl (f2 Di (Bj 2 As (Ae (Ad 0) (Ae (f2 Kw (fC (.int 10)) (fC (.int 5))) Ag))) (f2 Kw (fC (.int 10)) (fC (.int 5)))) (Bj 2 As (Ae (Ad 0) (Ae (f2 Kw (fC (.int 10)) (fC (.int 5))) Ag)))) (Ae (f2 B8 (f2 Kw (fC (.int 10)) (fC (.int 10))) (fC (.int 1))) Ag))) (Ax Mg (Ae (f2 Eh (Bj 2 As (Ae (Ad 0) (Ae (fC (.int 8)) Ag))) (fC (.int 0))) Ag))) (gN 2)) (B0 (f2 Di (f2 Dh (H9 (Ae (fC (.int 1)) (Ae (U0 (fC (.int 1))) Ag))) (Bj 2 As (Ae (Ad 0) (Ae (fC (.int 2)) Ag)))) (Ad 2))))))
noncomputable def Dp:FN:=fnU 3 2 Iw
noncomputable def Td:FS:=(Ay (Br (Ax Vv (Ae (Ad 0) (Ae (f2 B8 (fC (.int 0)) (Ad 0)) Ag))) (gN 1)) (B0 (H9 (Ae (Ad 1) (Ae (Ax Mg (Ae (f2 Ou (Ad 1) (f2 Kw (fC (.int 10)) (fC (.int 18)))) Ag)) (Ae (fC (.int 0)) (Ae (f2 Hw (Ad 0) (fC (.int 1999999913))) Ag)))))))
noncomputable def Lj:FN:=fnU 2 1 Td
structure Seed(L:UH)(d:Nat)(B:Int):Prop where
  ex:∃ (a b c e:Int),L[d]? = some (.lst [.int a,.int b,.int c,.int e])∧0≤a∧0≤c∧c≤B∧0≤e∧e < 1999999913
theorem Seed.lt{L:UH}{d:Nat}{B:Int}(h:Seed L d B):d < L.length:=by
  obtain ⟨a,b,c,e,h1,_⟩:=h.ex
  exact (List.getElem?_eq_some_iff.mp h1).1
theorem Seed.mono{L:UH}{d:Nat}{B B':Int}(h:Seed L d B)(hb:B≤B'):Seed L d B':=by
  obtain ⟨a,b,c,e,h1,h2,h3,h4,h5⟩:=h.ex
  exact ⟨a,b,c,e,h1,h2,h3,by omega,h5⟩
theorem Seed.new{L:UH}{d:Nat}{B:Int}(h:Seed L d B)(x:List HU):Seed (L++x) d B:=by
  obtain ⟨a,b,c,e,h1,h2⟩:=h.ex
  exact ⟨a,b,c,e,by rw[List.getElem?_append_left (List.getElem?_eq_some_iff.mp h1).1];exact h1,h2⟩
theorem Seed.set{L:UH}{d:Nat}{B:Int}(h:Seed L d B){n:Nat}(hn:n≠d)(o:HU):Seed (L.set n o) d B:=by
  obtain ⟨a,b,c,e,h1,h2⟩:=h.ex
  exact ⟨a,b,c,e,by rw[List.getElem?_set_ne hn];exact h1,h2⟩
theorem Seed.gw{L L':UH}{d:Nat}{B:Int}(h:Seed L d B)(g:Gw L L'):Seed L' d B:=by obtain ⟨x,rfl⟩:=g;exact h.new x
theorem draw_ok{L:UH}{d:Nat}{B many:Int}(D:Seed L d B)(hB:B≤1000000000000)(h0:0 < many)(h1:many < 1000000000000000) :
    ∃ r L',As [.ref d,.int many] L=some (.int r,L')∧0≤r∧r < many∧Seed L' d (B+1)∧Ex d L L':=by
  obtain ⟨a,b,c,e,hd,ha,hc0,hc1,he0,he1⟩:=D.ex
  have hdl:d < L.length:=(List.getElem?_eq_some_iff.mp hd).1
  have q1:=A0 hd
  have q2:=E5 hd
  have md:∀ x:Int,0≤x % many∧x % many < many:=fun x=>⟨Int.emod_nonneg _ (by omega),Int.emod_lt_of_pos _ h0⟩
  have i0:∀ (x0 x1 x2 x3:U),L2.atI [x0,x1,x2,x3] 0=some x0:=fun _ _ _ _=>rfl
  have i1:∀ (x0 x1 x2 x3:U),L2.atI [x0,x1,x2,x3] 1=some x1:=fun _ _ _ _=>rfl
  have i2:∀ (x0 x1 x2 x3:U),L2.atI [x0,x1,x2,x3] 2=some x2:=fun _ _ _ _=>rfl
  have i3:∀ (x0 x1 x2 x3:U),L2.atI [x0,x1,x2,x3] 3=some x3:=fun _ _ _ _=>rfl
  have j0:ixN 4 0=some 0:=rfl
  have j2:ixN 4 2=some 2:=rfl
  have set1:∀ us:List U,Ap (L.set d (.lst us)) d=some us∧E6 (L.set d (.lst us)) d=some us:=fun us=>by
    have:(L.set d (.lst us))[d]? = some (.lst us):=List.getElem?_set_self hdl
    exact ⟨A0 this,E5 this⟩
  have s1:=set1 [.int a,.int b,.int (c+1),.int e]
  have keep:∀ x:Int,0≤x→Seed (L.set d (.lst [.int x,.int b,.int (c+1),.int e])) d (B+1)∧Ex d L (L.set d (.lst [.int x,.int b,.int (c+1),.int e])):=fun x hx=>
    ⟨⟨x,b,c+1,e,List.getElem?_set_self hdl,hx,by omega,by omega,he0,he1⟩,Ex.put d L _⟩
  by_cases hb:b=1∧0 < a
  · obtain ⟨rfl,hap⟩:=hb
    refine ⟨a % many,L.set d (.lst [.int (a / many),.int 1,.int (c+1),.int e]),?_,(md a).1,(md a).2,(keep (a / many) (Int.ediv_nonneg (by omega) (by omega))).1,(keep (a / many) (Int.ediv_nonneg (by omega) (by omega))).2⟩
    simp[As,fnU,K9,q1,q2,i0,i1,i2,i3,j0,j2,s1,hap,h0,K0 h0 (by omega),List.replicate]
  · generalize hA:(e+6997 * (c+1)+11) * 48271 % 2147483647=A
    have hA0:0≤A∧A < 2147483647:=by rw[← hA];exact ⟨Int.emod_nonneg _ (by decide),Int.emod_lt_of_pos _ (by decide)⟩
    generalize hC:A * A % 2147483629 * 40692 % 2147483399=Cn
    have m1:Hh 6997 (c+1)=true:=Wp (by decide) (by decide)
    have m2:∀ x:Int,Hh x 48271=true:=fun x=>Kc (by decide) (by decide)
    have m3:Hh A A=true:=Wp (by omega) (by omega)
    have m4:∀ x:Int,Hh x 40692=true:=fun x=>Kc (by decide) (by decide)
    have d7:∀ x:Int,Nc x 7=true:=fun x=>K0 (by decide) (by decide)
    refine ⟨Cn / 7 % many,L.set d (.lst [.int a,.int b,.int (c+1),.int e]),?_,(md _).1,(md _).2,(keep a ha).1,(keep a ha).2⟩
    by_cases hb1:b=1
    · have hna:¬ 0 < a:=fun z=>hb ⟨hb1,z⟩
      simp[As,fnU,K9,q1,q2,i0,i1,i2,i3,j0,j2,s1,hb1,hna,h0,m1,m2,m3,m4,d7,hA,hC,List.replicate]
      subst hb1
      simp[q1,q2,i0,i1,i2,i3,j2,s1,hna,h0,m1,m2,m3,m4,d7,hA,hC]
    · simp[As,fnU,K9,q1,q2,i0,i1,i2,i3,j0,j2,s1,hb1,h0,m1,m2,m3,m4,d7,hA,hC,List.replicate]
theorem Ae0(cell:Int)(L:UH):∃ L',Lj [.int cell] L=some (.ref L.length,L')∧Seed L' L.length 0∧Gw L L':=by
  have hmax:Vv [.int cell,.int (0 - cell)] L=some (.int (if 0 - cell > cell then 0 - cell else cell),L):=rfl
  generalize hn:(if 0 - cell > cell then 0 - cell else cell)=n at hmax
  have hn0:0≤n:=by rw[← hn];split <;> omega
  have p18:Qd 10 18=true:=rfl
  have hint:∀ k:Bool,Mg [.bl k] L=some (.int (if k then 1 else 0),L):=fun _=>rfl
  refine ⟨L++[.lst [.int n,.int (if decide (1000000000000000000≤n)=true then 1 else 0),.int 0,.int (cell % 1999999913)]],?_,⟨n,(if decide (1000000000000000000≤n)=true then 1 else 0),0,cell % 1999999913,by simp,hn0,by omega,by omega,Int.emod_nonneg _ (by decide),Int.emod_lt_of_pos _ (by decide)⟩,Gw.new _ _⟩
  simp only[Int.zero_sub] at hmax
  simp[Lj,fnU,Td,hmax,p18,hint,Gd,List.replicate]
theorem Yh{L:UH}{n:Nat}(ns:List Int)(hs:Ap L n=some (ns.map U.int)):∃ r,E2 [.ref n] L=some (.int r,L):=by
  obtain ⟨δ',L',e,hP⟩:=Xa (us:=ns.map U.int) (n:=n) (L0:=L) (L:=L) (δ:=[some (.ref n),some (.int ns.length),none]) (body:=Ji) (g:=gN 2) (fi:=Cq (Ad 0))
    (fun _ δ' L'=>∃ y1 y2,δ'=[some (.ref n),some (.int y1),y2]∧L'=L)
    (by simp[Qy hs]) ⟨ns.length,none,rfl,rfl⟩
    (fun k δ L' ⟨_,_,_,hL⟩=>by rw[hL];exact hs)
    (fun k u δ L' hu ⟨y1,y2,hδ,hL⟩=>by
      subst hδ;subst hL
      rw[List.getElem?_map] at hu
      obtain ⟨c,_,rfl⟩:=Option.map_eq_some_iff.mp hu
      refine ⟨_,_,rfl,[some (.ref n),some (.int ((y1 * 48271+c % 2147483629) % 2147483647)),some (.int c)],_,.inl ?_,_,_,rfl,rfl⟩
      have m1:Hh y1 48271=true:=Kc (by decide) (by decide)
      simp[Ji,m1])
  obtain ⟨y1,y2,hδ,hL⟩:=hP
  subst hL
  refine ⟨y1,?_⟩
  have hlen:semLen [.ref n] L'=some (.int ns.length,L'):=by simp[semLen,lenU,hs]
  rw[hδ] at e
  simp[E2,fnU,Pg,-N1,hlen,e,List.replicate]
theorem Ag5(k:Bool)(L:UH):Mg [.bl k] L=some (.int (if k then 1 else 0),L):=rfl
theorem Oa{L:UH}{d:Nat}{B way:Int}(D:Seed L d B)(hB:B≤100000000000)(hw:way=0∨way=1∨way=2) :
    ∃ r L',Dp [.ref d,.int way] L=some (.int r,L')∧-9999999999≤r∧r≤9999999999∧Seed L' d (B+4)∧Ex d L L':=by
  rcases hw with rfl | rfl | rfl
  · obtain ⟨r,L1,e1,a1,b1,D1,x1⟩:=draw_ok (many:=4) D (by omega) (by decide) (by decide)
    exact ⟨r - 1,L1,by simp[Dp,fnU,Iw,e1,List.replicate],by omega,by omega,D1.mono (by omega),x1⟩
  · obtain ⟨r,L1,e1,a1,b1,D1,x1⟩:=draw_ok (many:=41) D (by omega) (by decide) (by decide)
    exact ⟨r - 20,L1,by simp[Dp,fnU,Iw,e1,List.replicate],by omega,by omega,D1.mono (by omega),x1⟩
  · obtain ⟨r1,L1,e1,a1,b1,D1,x1⟩:=draw_ok (many:=100000) D (by omega) (by decide) (by decide)
    obtain ⟨r2,K2,e2,a2,b2,D2,x2⟩:=draw_ok (many:=100000) D1 (by omega) (by decide) (by decide)
    obtain ⟨r3,L3,e3,a3,b3,D3,x3⟩:=draw_ok (many:=8) (D2.new [HU.lst [.int (r1 * 100000+r2),.int 9999999999]]) (by omega) (by decide) (by decide)
    have hdl:=D2.lt
    have q3:Ap L3 K2.length=some [.int (r1 * 100000+r2),.int 9999999999]:=A0 (x3.get (i:=K2.length) (by simp) (by omega))
    have hg:∃ g:Int,L2.atI [U.int (r1 * 100000+r2),.int 9999999999] (if (r3 == 0)=true then 1 else 0)=some (.int g)∧0≤g∧g≤9999999999:=by
      by_cases h:r3=0
      · exact ⟨9999999999,by simp[h];rfl,by decide,by decide⟩
      · exact ⟨r1 * 100000+r2,by simp[h];rfl,by omega,by omega⟩
    obtain ⟨g,hg,g0,g1⟩:=hg
    obtain ⟨r4,L4,e4,a4,b4,D4,x4⟩:=draw_ok (many:=2) (D3.new [HU.lst [.int 1,.int (-1)]]) (by omega) (by decide) (by decide)
    have q4:Ap L4 L3.length=some [.int 1,.int (-1)]:=A0 (x4.get (i:=L3.length) (by simp) (by have:=D3.lt;omega))
    have hs:∃ sg:Int,L2.atI [U.int 1,.int (-1)] r4=some (.int sg)∧(sg=1∨sg = -1):=by
      have:r4=0∨r4=1:=by omega
      rcases this with rfl | rfl
      · exact ⟨1,rfl,.inl rfl⟩
      · exact ⟨-1,rfl,.inr rfl⟩
    obtain ⟨sg,hs,hsg⟩:=hs
    have p5:Qd 10 5=true:=rfl
    have p10:Qd 10 10=true:=rfl
    have m1:Hh r1 100000=true:=Kc (by decide) (by decide)
    have m2:Hh sg g=true:=Kc (by omega) (by omega)
    refine ⟨sg * g,L4,?_,by rcases hsg with rfl | rfl <;> omega,by rcases hsg with rfl | rfl <;> omega,D4.mono (by omega),x1.trans (x2.trans ((Ex.new d K2 _).trans (x3.trans ((Ex.new d L3 _).trans x4))))⟩
    simp only[beq_iff_eq] at hg
    simp[Dp,fnU,Iw,p5,p10,e1,m1,e2,Gd,e3,Ag5,q3,hg,e4,q4,hs,m2,List.replicate]
noncomputable def Aeh:Nat→Nat→Nat
  | 0,_=>1
  | f+1,k=>if k % 2=0 then 2 * Aeh f (k / 2) else 1
noncomputable def low(k:Nat):Nat:=Aeh 8 k
noncomputable def vis:Nat→Nat→Nat→Bool
  | 0,_,_=>false
  | f+1,j,i=>if i=j then true else if j < i then vis f (j+low j) i else false
theorem S3:∀ f k,1≤Aeh f k
  | 0,_=>Nat.le_refl _
  | f+1,k=>by unfold Aeh;have:=S3 f (k / 2);split <;> omega
theorem Ma(k:Nat):1≤low k:=S3 8 k
theorem Uw:((List.range 201).all fun i=>i == 0 || decide (low i≤i))=true:=by decide +kernel
theorem R0{i:Nat}(h1:1≤i)(h2:i≤200):low i≤i:=by
  have:=List.all_eq_true.mp Uw i (List.mem_range.mpr (by omega))
  simp at this
  omega
theorem Afc:((List.range 201).all fun i=>i == 0 || (Builtin.bitAnd (i:Int) (-(i:Int)) == (low i:Int)))=true:=by decide +kernel
theorem Wh{i:Nat}(h1:1≤i)(h2:i≤200):Builtin.bitAnd (i:Int) (-(i:Int))=(low i:Int):=by
  have:=List.all_eq_true.mp Afc i (List.mem_range.mpr (by omega))
  simp at this
  omega
theorem Aei:((List.range 201).all fun i=>(List.range 201).all fun j=>i == 0 || j == 0 || (vis 201 j i == (decide (i - low i < j)&&decide (j≤i))))=true:=by decide +kernel
theorem Agq{i j:Nat}(h1:1≤i)(h2:i≤200)(h3:1≤j)(h4:j≤200):vis 201 j i=(decide (i - low i < j)&&decide (j≤i)):=by
  have a:=List.all_eq_true.mp Aei i (List.mem_range.mpr (by omega))
  have b:=List.all_eq_true.mp a j (List.mem_range.mpr (by omega))
  simp only[Bool.or_eq_true,beq_iff_eq] at b
  rcases b with (b | b) | b
  · omega
  · omega
  · exact b
theorem Tx:∀ (f g j i:Nat),i < f+j→i < g+j→vis f j i=vis g j i
  | 0,0,_,_,_,_=>rfl
  | 0,g+1,j,i,h1,_=>by unfold vis;rw[if_neg (by omega),if_neg (by omega)]
  | f+1,0,j,i,_,h2=>by unfold vis;rw[if_neg (by omega),if_neg (by omega)]
  | f+1,g+1,j,i,h1,h2=>by
    unfold vis
    have:=Ma j
    by_cases a:i=j
    · rw[if_pos a,if_pos a]
    · rw[if_neg a,if_neg a]
      by_cases b:j < i
      · rw[if_pos b,if_pos b];exact Tx f g (j+low j) i (by omega) (by omega)
      · rw[if_neg b,if_neg b]
noncomputable def putF:Nat→List Int→Nat→Int→Nat→List Int
  | 0,cs,_,_,_=>cs
  | f+1,cs,j,v,n=>if j≤n then putF f (cs.set j (cs.getD j 0+v)) (j+low j) v n else cs
theorem Os:∀ f cs j v n,(putF f cs j v n).length=cs.length
  | 0,_,_,_,_=>rfl
  | f+1,cs,j,v,n=>by
    unfold putF
    split
    · rw[Os];simp
    · rfl
theorem W2:∀ (f:Nat) (cs:List Int) (j:Nat) (v:Int) (n i:Nat),n < f+j→i≤n→cs.length=n+1→(putF f cs j v n).getD i 0=cs.getD i 0+if vis f j i=true then v else 0
  | 0,cs,j,v,n,i,h1,h2,_=>by simp[putF,vis]
  | f+1,cs,j,v,n,i,h1,h2,h3=>by
    have hp:=Ma j
    unfold putF vis
    by_cases a:j≤n
    · rw[if_pos a,W2 f _ (j+low j) v n i (by omega) h2 (by simp[h3])]
      by_cases b:i=j
      · subst b
        rw[if_pos rfl]
        have:vis f (i+low i) i=false:=by
          cases f with
          | zero=>rfl
          | succ f=>unfold vis;rw[if_neg (by omega),if_neg (by omega)]
        rw[this]
        simp only[List.getD_eq_getElem?_getD]
        rw[List.getElem?_set_self (by omega)]
        simp
      · rw[if_neg b]
        simp only[List.getD_eq_getElem?_getD]
        rw[List.getElem?_set_ne (by omega)]
        by_cases c:j < i
        · rw[if_pos c]
        · rw[if_neg c]
          have:vis f (j+low j) i=false:=by
            cases f with
            | zero=>rfl
            | succ f=>unfold vis;rw[if_neg (by omega),if_neg (by omega)]
          rw[this]
    · have c1:¬ i=j:=by omega
      have c2:¬ j < i:=by omega
      rw[if_neg a,if_neg c1,if_neg c2]
      simp
noncomputable def pre(row:List Int)(m:Nat):Int:=(row.take m).sum
theorem N0:∀ (row:List Int) (q m:Nat) (v:Int),q < row.length→pre (row.set q (row.getD q 0+v)) m=pre row m+if q < m then v else 0
  | [],q,m,v,h=>by simp at h
  | a::row,0,0,v,_=>by simp[pre]
  | a::row,0,m+1,v,_=>by simp[pre];omega
  | a::row,q+1,0,v,_=>by simp[pre]
  | a::row,q+1,m+1,v,h=>by
    have:=N0 row q m v (by simpa using h)
    simp only[pre,List.set_cons_succ,List.take_succ_cons,List.sum_cons,List.getD_cons_succ] at this ⊢
    rw[this]
    by_cases c:q < m
    · simp[c];omega
    · simp[c]
noncomputable def Gm(row:List Int)(i:Nat):Int:=pre row i - pre row (i - low i)
structure Fen(row cs:List Int)(n:Nat):Prop where
  rl:row.length=n
  cl:cs.length=n+1
  at_:∀ i,1≤i→i≤n→cs.getD i 0=Gm row i
theorem Fen.put{row cs:List Int}{n p:Nat}(v:Int)(F:Fen row cs n)(hn:n≤200)(h1:1≤p)(h2:p≤n):Fen (row.set (p - 1) (row.getD (p - 1) 0+v)) (putF (n+1 - p) cs p v n) n:=by
  have hrl:=F.rl
  refine ⟨by simp[F.rl],by rw[Os];exact F.cl,fun i i1 i2=>?_⟩
  rw[W2 (n+1 - p) cs p v n i (by omega) i2 F.cl,F.at_ i i1 i2,Tx (n+1 - p) 201 p i (by omega) (by omega),Agq i1 (by omega) h1 (by omega)]
  unfold Gm
  rw[N0 row (p - 1) i v (by omega),N0 row (p - 1) (i - low i) v (by omega)]
  have hl:=R0 i1 (show i≤200 by omega)
  have hp:=Ma i
  by_cases a:i - low i < p <;> by_cases b:p≤i
  · have c1:p - 1 < i:=by omega
    have c2:¬ p - 1 < i - low i:=by omega
    simp[a,b,c1,c2];omega
  · have c1:¬ p - 1 < i:=by omega
    have c2:¬ p - 1 < i - low i:=by omega
    simp[a,b,c1,c2]
  · have c1:p - 1 < i:=by omega
    have c2:p - 1 < i - low i:=by omega
    simp[a,b,c1,c2];omega
  · omega
theorem Adu(m:Nat):(List.replicate m (0:Int)).sum=0:=by
  induction m with
  | zero=>rfl
  | succ m ih=>rw[List.replicate_succ,List.sum_cons,ih];rfl
theorem Oq(n m:Nat):pre (List.replicate n 0) m=0:=by
  unfold pre
  rw[List.take_replicate]
  exact Adu _
theorem Fen.new(n:Nat):Fen (List.replicate n 0) (List.replicate (n+1) 0) n:=by
  refine ⟨by simp,by simp,fun i h1 h2=>?_⟩
  unfold Gm
  rw[Oq,Oq]
  simp only[List.getD_eq_getElem?_getD]
  rw[List.getElem?_replicate]
  split <;> rfl
noncomputable def Bu(row:List Int):List Int:=(List.range row.length).map fun i=>Gm row (i+1)
theorem Fen.tail{row cs:List Int}{n:Nat}(F:Fen row cs n):cs.drop 1=Bu row:=by
  apply List.ext_getElem?
  intro i
  unfold Bu
  rw[List.getElem?_drop,List.getElem?_map,F.rl]
  by_cases h:i < n
  · have:=F.at_ (i+1) (by omega) (by omega)
    rw[List.getElem?_range h,Option.map_some,← this]
    have hlt:1+i < cs.length:=by rw[F.cl];omega
    simp only[List.getD_eq_getElem?_getD]
    rw[List.getElem?_eq_getElem hlt,List.getElem?_eq_getElem (by rw[F.cl];omega)]
    simp[Nat.add_comm]
  · rw[List.getElem?_eq_none (by rw[F.cl];omega),List.getElem?_eq_none (by simpa using h)];rfl
noncomputable def Hd:FS:=(Ay (Od "SumTree" "many" (Ad 0) (Ad 1)) (Od "SumTree" "cells" (Ad 0) (f2 Di (H9 (Ae (fC (.int 0)) Ag)) (f2 Bl (Ad 1) (fC (.int 1))))))
noncomputable def Bx:FN:=fnU 2 2 Hd
noncomputable def Gc:FS:=(Es (fOr (Be (f2 Nd (Ad 1) (fC (.int 1)))) (Be (f2 K4 (Ad 1) (Ho "SumTree" "many" (Ad 0))))) Re Co)
noncomputable def Au:FN:=fnU 2 2 Gc
noncomputable def La:FS:=(B0 (f2 semBitAnd (Ad 0) (U0 (Ad 0))))
noncomputable def Fk:FN:=fnU 1 1 La
noncomputable def Dd:FT:=(Be (f2 W7 (Ad 3) (Ho "SumTree" "many" (Ad 0))))
noncomputable def Dk:FS:=(Ay (Br (f2 Bl (f2 Dh (Ho "SumTree" "cells" (Ad 0)) (Ad 3)) (Ad 2)) (MR.gSub (Ho "SumTree" "cells" (Ad 0)) (Ad 3))) (Br (f2 Bl (Ad 3) (Bj 1 Fk (Ae (Ad 3) Ag))) (gN 3)))
noncomputable def Ie:FS:=(Ay (Gp (Ar "SumTree" "need_place" 2 Au (Ad 0) (Ae (Ad 1) Ag))) (Ay (Br (Ad 1) (gN 3)) (Gh Dd Dk 100000)))
noncomputable def Bp:FN:=fnU 4 3 Ie
noncomputable def B9:FT:=(Be (f2 K4 (Ad 3) (fC (.int 0))))
noncomputable def Cd:FS:=(Ay (Br (f2 Bl (Ad 2) (f2 Dh (Ho "SumTree" "cells" (Ad 0)) (Ad 3))) (gN 2)) (Br (f2 B8 (Ad 3) (Bj 1 Fk (Ae (Ad 3) Ag))) (gN 3)))
noncomputable def Fj:FS:=(Ay (Es (fOr (Be (f2 Nd (Ad 1) (fC (.int 0)))) (Be (f2 K4 (Ad 1) (Ho "SumTree" "many" (Ad 0))))) Re Co) (Ay (Br (fC (.int 0)) (gN 2)) (Ay (Br (Ad 1) (gN 3)) (Ay (Gh B9 Cd 100000) (B0 (Ad 2))))))
noncomputable def Ai:FN:=fnU 4 2 Fj
noncomputable def Fq:FS:=(Ay (Gp (Ar "SumTree" "need_place" 2 Au (Ad 0) (Ae (Ad 1) Ag))) (Ay (Gp (Ar "SumTree" "need_place" 2 Au (Ad 0) (Ae (Ad 2) Ag))) (Ay (Es (Be (f2 Nd (Ad 2) (Ad 1))) (B0 (fC (.int 0))) Co) (B0 (f2 B8 (Ar "SumTree" "sum_of_first" 2 Ai (Ad 0) (Ae (Ad 2) Ag)) (Ar "SumTree" "sum_of_first" 2 Ai (Ad 0) (Ae (f2 B8 (Ad 1) (fC (.int 1))) Ag)))))))
noncomputable def Bb:FN:=fnU 3 3 Fq
noncomputable def Go:FS:=(B0 (Ar "SumTree" "sum_from_to" 3 Bb (Ad 0) (Ae (Ad 1) (Ae (Ad 1) Ag))))
noncomputable def C6:FN:=fnU 2 2 Go
noncomputable def Eg:FE:=(Ar "SumTree" "number_at" 2 C6 (Ad 1) (Ae (Ad 0) Ag))
noncomputable def Hs:FS:=(B0 (Ax semTuple (Ae (Df [none,some 0] (Lf (Ae (fC (.int 1)) (Ae (f2 Bl (Ho "SumTree" "many" (Ad 0)) (fC (.int 1))) Ag))) (gN 0) none Eg) Ag)))
noncomputable def Bq:FN:=fnU 1 1 Hs
noncomputable def Gq:FS:=(B0 (Ax semTuple (Ae (fSl Lx (Ho "SumTree" "cells" (Ad 0)) (Cz (fC (.int 1))) Dq) Ag)))
noncomputable def A7:FN:=fnU 1 1 Gq
noncomputable def Cj:FS:=(Es (Be (f2 Ou (Ar "SumTree" "sum_of_first" 2 Ai (Ad 0) (Ae (Ad 2) Ag)) (Ad 1))) (B0 (Ad 2)) Co)
noncomputable def Ei:FS:=(Ay (Hn (Ia (Ae (f2 Bl (Ho "SumTree" "many" (Ad 0)) (fC (.int 1))) Ag)) (gN 2) Cj) (B0 (fC .non)))
noncomputable def Bh:FN:=fnU 3 2 Ei
noncomputable def Rf(n c:Nat):List (Str×U):=[("many",.int n),("cells",.ref c)]
theorem fl_many(n c:Nat):List.lookup ("many" : Str) (Rf n c)=some (.int n):=rfl
theorem Ai3:(("cells" : Str) == "many")=false:=by decide +kernel
theorem fl_cells(n c:Nat):List.lookup ("cells" : Str) (Rf n c)=some (.ref c):=by
  unfold Rf
  rw[List.lookup_cons,Ai3]
  rfl
theorem nl1:(("need_place" : Str) == "many")=false:=by decide +kernel
theorem nl2:(("need_place" : Str) == "cells")=false:=by decide +kernel
theorem nl3:(("put_to" : Str) == "many")=false:=by decide +kernel
theorem nl4:(("put_to" : Str) == "cells")=false:=by decide +kernel
theorem nl5:(("cells_now" : Str) == "many")=false:=by decide +kernel
theorem nl6:(("cells_now" : Str) == "cells")=false:=by decide +kernel
theorem Acd{m:Str}(n c:Nat)(h1:(m == "many")=false)(h2:(m == "cells")=false):List.lookup m (Rf n c)=none:=by
  unfold Rf
  rw[List.lookup_cons,h1,List.lookup_cons,h2]
  rfl
theorem He{C:Str}{L:UH}{t:Nat}{fs:List (Str×U)}(h:L[t]? = some (.ins C fs)):Lu C (.ref t) L=some (t,fs):=by
  unfold Lu
  simp only[h,if_true]
noncomputable def Ib(n:Nat):List (Str×U):=[("many",.int n)]
theorem put_many(n:Nat):R4 "many" (.int n) []=Ib n:=rfl
theorem Aip:¬ (("many" : Str) = "cells"):=by decide +kernel
theorem Xe(n c:Nat):R4 "cells" (.ref c) (Ib n)=Rf n c:=by
  unfold Ib R4
  rw[if_neg Aip]
  rfl
structure Tree(L:UH)(t c n:Nat)(cs:List Int):Prop where
  ob:L[t]? = some (.ins "SumTree" (Rf n c))
  ce:L[c]? = some (.lst (cs.map U.int))
  ln:cs.length=n+1
theorem Tree.ne{L:UH}{t c n:Nat}{cs:List Int}(T:Tree L t c n cs):t≠c:=fun h=>by
  have a:=T.ob
  rw[h,T.ce] at a
  cases a
theorem Tree.gw{L L':UH}{t c n:Nat}{cs:List Int}(T:Tree L t c n cs)(g:Gw L L'):Tree L' t c n cs:=⟨g.get T.ob,g.get T.ce,T.ln⟩
theorem Tree.ex{d:Nat}{L L':UH}{t c n:Nat}{cs:List Int}(T:Tree L t c n cs)(x:Ex d L L')(h1:t≠d)(h2:c≠d):Tree L' t c n cs:=⟨x.get T.ob h1,x.get T.ce h2,T.ln⟩
theorem Jt{L:UH}{t c n:Nat}{cs:List Int}(T:Tree L t c n cs){δ:UE}{fe:FE}(h:fe δ L=some (.ref t,L)):Ho "SumTree" "many" fe δ L=some (.int n,L):=by
  unfold Ho
  simp only[h,Option.bind_some,He T.ob,fl_many,Option.map_some]
theorem Mj{L:UH}{t c n:Nat}{cs:List Int}(T:Tree L t c n cs){δ:UE}{fe:FE}(h:fe δ L=some (.ref t,L)):Ho "SumTree" "cells" fe δ L=some (.ref c,L):=by
  unfold Ho
  simp only[h,Option.bind_some,He T.ob,fl_cells,Option.map_some]
theorem var0(x:U)(r:UE)(L:UH):Ad 0 (some x::r) L=some (x,L):=rfl
theorem Ul{L:UH}{n:Nat}{k:Int}{a:List U}(h:E6 L n=some a)(h1:-1000000≤k∧k≤1000000∧Gk (a.length * k.toNat)=true):Di (.ref n) (.int k) L=some (.ref L.length,L++[.lst (List.replicate k.toNat a).flatten]):=by
  unfold Di
  simp only[h,Option.bind_some]
  rw[if_pos h1]
theorem Abe(m:Nat)(u:U):(List.replicate m [u]).flatten=List.replicate m u:=by
  induction m with
  | zero=>rfl
  | succ m ih=>rw[List.replicate_succ,List.flatten_cons,ih,List.replicate_succ];rfl
theorem Aci{L:UH}{n m:Nat}{k:Int}(h:E6 L n=some [.int 0])(hk:k=m)(hm:m≤1000):Di (.ref n) (.int k) L=some (.ref L.length,L++[.lst (List.replicate m (.int 0))]):=by
  subst hk
  have h2:([U.int 0]:List U).length * ((m:Nat):Int).toNat≤16777216:=by
    rw[Int.toNat_natCast,List.length_singleton,Nat.one_mul]
    exact Nat.le_trans hm (by decide)
  rw[Ul h ⟨by omega,by omega,Gd h2⟩,Int.toNat_natCast,Abe]
theorem Adq(n:Nat)(hn:n≤200)(L:UH):∃ L',Bx [.ref L.length,.int n] (L++[.ins "SumTree" []])=some (.non,L')∧Tree L' L.length (L.length+2) n (List.replicate (n+1) 0)∧Gw L L':=by
  have i1:Lu "SumTree" (.ref L.length) (L++[HU.ins "SumTree" []])=some (L.length,[]):=He (by simp)
  have hM1:(L++[HU.ins "SumTree" []]).set L.length (.ins "SumTree" (Ib n))=L++[HU.ins "SumTree" (Ib n)]:=by simp
  have l0:E6 (L++[HU.ins "SumTree" (Ib n)]++[HU.lst [.int 0]]) (L.length+1)=some [.int 0]:=E5 (by simp[List.getElem?_append])
  have hmul:Di (.ref (L.length+1)) (.int ((n:Int)+1)) (L++[HU.ins "SumTree" (Ib n)]++[HU.lst [.int 0]])=some (.ref (L.length+2),L++[HU.ins "SumTree" (Ib n)]++[HU.lst [.int 0]]++[HU.lst (List.replicate (n+1) (.int 0))]):=by
    have:=Aci (m:=n+1) (k:=(n:Int)+1) l0 (by omega) (by omega)
    rw[this]
    simp
  let M2:UH:=L++[HU.ins "SumTree" (Rf n (L.length+2))]++[HU.lst [.int 0]]++[HU.lst (List.replicate (n+1) (.int 0))]
  have hce:M2[L.length+2]? = some (.lst ((List.replicate (n+1) (0:Int)).map U.int)):=by
    rw[List.map_replicate]
    simp[M2,List.getElem?_append]
  refine ⟨M2,?_,⟨by simp[M2,List.getElem?_append],hce,by simp⟩,⟨[HU.ins "SumTree" (Rf n (L.length+2))]++[HU.lst [.int 0]]++[HU.lst (List.replicate (n+1) (.int 0))],by simp[M2]⟩⟩
  have h1:Od "SumTree" "many" (Ad 0) (Ad 1) [some (.ref L.length),some (.int n)] (L++[.ins "SumTree" []])=some (.nx [some (.ref L.length),some (.int n)],L++[HU.ins "SumTree" (Ib n)]):=by
    unfold Od
    simp only[fVar_eq,List.getElem?_cons_succ,List.getElem?_cons_zero,Option.join_some,Option.map_some,Option.bind_some,i1,List.length_nil]
    rw[if_pos (by decide),put_many,hM1]
  have h2:Od "SumTree" "cells" (Ad 0) (f2 Di (H9 (Ae (fC (.int 0)) Ag)) (f2 Bl (Ad 1) (fC (.int 1)))) [some (.ref L.length),some (.int n)] (L++[HU.ins "SumTree" (Ib n)])=some (.nx [some (.ref L.length),some (.int n)],M2):=by
    have e1:(f2 Di (H9 (Ae (fC (.int 0)) Ag)) (f2 Bl (Ad 1) (fC (.int 1)))) [some (.ref L.length),some (.int n)] (L++[HU.ins "SumTree" (Ib n)])=some (.ref (L.length+2),L++[HU.ins "SumTree" (Ib n)]++[HU.lst [.int 0]]++[HU.lst (List.replicate (n+1) (.int 0))]):=by
      have hl1:H9 (Ae (fC (.int 0)) Ag) [some (.ref L.length),some (.int n)] (L++[HU.ins "SumTree" (Ib n)])=some (.ref (L.length+1),L++[HU.ins "SumTree" (Ib n)]++[HU.lst [.int 0]]):=by simp[Gd]
      have hl2:(f2 Bl (Ad 1) (fC (.int 1))) [some (.ref L.length),some (.int n)] (L++[HU.ins "SumTree" (Ib n)]++[HU.lst [.int 0]])=some (.int ((n:Int)+1),L++[HU.ins "SumTree" (Ib n)]++[HU.lst [.int 0]]):=rfl
      rw[f2_eq,hl1,Option.bind_some,hl2,Option.bind_some,hmul]
    have i3:Lu "SumTree" (.ref L.length) (L++[HU.ins "SumTree" (Ib n)]++[HU.lst [.int 0]]++[HU.lst (List.replicate (n+1) (.int 0))])=some (L.length,Ib n):=He (by simp[List.getElem?_append])
    unfold Od
    simp only[e1,Option.bind_some,var0,i3]
    rw[if_pos (show (Ib n).length < 1000 from (by simp[Ib])),Xe]
    simp[M2]
  unfold Bx fnU Hd
  simp only[List.length_cons,List.length_nil,if_true,List.map_cons,List.map_nil,Nat.sub_self,List.replicate_zero,List.append_nil]
  rw[An h1,h2]
  rfl
theorem Q4{L:UH}{t c n p:Nat}{cs:List Int}(T:Tree L t c n cs)(h1:1≤p)(h2:p≤n):Au [.ref t,.int p] L=some (.non,L):=by
  have e:=Jt T (var0 (.ref t) [some (.int p)] L)
  have c1:¬ ((p:Int) < 1):=by omega
  have c2:¬ ((n:Int) < p):=by omega
  simp[Au,fnU,Gc,c1,e,c2]
theorem Abj{j:Nat}(L:UH)(h1:1≤j)(h2:j≤200):Fk [.int j] L=some (.int (low j),L):=by
  have e:=Wh h1 h2
  have hb:semBitAnd (.int j) (.int (-(j:Int))) L=some (.int (low j),L):=by
    show some (U.int (Builtin.bitAnd (j:Int) (-(j:Int))),L)=_
    rw[e]
  simp[Fk,fnU,La,hb]
theorem Acv{L:UH}{t c n j:Nat}{cs:List Int}{v:Int}{x1:Option U}(T:Tree L t c n cs)(hn:n≤200)(h1:1≤j)(h2:j≤n) :
    Dk [some (.ref t),x1,some (.int v),some (.int j)] L=some (.nx [some (.ref t),x1,some (.int v),some (.int (j+low j:Nat))],L.set c (.lst ((cs.set j (cs.getD j 0+v)).map U.int))):=by
  have e:=Mj T (var0 (.ref t) [x1,some (.int v),some (.int j)] L)
  have hj:j < cs.length:=by rw[T.ln];omega
  have hat:L2.atI (cs.map U.int) (j:Int)=some (.int (cs.getD j 0)):=by
    rw[Rx (by omega) (by simp;omega),List.getElem?_map,Int.toNat_natCast,List.getElem?_eq_getElem hj]
    simp[List.getD_eq_getElem?_getD,hj]
  have hix:ixN (cs.map U.int).length (j:Int)=some j:=by rw[Agb (by omega) (by simp;omega)];simp
  have hset:(cs.map U.int).set j (.int (cs.getD j 0+v))=(cs.set j (cs.getD j 0+v)).map U.int:=by rw[List.map_set]
  have s1:(Br (f2 Bl (f2 Dh (Ho "SumTree" "cells" (Ad 0)) (Ad 3)) (Ad 2)) (MR.gSub (Ho "SumTree" "cells" (Ad 0)) (Ad 3))) [some (.ref t),x1,some (.int v),some (.int j)] L=some (.nx [some (.ref t),x1,some (.int v),some (.int j)],L.set c (.lst ((cs.set j (cs.getD j 0+v)).map U.int))):=by
    simp only[Iv,f2_eq,e,Option.bind_some,fVar_eq,List.getElem?_cons_succ,List.getElem?_cons_zero,Option.join_some,Option.map_some,semIx_ref,A0 T.ce,hat,semAdd_int,gSub_eq,E5 T.ce,hix,hset]
  have s2:=Abj (L.set c (.lst ((cs.set j (cs.getD j 0+v)).map U.int))) h1 (show j≤200 by omega)
  unfold Dk
  rw[An s1]
  simp only[Iv,f2_eq,Kz,fCons_eq,fNil_eq,fVar_eq,List.getElem?_cons_succ,List.getElem?_cons_zero,Option.join_some,Option.map_some,Option.bind_some,List.length_cons,List.length_nil,if_true,s2,semAdd_int,gN_eq,List.set_cons_succ,List.set_cons_zero]
  rw[Int.natCast_add]
theorem Tree.put{L:UH}{t c n:Nat}{cs ds:List Int}(T:Tree L t c n cs)(h:ds.length=cs.length):Tree (L.set c (.lst (ds.map U.int))) t c n ds:=
  ⟨by rw[List.getElem?_set_ne (Ne.symm T.ne)];exact T.ob,List.getElem?_set_self (List.getElem?_eq_some_iff.mp T.ce).1,by rw[h];exact T.ln⟩
theorem T6{t c n:Nat}{v:Int}{x1:Option U}(hn:n≤200):∀ (f m j:Nat) (cs:List Int) (L:UH),Tree L t c n cs→f < m→n < f+j→1≤j→∃ y3,Gh Dd Dk m [some (.ref t),x1,some (.int v),some (.int j)] L=some (.nx [some (.ref t),x1,some (.int v),y3],L.set c (.lst ((putF f cs j v n).map U.int)))
  | f,0,j,cs,L,_,hm,_,_=>by omega
  | f,m+1,j,cs,L,T,hm,hf,h1=>by
    have e:=Jt T (var0 (.ref t) [x1,some (.int v),some (.int j)] L)
    have ht:Dd [some (.ref t),x1,some (.int v),some (.int j)] L=some (decide (j≤n),L):=by
      simp[Dd,e]
    unfold Gh
    rw[ht]
    by_cases a:j≤n
    · cases f with
      | zero=>omega
      | succ f=>
        have hp:=Ma j
        obtain ⟨y3,ih⟩:=T6 (t:=t) (c:=c) (v:=v) (x1:=x1) hn f m (j+low j) (cs.set j (cs.getD j 0+v)) (L.set c (.lst ((cs.set j (cs.getD j 0+v)).map U.int))) (T.put (by simp)) (by omega) (by omega) (by omega)
        refine ⟨y3,?_⟩
        simp only[Option.bind_some,a,decide_true,if_true,Acv T hn h1 a,ih]
        rw[List.set_set]
        simp only[putF,a,if_true]
    · refine ⟨some (.int j),?_⟩
      simp only[Option.bind_some,a,decide_false,Bool.false_eq_true,if_false]
      have:putF f cs j v n=cs:=by cases f <;> simp[putF,a]
      rw[this]
      have hs:L.set c (.lst (cs.map U.int))=L:=by
        have hlt:=(List.getElem?_eq_some_iff.mp T.ce)
        obtain ⟨h,hh⟩:=hlt
        rw[← hh]
        exact List.set_getElem_self h
      rw[hs]
theorem Ag2{L:UH}{t c n p:Nat}{cs:List Int}{v:Int}(T:Tree L t c n cs)(hn:n≤200)(h1:1≤p)(h2:p≤n):Bp [.ref t,.int p,.int v] L=some (.non,L.set c (.lst ((putF (n+1 - p) cs p v n).map U.int))):=by
  obtain ⟨y3,e⟩:=T6 (t:=t) (c:=c) (v:=v) (x1:=some (.int p)) hn (n+1 - p) 100000 p cs L T (by omega) (by omega) h1
  have hme:(Gp (Ar "SumTree" "need_place" 2 Au (Ad 0) (Ae (Ad 1) Ag))) [some (.ref t),some (.int p),some (.int v),none] L=some (.nx [some (.ref t),some (.int p),some (.int v),none],L):=by
    have hq:=Q4 T h1 h2
    unfold Ar
    simp only[Ii,var0,Option.bind_some,He T.ob,Acd n c nl1 nl2,if_true,fCons_eq,fNil_eq,fVar_eq,List.getElem?_cons_succ,List.getElem?_cons_zero,Option.join_some,Option.map_some,List.length_cons,List.length_nil,hq]
  have h3:(Br (Ad 1) (gN 3)) [some (.ref t),some (.int p),some (.int v),none] L=some (.nx [some (.ref t),some (.int p),some (.int v),some (.int p)],L):=rfl
  unfold Bp fnU Ie
  simp only[List.length_cons,List.length_nil,if_true,List.map_cons,List.map_nil,List.replicate,List.cons_append,List.nil_append]
  rw[An hme,An h3,e]
  rfl
theorem Ru{L:UH}{t c n:Nat}{cs:List Int}(T:Tree L t c n cs):∃ L',A7 [.ref t] L=some (.tup ((cs.drop 1).map U.int),L')∧Gw L L':=by
  have e:=Mj T (var0 (.ref t) [] L)
  have hcut:Jq (cs.map U.int) (some 1) none=(cs.drop 1).map U.int:=by
    unfold Jq
    rw[HT.R9,show (some (1:Int))=some ((1:Nat):Int) from rfl,HT.Ld]
    have:min 1 (cs.map U.int).length=1:=by rw[List.length_map,T.ln];omega
    rw[this,← List.map_drop,List.take_of_length_le (by simp)]
  have q1:Ap (L++[HU.lst ((cs.drop 1).map U.int)]) L.length=some ((cs.drop 1).map U.int):=A0 (by simp)
  refine ⟨L++[HU.lst ((cs.drop 1).map U.int)],?_,Gw.new _ _⟩
  simp[A7,fnU,Gq,e,Lx,A0 T.ce,hcut,semTuple,q1,-List.map_drop,-List.drop_one]
theorem Abd{L:UH}{t c n j:Nat}{cs:List Int}{told:Int}{x1:Option U}(T:Tree L t c n cs)(hn:n≤200)(h1:1≤j)(h2:j≤n) :
    Cd [some (.ref t),x1,some (.int told),some (.int j)] L=some (.nx [some (.ref t),x1,some (.int (told+cs.getD j 0)),some (.int (j - low j:Nat))],L):=by
  have e:=Mj T (var0 (.ref t) [x1,some (.int told),some (.int j)] L)
  have hj:j < cs.length:=by rw[T.ln];omega
  have hat:L2.atI (cs.map U.int) (j:Int)=some (.int (cs.getD j 0)):=by
    rw[Rx (by omega) (by simp;omega),List.getElem?_map,Int.toNat_natCast,List.getElem?_eq_getElem hj]
    simp[List.getD_eq_getElem?_getD,hj]
  have s1:(Br (f2 Bl (Ad 2) (f2 Dh (Ho "SumTree" "cells" (Ad 0)) (Ad 3))) (gN 2)) [some (.ref t),x1,some (.int told),some (.int j)] L=some (.nx [some (.ref t),x1,some (.int (told+cs.getD j 0)),some (.int j)],L):=by
    simp only[Iv,f2_eq,e,Option.bind_some,fVar_eq,List.getElem?_cons_succ,List.getElem?_cons_zero,Option.join_some,Option.map_some,semIx_ref,A0 T.ce,hat,semAdd_int,gN_eq,List.set_cons_succ,List.set_cons_zero]
  have s2:=Abj L h1 (show j≤200 by omega)
  have hl:=R0 h1 (show j≤200 by omega)
  have hc:(j:Int) - (low j:Int)=((j - low j:Nat):Int):=by omega
  unfold Cd
  rw[An s1]
  simp only[Iv,f2_eq,Kz,fCons_eq,fNil_eq,fVar_eq,List.getElem?_cons_succ,List.getElem?_cons_zero,Option.join_some,Option.map_some,Option.bind_some,List.length_cons,List.length_nil,if_true,s2,semSub_int,gN_eq,List.set_cons_succ,List.set_cons_zero,hc]
theorem P6(row:List Int):pre row 0=0:=by simp[pre]
theorem Sh{L:UH}{t c n:Nat}{row cs:List Int}{x1:Option U}(T:Tree L t c n cs)(F:Fen row cs n)(hn:n≤200):∀ (m j:Nat) (told:Int),j < m→j≤n→Gh B9 Cd m [some (.ref t),x1,some (.int told),some (.int j)] L=some (.nx [some (.ref t),x1,some (.int (told+pre row j)),some (.int 0)],L)
  | 0,j,_,h,_=>by omega
  | m+1,j,told,hm,hj=>by
    have ht:B9 [some (.ref t),x1,some (.int told),some (.int j)] L=some (decide (0 < j),L):=by
      have:decide ((0:Int) < (j:Int))=decide (0 < j):=by rw[Bool.eq_iff_iff];simp
      simp only[B9,fTest_eq,f2_eq,fVar_eq,fC_eq,List.getElem?_cons_succ,List.getElem?_cons_zero,Option.join_some,Option.map_some,Option.bind_some,semGt_int,this]
    unfold Gh
    rw[ht]
    by_cases a:0 < j
    · have hl:=R0 a (show j≤200 by omega)
      have hp:=Ma j
      have ih:=Sh (x1:=x1) T F hn m (j - low j) (told+cs.getD j 0) (by omega) (by omega)
      have hv:=F.at_ j a hj
      unfold Gm at hv
      have hs:told+cs.getD j 0+pre row (j - low j)=told+pre row j:=by omega
      simp only[Option.bind_some,a,decide_true,if_true,Abd T hn a hj,ih,hs]
    · have:j=0:=by omega
      subst this
      simp only[Option.bind_some,a,decide_false,Bool.false_eq_true,if_false,P6,Int.add_zero]
      rfl
theorem Q8{L:UH}{t c n m:Nat}{row cs:List Int}(T:Tree L t c n cs)(F:Fen row cs n)(hn:n≤200)(hm:m≤n):Ai [.ref t,.int m] L=some (.int (pre row m),L):=by
  have e:=Jt T (var0 (.ref t) [some (.int m),none,none] L)
  have c1:¬ ((m:Int) < 0):=by omega
  have c2:¬ ((n:Int) < m):=by omega
  have s1:(Es (fOr (Be (f2 Nd (Ad 1) (fC (.int 0)))) (Be (f2 K4 (Ad 1) (Ho "SumTree" "many" (Ad 0))))) Re Co) [some (.ref t),some (.int m),none,none] L=some (.nx [some (.ref t),some (.int m),none,none],L):=by
    simp[c1,e,c2]
  have s2:(Br (fC (.int 0)) (gN 2)) [some (.ref t),some (.int m),none,none] L=some (.nx [some (.ref t),some (.int m),some (.int 0),none],L):=rfl
  have s3:(Br (Ad 1) (gN 3)) [some (.ref t),some (.int m),some (.int 0),none] L=some (.nx [some (.ref t),some (.int m),some (.int 0),some (.int m)],L):=rfl
  have s4:=Sh (x1:=some (.int m)) T F hn 100000 m 0 (by omega) hm
  unfold Ai fnU Fj
  simp only[List.length_cons,List.length_nil,if_true,List.map_cons,List.map_nil,List.replicate,List.cons_append,List.nil_append]
  rw[An s1,An s2,An s3,An s4]
  simp only[Ka,fVar_eq,List.getElem?_cons_succ,List.getElem?_cons_zero,Option.join_some,Option.map_some,Option.bind_some,Int.zero_add]
theorem nm1:(("sum_of_first" : Str) == "many")=false:=by decide +kernel
theorem nm2:(("sum_of_first" : Str) == "cells")=false:=by decide +kernel
theorem nm3:(("sum_from_to" : Str) == "many")=false:=by decide +kernel
theorem nm4:(("sum_from_to" : Str) == "cells")=false:=by decide +kernel
theorem nm5:(("number_at" : Str) == "many")=false:=by decide +kernel
theorem nm6:(("number_at" : Str) == "cells")=false:=by decide +kernel
theorem Eu{L M L':UH}{t c n k:Nat}{cs:List Int}{mt:Str}{F:FN}{fo:FE}{g:FA}{δ:UE}{us:List U}{z:U}(T:Tree L t c n cs)(h1:(mt == "many")=false)(h2:(mt == "cells")=false)(ho:fo δ L=some (.ref t,L))(hg:g δ L=some (us,M))(hk:us.length+1=k)(hF:F (.ref t::us) M=some (z,L')):Ar "SumTree" mt k F fo g δ L=some (z,L'):=by
  unfold Ar
  simp only[ho,Option.bind_some,He T.ob,Acd n c h1 h2,if_true,hg,hk,hF]
theorem Pc{L:UH}{t c n a b:Nat}{row cs:List Int}(T:Tree L t c n cs)(F:Fen row cs n)(hn:n≤200)(a1:1≤a)(a2:a≤n)(b1:1≤b)(b2:b≤n):Bb [.ref t,.int a,.int b] L=some (.int (if b < a then 0 else pre row b - pre row (a - 1)),L):=by
  have s1:(Gp (Ar "SumTree" "need_place" 2 Au (Ad 0) (Ae (Ad 1) Ag))) [some (.ref t),some (.int a),some (.int b)] L=some (.nx [some (.ref t),some (.int a),some (.int b)],L):=by
    have q:Ar "SumTree" "need_place" 2 Au (Ad 0) (Ae (Ad 1) Ag) [some (.ref t),some (.int a),some (.int b)] L=some (.non,L):=Eu T nl1 nl2 rfl (us:=[.int a]) (M:=L) rfl rfl (Q4 T a1 a2)
    rw[Ii,q];rfl
  have s2:(Gp (Ar "SumTree" "need_place" 2 Au (Ad 0) (Ae (Ad 2) Ag))) [some (.ref t),some (.int a),some (.int b)] L=some (.nx [some (.ref t),some (.int a),some (.int b)],L):=by
    have q:Ar "SumTree" "need_place" 2 Au (Ad 0) (Ae (Ad 2) Ag) [some (.ref t),some (.int a),some (.int b)] L=some (.non,L):=Eu T nl1 nl2 rfl (us:=[.int b]) (M:=L) rfl rfl (Q4 T b1 b2)
    rw[Ii,q];rfl
  unfold Bb fnU Fq
  simp only[List.length_cons,List.length_nil,if_true,List.map_cons,List.map_nil,Nat.sub_self,List.replicate_zero,List.append_nil]
  rw[An s1,An s2]
  by_cases h:b < a
  · have hz:((b:Int) < (a:Int)):=by omega
    simp[hz,h]
  · have hz:¬ ((b:Int) < (a:Int)):=by omega
    have s3:(Es (Be (f2 Nd (Ad 2) (Ad 1))) (B0 (fC (.int 0))) Co) [some (.ref t),some (.int a),some (.int b)] L=some (.nx [some (.ref t),some (.int a),some (.int b)],L):=by simp[hz]
    rw[An s3]
    have m1:Ar "SumTree" "sum_of_first" 2 Ai (Ad 0) (Ae (Ad 2) Ag) [some (.ref t),some (.int a),some (.int b)] L=some (.int (pre row b),L):=Eu T nm1 nm2 rfl (us:=[.int b]) (M:=L) rfl rfl (Q8 T F hn b2)
    have ha:(a:Int) - 1=((a - 1:Nat):Int):=by omega
    have m2:Ar "SumTree" "sum_of_first" 2 Ai (Ad 0) (Ae (f2 B8 (Ad 1) (fC (.int 1))) Ag) [some (.ref t),some (.int a),some (.int b)] L=some (.int (pre row (a - 1)),L):=Eu T nm1 nm2 rfl (us:=[.int ((a:Int) - 1)]) (M:=L) rfl rfl (by rw[ha];exact Q8 T F hn (by omega))
    rw[Ka,f2_eq,m1,Option.bind_some,m2,if_neg h]
    rfl
theorem Ajf{L:UH}{t c n a:Nat}{row cs:List Int}(T:Tree L t c n cs)(F:Fen row cs n)(hn:n≤200)(a1:1≤a)(a2:a≤n):C6 [.ref t,.int a] L=some (.int (row.getD (a - 1) 0),L):=by
  have h:=Pc T F hn a1 a2 a1 a2
  rw[if_neg (by omega)] at h
  have hr:pre row a - pre row (a - 1)=row.getD (a - 1) 0:=by
    have hlt:a - 1 < row.length:=by rw[F.rl];omega
    unfold pre
    have ht:row.take a=row.take (a - 1)++[row[a - 1]'hlt]:=by
      obtain ⟨k,rfl⟩:∃ k,a=k+1:=⟨a - 1,by omega⟩
      simp only[Nat.add_sub_cancel] at hlt ⊢
      rw[List.take_add_one,List.getElem?_eq_getElem hlt];rfl
    rw[ht,List.sum_append]
    simp[List.getD_eq_getElem?_getD,hlt]
    omega
  rw[hr] at h
  unfold C6 fnU Go
  simp only[List.length_cons,List.length_nil,if_true,List.map_cons,List.map_nil,Nat.sub_self,List.replicate_zero,List.append_nil]
  have q:Ar "SumTree" "sum_from_to" 3 Bb (Ad 0) (Ae (Ad 1) (Ae (Ad 1) Ag)) [some (.ref t),some (.int a)] L=some (.int (row.getD (a - 1) 0),L):=Eu T nm3 nm4 rfl (us:=[.int a,.int a]) (M:=L) rfl rfl h
  rw[Ka,q]
  rfl
theorem We{g:FA}{δ:UE}{L L':UH}{i j:Int}(hg:g δ L=some ([.int i,.int j],L'))(h0:0≤i)(h1:i < 1000000)(h2:0≤j)(h3:j < 1000000):Lf g δ L=some (.seq (Ch i (j - i).toNat),L'):=by
  rw[Y0,hg]
  simp only[Option.bind_some]
  rw[if_pos ⟨⟨by omega,by omega⟩,by omega,by omega⟩]
theorem U5{L:UH}{t c n:Nat}{row cs:List Int}(T:Tree L t c n cs)(F:Fen row cs n)(hn:n≤200):∃ L',Bq [.ref t] L=some (.tup (row.map U.int),L')∧Gw L L':=by
  have e:=Jt T (var0 (.ref t) [] L)
  have hi:Lf (Ae (fC (.int 1)) (Ae (f2 Bl (Ho "SumTree" "many" (Ad 0)) (fC (.int 1))) Ag)) [some (.ref t)] L=some (.seq (Ch 1 n),L):=by
    have hg:(Ae (fC (.int 1)) (Ae (f2 Bl (Ho "SumTree" "many" (Ad 0)) (fC (.int 1))) Ag)) [some (.ref t)] L=some ([.int 1,.int ((n:Int)+1)],L):=by simp[e]
    rw[We hg (by decide) (by decide) (by omega) (by omega)]
    have:((n:Int)+1 - 1).toNat=n:=by omega
    rw[this]
  have hr:Ch 1 n=(List.range n).map fun (i:Nat)=>U.int (1+(i:Int)):=rfl
  obtain ⟨x,e2⟩:=Ek (ix:=[none,some 0]) (fi:=Lf (Ae (fC (.int 1)) (Ae (f2 Bl (Ho "SumTree" "many" (Ad 0)) (fC (.int 1))) Ag))) (it:=.seq (Ch 1 n)) (g:=gN 0) (tt:=none) (fe:=Eg) (δ:=[some (.ref t)]) (L:=L) (L0:=L)
    (List.range n) (fun (i:Nat)=>U.int (1+(i:Int))) (fun _=>true) (fun i=>.int (row.getD i 0)) (fun δ=>∃ a,δ = [a,some (.ref t)]) hi (by simp[IU.size,Ch]) (by simp;omega) ⟨none,rfl⟩
    (fun k x=>rfl)
    (fun i δ x hi ⟨y,hδ⟩=>by
      subst hδ
      have hin:=List.mem_range.mp hi
      refine ⟨_,rfl,⟨_,rfl⟩,[],by simp[Ic],fun _=>⟨[],?_⟩⟩
      have hc:(1:Int)+(i:Int)=((i+1:Nat):Int):=by omega
      have ha:=Ajf (a:=i+1) (T.gw (Gw.new L x)) F hn (by omega) (by omega)
      rw[Nat.add_sub_cancel] at ha
      simp only[List.append_nil]
      unfold Eg
      exact Eu (T.gw (Gw.new L x)) nm5 nm6 rfl (us:=[.int (1+(i:Int))]) (M:=L++x) rfl rfl (by rw[hc];exact ha))
  have hf:List.filter (fun _=>true) (List.range n)=List.range n:=List.filter_eq_self.mpr (fun _ _=>rfl)
  rw[hf] at e2
  have hrow:(List.range n).map (fun i=>U.int (row.getD i 0))=row.map U.int:=by
    apply List.ext_getElem?
    intro i
    rw[List.getElem?_map,List.getElem?_map]
    by_cases h:i < n
    · have hlt:i < row.length:=by rw[F.rl];exact h
      rw[List.getElem?_range h,List.getElem?_eq_getElem hlt]
      simp[List.getD_eq_getElem?_getD,hlt]
    · rw[List.getElem?_eq_none (by simpa using h),List.getElem?_eq_none (by rw[F.rl];omega)];rfl
  rw[hrow] at e2
  have q2:Ap (L++x++[HU.lst (row.map U.int)]) (L++x).length=some (row.map U.int):=A0 (by simp)
  refine ⟨L++x++[HU.lst (row.map U.int)],?_,⟨x++[HU.lst (row.map U.int)],by rw[List.append_assoc]⟩⟩
  unfold Bq fnU Hs
  simp only[List.length_cons,List.length_nil,if_true,List.map_cons,List.map_nil,Nat.sub_self,List.replicate_zero,List.append_nil]
  rw[Ka,fCall_eq,fCons_eq,e2]
  simp only[Option.bind_some,fNil_eq,Option.map_some,semTuple,q2]
noncomputable def Fy:FS:=(Ay (Gp (Of "list" G5 (Ad 2) (Ae (Bj 2 Dp (Ae (Ad 0) (Ae (Ad 1) Ag))) Ag))) (Es (Be (f2 Eh (Bj 2 As (Ae (Ad 0) (Ae (fC (.int 4)) Ag))) (fC (.int 0)))) (Br (f2 Dh (Ad 2) (Bj 2 As (Ae (Ad 0) (Ae (Ax semLen (Ae (Ad 2) Ag)) Ag)))) (MR.gSub (Ad 2) (U0 (fC (.int 1))))) Co))
noncomputable def Ju:FS:=(Ay (Br (Bj 2 As (Ae (Ad 0) (Ae (fC (.int 3)) Ag))) (gN 1)) (Ay (Br (H9 Ag) (gN 2)) (Ay (Hn (Ia (Ae (f2 Dh (H9 (Ae (Bj 2 As (Ae (Ad 0) (Ae (fC (.int 8)) Ag))) (Ae (Bj 2 As (Ae (Ad 0) (Ae (fC (.int 40)) Ag))) (Ae (Bj 2 As (Ae (Ad 0) (Ae (fC (.int 201)) Ag))) Ag)))) (Bj 2 As (Ae (Ad 0) (Ae (fC (.int 3)) Ag)))) Ag)) (gN 3) Fy) (B0 (Ax semTuple (Ae (Ad 2) Ag))))))
noncomputable def Jy:FN:=fnU 4 1 Ju
noncomputable def K7:FS:=(B0 (Sf (Tf "int" (Ad 0)) (Sf (Acb (Tf "bool" (Ad 0))) (f2 Eh (Ad 0) (Ad 1)))))
noncomputable def Gu:FN:=fnU 2 2 K7
noncomputable def Iq:FE:=(fC (.int 1))
noncomputable def b_l_are_whole_1t:FT:=(Nm (Nh (Bj 2 Gu (Ae (Ad 0) (Ae (Ad 1) Ag)))))
noncomputable def Ki:FS:=(Ay (Es (fOr (Nm (Nh (Tf "tuple" (Ad 0)))) (Be (f2 C4 (Ax semLen (Ae (Ad 0) Ag)) (Ax semLen (Ae (Ad 1) Ag))))) (B0 (fC (.bl false))) Co) (B0 (f2 Eh (Df [none,none] (V3 (Ae (Ad 0) (Ae (Ad 1) Ag))) (MR.gTup 2 (MR.gCons (gN 0) (MR.gCons (gN 1) MR.gNil))) (some b_l_are_whole_1t) Iq) (H9 Ag))))
noncomputable def Er:FN:=fnU 2 2 Ki
noncomputable def Fn:FE:=(Abg (Ad 1) (Ad 0))
noncomputable def H0:FS:=(Y3 (Ad 2) (Ad 4) (Ad 3))
noncomputable def Jp:FS:=(Ay (Br (Ax semTuple (Ae (Hl (Ae (Ad 0) Ag)) Ag)) (gN 1)) (Ay (Br Acu (gN 2)) (Ay (Hn (Vn (Ae (Ad 1) Ag)) (MR.gTup 2 (MR.gCons (gN 3) (MR.gCons (gN 4) MR.gNil))) H0) (B0 (Kf (Ae (Ad 1) (Ae (Ax semTuple (Ae (Df [none,some 2] (Cq (Ad 0)) (gN 0) none Fn) Ag)) Ag)))))))
noncomputable def Ef:FN:=fnU 5 1 Jp
noncomputable def Ci:FE:=(Of "tuple" semCountT (Ad 1) (Ae (Ad 0) Ag))
noncomputable def De:FE:=(fC (.int 1))
noncomputable def C5:FT:=(Be (f2 W7 (Ad 0) (f2 Dh (Ad 1) (Ad 2))))
noncomputable def Cs:FS:=(Ay (Es (Be (f2 C4 (Ar "SumTree" "sum_of_first" 2 Ai (Ad 4) (Ae (Ad 6) Ag)) (Ax semLen (Ae (Df [none,some 0,some 5] (Cq (fSl C3 (Ad 0) Dq (Cz (Ad 5)))) (gN 0) (some C5) De) Ag)))) (B0 (fC (.bl false))) Co) (Gp (Ar "SumTree" "put_to" 3 Bp (Ad 4) (Ae (Ad 6) (Ae (fC (.int 1)) Ag)))))
noncomputable def En:FE:=(fC (.int 1))
noncomputable def Eo:FT:=(Be (f2 Nd (Ad 0) (Ad 1)))
noncomputable def C9:FE:=(f2 semAddA (fC (.int 1)) (Ax semLen (Ae (Df [none,some 0] (Cq (Ad 1)) (gN 0) (some Eo) En) Ag)))
noncomputable def Dg:FS:=(Ay (Br (Bj 1 Ef (Ae (Ad 0) Ag)) (MR.gTup 2 (MR.gCons (gN 1) (MR.gCons (gN 2) MR.gNil)))) (Ay (Es (fOr (Nm (Nh (Tf "tuple" (Bj 1 Ef (Ae (Ad 0) Ag))))) (Nm (Nh (Bj 2 Er (Ae (Ad 1) (Ae (Hl (Ae (Ad 0) Ag)) Ag)))))) (B0 (fC (.bl false))) Co) (Ay (Br (Df [none,some 1] (Cq (Ad 0)) (gN 0) none C9) (gN 3)) (Ay (Es (fOr (Nm (Nh (Bj 2 Er (Ae (Ad 2) (Ae (Ad 3) Ag))))) (Be (f2 C4 (Bj 1 Ef (Ae (Ad 0) Ag)) (Kf (Ae (Ad 1) (Ae (Ad 2) Ag)))))) (B0 (fC (.bl false))) Co) (Ay (Es (Be (f2 Eh (Ad 0) (Kf Ag))) (B0 (fC (.bl true))) Co) (Ay (Br (O9 "SumTree" 2 Bx (Ae (Ax semLen (Ae (Ad 1) Ag)) Ag)) (gN 4)) (Ay (Hn (Jf (Ae (Ad 2) Ag)) (MR.gTup 2 (MR.gCons (gN 5) (MR.gCons (gN 6) MR.gNil))) Cs) (B0 (f2 Eh (Ar "SumTree" "row_now" 1 Bq (Ad 4) Ag) (Ax semTuple (Ae (Df [none,some 0] (Cq (Ad 1)) (gN 0) none Ci) Ag)))))))))))
noncomputable def Ft:FN:=fnU 7 1 Dg
noncomputable def Jv:FS:=(Gp (Of "list" G5 (Ad 1) (Ae (Ax Do (Ae (fSl C3 (Ad 0) (Cz (f2 B8 (Ad 2) (f2 semBitAnd (Ad 2) (f2 B8 (fC (.int 0)) (Ad 2))))) (Cz (Ad 2))) Ag)) Ag)))
noncomputable def Mi:FS:=(Ay (Br (H9 Ag) (gN 1)) (Ay (Hn (Lf (Ae (fC (.int 1)) (Ae (f2 semAddA (Ax semLen (Ae (Ad 0) Ag)) (fC (.int 1))) Ag))) (gN 2) Jv) (B0 (Ax semTuple (Ae (Ad 1) Ag)))))
noncomputable def Mr:FN:=fnU 3 1 Mi
noncomputable def Hu:FS:=(Ay (Es (Be (f2 Ou (Ad 2) (Ad 1))) (B0 (Ad 3)) Co) (Br (f2 semAddA (Ad 2) (Ax Do (Ae (fSl C3 (Ad 0) (Cz (Ad 3)) (Cz (f2 semAddA (Ad 3) (fC (.int 1))))) Ag))) (gN 2)))
noncomputable def Im:FS:=(Ay (Br (fC (.int 0)) (gN 2)) (Ay (Hn (Ia (Ae (f2 semAddA (Ax semLen (Ae (Ad 0) Ag)) (fC (.int 1))) Ag)) (gN 3) Hu) (B0 (fC .non))))
noncomputable def Id:FN:=fnU 4 2 Im
noncomputable def Ga:FS:=(Gp (Ar "SumTree" "put_to" 3 Bp (Ad 1) (Ae (f2 Bl (Ad 2) (fC (.int 1))) (Ae (Ad 3) Ag))))
noncomputable def Gb:FS:=(Ay (Br (O9 "SumTree" 2 Bx (Ae (Ax semLen (Ae (Ad 0) Ag)) Ag)) (gN 1)) (Ay (Hn (Jf (Ae (Ad 0) Ag)) (MR.gTup 2 (MR.gCons (gN 2) (MR.gCons (gN 3) MR.gNil))) Ga) (B0 (Ad 1))))
noncomputable def B7:FN:=fnU 4 1 Gb
noncomputable def Ec:FS:=(Ay (Br (f2 B8 (f2 Bl (f2 Kx (f2 Di (Ax Do (Ae (Ad 1) Ag)) (Bj 2 As (Ae (Ad 0) (Ae (fC (.int 1001)) Ag)))) (fC (.int 1000))) (Bj 2 As (Ae (Ad 0) (Ae (fC (.int 3)) Ag)))) (fC (.int 1))) (gN 4)) (Ay (Es (Be (f2 C4 (Ar "SumTree" "least_many" 2 Bh (Ad 2) (Ae (Ad 4) Ag)) (Bj 2 Id (Ae (Ad 1) (Ae (Ad 4) Ag))))) (B0 (fC (.bl false))) Co) (Ay (Br (Bj 2 As (Ae (Ad 0) (Ae (f2 Bl (Ax semLen (Ae (Ad 1) Ag)) (fC (.int 1))) Ag))) (gN 5)) (Ay (Br (Ar "SumTree" "least_many" 2 Bh (Ad 2) (Ae (Ar "SumTree" "sum_of_first" 2 Ai (Ad 2) (Ae (Ad 5) Ag)) Ag)) (gN 6)) (Es (fOr (Be (f2 (P4 false) (Ad 6) (fC .non))) (fOr (Be (f2 K4 (Ad 6) (Ad 5))) (Be (f2 C4 (Ar "SumTree" "sum_of_first" 2 Ai (Ad 2) (Ae (Ad 6) Ag)) (Ar "SumTree" "sum_of_first" 2 Ai (Ad 2) (Ae (Ad 5) Ag)))))) (B0 (fC (.bl false))) Co)))))
noncomputable def Dr:FS:=(Ay (Br (Bj 1 B7 (Ae (Ad 1) Ag)) (gN 2)) (Ay (Hn (Ia (Ae (fC (.int 4)) Ag)) (gN 3) Ec) (B0 (f2 (P4 false) (Ar "SumTree" "least_many" 2 Bh (Ad 2) (Ae (f2 Bl (Ax Do (Ae (Ad 1) Ag)) (fC (.int 1))) Ag)) (fC .non)))))
noncomputable def Dx:FN:=fnU 7 2 Dr
noncomputable def Cr:FE:=(Ax semAbs (Ae (Ad 0) Ag))
noncomputable def E3:FE:=(f2 semAddA (Ad 0) (Ad 1))
noncomputable def Ez:FE:=(f2 semAddA (Ad 0) (Ad 1))
noncomputable def Dm:FE:=(f2 B8 (fC (.int 0)) (f2 Kx (Ad 0) (f2 semAddA (fC (.int 1)) (Bj 2 As (Ae (Ad 1) (Ae (fC (.int 3)) Ag))))))
noncomputable def Eb:FS:=(Ay (Br (f2 semAddA (fC (.int 1)) (Bj 2 As (Ae (Ad 0) (Ae (Ad 2) Ag)))) (gN 5)) (Ay (Br (f2 semAddA (Ad 5) (Bj 2 As (Ae (Ad 0) (Ae (f2 B8 (f2 semAddA (Ad 2) (fC (.int 1))) (Ad 5)) Ag)))) (gN 6)) (Ay (Es (Be (f2 C4 (Ar "SumTree" "sum_from_to" 3 Bb (Ad 3) (Ae (Ad 5) (Ae (Ad 6) Ag))) (f2 B8 (Ar "SumTree" "sum_of_first" 2 Ai (Ad 3) (Ae (Ad 6) Ag)) (Ar "SumTree" "sum_of_first" 2 Ai (Ad 3) (Ae (f2 B8 (Ad 5) (fC (.int 1))) Ag))))) (B0 (fC (.bl false))) Co) (Es (fOr (Be (f2 C4 (Ar "SumTree" "sum_from_to" 3 Bb (Ad 3) (Ae (Ad 5) (Ae (Ad 6) Ag))) (Ax Do (Ae (fSl C3 (Ad 1) (Cz (f2 B8 (Ad 5) (fC (.int 1)))) (Cz (Ad 6))) Ag)))) (Be (f2 C4 (Ar "SumTree" "sum_of_first" 2 Ai (Ad 3) (Ae (Ad 6) Ag)) (Ax Do (Ae (fSl C3 (Ad 1) Dq (Cz (Ad 6))) Ag))))) (B0 (fC (.bl false))) Co))))
noncomputable def Du:FS:=(Ay (Br (Ax semLen (Ae (Ad 1) Ag)) (gN 2)) (Ay (Br (Bj 1 B7 (Ae (Ad 1) Ag)) (gN 3)) (Ay (Es (fOr (Be (f2 C4 (Ar "SumTree" "row_now" 1 Bq (Ad 3) Ag) (Ad 1))) (Be (f2 C4 (Ar "SumTree" "sum_of_first" 2 Ai (Ad 3) (Ae (Ad 2) Ag)) (Ax Do (Ae (Ad 1) Ag))))) (B0 (fC (.bl false))) Co) (Ay (Hn (Ia (Ae (fC (.int 6)) Ag)) (gN 4) Eb) (Ay (Br (Ar "SumTree" "cells_now" 1 A7 (Ad 3) Ag) (gN 7)) (Ay (Es (Be (f2 C4 (Ad 7) (Bj 1 Mr (Ae (Ad 1) Ag)))) (B0 (fC (.bl false))) Co) (Ay (Br (f2 semAddA (fC (.int 1)) (Bj 2 As (Ae (Ad 0) (Ae (Ad 2) Ag)))) (gN 8)) (Ay (Br (Bj 2 Dp (Ae (Ad 0) (Ae (fC (.int 2)) Ag))) (gN 9)) (Ay (Gp (Ar "SumTree" "put_to" 3 Bp (Ad 3) (Ae (Ad 8) (Ae (Ad 9) Ag)))) (Ay (Gp (Ar "SumTree" "put_to" 3 Bp (Ad 3) (Ae (Ad 8) (Ae (f2 B8 (fC (.int 0)) (Ad 9)) Ag)))) (Ay (Es (fOr (Be (f2 C4 (Ar "SumTree" "cells_now" 1 A7 (Ad 3) Ag) (Ad 7))) (Be (f2 C4 (Ar "SumTree" "row_now" 1 Bq (Ad 3) Ag) (Ad 1)))) (B0 (fC (.bl false))) Co) (Ay (Br (Ax semTuple (Ae (Df [none,some 0] (Cq (Ad 1)) (gN 0) none Dm) Ag)) (gN 10)) (Ay (Br (Bj 1 B7 (Ae (Df [none,none] (Qb (Ae (Ad 1) (Ae (Ad 10) Ag))) (MR.gTup 2 (MR.gCons (gN 0) (MR.gCons (gN 1) MR.gNil))) none Ez) Ag)) (gN 11)) (Ay (Br (Df [none,none] (Qb (Ae (Ad 7) (Ae (Ar "SumTree" "cells_now" 1 A7 (Bj 1 B7 (Ae (Ad 10) Ag)) Ag) Ag))) (MR.gTup 2 (MR.gCons (gN 0) (MR.gCons (gN 1) MR.gNil))) none E3) (gN 12)) (B0 (Sf (f2 Eh (Ar "SumTree" "cells_now" 1 A7 (Ad 11) Ag) (Ax semTuple (Ae (Ad 12) Ag))) (Bj 2 Dx (Ae (Ad 0) (Ae (Ax semTuple (Ae (Df [none] (Cq (Ad 1)) (gN 0) none Cr) Ag)) Ag)))))))))))))))))))
noncomputable def Ds:FN:=fnU 13 2 Du
noncomputable def N2:FS:=(Ay (Br (Bj 1 Lj (Ae (Ad 1) Ag)) (gN 2)) (Ay (Br (Bj 1 Jy (Ae (Ad 2) Ag)) (gN 3)) (Ay (Es (Nm (Nh (Bj 1 Ft (Ae (Ad 3) Ag)))) (B0 (fC (.bl false))) Co) (Es (Ab6 (Be (f2 C4 (Ad 3) (Kf Ag))) (Nm (Nh (Bj 2 Ds (Ae (Ad 2) (Ae (Ad 3) Ag)))))) (B0 (fC (.bl false))) Co))))
noncomputable def Afm:FS:=(Ay (Hn (Cq (f2 Bl (fSl Lx (Ad 0) Dq (Cz (fC (.int 2)))) (H9 (Ae (Bj 1 E2 (Ae (Ad 0) Ag)) Ag)))) (gN 1) N2) (B0 (fC (.bl true))))
noncomputable def Qs:FN:=fnU 4 1 Afm
theorem Rm(i:Int)(L:UH):Gu [.int i,.int i] L=some (.bl true,L):=by
  have t1:Kv (.int i) L=some "int" := rfl
  have t2:isT "int" "int" = true:=rfl
  have t3:isT "int" "bool" = false:=rfl
  simp[Gu,fnU,K7,t1,t2,t3]
theorem Aew(row:List Int)(a b:Nat)(h:a≤b):((row.drop a).take (b - a)).sum=pre row b - pre row a:=by
  unfold pre
  have:row.take b=row.take a++(row.drop a).take (b - a):=by
    rw[← List.take_add]
    congr 1
    omega
  rw[this,List.sum_append]
  omega
theorem toI_ints(l:List Int):mapO toI (l.map U.int)=some l:=by
  induction l with
  | nil=>rfl
  | cons a r ih=>simp only[List.map_cons,mapO,toI,ih,Option.bind_some,Option.map_some]
theorem Gw.of{L L':UH}(h:L.length≤L'.length)(e:∀ i,i < L.length→L'[i]? = L[i]?):Gw L L':=by
  refine ⟨L'.drop L.length,?_⟩
  apply List.ext_getElem?
  intro i
  by_cases hi:i < L.length
  · rw[List.getElem?_append_left hi];exact e i hi
  · rw[List.getElem?_append_right (by omega),List.getElem?_drop]
    congr 1
    omega
theorem nr1:(("row_now" : Str) == "many")=false:=by decide +kernel
theorem nr2:(("row_now" : Str) == "cells")=false:=by decide +kernel
theorem Cw(xs:List Int):Pl 6 (.tup (xs.map U.int)):=by
  rw[Kp]
  intro u hu
  obtain ⟨a,_,rfl⟩:=List.mem_map.mp hu
  exact Pl.int _ _
noncomputable def IsLeast(row:List Int)(n:Nat)(v:Int)(z:U):Prop:=(∃ m:Nat,m≤n∧z = .int m∧v≤pre row m∧∀ i,i < m→pre row i < v)∨(z = .non∧∀ i,i≤n→pre row i < v)
theorem IsLeast.one{row:List Int}{n:Nat}{v:Int}{z w:U}(a:IsLeast row n v z)(b:IsLeast row n v w):z=w:=by
  rcases a with ⟨m,h1,rfl,h2,h3⟩ | ⟨rfl,h1⟩
  · rcases b with ⟨k,k1,rfl,k2,k3⟩ | ⟨rfl,k1⟩
    · have:m=k:=by
        rcases Nat.lt_trichotomy m k with q | q | q
        · have:=k3 m q;omega
        · exact q
        · have:=h3 k q;omega
      rw[this]
    · have:=k1 m h1;omega
  · rcases b with ⟨k,k1,rfl,k2,k3⟩ | ⟨rfl,k1⟩
    · have:=h1 k k1;omega
    · rfl
theorem nq1:(("least_many" : Str) == "many")=false:=by decide +kernel
theorem nq2:(("least_many" : Str) == "cells")=false:=by decide +kernel
theorem Aca{L:UH}{t c n:Nat}{row cs:List Int}(T:Tree L t c n cs)(F:Fen row cs n)(hn:n≤200)(v:Int):∃ z,Bh [.ref t,.int v] L=some (z,L)∧IsLeast row n v z:=by
  have e:=Jt T (var0 (.ref t) [some (.int v),none] L)
  have hi:Ia (Ae (f2 Bl (Ho "SumTree" "many" (Ad 0)) (fC (.int 1))) Ag) [some (.ref t),some (.int v),none] L=some (.seq (Ch 0 (n+1)),L):=by
    refine Js ?_ (by omega)
    simp[e]
  rcases Ts (us:=Ch 0 (n+1)) (δ:=[some (.ref t),some (.int v),none]) (L:=L) (L0:=L) (body:=Cj) (g:=gN 2) (fun _ δ' L'=>(∃ y,δ'=[some (.ref t),some (.int v),y])∧L'=L) (fun _ L'=>L'=L) (fun k=>decide (v≤pre row k)) (fun k=>.int (k:Int)) hi ⟨⟨none,rfl⟩,rfl⟩
    (fun k u δ M hu ⟨⟨y,hδ⟩,hM⟩=>by
      subst hδ;subst hM
      obtain ⟨hk,rfl⟩:=Fx hu
      have hs:=Q8 (m:=k) T F hn (by omega)
      have h0:(0:Int)+(k:Int)=(k:Int):=by omega
      rw[h0]
      have m1:Ar "SumTree" "sum_of_first" 2 Ai (Ad 0) (Ae (Ad 2) Ag) [some (.ref t),some (.int v),some (.int k)] M=some (.int (pre row k),M):=Eu T nm1 nm2 rfl (us:=[.int k]) (M:=M) rfl rfl hs
      have tt:(Be (f2 Ou (Ar "SumTree" "sum_of_first" 2 Ai (Ad 0) (Ae (Ad 2) Ag)) (Ad 1))) [some (.ref t),some (.int v),some (.int k)] M=some (decide (v≤pre row k),M):=by
        rw[fTest_eq,f2_eq,m1]
        simp
      refine ⟨[some (.ref t),some (.int v),some (.int k)],M,rfl,fun hs=>⟨M,?_,rfl⟩,fun hs=>⟨[some (.ref t),some (.int v),some (.int k)],M,?_,⟨_,rfl⟩,rfl⟩⟩
      · unfold Cj
        rw[fIfS_eq,tt,hs]
        rfl
      · unfold Cj
        rw[fIfS_eq,tt,hs]
        rfl) with ⟨j,j1,j2,j3,L',e1,rfl⟩ | ⟨h1,δ',L',e1,⟨y,hδ⟩,rfl⟩
  · rw[Ey] at j1
    refine ⟨.int j,?_,.inl ⟨j,by omega,rfl,by simpa using j2,fun i hi=>by have:=j3 i hi;simpa using this⟩⟩
    unfold Bh fnU Ei
    simp only[List.length_cons,List.length_nil,if_true,List.map_cons,List.map_nil,List.replicate,List.cons_append,List.nil_append]
    rw[fSeq_eq,e1]
    rfl
  · rw[Ey] at h1
    refine ⟨.non,?_,.inr ⟨rfl,fun i hi=>by have:=h1 i (by omega);simpa using this⟩⟩
    unfold Bh fnU Ei
    simp only[List.length_cons,List.length_nil,if_true,List.map_cons,List.map_nil,List.replicate,List.cons_append,List.nil_append]
    rw[An e1]
    rfl
theorem Acp{row:List Int}{k:Nat}(h:k < row.length):pre row (k+1)=pre row k+row.getD k 0:=by
  unfold pre
  have ht:row.take (k+1)=row.take k++[row[k]'h]:=by rw[List.take_add_one,List.getElem?_eq_getElem h];rfl
  rw[ht,List.sum_append]
  simp[List.getD_eq_getElem?_getD,h]
theorem Ahh{row:List Int}{k:Nat}(h:k < row.length):L2.atI (row.map U.int) (k:Int)=some (.int (row.getD k 0)):=by
  rw[Rx (by omega) (by simp;omega),List.getElem?_map,Int.toNat_natCast,List.getElem?_eq_getElem h]
  simp[List.getD_eq_getElem?_getD,h]
theorem Xx{L:UH}{r:Nat}{xs:List Int}(hr:Ap L r=some (xs.map U.int))(k:Nat):(IU.zipT (xs.map U.int) r).at k L=some (xs.map fun x=>U.tup [.int x,.int x])[k]?:=by
  show (Ap L r).map _=_
  rw[hr]
  simp only[Option.map_some,List.getElem?_map]
  cases xs[k]? <;> rfl
theorem Kj{L:UH}{r:Nat}{xs:List Int}(hr:Ap L r=some (xs.map U.int))(hl:xs.length < 1000000):∃ L',Er [.tup (xs.map U.int),.ref r] L=some (.bl true,L')∧Gw L L':=by
  have hz:(V3 (Ae (Ad 0) (Ae (Ad 1) Ag))) [some (.tup (xs.map U.int)),some (.ref r)] L=some (.zipT (xs.map U.int) r,L):=by
    show (Ap L r).map _=_
    rw[hr]
    rfl
  have hsz:(IU.zipT (xs.map U.int) r).size L=xs.length:=by
    show (match Ap L r with | some ws=>min (xs.map U.int).length ws.length | none=>0)=_
    rw[hr];simp
  obtain ⟨x,e⟩:=Ek (ix:=[none,none]) (fi:=V3 (Ae (Ad 0) (Ae (Ad 1) Ag))) (it:=.zipT (xs.map U.int) r) (g:=(MR.gTup 2 (MR.gCons (gN 0) (MR.gCons (gN 1) MR.gNil)))) (tt:=some b_l_are_whole_1t) (fe:=Iq) (δ:=[some (.tup (xs.map U.int)),some (.ref r)]) (L:=L) (L0:=L)
    xs (fun x=>.tup [.int x,.int x]) (fun _=>false) (fun _=>.int 1) (fun δ=>∃ a b,δ = [a,b]) hz (by rw[hsz];exact Nat.le_refl _) (by omega) ⟨none,none,rfl⟩
    (fun k x=>Xx (J7 hr) k)
    (fun a δ x _ ⟨y,z,hδ⟩=>by
      subst hδ
      refine ⟨_,rfl,⟨_,_,rfl⟩,[],?_,fun h=>by cases h⟩
      simp[Ic,b_l_are_whole_1t,Rm])
  have hf:List.filter (fun _=>false) xs=([]:List Int):=List.filter_eq_nil_iff.mpr (fun _ _=>by simp)
  rw[hf,List.map_nil] at e
  have q1:Ap (L++x++[HU.lst []]++[HU.lst []]) (L++x).length=some []:=J7 (A0 (by simp))
  have q2:Ap (L++x++[HU.lst []]++[HU.lst []]) (L++x++[HU.lst []]).length=some []:=A0 (by simp)
  have he:=Yd q1 q2 (by simp) (by simp)
  have hb:Aej [] []=true:=rfl
  rw[hb] at he
  have t1:∀ l L,Kv (.tup l) L=some "tuple" := fun _ _=>rfl
  have t2:isT "tuple" "tuple" = true:=rfl
  have hlen:∀ L,semLen [.tup (xs.map U.int)] L=some (.int xs.length,L):=fun L=>by simp[semLen,lenU]
  have hlen2:semLen [.ref r] L=some (.int xs.length,L):=by simp[semLen,lenU,hr]
  have s1:(Es (fOr (Nm (Nh (Tf "tuple" (Ad 0)))) (Be (f2 C4 (Ax semLen (Ae (Ad 0) Ag)) (Ax semLen (Ae (Ad 1) Ag))))) (B0 (fC (.bl false))) Co) [some (.tup (xs.map U.int)),some (.ref r)] L=some (.nx [some (.tup (xs.map U.int)),some (.ref r)],L):=by
    simp[t1,t2,hlen,hlen2]
  refine ⟨L++x++[HU.lst []]++[HU.lst []],?_,⟨x++[HU.lst []]++[HU.lst []],by simp⟩⟩
  unfold Er fnU Ki
  simp only[List.length_cons,List.length_nil,if_true,List.map_cons,List.map_nil,Nat.sub_self,List.replicate_zero,List.append_nil]
  rw[An s1]
  simp only[Ka,f2_eq,e,Option.bind_some,fLst_eq,fNil_eq,List.length_nil,Gd (by omega:0≤16777216),if_true,he,Option.map_some]
theorem Gf{fe:FE}{v:U}{i:Nat}{δ:UE}{L L':UH}(e:fe δ L=some (v,L')):(Br fe (gN i)) δ L=some (.nx (δ.set i (some v)),L'):=by
  rw[Iv,e]
  simp only[Option.bind_some,gN_eq,Option.map_some]
theorem Pv{f:FN}{i:Nat}{u v:U}{δ:UE}{L L':UH}(h:Ad i δ L=some (u,L))(e:f [u] L=some (v,L')):(Bj 1 f (Ae (Ad i) Ag)) δ L=some (v,L'):=by
  rw[Kz,fCons_eq,h]
  simp only[Option.bind_some,fNil_eq,Option.map_some,List.length_cons,List.length_nil,if_true,e]
theorem Ajw{f:FN}{fe:FE}{u v:U}{δ:UE}{L L1 L':UH}(h:fe δ L=some (u,L1))(e:f [u] L1=some (v,L')):(Bj 1 f (Ae fe Ag)) δ L=some (v,L'):=by
  rw[Kz,fCons_eq,h]
  simp only[Option.bind_some,fNil_eq,Option.map_some,List.length_cons,List.length_nil,if_true,e]
theorem Ua{f:FN}{fa fb:FE}{u w v:U}{δ:UE}{L L1 L2 L':UH}(h:fa δ L=some (u,L1))(h2:fb δ L1=some (w,L2))(e:f [u,w] L2=some (v,L')):(Bj 2 f (Ae fa (Ae fb Ag))) δ L=some (v,L'):=by
  rw[Kz,fCons_eq,h,Option.bind_some,fCons_eq,h2]
  simp only[Option.bind_some,fNil_eq,Option.map_some,List.length_cons,List.length_nil,if_true,e]
theorem fn1{n:Nat}{b:FS}{u v:U}{L L':UH}(h:b (some u::List.replicate n none) L=some (.rt v,L')):fnU (n+1) 1 b [u] L=some (v,L'):=by
  unfold fnU
  simp only[List.length_cons,List.length_nil,if_true,List.map_cons,List.map_nil,List.cons_append,List.nil_append,Nat.add_sub_cancel,h]
  rfl
theorem Mn{fe:FE}{v:U}{δ:UE}{L L':UH}(e:fe δ L=some (v,L')):B0 fe δ L=some (.rt v,L'):=by
  rw[Ka,e];rfl
theorem Yz{L:UH}{X i:Nat}{l:List Int}(h:L[X]? = some (.lst (l.map U.int)))(hi:i < l.length):Dh (.ref X) (.int (i:Int)) L=some (.int (l.getD i 0),L):=by
  rw[semIx_ref,A0 h,Option.bind_some,Rx (by omega) (by simp;omega),List.getElem?_map,Int.toNat_natCast,List.getElem?_eq_getElem hi]
  simp[List.getD_eq_getElem?_getD,hi]
theorem Ads(xs:List Int)(L:UH):C4 (.tup (xs.map U.int)) (.tup (xs.map U.int)) L=some (.bl false,L):=by
  rw[Lp L (Cw xs) (Cw xs),Jx (Cw xs)];rfl
theorem Ur{g:FA}{δ:UE}{L L1:UH}{us:List U}(hg:g δ L=some (us,L1))(hl:us.length≤1000):H9 g δ L=some (.ref L1.length,L1++[.lst us]):=by
  rw[fLst_eq,hg,Option.bind_some,if_pos (Gd (by show us.length≤16777216;omega))]
theorem C7{fe:FE}{g:FA}{δ:UE}{L L1 L2:UH}{u:U}{us:List U}(h1:fe δ L=some (u,L1))(h2:g δ L1=some (us,L2)):Ae fe g δ L=some (u::us,L2):=by
  rw[fCons_eq,h1,Option.bind_some,h2];rfl
theorem Aku{g:FA}{fi:FE}{δ:UE}{L L1 L2:UH}{xs:List Int}{i d:Nat}(hg:g δ L=some (xs.map U.int,L1))(hl:xs.length≤1000)(hi:fi δ (L1++[.lst (xs.map U.int)])=some (.int (i:Int),L2))(hx:Ex d (L1++[.lst (xs.map U.int)]) L2)(hd:d < L1.length)(hlt:i < xs.length) :
    f2 Dh (H9 g) fi δ L=some (.int (xs.getD i 0),L2):=by
  have e:=Ur hg (by rw[List.length_map];exact hl)
  have at1:L2[L1.length]? = some (.lst (xs.map U.int)):=hx.get (by simp) (by omega)
  rw[f2_eq,e,Option.bind_some,hi,Option.bind_some,Yz at1 hlt]
theorem Ab0{c:FT}{f g:FS}{δ:UE}{L L':UH}(h:c δ L=some (true,L')):Es c f g δ L=f δ L':=by
  rw[fIfS_eq,h];rfl
theorem Gi{c:FT}{f:FS}{δ:UE}{L L':UH}(h:c δ L=some (false,L')):Es c f Co δ L=some (.nx δ,L'):=by
  rw[fIfS_eq,h];rfl
theorem neF{fa fb:FE}{u:List Int}{δ:UE}{L L1 L2:UH}(h1:fa δ L=some (.tup (u.map U.int),L1))(h2:fb δ L1=some (.tup (u.map U.int),L2)):(Be (f2 C4 fa fb)) δ L=some (false,L2):=by
  rw[fTest_eq,f2_eq,h1,Option.bind_some,h2,Option.bind_some,Ads]
  rfl
theorem neI{fa fb:FE}{u:Int}{δ:UE}{L L1 L2:UH}(h1:fa δ L=some (.int u,L1))(h2:fb δ L1=some (.int u,L2)):(Be (f2 C4 fa fb)) δ L=some (false,L2):=by
  rw[fTest_eq,f2_eq,h1,Option.bind_some,h2,Option.bind_some,Xg]
  simp
theorem orF{a b:FT}{δ:UE}{L L1 L2:UH}(h1:a δ L=some (false,L1))(h2:b δ L1=some (false,L2)):fOr a b δ L=some (false,L2):=by
  rw[Ahu,h1,Option.bind_some]
  exact h2
theorem Ael{fe:FE}{g:FG}{body:FS}{us:List U}{n:Nat}{δ:UE}{L L0:UH}(P:Nat→UE→UH→Prop)(hfe:fe δ L=some (.ref n,L0))(h0:P 0 δ L0)(hl:∀ k δ L,P k δ L→Ap L n=some us)(step:∀ (k:Nat) (u:U) δ L,us[k]? = some u→P k δ L→Pi g body (.tup [.int (k:Int),u]) δ L (P (k+1))) :
    ∃ δ' L',Hn (Jf (Ae fe Ag)) g body δ L=some (.nx δ',L')∧P us.length δ' L':=by
  have hen:(enU us).length=us.length:=by simp[enU]
  obtain ⟨δ',L',e,h⟩:=Ll (it:=.enm n) (g:=g) (body:=body) (us:=enU us) P (fun k δ L _ hp=>Ahq (hl k δ L hp))
    (fun k u δ L hu hp=>by
      have:(enU us)[k]? = (us[k]?).map fun u=>U.tup [.int (k:Int),u]:=by simp[enU]
      rw[this] at hu
      obtain ⟨w,hw,rfl⟩:=Option.map_eq_some_iff.mp hu
      exact step k w δ L hw hp) (us.length+1) 0 δ L0 (by omega) (by omega) h0
  rw[hen] at h
  refine ⟨δ',L',?_,h⟩
  have hs:=hl 0 δ L0 h0
  have hi:Jf (Ae fe Ag) δ L=some (.enm n,L0):=by
    unfold Jf
    simp only[fCons_eq,hfe,Option.bind_some,fNil_eq,Option.map_some,hs]
  rw[N1,hi]
  simp only[Option.bind_some,Aav hs,hen]
  exact e
theorem Ya{l:List U}{lo hi:Option Int}(h:HT.sIx l.length 0 lo=0∧HT.sIx l.length l.length hi=l.length):Jq l lo hi=l:=by
  unfold Jq;rw[h.1,h.2];simp
theorem slA_tup(l:List U)(lo hi:Option Int)(L:UH):C3 (.tup l) lo hi L=some (.tup (Jq l lo hi),L):=by
  unfold C3
  simp only
  split
  · rename_i h;rw[Ya h]
  · rfl
theorem pre_min(row:List Int)(k:Nat):pre row (min k row.length)=pre row k:=by
  unfold pre
  congr 1
  rw[List.take_eq_take_iff]
  omega
theorem Ac4(row:List Int)(a b:Nat)(h:a≤b):∃ x:List Int,Jq (row.map U.int) (some (a:Int)) (some (b:Int))=x.map U.int∧x.sum=pre row b - pre row a:=by
  refine ⟨(row.drop (min a row.length)).take (min b row.length - min a row.length),?_,?_⟩
  · unfold Jq;rw[HT.Ld,HT.Ld,List.length_map,← List.map_drop,← List.map_take]
  · rw[Aew _ _ _ (by omega),pre_min,pre_min]
theorem Tl(row:List Int)(b:Nat):∃ x:List Int,Jq (row.map U.int) none (some (b:Int))=x.map U.int∧x=row.take b:=by
  refine ⟨row.take (min b row.length),?_,by rw[List.take_eq_take_iff];omega⟩
  have h0:HT.sIx (row.map U.int).length 0 none=0:=rfl
  unfold Jq
  rw[h0,HT.Ld,List.length_map,List.drop_zero,Nat.sub_zero,← List.map_take]
theorem sum_tup(row:List Int)(L:UH):Do [.tup (row.map U.int)] L=some (.int row.sum,L):=by simp only[Do,toI_ints,Option.map_some]
theorem J9(row:List Int)(L:UH):semLen [.tup (row.map U.int)] L=some (.int row.length,L):=by simp[semLen,lenU]
theorem V5(row:List Int):pre row row.length=row.sum:=by unfold pre;rw[List.take_length]
theorem Ug{row:List Int}{a b:Nat}{fr fa fb:FE}{δ:UE}{L:UH}(h:a≤b)(hr:fr δ L=some (.tup (row.map U.int),L))(ha:fa δ L=some (.int (a:Int),L))(hb:fb δ L=some (.int (b:Int),L)):(Ax Do (Ae (fSl C3 fr (Cz fa) (Cz fb)) Ag)) δ L=some (.int (pre row b - pre row a),L):=by
  obtain ⟨x,e1,e2⟩:=Ac4 row a b h
  have hs:fSl C3 fr (Cz fa) (Cz fb) δ L=some (.tup (x.map U.int),L):=by
    rw[Vc,hr]
    simp only[Option.bind_some,fPart_eq,ha,hb,Option.map_some,slA_tup,e1]
  rw[fCall_eq,fCons_eq,hs]
  simp only[Option.bind_some,fNil_eq,Option.map_some,sum_tup,e2]
theorem Ad0{row:List Int}{b:Nat}{fr fb:FE}{δ:UE}{L:UH}(hr:fr δ L=some (.tup (row.map U.int),L))(hb:fb δ L=some (.int (b:Int),L)):(Ax Do (Ae (fSl C3 fr Dq (Cz fb)) Ag)) δ L=some (.int (pre row b),L):=by
  obtain ⟨x,e1,e2⟩:=Tl row b
  have hs:fSl C3 fr Dq (Cz fb) δ L=some (.tup (x.map U.int),L):=by
    rw[Vc,hr]
    simp only[Option.bind_some,fPart_eq,O7,hb,Option.map_some,slA_tup,e1]
  rw[fCall_eq,fCons_eq,hs]
  simp only[Option.bind_some,fNil_eq,Option.map_some,sum_tup,e2]
  rfl
noncomputable def TrF(L:UH)(t c:Nat)(row:List Int):Prop:=∃ cs,Tree L t c row.length cs∧Fen row cs row.length
theorem TrF.gw{L L':UH}{t c:Nat}{row:List Int}(T:TrF L t c row)(g:Gw L L'):TrF L' t c row:=by
  obtain ⟨cs,T,F⟩:=T;exact ⟨cs,T.gw g,F⟩
theorem TrF.ex{d:Nat}{L L':UH}{t c:Nat}{row:List Int}(T:TrF L t c row)(x:Ex d L L')(h1:t≠d)(h2:c≠d):TrF L' t c row:=by
  obtain ⟨cs,T,F⟩:=T;exact ⟨cs,T.ex x h1 h2,F⟩
theorem TrF.put{L:UH}{t c p:Nat}{row:List Int}{v:Int}{δ:UE}{fo fp fv:FE}(T:TrF L t c row)(hn:row.length≤200)(h1:1≤p)(h2:p≤row.length)(ho:fo δ L=some (.ref t,L))(hp:fp δ L=some (.int (p:Int),L))(hv:fv δ L=some (.int v,L)) :
    ∃ o,(Gp (Ar "SumTree" "put_to" 3 Bp fo (Ae fp (Ae fv Ag)))) δ L=some (.nx δ,L.set c o)∧TrF (L.set c o) t c (row.set (p - 1) (row.getD (p - 1) 0+v)):=by
  obtain ⟨cs,T,F⟩:=T
  have q:Ar "SumTree" "put_to" 3 Bp fo (Ae fp (Ae fv Ag)) δ L=some (.non,L.set c (.lst ((putF (row.length+1 - p) cs p v row.length).map U.int))):=Eu T nl3 nl4 ho (us:=[.int p,.int v]) (M:=L) (C7 hp (C7 hv rfl)) rfl (Ag2 T hn h1 h2)
  refine ⟨_,by rw[Ii,q];rfl,putF (row.length+1 - p) cs p v row.length,?_,?_⟩
  · rw[List.length_set];exact T.put (Os _ _ _ _ _)
  · rw[List.length_set];exact F.put v hn h1 h2
theorem TrF.sum{L:UH}{t c m:Nat}{row:List Int}{δ:UE}{fo fm:FE}(T:TrF L t c row)(hn:row.length≤200)(h:m≤row.length)(ho:fo δ L=some (.ref t,L))(hm:fm δ L=some (.int (m:Int),L)) :
    (Ar "SumTree" "sum_of_first" 2 Ai fo (Ae fm Ag)) δ L=some (.int (pre row m),L):=by
  obtain ⟨cs,T,F⟩:=T
  exact Eu T nm1 nm2 ho (us:=[.int m]) (M:=L) (C7 hm rfl) rfl (Q8 T F hn h)
theorem TrF.from_to{L:UH}{t c a b:Nat}{row:List Int}{δ:UE}{fo fa fb:FE}(T:TrF L t c row)(hn:row.length≤200)(a1:1≤a)(a2:a≤b)(b2:b≤row.length)(ho:fo δ L=some (.ref t,L))(ha:fa δ L=some (.int (a:Int),L))(hb:fb δ L=some (.int (b:Int),L)) :
    (Ar "SumTree" "sum_from_to" 3 Bb fo (Ae fa (Ae fb Ag))) δ L=some (.int (pre row b - pre row (a - 1)),L):=by
  obtain ⟨cs,T,F⟩:=T
  have q:=Pc (a:=a) (b:=b) T F hn a1 (by omega) (by omega) b2
  rw[if_neg (by omega)] at q
  exact Eu T nm3 nm4 ho (us:=[.int a,.int b]) (M:=L) (C7 ha (C7 hb rfl)) rfl q
theorem TrF.row_now{L:UH}{t c:Nat}{row:List Int}{δ:UE}{fo:FE}(T:TrF L t c row)(hn:row.length≤200)(ho:fo δ L=some (.ref t,L)):∃ L',(Ar "SumTree" "row_now" 1 Bq fo Ag) δ L=some (.tup (row.map U.int),L')∧Gw L L':=by
  obtain ⟨cs,T,F⟩:=T
  obtain ⟨L',e,g⟩:=U5 T F hn
  exact ⟨L',Eu T nr1 nr2 ho (us:=[]) (M:=L) rfl rfl e,g⟩
theorem TrF.cells{L:UH}{t c:Nat}{row:List Int}{δ:UE}{fo:FE}{L0:UH}(T:TrF L t c row)(ho:fo δ L0=some (.ref t,L)):∃ L',(Ar "SumTree" "cells_now" 1 A7 fo Ag) δ L0=some (.tup ((Bu row).map U.int),L')∧Gw L L':=by
  obtain ⟨cs,T,F⟩:=T
  obtain ⟨L',e,g⟩:=Ru T
  rw[F.tail] at e
  refine ⟨L',?_,g⟩
  unfold Ar
  simp only[ho,Option.bind_some,He T.ob,Acd row.length c nl5 nl6,if_true,fNil_eq,List.length_nil,e]
theorem TrF.least{L:UH}{t c:Nat}{row:List Int}{v:Int}{δ:UE}{fo fv:FE}(T:TrF L t c row)(hn:row.length≤200)(ho:fo δ L=some (.ref t,L))(hv:fv δ L=some (.int v,L)) :
    ∃ z,(Ar "SumTree" "least_many" 2 Bh fo (Ae fv Ag)) δ L=some (z,L)∧IsLeast row row.length v z:=by
  obtain ⟨cs,T,F⟩:=T
  obtain ⟨z,e,i⟩:=Aca T F hn v
  exact ⟨z,Eu T nq1 nq2 ho (us:=[.int v]) (M:=L) (C7 hv rfl) rfl e,i⟩
theorem Q5{n:Nat}{δ:UE}{L:UH}{fe:FE}(hn:n≤200)(h:fe δ L=some (.int (n:Int),L)):∃ L',(O9 "SumTree" 2 Bx (Ae fe Ag)) δ L=some (.ref L.length,L')∧TrF L' L.length (L.length+2) (List.replicate n 0)∧Gw L L':=by
  obtain ⟨L',e,T,g⟩:=Adq n hn L
  refine ⟨L',?_,⟨List.replicate (n+1) 0,by rw[List.length_replicate];exact T,by rw[List.length_replicate];exact Fen.new n⟩,g⟩
  unfold O9
  simp only[fCons_eq,h,Option.bind_some,fNil_eq,Option.map_some,List.length_cons,List.length_nil,if_true,e]
noncomputable def fil(row:List Int)(k:Nat):List Int:=row.take k++List.replicate (row.length - k) 0
theorem Afb(row:List Int){k:Nat}(h:k≤row.length):(fil row k).length=row.length:=by
  unfold fil;simp;omega
theorem Wi(row:List Int):fil row row.length=row:=by unfold fil;simp
theorem Ql{row:List Int}{k:Nat}(h:k < row.length):row.take (k+1)=row.take k++[row.getD k 0]:=by
  rw[List.take_add_one,List.getElem?_eq_getElem h,List.getD_eq_getElem?_getD,List.getElem?_eq_getElem h];rfl
theorem Adc{row:List Int}{k:Nat}(h:k < row.length):(fil row k).set k ((fil row k).getD k 0+row.getD k 0)=fil row (k+1):=by
  have h1:row.length - k=(row.length - (k+1))+1:=by omega
  have hl:(row.take k).length=k:=by simp;omega
  unfold fil
  rw[h1,List.replicate_succ]
  have hg:(row.take k++0::List.replicate (row.length - (k+1)) 0).getD k 0=0:=by
    rw[List.getD_eq_getElem?_getD,List.getElem?_append_right (by omega),hl,Nat.sub_self];rfl
  rw[hg,List.set_append_right _ _ (by omega),hl,Nat.sub_self,List.set_cons_zero,Int.zero_add,Ql h]
  simp
theorem Qh{L M:UH}{t c k:Nat}{row:List Int}{x0 y2 y3:Option U}(hn:row.length≤200)(hk:k < row.length)(T:TrF M t c (fil row k))(g:Gw L M)(hc:L.length≤c) :
    Pi (MR.gTup 2 (MR.gCons (gN 2) (MR.gCons (gN 3) MR.gNil))) Ga (.tup [.int (k:Int),.int (row.getD k 0)]) [x0,some (.ref t),y2,y3] M (fun δ' M'=>(∃ y2 y3,δ'=[x0,some (.ref t),y2,y3])∧TrF M' t c (fil row (k+1))∧Gw L M'):=by
  refine ⟨[x0,some (.ref t),some (.int (k:Int)),some (.int (row.getD k 0))],M,rfl,?_⟩
  have hlen:=Afb row (Nat.le_of_lt hk)
  obtain ⟨o,e,T2⟩:=T.put (p:=k+1) (v:=row.getD k 0) (δ:=[x0,some (.ref t),some (.int (k:Int)),some (.int (row.getD k 0))]) (fo:=Ad 1) (fp:=f2 Bl (Ad 2) (fC (.int 1))) (fv:=Ad 3) (by omega) (by omega) (by omega) rfl rfl rfl
  rw[Nat.add_sub_cancel,Adc hk] at T2
  exact ⟨_,_,.inl e,⟨_,_,rfl⟩,T2,g.set hc o⟩
theorem Ov(row:List Int)(hn:row.length≤200)(L:UH):∃ t c L',B7 [.tup (row.map U.int)] L=some (.ref t,L')∧TrF L' t c row∧Gw L L'∧L.length≤t∧L.length≤c:=by
  obtain ⟨L1,e1,T1,g1⟩:=Q5 (n:=row.length) (δ:=[some (.tup (row.map U.int)),none,none,none]) (L:=L) (fe:=Ax semLen (Ae (Ad 0) Ag)) hn (by simp[J9])
  have hi:(Jf (Ae (Ad 0) Ag)) [some (.tup (row.map U.int)),some (.ref L.length),none,none] L1=some (.seq (Hf (row.map U.int)),L1):=rfl
  have hz:fil row 0=List.replicate row.length 0:=by unfold fil;simp
  obtain ⟨δ',L',e2,⟨y2,y3,hδ⟩,T2,g2⟩:=Ja (us:=Hf (row.map U.int)) (body:=Ga) (g:=MR.gTup 2 (MR.gCons (gN 2) (MR.gCons (gN 3) MR.gNil))) (fun k δ' M=>(∃ y2 y3,δ'=[some (.tup (row.map U.int)),some (.ref L.length),y2,y3])∧TrF M L.length (L.length+2) (fil row k)∧Gw L M) hi ⟨⟨none,none,rfl⟩,by rw[hz];exact T1,g1⟩
    (fun k u δ M hu ⟨⟨y2,y3,hδ⟩,T,g⟩=>by
      subst hδ
      unfold Hf at hu
      rw[List.getElem?_mapIdx,List.getElem?_map] at hu
      have hk:k < row.length:=by
        rcases Nat.lt_or_ge k row.length with q | q
        · exact q
        · rw[List.getElem?_eq_none q] at hu;cases hu
      rw[List.getElem?_eq_getElem hk] at hu
      have hu:U.tup [.int (k:Int),.int row[k]]=u:=by simpa using hu
      subst hu
      have hd:row[k]=row.getD k 0:=by rw[List.getD_eq_getElem?_getD,List.getElem?_eq_getElem hk];rfl
      rw[hd]
      exact Qh hn hk T g (by omega))
  have hl:(Hf (row.map U.int)).length=row.length:=by unfold Hf;simp
  rw[hl,Wi] at T2
  refine ⟨L.length,L.length+2,L',?_,T2,g2,Nat.le_refl _,by omega⟩
  refine fn1 (n:=3) ?_
  show Gb [some (.tup (row.map U.int)),none,none,none] L=_
  unfold Gb
  have s1:=Gf (i:=1) e1
  rw[An s1]
  show Ay _ _ [some (.tup (row.map U.int)),some (.ref L.length),none,none] L1=_
  rw[An e2,hδ]
  rfl
theorem Ab4{r:Nat}{row:List Int}{L:UH}(hr:Ap L r=some (row.map U.int))(hn:row.length≤200):∃ t c L',B7 [.ref r] L=some (.ref t,L')∧TrF L' t c row∧Gw L L'∧L.length≤t∧L.length≤c:=by
  have hln:semLen [.ref r] L=some (.int row.length,L):=by simp[semLen,lenU,hr]
  obtain ⟨L1,e1,T1,g1⟩:=Q5 (n:=row.length) (δ:=[some (.ref r),none,none,none]) (L:=L) (fe:=Ax semLen (Ae (Ad 0) Ag)) hn (by simp[hln])
  have hz:fil row 0=List.replicate row.length 0:=by unfold fil;simp
  obtain ⟨δ',L',e2,⟨y2,y3,hδ⟩,T2,g2⟩:=Ael (fe:=Ad 0) (us:=row.map U.int) (n:=r) (L0:=L1) (L:=L1) (δ:=[some (.ref r),some (.ref L.length),none,none]) (body:=Ga) (g:=MR.gTup 2 (MR.gCons (gN 2) (MR.gCons (gN 3) MR.gNil))) (fun k δ' M=>(∃ y2 y3,δ'=[some (.ref r),some (.ref L.length),y2,y3])∧TrF M L.length (L.length+2) (fil row k)∧Gw L M) rfl ⟨⟨none,none,rfl⟩,by rw[hz];exact T1,g1⟩
    (fun k δ M h=>h.2.2.seq hr)
    (fun k u δ M hu ⟨⟨y2,y3,hδ⟩,T,g⟩=>by
      subst hδ
      rw[List.getElem?_map] at hu
      have hk:k < row.length:=by
        rcases Nat.lt_or_ge k row.length with q | q
        · exact q
        · rw[List.getElem?_eq_none q] at hu;cases hu
      rw[List.getElem?_eq_getElem hk] at hu
      have hd:row[k]=row.getD k 0:=by rw[List.getD_eq_getElem?_getD,List.getElem?_eq_getElem hk];rfl
      rw[hd] at hu
      cases hu
      exact Qh hn hk T g (by omega))
  rw[List.length_map,Wi] at T2
  refine ⟨L.length,L.length+2,L',?_,T2,g2,Nat.le_refl _,by omega⟩
  refine fn1 (n:=3) ?_
  show Gb [some (.ref r),none,none,none] L=_
  unfold Gb
  have s1:=Gf (i:=1) e1
  rw[An s1]
  show Ay _ _ [some (.ref r),some (.ref L.length),none,none] L1=_
  rw[An e2,hδ]
  rfl
noncomputable def Sm(ns:List Int):Prop:=∀ n∈ns,-9999999999≤n∧n≤9999999999
theorem drw{L:UH}{d i:Nat}{B many:Int}{δ:UE}{fb:FE}(D:Seed L d B)(hB:B≤1000000000000)(h0:0 < many)(h1:many < 1000000000000000)(hv:Ad i δ L=some (.ref d,L))(hb:fb δ L=some (.int many,L)) :
    ∃ (r:Nat) (L':UH),(Bj 2 As (Ae (Ad i) (Ae fb Ag))) δ L=some (.int (r:Int),L')∧(r:Int) < many∧Seed L' d (B+1)∧Ex d L L':=by
  obtain ⟨r,L',e,a,b,D',x⟩:=draw_ok D hB h0 h1
  refine ⟨r.toNat,L',?_,by omega,D',x⟩
  rw[Int.toNat_of_nonneg a]
  exact Ua hv hb e
theorem Abt{L:UH}{f:Nat}{l:List U}(hf:L[f]? = some (.lst l))(h1:1≤l.length){fe:FE}{v:U}{δ:UE}{L0:UH}(e:fe δ L0=some (v,L))(hv:Ad 2 δ L=some (.ref f,L)) :
    (Br fe (MR.gSub (Ad 2) (U0 (fC (.int 1))))) δ L0=some (.nx δ,L.set f (.lst (l.set (l.length - 1) v))):=by
  have hn:(U0 (fC (.int 1))) δ L=some (.int (-1),L):=rfl
  have hx:ixN l.length (-1)=some (l.length - 1):=by
    unfold ixN
    rw[if_neg (by decide),if_pos (by omega)]
    congr 1
    omega
  rw[Iv,e]
  simp only[Option.bind_some,gSub_eq,hv,hn,E5 hf,hx,Option.map_some]
theorem Acf{L0 L:UH}{d f k:Nat}{B way:Int}{ns:List Int}{y3:Option U}(hw:way=0∨way=1∨way=2)(D:Seed L d B)(hB:B≤1000000)(hf:L[f]? = some (.lst (ns.map U.int)))(hfd:f≠d)(hl:ns.length=k)(hk:k≤200)(hs:Sm ns)(x0:Ex d L0 L)(hL:L0.length≤f)(v3:Option U) :
    ∃ (L':UH) (ms:List Int),Fy [some (.ref d),some (.int way),some (.ref f),v3] L=some (.nx [some (.ref d),some (.int way),some (.ref f),v3],L')∧L'[f]? = some (.lst (ms.map U.int))∧ms.length=k+1∧Sm ms∧Seed L' d (B+6)∧Ex d L0 L':=by
  obtain ⟨r,L1,e1,a1,b1,D1,x1⟩:=Oa D (by omega) hw
  have f1:=x1.get hf hfd
  have q1:(Bj 2 Dp (Ae (Ad 0) (Ae (Ad 1) Ag))) [some (.ref d),some (.int way),some (.ref f),v3] L=some (.int r,L1):=Ua rfl rfl e1
  have ap:=Qv (U.int r) f1 (by simp;omega)
  have s1:(Gp (Of "list" G5 (Ad 2) (Ae (Bj 2 Dp (Ae (Ad 0) (Ae (Ad 1) Ag))) Ag))) [some (.ref d),some (.int way),some (.ref f),v3] L=some (.nx [some (.ref d),some (.int way),some (.ref f),v3],L1.set f (.lst (ns.map U.int++[.int r]))):=by
    have ty:=W5 hf
    simp only[Ii,fMeth_eq,fVar_eq,List.getElem?_cons_succ,List.getElem?_cons_zero,Option.join_some,Option.map_some,Option.bind_some,ty,if_true]
    rw[fCons_eq,q1]
    simp only[Option.bind_some,fNil_eq,Option.map_some,ap]
  have hms:ns.map U.int++[U.int r]=(ns++[r]).map U.int:=by simp
  rw[hms] at s1
  have hfl:=(List.getElem?_eq_some_iff.mp f1).1
  have f2':(L1.set f (.lst ((ns++[r]).map U.int)))[f]? = some (.lst ((ns++[r]).map U.int)):=List.getElem?_set_self hfl
  have D2:Seed (L1.set f (.lst ((ns++[r]).map U.int))) d (B+4):=D1.set hfd _
  have X2:Ex d L0 (L1.set f (.lst ((ns++[r]).map U.int))):=(x0.trans x1).set hL _
  generalize L1.set f (.lst ((ns++[r]).map U.int))=M at s1 f2' D2 X2
  have hs2:Sm (ns++[r]):=fun n hn=>by
    rcases List.mem_append.mp hn with q | q
    · exact hs n q
    · rw[List.mem_singleton] at q;subst q;exact ⟨a1,b1⟩
  obtain ⟨r2,M2,e2,b2,D3,x3⟩:=drw (many:=4) (i:=0) (δ:=[some (.ref d),some (.int way),some (.ref f),v3]) (fb:=fC (.int 4)) D2 (by omega) (by decide) (by decide) rfl rfl
  have f3:=x3.get f2' hfd
  have t2:(Be (f2 Eh (Bj 2 As (Ae (Ad 0) (Ae (fC (.int 4)) Ag))) (fC (.int 0)))) [some (.ref d),some (.int way),some (.ref f),v3] M=some (decide ((r2:Int)=0),M2):=by
    rw[fTest_eq,f2_eq,e2]
    simp
    rw[Bool.eq_iff_iff]
    simp
  have hlr:(ns++[r]).length=k+1:=by simp[hl]
  unfold Fy
  rw[An s1]
  by_cases h0:(r2:Int)=0
  · obtain ⟨j,M3,e3,b3,D4,x4⟩:=drw (many:=((ns++[r]).length:Nat)) (i:=0) (δ:=[some (.ref d),some (.int way),some (.ref f),v3]) (fb:=Ax semLen (Ae (Ad 2) Ag)) D3 (by omega) (by omega) (by omega) rfl (by
      have:=Ad8 f3
      rw[List.length_map] at this
      simp[this])
    have f4:=x4.get f3 hfd
    have hj:j < (ns++[r]).length:=by omega
    have ix:=Yz f4 hj
    have e4:(f2 Dh (Ad 2) (Bj 2 As (Ae (Ad 0) (Ae (Ax semLen (Ae (Ad 2) Ag)) Ag)))) [some (.ref d),some (.int way),some (.ref f),v3] M2=some (.int ((ns++[r]).getD j 0),M3):=by
      rw[f2_eq]
      simp only[fVar_eq,List.getElem?_cons_succ,List.getElem?_cons_zero,Option.join_some,Option.map_some,Option.bind_some,e3,ix]
    have s4:=Abt (δ:=[some (.ref d),some (.int way),some (.ref f),v3]) f4 (by simp) e4 rfl
    rw[decide_eq_true h0] at t2
    rw[Ab0 t2,s4]
    have hset:(((ns++[r]).map U.int).set (((ns++[r]).map U.int).length - 1) (U.int ((ns++[r]).getD j 0)))=((ns++[r]).set ((ns++[r]).length - 1) ((ns++[r]).getD j 0)).map U.int:=by
      rw[List.map_set,List.length_map]
    rw[hset]
    have hfl3:=(List.getElem?_eq_some_iff.mp f4).1
    refine ⟨_,(ns++[r]).set ((ns++[r]).length - 1) ((ns++[r]).getD j 0),rfl,List.getElem?_set_self hfl3,by simp;omega,fun n hn=>?_,(D4.mono (by omega)).set hfd _,(X2.trans (x3.trans x4)).set hL _⟩
    rcases List.mem_or_eq_of_mem_set hn with q | q
    · exact hs2 n q
    · rw[q,List.getD_eq_getElem?_getD,List.getElem?_eq_getElem hj]
      exact hs2 _ (List.getElem_mem hj)
  · rw[decide_eq_false h0] at t2
    rw[Gi t2]
    exact ⟨M2,ns++[r],rfl,f3,by simp;omega,hs2,D3.mono (by omega),X2.trans x3⟩
theorem Vq{L:UH}{d:Nat}{B:Int}(D:Seed L d B)(hB:B≤1000):∃ (ns:List Int) (L':UH),Jy [.ref d] L=some (.tup (ns.map U.int),L')∧ns.length≤200∧Sm ns∧Seed L' d 3000∧Ex d L L':=by
  have hdl:=D.lt
  obtain ⟨way,L1,e1,b1,D1,x1⟩:=drw (many:=3) (i:=0) (δ:=[some (.ref d),none,none,none]) (fb:=fC (.int 3)) D (by omega) (by decide) (by decide) rfl rfl
  have s1:=Gf (i:=1) e1
  have s2:(Br (H9 Ag) (gN 2)) [some (.ref d),some (.int (way:Int)),none,none] L1=some (.nx [some (.ref d),some (.int (way:Int)),some (.ref L1.length),none],L1++[.lst []]):=Gf (Ur rfl (by simp))
  have D2:=D1.new [HU.lst []]
  have hl1:d < L1.length:=D1.lt
  generalize hM:L1++[HU.lst []]=M at s2 D2
  have xM:Ex d L M:=by rw[← hM];exact x1.trans (Ex.new d L1 _)
  have fM:M[L1.length]? = some (.lst []):=by rw[← hM];simp
  let δ:UE:=[some (.ref d),some (.int (way:Int)),some (.ref L1.length),none]
  obtain ⟨a,A1,ea,ba,Da,xa⟩:=drw (many:=8) (i:=0) (δ:=δ) (fb:=fC (.int 8)) D2 (by omega) (by decide) (by decide) rfl rfl
  obtain ⟨b,A2,eb,bb,Db,xb⟩:=drw (many:=40) (i:=0) (δ:=δ) (fb:=fC (.int 40)) Da (by omega) (by decide) (by decide) rfl rfl
  obtain ⟨c,A3,ec,bc,Dc,xc⟩:=drw (many:=201) (i:=0) (δ:=δ) (fb:=fC (.int 201)) Db (by omega) (by decide) (by decide) rfl rfl
  have hg:(Ae (Bj 2 As (Ae (Ad 0) (Ae (fC (.int 8)) Ag))) (Ae (Bj 2 As (Ae (Ad 0) (Ae (fC (.int 40)) Ag))) (Ae (Bj 2 As (Ae (Ad 0) (Ae (fC (.int 201)) Ag))) Ag))) δ M=some ([(a:Int),(b:Int),(c:Int)].map U.int,A3):=C7 ea (C7 eb (C7 ec rfl))
  obtain ⟨w,A4,ew,bw,Dw,xw⟩:=drw (many:=3) (i:=0) (δ:=δ) (fb:=fC (.int 3)) (Dc.new [HU.lst ([(a:Int),(b:Int),(c:Int)].map U.int)]) (by omega) (by decide) (by decide) rfl rfl
  have hdA:d < A3.length:=Dc.lt
  have hp:=Aku (xs:=[(a:Int),(b:Int),(c:Int)]) hg (by simp) ew xw hdA (by simp;omega)
  have hm:∃ m:Nat,([(a:Int),(b:Int),(c:Int)].getD w 0)=(m:Int)∧m≤200:=by
    have:w=0∨w=1∨w=2:=by omega
    rcases this with rfl | rfl | rfl
    · exact ⟨a,rfl,by omega⟩
    · exact ⟨b,rfl,by omega⟩
    · exact ⟨c,rfl,by omega⟩
  obtain ⟨m,hm,hm2⟩:=hm
  rw[hm] at hp
  have xA:Ex d M A4:=xa.trans (xb.trans (xc.trans ((Ex.new d A3 _).trans xw)))
  have hfd:L1.length≠d:=by omega
  have hi:=Js (n:=m) (δ:=δ) (L:=M) (L':=A4) (g:=Ae (f2 Dh (H9 (Ae (Bj 2 As (Ae (Ad 0) (Ae (fC (.int 8)) Ag))) (Ae (Bj 2 As (Ae (Ad 0) (Ae (fC (.int 40)) Ag))) (Ae (Bj 2 As (Ae (Ad 0) (Ae (fC (.int 201)) Ag))) Ag)))) (Bj 2 As (Ae (Ad 0) (Ae (fC (.int 3)) Ag)))) Ag) (C7 hp rfl) (by omega)
  have hL:L.length≤L1.length:=x1.le
  obtain ⟨δ',L',e3,⟨y3,ns,hδ,hf,hl,hs,D',x'⟩⟩:=Ja (us:=Ch 0 m) (body:=Fy) (g:=gN 3) (fun k δ' M'=>∃ y3 ns,δ'=[some (.ref d),some (.int (way:Int)),some (.ref L1.length),y3]∧M'[L1.length]? = some (.lst (ns.map U.int))∧ns.length=k∧Sm ns∧Seed M' d (1010+6 * k)∧Ex d L M') hi
    ⟨none,[],rfl,xA.get fM hfd,rfl,(fun n hn=>by cases hn),Dw.mono (by omega),xM.trans xA⟩
    (fun k u δ1 M1 hu ⟨y3,ns,hδ,hf,hl,hs,D',x'⟩=>by
      subst hδ
      obtain ⟨hk,rfl⟩:=Fx hu
      obtain ⟨M2,ms,e,f',l',s',D2,x2⟩:=Acf (L0:=L) (k:=k) (y3:=none) (way:=(way:Int)) (by omega) D' (by omega) hf hfd hl (by omega) hs x' hL (some (.int (0+(k:Int))))
      exact ⟨_,M1,rfl,_,M2,.inl e,_,ms,rfl,f',l',s',D2.mono (by omega),x2⟩)
  rw[Ey] at hl D'
  refine ⟨ns,L',?_,by omega,hs,D'.mono (by omega),x'⟩
  refine fn1 (n:=3) ?_
  show Ju [some (.ref d),none,none,none] L=_
  unfold Ju
  rw[An s1]
  show Ay _ _ [some (.ref d),some (.int (way:Int)),none,none] L1=_
  rw[An s2,An e3,hδ]
  refine Mn ?_
  have ht:semTuple [.ref L1.length] L'=some (.tup (ns.map U.int),L'):=by simp only[semTuple,A0 hf,Option.map_some]
  simp[ht]
theorem Acz(kvs:List (Key×U))(k k':Key)(v:U):No (Te kvs k v) k'=if k'=k then some v else No kvs k':=by
  unfold Te
  by_cases ha:(kvs.any fun kv=>decide (kv.1=k))=true
  · rw[if_pos ha]
    induction kvs with
    | nil=>simp at ha
    | cons kv kvs ih=>
      by_cases h1:kv.1=k
      · by_cases h2:k'=k
        · subst h2
          simp[No,h1]
        · have hn:¬ k=k':=fun e=>h2 e.symm
          rw[if_neg h2]
          by_cases hr:(kvs.any fun kv=>decide (kv.1=k))=true
          · have:=ih hr
            rw[if_neg h2] at this
            unfold No at this ⊢
            rw[List.map_cons,if_pos h1,List.find?_cons,List.find?_cons]
            simp only[h1,hn,decide_false]
            exact this
          · have hm:kvs.map (fun kv=>if kv.1=k then (kv.1,v) else kv)=kvs:=by
              conv=>rhs;rw[← List.map_id kvs]
              refine List.map_congr_left fun a hx=>?_
              have:¬ a.1=k:=fun e=>hr (List.any_eq_true.mpr ⟨a,hx,by simpa using e⟩)
              rw[if_neg this];rfl
            unfold No
            rw[List.map_cons,if_pos h1,hm,List.find?_cons,List.find?_cons]
            simp only[h1,hn,decide_false]
      · have hr:(kvs.any fun kv=>decide (kv.1=k))=true:=by
          rw[List.any_cons] at ha
          simpa[h1] using ha
        have:=ih hr
        unfold No at this ⊢
        rw[List.map_cons,if_neg h1,List.find?_cons,List.find?_cons]
        by_cases h3:kv.1=k'
        · have h2:¬ k'=k:=fun e=>h1 (h3.trans e)
          simp only[h3,decide_true,Option.map_some,if_neg h2]
        · simp only[h3,decide_false]
          exact this
  · rw[if_neg ha]
    unfold No
    rw[List.find?_append]
    by_cases h2:k'=k
    · subst h2
      have:kvs.find? (fun kv=>decide (kv.1=k'))=none:=by
        rw[List.find?_eq_none]
        intro x hx
        simp only[decide_eq_true_eq]
        exact fun e=>ha (List.any_eq_true.mpr ⟨x,hx,by simpa using e⟩)
      rw[this,if_pos rfl]
      simp
    · have hn:¬ k=k':=fun e=>h2 e.symm
      rw[if_neg h2]
      cases kvs.find? (fun kv=>decide (kv.1=k')) <;> simp[hn]
theorem Yo(kvs:List (Key×U))(k:Key)(v:U):(Te kvs k v).length≤kvs.length+1:=by
  unfold Te
  split <;> simp
theorem add_mem{σ:List Int}{k x:Int}:x∈SW.Fd σ k↔x∈σ∨x=k:=by
  unfold SW.Fd
  split
  · rename_i h
    exact ⟨.inl,fun q=>q.elim id fun e=>by rw[e];exact h⟩
  · simp
theorem Agl{σ:List Int}{k:Int}(h:σ.Nodup):(SW.Fd σ k).Nodup:=by
  unfold SW.Fd
  split
  · exact h
  · rename_i hk
    rw[List.nodup_append]
    exact ⟨h,by simp,fun x hx y hy=>by simp at hy;subst hy;intro q;exact hk (q ▸ hx)⟩
theorem Ps:∀ (l σ:List Int),σ.Nodup→(l.foldl SW.Fd σ).Nodup∧∀ x,x∈l.foldl SW.Fd σ↔x∈σ∨x∈l
  | [],σ,h=>⟨h,fun x=>by simp⟩
  | a::l,σ,h=>by
    obtain ⟨h1,h2⟩:=Ps l (SW.Fd σ a) (Agl h)
    refine ⟨h1,fun x=>?_⟩
    rw[List.foldl_cons,h2 x,add_mem,List.mem_cons,or_assoc]
theorem W1{ns:List Int}{x:Int}:x∈unl ns↔x∈ns:=by
  unfold unl
  rw[(Hg _).mem_iff,(Ps ns [] List.nodup_nil).2 x]
  simp
theorem Aan(ns:List Int):(unl ns).Pairwise (· < ·):=by
  have h1:=Sn (ns.foldl SW.Fd [])
  have h2:(unl ns).Nodup:=(Hg _).nodup_iff.mpr (Ps ns [] List.nodup_nil).1
  have h3:(unl ns).Pairwise (fun a b=>a≤b∧a≠b):=List.Pairwise.and h1 h2
  exact h3.imp fun h=>by omega
theorem V8(ns:List Int):(unl ns).length≤ns.length:=by
  unfold unl
  rw[(Hg _).length_eq,← Rg]
  exact SW.Nu _ _
noncomputable def plc(us:List Int)(x:Int):Nat:=(us.filter fun o=>decide (o < x)).length
theorem Pq:∀ {us:List Int},us.Pairwise (· < ·)→∀ (i:Nat) (h:i < us.length),plc us us[i]=i
  | [],_,i,h=>by simp at h
  | a::r,hp,i,h=>by
    rw[List.pairwise_cons] at hp
    cases i with
    | zero=>
      unfold plc
      rw[List.length_eq_zero_iff,List.filter_eq_nil_iff]
      intro o ho
      rcases List.mem_cons.mp ho with e | e
      · simp[e]
      · have:=hp.1 o e
        simp;omega
    | succ i=>
      have hi:i < r.length:=by simpa using h
      have ih:=Pq hp.2 i hi
      have hx:=hp.1 r[i] (List.getElem_mem hi)
      show plc (a::r) r[i]=i+1
      unfold plc at ih ⊢
      rw[List.filter_cons_of_pos (by simpa using hx),List.length_cons,ih]
theorem Nw{us:List Int}(hp:us.Pairwise (· < ·)){x:Int}(hx:x∈us):∃ h:plc us x < us.length,us[plc us x]=x:=by
  obtain ⟨i,hi,rfl⟩:=List.getElem_of_mem hx
  rw[Pq hp i hi]
  exact ⟨hi,rfl⟩
theorem Aif{us:List Int}(hp:us.Pairwise (· < ·)){x y:Int}(hx:x∈us)(hy:y∈us):plc us y < plc us x+1↔y≤x:=by
  obtain ⟨i,hi,rfl⟩:=List.getElem_of_mem hx
  obtain ⟨j,hj,rfl⟩:=List.getElem_of_mem hy
  rw[Pq hp i hi,Pq hp j hj]
  have mono:=List.pairwise_iff_getElem.mp hp
  rcases Nat.lt_trichotomy i j with q | q | q
  · have:=mono i j hi hj q;omega
  · subst q;omega
  · have:=mono j i hj hi q;omega
noncomputable def PL(ns:List Int):List Int:=ns.map fun x=>((plc (unl ns) x+1:Nat):Int)
theorem Wz{ns:List Int}{i:Nat}{δ:UE}{L:UH}(hv:Ad i δ L=some (.tup (ns.map U.int),L))(hl:ns.length≤4000):(Hl (Ae (Ad i) Ag)) δ L=some (.ref L.length,L++[.lst ((unl ns).map U.int)]):=by
  unfold Hl
  rw[fCons_eq,hv]
  simp only[Option.bind_some,fNil_eq,Option.map_some,toI_ints]
  rw[if_pos hl]
theorem Ri(ns:List Int)(hn:ns.length≤200)(L:UH):∃ L',Ef [.tup (ns.map U.int)] L=some (.tup [.tup ((unl ns).map U.int),.tup ((PL ns).map U.int)],L')∧Gw L L':=by
  have hul:=V8 ns
  have e1:(Ax semTuple (Ae (Hl (Ae (Ad 0) Ag)) Ag)) [some (.tup (ns.map U.int)),none,none,none,none] L=some (.tup ((unl ns).map U.int),L++[.lst ((unl ns).map U.int)]):=by
    have q:=Wz (ns:=ns) (i:=0) (δ:=[some (.tup (ns.map U.int)),none,none,none,none]) (L:=L) rfl (by omega)
    have hs:Ap (L++[HU.lst ((unl ns).map U.int)]) L.length=some ((unl ns).map U.int):=A0 (by simp)
    rw[fCall_eq,fCons_eq,q]
    simp only[Option.bind_some,fNil_eq,Option.map_some,semTuple,hs]
  have s1:=Gf (i:=1) e1
  generalize hus:unl ns=us at *
  have hup:us.Pairwise (· < ·):=by rw[← hus];exact Aan ns
  have hmem:∀ x,x∈us↔x∈ns:=fun x=>by rw[← hus];exact W1
  generalize hL1:L++[HU.lst (us.map U.int)]=L1 at s1
  have g1:Gw L L1:=by rw[← hL1];exact Gw.new _ _
  have s2:(Br Acu (gN 2)) [some (.tup (ns.map U.int)),some (.tup (us.map U.int)),none,none,none] L1=some (.nx [some (.tup (ns.map U.int)),some (.tup (us.map U.int)),some (.ref L1.length),none,none],L1++[.dic []]):=rfl
  have hi:(Vn (Ae (Ad 1) Ag)) [some (.tup (ns.map U.int)),some (.tup (us.map U.int)),some (.ref L1.length),none,none] (L1++[.dic []])=some (.seq (G9 (us.map U.int)),L1++[.dic []]):=rfl
  obtain ⟨δ',L2,e3,⟨y3,y4,hδ⟩,kt,k1,k2,k3,g2⟩:=Ja (us:=G9 (us.map U.int)) (body:=H0) (g:=MR.gTup 2 (MR.gCons (gN 3) (MR.gCons (gN 4) MR.gNil)))
    (fun k δ' M=>(∃ y3 y4,δ'=[some (.tup (ns.map U.int)),some (.tup (us.map U.int)),some (.ref L1.length),y3,y4])∧∃ kt,M[L1.length]? = some (.dic kt)∧kt.length≤k∧(∀ i (_:i < us.length),i < k→No kt (.inl us[i])=some (.int ((i+1:Nat):Int)))∧Gw L1 M) hi
    ⟨⟨none,none,rfl⟩,[],by simp,by simp,fun i _ h=>by omega,Gw.new _ _⟩
    (fun k u δ M hu ⟨⟨y3,y4,hδ⟩,kt,k1,k2,k3,g⟩=>by
      subst hδ
      unfold G9 at hu
      rw[List.getElem?_mapIdx,List.getElem?_map] at hu
      have hk:k < us.length:=by
        rcases Nat.lt_or_ge k us.length with q | q
        · exact q
        · rw[List.getElem?_eq_none q] at hu;cases hu
      rw[List.getElem?_eq_getElem hk] at hu
      have hu:U.tup [.int ((k+1:Nat):Int),.int us[k]]=u:=by simpa using hu
      subst hu
      have hd:Kl M L1.length=some kt:=by unfold Kl;rw[k1]
      have hlt:=(List.getElem?_eq_some_iff.mp k1).1
      have hpl:=Yo kt (.inl us[k]) (.int ((k+1:Nat):Int))
      refine ⟨[some (.tup (ns.map U.int)),some (.tup (us.map U.int)),some (.ref L1.length),some (.int ((k+1:Nat):Int)),some (.int us[k])],M,rfl,[some (.tup (ns.map U.int)),some (.tup (us.map U.int)),some (.ref L1.length),some (.int ((k+1:Nat):Int)),some (.int us[k])],M.set L1.length (.dic (Te kt (.inl us[k]) (.int ((k+1:Nat):Int)))),.inl ?_,⟨_,_,rfl⟩,_,List.getElem?_set_self hlt,by omega,fun i hi2 hik=>?_,g.set (Nat.le_refl _) _⟩
      · unfold H0 Y3
        simp only[fVar_eq,List.getElem?_cons_succ,List.getElem?_cons_zero,Option.join_some,Option.map_some,Option.bind_some,toK,hd]
        rw[if_pos (by omega)]
      · rw[Acz]
        by_cases hq:i=k
        · subst hq;rw[if_pos rfl]
        · have hne:¬ (Sum.inl us[i]:Key) = .inl us[k]:=fun q=>by
            have q:us[i]=us[k]:=by injection q
            have:=List.pairwise_iff_getElem.mp hup i k hi2 hk (by omega)
            omega
          rw[if_neg hne]
          exact k3 i hi2 (by omega))
  have hlen:(G9 (us.map U.int)).length=us.length:=by unfold G9;simp
  rw[hlen] at k2 k3
  have hd2:∀ x,Kl (L2++x) L1.length=some kt:=fun x=>by unfold Kl;rw[(Gw.new L2 x).get k1]
  obtain ⟨x,e4⟩:=Ek (ix:=[none,some 2]) (fi:=Cq (Ad 0)) (it:=.seq (ns.map U.int)) (g:=gN 0) (tt:=none) (fe:=Fn) (δ:=[some (.tup (ns.map U.int)),some (.tup (us.map U.int)),some (.ref L1.length),y3,y4]) (L:=L2) (L0:=L2)
    ns U.int (fun _=>true) (fun x=>.int ((plc us x+1:Nat):Int)) (fun δ=>∃ z,δ = [z,some (.ref L1.length)]) rfl (by simp[IU.size]) (by omega) ⟨none,rfl⟩
    (fun k x=>rfl)
    (fun a δ x ha ⟨z,hδ⟩=>by
      subst hδ
      refine ⟨[some (.int a),some (.ref L1.length)],rfl,⟨_,rfl⟩,[],by simp[Ic],fun _=>⟨[],?_⟩⟩
      obtain ⟨hp,he⟩:=Nw hup ((hmem a).mpr ha)
      have hv:=k3 (plc us a) hp hp
      rw[he] at hv
      simp only[List.append_nil]
      unfold Fn Abg
      simp only[fVar_eq,List.getElem?_cons_succ,List.getElem?_cons_zero,Option.join_some,Option.map_some,Option.bind_some,toK,hd2 x,hv])
  have hf:ns.filter (fun _=>true)=ns:=by simp
  rw[hf] at e4
  have hPL:(ns.map fun x=>U.int ((plc us x+1:Nat):Int))=(PL ns).map U.int:=by unfold PL;rw[hus,List.map_map];rfl
  rw[hPL] at e4
  refine ⟨L2++x++[.lst ((PL ns).map U.int)],?_,((g1.trans g2).trans (Gw.new L2 x)).trans (Gw.new _ _)⟩
  refine fn1 (n:=4) ?_
  show Jp [some (.tup (ns.map U.int)),none,none,none,none] L=_
  unfold Jp
  rw[An s1]
  show Ay _ _ [some (.tup (ns.map U.int)),some (.tup (us.map U.int)),none,none,none] L1=_
  rw[An s2,An e3,hδ]
  refine Mn ?_
  have hsq:Ap (L2++x++[HU.lst ((PL ns).map U.int)]) (L2++x).length=some ((PL ns).map U.int):=A0 (by simp)
  have et:(Ax semTuple (Ae (Df [none,some 2] (Cq (Ad 0)) (gN 0) none Fn) Ag)) [some (.tup (ns.map U.int)),some (.tup (us.map U.int)),some (.ref L1.length),y3,y4] L2=some (.tup ((PL ns).map U.int),L2++x++[HU.lst ((PL ns).map U.int)]):=by
    rw[fCall_eq,fCons_eq,e4]
    simp only[Option.bind_some,fNil_eq,Option.map_some,semTuple,hsq]
  rw[Aeu,C7 (L1:=L2) (u:=.tup (us.map U.int)) rfl (C7 et rfl)]
  rfl
noncomputable def Fh(us l:List Int):List Int:=us.map fun u=>(l.count u:Int)
theorem Ig(us l:List Int):(Fh us l).length=us.length:=by unfold Fh;simp
theorem Xt{us l:List Int}{i:Nat}(h:i < us.length):(Fh us l).getD i 0=(l.count us[i]:Int):=by
  unfold Fh;simp[List.getD_eq_getElem?_getD,h]
theorem Sz{us l l':List Int}{y:Int}(hp:us.Pairwise (· < ·))(hy:y∈us)(hl:∀ u,l'.count u=(y::l).count u):Fh us l'=(Fh us l).set (plc us y) ((Fh us l).getD (plc us y) 0+1):=by
  obtain ⟨h,e⟩:=Nw hp hy
  rw[Xt h,e]
  apply List.ext_getElem
  · simp[Fh]
  · intro i h1 h2
    have hi:i < us.length:=by simpa[Fh] using h1
    rw[List.getElem_set]
    simp only[Fh,List.getElem_map,hl]
    by_cases q:plc us y=i
    · subst q
      rw[if_pos rfl,e,List.count_cons_self]
      simp
    · rw[if_neg q]
      have hne:us[i]≠y:=fun z=>q (by rw[← z];exact Pq hp i hi)
      rw[List.count_cons_of_ne (Ne.symm hne)]
theorem Ss{us:List Int}(hp:us.Pairwise (· < ·)){x:Int}(hx:x∈us):∀ l:List Int,(∀ y∈l,y∈us)→pre (Fh us l) (plc us x+1)=((l.filter fun y=>decide (y≤x)).length:Int)
  | [],_=>by
    have:Fh us []=List.replicate us.length 0:=by
      apply List.ext_getElem <;> simp[Fh]
    rw[this,Oq];rfl
  | y::l,h=>by
    have ih:=Ss hp hx l fun z hz=>h z (List.mem_cons_of_mem _ hz)
    have hy:=h y (List.mem_cons_self ..)
    obtain ⟨h1,_⟩:=Nw hp hy
    rw[Sz hp hy (fun _=>rfl),N0 _ _ _ _ (by rw[Ig];exact h1),ih]
    have hc:=Aif hp hx hy
    by_cases q:y≤x
    · rw[if_pos (hc.mpr q),List.filter_cons_of_pos (by simpa using q)]
      simp
    · rw[if_neg (fun z=>q (hc.mp z)),List.filter_cons_of_neg (by simpa using q)]
      simp
theorem Aa3{fe:FE}{δ:UE}{L L':UH}(h:fe δ L=some (.bl true,L')):(Nm (Nh fe)) δ L=some (false,L'):=by
  rw[Adj,fTru_eq,h];rfl
theorem U2(a b:List Int):Pl 6 (.tup [.tup (a.map U.int),.tup (b.map U.int)]):=by
  rw[Kp]
  intro u hu
  simp only[List.mem_cons,List.not_mem_nil,or_false] at hu
  rcases hu with rfl | rfl <;> (rw[Kp];intro v hv;obtain ⟨z,_,rfl⟩:=List.mem_map.mp hv;exact Pl.int _ _)
theorem Ae6{fe:FE}{l:List U}{δ:UE}{L L':UH}(h:fe δ L=some (.tup l,L')):(Tf "tuple" fe) δ L=some (.bl true,L'):=by
  have t1:Kv (.tup l) L'=some "tuple" := rfl
  have t2:isT "tuple" "tuple" = true:=rfl
  simp[h,t1,t2]
theorem Agd(ns us:List Int)(hn:ns.length≤200)(hu:us.length≤200)(x2 x3 x4 x5 x6:Option U)(L:UH):∃ r L',(Df [none,some 1] (Cq (Ad 0)) (gN 0) none C9) [some (.tup (ns.map U.int)),some (.tup (us.map U.int)),x2,x3,x4,x5,x6] L=some (.ref r,L')∧Ap L' r=some ((ns.map fun x=>((plc us x+1:Nat):Int)).map U.int)∧Gw L L':=by
  obtain ⟨x,e⟩:=Ek (ix:=[none,some 1]) (fi:=Cq (Ad 0)) (it:=.seq (ns.map U.int)) (g:=gN 0) (tt:=none) (fe:=C9) (δ:=[some (.tup (ns.map U.int)),some (.tup (us.map U.int)),x2,x3,x4,x5,x6]) (L:=L) (L0:=L)
    ns U.int (fun _=>true) (fun x=>.int ((plc us x+1:Nat):Int)) (fun δ=>∃ z,δ = [z,some (.tup (us.map U.int))]) rfl (by simp[IU.size]) (by omega) ⟨none,rfl⟩
    (fun k x=>rfl)
    (fun a δ x ha ⟨z,hδ⟩=>by
      subst hδ
      refine ⟨[some (.int a),some (.tup (us.map U.int))],rfl,⟨_,rfl⟩,[],by simp[Ic],fun _=>?_⟩
      obtain ⟨y,e2⟩:=Ek (ix:=[none,some 0]) (fi:=Cq (Ad 1)) (it:=.seq (us.map U.int)) (g:=gN 0) (tt:=some Eo) (fe:=En) (δ:=[some (.int a),some (.tup (us.map U.int))]) (L:=L++x++[]) (L0:=L++x++[])
        us U.int (fun o=>decide (o < a)) (fun _=>.int 1) (fun δ=>∃ z,δ = [z,some (.int a)]) rfl (by simp[IU.size]) (by omega) ⟨none,rfl⟩ (fun k x=>rfl)
        (fun o δ x ho ⟨z,hδ⟩=>by
          subst hδ
          refine ⟨[some (.int o),some (.int a)],rfl,⟨_,rfl⟩,[],?_,fun _=>⟨[],?_⟩⟩
          · simp[Ic,Eo]
          · simp[En])
      have hs:Ap (L++x++[]++y++[HU.lst ((us.filter fun o=>decide (o < a)).map fun _=>U.int 1)]) (L++x++[]++y).length=some ((us.filter fun o=>decide (o < a)).map fun _=>U.int 1):=A0 (by simp)
      refine ⟨y++[HU.lst ((us.filter fun o=>decide (o < a)).map fun _=>U.int 1)],?_⟩
      unfold C9
      rw[f2_eq]
      simp only[fC_eq,Option.bind_some,fCall_eq,fCons_eq,e2,fNil_eq,Option.map_some,semLen,lenU,hs,List.length_map]
      have hq:(1:Int)+((us.filter fun o=>decide (o < a)).length:Int)=((plc us a+1:Nat):Int):=by unfold plc;omega
      simp only[semAddA,semAdd_int,hq,List.append_assoc])
  have hf:ns.filter (fun _=>true)=ns:=by simp
  rw[hf] at e
  refine ⟨(L++x).length,_,e,?_,(Gw.new L x).trans (Gw.new _ _)⟩
  rw[List.map_map]
  exact A0 (by simp)
theorem Vx{L0 M:UH}{t c k:Nat}{ns us:List Int}(hn:ns.length≤200)(hu:us.length≤200)(hp:us.Pairwise (· < ·))(hm:∀ x,x∈ns→x∈us)(hk:k < ns.length)(T:TrF M t c (Fh us (ns.take k)))(g:Gw L0 M)(hc:L0.length≤c)(x1 x2 x3:Option U) :
    ∃ M',Cs [some (.tup (ns.map U.int)),x1,x2,x3,some (.ref t),some (.int (k:Int)),some (.int ((plc us (ns.getD k 0)+1:Nat):Int))] M=some (.nx [some (.tup (ns.map U.int)),x1,x2,x3,some (.ref t),some (.int (k:Int)),some (.int ((plc us (ns.getD k 0)+1:Nat):Int))],M')∧TrF M' t c (Fh us (ns.take (k+1)))∧Gw L0 M':=by
  have hxe:ns.getD k 0=ns[k]:=by rw[List.getD_eq_getElem?_getD,List.getElem?_eq_getElem hk];rfl
  have hx:ns.getD k 0∈us:=by rw[hxe];exact hm _ (List.getElem_mem hk)
  generalize hxx:ns.getD k 0=x at hx
  obtain ⟨hpl,_⟩:=Nw hp hx
  have hsum:=T.sum (m:=plc us x+1) (δ:=[some (.tup (ns.map U.int)),x1,x2,x3,some (.ref t),some (.int (k:Int)),some (.int ((plc us x+1:Nat):Int))]) (fo:=Ad 4) (fm:=Ad 6) (by rw[Ig];exact hu) (by rw[Ig];omega) rfl rfl
  rw[Ss hp hx _ fun y hy=>hm y (List.mem_of_mem_take hy)] at hsum
  have hi:(Cq (fSl C3 (Ad 0) Dq (Cz (Ad 5)))) [some (.tup (ns.map U.int)),x1,x2,x3,some (.ref t),some (.int (k:Int)),some (.int ((plc us x+1:Nat):Int))] M=some (.seq ((ns.take k).map U.int),M):=by
    obtain ⟨z,e1,rfl⟩:=Tl ns k
    have hs:fSl C3 (Ad 0) Dq (Cz (Ad 5)) [some (.tup (ns.map U.int)),x1,x2,x3,some (.ref t),some (.int (k:Int)),some (.int ((plc us x+1:Nat):Int))] M=some (.tup ((ns.take k).map U.int),M):=by
      rw[Vc]
      simp only[fVar_eq,List.getElem?_cons_succ,List.getElem?_cons_zero,Option.join_some,Option.map_some,Option.bind_some,fPart_eq,O7,slA_tup,e1]
    show (fSl C3 (Ad 0) Dq (Cz (Ad 5)) _ M).bind _=_
    rw[hs]
    rfl
  obtain ⟨y,e2⟩:=Ek (ix:=[none,some 0,some 5]) (fi:=Cq (fSl C3 (Ad 0) Dq (Cz (Ad 5)))) (it:=.seq ((ns.take k).map U.int)) (g:=gN 0) (tt:=some C5) (fe:=De) (δ:=[some (.tup (ns.map U.int)),x1,x2,x3,some (.ref t),some (.int (k:Int)),some (.int ((plc us x+1:Nat):Int))]) (L:=M) (L0:=M)
    (ns.take k) U.int (fun o=>decide (o≤x)) (fun _=>.int 1) (fun δ=>∃ z,δ = [z,some (.tup (ns.map U.int)),some (.int (k:Int))]) hi (by simp[IU.size]) (by simp;omega) ⟨none,rfl⟩ (fun k x=>rfl)
    (fun o δ z ho ⟨w,hδ⟩=>by
      subst hδ
      refine ⟨[some (.int o),some (.tup (ns.map U.int)),some (.int (k:Int))],rfl,⟨_,rfl⟩,[],?_,fun _=>⟨[],?_⟩⟩
      · have hix:Dh (.tup (ns.map U.int)) (.int (k:Int)) (M++z)=some (.int x,M++z):=by
          have:=Ahh hk
          rw[hxx] at this
          simp only[Dh,this,Option.map_some]
        unfold Ic C5
        show (Be _) _ _=_
        rw[fTest_eq,f2_eq]
        simp only[fVar_eq,List.getElem?_cons_succ,List.getElem?_cons_zero,Option.join_some,Option.map_some,Option.bind_some,f2_eq,hix]
        simp
      · simp[De])
  have hs:Ap (M++y++[HU.lst (((ns.take k).filter fun o=>decide (o≤x)).map fun _=>U.int 1)]) (M++y).length=some (((ns.take k).filter fun o=>decide (o≤x)).map fun _=>U.int 1):=A0 (by simp)
  have hlen:(Ax semLen (Ae (Df [none,some 0,some 5] (Cq (fSl C3 (Ad 0) Dq (Cz (Ad 5)))) (gN 0) (some C5) De) Ag)) [some (.tup (ns.map U.int)),x1,x2,x3,some (.ref t),some (.int (k:Int)),some (.int ((plc us x+1:Nat):Int))] M=some (.int (((ns.take k).filter fun o=>decide (o≤x)).length:Int),M++y++[HU.lst (((ns.take k).filter fun o=>decide (o≤x)).map fun _=>U.int 1)]):=by
    rw[fCall_eq,fCons_eq,e2]
    simp only[Option.bind_some,fNil_eq,Option.map_some,semLen,lenU,hs,List.length_map]
  have g1:Gw M (M++y++[HU.lst (((ns.take k).filter fun o=>decide (o≤x)).map fun _=>U.int 1)]):=(Gw.new M y).trans (Gw.new _ _)
  have s1:=Gi (f:=B0 (fC (.bl false))) (neI hsum hlen)
  generalize M++y++[HU.lst (((ns.take k).filter fun o=>decide (o≤x)).map fun _=>U.int 1)]=M1 at g1 s1
  obtain ⟨o,e3,T3⟩:=(T.gw g1).put (p:=plc us x+1) (v:=1) (δ:=[some (.tup (ns.map U.int)),x1,x2,x3,some (.ref t),some (.int (k:Int)),some (.int ((plc us x+1:Nat):Int))]) (fo:=Ad 4) (fp:=Ad 6) (fv:=fC (.int 1)) (by rw[Ig];exact hu) (by omega) (by rw[Ig];omega) rfl rfl rfl
  rw[Nat.add_sub_cancel,← Sz (l':=ns.take (k+1)) hp hx (fun u=>by rw[Ql hk,hxx];exact (List.perm_append_singleton x _).count_eq u)] at T3
  refine ⟨M1.set c o,?_,T3,(g.trans g1).set hc o⟩
  unfold Cs
  rw[An s1,e3]
theorem Nk(ns:List Int)(hn:ns.length≤200)(L:UH):∃ L',Ft [.tup (ns.map U.int)] L=some (.bl true,L')∧Gw L L':=by
  have hul:=V8 ns
  have hup:=Aan ns
  have hmem:∀ x,x∈ns→x∈unl ns:=fun x h=>W1.mpr h
  have hPL:PL ns=ns.map fun x=>((plc (unl ns) x+1:Nat):Int):=rfl
  have hPLl:(PL ns).length=ns.length:=by rw[hPL];simp
  have pof:=Ri ns hn
  have hss:∀ (δ:UE) (M:UH),Ad 0 δ M=some (.tup (ns.map U.int),M)→(Hl (Ae (Ad 0) Ag)) δ M=some (.ref M.length,M++[.lst ((unl ns).map U.int)]):=fun δ M h=>Wz h (by omega)
  generalize hus:unl ns=us at *
  obtain ⟨L1,e1,g1⟩:=pof L
  have s1:(Br (Bj 1 Ef (Ae (Ad 0) Ag)) (MR.gTup 2 (MR.gCons (gN 1) (MR.gCons (gN 2) MR.gNil)))) [some (.tup (ns.map U.int)),none,none,none,none,none,none] L=some (.nx [some (.tup (ns.map U.int)),some (.tup (us.map U.int)),some (.tup ((PL ns).map U.int)),none,none,none,none],L1):=by
    have q:=Pv (δ:=[some (.tup (ns.map U.int)),none,none,none,none,none,none]) (i:=0) rfl e1
    rw[Iv,q]
    rfl
  let δ1:UE:=[some (.tup (ns.map U.int)),some (.tup (us.map U.int)),some (.tup ((PL ns).map U.int)),none,none,none,none]
  obtain ⟨L2,e2,g2⟩:=pof L1
  have a2:=Aa3 (Ae6 (Pv (δ:=δ1) (i:=0) rfl e2))
  have e3:=hss δ1 L2 rfl
  obtain ⟨L3,e4,g3⟩:=Kj (L:=L2++[.lst (us.map U.int)]) (r:=L2.length) (xs:=us) (A0 (by simp)) (by omega)
  have a3:=Aa3 (Ua (δ:=δ1) (fa:=Ad 1) rfl e3 e4)
  have s2:=Gi (f:=B0 (fC (.bl false))) (orF a2 a3)
  obtain ⟨r,L4,e5,q5,g4⟩:=Agd ns us hn (by omega) (some (.tup ((PL ns).map U.int))) none none none none L3
  have s3:=Gf (i:=3) e5
  let δ3:UE:=[some (.tup (ns.map U.int)),some (.tup (us.map U.int)),some (.tup ((PL ns).map U.int)),some (.ref r),none,none,none]
  rw[← hPL] at q5
  obtain ⟨L5,e6,g5⟩:=Kj q5 (by omega)
  have a6:=Aa3 (Ua (δ:=δ3) (fa:=Ad 2) (fb:=Ad 3) rfl rfl e6)
  obtain ⟨L6,e7,g6⟩:=pof L5
  have a7:(Be (f2 C4 (Bj 1 Ef (Ae (Ad 0) Ag)) (Kf (Ae (Ad 1) (Ae (Ad 2) Ag))))) δ3 L5=some (false,L6):=by
    have q:=Pv (δ:=δ3) (i:=0) rfl e7
    have q2:(Kf (Ae (Ad 1) (Ae (Ad 2) Ag))) δ3 L6=some (.tup [.tup (us.map U.int),.tup ((PL ns).map U.int)],L6):=rfl
    have q3:=Lp L6 (U2 us (PL ns)) (U2 us (PL ns))
    rw[Jx (U2 us (PL ns))] at q3
    rw[fTest_eq,f2_eq,q]
    simp only[Option.bind_some,q2,q3]
    rfl
  have s4:=Gi (f:=B0 (fC (.bl false))) (orF a6 a7)
  have gA:Gw L L6:=g1.trans (g2.trans (((Gw.new L2 _).trans g3).trans (g4.trans (g5.trans g6))))
  have a8:(Be (f2 Eh (Ad 0) (Kf Ag))) δ3 L6=some (decide (ns=[]),L6):=by
    have h0:(Kf Ag) δ3 L6=some (.tup (([]:List Int).map U.int),L6):=rfl
    have q3:=Oz L6 (Cw ns) (Cw [])
    have hb:eqB (.tup (ns.map U.int)) (.tup (([]:List Int).map U.int))=decide (ns=[]):=by
      rw[Bool.eq_iff_iff,R7 (Cw ns) (Cw []),decide_eq_true_iff]
      simp
    rw[hb] at q3
    rw[fTest_eq,f2_eq]
    show ((Kf Ag δ3 L6).bind fun q=>Eh (.tup (ns.map U.int)) q.1 q.2).bind _=_
    rw[h0]
    simp only[Option.bind_some,q3]
  have go:Dg [some (.tup (ns.map U.int)),none,none,none,none,none,none] L=(Ay (Es (Be (f2 Eh (Ad 0) (Kf Ag))) (B0 (fC (.bl true))) Co) (Ay (Br (O9 "SumTree" 2 Bx (Ae (Ax semLen (Ae (Ad 1) Ag)) Ag)) (gN 4)) (Ay (Hn (Jf (Ae (Ad 2) Ag)) (MR.gTup 2 (MR.gCons (gN 5) (MR.gCons (gN 6) MR.gNil))) Cs) (B0 (f2 Eh (Ar "SumTree" "row_now" 1 Bq (Ad 4) Ag) (Ax semTuple (Ae (Df [none,some 0] (Cq (Ad 1)) (gN 0) none Ci) Ag))))))) δ3 L6:=by
    unfold Dg
    rw[An s1,An s2,An s3]
    show Ay _ _ δ3 L4=_
    rw[An s4]
  by_cases h0:ns=[]
  · refine ⟨L6,fn1 (n:=6) ?_,gA⟩
    show Dg [some (.tup (ns.map U.int)),none,none,none,none,none,none] L=_
    rw[go,fSeq_eq,Ab0 (by rw[a8,decide_eq_true h0])]
    rfl
  · rw[decide_eq_false h0] at a8
    have s5:=Gi (f:=B0 (fC (.bl true))) a8
    obtain ⟨L7,e8,T8,g8⟩:=Q5 (n:=us.length) (δ:=δ3) (L:=L6) (fe:=Ax semLen (Ae (Ad 1) Ag)) (by omega) (by
      show (Ax semLen (Ae (Ad 1) Ag)) [some (.tup (ns.map U.int)),some (.tup (us.map U.int)),some (.tup ((PL ns).map U.int)),some (.ref r),none,none,none] L6=_
      simp[J9])
    have s6:=Gf (i:=4) e8
    have hz:Fh us []=List.replicate us.length 0:=by apply List.ext_getElem <;> simp[Fh]
    obtain ⟨δ',L8,e9,⟨y5,y6,hδ⟩,T9,g9⟩:=Ja (us:=Hf ((PL ns).map U.int)) (fi:=Jf (Ae (Ad 2) Ag)) (δ:=[some (.tup (ns.map U.int)),some (.tup (us.map U.int)),some (.tup ((PL ns).map U.int)),some (.ref r),some (.ref L6.length),none,none]) (L:=L7) (L0:=L7) (body:=Cs) (g:=MR.gTup 2 (MR.gCons (gN 5) (MR.gCons (gN 6) MR.gNil)))
      (fun k δ' M=>(∃ y5 y6,δ'=[some (.tup (ns.map U.int)),some (.tup (us.map U.int)),some (.tup ((PL ns).map U.int)),some (.ref r),some (.ref L6.length),y5,y6])∧TrF M L6.length (L6.length+2) (Fh us (ns.take k))∧Gw L6 M) rfl ⟨⟨none,none,rfl⟩,by rw[List.take_zero,hz];exact T8,g8⟩
      (fun k u δ M hu ⟨⟨y5,y6,hδ⟩,T,g⟩=>by
        subst hδ
        unfold Hf at hu
        rw[List.getElem?_mapIdx,List.getElem?_map] at hu
        have hk:k < ns.length:=by
          rcases Nat.lt_or_ge k ns.length with q | q
          · exact q
          · rw[List.getElem?_eq_none (by omega)] at hu;cases hu
        have hk2:(PL ns)[k]? = some ((plc us (ns.getD k 0)+1:Nat):Int):=by
          rw[hPL,List.getElem?_map,List.getElem?_eq_getElem hk,List.getD_eq_getElem?_getD,List.getElem?_eq_getElem hk];rfl
        rw[hk2] at hu
        have hu:U.tup [.int (k:Int),.int ((plc us (ns.getD k 0)+1:Nat):Int)]=u:=by simpa using hu
        subst hu
        obtain ⟨M',e,T',g'⟩:=Vx (L0:=L6) hn (by omega) hup hmem hk T g (by omega) (some (.tup (us.map U.int))) (some (.tup ((PL ns).map U.int))) (some (.ref r))
        exact ⟨_,M,rfl,_,M',.inl e,⟨_,_,rfl⟩,T',g'⟩)
    have hl:(Hf ((PL ns).map U.int)).length=ns.length:=by unfold Hf;simp[hPLl]
    rw[hl,List.take_length] at T9
    obtain ⟨L9,e10,g10⟩:=T9.row_now (δ:=[some (.tup (ns.map U.int)),some (.tup (us.map U.int)),some (.tup ((PL ns).map U.int)),some (.ref r),some (.ref L6.length),y5,y6]) (fo:=Ad 4) (by rw[Ig];omega) rfl
    obtain ⟨y,e11⟩:=Ek (ix:=[none,some 0]) (fi:=Cq (Ad 1)) (it:=.seq (us.map U.int)) (g:=gN 0) (tt:=none) (fe:=Ci) (δ:=[some (.tup (ns.map U.int)),some (.tup (us.map U.int)),some (.tup ((PL ns).map U.int)),some (.ref r),some (.ref L6.length),y5,y6]) (L:=L9) (L0:=L9)
      us U.int (fun _=>true) (fun u=>.int (ns.count u:Int)) (fun δ=>∃ z,δ = [z,some (.tup (ns.map U.int))]) rfl (by simp[IU.size]) (by omega) ⟨none,rfl⟩ (fun k x=>rfl)
      (fun a δ x ha ⟨z,hδ⟩=>by
        subst hδ
        refine ⟨[some (.int a),some (.tup (ns.map U.int))],rfl,⟨_,rfl⟩,[],by simp[Ic],fun _=>⟨[],?_⟩⟩
        have ty:∀ N:UH,tyU "tuple" (.tup (ns.map U.int)) N=true:=fun _=>rfl
        unfold Ci
        simp only[fMeth_eq,fVar_eq,List.getElem?_cons_succ,List.getElem?_cons_zero,Option.join_some,Option.map_some,Option.bind_some,ty,if_true,fCons_eq,fNil_eq,semCountT,toI_ints,List.append_nil])
    have hf:us.filter (fun _=>true)=us:=by simp
    rw[hf] at e11
    have hcn:(us.map fun u=>U.int (ns.count u:Int))=(Fh us ns).map U.int:=by unfold Fh;rw[List.map_map];rfl
    rw[hcn] at e11
    have hsq:Ap (L9++y++[HU.lst ((Fh us ns).map U.int)]) (L9++y).length=some ((Fh us ns).map U.int):=A0 (by simp)
    have et:(Ax semTuple (Ae (Df [none,some 0] (Cq (Ad 1)) (gN 0) none Ci) Ag)) [some (.tup (ns.map U.int)),some (.tup (us.map U.int)),some (.tup ((PL ns).map U.int)),some (.ref r),some (.ref L6.length),y5,y6] L9=some (.tup ((Fh us ns).map U.int),L9++y++[HU.lst ((Fh us ns).map U.int)]):=by
      rw[fCall_eq,fCons_eq,e11]
      simp only[Option.bind_some,fNil_eq,Option.map_some,semTuple,hsq]
    refine ⟨L9++y++[HU.lst ((Fh us ns).map U.int)],fn1 (n:=6) ?_,gA.trans (g9.trans (g10.trans ((Gw.new L9 y).trans (Gw.new _ _))))⟩
    show Dg [some (.tup (ns.map U.int)),none,none,none,none,none,none] L=_
    rw[go,An s5,An s6]
    show Ay _ _ [some (.tup (ns.map U.int)),some (.tup (us.map U.int)),some (.tup ((PL ns).map U.int)),some (.ref r),some (.ref L6.length),none,none] L7=_
    rw[An e9,hδ]
    refine Mn ?_
    have q3:=Oz (L9++y++[HU.lst ((Fh us ns).map U.int)]) (Cw (Fh us ns)) (Cw (Fh us ns))
    rw[Jx (Cw (Fh us ns))] at q3
    rw[f2_eq,e10]
    simp only[Option.bind_some,et,q3]
theorem Xd(row:List Int)(h3:row.length≤200)(L:UH):∃ L',Mr [.tup (row.map U.int)] L=some (.tup ((Bu row).map U.int),L')∧Gw L L':=by
  obtain ⟨δ',L',e,⟨y2,hδ,hf,gM⟩⟩:=Ja (us:=Ch 1 row.length) (L0:=L++[.lst []]) (L:=L++[.lst []]) (δ:=[some (.tup (row.map U.int)),some (.ref L.length),none]) (body:=Jv) (g:=gN 2) (fi:=Lf (Ae (fC (.int 1)) (Ae (f2 semAddA (Ax semLen (Ae (Ad 0) Ag)) (fC (.int 1))) Ag)))
    (fun k δ' L'=>∃ y2,δ'=[some (.tup (row.map U.int)),some (.ref L.length),y2]∧L'[L.length]? = some (.lst (((List.range k).map fun i=>Gm row (i+1)).map U.int))∧Gw L L')
    (by
      have:=We (g:=Ae (fC (.int 1)) (Ae (f2 semAddA (Ax semLen (Ae (Ad 0) Ag)) (fC (.int 1))) Ag)) (δ:=[some (.tup (row.map U.int)),some (.ref L.length),none]) (L:=L++[.lst []]) (L':=L++[.lst []]) (i:=1) (j:=(row.length:Int)+1) (by simp[J9,semAddA]) (by decide) (by decide) (by omega) (by omega)
      rw[this]
      have:((row.length:Int)+1 - 1).toNat=row.length:=by omega
      rw[this])
    ⟨none,rfl,by simp,Gw.new _ _⟩
    (fun k u δ M hu ⟨y2,hδ,hf,gM⟩=>by
      subst hδ
      obtain ⟨hk,rfl⟩:=Fx hu
      have hk1:(1+(k:Int))=((k+1:Nat):Int):=by omega
      rw[hk1]
      have hand:=Wh (i:=k+1) (by omega) (by omega)
      have hl:=R0 (i:=k+1) (by omega) (by omega)
      have hz:(0:Int) - ((k+1:Nat):Int) = -((k+1:Nat):Int):=by omega
      have hlo:((k+1:Nat):Int) - (low (k+1):Int)=((k+1 - low (k+1):Nat):Int):=by omega
      have a2:(f2 B8 (Ad 2) (f2 semBitAnd (Ad 2) (f2 B8 (fC (.int 0)) (Ad 2)))) [some (.tup (row.map U.int)),some (.ref L.length),some (.int (k+1:Nat))] M=some (.int ((k+1 - low (k+1):Nat):Int),M):=by
        simp only[f2_eq,fVar_eq,fC_eq,List.getElem?_cons_succ,List.getElem?_cons_zero,Option.join_some,Option.map_some,Option.bind_some,semSub_int,hz,semBitAnd,Ln,hand,hlo]
      have g2:=Ug (row:=row) (a:=k+1 - low (k+1)) (b:=k+1) (fr:=Ad 0) (δ:=[some (.tup (row.map U.int)),some (.ref L.length),some (.int (k+1:Nat))]) (L:=M) (by omega) rfl a2 (fb:=Ad 2) rfl
      have hcv:pre row (k+1) - pre row (k+1 - low (k+1))=Gm row (k+1):=rfl
      rw[hcv] at g2
      have ap:=Qv (U.int (Gm row (k+1))) hf (by simp;omega)
      have hv:(((List.range k).map fun i=>Gm row (i+1)).map U.int)++[U.int (Gm row (k+1))]=((List.range (k+1)).map fun i=>Gm row (i+1)).map U.int:=by
        rw[List.range_succ];simp
      rw[hv] at ap
      refine ⟨[some (.tup (row.map U.int)),some (.ref L.length),some (.int (k+1:Nat))],M,rfl,[some (.tup (row.map U.int)),some (.ref L.length),some (.int (k+1:Nat))],M.set L.length (.lst (((List.range (k+1)).map fun i=>Gm row (i+1)).map U.int)),.inl ?_,_,rfl,?_,gM.set (Nat.le_refl _) _⟩
      · have ty:=W5 hf
        unfold Jv
        simp only[Ii,fMeth_eq,fVar_eq,List.getElem?_cons_succ,List.getElem?_cons_zero,Option.join_some,Option.map_some,Option.bind_some,ty,if_true]
        rw[fCons_eq,g2]
        simp only[Option.bind_some,fNil_eq,Option.map_some,ap]
      · rw[List.getElem?_set_self (List.getElem?_eq_some_iff.mp hf).1])
  rw[Ey] at hf
  have ht:semTuple [.ref L.length] L'=some (.tup ((Bu row).map U.int),L'):=by simp only[semTuple,A0 hf,Option.map_some,Bu]
  refine ⟨L',fn1 (n:=2) ?_,gM⟩
  show Mi [some (.tup (row.map U.int)),none,none] L=_
  have s1:(Br (H9 Ag) (gN 1)) [some (.tup (row.map U.int)),none,none] L=some (.nx [some (.tup (row.map U.int)),some (.ref L.length),none],L++[.lst []]):=Gf (Ur rfl (by simp))
  unfold Mi
  rw[An s1,An e,hδ]
  refine Mn ?_
  simp[ht]
theorem R3(row:List Int)(h3:row.length≤200)(v:Int)(L:UH):∃ z,Id [.tup (row.map U.int),.int v] L=some (z,L)∧IsLeast row row.length v z:=by
  have s1:(Br (fC (.int 0)) (gN 2)) [some (.tup (row.map U.int)),some (.int v),none,none] L=some (.nx [some (.tup (row.map U.int)),some (.int v),some (.int 0),none],L):=rfl
  have hi:Ia (Ae (f2 semAddA (Ax semLen (Ae (Ad 0) Ag)) (fC (.int 1))) Ag) [some (.tup (row.map U.int)),some (.int v),some (.int 0),none] L=some (.seq (Ch 0 (row.length+1)),L):=by
    refine Js ?_ (by omega)
    simp[J9,semAddA]
  have un:∀ r,Im [some (.tup (row.map U.int)),some (.int v),none,none] L=r→fnU 4 2 Im [.tup (row.map U.int),.int v] L=(r.bind fun p=>match p.1 with | .rt z=>some (z,p.2) | .nx _=>some (.non,p.2) | _=>none):=fun r hr=>by
    subst hr
    rfl
  rcases Ts (us:=Ch 0 (row.length+1)) (δ:=[some (.tup (row.map U.int)),some (.int v),some (.int 0),none]) (L:=L) (L0:=L) (body:=Hu) (g:=gN 3) (fun k δ' L'=>(∃ y,δ'=[some (.tup (row.map U.int)),some (.int v),some (.int (pre row k)),y])∧L'=L) (fun _ L'=>L'=L) (fun k=>decide (v≤pre row k)) (fun k=>.int (k:Int)) hi ⟨⟨none,by rw[P6]⟩,rfl⟩
    (fun k u δ M hu ⟨⟨y,hδ⟩,hM⟩=>by
      subst hδ;subst hM
      obtain ⟨hk,rfl⟩:=Fx hu
      have h0:(0:Int)+(k:Int)=(k:Int):=by omega
      rw[h0]
      have tt:(Be (f2 Ou (Ad 2) (Ad 1))) [some (.tup (row.map U.int)),some (.int v),some (.int (pre row k)),some (.int k)] M=some (decide (v≤pre row k),M):=by simp
      have g2:=Ug (row:=row) (a:=k) (b:=k+1) (fr:=Ad 0) (fa:=Ad 3) (fb:=f2 semAddA (Ad 3) (fC (.int 1))) (δ:=[some (.tup (row.map U.int)),some (.int v),some (.int (pre row k)),some (.int k)]) (L:=M) (by omega) rfl rfl (by simp[semAddA])
      have t1:(Br (f2 semAddA (Ad 2) (Ax Do (Ae (fSl C3 (Ad 0) (Cz (Ad 3)) (Cz (f2 semAddA (Ad 3) (fC (.int 1))))) Ag))) (gN 2)) [some (.tup (row.map U.int)),some (.int v),some (.int (pre row k)),some (.int k)] M=some (.nx [some (.tup (row.map U.int)),some (.int v),some (.int (pre row (k+1))),some (.int k)],M):=by
        have q:(f2 semAddA (Ad 2) (Ax Do (Ae (fSl C3 (Ad 0) (Cz (Ad 3)) (Cz (f2 semAddA (Ad 3) (fC (.int 1))))) Ag))) [some (.tup (row.map U.int)),some (.int v),some (.int (pre row k)),some (.int k)] M=some (.int (pre row (k+1)),M):=by
          rw[f2_eq]
          simp only[fVar_eq,List.getElem?_cons_succ,List.getElem?_cons_zero,Option.join_some,Option.map_some,Option.bind_some]
          rw[g2]
          have hx:pre row k+(pre row (k+1) - pre row k)=pre row (k+1):=by omega
          simp only[Option.bind_some,semAddA,semAdd_int,hx]
        exact Gf (i:=2) q
      refine ⟨[some (.tup (row.map U.int)),some (.int v),some (.int (pre row k)),some (.int k)],M,rfl,fun hs=>⟨M,?_,rfl⟩,fun hs=>⟨[some (.tup (row.map U.int)),some (.int v),some (.int (pre row (k+1))),some (.int k)],M,?_,⟨_,rfl⟩,rfl⟩⟩
      · unfold Hu
        rw[fSeq_eq,fIfS_eq,tt,hs]
        rfl
      · unfold Hu
        rw[hs] at tt
        rw[An (Gi tt),t1]) with ⟨j,j1,j2,j3,L',e1,rfl⟩ | ⟨h1,δ',L',e1,⟨y,hδ⟩,rfl⟩
  · rw[Ey] at j1
    refine ⟨.int j,?_,.inl ⟨j,by omega,rfl,by simpa using j2,fun i hi=>by have:=j3 i hi;simpa using this⟩⟩
    unfold Id
    rw[un (some (.rt (.int j),L')) (by unfold Im;rw[An s1,fSeq_eq,e1];rfl)]
    rfl
  · rw[Ey] at h1
    refine ⟨.non,?_,.inr ⟨rfl,fun i hi=>by have:=h1 i (by omega);simpa using this⟩⟩
    unfold Id
    rw[un (some (.rt .non,L')) (by unfold Im;rw[An s1,An e1];rfl)]
    rfl
theorem Aac{row:List Int}(h:∀ n∈row,0≤n):∀ {i j:Nat},i≤j→j≤row.length→pre row i≤pre row j:=by
  intro i j hij
  induction j with
  | zero => intro _; have : i = 0 := by omega
            subst this;exact Int.le_refl _
  | succ j ih=>
    intro hj
    rcases Nat.lt_or_eq_of_le hij with q | q
    · have h1:=ih (by omega) (by omega)
      have h2:=Acp (row:=row) (k:=j) (by omega)
      have h3:0≤row.getD j 0:=by
        rw[List.getD_eq_getElem?_getD,List.getElem?_eq_getElem (by omega:j < row.length)]
        exact h _ (List.getElem_mem _)
      omega
    · subst q;exact Int.le_refl _
theorem Aed{fa fb:FE}{z:U}{δ:UE}{L L1 L2:UH}(hz:Pl 6 z)(h1:fa δ L=some (z,L1))(h2:fb δ L1=some (z,L2)):(Be (f2 C4 fa fb)) δ L=some (false,L2):=by
  have q3:=Lp L2 hz hz
  rw[Jx hz] at q3
  rw[fTest_eq,f2_eq,h1]
  simp only[Option.bind_some,h2,q3]
  rfl
theorem IsLeast.pl{row:List Int}{n:Nat}{v:Int}{z:U}(h:IsLeast row n v z):Pl 6 z:=by
  rcases h with ⟨m,_,rfl,_⟩ | ⟨rfl,_⟩
  · exact Pl.int _ _
  · simp[Pl]
theorem Ue{L:UH}{d t c:Nat}{B:Int}{row:List Int}(D:Seed L d B)(hB:B≤1000000)(T:TrF L t c row)(hn:row.length≤200)(hr:∀ n∈row,0≤n)(h1:t≠d)(h2:c≠d)(x3 x4 x5 x6:Option U) :
    ∃ L' y4 y5 y6,Ec [some (.ref d),some (.tup (row.map U.int)),some (.ref t),x3,x4,x5,x6] L=some (.nx [some (.ref d),some (.tup (row.map U.int)),some (.ref t),x3,y4,y5,y6],L')∧Seed L' d (B+3)∧Ex d L L':=by
  obtain ⟨a,L1,e1,b1,D1,X1⟩:=drw (many:=1001) (i:=0) (δ:=[some (.ref d),some (.tup (row.map U.int)),some (.ref t),x3,x4,x5,x6]) (fb:=fC (.int 1001)) D (by omega) (by decide) (by decide) rfl rfl
  obtain ⟨b,L2,e2,b2,D2,X2⟩:=drw (many:=3) (i:=0) (δ:=[some (.ref d),some (.tup (row.map U.int)),some (.ref t),x3,x4,x5,x6]) (fb:=fC (.int 3)) D1 (by omega) (by decide) (by decide) rfl rfl
  have q1:(f2 B8 (f2 Bl (f2 Kx (f2 Di (Ax Do (Ae (Ad 1) Ag)) (Bj 2 As (Ae (Ad 0) (Ae (fC (.int 1001)) Ag)))) (fC (.int 1000))) (Bj 2 As (Ae (Ad 0) (Ae (fC (.int 3)) Ag)))) (fC (.int 1))) [some (.ref d),some (.tup (row.map U.int)),some (.ref t),x3,x4,x5,x6] L=some (.int (row.sum * (a:Int) / 1000+(b:Int) - 1),L2):=by
    have hs:(Ax Do (Ae (Ad 1) Ag)) [some (.ref d),some (.tup (row.map U.int)),some (.ref t),x3,x4,x5,x6] L=some (.int row.sum,L):=by simp[sum_tup]
    have m1:Hh row.sum (a:Int)=true:=Kc (by omega) (by omega)
    have d1:Nc (row.sum * (a:Int)) 1000=true:=K0 (by decide) (by decide)
    rw[f2_eq,f2_eq,f2_eq,f2_eq,hs]
    simp only[Option.bind_some,e1,Vf,m1,if_true,fC_eq,Oc,d1,e2,semAdd_int,semSub_int]
  have s1:=Gf (i:=4) q1
  generalize row.sum * (a:Int) / 1000+(b:Int) - 1=v at s1
  have T2:=T.ex (X1.trans X2) h1 h2
  obtain ⟨z,e3,i3⟩:=T2.least (v:=v) (δ:=[some (.ref d),some (.tup (row.map U.int)),some (.ref t),x3,some (.int v),x5,x6]) (fo:=Ad 2) (fv:=Ad 4) hn rfl rfl
  obtain ⟨w,e4,i4⟩:=R3 row hn v L2
  have hzw:=i3.one i4
  subst hzw
  have s2:=Gi (f:=B0 (fC (.bl false))) (Aed i3.pl e3 (Ua (δ:=[some (.ref d),some (.tup (row.map U.int)),some (.ref t),x3,some (.int v),x5,x6]) (fa:=Ad 1) (fb:=Ad 4) rfl rfl e4))
  obtain ⟨m,L3,e5,b5,D3,X3⟩:=drw (many:=(row.length:Int)+1) (i:=0) (δ:=[some (.ref d),some (.tup (row.map U.int)),some (.ref t),x3,some (.int v),x5,x6]) (fb:=f2 Bl (Ax semLen (Ae (Ad 1) Ag)) (fC (.int 1))) D2 (by omega) (by omega) (by omega) rfl (by simp[J9])
  have s3:=Gf (i:=5) e5
  have T3:=T2.ex X3 h1 h2
  have hm:m≤row.length:=by omega
  have e6:=T3.sum (m:=m) (δ:=[some (.ref d),some (.tup (row.map U.int)),some (.ref t),x3,some (.int v),some (.int (m:Int)),x6]) (fo:=Ad 2) (fm:=Ad 5) hn hm rfl rfl
  obtain ⟨z2,e7,i7⟩:=T3.least (v:=pre row m) (δ:=[some (.ref d),some (.tup (row.map U.int)),some (.ref t),x3,some (.int v),some (.int (m:Int)),x6]) (fo:=Ad 2) (fv:=Ar "SumTree" "sum_of_first" 2 Ai (Ad 2) (Ae (Ad 5) Ag)) hn rfl e6
  have s4:=Gf (i:=6) e7
  rcases i7 with ⟨j,j1,rfl,j2,j3⟩ | ⟨rfl,j1⟩
  · have hjm:j≤m:=by
      rcases Nat.lt_or_ge m j with q | q
      · have:=j3 m q;omega
      · exact q
    have hjp:pre row j=pre row m:=Int.le_antisymm (Aac hr hjm hm) j2
    have t1:(Be (f2 (P4 false) (Ad 6) (fC .non))) [some (.ref d),some (.tup (row.map U.int)),some (.ref t),x3,some (.int v),some (.int (m:Int)),some (.int (j:Int))] L3=some (false,L3):=rfl
    have t2:(Be (f2 K4 (Ad 6) (Ad 5))) [some (.ref d),some (.tup (row.map U.int)),some (.ref t),x3,some (.int v),some (.int (m:Int)),some (.int (j:Int))] L3=some (false,L3):=by
      have:decide ((m:Int) < (j:Int))=false:=decide_eq_false (by omega)
      simp[hjm]
    have f1:=T3.sum (m:=j) (δ:=[some (.ref d),some (.tup (row.map U.int)),some (.ref t),x3,some (.int v),some (.int (m:Int)),some (.int (j:Int))]) (fo:=Ad 2) (fm:=Ad 6) hn j1 rfl rfl
    have f2':=T3.sum (m:=m) (δ:=[some (.ref d),some (.tup (row.map U.int)),some (.ref t),x3,some (.int v),some (.int (m:Int)),some (.int (j:Int))]) (fo:=Ad 2) (fm:=Ad 5) hn hm rfl rfl
    rw[hjp] at f1
    have s5:=Gi (f:=B0 (fC (.bl false))) (orF t1 (orF t2 (neI f1 f2')))
    refine ⟨L3,some (.int v),some (.int (m:Int)),some (.int (j:Int)),?_,D3.mono (by omega),X1.trans (X2.trans X3)⟩
    unfold Ec
    rw[An s1]
    show Ay _ _ [some (.ref d),some (.tup (row.map U.int)),some (.ref t),x3,some (.int v),x5,x6] L2=_
    rw[An s2,An s3]
    show Ay _ _ [some (.ref d),some (.tup (row.map U.int)),some (.ref t),x3,some (.int v),some (.int (m:Int)),x6] L3=_
    rw[An s4]
    exact s5
  · have:=j1 m hm;omega
theorem Oe{L:UH}{d:Nat}{B:Int}{row:List Int}(D:Seed L d B)(hB:B≤100000)(hn:row.length≤200)(hr:∀ n∈row,0≤n):∃ L',Dx [.ref d,.tup (row.map U.int)] L=some (.bl true,L')∧Ex d L L':=by
  obtain ⟨t,c,L1,e1,T1,g1,ht,hc⟩:=Ov row hn L
  have hd:=D.lt
  have s1:(Br (Bj 1 B7 (Ae (Ad 1) Ag)) (gN 2)) [some (.ref d),some (.tup (row.map U.int)),none,none,none,none,none] L=some (.nx [some (.ref d),some (.tup (row.map U.int)),some (.ref t),none,none,none,none],L1):=Gf (i:=2) (Pv (i:=1) rfl e1)
  have hi:Ia (Ae (fC (.int 4)) Ag) [some (.ref d),some (.tup (row.map U.int)),some (.ref t),none,none,none,none] L1=some (.seq (Ch 0 4),L1):=Js (n:=4) rfl (by omega)
  obtain ⟨δ',L2,e2,y3,y4,y5,y6,hδ,D2,T2,X2⟩:=Ja (us:=Ch 0 4) (body:=Ec) (g:=gN 3) (fun k δ' M=>∃ y3 y4 y5 y6,δ'=[some (.ref d),some (.tup (row.map U.int)),some (.ref t),y3,y4,y5,y6]∧Seed M d (B+3 * k)∧TrF M t c row∧Ex d L M) hi
    ⟨none,none,none,none,rfl,(D.gw g1).mono (by omega),T1,g1.ex d⟩
    (fun k u δ M hu ⟨y3,y4,y5,y6,hδ,D',T',X'⟩=>by
      subst hδ
      obtain ⟨hk,rfl⟩:=Fx hu
      obtain ⟨M',z4,z5,z6,e,D2,X2⟩:=Ue D' (by omega) T' hn hr (by omega) (by omega) (some (.int (0+(k:Int)))) y4 y5 y6
      exact ⟨_,M,rfl,_,M',.inl e,_,_,_,_,rfl,D2.mono (by omega),T'.ex X2 (by omega) (by omega),X'.trans X2⟩)
  obtain ⟨z,e3,i3⟩:=T2.least (v:=row.sum+1) (δ:=[some (.ref d),some (.tup (row.map U.int)),some (.ref t),y3,y4,y5,y6]) (fo:=Ad 2) (fv:=f2 Bl (Ax Do (Ae (Ad 1) Ag)) (fC (.int 1))) hn rfl (by simp[sum_tup])
  rcases i3 with ⟨j,j1,rfl,j2,j3⟩ | ⟨rfl,j1⟩
  · have:=Aac hr j1 (Nat.le_refl _)
    rw[V5] at this
    omega
  · refine ⟨L2,?_,X2⟩
    have un:fnU 7 2 Dr [.ref d,.tup (row.map U.int)] L=((Dr [some (.ref d),some (.tup (row.map U.int)),none,none,none,none,none] L).bind fun p=>match p.1 with | .rt z=>some (z,p.2) | .nx _=>some (.non,p.2) | _=>none):=rfl
    unfold Dx
    rw[un]
    have:Dr [some (.ref d),some (.tup (row.map U.int)),none,none,none,none,none] L=some (.rt (.bl true),L2):=by
      unfold Dr
      rw[An s1,An e2,hδ]
      refine Mn ?_
      rw[f2_eq,e3]
      rfl
    rw[this]
    rfl
theorem put_back{row:List Int}{q:Nat}(v:Int)(h:q < row.length):(row.set q (row.getD q 0+v)).set q ((row.set q (row.getD q 0+v)).getD q 0+(0 - v))=row:=by
  have h1:(row.set q (row.getD q 0+v)).getD q 0=row.getD q 0+v:=by
    rw[List.getD_eq_getElem?_getD,List.getElem?_set_self h];rfl
  have h2:row.getD q 0+v+(0 - v)=row[q]:=by
    rw[List.getD_eq_getElem?_getD,List.getElem?_eq_getElem h]
    simp only[Option.getD_some]
    omega
  rw[h1,List.set_set,h2,List.set_getElem_self]
noncomputable def Md(a b:List Int):List Int:=(a.zip b).map fun p=>p.1+p.2
theorem Sd{a b:List Int}(h:a.length=b.length):(Md a b).length=a.length:=by unfold Md;simp[h]
theorem N4:∀ {a b:List Int},a.length=b.length→∀ m,pre (Md a b) m=pre a m+pre b m
  | [],[],_,m=>by simp[Md,pre]
  | [],y::b,h,_=>by simp at h
  | x::a,[],h,_=>by simp at h
  | x::a,y::b,h,0=>by simp[pre]
  | x::a,y::b,h,m+1=>by
    have ih:=N4 (a:=a) (b:=b) (by simpa using h) m
    unfold pre Md at ih ⊢
    simp only[List.zip_cons_cons,List.map_cons,List.take_succ_cons,List.sum_cons]
    omega
theorem Vb{a b:List Int}(h:a.length=b.length):Bu (Md a b)=Md (Bu a) (Bu b):=by
  unfold Bu
  rw[Sd h]
  unfold Md
  rw[h,List.zip_map',List.map_map]
  apply List.map_congr_left
  intro i _
  show Gm (Md a b) (i+1)=Gm a (i+1)+Gm b (i+1)
  unfold Gm
  rw[N4 h,N4 h]
  omega
theorem Uh(a:List Int):(Bu a).length=a.length:=by unfold Bu;simp
theorem Vr(a b:List Int):J2 (a.map U.int) (b.map U.int)=(a.zip b).map fun p=>U.tup [.int p.1,.int p.2]:=by
  unfold J2
  rw[List.zip_map,List.map_map]
  rfl
theorem Tp{fe:FE}{ga gb:FE}{a b:List Int}{δ:UE}{L L0:UH}(hfe:∀ (x y:Int) (M:UH),fe [some (.int x),some (.int y)] M=some (.int (x+y),M))(hg:(Ae ga (Ae gb Ag)) δ L=some ([.tup (a.map U.int),.tup (b.map U.int)],L0))(hl:a.length≤200) :
    ∃ r L',(Df [none,none] (Qb (Ae ga (Ae gb Ag))) (MR.gTup 2 (MR.gCons (gN 0) (MR.gCons (gN 1) MR.gNil))) none fe) δ L=some (.ref r,L')∧Ap L' r=some ((Md a b).map U.int)∧Gw L0 L':=by
  have hi:(Qb (Ae ga (Ae gb Ag))) δ L=some (.seq ((a.zip b).map fun p=>U.tup [.int p.1,.int p.2]),L0):=by
    show ((Ae ga (Ae gb Ag)) δ L).bind _=_
    rw[hg,← Vr]
    rfl
  have hzl:(a.zip b).length≤200:=by rw[List.length_zip];omega
  obtain ⟨x,e⟩:=Ek (ix:=[none,none]) (fi:=Qb (Ae ga (Ae gb Ag))) (it:=.seq ((a.zip b).map fun p=>U.tup [.int p.1,.int p.2])) (g:=MR.gTup 2 (MR.gCons (gN 0) (MR.gCons (gN 1) MR.gNil))) (tt:=none) (fe:=fe) (δ:=δ) (L:=L) (L0:=L0)
    (a.zip b) (fun p=>U.tup [.int p.1,.int p.2]) (fun _=>true) (fun p=>.int (p.1+p.2)) (fun δ=>∃ y z,δ = [y,z]) hi (by simp[IU.size]) (by omega) ⟨none,none,rfl⟩ (fun k x=>rfl)
    (fun p δ x _ ⟨y,z,hδ⟩=>by
      subst hδ
      refine ⟨[some (.int p.1),some (.int p.2)],rfl,⟨_,_,rfl⟩,[],by simp[Ic],fun _=>⟨[],?_⟩⟩
      rw[hfe]
      simp)
  have hf:(a.zip b).filter (fun _=>true)=a.zip b:=by simp
  rw[hf] at e
  refine ⟨(L0++x).length,_,e,?_,(Gw.new L0 x).trans (Gw.new _ _)⟩
  unfold Md
  rw[List.map_map]
  exact A0 (by simp)
theorem semAddA_int(i j:Int)(L:UH):semAddA (.int i) (.int j) L=some (.int (i+j),L):=by simp[semAddA]
theorem Y1{L:UH}{d t c:Nat}{B:Int}{row:List Int}(D:Seed L d B)(hB:B≤1000000)(T:TrF L t c row)(hn:row.length≤200)(h0:1≤row.length)(h1:t≠d)(h2:c≠d)(x4 x5 x6 x7 x8 x9 x10 x11 x12:Option U) :
    ∃ L' y5 y6,Eb [some (.ref d),some (.tup (row.map U.int)),some (.int (row.length:Int)),some (.ref t),x4,x5,x6,x7,x8,x9,x10,x11,x12] L=some (.nx [some (.ref d),some (.tup (row.map U.int)),some (.int (row.length:Int)),some (.ref t),x4,y5,y6,x7,x8,x9,x10,x11,x12],L')∧Seed L' d (B+2)∧Ex d L L':=by
  obtain ⟨r,L1,e1,b1,D1,X1⟩:=drw (many:=(row.length:Int)) (i:=0) (δ:=[some (.ref d),some (.tup (row.map U.int)),some (.int (row.length:Int)),some (.ref t),x4,x5,x6,x7,x8,x9,x10,x11,x12]) (fb:=Ad 2) D (by omega) (by omega) (by omega) rfl rfl
  have hr:r < row.length:=by omega
  have c1:(1:Int)+(r:Int)=((r+1:Nat):Int):=by omega
  have q1:(f2 semAddA (fC (.int 1)) (Bj 2 As (Ae (Ad 0) (Ae (Ad 2) Ag)))) [some (.ref d),some (.tup (row.map U.int)),some (.int (row.length:Int)),some (.ref t),x4,x5,x6,x7,x8,x9,x10,x11,x12] L=some (.int ((r+1:Nat):Int),L1):=by
    rw[f2_eq]
    simp only[fC_eq,Option.bind_some]
    rw[e1]
    simp only[Option.bind_some,semAddA_int,c1]
  have s1:=Gf (i:=5) q1
  obtain ⟨q,L2,e2,b2,D2,X2⟩:=drw (many:=((row.length - r:Nat):Int)) (i:=0) (δ:=[some (.ref d),some (.tup (row.map U.int)),some (.int (row.length:Int)),some (.ref t),x4,some (.int ((r+1:Nat):Int)),x6,x7,x8,x9,x10,x11,x12]) (fb:=f2 B8 (f2 semAddA (Ad 2) (fC (.int 1))) (Ad 5)) D1 (by omega) (by omega) (by omega) rfl (by
    have c2:(row.length:Int)+1 - ((r+1:Nat):Int)=((row.length - r:Nat):Int):=by omega
    rw[f2_eq,f2_eq]
    simp only[fVar_eq,fC_eq,List.getElem?_cons_succ,List.getElem?_cons_zero,Option.join_some,Option.map_some,Option.bind_some,semAddA_int,semSub_int,c2])
  have c3:((r+1:Nat):Int)+(q:Int)=((r+1+q:Nat):Int):=by omega
  have q2:(f2 semAddA (Ad 5) (Bj 2 As (Ae (Ad 0) (Ae (f2 B8 (f2 semAddA (Ad 2) (fC (.int 1))) (Ad 5)) Ag)))) [some (.ref d),some (.tup (row.map U.int)),some (.int (row.length:Int)),some (.ref t),x4,some (.int ((r+1:Nat):Int)),x6,x7,x8,x9,x10,x11,x12] L1=some (.int ((r+1+q:Nat):Int),L2):=by
    rw[f2_eq]
    simp only[fVar_eq,List.getElem?_cons_succ,List.getElem?_cons_zero,Option.join_some,Option.map_some,Option.bind_some]
    rw[e2]
    simp only[Option.bind_some,semAddA_int,c3]
  have s2:=Gf (i:=6) q2
  have T2:=T.ex (X1.trans X2) h1 h2
  generalize hδ:([some (.ref d),some (.tup (row.map U.int)),some (.int (row.length:Int)),some (.ref t),x4,some (.int ((r+1:Nat):Int)),some (.int ((r+1+q:Nat):Int)),x7,x8,x9,x10,x11,x12]:UE) = δ
  have v0:Ad 1 δ L2=some (.tup (row.map U.int),L2):=by subst hδ;rfl
  have v1:Ad 3 δ L2=some (.ref t,L2):=by subst hδ;rfl
  have v2:Ad 5 δ L2=some (.int ((r+1:Nat):Int),L2):=by subst hδ;rfl
  have v3:Ad 6 δ L2=some (.int ((r+1+q:Nat):Int),L2):=by subst hδ;rfl
  have v4:(f2 B8 (Ad 5) (fC (.int 1))) δ L2=some (.int ((r:Nat):Int),L2):=by
    have c4:((r+1:Nat):Int) - 1=((r:Nat):Int):=by omega
    rw[f2_eq,v2]
    simp only[Option.bind_some,fC_eq,semSub_int,c4]
  have f1:=T2.from_to (a:=r+1) (b:=r+1+q) hn (by omega) (by omega) (by omega) v1 v2 v3
  rw[Nat.add_sub_cancel] at f1
  have f2':=T2.sum (m:=r+1+q) hn (by omega) v1 v3
  have f3:=T2.sum (m:=r) hn (by omega) v1 v4
  have f4:(f2 B8 (Ar "SumTree" "sum_of_first" 2 Ai (Ad 3) (Ae (Ad 6) Ag)) (Ar "SumTree" "sum_of_first" 2 Ai (Ad 3) (Ae (f2 B8 (Ad 5) (fC (.int 1))) Ag))) δ L2=some (.int (pre row (r+1+q) - pre row r),L2):=by
    rw[f2_eq,f2']
    simp only[Option.bind_some]
    rw[f3]
    simp only[Option.bind_some,semSub_int]
  have s3:=Gi (f:=B0 (fC (.bl false))) (neI f1 f4)
  have f5:=Ug (row:=row) (a:=r) (b:=r+1+q) (by omega) v0 v4 v3
  have f6:=Ad0 (row:=row) (b:=r+1+q) v0 v3
  have s4:=Gi (f:=B0 (fC (.bl false))) (orF (neI f1 f5) (neI f2' f6))
  refine ⟨L2,some (.int ((r+1:Nat):Int)),some (.int ((r+1+q:Nat):Int)),?_,D2.mono (by omega),X1.trans X2⟩
  rw[hδ]
  unfold Eb
  rw[An s1]
  show Ay _ _ [some (.ref d),some (.tup (row.map U.int)),some (.int (row.length:Int)),some (.ref t),x4,some (.int ((r+1:Nat):Int)),x6,x7,x8,x9,x10,x11,x12] L1=_
  rw[An s2]
  show Ay _ _ [some (.ref d),some (.tup (row.map U.int)),some (.int (row.length:Int)),some (.ref t),x4,some (.int ((r+1:Nat):Int)),some (.int ((r+1+q:Nat):Int)),x7,x8,x9,x10,x11,x12] L2=_
  rw[hδ,An s3]
  exact s4
theorem Ab9{L:UH}{d:Nat}{B:Int}{row:List Int}(D:Seed L d B)(hB:B≤1000000)(hn:row.length≤200){δ:UE}(hv:Ad 1 δ L=some (.tup (row.map U.int),L))(hin:J1 [none,some 0] δ = [none,some (.ref d)]) :
    ∃ (os:List Int) (L':UH),(Ax semTuple (Ae (Df [none,some 0] (Cq (Ad 1)) (gN 0) none Dm) Ag)) δ L=some (.tup (os.map U.int),L')∧os.length=row.length∧Seed L' d (B+200)∧Ex d L L':=by
  have hi:(Cq (Ad 1)) δ L=some (.seq (row.map U.int),L):=by
    show (Ad 1 δ L).bind _=_
    rw[hv]
    rfl
  obtain ⟨ys,δ',L',e,⟨z,os,hδ,hos,hl,D',X'⟩⟩:=Afv (us:=row.map U.int) (ix:=[none,some 0]) (fi:=Cq (Ad 1)) (it:=.seq (row.map U.int)) (g:=gN 0) (tt:=none) (fe:=Dm) (δ:=δ) (L:=L) (L0:=L)
    (fun k acc δ M=>∃ (z:Option U) (os:List Int),δ = [z,some (.ref d)]∧acc=os.map U.int∧os.length=k∧Seed M d (B+k)∧Ex d L M) hi (by simp[IU.size]) ⟨none,[],hin,rfl,rfl,D.mono (by omega),Ex.refl _ _⟩
    (fun k acc δ M _ _=>rfl)
    (fun k u acc δ M hu ⟨z,os,hδ,hos,hl,D',X'⟩=>by
      subst hδ
      rw[List.getElem?_map] at hu
      obtain ⟨one,h1,rfl⟩:=Option.map_eq_some_iff.mp hu
      have hk:=(List.getElem?_eq_some_iff.mp h1).1
      obtain ⟨r,M1,e1,b1,D1,X1⟩:=drw (many:=3) (i:=1) (δ:=[some (.int one),some (.ref d)]) (fb:=fC (.int 3)) D' (by omega) (by decide) (by decide) rfl rfl
      refine ⟨[some (.int one),some (.ref d)],M,rfl,true,M,rfl,fun _=>⟨.int (0 - one / (1+(r:Int))),M1,?_,?_,_,os++[0 - one / (1+(r:Int))],rfl,?_,?_,D1.mono (by omega),X'.trans X1⟩,fun h=>by cases h⟩
      · have d1:Nc one (1+(r:Int))=true:=K0 (by omega) (by omega)
        unfold Dm
        rw[f2_eq]
        simp only[fC_eq,Option.bind_some]
        rw[f2_eq]
        simp only[fVar_eq,List.getElem?_cons_zero,Option.join_some,Option.map_some,Option.bind_some]
        rw[f2_eq]
        simp only[fC_eq,Option.bind_some]
        rw[e1]
        simp only[Option.bind_some,semAddA_int,Oc,d1,if_true,semSub_int]
      · rw[hos];simp;omega
      · rw[hos];simp
      · simp[hl])
  rw[List.length_map] at hl D'
  have hsq:Ap (L'++[HU.lst ys]) L'.length=some ys:=A0 (by simp)
  refine ⟨os,L'++[.lst ys],?_,hl,(D'.mono (by omega)).new _,X'.trans (Ex.new d L' _)⟩
  rw[fCall_eq,fCons_eq,e]
  subst hos
  simp only[Option.bind_some,fNil_eq,Option.map_some,semTuple,hsq]
noncomputable def S6(x:Int):Int:=if x < 0 then -x else x
theorem Ahb{row:List Int}(hn:row.length≤200){δ:UE}{L:UH}(hv:Ad 1 δ L=some (.tup (row.map U.int),L)):∃ L',(Ax semTuple (Ae (Df [none] (Cq (Ad 1)) (gN 0) none Cr) Ag)) δ L=some (.tup ((row.map fun x=>(S6 x)).map U.int),L')∧Gw L L':=by
  have hi:(Cq (Ad 1)) δ L=some (.seq (row.map U.int),L):=by
    show (Ad 1 δ L).bind _=_
    rw[hv]
    rfl
  obtain ⟨x,e⟩:=Ek (ix:=[none]) (fi:=Cq (Ad 1)) (it:=.seq (row.map U.int)) (g:=gN 0) (tt:=none) (fe:=Cr) (δ:=δ) (L:=L) (L0:=L)
    row U.int (fun _=>true) (fun x=>.int (S6 x)) (fun δ=>∃ z,δ = [z]) hi (by simp[IU.size]) (by omega) ⟨none,rfl⟩ (fun k x=>rfl)
    (fun a δ x _ ⟨z,hδ⟩=>by
      subst hδ
      refine ⟨[some (.int a)],rfl,⟨_,rfl⟩,[],by simp[Ic],fun _=>⟨[],?_⟩⟩
      simp[Cr,semAbs,S6])
  have hf:row.filter (fun _=>true)=row:=by simp
  rw[hf] at e
  have hsq:Ap (L++x++[HU.lst (row.map fun x=>U.int (S6 x))]) (L++x).length=some (row.map fun x=>U.int (S6 x)):=A0 (by simp)
  refine ⟨L++x++[HU.lst (row.map fun x=>U.int (S6 x))],?_,(Gw.new L x).trans (Gw.new _ _)⟩
  rw[fCall_eq,fCons_eq,e]
  simp only[Option.bind_some,fNil_eq,Option.map_some,semTuple,hsq,List.map_map]
  rfl
theorem Oi{L:UH}{d:Nat}{B:Int}{row:List Int}(D:Seed L d B)(hB:B≤10000)(hn:row.length≤200)(h0:1≤row.length):∃ L',Ds [.ref d,.tup (row.map U.int)] L=some (.bl true,L')∧Ex d L L':=by
  have hdl:=D.lt
  have s1:(Br (Ax semLen (Ae (Ad 1) Ag)) (gN 2)) [some (.ref d),some (.tup (row.map U.int)),none,none,none,none,none,none,none,none,none,none,none] L=some (.nx [some (.ref d),some (.tup (row.map U.int)),some (.int (row.length:Int)),none,none,none,none,none,none,none,none,none,none],L):=Gf (i:=2) (by simp[J9])
  obtain ⟨t,c,L1,e2,T1,g1,ht,hc⟩:=Ov row hn L
  have s2:(Br (Bj 1 B7 (Ae (Ad 1) Ag)) (gN 3)) [some (.ref d),some (.tup (row.map U.int)),some (.int (row.length:Int)),none,none,none,none,none,none,none,none,none,none] L=some (.nx [some (.ref d),some (.tup (row.map U.int)),some (.int (row.length:Int)),some (.ref t),none,none,none,none,none,none,none,none,none],L1):=Gf (i:=3) (Pv (i:=1) rfl e2)
  have htd:t≠d:=by omega
  have hcd:c≠d:=by omega
  have X1:Ex d L L1:=g1.ex d
  have D1:=D.gw g1
  obtain ⟨L2,e3,g2⟩:=T1.row_now (δ:=[some (.ref d),some (.tup (row.map U.int)),some (.int (row.length:Int)),some (.ref t),none,none,none,none,none,none,none,none,none]) (fo:=Ad 3) hn rfl
  have T2:=T1.gw g2
  have e4:=T2.sum (m:=row.length) (δ:=[some (.ref d),some (.tup (row.map U.int)),some (.int (row.length:Int)),some (.ref t),none,none,none,none,none,none,none,none,none]) (fo:=Ad 3) (fm:=Ad 2) hn (Nat.le_refl _) rfl rfl
  rw[V5] at e4
  have e5:(Ax Do (Ae (Ad 1) Ag)) [some (.ref d),some (.tup (row.map U.int)),some (.int (row.length:Int)),some (.ref t),none,none,none,none,none,none,none,none,none] L2=some (.int row.sum,L2):=by simp[sum_tup]
  have s3:=Gi (f:=B0 (fC (.bl false))) (orF (neF (fb:=Ad 1) e3 rfl) (neI e4 e5))
  have D2:=D1.gw g2
  have X2:=X1.trans (g2.ex d)
  have hi:Ia (Ae (fC (.int 6)) Ag) [some (.ref d),some (.tup (row.map U.int)),some (.int (row.length:Int)),some (.ref t),none,none,none,none,none,none,none,none,none] L2=some (.seq (Ch 0 6),L2):=Js (n:=6) rfl (by omega)
  obtain ⟨δ',L3,e6,y4,y5,y6,hδ,D3,T3,X3⟩:=Ja (us:=Ch 0 6) (body:=Eb) (g:=gN 4) (fun k δ' M=>∃ y4 y5 y6,δ'=[some (.ref d),some (.tup (row.map U.int)),some (.int (row.length:Int)),some (.ref t),y4,y5,y6,none,none,none,none,none,none]∧Seed M d (B+2 * k)∧TrF M t c row∧Ex d L M) hi
    ⟨none,none,none,rfl,D2.mono (by omega),T2,X2⟩
    (fun k u δ M hu ⟨y4,y5,y6,hδ,D',T',X'⟩=>by
      subst hδ
      obtain ⟨hk,rfl⟩:=Fx hu
      obtain ⟨M',z5,z6,e,D2,X2⟩:=Y1 D' (by omega) T' hn h0 htd hcd (some (.int (0+(k:Int)))) y5 y6 none none none none none none
      exact ⟨_,M,rfl,_,M',.inl e,_,_,_,rfl,D2.mono (by omega),T'.ex X2 htd hcd,X'.trans X2⟩)
  rw[Ey] at D3
  obtain ⟨L4,e7,g4⟩:=T3.cells (δ:=[some (.ref d),some (.tup (row.map U.int)),some (.int (row.length:Int)),some (.ref t),y4,y5,y6,none,none,none,none,none,none]) (fo:=Ad 3) (L0:=L3) rfl
  have s7:=Gf (i:=7) e7
  obtain ⟨L5,e8,g5⟩:=Xd row hn L4
  have s8:=Gi (f:=B0 (fC (.bl false))) (neF (δ:=[some (.ref d),some (.tup (row.map U.int)),some (.int (row.length:Int)),some (.ref t),y4,y5,y6,some (.tup ((Bu row).map U.int)),none,none,none,none,none]) (fa:=Ad 7) rfl (Pv (i:=1) rfl e8))
  have T5:=T3.gw (g4.trans g5)
  have D5:=D3.gw (g4.trans g5)
  have X5:=X3.trans ((g4.trans g5).ex d)
  obtain ⟨p,L6,e9,b9,D6,X6⟩:=drw (many:=(row.length:Int)) (i:=0) (δ:=[some (.ref d),some (.tup (row.map U.int)),some (.int (row.length:Int)),some (.ref t),y4,y5,y6,some (.tup ((Bu row).map U.int)),none,none,none,none,none]) (fb:=Ad 2) D5 (by omega) (by omega) (by omega) rfl rfl
  have c9:(1:Int)+(p:Int)=((p+1:Nat):Int):=by omega
  have q9:(f2 semAddA (fC (.int 1)) (Bj 2 As (Ae (Ad 0) (Ae (Ad 2) Ag)))) [some (.ref d),some (.tup (row.map U.int)),some (.int (row.length:Int)),some (.ref t),y4,y5,y6,some (.tup ((Bu row).map U.int)),none,none,none,none,none] L5=some (.int ((p+1:Nat):Int),L6):=by
    rw[f2_eq]
    simp only[fC_eq,Option.bind_some]
    rw[e9]
    simp only[Option.bind_some,semAddA_int,c9]
  have s9:=Gf (i:=8) q9
  obtain ⟨v,L7,e10,_,_,D7,X7⟩:=Oa (way:=2) D6 (by omega) (.inr (.inr rfl))
  have s10:=Gf (i:=9) (Ua (δ:=[some (.ref d),some (.tup (row.map U.int)),some (.int (row.length:Int)),some (.ref t),y4,y5,y6,some (.tup ((Bu row).map U.int)),some (.int ((p+1:Nat):Int)),none,none,none,none]) (fa:=Ad 0) (fb:=fC (.int 2)) rfl rfl e10)
  have T7:=T5.ex (X6.trans X7) htd hcd
  have X7':=X5.trans (X6.trans X7)
  have hp:p < row.length:=by omega
  obtain ⟨o1,e11,T8⟩:=T7.put (p:=p+1) (v:=v) (δ:=[some (.ref d),some (.tup (row.map U.int)),some (.int (row.length:Int)),some (.ref t),y4,y5,y6,some (.tup ((Bu row).map U.int)),some (.int ((p+1:Nat):Int)),some (.int v),none,none,none]) (fo:=Ad 3) (fp:=Ad 8) (fv:=Ad 9) hn (by omega) (by omega) rfl rfl rfl
  have X8:=X7'.set hc o1
  have D8:=D7.set hcd o1
  obtain ⟨o2,e12,T9⟩:=T8.put (p:=p+1) (v:=0 - v) (δ:=[some (.ref d),some (.tup (row.map U.int)),some (.int (row.length:Int)),some (.ref t),y4,y5,y6,some (.tup ((Bu row).map U.int)),some (.int ((p+1:Nat):Int)),some (.int v),none,none,none]) (fo:=Ad 3) (fp:=Ad 8) (fv:=f2 B8 (fC (.int 0)) (Ad 9)) (by rw[List.length_set];exact hn) (by omega) (by rw[List.length_set];omega) rfl rfl rfl
  rw[Nat.add_sub_cancel,put_back v hp] at T9
  have X9:=X8.set hc o2
  have D9:=D8.set hcd o2
  generalize (L7.set c o1).set c o2=M at e12 T9 X9 D9
  generalize hδ9:([some (.ref d),some (.tup (row.map U.int)),some (.int (row.length:Int)),some (.ref t),y4,y5,y6,some (.tup ((Bu row).map U.int)),some (.int ((p+1:Nat):Int)),some (.int v),none,none,none]:UE) = δ9 at e11 e12
  obtain ⟨M1,e13,g13⟩:=T9.cells (δ:=δ9) (fo:=Ad 3) (L0:=M) (by subst hδ9;rfl)
  have T10:=T9.gw g13
  obtain ⟨M2,e14,g14⟩:=T10.row_now (δ:=δ9) (fo:=Ad 3) hn (by subst hδ9;rfl)
  have s13:=Gi (f:=B0 (fC (.bl false))) (orF (neF (fb:=Ad 7) e13 (by subst hδ9;rfl)) (neF (fb:=Ad 1) e14 (by subst hδ9;rfl)))
  have D11:=D9.gw (g13.trans g14)
  have X11:=X9.trans ((g13.trans g14).ex d)
  obtain ⟨os,M3,e15,hos,D12,X12⟩:=Ab9 (row:=row) (δ:=δ9) D11 (by omega) hn (by subst hδ9;rfl) (by subst hδ9;rfl)
  have s14:=Gf (i:=10) e15
  have X13:=X11.trans X12
  generalize hδ10:δ9.set 10 (some (.tup (os.map U.int))) = δ10 at s14
  have w1:∀ N,Ad 1 δ10 N=some (.tup (row.map U.int),N):=fun N=>by subst hδ10;subst hδ9;rfl
  have w7:∀ N,Ad 7 δ10 N=some (.tup ((Bu row).map U.int),N):=fun N=>by subst hδ10;subst hδ9;rfl
  have w10:∀ N,Ad 10 δ10 N=some (.tup (os.map U.int),N):=fun N=>by subst hδ10;subst hδ9;rfl
  obtain ⟨r3,M4,e16,q16,g16⟩:=Tp (fe:=Ez) (ga:=Ad 1) (gb:=Ad 10) (a:=row) (b:=os) (δ:=δ10) (L:=M3) (L0:=M3) (fun x y M=>by simp[Ez,semAddA_int]) (C7 (w1 M3) (C7 (w10 M3) rfl)) hn
  have hsl:=Sd hos.symm
  obtain ⟨t2,c2,M5,e17,T17,g17,_,_⟩:=Ab4 q16 (by omega)
  have s15:=Gf (i:=11) (Ajw (f:=B7) e16 e17)
  generalize hδ11:δ10.set 11 (some (.ref t2)) = δ11 at s15
  have w7b:∀ N,Ad 7 δ11 N=some (.tup ((Bu row).map U.int),N):=fun N=>by subst hδ11;subst hδ10;subst hδ9;rfl
  have w10b:∀ N,Ad 10 δ11 N=some (.tup (os.map U.int),N):=fun N=>by subst hδ11;subst hδ10;subst hδ9;rfl
  obtain ⟨t3,c3,M6,e18,T18,g18,_,_⟩:=Ov os (by omega) M5
  obtain ⟨M7,e19,g19⟩:=T18.cells (δ:=δ11) (L0:=M5) (fo:=Bj 1 B7 (Ae (Ad 10) Ag)) (Pv (w10b M5) e18)
  obtain ⟨r4,M8,e20,q20,g20⟩:=Tp (fe:=E3) (ga:=Ad 7) (gb:=Ar "SumTree" "cells_now" 1 A7 (Bj 1 B7 (Ae (Ad 10) Ag)) Ag) (a:=Bu row) (b:=Bu os) (δ:=δ11) (L:=M5) (L0:=M7) (fun x y M=>by simp[E3,semAddA_int]) (C7 (w7b M5) (C7 e19 rfl)) (by rw[Uh];exact hn)
  have s16:=Gf (i:=12) e20
  generalize hδ12:δ11.set 12 (some (.ref r4)) = δ12 at s16
  have gg:Gw M3 M8:=g16.trans (g17.trans (g18.trans (g19.trans g20)))
  obtain ⟨M9,e21,g21⟩:=(T17.gw (g18.trans (g19.trans g20))).cells (δ:=δ12) (L0:=M8) (fo:=Ad 11) (by subst hδ12;subst hδ11;subst hδ10;subst hδ9;rfl)
  rw[Vb hos.symm] at e21
  have q21:=g21.seq q20
  have e22:(Ax semTuple (Ae (Ad 12) Ag)) δ12 M9=some (.tup ((Md (Bu row) (Bu os)).map U.int),M9):=by
    have w:Ad 12 δ12 M9=some (.ref r4,M9):=by subst hδ12;subst hδ11;subst hδ10;subst hδ9;rfl
    rw[fCall_eq,fCons_eq,w]
    simp only[Option.bind_some,fNil_eq,Option.map_some,semTuple,q21]
  have e23:(f2 Eh (Ar "SumTree" "cells_now" 1 A7 (Ad 11) Ag) (Ax semTuple (Ae (Ad 12) Ag))) δ12 M8=some (.bl true,M9):=by
    have q3:=Oz M9 (Cw (Md (Bu row) (Bu os))) (Cw (Md (Bu row) (Bu os)))
    rw[Jx (Cw _)] at q3
    rw[f2_eq,e21]
    simp only[Option.bind_some,e22,q3]
  obtain ⟨M10,e24,g24⟩:=Ahb (row:=row) hn (δ:=δ12) (L:=M9) (by subst hδ12;subst hδ11;subst hδ10;subst hδ9;rfl)
  have D13:=D12.gw (gg.trans (g21.trans g24))
  obtain ⟨M11,e25,X25⟩:=Oe (row:=row.map S6) D13 (by omega) (by simp;omega) (fun n hn=>by
    obtain ⟨x,_,rfl⟩:=List.mem_map.mp hn
    unfold S6;split <;> omega)
  have e26:(Bj 2 Dx (Ae (Ad 0) (Ae (Ax semTuple (Ae (Df [none] (Cq (Ad 1)) (gN 0) none Cr) Ag)) Ag))) δ12 M9=some (.bl true,M11):=Ua (fa:=Ad 0) (by subst hδ12;subst hδ11;subst hδ10;subst hδ9;rfl) e24 e25
  refine ⟨M11,?_,X13.trans (((gg.trans (g21.trans g24)).ex d).trans X25)⟩
  have un:fnU 13 2 Du [.ref d,.tup (row.map U.int)] L=((Du [some (.ref d),some (.tup (row.map U.int)),none,none,none,none,none,none,none,none,none,none,none] L).bind fun p=>match p.1 with | .rt z=>some (z,p.2) | .nx _=>some (.non,p.2) | _=>none):=rfl
  unfold Ds
  rw[un]
  have fin:Du [some (.ref d),some (.tup (row.map U.int)),none,none,none,none,none,none,none,none,none,none,none] L=some (.rt (.bl true),M11):=by
    unfold Du
    rw[An s1,An s2,An s3,An e6,hδ,An s7]
    show Ay _ _ [some (.ref d),some (.tup (row.map U.int)),some (.int (row.length:Int)),some (.ref t),y4,y5,y6,some (.tup ((Bu row).map U.int)),none,none,none,none,none] L4=_
    rw[An s8,An s9]
    show Ay _ _ [some (.ref d),some (.tup (row.map U.int)),some (.int (row.length:Int)),some (.ref t),y4,y5,y6,some (.tup ((Bu row).map U.int)),some (.int ((p+1:Nat):Int)),none,none,none,none] L6=_
    rw[An s10]
    show Ay _ _ [some (.ref d),some (.tup (row.map U.int)),some (.int (row.length:Int)),some (.ref t),y4,y5,y6,some (.tup ((Bu row).map U.int)),some (.int ((p+1:Nat):Int)),some (.int v),none,none,none] L7=_
    rw[hδ9,An e11,An e12,An s13,An s14,An s15,An s16]
    refine Mn ?_
    rw[Aap,e23]
    simp only[Option.bind_some]
    exact e26
  rw[fin]
  rfl
theorem Aam{L:UH}(cell:Int)(x0 x2 x3:Option U):∃ L' y2 y3,N2 [x0,some (.int cell),x2,x3] L=some (.nx [x0,some (.int cell),y2,y3],L')∧Gw L L':=by
  obtain ⟨L1,e1,D1,g1⟩:=Ae0 cell L
  have s1:=Gf (i:=2) (Pv (δ:=[x0,some (.int cell),x2,x3]) (i:=1) rfl e1)
  obtain ⟨ns,L2,e2,hn,hs,D2,X2⟩:=Vq D1 (by omega)
  have s2:=Gf (i:=3) (Pv (δ:=[x0,some (.int cell),some (.ref L.length),x3]) (i:=2) rfl e2)
  obtain ⟨L3,e3,g3⟩:=Nk ns hn L2
  have s3:=Gi (f:=B0 (fC (.bl false))) (Aa3 (Pv (δ:=[x0,some (.int cell),some (.ref L.length),some (.tup (ns.map U.int))]) (i:=3) rfl e3))
  have D3:=D2.gw g3
  have X3:=X2.trans (g3.ex L.length)
  have toGw:∀ M,Ex L.length L1 M→Gw L M:=fun M X=>by
    obtain ⟨x,hx⟩:=g1
    refine Gw.of (Nat.le_trans (Gw.le ⟨x,hx⟩) X.le) fun i hi=>?_
    rw[X.at_ i (Nat.lt_of_lt_of_le hi (Gw.le ⟨x,hx⟩)) (Nat.ne_of_lt hi),hx,List.getElem?_append_left hi]
  have a4:(Be (f2 C4 (Ad 3) (Kf Ag))) [x0,some (.int cell),some (.ref L.length),some (.tup (ns.map U.int))] L3=some (!decide (ns=[]),L3):=by
    have q3:=Lp L3 (Cw ns) (Cw [])
    have hb:eqB (.tup (ns.map U.int)) (.tup (([]:List Int).map U.int))=decide (ns=[]):=by
      rw[Bool.eq_iff_iff,R7 (Cw ns) (Cw []),decide_eq_true_iff]
      simp
    rw[hb] at q3
    rw[fTest_eq,f2_eq]
    show ((Kf Ag [x0,some (.int cell),some (.ref L.length),some (.tup (ns.map U.int))] L3).bind fun q=>C4 (.tup (ns.map U.int)) q.1 q.2).bind _=_
    have h0:∀ δ:UE,(Kf Ag) δ L3=some (.tup (([]:List Int).map U.int),L3):=fun _=>rfl
    rw[h0]
    simp only[Option.bind_some,q3]
  have fin:∃ L4,(Es (Ab6 (Be (f2 C4 (Ad 3) (Kf Ag))) (Nm (Nh (Bj 2 Ds (Ae (Ad 2) (Ae (Ad 3) Ag)))))) (B0 (fC (.bl false))) Co) [x0,some (.int cell),some (.ref L.length),some (.tup (ns.map U.int))] L3=some (.nx [x0,some (.int cell),some (.ref L.length),some (.tup (ns.map U.int))],L4)∧Ex L.length L1 L4:=by
    by_cases h0:ns=[]
    · rw[decide_eq_true h0] at a4
      refine ⟨L3,Gi ?_,X3⟩
      rw[V1,a4]
      rfl
    · rw[decide_eq_false h0] at a4
      obtain ⟨L4,e4,X4⟩:=Oi D3 (by omega) hn (List.length_pos_iff.mpr h0)
      refine ⟨L4,Gi ?_,X3.trans X4⟩
      rw[V1,a4]
      exact Aa3 (Ua (fa:=Ad 2) (fb:=Ad 3) rfl rfl e4)
  obtain ⟨L4,s4,X4⟩:=fin
  refine ⟨L4,some (.ref L.length),some (.tup (ns.map U.int)),?_,toGw L4 X4⟩
  unfold N2
  rw[An s1]
  show Ay _ _ [x0,some (.int cell),some (.ref L.length),x3] L1=_
  rw[An s2]
  show Ay _ _ [x0,some (.int cell),some (.ref L.length),some (.tup (ns.map U.int))] L2=_
  rw[An s3]
  exact s4
theorem Ack(ns:List Int)(hl:ns.length≤63):∃ L',Qs [.ref 0] [.ro (ns.map U.int)]=some (.bl true,L'):=by
  let L1:UH:=[.ro (ns.map U.int)]
  have hs:Ap L1 0=some (ns.map U.int):=rfl
  have hcut:Jq (ns.map U.int) none (some 2)=(ns.take 2).map U.int:=by
    unfold Jq
    rw[HT.R9,show (some (2:Int))=some ((2:Nat):Int) from rfl,HT.Ld,List.drop_zero,Nat.sub_zero,List.length_map]
    by_cases h:2≤ns.length
    · rw[Nat.min_eq_left h,← List.map_take]
    · rw[Nat.min_eq_right (by omega),← List.map_take,List.take_of_length_le (Nat.le_refl _),List.take_of_length_le (by omega)]
  obtain ⟨r,e1⟩:=Yh (L:=L1++[.lst ((ns.take 2).map U.int)]) (n:=0) ns (J7 hs)
  let M2:UH:=L1++[.lst ((ns.take 2).map U.int)]++[.lst [.int r]]
  have k1:E6 M2 1=some ((ns.take 2).map U.int):=E5 rfl
  have k2:E6 M2 2=some [.int r]:=E5 rfl
  let M3:UH:=M2++[.lst ((ns.take 2++[r]).map U.int)]
  have hadd:Bl (.ref 1) (.ref 2) M2=some (.ref 3,M3):=by
    unfold Bl
    simp only[k1,k2,Option.bind_some]
    rw[if_pos (Gd (by
      have:((ns.take 2).map U.int).length≤2:=by rw[List.length_map,List.length_take];omega
      have:([U.int r]:List U).length=1:=rfl
      omega))]
    simp[M3,M2,L1]
  have h3:Ap M3 3=some ((ns.take 2++[r]).map U.int):=A0 rfl
  have hi:(Cq (f2 Bl (fSl Lx (Ad 0) Dq (Cz (fC (.int 2)))) (H9 (Ae (Bj 1 E2 (Ae (Ad 0) Ag)) Ag)))) [some (.ref 0),none,none,none] L1=some (.ref 3,M3):=by
    have ha:(fSl Lx (Ad 0) Dq (Cz (fC (.int 2)))) [some (.ref 0),none,none,none] L1=some (.ref 1,L1++[.lst ((ns.take 2).map U.int)]):=by
      simp[Lx,hs,hcut]
      rfl
    have hb:(H9 (Ae (Bj 1 E2 (Ae (Ad 0) Ag)) Ag)) [some (.ref 0),none,none,none] (L1++[.lst ((ns.take 2).map U.int)])=some (.ref 2,M2):=by
      have sm1:∀ x:U,Gk [x].length=true:=fun _=>Gd (by show 1≤16777216;decide)
      have hq:(Bj 1 E2 (Ae (Ad 0) Ag)) [some (.ref 0),none,none,none] (L1++[.lst ((ns.take 2).map U.int)])=some (.int r,L1++[.lst ((ns.take 2).map U.int)]):=by simp[-List.map_take,e1]
      rw[fLst_eq,fCons_eq,hq]
      simp only[Option.bind_some,fNil_eq,Option.map_some]
      rw[if_pos (sm1 _)]
      rfl
    rw[Aaj,f2_eq,ha,Option.bind_some,hb,Option.bind_some,hadd,Option.bind_some,Qy h3]
    rfl
  obtain ⟨δ5,L5,e5,P5⟩:=Xa (us:=(ns.take 2++[r]).map U.int) (n:=3) (body:=N2) (g:=gN 1) (fun _ δ' L'=>(∃ y1 y2 y3,δ'=[some (.ref 0),y1,y2,y3])∧Gw M3 L') hi ⟨⟨_,_,_,rfl⟩,Gw.refl _⟩
    (fun k δ L ⟨_,g⟩=>g.seq h3)
    (fun k u δ M hu ⟨⟨y1,y2,y3,hδ⟩,g⟩=>by
      subst hδ
      rw[List.getElem?_map] at hu
      obtain ⟨c,_,rfl⟩:=Option.map_eq_some_iff.mp hu
      obtain ⟨M',z2,z3,e,gM⟩:=Aam (L:=M) c (some (.ref 0)) y2 y3
      exact ⟨_,_,rfl,_,M',.inl e,⟨_,_,_,rfl⟩,g.trans gM⟩)
  refine ⟨L5,?_⟩
  unfold Qs fnU Afm
  simp only[List.length_cons,List.length_nil,if_true,List.map_cons,List.map_nil,List.replicate,List.cons_append,List.nil_append]
  rw[An e5]
  rfl
noncomputable def top(i:Nat):Stmt:=PySem.Challenge.pw_belowpoints_k15_whole_trees_and_places.main.body.getD i (.Pass ⟨0,0,0,0⟩)
noncomputable abbrev Fv:Stmt:=top 8
theorem Ht:FnScope ["script","found","cell"] ["script"] (Am Fv):=⟨rfl,rfl,rfl,by decide +kernel,rfl,by decide +kernel,by decide +kernel⟩
noncomputable abbrev Ik:Stmt:=top 10
theorem J6:FnScope ["seed","most","found","number"] ["seed","most"] (Am Ik):=⟨rfl,rfl,rfl,by decide +kernel,rfl,by decide +kernel,by decide +kernel⟩
noncomputable abbrev Fw:Stmt:=top 11
theorem Nb:FnScope ["seed","way","great"] ["seed","way"] (Am Fw):=⟨rfl,rfl,rfl,by decide +kernel,rfl,by decide +kernel,by decide +kernel⟩
noncomputable abbrev E7:Stmt:=top 14
theorem Gz:FnScope ["seed","way","found","k"] ["seed"] (Am E7):=⟨rfl,rfl,rfl,by decide +kernel,rfl,by decide +kernel,by decide +kernel⟩
noncomputable abbrev Cc:Stmt:=Gs (top 4) 0
theorem Ke:FnScope ["self","many"] ["self","many"] (Am Cc):=⟨rfl,rfl,rfl,by decide +kernel,rfl,by decide +kernel,by decide +kernel⟩
noncomputable abbrev B1:Stmt:=Gs (top 4) 8
theorem Jn:FnScope ["self","place"] ["self","place"] (Am B1):=⟨rfl,rfl,rfl,by decide +kernel,rfl,by decide +kernel,by decide +kernel⟩
noncomputable abbrev Em:Stmt:=top 6
theorem Pz:FnScope ["number"] ["number"] (Am Em):=⟨rfl,rfl,rfl,by decide +kernel,rfl,by decide +kernel,by decide +kernel⟩
noncomputable abbrev Cm:Stmt:=Gs (top 4) 1
theorem Fi:FnScope ["self","place","number","cell"] ["self","place","number"] (Am Cm):=⟨rfl,rfl,rfl,by decide +kernel,rfl,by decide +kernel,by decide +kernel⟩
noncomputable abbrev Bo:Stmt:=Gs (top 4) 2
theorem By:FnScope ["self","many","told","cell"] ["self","many"] (Am Bo):=⟨rfl,rfl,rfl,by decide +kernel,rfl,by decide +kernel,by decide +kernel⟩
noncomputable abbrev Bs:Stmt:=Gs (top 4) 3
theorem Ix:FnScope ["self","first","last"] ["self","first","last"] (Am Bs):=⟨rfl,rfl,rfl,by decide +kernel,rfl,by decide +kernel,by decide +kernel⟩
noncomputable abbrev B6:Stmt:=Gs (top 4) 4
theorem Jw:FnScope ["self","place"] ["self","place"] (Am B6):=⟨rfl,rfl,rfl,by decide +kernel,rfl,by decide +kernel,by decide +kernel⟩
noncomputable abbrev Cf:Stmt:=Gs (top 4) 5
theorem Ky:FnScope ["self"] ["self"] (Am Cf):=⟨rfl,rfl,rfl,by decide +kernel,rfl,by decide +kernel,by decide +kernel⟩
noncomputable abbrev El:Stmt:=top 12
theorem P1:FnScope ["found","due"] ["found","due"] (Am El):=⟨rfl,rfl,rfl,by decide +kernel,rfl,by decide +kernel,by decide +kernel⟩
noncomputable abbrev Dz:Stmt:=top 13
theorem Pk:FnScope ["found","due"] ["found","due"] (Am Dz):=⟨rfl,rfl,rfl,by decide +kernel,rfl,by decide +kernel,by decide +kernel⟩
noncomputable abbrev E9:Stmt:=top 5
theorem Fe:FnScope ["numbers","unlike","places","place","number"] ["numbers"] (Am E9):=⟨rfl,rfl,rfl,by decide +kernel,rfl,by decide +kernel,by decide +kernel⟩
noncomputable abbrev Cl:Stmt:=top 15
theorem B3:FnScope ["numbers","unlike","places","due","tree","k","place"] ["numbers"] (Am Cl):=⟨rfl,rfl,rfl,by decide +kernel,rfl,by decide +kernel,by decide +kernel⟩
noncomputable abbrev Ih:Stmt:=top 9
theorem Qo:FnScope ["cell","number"] ["cell"] (Am Ih):=⟨rfl,rfl,rfl,by decide +kernel,rfl,by decide +kernel,by decide +kernel⟩
noncomputable abbrev B5:Stmt:=Gs (top 4) 6
theorem J5:FnScope ["self"] ["self"] (Am B5):=⟨rfl,rfl,rfl,by decide +kernel,rfl,by decide +kernel,by decide +kernel⟩
noncomputable abbrev G6:Stmt:=top 17
theorem Kq:FnScope ["row","found","k"] ["row"] (Am G6):=⟨rfl,rfl,rfl,by decide +kernel,rfl,by decide +kernel,by decide +kernel⟩
noncomputable abbrev Bz:Stmt:=Gs (top 4) 7
theorem Fs:FnScope ["self","number","many"] ["self","number"] (Am Bz):=⟨rfl,rfl,rfl,by decide +kernel,rfl,by decide +kernel,by decide +kernel⟩
noncomputable abbrev G4:Stmt:=top 18
theorem Jd:FnScope ["row","number","total","many"] ["row","number"] (Am G4):=⟨rfl,rfl,rfl,by decide +kernel,rfl,by decide +kernel,by decide +kernel⟩
noncomputable abbrev E8:Stmt:=top 16
theorem G0:FnScope ["row","tree","k","number"] ["row"] (Am E8):=⟨rfl,rfl,rfl,by decide +kernel,rfl,by decide +kernel,by decide +kernel⟩
noncomputable abbrev Ct:Stmt:=top 20
theorem Ck:FnScope ["seed","row","tree","turn","number","many","found"] ["seed","row"] (Am Ct):=⟨rfl,rfl,rfl,by decide +kernel,rfl,by decide +kernel,by decide +kernel⟩
noncomputable abbrev Cu:Stmt:=top 19
theorem A9:FnScope ["seed","row","many","tree","turn","first","last","cells","place","number","other","both","added"] ["seed","row"] (Am Cu):=⟨rfl,rfl,rfl,by decide +kernel,rfl,by decide +kernel,by decide +kernel⟩
noncomputable abbrev Lc:Stmt:=top 21
theorem Rk:FnScope ["script","cell","seed","numbers"] ["script"] (Am Lc):=⟨rfl,rfl,rfl,by decide +kernel,rfl,by decide +kernel,by decide +kernel⟩
set_option genInjectivity false
set_option genSizeOf false
set_option genSizeOfSpec false
structure Defs(K:PySem.W.Frag)(mg:Str→Option Value) where
  ua:Addr
  ub:ClsF K "SumTree" ua
  uc:Addr
  ud:FuncData
  ue:Fun K "_law_folded" "_law_folded" Fv uc ud
  uf:Binds K ud ["script"] []
  ug:mg "_law_folded" = some (.ref uc)
  uh:Addr
  ui:FuncData
  uj:Fun K "_law_draw" "_law_draw" Ik uh ui
  uk:Binds K ui ["seed","most"] []
  ul:mg "_law_draw" = some (.ref uh)
  um:Addr
  uo:FuncData
  uq:Fun K "_law_number" "_law_number" Fw um uo
  ur:Binds K uo ["seed","way"] []
  ut:mg "_law_number" = some (.ref um)
  uu:Addr
  uv:FuncData
  uw:Fun K "_law_numbers" "_law_numbers" E7 uu uv
  ux:Binds K uv ["seed"] []
  uy:mg "_law_numbers" = some (.ref uu)
  uz:Addr
  uA:FuncData
  uB:Fun K "__init__" "SumTree.__init__" Cc uz uA
  uC:Binds K uA ["self","many"] []
  uD:Addr
  uE:FuncData
  uF:Fun K "need_place" "SumTree.need_place" B1 uD uE
  uG:Binds K uE ["self","place"] []
  uH:Meth K ua "need_place" uD
  uI:Addr
  uJ:FuncData
  uK:Fun K "lowest_bit" "lowest_bit" Em uI uJ
  uL:Binds K uJ ["number"] []
  uM:mg "lowest_bit" = some (.ref uI)
  uN:Addr
  uO:FuncData
  uP:Fun K "put_to" "SumTree.put_to" Cm uN uO
  uQ:Binds K uO ["self","place","number"] []
  uR:Meth K ua "put_to" uN
  uS:Addr
  uT:FuncData
  uU:Fun K "sum_of_first" "SumTree.sum_of_first" Bo uS uT
  uV:Binds K uT ["self","many"] []
  uW:Meth K ua "sum_of_first" uS
  uX:Addr
  uY:FuncData
  uZ:Fun K "sum_from_to" "SumTree.sum_from_to" Bs uX uY
  u4:Binds K uY ["self","first","last"] []
  u5:Meth K ua "sum_from_to" uX
  u6:Addr
  u7:FuncData
  u8:Fun K "number_at" "SumTree.number_at" B6 u6 u7
  u9:Binds K u7 ["self","place"] []
  va:Meth K ua "number_at" u6
  vb:Addr
  vc:FuncData
  vd:Fun K "row_now" "SumTree.row_now" Cf vb vc
  ve:Binds K vc ["self"] []
  vf:Meth K ua "row_now" vb
  vg:Addr
  vh:FuncData
  vi:Fun K "_law_is_whole" "_law_is_whole" El vg vh
  vj:Binds K vh ["found","due"] []
  vk:mg "_law_is_whole" = some (.ref vg)
  vm:Addr
  vn:FuncData
  vo:Fun K "_law_are_whole" "_law_are_whole" Dz vm vn
  vp:Binds K vn ["found","due"] []
  vq:mg "_law_are_whole" = some (.ref vm)
  vt:Addr
  vv:FuncData
  vw:Fun K "places_of" "places_of" E9 vt vv
  vx:Binds K vv ["numbers"] []
  vy:mg "places_of" = some (.ref vt)
  vz:Addr
  vA:FuncData
  vB:Fun K "_law_places_right" "_law_places_right" Cl vz vA
  vC:Binds K vA ["numbers"] []
  vD:mg "_law_places_right" = some (.ref vz)
  vE:Addr
  vF:FuncData
  vG:Fun K "_law_seed" "_law_seed" Ih vE vF
  vH:Binds K vF ["cell"] []
  vI:mg "_law_seed" = some (.ref vE)
  vJ:Addr
  vK:FuncData
  vL:Fun K "cells_now" "SumTree.cells_now" B5 vJ vK
  vM:Binds K vK ["self"] []
  vN:Meth K ua "cells_now" vJ
  vO:Addr
  vP:FuncData
  vQ:Fun K "_law_cells" "_law_cells" G6 vO vP
  vR:Binds K vP ["row"] []
  vS:mg "_law_cells" = some (.ref vO)
  vT:Addr
  vU:FuncData
  vV:Fun K "least_many" "SumTree.least_many" Bz vT vU
  vW:Binds K vU ["self","number"] []
  vX:Meth K ua "least_many" vT
  vY:Addr
  vZ:FuncData
  v5:Fun K "_law_least" "_law_least" G4 vY vZ
  v6:Binds K vZ ["row","number"] []
  v7:mg "_law_least" = some (.ref vY)
  v8:Addr
  v9:FuncData
  wa:Fun K "_law_tree_of" "_law_tree_of" E8 v8 v9
  wb:Binds K v9 ["row"] []
  wc:mg "_law_tree_of" = some (.ref v8)
  wd:Addr
  we:FuncData
  wf:Fun K "_law_least_right" "_law_least_right" Ct wd we
  wg:Binds K we ["seed","row"] []
  wj:mg "_law_least_right" = some (.ref wd)
  wk:Addr
  wl:FuncData
  wm:Fun K "_law_trees_right" "_law_trees_right" Cu wk wl
  wn:Binds K wl ["seed","row"] []
  wo:mg "_law_trees_right" = some (.ref wk)
  wq:Addr
  wt:FuncData
  wu:Fun K "law" "law" Lc wq wt
  wv:Binds K wt ["script"] []
  ww:mg "law" = some (.ref wq)
  wx:Mk K ua uz
  wy:mg "SumTree" = some (.ref ua)
  wz:NoAttr K ua "cells"
  wA:NoAttr K ua "many"
  wB:mg "abs" = none
  wC:mg "bool" = none
  wD:mg "enumerate" = none
  wE:mg "int" = none
  wF:mg "isinstance" = none
  wG:mg "len" = none
  wH:mg "max" = none
  wI:mg "range" = none
  wJ:mg "set" = none
  wK:mg "sorted" = none
  wL:mg "sum" = none
  wM:mg "tuple" = none
  wN:mg "zip" = none
section
variable {P:Program}{w:World}{K:PySem.W.Frag}{mg:Str→Option Value}{base:Heap}
theorem Sc(C:Defs K mg):FnOk P w K mg base CX0 1 C.uc C.ud ["script"] (spF K 1 E2):=by
  refine Fun.okF (N:=["script","found","cell"]) C.ue Ht (fun cdv A outer s H E hr=>?_)
  have hu:=hr.units
  refine Aj ?s0 ?t0
  case s0=>exact (Az (i:=1) (by exact Ht.nd) (Bt Dt Ev (by rfl) C.wG PySem.boot_len (Ac (Ah 0) Af)))
  refine Aj ?s1 ?t1
  case s1=>exact (Fa PassesOwn.never rfl (Gv (Ah 0)) (A8 (i:=2) (by exact Ht.nd)) (Ao (Az (i:=1) (by exact Ht.nd) (At J4 Hv (At Cy C1 (At G1 G2 (Ah 1) Ak) (At J4 Hv (Ah 2) Ak)) Ak))))
  exact (Ao (Aw (Ah 1)))
theorem Bm(C:Defs K mg):FnOk P w K mg base CX0 1 C.uh C.ui ["seed","most"] (spF K 2 As):=by
  refine Fun.okF (N:=["seed","most","found","number"]) C.uj J6 (fun cdv A outer s H E hr=>?_)
  have hu:=hr.units
  refine Aj ?s0 ?t0
  case s0=>exact (Lb (At Cy C1 (Hq Fm Ff (Ah 0) Ak (fun _ _=>rfl)) Ak) (Ny (Ah 0) Ak))
  refine Aj ?s1 ?t1
  case s1=>exact (Cp (PWF.pt (Wr (Bd (Hy hu) Hx (Hq Fm Ff (Ah 0) Ak (fun _ _=>rfl)) Ak (Bg _)) (Sy (Bd Sq O6 (Hq Fm Ff (Ah 0) Ak (fun _ _=>rfl)) Ak (Bg _))))) (Aj (Az (i:=2) (by exact J6.nd) (At J4 Hv (Hq Fm Ff (Ah 0) Ak (fun _ _=>rfl)) (Ah 1))) (Aj (Lb (At Ly Nq (Hq Fm Ff (Ah 0) Ak (fun _ _=>rfl)) (Ah 1)) (Ny (Ah 0) Ak)) (Ao (Aw (Ah 2))))) B4)
  refine Aj ?s2 ?t2
  case s2=>exact (Az (i:=3) (by exact J6.nd) (At J4 Hv (At G1 G2 (At Cy C1 (At Cy C1 (Hq Fm Ff (Ah 0) Ak (fun _ _=>rfl)) (At G1 G2 Ak (Hq Fm Ff (Ah 0) Ak (fun _ _=>rfl)))) Ak) Ak) Ak))
  refine Aj ?s3 ?t3
  case s3=>exact (Az (i:=3) (by exact J6.nd) (At J4 Hv (At G1 G2 (At J4 Hv (At G1 G2 (Ah 3) (Ah 3)) Ak) Ak) Ak))
  exact (Ao (Aw (At J4 Hv (At Ly Nq (Ah 3) Ak) (Ah 1))))
theorem Ng(C:Defs K mg):FnOk P w K mg base CX0 2 C.um C.uo ["seed","way"] (spF K 2 Dp):=by
  refine Fun.okF (N:=["seed","way","great"]) C.uq Nb (fun cdv A outer s H E hr=>?_)
  have hu:=hr.units
  refine Aj ?s0 ?t0
  case s0=>exact (Cp (Bd (Hy hu) Hx (Ah 1) Ak (Bg _)) (Ao (Aw (At Ep C8 (Av (Bm C) (hr.mono (by decide)) (by rfl) C.ul C.uj.kp C.uk (Ac (Ah 0) (Ac Ak Af))) Ak))) B4)
  refine Aj ?s1 ?t1
  case s1=>exact (Cp (Bd (Hy hu) Hx (Ah 1) Ak (Bg _)) (Ao (Aw (At Ep C8 (Av (Bm C) (hr.mono (by decide)) (by rfl) C.ul C.uj.kp C.uk (Ac (Ah 0) (Ac Ak Af))) Ak))) B4)
  refine Aj ?s2 ?t2
  case s2=>exact (Az (i:=2) (by exact Nb.nd) (Hq Fm Ff (Iz (Ac (At Cy C1 (At G1 G2 (Av (Bm C) (hr.mono (by decide)) (by rfl) C.ul C.uj.kp C.uk (Ac (Ah 0) (Ac (At Op Lh Ak Ak) Af))) (At Op Lh Ak Ak)) (Av (Bm C) (hr.mono (by decide)) (by rfl) C.ul C.uj.kp C.uk (Ac (Ah 0) (Ac (At Op Lh Ak Ak) Af)))) (Ac (At Ep C8 (At Op Lh Ak Ak) Ak) Af))) (Cv Qj W8 (by rfl) C.wE (by decide +kernel) (Ac (Ko (Hy hu) Hx (Av (Bm C) (hr.mono (by decide)) (by rfl) C.ul C.uj.kp C.uk (Ac (Ah 0) (Ac Ak Af))) Ak (Bg _)) Af)) (fun _ _=>rfl)))
  exact (Ao (Aw (At G1 G2 (Hq Fm Ff (Iz (Ac Ak (Ac (U8 Ak) Af))) (Av (Bm C) (hr.mono (by decide)) (by rfl) C.ul C.uj.kp C.uk (Ac (Ah 0) (Ac Ak Af))) (fun _ _=>rfl)) (Ah 2))))
theorem Ry(C:Defs K mg):FnOk P w K mg base CX0 3 C.uu C.uv ["seed"] (spF K 1 Jy):=by
  refine Fun.okF (N:=["seed","way","found","k"]) C.uw Gz (fun cdv A outer s H E hr=>?_)
  have hu:=hr.units
  refine Aj ?s0 ?t0
  case s0=>exact (Az (i:=1) (by exact Gz.nd) (Av (Bm C) (hr.mono (by decide)) (by rfl) C.ul C.uj.kp C.uk (Ac (Ah 0) (Ac Ak Af))))
  refine Aj ?s1 ?t1
  case s1=>exact (Az (i:=2) (by exact Gz.nd) (Iz Af))
  refine Aj ?s2 ?t2
  case s2=>exact (Fa PassesOwn.never rfl (G8 (by rfl) C.wI (Ac (Hq Fm Ff (Iz (Ac (Av (Bm C) (hr.mono (by decide)) (by rfl) C.ul C.uj.kp C.uk (Ac (Ah 0) (Ac Ak Af))) (Ac (Av (Bm C) (hr.mono (by decide)) (by rfl) C.ul C.uj.kp C.uk (Ac (Ah 0) (Ac Ak Af))) (Ac (Av (Bm C) (hr.mono (by decide)) (by rfl) C.ul C.uj.kp C.uk (Ac (Ah 0) (Ac Ak Af))) Af)))) (Av (Bm C) (hr.mono (by decide)) (by rfl) C.ul C.uj.kp C.uk (Ac (Ah 0) (Ac Ak Af))) (fun _ _=>rfl)) Af)) (A8 (i:=3) (by exact Gz.nd)) (Aj (Fp (Acw PySem.F.plainAttrs_list PySem.F.slot_list_append PySem.F.type_list_append Qq Oh (Ah 2) (Ac (Av (Ng C) (hr.mono (by decide)) (by rfl) C.ut C.uq.kp C.ur (Ac (Ah 0) (Ac (Ah 1) Af))) Af))) (Ao (Cp (Bd (Hy hu) Hx (Av (Bm C) (hr.mono (by decide)) (by rfl) C.ul C.uj.kp C.uk (Ac (Ah 0) (Ac Ak Af))) Ak (Bg _)) (Ao (Lb (Hq Fm Ff (Ah 2) (Av (Bm C) (hr.mono (by decide)) (by rfl) C.ul C.uj.kp C.uk (Ac (Ah 0) (Ac (Bt Dt Ev (by rfl) C.wG PySem.boot_len (Ac (Ah 2) Af)) Af))) (fun _ _=>rfl)) (Ny (Ah 2) (U8 Ak)))) B4))))
  exact (Ao (Aw (Cv B2 Dy (by rfl) C.wM (by decide +kernel) (Ac (Ah 2) Af))))
theorem Gj(C:Defs K mg):FnOk P w K mg base CX0 1 C.uz C.uA ["self","many"] (spF K 2 Bx):=by
  refine Fun.okF (N:=["self","many"]) C.uB Ke (fun cdv A outer s H E hr=>?_)
  have hu:=hr.units
  refine Aj ?s0 ?t0
  case s0=>exact (V7 C.ub C.wA (Ah 0) (Ah 1))
  exact (Ao (V7 C.ub C.wz (Ah 0) (At G1 G2 (Iz (Ac Ak Af)) (At Cy C1 (Ah 1) Ak))))
theorem Ea(C:Defs K mg):FnOk P w K mg base CX0 1 C.uD C.uE ["self","place"] (spF K 2 Au):=by
  refine Fun.okF (N:=["self","place"]) C.uF Jn (fun cdv A outer s H E hr=>?_)
  have hu:=hr.units
  exact (Ao (Cp (PWF.pt (Hz (Bd Wm Q9 (Ah 1) Ak (Bg _)) (Gy (Bd Sq O6 (Ah 1) (Jb C.ub C.wA (Ah 0)) (Bg _))))) (Ao Qx) B4))
theorem Kk(C:Defs K mg):FnOk P w K mg base CX0 1 C.uI C.uJ ["number"] (spF K 1 Fk):=by
  refine Fun.okF (N:=["number"]) C.uK Pz (fun cdv A outer s H E hr=>?_)
  have hu:=hr.units
  exact (Ao (Aw (At Abl Pt (Ah 0) (U8 (Ah 0)))))
theorem Ed(C:Defs K mg):FnOk P w K mg base CX0 2 C.uN C.uO ["self","place","number"] (spF K 3 Bp):=by
  refine Fun.okF (N:=["self","place","number","cell"]) C.uP Fi (fun cdv A outer s H E hr=>?_)
  have hu:=hr.units
  refine Aj ?s0 ?t0
  case s0=>exact (Fp (Bv C.ub C.uH (Ea C) (hr.mono (by decide)) C.uG (Ah 0) (Ac (Ah 1) Af)))
  refine Aj ?s1 ?t1
  case s1=>exact (Az (i:=3) (by exact Fi.nd) (Ah 1))
  exact (Ao (P7 100000 PassesOwn.never (Bd Afy Aa1 (Ah 3) (Jb C.ub C.wA (Ah 0)) (Bg _)) (Aj (Lb (At Cy C1 (Hq Fm Ff (Jb C.ub C.wz (Ah 0)) (Ah 3) (fun _ _=>rfl)) (Ah 2)) (Ny (Jb C.ub C.wz (Ah 0)) (Ah 3))) (Ao (Az (i:=3) (by exact Fi.nd) (At Cy C1 (Ah 3) (Av (Kk C) (hr.mono (by decide)) (by rfl) C.uM C.uK.kp C.uL (Ac (Ah 3) Af))))))))
theorem Aq(C:Defs K mg):FnOk P w K mg base CX0 2 C.uS C.uT ["self","many"] (spF K 2 Ai):=by
  refine Fun.okF (N:=["self","many","told","cell"]) C.uU By (fun cdv A outer s H E hr=>?_)
  have hu:=hr.units
  refine Aj ?s0 ?t0
  case s0=>exact (Cp (PWF.pt (Hz (Bd Wm Q9 (Ah 1) Ak (Bg _)) (Gy (Bd Sq O6 (Ah 1) (Jb C.ub C.wA (Ah 0)) (Bg _))))) (Ao Qx) B4)
  refine Aj ?s1 ?t1
  case s1=>exact (Az (i:=2) (by exact By.nd) Ak)
  refine Aj ?s2 ?t2
  case s2=>exact (Az (i:=3) (by exact By.nd) (Ah 1))
  refine Aj ?s3 ?t3
  case s3=>exact (P7 100000 PassesOwn.never (Bd Sq O6 (Ah 3) Ak (Bg _)) (Aj (Az (i:=2) (by exact By.nd) (At Cy C1 (Ah 2) (Hq Fm Ff (Jb C.ub C.wz (Ah 0)) (Ah 3) (fun _ _=>rfl)))) (Ao (Az (i:=3) (by exact By.nd) (At Ep C8 (Ah 3) (Av (Kk C) (hr.mono (by decide)) (by rfl) C.uM C.uK.kp C.uL (Ac (Ah 3) Af)))))))
  exact (Ao (Aw (Ah 2)))
theorem Dl(C:Defs K mg):FnOk P w K mg base CX0 3 C.uX C.uY ["self","first","last"] (spF K 3 Bb):=by
  refine Fun.okF (N:=["self","first","last"]) C.uZ Ix (fun cdv A outer s H E hr=>?_)
  have hu:=hr.units
  refine Aj ?s0 ?t0
  case s0=>exact (Fp (Bv C.ub C.uH (Ea C) (hr.mono (by decide)) C.uG (Ah 0) (Ac (Ah 1) Af)))
  refine Aj ?s1 ?t1
  case s1=>exact (Fp (Bv C.ub C.uH (Ea C) (hr.mono (by decide)) C.uG (Ah 0) (Ac (Ah 2) Af)))
  refine Aj ?s2 ?t2
  case s2=>exact (Cp (Bd Wm Q9 (Ah 2) (Ah 1) (Bg _)) (Ao (Aw Ak)) B4)
  exact (Ao (Aw (At Ep C8 (Bv C.ub C.uW (Aq C) (hr.mono (by decide)) C.uV (Ah 0) (Ac (Ah 2) Af)) (Bv C.ub C.uW (Aq C) (hr.mono (by decide)) C.uV (Ah 0) (Ac (At Ep C8 (Ah 1) Ak) Af)))))
theorem Jr(C:Defs K mg):FnOk P w K mg base CX0 4 C.u6 C.u7 ["self","place"] (spF K 2 C6):=by
  refine Fun.okF (N:=["self","place"]) C.u8 Jw (fun cdv A outer s H E hr=>?_)
  have hu:=hr.units
  exact (Ao (Aw (Bv C.ub C.u5 (Dl C) (hr.mono (by decide)) C.u4 (Ah 0) (Ac (Ah 1) (Ac (Ah 1) Af)))))
theorem E4(C:Defs K mg):FnOk P w K mg base CX0 5 C.vb C.vc ["self"] (spF K 1 Bq):=by
  refine Fun.okF (N:=["self"]) C.vd Ky (fun cdv A outer s H E hr=>?_)
  have hu:=hr.units
  exact (Ao (Aw (Cv B2 Dy (by rfl) C.wM (by decide +kernel) (Ac (Il (N':=["place","self"]) (ix:=[none,some 0]) ⟨rfl,rfl,rfl,rfl,rfl⟩ rfl (Pf (by rfl) C.wI (Ac Ak (Ac (At Cy C1 (Jb C.ub C.wA (Ah 0)) Ak) Af))) (fun _ _ _ _ _ _=>(A8 (i:=0) (show List.Nodup (α:=Str) ["place","self"] by decide +kernel))) (fun _ _ _ _ _ _=>(Bv C.ub C.va (Jr C) (hr.mono (by decide)) C.u9 (Ah 1) (Ac (Ah 0) Af)))) Af))))
theorem Px(C:Defs K mg):FnOk P w K mg base CX0 1 C.vg C.vh ["found","due"] (spF K 2 Gu):=by
  refine Fun.okF (N:=["found","due"]) C.vi P1 (fun cdv A outer s H E hr=>?_)
  have hu:=hr.units
  exact (Ao (Aw (Ut (Rc Afe (Ah 0) (by rfl) C.wF (by rfl) C.wE (by decide +kernel)) (Ut (Ahi (Rc Y9 (Ah 0) (by rfl) C.wF (by rfl) C.wC (by decide +kernel))) (Aaq (Ko (Hy hu) Hx (Ah 0) (Ah 1) (Bg _)))))))
theorem J3(C:Defs K mg):FnOk P w K mg base CX0 2 C.vm C.vn ["found","due"] (spF K 2 Er):=by
  refine Fun.okF (N:=["found","due"]) C.vo Pk (fun cdv A outer s H E hr=>?_)
  have hu:=hr.units
  refine Aj ?s0 ?t0
  case s0=>exact (Cp (PWF.pt (Hz (Jc (Iu (Rc Qw (Ah 0) (by rfl) C.wF (by rfl) C.wM (by decide +kernel)))) (Gy (Bd (Fc hu) Fb (Bt Dt Ev (by rfl) C.wG PySem.boot_len (Ac (Ah 0) Af)) (Bt Dt Ev (by rfl) C.wG PySem.boot_len (Ac (Ah 1) Af)) (Bg _))))) (Ao (Aw Hk)) B4)
  exact (Ao (Aw (Ko (Hy hu) Hx (Mt (N':=["one","other"]) (ix:=[none,none]) ⟨rfl,rfl,rfl,rfl,rfl⟩ rfl (Abr (by rfl) C.wN (Ac (Ah 0) (Ac (Ah 1) Af))) (fun _ _ _ _ _ _=>(I0 rfl (Ce (A8 (i:=0) (show List.Nodup (α:=Str) ["one","other"] by decide +kernel)) (Ce (A8 (i:=1) (show List.Nodup (α:=Str) ["one","other"] by decide +kernel)) Hm)))) (fun _ _ _ _ _ _=>(Jc (Iu (Av (Px C) (hr.mono (by decide)) (by rfl) C.vk C.vi.kp C.vj (Ac (Ah 0) (Ac (Ah 1) Af)))))) (fun _ _ _ _ _ _=>Ak)) (Iz Af) (Bg _))))
theorem Jh(C:Defs K mg):FnOk P w K mg base CX0 1 C.vt C.vv ["numbers"] (spF K 1 Ef):=by
  refine Fun.okF (N:=["numbers","unlike","places","place","number"]) C.vw Fe (fun cdv A outer s H E hr=>?_)
  have hu:=hr.units
  refine Aj ?s0 ?t0
  case s0=>exact (Az (i:=1) (by exact Fe.nd) (Cv B2 Dy (by rfl) C.wM (by decide +kernel) (Ac (Pr rfl (by rfl) C.wK (by rfl) C.wJ (Ac (Ah 0) Af)) Af)))
  refine Aj ?s1 ?t1
  case s1=>exact (Az (i:=2) (by exact Fe.nd) Ac3)
  refine Aj ?s2 ?t2
  case s2=>exact (Fa PassesOwn.never rfl (Ys (by rfl) C.wD (Ac (Ah 1) Af)) (I0 rfl (Ce (A8 (i:=3) (by exact Fe.nd)) (Ce (A8 (i:=4) (by exact Fe.nd)) Hm))) (Ao (Ach hu (Ah 2) (Ah 4) (Ah 3))))
  exact (Ao (Aw (R8 (Ac (Ah 1) (Ac (Cv B2 Dy (by rfl) C.wM (by decide +kernel) (Ac (Il (N':=["number","places"]) (ix:=[none,some 2]) ⟨rfl,rfl,rfl,rfl,rfl⟩ rfl (Gv (Ah 0)) (fun _ _ _ _ _ _=>(A8 (i:=0) (show List.Nodup (α:=Str) ["number","places"] by decide +kernel))) (fun _ _ _ _ _ _=>(Adb hu (Ah 1) (Ah 0) (fun _ _=>rfl)))) Af)) Af)))))
theorem Lq(C:Defs K mg):FnOk P w K mg base CX0 6 C.vz C.vA ["numbers"] (spF K 1 Ft):=by
  refine Fun.okF (N:=["numbers","unlike","places","due","tree","k","place"]) C.vB B3 (fun cdv A outer s H E hr=>?_)
  have hu:=hr.units
  refine Aj ?s0 ?t0
  case s0=>exact (Lb (Av (Jh C) (hr.mono (by decide)) (by rfl) C.vy C.vw.kp C.vx (Ac (Ah 0) Af)) (I0 rfl (Ce (A8 (i:=1) (by exact B3.nd)) (Ce (A8 (i:=2) (by exact B3.nd)) Hm))))
  refine Aj ?s1 ?t1
  case s1=>exact (Cp (PWF.pt (Hz (Jc (Iu (Rc Qw (Av (Jh C) (hr.mono (by decide)) (by rfl) C.vy C.vw.kp C.vx (Ac (Ah 0) Af)) (by rfl) C.wF (by rfl) C.wM (by decide +kernel)))) (Gy (Jc (Iu (Av (J3 C) (hr.mono (by decide)) (by rfl) C.vq C.vo.kp C.vp (Ac (Ah 1) (Ac (Pr rfl (by rfl) C.wK (by rfl) C.wJ (Ac (Ah 0) Af)) Af)))))))) (Ao (Aw Hk)) B4)
  refine Aj ?s2 ?t2
  case s2=>exact (Qz (i:=3) (N':=["number","unlike"]) (ix:=[none,some 1]) (by exact B3.nd) ⟨rfl,rfl,rfl,rfl,rfl⟩ rfl (Gv (Ah 0)) (fun _ _ _ _ _ _=>(A8 (i:=0) (show List.Nodup (α:=Str) ["number","unlike"] by decide +kernel))) (fun _ _ _ _ _ _=>(At Ew Dv Ak (Bt Dt Ev (by rfl) C.wG PySem.boot_len (Ac (Mt (N':=["other","number"]) (ix:=[none,some 0]) ⟨rfl,rfl,rfl,rfl,rfl⟩ rfl (Gv (Ah 1)) (fun _ _ _ _ _ _=>(A8 (i:=0) (show List.Nodup (α:=Str) ["other","number"] by decide +kernel))) (fun _ _ _ _ _ _=>(Bd Wm Q9 (Ah 0) (Ah 1) (Bg _))) (fun _ _ _ _ _ _=>Ak)) Af)))))
  refine Aj ?s3 ?t3
  case s3=>exact (Cp (PWF.pt (Hz (Jc (Iu (Av (J3 C) (hr.mono (by decide)) (by rfl) C.vq C.vo.kp C.vp (Ac (Ah 2) (Ac (Ah 3) Af))))) (Gy (Bd (Fc hu) Fb (Av (Jh C) (hr.mono (by decide)) (by rfl) C.vy C.vw.kp C.vx (Ac (Ah 0) Af)) (R8 (Ac (Ah 1) (Ac (Ah 2) Af))) (Bg _))))) (Ao (Aw Hk)) B4)
  refine Aj ?s4 ?t4
  case s4=>exact (Cp (Bd (Hy hu) Hx (Ah 0) (R8 Af) (Bg _)) (Ao (Aw Hk)) B4)
  refine Aj ?s5 ?t5
  case s5=>exact (Az (i:=4) (by exact B3.nd) (Wx C.ub.ns C.wx (Gj C) (hr.mono (by decide)) (by rfl) C.wy C.uC (Ac (Bt Dt Ev (by rfl) C.wG PySem.boot_len (Ac (Ah 1) Af)) Af)))
  refine Aj ?s6 ?t6
  case s6=>exact (Fa PassesOwn.never rfl (Qu (by rfl) C.wD (Ac (Ah 2) Af)) (I0 rfl (Ce (A8 (i:=5) (by exact B3.nd)) (Ce (A8 (i:=6) (by exact B3.nd)) Hm))) (Aj (Cp (Bd (Fc hu) Fb (Bv C.ub C.uW (Aq C) (hr.mono (by decide)) C.uV (Ah 4) (Ac (Ah 6) Af)) (Bt Dt Ev (by rfl) C.wG PySem.boot_len (Ac (Mt (N':=["other","numbers","k"]) (ix:=[none,some 0,some 5]) ⟨rfl,rfl,rfl,rfl,rfl⟩ rfl (Gv (Hc K3 Lg (Ah 0) Lm (Et (Ah 5)))) (fun _ _ _ _ _ _=>(A8 (i:=0) (show List.Nodup (α:=Str) ["other","numbers","k"] by decide +kernel))) (fun _ _ _ _ _ _=>(Bd Afy Aa1 (Ah 0) (Hq Fm Ff (Ah 1) (Ah 2) (fun _ _=>rfl)) (Bg _))) (fun _ _ _ _ _ _=>Ak)) Af)) (Bg _)) (Ao (Aw Hk)) B4) (Ao (Fp (Bv C.ub C.uR (Ed C) (hr.mono (by decide)) C.uQ (Ah 4) (Ac (Ah 6) (Ac Ak Af)))))))
  exact (Ao (Aw (Ko (Hy hu) Hx (G7 C.ub C.vf (E4 C) (hr.mono (by decide)) C.ve (Ah 4)) (Cv B2 Dy (by rfl) C.wM (by decide +kernel) (Ac (Il (N':=["number","numbers"]) (ix:=[none,some 0]) ⟨rfl,rfl,rfl,rfl,rfl⟩ rfl (Gv (Ah 1)) (fun _ _ _ _ _ _=>(A8 (i:=0) (show List.Nodup (α:=Str) ["number","numbers"] by decide +kernel))) (fun _ _ _ _ _ _=>(Acw PySem.F.plainAttrs_tuple PySem.F.slot_tuple_count PySem.F.type_tuple_count Yi V0 (Ah 1) (Ac (Ah 0) Af)))) Af)) (Bg _))))
theorem Xl(C:Defs K mg):FnOk P w K mg base CX0 1 C.vE C.vF ["cell"] (spF K 1 Lj):=by
  refine Fun.okF (N:=["cell","number"]) C.vG Qo (fun cdv A outer s H E hr=>?_)
  have hu:=hr.units
  refine Aj ?s0 ?t0
  case s0=>exact (Az (i:=1) (by exact Qo.nd) (Bt (Xv rfl) Aex (by rfl) C.wH PyProof.Rows.boot_max (Ac (Ah 0) (Ac (At Ep C8 Ak (Ah 0)) Af))))
  exact (Ao (Aw (Iz (Ac (Ah 1) (Ac (Cv Qj W8 (by rfl) C.wE (by decide +kernel) (Ac (Ko Abp Vj (Ah 1) (At Op Lh Ak Ak) (Bg _)) Af)) (Ac Ak (Ac (At J4 Hv (Ah 0) Ak) Af)))))))
theorem C0(C:Defs K mg):FnOk P w K mg base CX0 1 C.vJ C.vK ["self"] (spF K 1 A7):=by
  refine Fun.okF (N:=["self"]) C.vL J5 (fun cdv A outer s H E hr=>?_)
  have hu:=hr.units
  exact (Ao (Aw (Cv B2 Dy (by rfl) C.wM (by decide +kernel) (Ac (Hc Vd Q6 (Jb C.ub C.wz (Ah 0)) (Et Ak) Lm) Af))))
theorem Uv(C:Defs K mg):FnOk P w K mg base CX0 1 C.vO C.vP ["row"] (spF K 1 Mr):=by
  refine Fun.okF (N:=["row","found","k"]) C.vQ Kq (fun cdv A outer s H E hr=>?_)
  have hu:=hr.units
  refine Aj ?s0 ?t0
  case s0=>exact (Az (i:=1) (by exact Kq.nd) (Iz Af))
  refine Aj ?s1 ?t1
  case s1=>exact (Fa PassesOwn.never rfl (Pf (by rfl) C.wI (Ac Ak (Ac (At Ew Dv (Bt Dt Ev (by rfl) C.wG PySem.boot_len (Ac (Ah 0) Af)) Ak) Af))) (A8 (i:=2) (by exact Kq.nd)) (Ao (Fp (Acw PySem.F.plainAttrs_list PySem.F.slot_list_append PySem.F.type_list_append Qq Oh (Ah 1) (Ac (Bt (Fu rfl) Jk (by rfl) C.wL PyProof.Rows.boot_sum (Ac (Hc K3 Lg (Ah 0) (Et (At Ep C8 (Ah 2) (At Abl Pt (Ah 2) (At Ep C8 Ak (Ah 2))))) (Et (Ah 2))) Af)) Af)))))
  exact (Ao (Aw (Cv B2 Dy (by rfl) C.wM (by decide +kernel) (Ac (Ah 1) Af))))
theorem D0(C:Defs K mg):FnOk P w K mg base CX0 3 C.vT C.vU ["self","number"] (spF K 2 Bh):=by
  refine Fun.okF (N:=["self","number","many"]) C.vV Fs (fun cdv A outer s H E hr=>?_)
  have hu:=hr.units
  refine Aj ?s0 ?t0
  case s0=>exact (Fa PassesOwn.never rfl (G8 (by rfl) C.wI (Ac (At Cy C1 (Jb C.ub C.wA (Ah 0)) Ak) Af)) (A8 (i:=2) (by exact Fs.nd)) (Ao (Cp (Bd Abp Vj (Bv C.ub C.uW (Aq C) (hr.mono (by decide)) C.uV (Ah 0) (Ac (Ah 2) Af)) (Ah 1) (Bg _)) (Ao (Aw (Ah 2))) B4)))
  exact (Ao (Aw Q1))
theorem Um(C:Defs K mg):FnOk P w K mg base CX0 1 C.vY C.vZ ["row","number"] (spF K 2 Id):=by
  refine Fun.okF (N:=["row","number","total","many"]) C.v5 Jd (fun cdv A outer s H E hr=>?_)
  have hu:=hr.units
  refine Aj ?s0 ?t0
  case s0=>exact (Az (i:=2) (by exact Jd.nd) Ak)
  refine Aj ?s1 ?t1
  case s1=>exact (Fa PassesOwn.never rfl (G8 (by rfl) C.wI (Ac (At Ew Dv (Bt Dt Ev (by rfl) C.wG PySem.boot_len (Ac (Ah 0) Af)) Ak) Af)) (A8 (i:=3) (by exact Jd.nd)) (Aj (Cp (Bd Abp Vj (Ah 2) (Ah 1) (Bg _)) (Ao (Aw (Ah 3))) B4) (Ao (Az (i:=2) (by exact Jd.nd) (At Ew Dv (Ah 2) (Bt (Fu rfl) Jk (by rfl) C.wL PyProof.Rows.boot_sum (Ac (Hc K3 Lg (Ah 0) (Et (Ah 3)) (Et (At Ew Dv (Ah 3) Ak))) Af)))))))
  exact (Ao (Aw Q1))
theorem G3(C:Defs K mg):FnOk P w K mg base CX0 3 C.v8 C.v9 ["row"] (spF K 1 B7):=by
  refine Fun.okF (N:=["row","tree","k","number"]) C.wa G0 (fun cdv A outer s H E hr=>?_)
  have hu:=hr.units
  refine Aj ?s0 ?t0
  case s0=>exact (Az (i:=1) (by exact G0.nd) (Wx C.ub.ns C.wx (Gj C) (hr.mono (by decide)) (by rfl) C.wy C.uC (Ac (Bt Dt Ev (by rfl) C.wG PySem.boot_len (Ac (Ah 0) Af)) Af)))
  refine Aj ?s1 ?t1
  case s1=>exact (Fa PassesOwn.never rfl (Qu (by rfl) C.wD (Ac (Ah 0) Af)) (I0 rfl (Ce (A8 (i:=2) (by exact G0.nd)) (Ce (A8 (i:=3) (by exact G0.nd)) Hm))) (Ao (Fp (Bv C.ub C.uR (Ed C) (hr.mono (by decide)) C.uQ (Ah 1) (Ac (At Cy C1 (Ah 2) Ak) (Ac (Ah 3) Af))))))
  exact (Ao (Aw (Ah 1)))
theorem Ml(C:Defs K mg):FnOk P w K mg base CX0 4 C.wd C.we ["seed","row"] (spF K 2 Dx):=by
  refine Fun.okF (N:=["seed","row","tree","turn","number","many","found"]) C.wf Ck (fun cdv A outer s H E hr=>?_)
  have hu:=hr.units
  refine Aj ?s0 ?t0
  case s0=>exact (Az (i:=2) (by exact Ck.nd) (Av (G3 C) (hr.mono (by decide)) (by rfl) C.wc C.wa.kp C.wb (Ac (Ah 1) Af)))
  refine Aj ?s1 ?t1
  case s1=>exact (Fa PassesOwn.never rfl (G8 (by rfl) C.wI (Ac Ak Af)) (A8 (i:=3) (by exact Ck.nd)) (Aj (Az (i:=4) (by exact Ck.nd) (At Ep C8 (At Cy C1 (At Ly Nq (At G1 G2 (Bt (Fu rfl) Jk (by rfl) C.wL PyProof.Rows.boot_sum (Ac (Ah 1) Af)) (Av (Bm C) (hr.mono (by decide)) (by rfl) C.ul C.uj.kp C.uk (Ac (Ah 0) (Ac Ak Af)))) Ak) (Av (Bm C) (hr.mono (by decide)) (by rfl) C.ul C.uj.kp C.uk (Ac (Ah 0) (Ac Ak Af)))) Ak)) (Aj (Cp (Bd (Fc hu) Fb (Bv C.ub C.vX (D0 C) (hr.mono (by decide)) C.vW (Ah 2) (Ac (Ah 4) Af)) (Av (Um C) (hr.mono (by decide)) (by rfl) C.v7 C.v5.kp C.v6 (Ac (Ah 1) (Ac (Ah 4) Af))) (Bg _)) (Ao (Aw Hk)) B4) (Aj (Az (i:=5) (by exact Ck.nd) (Av (Bm C) (hr.mono (by decide)) (by rfl) C.ul C.uj.kp C.uk (Ac (Ah 0) (Ac (At Cy C1 (Bt Dt Ev (by rfl) C.wG PySem.boot_len (Ac (Ah 1) Af)) Ak) Af)))) (Aj (Az (i:=6) (by exact Ck.nd) (Bv C.ub C.vX (D0 C) (hr.mono (by decide)) C.vW (Ah 2) (Ac (Bv C.ub C.uW (Aq C) (hr.mono (by decide)) C.uV (Ah 2) (Ac (Ah 5) Af)) Af))) (Ao (Cp (PWF.pt (Hz (Bd Abf (Ab8 false) (Ah 6) Q1 (Bg _)) (Hz (Bd Sq O6 (Ah 6) (Ah 5) (Bg _)) (Gy (Bd (Fc hu) Fb (Bv C.ub C.uW (Aq C) (hr.mono (by decide)) C.uV (Ah 2) (Ac (Ah 6) Af)) (Bv C.ub C.uW (Aq C) (hr.mono (by decide)) C.uV (Ah 2) (Ac (Ah 5) Af)) (Bg _)))))) (Ao (Aw Hk)) B4)))))))
  exact (Ao (Aw (Ko Abf (Ab8 false) (Bv C.ub C.vX (D0 C) (hr.mono (by decide)) C.vW (Ah 2) (Ac (At Cy C1 (Bt (Fu rfl) Jk (by rfl) C.wL PyProof.Rows.boot_sum (Ac (Ah 1) Af)) Ak) Af)) Q1 (Bg _))))
theorem Mu(C:Defs K mg):FnOk P w K mg base CX0 6 C.wk C.wl ["seed","row"] (spF K 2 Ds):=by
  refine Fun.okF (N:=["seed","row","many","tree","turn","first","last","cells","place","number","other","both","added"]) C.wm A9 (fun cdv A outer s H E hr=>?_)
  have hu:=hr.units
  refine Aj ?s0 ?t0
  case s0=>exact (Az (i:=2) (by exact A9.nd) (Bt Dt Ev (by rfl) C.wG PySem.boot_len (Ac (Ah 1) Af)))
  refine Aj ?s1 ?t1
  case s1=>exact (Az (i:=3) (by exact A9.nd) (Av (G3 C) (hr.mono (by decide)) (by rfl) C.wc C.wa.kp C.wb (Ac (Ah 1) Af)))
  refine Aj ?s2 ?t2
  case s2=>exact (Cp (PWF.pt (Hz (Bd (Fc hu) Fb (G7 C.ub C.vf (E4 C) (hr.mono (by decide)) C.ve (Ah 3)) (Ah 1) (Bg _)) (Gy (Bd (Fc hu) Fb (Bv C.ub C.uW (Aq C) (hr.mono (by decide)) C.uV (Ah 3) (Ac (Ah 2) Af)) (Bt (Fu rfl) Jk (by rfl) C.wL PyProof.Rows.boot_sum (Ac (Ah 1) Af)) (Bg _))))) (Ao (Aw Hk)) B4)
  refine Aj ?s3 ?t3
  case s3=>exact (Fa PassesOwn.never rfl (G8 (by rfl) C.wI (Ac Ak Af)) (A8 (i:=4) (by exact A9.nd)) (Aj (Az (i:=5) (by exact A9.nd) (At Ew Dv Ak (Av (Bm C) (hr.mono (by decide)) (by rfl) C.ul C.uj.kp C.uk (Ac (Ah 0) (Ac (Ah 2) Af))))) (Aj (Az (i:=6) (by exact A9.nd) (At Ew Dv (Ah 5) (Av (Bm C) (hr.mono (by decide)) (by rfl) C.ul C.uj.kp C.uk (Ac (Ah 0) (Ac (At Ep C8 (At Ew Dv (Ah 2) Ak) (Ah 5)) Af))))) (Aj (Cp (Bd (Fc hu) Fb (Bv C.ub C.u5 (Dl C) (hr.mono (by decide)) C.u4 (Ah 3) (Ac (Ah 5) (Ac (Ah 6) Af))) (At Ep C8 (Bv C.ub C.uW (Aq C) (hr.mono (by decide)) C.uV (Ah 3) (Ac (Ah 6) Af)) (Bv C.ub C.uW (Aq C) (hr.mono (by decide)) C.uV (Ah 3) (Ac (At Ep C8 (Ah 5) Ak) Af))) (Bg _)) (Ao (Aw Hk)) B4) (Ao (Cp (PWF.pt (Hz (Bd (Fc hu) Fb (Bv C.ub C.u5 (Dl C) (hr.mono (by decide)) C.u4 (Ah 3) (Ac (Ah 5) (Ac (Ah 6) Af))) (Bt (Fu rfl) Jk (by rfl) C.wL PyProof.Rows.boot_sum (Ac (Hc K3 Lg (Ah 1) (Et (At Ep C8 (Ah 5) Ak)) (Et (Ah 6))) Af)) (Bg _)) (Gy (Bd (Fc hu) Fb (Bv C.ub C.uW (Aq C) (hr.mono (by decide)) C.uV (Ah 3) (Ac (Ah 6) Af)) (Bt (Fu rfl) Jk (by rfl) C.wL PyProof.Rows.boot_sum (Ac (Hc K3 Lg (Ah 1) Lm (Et (Ah 6))) Af)) (Bg _))))) (Ao (Aw Hk)) B4))))))
  refine Aj ?s4 ?t4
  case s4=>exact (Az (i:=7) (by exact A9.nd) (G7 C.ub C.vN (C0 C) (hr.mono (by decide)) C.vM (Ah 3)))
  refine Aj ?s5 ?t5
  case s5=>exact (Cp (Bd (Fc hu) Fb (Ah 7) (Av (Uv C) (hr.mono (by decide)) (by rfl) C.vS C.vQ.kp C.vR (Ac (Ah 1) Af)) (Bg _)) (Ao (Aw Hk)) B4)
  refine Aj ?s6 ?t6
  case s6=>exact (Az (i:=8) (by exact A9.nd) (At Ew Dv Ak (Av (Bm C) (hr.mono (by decide)) (by rfl) C.ul C.uj.kp C.uk (Ac (Ah 0) (Ac (Ah 2) Af)))))
  refine Aj ?s7 ?t7
  case s7=>exact (Az (i:=9) (by exact A9.nd) (Av (Ng C) (hr.mono (by decide)) (by rfl) C.ut C.uq.kp C.ur (Ac (Ah 0) (Ac Ak Af))))
  refine Aj ?s8 ?t8
  case s8=>exact (Fp (Bv C.ub C.uR (Ed C) (hr.mono (by decide)) C.uQ (Ah 3) (Ac (Ah 8) (Ac (Ah 9) Af))))
  refine Aj ?s9 ?t9
  case s9=>exact (Fp (Bv C.ub C.uR (Ed C) (hr.mono (by decide)) C.uQ (Ah 3) (Ac (Ah 8) (Ac (At Ep C8 Ak (Ah 9)) Af))))
  refine Aj ?s10 ?t10
  case s10=>exact (Cp (PWF.pt (Hz (Bd (Fc hu) Fb (G7 C.ub C.vN (C0 C) (hr.mono (by decide)) C.vM (Ah 3)) (Ah 7) (Bg _)) (Gy (Bd (Fc hu) Fb (G7 C.ub C.vf (E4 C) (hr.mono (by decide)) C.ve (Ah 3)) (Ah 1) (Bg _))))) (Ao (Aw Hk)) B4)
  refine Aj ?s11 ?t11
  case s11=>exact (Az (i:=10) (by exact A9.nd) (Cv B2 Dy (by rfl) C.wM (by decide +kernel) (Ac (Il (N':=["one","seed"]) (ix:=[none,some 0]) ⟨rfl,rfl,rfl,rfl,rfl⟩ rfl (Gv (Ah 1)) (fun _ _ _ _ _ _=>(A8 (i:=0) (show List.Nodup (α:=Str) ["one","seed"] by decide +kernel))) (fun _ _ _ _ _ _=>(At Ep C8 Ak (At Ly Nq (Ah 0) (At Ew Dv Ak (Av (Bm C) (hr.mono (by decide)) (by rfl) C.ul C.uj.kp C.uk (Ac (Ah 1) (Ac Ak Af)))))))) Af)))
  refine Aj ?s12 ?t12
  case s12=>exact (Az (i:=11) (by exact A9.nd) (Av (G3 C) (hr.mono (by decide)) (by rfl) C.wc C.wa.kp C.wb (Ac (Il (N':=["one","more"]) (ix:=[none,none]) ⟨rfl,rfl,rfl,rfl,rfl⟩ rfl (Sk (by rfl) C.wN (Ac (Ah 1) (Ac (Ah 10) Af))) (fun _ _ _ _ _ _=>(I0 rfl (Ce (A8 (i:=0) (show List.Nodup (α:=Str) ["one","more"] by decide +kernel)) (Ce (A8 (i:=1) (show List.Nodup (α:=Str) ["one","more"] by decide +kernel)) Hm)))) (fun _ _ _ _ _ _=>(At Ew Dv (Ah 0) (Ah 1)))) Af)))
  refine Aj ?s13 ?t13
  case s13=>exact (Qz (i:=12) (N':=["one","more"]) (ix:=[none,none]) (by exact A9.nd) ⟨rfl,rfl,rfl,rfl,rfl⟩ rfl (Sk (by rfl) C.wN (Ac (Ah 7) (Ac (G7 C.ub C.vN (C0 C) (hr.mono (by decide)) C.vM (Av (G3 C) (hr.mono (by decide)) (by rfl) C.wc C.wa.kp C.wb (Ac (Ah 10) Af))) Af))) (fun _ _ _ _ _ _=>(I0 rfl (Ce (A8 (i:=0) (show List.Nodup (α:=Str) ["one","more"] by decide +kernel)) (Ce (A8 (i:=1) (show List.Nodup (α:=Str) ["one","more"] by decide +kernel)) Hm)))) (fun _ _ _ _ _ _=>(At Ew Dv (Ah 0) (Ah 1))))
  exact (Ao (Aw (Ut (Ko (Hy hu) Hx (G7 C.ub C.vN (C0 C) (hr.mono (by decide)) C.vM (Ah 11)) (Cv B2 Dy (by rfl) C.wM (by decide +kernel) (Ac (Ah 12) Af)) (Bg _)) (Aaq (Av (Ml C) (hr.mono (by decide)) (by rfl) C.wj C.wf.kp C.wg (Ac (Ah 0) (Ac (Cv B2 Dy (by rfl) C.wM (by decide +kernel) (Ac (Il (N':=["one"]) (ix:=[none]) ⟨rfl,rfl,rfl,rfl,rfl⟩ rfl (Gv (Ah 1)) (fun _ _ _ _ _ _=>(A8 (i:=0) (show List.Nodup (α:=Str) ["one"] by decide +kernel))) (fun _ _ _ _ _ _=>(Bt Abw Afi (by rfl) C.wB (by decide +kernel) (Ac (Ah 0) Af)))) Af)) Af)))))))
theorem Agk(C:Defs K mg):FnOk P w K mg base CX0 7 C.wq C.wt ["script"] (spF K 1 Qs):=by
  refine Fun.okF (N:=["script","cell","seed","numbers"]) C.wu Rk (fun cdv A outer s H E hr=>?_)
  have hu:=hr.units
  refine Aj ?s0 ?t0
  case s0=>exact (Fa PassesOwn.never rfl (Gv (At Cy C1 (Hc Vd Q6 (Ah 0) Lm (Et Ak)) (Iz (Ac (Av (Sc C) (hr.mono (by decide)) (by rfl) C.ug C.ue.kp C.uf (Ac (Ah 0) Af)) Af)))) (A8 (i:=1) (by exact Rk.nd)) (Aj (Az (i:=2) (by exact Rk.nd) (Av (Xl C) (hr.mono (by decide)) (by rfl) C.vI C.vG.kp C.vH (Ac (Ah 1) Af))) (Aj (Az (i:=3) (by exact Rk.nd) (Av (Ry C) (hr.mono (by decide)) (by rfl) C.uy C.uw.kp C.ux (Ac (Ah 2) Af))) (Aj (Cp (Jc (Iu (Av (Lq C) (hr.mono (by decide)) (by rfl) C.vD C.vB.kp C.vC (Ac (Ah 3) Af)))) (Ao (Aw Hk)) B4) (Ao (Cp (PWF.pt (Wr (Bd (Fc hu) Fb (Ah 3) (R8 Af) (Bg _)) (Sy (Jc (Iu (Av (Mu C) (hr.mono (by decide)) (by rfl) C.wo C.wm.kp C.wn (Ac (Ah 2) (Ac (Ah 3) Af)))))))) (Ao (Aw Hk)) B4))))))
  exact (Ao (Aw Hk))
end
theorem Agp{l:PySem.W.OpenLaw}{w:World}{K:PySem.W.Frag}{h:Heap}{mg:Str→Option Value}{fa:Addr}(X:K.In h)(G:h.Ns mainGlobals mg)(hfa:mg "law" = some (.ref fa))
    {od0 an0:Option Addr} {sl0:Array (Option Value)} {oc0 kV0 dc0 pm0 cd0 ct0:Value} {f0:Addr} {od1 an1:Option Addr} {sl1:Array (Option Value)} {oc1 kV1 dc1 pm1 cd1 ct1:Value} {f1:Addr} {od2 an2:Option Addr} {sl2:Array (Option Value)} {oc2 kV2 dc2 pm2 cd2 ct2:Value} {f2:Addr} {od3 an3:Option Addr} {sl3:Array (Option Value)} {oc3 kV3 dc3 pm3 cd3 ct3:Value} {f3:Addr} {od4 an4:Option Addr} {sl4:Array (Option Value)} {oc4 kV4 dc4 pm4 cd4 ct4:Value} {f4:Addr} {od5 an5:Option Addr} {sl5:Array (Option Value)} {oc5 kV5 dc5 pm5 cd5 ct5:Value} {f5:Addr} {od6 an6:Option Addr} {sl6:Array (Option Value)} {oc6 kV6 dc6 pm6 cd6 ct6:Value} {f6:Addr} {od7 an7:Option Addr} {sl7:Array (Option Value)} {oc7 kV7 dc7 pm7 cd7 ct7:Value} {f7:Addr} {od8 an8:Option Addr} {sl8:Array (Option Value)} {oc8 kV8 dc8 pm8 cd8 ct8:Value} {f8:Addr} {od9 an9:Option Addr} {sl9:Array (Option Value)} {oc9 kV9 dc9 pm9 cd9 ct9:Value} {f9:Addr} {od10 an10:Option Addr} {sl10:Array (Option Value)} {oc10 kV10 dc10 pm10 cd10 ct10:Value} {f10:Addr} {od11 an11:Option Addr} {sl11:Array (Option Value)} {oc11 kV11 dc11 pm11 cd11 ct11:Value} {f11:Addr} {od12 an12:Option Addr} {sl12:Array (Option Value)} {oc12 kV12 dc12 pm12 cd12 ct12:Value} {f12:Addr} {od13 an13:Option Addr} {sl13:Array (Option Value)} {oc13 kV13 dc13 pm13 cd13 ct13:Value} {f13:Addr} {od14 an14:Option Addr} {sl14:Array (Option Value)} {oc14 kV14 dc14 pm14 cd14 ct14:Value} {f14:Addr} {od15 an15:Option Addr} {sl15:Array (Option Value)} {oc15 kV15 dc15 pm15 cd15 ct15:Value} {f15:Addr} {od16 an16:Option Addr} {sl16:Array (Option Value)} {oc16 kV16 dc16 pm16 cd16 ct16:Value} {f16:Addr} {od17 an17:Option Addr} {sl17:Array (Option Value)} {oc17 kV17 dc17 pm17 cd17 ct17:Value} {f17:Addr} {od18 an18:Option Addr} {sl18:Array (Option Value)} {oc18 kV18 dc18 pm18 cd18 ct18:Value} {f18:Addr} {od19 an19:Option Addr} {sl19:Array (Option Value)} {oc19 kV19 dc19 pm19 cd19 ct19:Value} {f19:Addr} {od20 an20:Option Addr} {sl20:Array (Option Value)} {oc20 kV20 dc20 pm20 cd20 ct20:Value} {f20:Addr} {od21 an21:Option Addr} {sl21:Array (Option Value)} {oc21 kV21 dc21 pm21 cd21 ct21:Value} {f21:Addr} {od22 an22:Option Addr} {sl22:Array (Option Value)} {oc22 kV22 dc22 pm22 cd22 ct22:Value} {f22:Addr} {od23 an23:Option Addr} {sl23:Array (Option Value)} {oc23 kV23 dc23 pm23 cd23 ct23:Value} {f23:Addr} {od24 an24:Option Addr} {sl24:Array (Option Value)} {oc24 kV24 dc24 pm24 cd24 ct24:Value} {f24:Addr}
    {A_SumTree:Addr} (aC_SumTree:PySem.W.nsIn K mainGlobals "SumTree" = some (some (.ref A_SumTree))) (pg_SumTree:PySem.W.plainGet K A_SumTree Str.empty=true) (hd_SumTree:PySem.W.hasDictIn K A_SumTree=true) (po_SumTree:PySem.W.plainOver K A_SumTree=true) (sa_SumTree:PySem.W.findIn K (.ref A_SumTree) "__setattr__" = some (some (.builtin "object.__setattr__")))
    (mk_SumTree:PySem.W.makesIn K A_SumTree=true) (kc_SumTree:PySem.W.keepIn K (.ref A_SumTree)=true)
    (nf_SumTree_cells:PySem.W.findIn K (.ref A_SumTree) "cells" = some none)
    (nf_SumTree_many:PySem.W.findIn K (.ref A_SumTree) "many" = some none)
    (a0:PySem.W.nsIn K mainGlobals "_law_folded" = some (some (.ref f0))) (l0:K.lookup f0=some ⟨oc0,od0,.func (PySem.W.fnOf "_law_folded" "_law_folded" (Bi Fv) (Bf Fv) (Am Fv) .none kV0 dc0 pm0 an0 cd0 ct0),sl0⟩) (c0:PySem.W.codeIn K cd0 "_law_folded" = true) (k0:PySem.W.keepIn K (.ref f0)=true)
    (a1:PySem.W.nsIn K mainGlobals "_law_draw" = some (some (.ref f1))) (l1:K.lookup f1=some ⟨oc1,od1,.func (PySem.W.fnOf "_law_draw" "_law_draw" (Bi Ik) (Bf Ik) (Am Ik) .none kV1 dc1 pm1 an1 cd1 ct1),sl1⟩) (c1:PySem.W.codeIn K cd1 "_law_draw" = true) (k1:PySem.W.keepIn K (.ref f1)=true)
    (a2:PySem.W.nsIn K mainGlobals "_law_number" = some (some (.ref f2))) (l2:K.lookup f2=some ⟨oc2,od2,.func (PySem.W.fnOf "_law_number" "_law_number" (Bi Fw) (Bf Fw) (Am Fw) .none kV2 dc2 pm2 an2 cd2 ct2),sl2⟩) (c2:PySem.W.codeIn K cd2 "_law_number" = true) (k2:PySem.W.keepIn K (.ref f2)=true)
    (a3:PySem.W.nsIn K mainGlobals "_law_numbers" = some (some (.ref f3))) (l3:K.lookup f3=some ⟨oc3,od3,.func (PySem.W.fnOf "_law_numbers" "_law_numbers" (Bi E7) (Bf E7) (Am E7) .none kV3 dc3 pm3 an3 cd3 ct3),sl3⟩) (c3:PySem.W.codeIn K cd3 "_law_numbers" = true) (k3:PySem.W.keepIn K (.ref f3)=true)
    (a4:PySem.W.findIn K (.ref A_SumTree) "__init__" = some (some (.ref f4))) (i4:PySem.W.isFn K (.ref f4)=true) (l4:K.lookup f4=some ⟨oc4,od4,.func (PySem.W.fnOf "__init__" "SumTree.__init__" (Bi Cc) (Bf Cc) (Am Cc) .none kV4 dc4 pm4 an4 cd4 ct4),sl4⟩) (c4:PySem.W.codeIn K cd4 "SumTree.__init__" = true) (k4:PySem.W.keepIn K (.ref f4)=true)
    (a5:PySem.W.findIn K (.ref A_SumTree) "need_place" = some (some (.ref f5))) (i5:PySem.W.isFn K (.ref f5)=true) (l5:K.lookup f5=some ⟨oc5,od5,.func (PySem.W.fnOf "need_place" "SumTree.need_place" (Bi B1) (Bf B1) (Am B1) .none kV5 dc5 pm5 an5 cd5 ct5),sl5⟩) (c5:PySem.W.codeIn K cd5 "SumTree.need_place" = true) (k5:PySem.W.keepIn K (.ref f5)=true)
    (a6:PySem.W.nsIn K mainGlobals "lowest_bit" = some (some (.ref f6))) (l6:K.lookup f6=some ⟨oc6,od6,.func (PySem.W.fnOf "lowest_bit" "lowest_bit" (Bi Em) (Bf Em) (Am Em) .none kV6 dc6 pm6 an6 cd6 ct6),sl6⟩) (c6:PySem.W.codeIn K cd6 "lowest_bit" = true) (k6:PySem.W.keepIn K (.ref f6)=true)
    (a7:PySem.W.findIn K (.ref A_SumTree) "put_to" = some (some (.ref f7))) (i7:PySem.W.isFn K (.ref f7)=true) (l7:K.lookup f7=some ⟨oc7,od7,.func (PySem.W.fnOf "put_to" "SumTree.put_to" (Bi Cm) (Bf Cm) (Am Cm) .none kV7 dc7 pm7 an7 cd7 ct7),sl7⟩) (c7:PySem.W.codeIn K cd7 "SumTree.put_to" = true) (k7:PySem.W.keepIn K (.ref f7)=true)
    (a8:PySem.W.findIn K (.ref A_SumTree) "sum_of_first" = some (some (.ref f8))) (i8:PySem.W.isFn K (.ref f8)=true) (l8:K.lookup f8=some ⟨oc8,od8,.func (PySem.W.fnOf "sum_of_first" "SumTree.sum_of_first" (Bi Bo) (Bf Bo) (Am Bo) .none kV8 dc8 pm8 an8 cd8 ct8),sl8⟩) (c8:PySem.W.codeIn K cd8 "SumTree.sum_of_first" = true) (k8:PySem.W.keepIn K (.ref f8)=true)
    (a9:PySem.W.findIn K (.ref A_SumTree) "sum_from_to" = some (some (.ref f9))) (i9:PySem.W.isFn K (.ref f9)=true) (l9:K.lookup f9=some ⟨oc9,od9,.func (PySem.W.fnOf "sum_from_to" "SumTree.sum_from_to" (Bi Bs) (Bf Bs) (Am Bs) .none kV9 dc9 pm9 an9 cd9 ct9),sl9⟩) (c9:PySem.W.codeIn K cd9 "SumTree.sum_from_to" = true) (k9:PySem.W.keepIn K (.ref f9)=true)
    (a10:PySem.W.findIn K (.ref A_SumTree) "number_at" = some (some (.ref f10))) (i10:PySem.W.isFn K (.ref f10)=true) (l10:K.lookup f10=some ⟨oc10,od10,.func (PySem.W.fnOf "number_at" "SumTree.number_at" (Bi B6) (Bf B6) (Am B6) .none kV10 dc10 pm10 an10 cd10 ct10),sl10⟩) (c10:PySem.W.codeIn K cd10 "SumTree.number_at" = true) (k10:PySem.W.keepIn K (.ref f10)=true)
    (a11:PySem.W.findIn K (.ref A_SumTree) "row_now" = some (some (.ref f11))) (i11:PySem.W.isFn K (.ref f11)=true) (l11:K.lookup f11=some ⟨oc11,od11,.func (PySem.W.fnOf "row_now" "SumTree.row_now" (Bi Cf) (Bf Cf) (Am Cf) .none kV11 dc11 pm11 an11 cd11 ct11),sl11⟩) (c11:PySem.W.codeIn K cd11 "SumTree.row_now" = true) (k11:PySem.W.keepIn K (.ref f11)=true)
    (a12:PySem.W.nsIn K mainGlobals "_law_is_whole" = some (some (.ref f12))) (l12:K.lookup f12=some ⟨oc12,od12,.func (PySem.W.fnOf "_law_is_whole" "_law_is_whole" (Bi El) (Bf El) (Am El) .none kV12 dc12 pm12 an12 cd12 ct12),sl12⟩) (c12:PySem.W.codeIn K cd12 "_law_is_whole" = true) (k12:PySem.W.keepIn K (.ref f12)=true)
    (a13:PySem.W.nsIn K mainGlobals "_law_are_whole" = some (some (.ref f13))) (l13:K.lookup f13=some ⟨oc13,od13,.func (PySem.W.fnOf "_law_are_whole" "_law_are_whole" (Bi Dz) (Bf Dz) (Am Dz) .none kV13 dc13 pm13 an13 cd13 ct13),sl13⟩) (c13:PySem.W.codeIn K cd13 "_law_are_whole" = true) (k13:PySem.W.keepIn K (.ref f13)=true)
    (a14:PySem.W.nsIn K mainGlobals "places_of" = some (some (.ref f14))) (l14:K.lookup f14=some ⟨oc14,od14,.func (PySem.W.fnOf "places_of" "places_of" (Bi E9) (Bf E9) (Am E9) .none kV14 dc14 pm14 an14 cd14 ct14),sl14⟩) (c14:PySem.W.codeIn K cd14 "places_of" = true) (k14:PySem.W.keepIn K (.ref f14)=true)
    (a15:PySem.W.nsIn K mainGlobals "_law_places_right" = some (some (.ref f15))) (l15:K.lookup f15=some ⟨oc15,od15,.func (PySem.W.fnOf "_law_places_right" "_law_places_right" (Bi Cl) (Bf Cl) (Am Cl) .none kV15 dc15 pm15 an15 cd15 ct15),sl15⟩) (c15:PySem.W.codeIn K cd15 "_law_places_right" = true) (k15:PySem.W.keepIn K (.ref f15)=true)
    (a16:PySem.W.nsIn K mainGlobals "_law_seed" = some (some (.ref f16))) (l16:K.lookup f16=some ⟨oc16,od16,.func (PySem.W.fnOf "_law_seed" "_law_seed" (Bi Ih) (Bf Ih) (Am Ih) .none kV16 dc16 pm16 an16 cd16 ct16),sl16⟩) (c16:PySem.W.codeIn K cd16 "_law_seed" = true) (k16:PySem.W.keepIn K (.ref f16)=true)
    (a17:PySem.W.findIn K (.ref A_SumTree) "cells_now" = some (some (.ref f17))) (i17:PySem.W.isFn K (.ref f17)=true) (l17:K.lookup f17=some ⟨oc17,od17,.func (PySem.W.fnOf "cells_now" "SumTree.cells_now" (Bi B5) (Bf B5) (Am B5) .none kV17 dc17 pm17 an17 cd17 ct17),sl17⟩) (c17:PySem.W.codeIn K cd17 "SumTree.cells_now" = true) (k17:PySem.W.keepIn K (.ref f17)=true)
    (a18:PySem.W.nsIn K mainGlobals "_law_cells" = some (some (.ref f18))) (l18:K.lookup f18=some ⟨oc18,od18,.func (PySem.W.fnOf "_law_cells" "_law_cells" (Bi G6) (Bf G6) (Am G6) .none kV18 dc18 pm18 an18 cd18 ct18),sl18⟩) (c18:PySem.W.codeIn K cd18 "_law_cells" = true) (k18:PySem.W.keepIn K (.ref f18)=true)
    (a19:PySem.W.findIn K (.ref A_SumTree) "least_many" = some (some (.ref f19))) (i19:PySem.W.isFn K (.ref f19)=true) (l19:K.lookup f19=some ⟨oc19,od19,.func (PySem.W.fnOf "least_many" "SumTree.least_many" (Bi Bz) (Bf Bz) (Am Bz) .none kV19 dc19 pm19 an19 cd19 ct19),sl19⟩) (c19:PySem.W.codeIn K cd19 "SumTree.least_many" = true) (k19:PySem.W.keepIn K (.ref f19)=true)
    (a20:PySem.W.nsIn K mainGlobals "_law_least" = some (some (.ref f20))) (l20:K.lookup f20=some ⟨oc20,od20,.func (PySem.W.fnOf "_law_least" "_law_least" (Bi G4) (Bf G4) (Am G4) .none kV20 dc20 pm20 an20 cd20 ct20),sl20⟩) (c20:PySem.W.codeIn K cd20 "_law_least" = true) (k20:PySem.W.keepIn K (.ref f20)=true)
    (a21:PySem.W.nsIn K mainGlobals "_law_tree_of" = some (some (.ref f21))) (l21:K.lookup f21=some ⟨oc21,od21,.func (PySem.W.fnOf "_law_tree_of" "_law_tree_of" (Bi E8) (Bf E8) (Am E8) .none kV21 dc21 pm21 an21 cd21 ct21),sl21⟩) (c21:PySem.W.codeIn K cd21 "_law_tree_of" = true) (k21:PySem.W.keepIn K (.ref f21)=true)
    (a22:PySem.W.nsIn K mainGlobals "_law_least_right" = some (some (.ref f22))) (l22:K.lookup f22=some ⟨oc22,od22,.func (PySem.W.fnOf "_law_least_right" "_law_least_right" (Bi Ct) (Bf Ct) (Am Ct) .none kV22 dc22 pm22 an22 cd22 ct22),sl22⟩) (c22:PySem.W.codeIn K cd22 "_law_least_right" = true) (k22:PySem.W.keepIn K (.ref f22)=true)
    (a23:PySem.W.nsIn K mainGlobals "_law_trees_right" = some (some (.ref f23))) (l23:K.lookup f23=some ⟨oc23,od23,.func (PySem.W.fnOf "_law_trees_right" "_law_trees_right" (Bi Cu) (Bf Cu) (Am Cu) .none kV23 dc23 pm23 an23 cd23 ct23),sl23⟩) (c23:PySem.W.codeIn K cd23 "_law_trees_right" = true) (k23:PySem.W.keepIn K (.ref f23)=true)
    (a24:PySem.W.nsIn K mainGlobals "law" = some (some (.ref f24))) (l24:K.lookup f24=some ⟨oc24,od24,.func (PySem.W.fnOf "law" "law" (Bi Lc) (Bf Lc) (Am Lc) .none kV24 dc24 pm24 an24 cd24 ct24),sl24⟩) (c24:PySem.W.codeIn K cd24 "law" = true) (k24:PySem.W.keepIn K (.ref f24)=true)
    (z_abs:PySem.W.nsIn K mainGlobals "abs" = some none)
    (z_bool:PySem.W.nsIn K mainGlobals "bool" = some none)
    (z_enumerate:PySem.W.nsIn K mainGlobals "enumerate" = some none)
    (z_int:PySem.W.nsIn K mainGlobals "int" = some none)
    (z_isinstance:PySem.W.nsIn K mainGlobals "isinstance" = some none)
    (z_len:PySem.W.nsIn K mainGlobals "len" = some none)
    (z_max:PySem.W.nsIn K mainGlobals "max" = some none)
    (z_range:PySem.W.nsIn K mainGlobals "range" = some none)
    (z_set:PySem.W.nsIn K mainGlobals "set" = some none)
    (z_sorted:PySem.W.nsIn K mainGlobals "sorted" = some none)
    (z_sum:PySem.W.nsIn K mainGlobals "sum" = some none)
    (z_tuple:PySem.W.nsIn K mainGlobals "tuple" = some none)
    (z_zip:PySem.W.nsIn K mainGlobals "zip" = some none) :
    ∃ fd:FuncData,(∀ (s:Shared) (v:Value),BindsTo s fd ⟨[v],[]⟩ [("script",v)])∧∀ base:Heap,K.In base→base.Ns mainGlobals mg→FnOk l.prog w K mg base CX0 7 fa fd ["script"] (spF K 1 Qs):=by
  have e:=hfa.symm.trans (PySem.W.mg_of X G a24)
  cases e
  have F0:=Cg (st:=Fv) l0 c0 k0
  have b0:=F0.binds (ps:=["script"]) fun _ _ _ _ _ _=>Nj (fun _=>rfl)
  have F1:=Cg (st:=Ik) l1 c1 k1
  have b1:=F1.binds (ps:=["seed","most"]) fun _ _ _ _ _ _=>Mw (fun _ _=>rfl)
  have F2:=Cg (st:=Fw) l2 c2 k2
  have b2:=F2.binds (ps:=["seed","way"]) fun _ _ _ _ _ _=>Mw (fun _ _=>rfl)
  have F3:=Cg (st:=E7) l3 c3 k3
  have b3:=F3.binds (ps:=["seed"]) fun _ _ _ _ _ _=>Nj (fun _=>rfl)
  have F4:=Cg (st:=Cc) l4 c4 k4
  have b4:=F4.binds (ps:=["self","many"]) fun _ _ _ _ _ _=>Mw (fun _ _=>rfl)
  have F5:=Cg (st:=B1) l5 c5 k5
  have b5:=F5.binds (ps:=["self","place"]) fun _ _ _ _ _ _=>Mw (fun _ _=>rfl)
  have F6:=Cg (st:=Em) l6 c6 k6
  have b6:=F6.binds (ps:=["number"]) fun _ _ _ _ _ _=>Nj (fun _=>rfl)
  have F7:=Cg (st:=Cm) l7 c7 k7
  have b7:=F7.binds (ps:=["self","place","number"]) fun _ _ _ _ _ _=>Ajx (fun _ _ _=>rfl)
  have F8:=Cg (st:=Bo) l8 c8 k8
  have b8:=F8.binds (ps:=["self","many"]) fun _ _ _ _ _ _=>Mw (fun _ _=>rfl)
  have F9:=Cg (st:=Bs) l9 c9 k9
  have b9:=F9.binds (ps:=["self","first","last"]) fun _ _ _ _ _ _=>Ajx (fun _ _ _=>rfl)
  have F10:=Cg (st:=B6) l10 c10 k10
  have b10:=F10.binds (ps:=["self","place"]) fun _ _ _ _ _ _=>Mw (fun _ _=>rfl)
  have F11:=Cg (st:=Cf) l11 c11 k11
  have b11:=F11.binds (ps:=["self"]) fun _ _ _ _ _ _=>Nj (fun _=>rfl)
  have F12:=Cg (st:=El) l12 c12 k12
  have b12:=F12.binds (ps:=["found","due"]) fun _ _ _ _ _ _=>Mw (fun _ _=>rfl)
  have F13:=Cg (st:=Dz) l13 c13 k13
  have b13:=F13.binds (ps:=["found","due"]) fun _ _ _ _ _ _=>Mw (fun _ _=>rfl)
  have F14:=Cg (st:=E9) l14 c14 k14
  have b14:=F14.binds (ps:=["numbers"]) fun _ _ _ _ _ _=>Nj (fun _=>rfl)
  have F15:=Cg (st:=Cl) l15 c15 k15
  have b15:=F15.binds (ps:=["numbers"]) fun _ _ _ _ _ _=>Nj (fun _=>rfl)
  have F16:=Cg (st:=Ih) l16 c16 k16
  have b16:=F16.binds (ps:=["cell"]) fun _ _ _ _ _ _=>Nj (fun _=>rfl)
  have F17:=Cg (st:=B5) l17 c17 k17
  have b17:=F17.binds (ps:=["self"]) fun _ _ _ _ _ _=>Nj (fun _=>rfl)
  have F18:=Cg (st:=G6) l18 c18 k18
  have b18:=F18.binds (ps:=["row"]) fun _ _ _ _ _ _=>Nj (fun _=>rfl)
  have F19:=Cg (st:=Bz) l19 c19 k19
  have b19:=F19.binds (ps:=["self","number"]) fun _ _ _ _ _ _=>Mw (fun _ _=>rfl)
  have F20:=Cg (st:=G4) l20 c20 k20
  have b20:=F20.binds (ps:=["row","number"]) fun _ _ _ _ _ _=>Mw (fun _ _=>rfl)
  have F21:=Cg (st:=E8) l21 c21 k21
  have b21:=F21.binds (ps:=["row"]) fun _ _ _ _ _ _=>Nj (fun _=>rfl)
  have F22:=Cg (st:=Ct) l22 c22 k22
  have b22:=F22.binds (ps:=["seed","row"]) fun _ _ _ _ _ _=>Mw (fun _ _=>rfl)
  have F23:=Cg (st:=Cu) l23 c23 k23
  have b23:=F23.binds (ps:=["seed","row"]) fun _ _ _ _ _ _=>Mw (fun _ _=>rfl)
  have F24:=Cg (st:=Lc) l24 c24 k24
  have b24:=F24.binds (ps:=["script"]) fun _ _ _ _ _ _=>Nj (fun _=>rfl)
  let C:Defs K mg:={ uc:=_,ud:=_,ue:=F0,uf:=b0,ug:=PySem.W.mg_of X G a0,uh:=_,ui:=_,uj:=F1,uk:=b1,ul:=PySem.W.mg_of X G a1,um:=_,uo:=_,uq:=F2,ur:=b2,ut:=PySem.W.mg_of X G a2,uu:=_,uv:=_,uw:=F3,ux:=b3,uy:=PySem.W.mg_of X G a3,uz:=_,uA:=_,uB:=F4,uC:=b4,wx:=⟨mk_SumTree,a4,i4,kc_SumTree⟩,wy:=PySem.W.mg_of X G aC_SumTree,uD:=_,uE:=_,uF:=F5,uG:=b5,uH:=⟨a5,i5,k5⟩,uI:=_,uJ:=_,uK:=F6,uL:=b6,uM:=PySem.W.mg_of X G a6,uN:=_,uO:=_,uP:=F7,uQ:=b7,uR:=⟨a7,i7,k7⟩,uS:=_,uT:=_,uU:=F8,uV:=b8,uW:=⟨a8,i8,k8⟩,uX:=_,uY:=_,uZ:=F9,u4:=b9,u5:=⟨a9,i9,k9⟩,u6:=_,u7:=_,u8:=F10,u9:=b10,va:=⟨a10,i10,k10⟩,vb:=_,vc:=_,vd:=F11,ve:=b11,vf:=⟨a11,i11,k11⟩,vg:=_,vh:=_,vi:=F12,vj:=b12,vk:=PySem.W.mg_of X G a12,vm:=_,vn:=_,vo:=F13,vp:=b13,vq:=PySem.W.mg_of X G a13,vt:=_,vv:=_,vw:=F14,vx:=b14,vy:=PySem.W.mg_of X G a14,vz:=_,vA:=_,vB:=F15,vC:=b15,vD:=PySem.W.mg_of X G a15,vE:=_,vF:=_,vG:=F16,vH:=b16,vI:=PySem.W.mg_of X G a16,vJ:=_,vK:=_,vL:=F17,vM:=b17,vN:=⟨a17,i17,k17⟩,vO:=_,vP:=_,vQ:=F18,vR:=b18,vS:=PySem.W.mg_of X G a18,vT:=_,vU:=_,vV:=F19,vW:=b19,vX:=⟨a19,i19,k19⟩,vY:=_,vZ:=_,v5:=F20,v6:=b20,v7:=PySem.W.mg_of X G a20,v8:=_,v9:=_,wa:=F21,wb:=b21,wc:=PySem.W.mg_of X G a21,wd:=_,we:=_,wf:=F22,wg:=b22,wj:=PySem.W.mg_of X G a22,wk:=_,wl:=_,wm:=F23,wn:=b23,wo:=PySem.W.mg_of X G a23,wq:=_,wt:=_,wu:=F24,wv:=b24,ww:=PySem.W.mg_of X G a24,ua:=_,ub:=⟨aC_SumTree,⟨pg_SumTree,hd_SumTree,po_SumTree,sa_SumTree⟩⟩,wz:=nf_SumTree_cells,wA:=nf_SumTree_many,wB:=PySem.W.mg_none_of X G z_abs,wC:=PySem.W.mg_none_of X G z_bool,wD:=PySem.W.mg_none_of X G z_enumerate,wE:=PySem.W.mg_none_of X G z_int,wF:=PySem.W.mg_none_of X G z_isinstance,wG:=PySem.W.mg_none_of X G z_len,wH:=PySem.W.mg_none_of X G z_max,wI:=PySem.W.mg_none_of X G z_range,wJ:=PySem.W.mg_none_of X G z_set,wK:=PySem.W.mg_none_of X G z_sorted,wL:=PySem.W.mg_none_of X G z_sum,wM:=PySem.W.mg_none_of X G z_tuple,wN:=PySem.W.mg_none_of X G z_zip }
  refine ⟨PySem.W.fnOf "law" "law" (Bi Lc) (Bf Lc) (Am Lc) .none kV24 dc24 pm24 an24 cd24 ct24,fun s v=>.of_eq rfl,fun base _ _=>?_⟩
  exact Agk C
theorem Akq{l:PySem.W.OpenLaw}{q:Program}{loose:List Str}{XP:(Str→Option Value)→Heap→Prop}{YP:World→Heap→Prop}{d:DefRec}{K:Params→PySem.W.Frag}(hn:l.most=some 63)(hdf:d.params.defaults=[])
    (hY:∀ (w:World) (h:Heap),YP w h→(K w.params).In h)
    (F:∀ (w:World) (mg:Str→Option Value) (fa:Addr) (h:Heap),(K w.params).In h→h.Ns mainGlobals mg→mg d.name=some (.ref fa) →
      ∃ fd:FuncData,(∀ (s:Shared) (u:Value),BindsTo s fd ⟨[u],[]⟩ [("script",u)])∧∀ base:Heap,(K w.params).In base→base.Ns mainGlobals mg→FnOk l.prog w (K w.params) mg base CX0 7 fa fd ["script"] (spF (K w.params) 1 Qs)) :
    PySem.W.WalkO q loose XP YP l.row.toRowW d [] (fun f vs=>PySem.call f vs):=
  L2.Adk (n:=63) (k:=7) (x := "script") (CX:=fun _=>CX0) (sp:=fun w=>spF (K w.params) 1 Qs) hn (by decide) hdf ⟨rfl,by decide,by decide⟩ hY F (fun w H a ns hl ho hS=>Aih ho hS (Ack ns hl)) fun _ _ _ _ _ z=>z
end Lw
open PySem PySem.W PyProof.Rows
set_option maxRecDepth 100000 in
set_option maxHeartbeats 0 in
theorem PySem.Challenge.cw_belowpoints_k15_whole_trees_and_places_holds : PySem.Challenge.rw_belowpoints_k15_whole_trees_and_places.Holds := by
  w_on; o_law; k_head; (case hw => w_witness2)
  k_fill
  refine Lw.Akq (l := PySem.Challenge.rw_belowpoints_k15_whole_trees_and_places) rfl rfl (fun w h Y => PySem.W.kIn_of Y) ?F
  case F =>
    intro w mg fa h KX G hmg
    refine' Lw.Agp KX G hmg ?aC_SumTree ?pg_SumTree ?hd_SumTree ?po_SumTree ?sa_SumTree ?mk_SumTree ?kc_SumTree ?nf_SumTree_cells ?nf_SumTree_many ?a0 ?l0 ?c0 ?k0 ?a1 ?l1 ?c1 ?k1 ?a2 ?l2 ?c2 ?k2 ?a3 ?l3 ?c3 ?k3 ?a4 ?i4 ?l4 ?c4 ?k4 ?a5 ?i5 ?l5 ?c5 ?k5 ?a6 ?l6 ?c6 ?k6 ?a7 ?i7 ?l7 ?c7 ?k7 ?a8 ?i8 ?l8 ?c8 ?k8 ?a9 ?i9 ?l9 ?c9 ?k9 ?a10 ?i10 ?l10 ?c10 ?k10 ?a11 ?i11 ?l11 ?c11 ?k11 ?a12 ?l12 ?c12 ?k12 ?a13 ?l13 ?c13 ?k13 ?a14 ?l14 ?c14 ?k14 ?a15 ?l15 ?c15 ?k15 ?a16 ?l16 ?c16 ?k16 ?a17 ?i17 ?l17 ?c17 ?k17 ?a18 ?l18 ?c18 ?k18 ?a19 ?i19 ?l19 ?c19 ?k19 ?a20 ?l20 ?c20 ?k20 ?a21 ?l21 ?c21 ?k21 ?a22 ?l22 ?c22 ?k22 ?a23 ?l23 ?c23 ?k23 ?a24 ?l24 ?c24 ?k24 ?z_abs ?z_bool ?z_enumerate ?z_int ?z_isinstance ?z_len ?z_max ?z_range ?z_set ?z_sorted ?z_sum ?z_tuple ?z_zip
    (case aC_SumTree => k_is)
    (case pg_SumTree => k_is)
    (case hd_SumTree => k_is)
    (case po_SumTree => k_is)
    (case sa_SumTree => k_is)
    (case mk_SumTree => k_is)
    (case kc_SumTree => k_is)
    (case nf_SumTree_cells => k_is)
    (case nf_SumTree_many => k_is)
    (case a0 => k_is); (case l0 => k_is); (case c0 => k_is); (case k0 => k_is)
    (case a1 => k_is); (case l1 => k_is); (case c1 => k_is); (case k1 => k_is)
    (case a2 => k_is); (case l2 => k_is); (case c2 => k_is); (case k2 => k_is)
    (case a3 => k_is); (case l3 => k_is); (case c3 => k_is); (case k3 => k_is)
    (case a4 => k_is); (case i4 => k_is)
    (case l4 => k_is); (case c4 => k_is); (case k4 => k_is)
    (case a5 => k_is); (case i5 => k_is)
    (case l5 => k_is); (case c5 => k_is); (case k5 => k_is)
    (case a6 => k_is); (case l6 => k_is); (case c6 => k_is); (case k6 => k_is)
    (case a7 => k_is); (case i7 => k_is)
    (case l7 => k_is); (case c7 => k_is); (case k7 => k_is)
    (case a8 => k_is); (case i8 => k_is)
    (case l8 => k_is); (case c8 => k_is); (case k8 => k_is)
    (case a9 => k_is); (case i9 => k_is)
    (case l9 => k_is); (case c9 => k_is); (case k9 => k_is)
    (case a10 => k_is); (case i10 => k_is)
    (case l10 => k_is); (case c10 => k_is); (case k10 => k_is)
    (case a11 => k_is); (case i11 => k_is)
    (case l11 => k_is); (case c11 => k_is); (case k11 => k_is)
    (case a12 => k_is); (case l12 => k_is); (case c12 => k_is); (case k12 => k_is)
    (case a13 => k_is); (case l13 => k_is); (case c13 => k_is); (case k13 => k_is)
    (case a14 => k_is); (case l14 => k_is); (case c14 => k_is); (case k14 => k_is)
    (case a15 => k_is); (case l15 => k_is); (case c15 => k_is); (case k15 => k_is)
    (case a16 => k_is); (case l16 => k_is); (case c16 => k_is); (case k16 => k_is)
    (case a17 => k_is); (case i17 => k_is)
    (case l17 => k_is); (case c17 => k_is); (case k17 => k_is)
    (case a18 => k_is); (case l18 => k_is); (case c18 => k_is); (case k18 => k_is)
    (case a19 => k_is); (case i19 => k_is)
    (case l19 => k_is); (case c19 => k_is); (case k19 => k_is)
    (case a20 => k_is); (case l20 => k_is); (case c20 => k_is); (case k20 => k_is)
    (case a21 => k_is); (case l21 => k_is); (case c21 => k_is); (case k21 => k_is)
    (case a22 => k_is); (case l22 => k_is); (case c22 => k_is); (case k22 => k_is)
    (case a23 => k_is); (case l23 => k_is); (case c23 => k_is); (case k23 => k_is)
    (case a24 => k_is); (case l24 => k_is); (case c24 => k_is); (case k24 => k_is)
    (case z_abs => k_is)
    (case z_bool => k_is)
    (case z_enumerate => k_is)
    (case z_int => k_is)
    (case z_isinstance => k_is)
    (case z_len => k_is)
    (case z_max => k_is)
    (case z_range => k_is)
    (case z_set => k_is)
    (case z_sorted => k_is)
    (case z_sum => k_is)
    (case z_tuple => k_is)
    (case z_zip => k_is)

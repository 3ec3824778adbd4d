import PyProof.Rows.All
import Wide.All
import OpenK.AllK
import Wide.FinOn
import Lean
import PyProof.EqAt
import PyProof.EqKinds
import PyProof.TupleCall
import PySem.Challenge.RW_rimsteps_k80_rounds_written
set_option Elab.async false
set_option linter.all false
set_option maxRecDepth 100000
namespace L2
open PySem PySem.Spec PyProof.Rows
abbrev Key:=Sum Int Str
def keyIs:Key→Value→Bool
  | .inl k,v=>Value.isInt k v
  | .inr x,v=>Value.isStrOf x v
def keyH (w:World):Key→Int
  | .inl k=>hashInt k
  | .inr x=>hashStr w x
theorem keyIs_shape:∀ {k:Key} {v:Value},keyIs k v=true→(∃ i t,k=Sum.inl i∧v=Value.int i t)∨(∃ x t,k=Sum.inr x∧v=Value.str x t)
  | .inl i,v,h=>by
    obtain ⟨t,e⟩:=Value.isInt_shape (k:=i) (v:=v) h
    exact .inl ⟨i,t,rfl,e⟩
  | .inr x,v,h=>by
    obtain ⟨t,e⟩:=Value.isStrOf_shape (x:=x) (v:=v) h
    exact .inr ⟨x,t,rfl,e⟩
theorem keyIs_int (i:Int) (t:Tok):keyIs (.inl i) (.int i t)=true:=by simp [keyIs,Value.isInt]
theorem keyIs_str (x:Str) (t:Tok):keyIs (.inr x) (.str x t)=true:=by simp [keyIs,Value.isStrOf]
theorem key_ll (a b:Int):decide ((Sum.inl a:Key)=Sum.inl b)=(a == b):=by
  by_cases e:a=b
  · subst e;simp
  · have h:¬ (Sum.inl a:Key)=Sum.inl b:=fun q=>e (Sum.inl.inj q)
    rw [decide_eq_false h]
    exact (beq_eq_false_iff_ne.mpr e).symm
theorem key_rr (a b:Str):decide ((Sum.inr a:Key)=Sum.inr b)=decide (a=b):=by
  by_cases e:a=b
  · subst e;simp
  · have h:¬ (Sum.inr a:Key)=Sum.inr b:=fun q=>e (Sum.inr.inj q)
    rw [decide_eq_false h,decide_eq_false e]
theorem key_lr (a:Int) (b:Str):decide ((Sum.inl a:Key)=Sum.inr b)=false:=decide_eq_false (fun q=>nomatch q)
theorem key_rl (a:Str) (b:Int):decide ((Sum.inr a:Key)=Sum.inl b)=false:=decide_eq_false (fun q=>nomatch q)
def mixKind (prog:Program) (w:World):PySem.KeyKind prog w Key where
  is:=keyIs
  hash:=keyH w
  inj:=fun v a b ha hb=>by
    rcases keyIs_shape ha with ⟨i,t,rfl,rfl⟩ | ⟨x,t,rfl,rfl⟩
    · rcases keyIs_shape hb with ⟨j,u,rfl,e⟩ | ⟨y,u,rfl,e⟩
      · injection e with e1 _;rw [e1]
      · exact nomatch e
    · rcases keyIs_shape hb with ⟨j,u,rfl,e⟩ | ⟨y,u,rfl,e⟩
      · exact nomatch e
      · injection e with e1 _;rw [e1]
  byValue:=fun k v h=>by
    rcases keyIs_shape h with ⟨i,t,rfl,rfl⟩ | ⟨x,t,rfl,rfl⟩ <;> rfl
  pyHash:=fun hv h=>by
    rcases keyIs_shape hv with ⟨i,t,rfl,rfl⟩ | ⟨x,t,rfl,rfl⟩
    · exact wpAny_pyHash_int h
    · exact wpAny_pyHash_str h
  eqBool:=fun hu hv h=>by
    rcases keyIs_shape hu with ⟨i,t,rfl,rfl⟩ | ⟨x,t,rfl,rfl⟩
    · rcases keyIs_shape hv with ⟨j,u,rfl,rfl⟩ | ⟨y,u,rfl,rfl⟩
      · rw [key_ll] at h;exact wpAny_eqBool_int h
      · rw [key_lr] at h;exact SeqAt.EqAt.int_str i t y u _ _ _ _ h
    · rcases keyIs_shape hv with ⟨j,u,rfl,rfl⟩ | ⟨y,u,rfl,rfl⟩
      · rw [key_rl] at h;exact SeqAt.EqAt.str_int x t j u _ _ _ _ h
      · rw [key_rr] at h;exact wpAny_eqBool_str h
  «strs»:=fun k x t v h=>by
    rcases keyIs_shape h with ⟨i,u,rfl,e⟩ | ⟨y,u,rfl,e⟩
    · exact nomatch e
    · injection e with e1 _
      subst e1
      cases v <;> rfl
theorem mixKind_int (prog:Program) (w:World) (i:Int) (t:Tok):(mixKind prog w).is (.inl i) (.int i t)=true:=keyIs_int i t
theorem mixKind_str (prog:Program) (w:World) (x:Str) (t:Tok):(mixKind prog w).is (.inr x) (.str x t)=true:=keyIs_str x t
end L2
namespace L2
open PySem PySem.Spec PyProof.Rows
inductive V where
  | non | bl (b:Bool) | int (i:Int) | str (x:Str) | byt (b:Array UInt8) | flt (b:UInt64) | ref (a:Addr) | ty (n:String)
  deriving DecidableEq
def RelV:V→Value→Prop
  | .non,u=>u=Value.none
  | .bl b,u=>u=Value.bool b
  | .int i,u=>∃ t,u=Value.int i t
  | .str x,u=>∃ t,u=Value.str x t
  | .byt b,u=>∃ t,u=Value.bytes b t
  | .flt b,u=>∃ t,u=Value.float b t
  | .ref a,u=>u=Value.ref a
  | .ty n,u=>u=Value.type n
abbrev Vals:List V→List Value→Prop:=Paired RelV
theorem Vals.length {xs:List V} {us:List Value} (r:Vals xs us):xs.length=us.length:=Paired.length r
theorem Vals.get:∀ {xs:List V} {us:List Value} {i:Nat} {x:V},Vals xs us→xs[i]?=some x→∃ u,us[i]?=some u∧RelV x u
  | _,_,_,_,.nil,e=>by simp at e
  | _,_,0,_,.cons r _,e=>by simp at e;subst e;exact ⟨_,rfl,r⟩
  | _,_,i+1,x,.cons _ t,e=>by
    obtain ⟨u,h1,h2⟩:=Vals.get (i:=i) (x:=x) t (by simpa using e)
    exact ⟨u,by simpa using h1,h2⟩
theorem Vals.set {x:V} {u:Value} (r:RelV x u):∀ {xs:List V} {us:List Value} (i:Nat),Vals xs us→Vals (xs.set i x) (us.set i u)
  | _,_,_,.nil=>.nil
  | _,_,0,.cons _ t=>.cons r t
  | _,_,i+1,.cons q t=>.cons q (Vals.set r i t)
theorem Vals.append:∀ {xs ys:List V} {us ws:List Value},Vals xs us→Vals ys ws→Vals (xs++ys) (us++ws)
  | _,_,_,_,.nil,s=>s
  | _,_,_,_,.cons r t,s=>.cons r (Vals.append t s)
theorem Vals.take:∀ {xs:List V} {us:List Value} (n:Nat),Vals xs us→Vals (xs.take n) (us.take n)
  | _,_,0,_=>.nil
  | _,_,_+1,.nil=>.nil
  | _,_,n+1,.cons r t=>.cons r (Vals.take n t)
theorem Vals.drop:∀ {xs:List V} {us:List Value} (n:Nat),Vals xs us→Vals (xs.drop n) (us.drop n)
  | _,_,0,r=>r
  | _,_,_+1,.nil=>.nil
  | _,_,n+1,.cons _ t=>Vals.drop n t
def RelO:Option V→Option Value→Prop
  | some v,some u=>RelV v u
  | none,none=>True
  | _,_=>False
def KV {κ:Type}:List (κ×V)→List (κ×Value)→Prop:=Paired fun (p:κ×V) (q:κ×Value)=>p.1=q.1∧RelV p.2 q.2
def kV:Key→V
  | .inl i=>.int i
  | .inr x=>.str x
inductive HO where
  /-- a list -/
  | lst (xs:List V)
  /-- a tuple (never changes) -/
  | tup (xs:List V)
  /-- a dict whose keys are ints and texts;one whose keys are tuples of ints and texts (the empty one is both) -/
  | dK (kvs:List (Key×V)) | dT (kvs:List (List Key×V))
  /-- a set of ints: its members,its size -/
  | set (S:Int→Bool) (n:Nat)
  /-- an instance of the class at C,its dict at dx,its attributes -/
  | ins (C dx:Addr) (fs:List (Str×V))
  /-- the dict of the instance at x -/
  | own (x:Addr)
  /-- the dict of an exception -/
  | xd (fs:List (Str×V))
  /-- a bound method,f of x -/
  | met (f x:Addr)
  /-- a range object lo,lo+1,.. below hi -/
  | rng (lo hi:Int)
  /-- a thing that is known to the object (the script;a dict while a loop walks it): read,never written while it is so -/
  | frz (o:Obj) (u:HO)
  /-- a code object's table -/
  | tbl (ps:Array Value)
  /-- any other thing,by what is true of its one object (a def of one's own: SetO a S n:=HO.ext fun h=>..) -/
  | ext (φ:Heap→Prop)
abbrev Hp:=Addr→Option HO
def upd (H:Hp) (a:Addr) (o:HO):Hp:=fun b=>if b=a then some o else H b
theorem upd_same {H:Hp} {a:Addr} {o:HO}:upd H a o a=some o:=by unfold upd;rw [if_pos rfl]
theorem upd_ne {H:Hp} {a b:Addr} {o:HO} (h:b≠a):upd H a o b=H b:=by unfold upd;rw [if_neg h]
theorem ne_of {H:Hp} {a b:Addr} {o u:HO} (h:H a=some o) (h':H b=some u) (d:o≠u):a≠b:=by
  intro e;subst e;rw [h] at h';exact d (Option.some.inj h')
theorem ne_of_none {H:Hp} {a b:Addr} {o:HO} (h:H a=some o) (h':H b=none):a≠b:=by
  intro e;subst e;rw [h] at h';cases h'
section
variable (P:Program) (w:World)
def ObjOk (H:Hp) (h:Heap) (a:Addr):HO→Prop
  | .lst xs=>xs.length≤sizeLine∧∃ (its:List Value) (n:Nat),Vals xs its∧h.get? a=some { cls:=.type "list",data:=.seq its.toArray n }
  | .tup xs=>xs.length≤sizeLine∧∃ its:List Value,Vals xs its∧IsTup h a its.toArray
  | .dK kvs=>kvs.length≤sizeLine∧(a == sysModules)=false∧∃ vs,KV kvs vs∧h.DictOf (mixKind P w) a vs
  | .dT kvs => kvs.length ≤ sizeLine ∧ (a == sysModules) = false ∧ ∃ xs : List (List Key × Addr × Value),
      Paired (fun (p:List Key×V) (q:List Key×Addr×Value)=>p.1=q.1∧H q.2.1=some (.tup (p.1.map kV))∧RelV p.2 q.2.2) kvs xs ∧
      ∃ o es ep,h.get? a=some o∧o.ExactDict∧o.data=.dict es ep∧es.toList=xs.map (entryOfKey (tupleKind (mixKind P w)))∧(xs.map (·.1)).Nodup
  | .set S n=>h.SetOf (intKind P w) a S n
  | .ins C dx fs => H dx = some (.own a) ∧ fs.length ≤ 1000 ∧ dx ≠ a ∧ h.get? a = some (PySem.W.instObj C dx) ∧
      ∃ mA,h.Ns1 dx mA∧(∀ f,RelO (fs.lookup f) (mA f))∧PySem.Within mA (fs.map (·.1))
  | .own _=>∃ o,h.get? a=some o
  | .xd fs=>∃ mA,h.Ns1 a mA∧∀ f,RelO (fs.lookup f) (mA f)
  | .rng lo hi=>∃ t u v,h.get? a=some { cls:=.type "range",data:=.fields #[.int lo t,.int hi u,.int 1 v] }
  | .frz o u=>h.get? a=some o∧ObjOk H h a u
  | .tbl ps=>h.get? a=some { cls:=.none,data:=.fields ps }
  | .met f x=>h.get? a=some (PySem.W.methodObj (.ref f) (.ref x))
  | .ext φ=>φ h∧(∃ o,h.get? a=some o)∧∀ h1 h2:Heap,φ h1→(∀ o,h1.get? a=some o→h2.get? a=some o)→φ h2
def HOk (H:Hp) (h:Heap):Prop:=∀ a o,H a=some o→ObjOk P w H h a o
end
section
variable {P:Program} {w:World} {H H':Hp} {h h':Heap} {a:Addr} {o:HO}
theorem ObjOk.lt (x:ObjOk P w H h a o):a<h.objs.size:=by
  cases o with
  | lst xs=>obtain ⟨_,_,_,_,e⟩:=x;exact Heap.lt_size e
  | tup xs=>obtain ⟨_,_,_,p⟩:=x;exact p.lt
  | dK kvs=>obtain ⟨_,_,_,_,o,_,_,e,_⟩:=x;exact Heap.lt_size e
  | dT kvs=>obtain ⟨_,_,_,_,o,_,_,e,_⟩:=x;exact Heap.lt_size e
  | set S n=>obtain ⟨o,_,_,_,e,_⟩:=x;exact Heap.lt_size e
  | ins C dx fs=>obtain ⟨_,_,_,e,_⟩:=x;exact Heap.lt_size e
  | own y=>obtain ⟨_,e⟩:=x;exact Heap.lt_size e
  | xd fs=>obtain ⟨_,⟨_,_,_,e,_⟩,_⟩:=x;exact Heap.lt_size e
  | rng lo hi=>obtain ⟨_,_,_,e⟩:=x;exact Heap.lt_size e
  | frz ob u=>obtain ⟨e,_⟩:=x;exact Heap.lt_size e
  | tbl ps=>exact Heap.lt_size (show h.get? a=some _ from x)
  | met f y=>exact Heap.lt_size (show h.get? a=some _ from x)
  | ext φ=>obtain ⟨_,⟨_,e⟩,_⟩:=x;exact Heap.lt_size e
theorem Paired.mapP {α β:Type} {F G:α→β→Prop}:∀ {l₁:List α} {l₂:List β},Paired F l₁ l₂→(∀ a b,F a b→G a b)→Paired G l₁ l₂
  | _,_,.nil,_=>.nil
  | _,_,.cons r t,f=>.cons (f _ _ r) (Paired.mapP t f)
theorem ObjOk.stay (x : ObjOk P w H h a o) (k : ∀ b u, (b = a ∨ H b = some (.own a)) → h.get? b = some u → h'.get? b = some u)
    (ho:∀ b,H b=some (.own a)→H' b=some (.own a)) (ht:∀ b xs,H b=some (.tup xs)→H' b=some (.tup xs)):ObjOk P w H' h' a o:=by
  induction o with
  | lst xs=>obtain ⟨z,its,n,r,e⟩:=x;exact ⟨z,its,n,r,k _ _ (.inl rfl) e⟩
  | tup xs=>obtain ⟨z,its,r,ob,e,c⟩:=x;exact ⟨z,its,r,ob,k _ _ (.inl rfl) e,c⟩
  | dK kvs=>obtain ⟨z,y,vs,r,ob,es,ep,e,c⟩:=x;exact ⟨z,y,vs,r,ob,es,ep,k _ _ (.inl rfl) e,c⟩
  | dT kvs =>
    obtain ⟨z,y,xs,r,ob,es,ep,e,c⟩:=x
    exact ⟨z,y,xs,Paired.mapP r fun p q z=>⟨z.1,ht _ _ z.2.1,z.2.2⟩,ob,es,ep,k _ _ (.inl rfl) e,c⟩
  | set S n=>obtain ⟨ob,es,ep,t,e,c⟩:=x;exact ⟨ob,es,ep,t,k _ _ (.inl rfl) e,c⟩
  | ins C dx fs =>
    obtain ⟨d,z,ne,e,mA,⟨od,es,ep,e2,c⟩,r⟩:=x
    exact ⟨ho _ d,z,ne,k _ _ (.inl rfl) e,mA,⟨od,es,ep,k _ _ (.inr d) e2,c⟩,r⟩
  | own y=>obtain ⟨ob,e⟩:=x;exact ⟨ob,k _ _ (.inl rfl) e⟩
  | xd fs=>obtain ⟨mA,⟨od,es,ep,e,c⟩,r⟩:=x;exact ⟨mA,⟨od,es,ep,k _ _ (.inl rfl) e,c⟩,r⟩
  | rng lo hi=>obtain ⟨t,u,v,e⟩:=x;exact ⟨t,u,v,k _ _ (.inl rfl) e⟩
  | frz ob u ih=>obtain ⟨e,q⟩:=x;exact ⟨k _ _ (.inl rfl) e,ih q⟩
  | tbl ps =>
    have e:h.get? a=some { cls:=.none,data:=.fields ps }:=x
    show h'.get? a=some { cls:=.none,data:=.fields ps }
    exact k a _ (.inl rfl) e
  | met f y =>
    have e:h.get? a=some (PySem.W.methodObj (.ref f) (.ref y)):=x
    show h'.get? a=some (PySem.W.methodObj (.ref f) (.ref y))
    exact k a _ (.inl rfl) e
  | ext φ=>obtain ⟨p,⟨o,e⟩,st⟩:=x;exact ⟨st _ _ p fun o q=>k _ _ (.inl rfl) q,⟨o,k _ _ (.inl rfl) e⟩,st⟩
theorem HOk.lt (x:HOk P w H h) (e:H a=some o):a<h.objs.size:=(x a o e).lt
theorem HOk.fresh (x:HOk P w H h) (e:h.objs.size≤a):H a=none:=by
  cases q:H a with
  | none=>rfl
  | some u=>exact absurd (Nat.lt_of_lt_of_le (x.lt q) e) (Nat.lt_irrefl _)
theorem HOk.kept (x:HOk P w H h) (k:∀ b u,h.get? b=some u→h'.get? b=some u):HOk P w H h':=fun a o e =>
  (x a o e).stay (fun b u _ q=>k b u q) (fun _ q=>q) fun _ _ q=>q
theorem HOk.laid (x:HOk P w H h) (k:∀ b u,h.get? b=some u→h'.get? b=some u) (hp:h.objs.size≤a) (new:ObjOk P w (upd H a o) h' a o):HOk P w (upd H a o) h':=fun b u e=>by
  have hn:=x.fresh hp
  by_cases hb:b=a
  · subst hb;rw [upd_same] at e;cases e;exact new
  · rw [upd_ne hb] at e
    exact (x b u e).stay (fun c v _ q=>k c v q) (fun c q=>by rw [upd_ne (ne_of_none q hn)];exact q) fun c xs q=>by rw [upd_ne (ne_of_none q hn)];exact q
end
def Rd (H:Hp) (a:Addr) (u:HO):Prop:=H a=some u∨∃ o,H a=some (.frz o u)
theorem Rd.of {H:Hp} {a:Addr} {u:HO} (h:H a=some u):Rd H a u:=.inl h
theorem Rd.ok {P:Program} {w:World} {H:Hp} {h:Heap} {a:Addr} {u:HO} (r:Rd H a u) (x:HOk P w H h):ObjOk P w H h a u:=by
  rcases r with r | ⟨o,r⟩
  · exact x a u r
  · obtain ⟨_,q⟩:=x a _ r
    exact q
def Mut:Option HO→Prop
  | some (.lst _)=>True
  | some (.dK _)=>True
  | some (.dT _)=>True
  | some (.set _ _)=>True
  | some (.ins _ _ _)=>True
  | some (.ext _)=>True
  | _=>False
section
variable {P:Program} {w:World} {H:Hp} {h h':Heap} {x e:Addr} {o':HO}
theorem HOk.write (ok : HOk P w H h) (mu : Mut (H x)) (he : e = x ∨ H e = some (.own x)) (k : ∀ b u, b ≠ e → h.get? b = some u → h'.get? b = some u) (heo : ∃ u, h'.get? e = some u)
    (new:ObjOk P w (upd H x o') h' x o'):HOk P w (upd H x o') h':=fun b u q=>by
  have nown:∀ c y,H c=some (.own y)→c≠x:=fun c y r z=>by subst z;rw [r] at mu;exact mu
  have ntup:∀ c xs,H c=some (.tup xs)→c≠x:=fun c xs r z=>by subst z;rw [r] at mu;exact mu
  by_cases hb:b=x
  · subst hb;rw [upd_same] at q;cases q;exact new
  · rw [upd_ne hb] at q
    by_cases hbe:b=e
    · have q' : H b = some (.own x) := by
        rcases he with z | z
        · exact absurd (hbe.trans z) hb
        · rw [hbe];exact z
      rw [q] at q';cases q'
      obtain ⟨v,hv⟩:=heo
      exact ⟨v,by rw [hbe];exact hv⟩
    · refine (ok b u q).stay (fun c v hc r=>k c v ?_ r) (fun c r=>by rw [upd_ne (nown c b r)];exact r) fun c xs r=>by rw [upd_ne (ntup c xs r)];exact r
      rcases hc with rfl | hc
      · exact hbe
      · rintro rfl
        rcases he with z | z
        · exact nown c b hc z
        · rw [hc] at z;cases z;exact hb rfl
end
structure Un (fs ex:List Addr) (H H':Hp) (h h':Heap):Prop where
  keep:∀ b o,h.get? b=some o→H b=none→b ∉ fs→b ∉ ex→h'.get? b=some o
  slot:∀ b o,h.get? b=some o→H b=none→b∈fs→b ∉ ex→∃ sl,h'.get? b=some { o with slots:=sl }
  free:∀ b o,h.get? b=some o→H b=none→b ∉ ex→H' b=none
  there:∀ b o,h.get? b=some o→b ∉ ex→∃ o',h'.get? b=some o'
  tups:∀ b xs,H b=some (.tup xs)→H' b=some (.tup xs)
  frzs:∀ b o u,H b=some (.frz o u)→H' b=some (.frz o u)
  tbls:∀ b ps,H b=some (.tbl ps)→∃ more,H' b=some (.tbl (ps++more))
section
variable {fs fs' ex ex':List Addr} {H H1 H2:Hp} {h h1 h2 h':Heap} {a x e:Addr} {o:HO}
theorem Un.any (u:Un fs ex H H1 h h1) {b:Addr} {ob:Obj} (q:h.get? b=some ob) (n:H b=none) (hx:b ∉ ex):∃ sl,h1.get? b=some { ob with slots:=sl }:=by
  by_cases hb:b∈fs
  · exact u.slot b ob q n hb hx
  · exact ⟨ob.slots,u.keep b ob q n hb hx⟩
theorem Un.kept (k:∀ b u,h.get? b=some u→h'.get? b=some u):Un fs ex H H h h' :=
  ⟨fun b ob q _ _ _=>k b ob q,fun b ob q _ _ _=>⟨ob.slots,k b ob q⟩,fun _ _ _ n _=>n,fun b ob q _=>⟨ob,k b ob q⟩,fun _ _ q=>q,fun _ _ _ q=>q,fun _ ps q=>⟨#[],by rw [q];simp⟩⟩
theorem Un.refl:Un fs ex H H h h:=Un.kept fun _ _ q=>q
theorem Un.laid (k:∀ b u,h.get? b=some u→h'.get? b=some u) (hp:h.objs.size≤a) (hn:H a=none):Un fs ex H (upd H a o) h h' where
  keep:=fun b u q _ _ _=>k b u q
  slot:=fun b u q _ _ _=>⟨u.slots,k b u q⟩
  free:=fun b u q n _=>by rw [upd_ne (Nat.ne_of_lt (Nat.lt_of_lt_of_le (Heap.lt_size q) hp))];exact n
  there:=fun b u q _=>⟨u,k b u q⟩
  tups:=fun b xs q=>by rw [upd_ne (ne_of_none q hn)];exact q
  frzs:=fun b u xs q=>by rw [upd_ne (ne_of_none q hn)];exact q
  tbls:=fun b ps q=>⟨#[],by rw [upd_ne (ne_of_none q hn),q];simp⟩
theorem Un.write (mu:Mut (H x)) (he:e=x∨H e=some (.own x)) (k:∀ b u,b≠e→h.get? b=some u→h'.get? b=some u) (heo:∃ u,h'.get? e=some u):Un fs ex H (upd H x o) h h':=by
  have hx:∀ b,H b=none→b≠x:=fun b n z=>by subst z;rw [n] at mu;exact mu
  have hb:∀ b,H b=none→b≠e:=fun b n z=>by
    subst z
    rcases he with r | r
    · exact hx b n r
    · rw [n] at r;cases r
  have hm:∀ b u,H b=some u→¬ Mut (some u)→b≠x:=fun b u q nm z=>by subst z;rw [q] at mu;exact nm mu
  refine ⟨fun b u q n _ _=>k b u (hb b n) q,fun b u q n _ _=>⟨u.slots,k b u (hb b n) q⟩,fun b u q n _=>by rw [upd_ne (hx b n)];exact n,fun b u q _=>?_,
    fun b xs q=>by rw [upd_ne (hm b _ q fun z=>z)];exact q,fun b u xs q=>by rw [upd_ne (hm b _ q fun z=>z)];exact q,fun b ps q=>⟨#[],by rw [upd_ne (hm b _ q fun z=>z),q];simp⟩⟩
  by_cases hbe:b=e
  · subst hbe;exact heo
  · exact ⟨u,k b u hbe q⟩
end
def trk (h:Heap) (H:Hp):List Addr:=(List.range h.objs.size).filter fun a=>(H a).isSome
def hidT (h:Heap) (H:Hp):Heap:=PySem.W.hideAll h (trk h H)
theorem hidT_size (h:Heap) (H:Hp):(hidT h H).objs.size=h.objs.size:=PySem.W.hideAll_size _ _
theorem hidT_get {h:Heap} {H:Hp} {b:Addr} {o:Obj} (e:h.get? b=some o) (n:H b=none):(hidT h H).get? b=some o :=
  PySem.W.hideAll_get _ e fun hm=>by
    have q:(H b).isSome=true:=(List.mem_filter.mp hm).2
    rw [n] at q;simp at q
theorem of_hidT {h:Heap} {H:Hp} {b:Addr} {o:Obj} (e:(hidT h H).get? b=some o):h.get? b=some o∧H b=none:=by
  have e':h.get? b=some o:=PySem.W.of_hideAll (trk h H) e
  refine ⟨e',?_⟩
  cases q:H b with
  | none=>rfl
  | some x =>
    have hm:b∈trk h H:=List.mem_filter.mpr ⟨List.mem_range.mpr (Heap.lt_size e'),by simp [q]⟩
    have z:(hidT h H).get? b=none:=PySem.W.hideAll_none (trk h H) hm
    rw [z] at e;cases e
def allNews (g h:Heap) (L:Addr):List (Addr×Obj):=(List.range h.objs.size).filterMap fun a=>if a=L∨(g.get? a).isSome=true then none else (h.get? a).map fun o=>(a,o)
def rest (g h:Heap) (L d:Addr):List (Addr×Obj):=(allNews g h L).filter fun p=>decide (p.1≠d)
end L2
namespace L2
open PySem PySem.Spec PyProof.Rows
structure Mod (K:PySem.W.Frag) (mg:Str→Option Value) (base:Heap):Prop where
  kin:K.In base
  glob:base.Ns mainGlobals mg
  blt:∃ mb,base.Ns builtinsNs mb∧∀ x:Str,x ≠ "__name__" → mb x=bootBuiltins x
  nolimit:base.NoLimit
structure Cx where
  prog:Program
  w:World
  K:PySem.W.Frag
  mg:Str→Option Value
  base:Heap
  A:Around
  N:List Str
  s₀:Shared
  H₀:Hp
  env:Env
  outer:List Env
  stack:List Env
  ex:List Addr
  fn:Str→Bool
  calm:Bool
  pn:List (Addr×Obj)
  xe:Value→Shared→Prop
def frs (l:List Env):List Addr:=l.filterMap (·.frame)
abbrev Cx.fs (X:Cx):List Addr:=frs X.outer
def Vis (sc:Scope) (x:Str):Prop:=sc.names.lookup x=some .local∨sc.names.lookup x=some .cell∨sc.names.lookup x=some .free
def Loc (sc:Scope) (x:Str):Prop:=sc.names.lookup x=some .local∨sc.names.lookup x=some .cell
def Look (env:Env) (h:Heap) (m:Str→Option Value) (x:Str) (u:Value):Prop :=
  (env.kindOf x=some .local∧m x=some u)∨((env.kindOf x=some .cell∨env.kindOf x=some .free)∧∃ c,env.cells.lookup x=some c∧h.IsCell c (some u))
structure Cx.Ok (X:Cx):Prop where
  mod:Mod X.K X.mg X.base
  kind:X.env.scope.kind=.function
  glob:X.env.globals=mainGlobals
  blt:X.env.builtins=builtinsNs
  above:X.s₀.heap.objs.size≤X.env.locals
  inj:∀ x y c,X.env.cells.lookup x=some c→X.env.cells.lookup y=some c→x=y
  has:∀ x,(X.env.kindOf x=some .cell∨X.env.kindOf x=some .free)→∃ c,X.env.cells.lookup x=some c
  cab:∀ x c,X.fn x=true→X.env.cells.lookup x=some c→X.s₀.heap.objs.size≤c
  hd:X.calm=true→X.A.handled=none
  frames:X.A.frames=some X.stack
  stk:X.stack=X.outer∨(X.stack=X.env::X.outer∧X.env.frame=some X.env.locals)
  exf:∀ b∈X.ex,b≠X.env.locals∧∀ x c,X.env.cells.lookup x=some c→c≠b
  bs:∀ b o,X.base.get? b=some o→X.s₀.heap.get? b=some o∧X.H₀ b=none
  bsz:X.base.objs.size≤X.s₀.heap.objs.size
  noex:∀ b o,X.base.get? b=some o→b ∉ X.ex
  exfs:∀ b∈X.ex,b ∉ X.fs
  funs:X.s₀.heap.FunFrames X.base X.outer
  frf:∀ b∈X.fs,X.H₀ b=none
structure Inv (X:Cx) (pins:List (Addr×Obj)) (σ:List (Option V)) (H:Hp) (s:Shared):Prop where
  ok:X.Ok
  os:s.os=X.s₀.os
  bare:AllBare s.gens
  base:Un X.fs X.ex X.H₀ H X.s₀.heap s.heap
  loc:∃ m,s.heap.Ns X.env.locals m∧∀ (i:Nat) (x:Str) (v:V),X.N[i]?=some x→σ[i]?=some (some v)→Vis X.env.scope x→∃ u,RelV v u∧Look X.env s.heap m x u
  cell:∀ x c,X.env.cells.lookup x=some c→∃ v,s.heap.IsCell c v
  free:H X.env.locals=none
  freeC:∀ x c,X.env.cells.lookup x=some c→H c=none
  pin:∀ p∈X.pn++pins,s.heap.get? p.1=some p.2∧H p.1=none∧p.1≠X.env.locals∧p.1 ∉ X.fs∧∀ v,p.2.data≠.cell v
  hok:HOk X.prog X.w H s.heap
  len:σ.length=X.N.length
section
variable {X:Cx} {pins:List (Addr×Obj)} {σ:List (Option V)} {H H':Hp} {s:Shared} {h':Heap}
theorem Cx.Ok.nofr (ok:X.Ok) {b:Addr} {o:Obj} (e:X.base.get? b=some o):b ∉ X.fs:=fun hb=>by
  have:=(ok.funs.mem hb).1
  rw [e] at this;cases this
theorem Inv.bs (I:Inv X pins σ H s):∀ b o,X.base.get? b=some o→s.heap.get? b=some o∧H b=none:=fun b o e =>
  ⟨I.base.keep b o (I.ok.bs b o e).1 (I.ok.bs b o e).2 (I.ok.nofr e) (I.ok.noex b o e),I.base.free b o (I.ok.bs b o e).1 (I.ok.bs b o e).2 (I.ok.noex b o e)⟩
theorem Inv.bk (I:Inv X pins σ H s):∀ b o,X.base.get? b=some o→s.heap.get? b=some o:=fun b o e=>(I.bs b o e).1
theorem Inv.mod (I:Inv X pins σ H s):Mod X.K X.mg X.base:=I.ok.mod
theorem Inv.kIn (I:Inv X pins σ H s):X.K.In s.heap:=I.ok.mod.kin.keeps I.bk
theorem Inv.lt (I:Inv X pins σ H s):X.env.locals<s.heap.objs.size:=let ⟨_,hn,_⟩:=I.loc;hn.lt
theorem Inv.sz (I:Inv X pins σ H s):X.s₀.heap.objs.size≤s.heap.objs.size:=Nat.le_trans I.ok.above (Nat.le_of_lt I.lt)
theorem Inv.nofs (I:Inv X pins σ H s) {a:Addr} (h:s.heap.objs.size≤a):a ∉ X.fs:=fun hb=>by
  obtain ⟨_,o,ho,_⟩:=I.ok.funs.mem hb
  exact absurd (Nat.lt_of_lt_of_le (Heap.lt_size ho) (Nat.le_trans I.sz h)) (Nat.lt_irrefl _)
theorem Inv.cne (I:Inv X pins σ H s):∀ x c,X.env.cells.lookup x=some c→c≠X.env.locals:=fun x c e z=>by
  obtain ⟨v,o,ho,hd⟩:=I.cell x c e
  obtain ⟨m,⟨o',es,ep,ho',hd',_⟩,_⟩:=I.loc
  rw [z,ho'] at ho;cases ho;rw [hd'] at hd;cases hd
theorem Inv.funs (I:Inv X pins σ H s):s.heap.FunFrames X.base X.outer:=by
  have all:∀ (l:List Env),(∀ b∈frs l,b∈X.fs)→X.s₀.heap.FunFrames X.base l→s.heap.FunFrames X.base l:=by
    intro l
    induction l with
    | nil=>intro _ _;trivial
    | cons env r ih =>
      intro hs hl
      obtain ⟨hk,⟨L,o,hf,hn,ho,hd⟩,hr⟩:=hl
      have hL:L∈X.fs:=hs L (by unfold frs;rw [List.filterMap_cons,hf];exact List.mem_cons_self)
      obtain ⟨sl,e⟩:=I.base.slot L o ho (I.ok.frf L hL) hL fun z=>I.ok.exfs L z hL
      exact ⟨hk,⟨L,_,hf,hn,e,hd⟩,ih (fun b hb=>hs b (by unfold frs;rw [List.filterMap_cons,hf];exact List.mem_cons_of_mem _ hb)) hr⟩
  exact all X.outer (fun _ hb=>hb) I.ok.funs
theorem Inv.stack (I:Inv X pins σ H s):s.heap.FunFrames X.base X.stack:=by
  rcases I.ok.stk with e | ⟨e,hf⟩
  · rw [e];exact I.funs
  · rw [e]
    obtain ⟨m,hn,_⟩:=I.loc
    refine .cons (by rw [I.ok.kind];decide) hf hn ?_ I.funs
    exact Heap.get?_none_of_le (Nat.le_trans I.ok.bsz I.ok.above)
theorem Inv.stkSub (I:Inv X pins σ H s):∀ b∈frs X.stack,b∈X.env.locals::X.fs:=fun b hb=>by
  rcases I.ok.stk with e | ⟨e,hf⟩
  · rw [e] at hb;exact List.mem_cons_of_mem _ hb
  · rw [e] at hb
    unfold frs at hb
    rw [List.filterMap_cons,hf] at hb
    exact hb
theorem Inv.stkFree (I:Inv X pins σ H s):∀ b∈frs X.stack,H b=none:=fun b hb=>by
  rcases List.mem_cons.mp (I.stkSub b hb) with e | hb
  · rw [e];exact I.free
  · obtain ⟨_,o,ho,_⟩:=I.ok.funs.mem hb
    exact I.base.free b o ho (I.ok.frf b hb) fun z=>I.ok.exfs b z hb
theorem Inv.step {g' : Array GenState} {t' : Nat} {d' : Drawn} {ch : List Addr} (I : Inv X pins σ H s)
    (hch:∀ b∈ch,(b∈X.ex∨X.s₀.heap.objs.size≤b)∧b≠X.env.locals∧(∀ x c,X.env.cells.lookup x=some c→c≠b)∧∀ p∈X.pn++pins,p.1≠b)
    (keep:∀ b o,b≠X.env.locals→b ∉ X.fs→b ∉ ch→s.heap.get? b=some o→H b=none→h'.get? b=some o)
    (slot:∀ b o,b≠X.env.locals→b∈X.fs→b ∉ ch→s.heap.get? b=some o→H b=none→∃ sl,h'.get? b=some { o with slots:=sl }) (free:∀ b o,b ∉ ch→s.heap.get? b=some o→H b=none→H' b=none)
    (there:∀ b o,b ∉ ch→s.heap.get? b=some o→∃ o',h'.get? b=some o')
    (tups:∀ b xs,H b=some (.tup xs)→H' b=some (.tup xs)) (frzs:∀ b o u,H b=some (.frz o u)→H' b=some (.frz o u)) (tbls:∀ b ps,H b=some (.tbl ps)→∃ more,H' b=some (.tbl (ps++more)))
    (ns:∀ m,s.heap.Ns X.env.locals m→h'.Ns X.env.locals m) (hok:HOk X.prog X.w H' h') (hg:AllBare g') :
    Inv X pins σ H' { s with heap:=h',gens:=g',drawn:=d',toks:=t' }:=by
  have neL:∀ b o,X.s₀.heap.get? b=some o→b≠X.env.locals:=fun b o e=>Nat.ne_of_lt (Nat.lt_of_lt_of_le (Heap.lt_size e) I.ok.above)
  have neC:∀ b o,X.s₀.heap.get? b=some o→b ∉ X.ex→b ∉ ch:=fun b o e hx hb=>by
    rcases (hch b hb).1 with z | z
    · exact hx z
    · exact absurd (Nat.lt_of_lt_of_le (Heap.lt_size e) z) (Nat.lt_irrefl _)
  have cellK:∀ x c,X.env.cells.lookup x=some c→∀ v,s.heap.IsCell c v→h'.IsCell c v:=fun x c e v ⟨o,ho,hd⟩=>by
    have nch:c ∉ ch:=fun z=>(hch c z).2.2.1 x c e rfl
    by_cases hc:c∈X.fs
    · obtain ⟨sl,q⟩:=slot c o (I.cne x c e) hc nch ho (I.freeC x c e)
      exact ⟨_,q,hd⟩
    · exact ⟨o,keep c o (I.cne x c e) hc nch ho (I.freeC x c e),hd⟩
  refine ⟨I.ok,I.os,hg,⟨fun b o e n hb hx=>?_,fun b o e n hb hx=>?_,fun b o e n hx=>?_,fun b o e hx=>?_,fun b xs e=>tups b xs (I.base.tups b xs e),fun b o xs e=>frzs b o xs (I.base.frzs b o xs e),fun b ps e=>?_⟩,?_,fun x c e=>?_,?_,fun x c e=>?_,fun p hp=>?_,hok,I.len⟩
  · exact keep b o (neL b o e) hb (neC b o e hx) (I.base.keep b o e n hb hx) (I.base.free b o e n hx)
  · obtain ⟨sl,e1⟩:=I.base.slot b o e n hb hx
    obtain ⟨sl',e2⟩:=slot b _ (neL b o e) hb (neC b o e hx) e1 (I.base.free b o e n hx)
    exact ⟨sl',e2⟩
  · obtain ⟨o',e1⟩:=I.base.there b o e hx
    exact free b o' (neC b o e hx) e1 (I.base.free b o e n hx)
  · obtain ⟨o',e1⟩:=I.base.there b o e hx
    exact there b o' (neC b o e hx) e1
  · obtain ⟨m1,e1⟩:=I.base.tbls b ps e
    obtain ⟨m2,e2⟩:=tbls b _ e1
    exact ⟨m1++m2,by rw [e2,Array.append_assoc]⟩
  · obtain ⟨m,hn,hl⟩:=I.loc
    refine ⟨m,ns m hn,fun i x v e1 e2 e3=>?_⟩
    obtain ⟨u,r,l⟩:=hl i x v e1 e2 e3
    refine ⟨u,r,?_⟩
    rcases l with l | ⟨k,c,e,z⟩
    · exact .inl l
    · exact .inr ⟨k,c,e,cellK x c e _ z⟩
  · obtain ⟨v,z⟩:=I.cell x c e
    exact ⟨v,cellK x c e v z⟩
  · obtain ⟨m,⟨o,_,_,ho,_⟩,_⟩:=I.loc
    exact free _ o (fun z=>(hch _ z).2.1 rfl) ho I.free
  · obtain ⟨v,o,ho,hd⟩:=I.cell x c e
    exact free c o (fun z=>(hch c z).2.2.1 x c e rfl) ho (I.freeC x c e)
  · obtain ⟨e,n,ne,nf,d⟩:=I.pin p hp
    have nch:p.1 ∉ ch:=fun z=>(hch p.1 z).2.2.2 p hp rfl
    exact ⟨keep p.1 p.2 ne nf nch e n,free p.1 p.2 nch e n,ne,nf,d⟩
theorem Inv.un {t':Nat} (I:Inv X pins σ H s) (u:Un X.fs [] H H' s.heap h') (hok:HOk X.prog X.w H' h'):Inv X pins σ H' { s with heap:=h',toks:=t' }:=by
  obtain ⟨m,⟨o,es,ep,ho,r⟩,_⟩:=id I.loc
  obtain ⟨sl,hL⟩:=u.any ho I.free (by simp)
  exact I.step (g':=s.gens) (d':=s.drawn) (ch:=[]) (fun _ z=>nomatch z) (fun b o _ hb _ e n=>u.keep b o e n hb (by simp)) (fun b o _ hb _ e n=>u.slot b o e n hb (by simp)) (fun b o _ e n=>u.free b o e n (by simp)) (fun b o _ e=>u.there b o e (by simp)) u.tups u.frzs u.tbls (fun m' hm=>by
    obtain ⟨o',es',ep',ho',r'⟩:=hm
    rw [ho] at ho';cases ho'
    exact ⟨_,es',ep',hL,r'⟩) hok I.bare
theorem Inv.call {g' : Array GenState} {t' : Nat} {d' : Drawn} {ch : List Addr} (I : Inv X pins σ H s) (u : Un (frs X.stack) ch H H' s.heap h') (hok : HOk X.prog X.w H' h') (hg : AllBare g')
    (hch:∀ b∈ch,(b∈X.ex∨X.s₀.heap.objs.size≤b)∧b≠X.env.locals∧(∀ x c,X.env.cells.lookup x=some c→c≠b)∧∀ p∈X.pn++pins,p.1≠b) :
    Inv X pins σ H' { s with heap:=h',gens:=g',drawn:=d',toks:=t' }:=by
  obtain ⟨m,⟨o,es,ep,ho,r⟩,_⟩:=id I.loc
  obtain ⟨sl,hL⟩:=u.any ho I.free fun z=>(hch _ z).2.1 rfl
  exact I.step (ch:=ch) hch (fun b o hL hb hc e n=>u.keep b o e n (fun z=>(List.mem_cons.mp (I.stkSub b z)).elim hL hb) hc) (fun b o _ _ hc e n=>u.any e n hc) (fun b o hc e n=>u.free b o e n hc) (fun b o hc e=>u.there b o e hc) u.tups u.frzs u.tbls (fun m' hm=>by
    obtain ⟨o',es',ep',ho',r'⟩:=hm
    rw [ho] at ho';cases ho'
    exact ⟨_,es',ep',hL,r'⟩) hok hg
theorem Inv.turned {t' : Nat} {it : Addr} (I : Inv X pins σ H s) (k : ∀ b o, b ≠ it → s.heap.get? b = some o → h'.get? b = some o) (hn : H it = none) (hL : it ≠ X.env.locals)
    (h1:it∈X.ex∨X.s₀.heap.objs.size≤it) (h2:∀ x c,X.env.cells.lookup x=some c→c≠it) (h3:∀ p∈X.pn++pins,p.1≠it):Inv X pins σ H { s with heap:=h',toks:=t' }:=by
  have nit:∀ b u,H b=some u→b≠it:=fun b u e z=>by rw [z,hn] at e;cases e
  refine I.step (g':=s.gens) (d':=s.drawn) (ch:=[it]) (fun b hb=>?_) (fun b o _ _ hc e _=>k b o (fun z=>hc (by simp [z])) e) (fun b o _ _ hc e _=>⟨o.slots,k b o (fun z=>hc (by simp [z])) e⟩) (fun _ _ _ _ n=>n)
    (fun b o hc e=>⟨o,k b o (fun z=>hc (by simp [z])) e⟩) (fun _ _ e=>e) (fun _ _ _ e=>e) (fun b ps e=>⟨#[],by rw [e];simp⟩) (fun m hm=>?_) (fun b u e=>?_) I.bare
  · have e:b=it:=by simpa using hb
    subst e
    exact ⟨h1,hL,h2,h3⟩
  · obtain ⟨o,es,ep,ho,r⟩:=hm
    exact ⟨o,es,ep,k _ o (Ne.symm hL) ho,r⟩
  · refine (I.hok b u e).stay (fun c v hc q=>k c v ?_ q) (fun _ q=>q) fun _ _ q=>q
    rcases hc with z | z
    · rw [z];exact nit b u e
    · exact nit c _ z
theorem Inv.tok (I:Inv X pins σ H s) (t:Nat):Inv X pins σ H { s with toks:=t }:=I.un (h':=s.heap) (t':=t) Un.refl I.hok
theorem Inv.kept {t':Nat} (I:Inv X pins σ H s) (k:∀ b u,s.heap.get? b=some u→h'.get? b=some u):Inv X pins σ H { s with heap:=h',toks:=t' }:=I.un (Un.kept k) (I.hok.kept k)
theorem Inv.laid {a : Addr} {o : HO} {t' : Nat} (I : Inv X pins σ H s) (k : ∀ b u, s.heap.get? b = some u → h'.get? b = some u) (hp : s.heap.objs.size ≤ a) (new : ObjOk X.prog X.w (upd H a o) h' a o) :
    Inv X pins σ (upd H a o) { s with heap:=h',toks:=t' }:=I.un (Un.laid k hp (I.hok.fresh hp)) (I.hok.laid k hp new)
theorem Inv.write {x e : Addr} {o : HO} {t' : Nat} (I : Inv X pins σ H s) (mu : Mut (H x)) (he : e = x ∨ H e = some (.own x)) (k : ∀ b u, b ≠ e → s.heap.get? b = some u → h'.get? b = some u) (heo : ∃ u, h'.get? e = some u)
    (new:ObjOk X.prog X.w (upd H x o) h' x o):Inv X pins σ (upd H x o) { s with heap:=h',toks:=t' }:=I.un (Un.write mu he k heo) (I.hok.write mu he k heo new)
theorem Inv.pins_of {pins':List (Addr×Obj)} (I:Inv X pins σ H s) (h:∀ p∈pins',s.heap.get? p.1=some p.2∧H p.1=none∧p.1≠X.env.locals∧p.1 ∉ X.fs∧∀ v,p.2.data≠.cell v):Inv X pins' σ H s :=
  ⟨I.ok,I.os,I.bare,I.base,I.loc,I.cell,I.free,I.freeC,fun p hp=>(List.mem_append.mp hp).elim (fun z=>I.pin p (List.mem_append_left _ z)) (h p),I.hok,I.len⟩
theorem nodup_ix {N:List Str} (hN:N.Nodup) {i j:Nat} {x:Str} (a:N[i]?=some x) (b:N[j]?=some x):i=j:=by
  obtain ⟨h1,e1⟩:=List.getElem?_eq_some_iff.mp a
  obtain ⟨h2,e2⟩:=List.getElem?_eq_some_iff.mp b
  exact (List.getElem_inj hN).mp (e1.trans e2.symm)
theorem store_ok2 {M : Model} {A : Around} {E : Value → Shared → Prop} {i : Nat} {x : Str} {v : V} {u : Value} {Q : Unit → Shared → Prop} (I : Inv X pins σ H s) (hN : X.N.Nodup) (hi : X.N[i]? = some x) (hx : Loc X.env.scope x) (r : RelV v u)
    (h:∀ s',Inv X pins (σ.set i (some v)) H s'→(∃ a,Heap.SameBut a s.heap s'.heap∧(a=X.env.locals∨X.env.cells.lookup x=some a))→Q () s') (hf:X.fn x=true∨X.env.scope.names.lookup x=some .local:=by first | exact .inl rfl | exact .inr rfl | assumption):wpAny M A (storeName X.env x u) Q E s:=by
  obtain ⟨m,hn,hl⟩:=id I.loc
  have hcls:(X.env.scope.kind == .class || (X.env.scope.kind == .module && X.env.locals != X.env.globals))=false:=by rw [I.ok.kind];rfl
  have hiσ:i<σ.length:=by rw [I.len];exact (List.getElem?_eq_some_iff.mp hi).1
  have cne:=I.cne
  have tracked:∀ {a:Addr} {h':Heap},(∃ o,s.heap.get? a=some o∧H a=none)→Heap.SameBut a s.heap h'→HOk X.prog X.w H h':=fun {a h'} ha hs b ob e=>by
    obtain ⟨_,_,hfree⟩:=ha
    refine (I.hok b ob e).stay (fun c w' hc q=>(hs.2 c ?_).trans q) (fun _ q=>q) fun _ _ q=>q
    rintro rfl
    rcases hc with rfl | hc
    · rw [hfree] at e;cases e
    · rw [hfree] at hc;cases hc
  rcases hx with hk | hk
  · refine wpAny_storeName_local hk hn (fun h' hn' hs=>?_) hcls
    obtain ⟨oL,_,_,hoL,_⟩:=id hn
    refine h _ ⟨I.ok,I.os,I.bare,⟨fun b o e n hb hx=>?_,fun b o e n hb hx=>?_,I.base.free,fun b o e hx=>?_,I.base.tups,I.base.frzs,I.base.tbls⟩,⟨_,hn',fun j y v' e1 e2 e3=>?_⟩,fun y c e=>?_,I.free,I.freeC,fun p hp=>?_,tracked ⟨oL,hoL,I.free⟩ hs,by simpa using I.len⟩ ⟨_,hs,.inl rfl⟩
    · exact (hs.2 b (Nat.ne_of_lt (Nat.lt_of_lt_of_le (Heap.lt_size e) I.ok.above))).trans (I.base.keep b o e n hb hx)
    · obtain ⟨sl,e1⟩:=I.base.slot b o e n hb hx
      exact ⟨sl,(hs.2 b (Nat.ne_of_lt (Nat.lt_of_lt_of_le (Heap.lt_size e) I.ok.above))).trans e1⟩
    · obtain ⟨o',e1⟩:=I.base.there b o e hx
      exact ⟨o',(hs.2 b (Nat.ne_of_lt (Nat.lt_of_lt_of_le (Heap.lt_size e) I.ok.above))).trans e1⟩
    · by_cases hj:j=i
      · subst hj
        rw [hi] at e1;cases e1
        rw [List.getElem?_set_self hiσ] at e2
        cases e2
        exact ⟨u,r,.inl ⟨hk,by simp⟩⟩
      · rw [List.getElem?_set_ne (Ne.symm hj)] at e2
        obtain ⟨u',r',q⟩:=hl j y v' e1 e2 e3
        refine ⟨u',r',?_⟩
        rcases q with ⟨k,e⟩ | ⟨k,c,e,z⟩
        · refine .inl ⟨k,?_⟩
          have:y≠x:=fun e=>hj (nodup_ix hN e1 (e ▸ hi))
          simp [this,e]
        · exact .inr ⟨k,c,e,z.sameBut hs (cne y c e)⟩
    · obtain ⟨w',z⟩:=I.cell y c e
      exact ⟨w',z.sameBut hs (cne y c e)⟩
    · obtain ⟨e,n,ne,nf,d⟩:=I.pin p hp
      exact ⟨(hs.2 p.1 ne).trans e,n,ne,nf,d⟩
  · have hfn : X.fn x = true := by
      rcases hf with z | z
      · exact z
      · rw [z] at hk;cases hk
    obtain ⟨c,hc⟩:=I.ok.has x (.inl hk)
    obtain ⟨w',z⟩:=I.cell x c hc
    refine wpAny_storeName_cell I.ok.kind hk hc z (fun h' hc' hs=>?_)
    obtain ⟨oc,hoc,hocd⟩:=id z
    refine h { s with heap:=h' } ⟨I.ok,I.os,I.bare,⟨fun b o e n hb hx=>?_,fun b o e n hb hx=>?_,I.base.free,fun b o e hx=>?_,I.base.tups,I.base.frzs,I.base.tbls⟩,⟨m,hn.sameBut hs (Ne.symm (cne x c hc)),fun j y v' e1 e2 e3=>?_⟩,fun y c' e=>?_,I.free,I.freeC,fun p hp=>?_,tracked ⟨oc,hoc,I.freeC x c hc⟩ hs,by simpa using I.len⟩ ⟨c,hs,.inr hc⟩
    · exact (hs.2 b (Nat.ne_of_lt (Nat.lt_of_lt_of_le (Heap.lt_size e) (I.ok.cab x c hfn hc)))).trans (I.base.keep b o e n hb hx)
    · obtain ⟨sl,e1⟩:=I.base.slot b o e n hb hx
      exact ⟨sl,(hs.2 b (Nat.ne_of_lt (Nat.lt_of_lt_of_le (Heap.lt_size e) (I.ok.cab x c hfn hc)))).trans e1⟩
    · obtain ⟨o',e1⟩:=I.base.there b o e hx
      exact ⟨o',(hs.2 b (Nat.ne_of_lt (Nat.lt_of_lt_of_le (Heap.lt_size e) (I.ok.cab x c hfn hc)))).trans e1⟩
    · by_cases hj:j=i
      · subst hj
        rw [hi] at e1;cases e1
        rw [List.getElem?_set_self hiσ] at e2
        cases e2
        exact ⟨u,r,.inr ⟨.inl hk,c,hc,hc'⟩⟩
      · rw [List.getElem?_set_ne (Ne.symm hj)] at e2
        obtain ⟨u',r',q⟩:=hl j y v' e1 e2 e3
        refine ⟨u',r',?_⟩
        rcases q with q | ⟨k,c',e,z'⟩
        · exact .inl q
        · refine .inr ⟨k,c',e,z'.sameBut hs ?_⟩
          rintro rfl
          exact hj (nodup_ix hN e1 (I.ok.inj _ _ _ e hc ▸ hi))
    · by_cases hcc:c'=c
      · subst hcc;exact ⟨_,hc'⟩
      · obtain ⟨w2,z2⟩:=I.cell y c' e
        exact ⟨w2,z2.sameBut hs hcc⟩
    · obtain ⟨e,n,ne,nf,d⟩:=I.pin p hp
      refine ⟨(hs.2 p.1 ?_).trans e,n,ne,nf,d⟩
      intro q
      rw [q,hoc] at e
      have q':oc=p.2:=Option.some.inj e
      exact d w' (by rw [← q'];exact hocd)
theorem store_ok {M : Model} {A : Around} {E : Value → Shared → Prop} {i : Nat} {x : Str} {v : V} {u : Value} {Q : Unit → Shared → Prop} (I : Inv X pins σ H s) (hN : X.N.Nodup) (hi : X.N[i]? = some x) (hx : Loc X.env.scope x) (r : RelV v u)
    (h:∀ s',Inv X pins (σ.set i (some v)) H s'→Q () s') (hf:X.fn x=true∨X.env.scope.names.lookup x=some .local:=by first | exact .inl rfl | exact .inr rfl | assumption):wpAny M A (storeName X.env x u) Q E s :=
  store_ok2 I hN hi hx r (fun s' I' _=>h s' I') hf
theorem Inv.call' {s' : Shared} {ch : List Addr} (I : Inv X pins σ H s) (ho : s'.os = s.os) (u : Un (frs X.stack) ch H H' s.heap s'.heap) (hok : HOk X.prog X.w H' s'.heap) (hg : AllBare s'.gens)
    (hch:∀ b∈ch,(b∈X.ex∨X.s₀.heap.objs.size≤b)∧b≠X.env.locals∧(∀ x c,X.env.cells.lookup x=some c→c≠b)∧∀ p∈X.pn++pins,p.1≠b):Inv X pins σ H' s':=by
  obtain ⟨h',g',d',t',o'⟩:=s'
  have e:o'=s.os:=ho
  subst e
  exact I.call (g':=g') (t':=t') (d':=d') u hok hg hch
end
abbrev XK:=Value→Option Addr→Hp→Prop
abbrev St:=List (Option V)
abbrev VK:=V→Hp→Prop
abbrev TE:=St→Hp→VK→Prop
abbrev TT:=St→Hp→(Bool→Hp→Prop)→Prop
abbrev TA:=St→Hp→(List V→Hp→Prop)→Prop
structure Ends where
  nx:St→Hp→Prop
  rt:VK
  bk:St→Hp→Prop:=fun _ _=>False
  ct:St→Hp→Prop:=fun _ _=>False
abbrev TS:=Ends→St→Hp→Prop
def EP (X:Cx) (pins:List (Addr×Obj)) (σ:St) (Q:VK) (u:Value) (s':Shared):Prop:=∃ v H',Inv X pins σ H' s'∧RelV v u∧Q v H'
def TP (X:Cx) (pins:List (Addr×Obj)) (σ:St) (Q:Bool→Hp→Prop) (b:Bool) (s':Shared):Prop:=∃ H',Inv X pins σ H' s'∧Q b H'
def AP (X:Cx) (pins:List (Addr×Obj)) (σ:St) (Q:List V→Hp→Prop) (us:List Value) (s':Shared):Prop:=∃ vs H',Inv X pins σ H' s'∧Vals vs us∧Q vs H'
def SP (X:Cx) (pins:List (Addr×Obj)) (D:Ends) (f:Flow) (s':Shared):Prop :=
  match f with
  | .next=>∃ σ' H',Inv X pins σ' H' s'∧D.nx σ' H'
  | .brk=>∃ σ' H',Inv X pins σ' H' s'∧D.bk σ' H'
  | .cont=>∃ σ' H',Inv X pins σ' H' s'∧D.ct σ' H'
  | .ret u=>∃ v σ' H',Inv X pins σ' H' s'∧RelV v u∧D.rt v H'
def PE (X:Cx) (e:Expr) (t:TE):Prop :=
  ∀ (pins:List (Addr×Obj)) (s:Shared) (σ:St) (H:Hp) (Q:VK),Inv X pins σ H s→t σ H Q→wpAny (model X.prog X.w) X.A (eval e X.env) (EP X pins σ Q) X.xe s
def PT (X:Cx) (e:Expr) (t:TT):Prop :=
  ∀ (pins:List (Addr×Obj)) (s:Shared) (σ:St) (H:Hp) (Q:Bool→Hp→Prop),Inv X pins σ H s→t σ H Q→wpAny (model X.prog X.w) X.A (isTrue e X.env (eval e X.env)) (TP X pins σ Q) X.xe s
def PW (X:Cx) (e:Expr) (t:TT):Prop :=
  ∀ (whole:Sem Value) (pins:List (Addr×Obj)) (s:Shared) (σ:St) (H:Hp) (Q:Bool→Hp→Prop),Inv X pins σ H s→t σ H Q→wpAny (model X.prog X.w) X.A (isTrue e X.env whole) (TP X pins σ Q) X.xe s
theorem PW.pt {X:Cx} {e:Expr} {t:TT} (h:PW X e t):PT X e t:=h _
def PA (X:Cx) (es:List Expr) (t:TA):Prop :=
  ∀ (pos:Pos) (pins:List (Addr×Obj)) (s:Shared) (σ:St) (H:Hp) (Q:List V→Hp→Prop),Inv X pins σ H s→t σ H Q→wpAny (model X.prog X.w) X.A (spliced (backTo pos (starEach es X.env))) (AP X pins σ Q) X.xe s
def PS (X:Cx) (st:Stmt) (t:TS):Prop :=
  ∀ (pins:List (Addr×Obj)) (s:Shared) (σ:St) (H:Hp) (D:Ends),Inv X pins σ H s→t D σ H→wpAny (model X.prog X.w) X.A (exec st X.env) (SP X pins D) X.xe s
def PSs (X:Cx) (st:List Stmt) (t:TS):Prop :=
  ∀ (pins:List (Addr×Obj)) (s:Shared) (σ:St) (H:Hp) (D:Ends),Inv X pins σ H s→t D σ H→wpAny (model X.prog X.w) X.A (execs st X.env) (SP X pins D) X.xe s
theorem thn {α:Type} {t:Sem α} {Q Q':α→Shared→Prop} {M:Model} {A:Around} {E:Value→Shared→Prop} {s:Shared} (h:wpAny M A t Q E s) (hQ:∀ a s,Q a s→Q' a s):wpAny M A t Q' E s:=wpAny_mono h hQ fun _ _ x=>x
end L2
namespace L2
open PySem PySem.Spec PyProof.Rows
section
variable {X:Cx}
def tVar (i:Nat):TE:=fun σ H Q=>∃ v,σ[i]?=some (some v)∧Q v H
def tC (v:V):TE:=fun _ H Q=>Q v H
theorem pe_var {i:Nat} {x:Str} {pos:Pos} (hN:X.N[i]?=some x) (hv:Vis X.env.scope x) (hd:(x == ("__debug__" : Str))=false:=by decide) (hcd:(x == ("__classdict__" : Str))=false:=by decide):PE X (.Name x pos) (tVar i):=by
  intro pins s σ H Q I h
  obtain ⟨v,e,h⟩:=h
  obtain ⟨m,hn,hl⟩:=I.loc
  obtain ⟨u,r,l⟩:=hl i x v hN e hv
  have fin:EP X pins σ Q u s:=⟨v,H,I,r,h⟩
  rcases l with ⟨hk,hm⟩ | ⟨hk,c,hc,hcell⟩
  · exact wpAny_Name (wpAny_loadName_local I.ok.kind hk hn hm fin) hd
  · rcases hk with hk | hk
    · exact wpAny_Name (wpAny_loadName_cell I.ok.kind hk hc hcell fin) hd
    · exact wpAny_Name (wpAny_loadName_free I.ok.kind hk hc hcell fin hcd) hd
theorem pe_int {i j pos}:PE X (.Constant (.int i) j pos) (tC (.int i)):=fun _ _ _ H _ I h=>wpAny_Constant_int ⟨.int i,H,I.tok _,⟨_,rfl⟩,h⟩
theorem pe_bl {b j pos}:PE X (.Constant (.bool b) j pos) (tC (.bl b)):=fun _ _ _ H _ I h=>Constant_bool ⟨.bl b,H,I,rfl,h⟩
theorem pe_non {j pos}:PE X (.Constant .none j pos) (tC .non):=fun _ _ _ H _ I h=>Constant_none ⟨.non,H,I,rfl,h⟩
theorem pe_str {x j pos}:PE X (.Constant (.str x) j pos) (tC (.str x)):=fun _ _ _ H _ I h=>Calls.Constant_str ⟨.str x,H,I.tok _,⟨_,rfl⟩,h⟩
def Gl (X:Cx) (x:Str):Prop:=X.env.kindOf x=some .globalImplicit
theorem ld_glob {E : Value → Shared → Prop} {pins : List (Addr × Obj)} {s : Shared} {σ : St} {H : Hp} {x : Str} {u : Value} {pos : Pos} {Q : Value → Shared → Prop} (I : Inv X pins σ H s) (hg : Gl X x) (hm : X.mg x = some u) (h : Q u s)
    (hd:(x == ("__debug__" : Str))=false:=by decide):wpAny (model X.prog X.w) X.A (eval (.Name x pos) X.env) Q E s :=
  Calls.Name_function_global I.ok.kind hg (Calls.loadGlobal_global (by rw [I.ok.glob];exact I.mod.glob.keeps I.bk) hm h) hd
theorem ld_blt {E : Value → Shared → Prop} {pins : List (Addr × Obj)} {s : Shared} {σ : St} {H : Hp} {x : Str} {u : Value} {pos : Pos} {Q : Value → Shared → Prop} (I : Inv X pins σ H s) (hg : Gl X x) (hm : X.mg x = none) (hv : bootBuiltins x = some u) (h : Q u s)
    (hn:x ≠ "__name__":=by decide) (hd:(x == ("__debug__" : Str))=false:=by decide):wpAny (model X.prog X.w) X.A (eval (.Name x pos) X.env) Q E s:=by
  obtain ⟨mb,h1,h2⟩:=I.mod.blt
  exact Calls.Name_function_global I.ok.kind hg (Calls.loadGlobal_builtin (by rw [I.ok.glob];exact I.mod.glob.keeps I.bk) hm (by rw [I.ok.blt];exact h1.keeps I.bk) ((h2 x hn).trans hv) h) hd
theorem pe_bltn {x:Str} {v:V} {u:Value} {pos:Pos} (hg:Gl X x) (hm:X.mg x=none) (hv:bootBuiltins x=some u) (r:RelV v u) (hn:x ≠ "__name__":=by decide) (hd:(x == ("__debug__" : Str))=false:=by decide):PE X (.Name x pos) (tC v) :=
  fun _ _ _ H _ I h=>ld_blt I hg hm hv ⟨v,H,I,r,h⟩ hn hd
variable {a b:Expr} {ta tb:TE} {pos:Pos}
def PC (X:Cx) (op:CmpOp) (a b:Expr) (t:TE):Prop :=
  ∀ (pins:List (Addr×Obj)) (s:Shared) (σ:St) (H:Hp) (Q:VK),Inv X pins σ H s→t σ H Q →
    wpAny (model X.prog X.w) X.A (eval a X.env) (fun v s₁=>wpAny (model X.prog X.w) X.A (eval b X.env) (fun u s₂=>wpAny (model X.prog X.w) X.A (compareOp op v u) (EP X pins σ Q) X.xe s₂) X.xe s₁) X.xe s
def tB (t:TE):TT:=fun σ H Q=>t σ H fun x H1=>∃ c,x=.bl c∧Q c H1
theorem pt_cmp {op:CmpOp} {t:TE} (h:PC X op a b t) (h1:behindInMarks op b=false:=by first | exact nobehind _ (by decide) (by decide) | rfl):PT X (.Compare a [op] [b] pos) (tB t):=by
  intro pins s σ H Q I hw
  refine wpAny_isTrue_Compare1 (thn (h pins s σ H _ I hw) fun v s1 h1=>thn h1 fun u s2 h2=>thn h2 fun c s3 ⟨x,H1,I1,r1,q1⟩=>?_) h1
  obtain ⟨d,rfl,q⟩:=q1
  cases r1
  exact wpAny_truthy_bool ⟨H1,I1,q⟩
theorem pt_val {e:Expr} {t:TE} (h:PE X e t) (he:∀ whole,isTrue e X.env whole=(do let v ← whole;standAt e.pos;holding [v] (truthy v)):=by intro _;rfl):PT X e (tB t):=by
  intro pins s σ H Q I hw
  refine isTrue_plain (thn (h pins s σ H _ I hw) fun v s1 ⟨x,H1,I1,r1,q1⟩=>?_) (he _)
  obtain ⟨d,rfl,q⟩:=q1
  cases r1
  exact wpAny_truthy_bool ⟨H1,I1,q⟩
variable {tA tB':TT} {rest:List Expr}
def tAnd (t u:TT):TT:=fun σ H Q=>t σ H fun c H1=>if c=true then u σ H1 Q else Q false H1
def tOr (t u:TT):TT:=fun σ H Q=>t σ H fun c H1=>if c=true then Q true H1 else u σ H1 Q
def tNot (t:TT):TT:=fun σ H Q=>t σ H fun c H1=>Q (!c) H1
theorem pw_and1 (ha:PT X a tA):PW X (.BoolOp .And [a] pos) tA:=by
  intro wh pins s σ H Q I h
  refine isTrue_and (thn (ha pins s σ H Q I h) fun c s1 e=>?_)
  cases c with
  | true=>exact isTrue_and_nil e
  | false=>exact e
theorem pw_or1 (ha:PT X a tA):PW X (.BoolOp .Or [a] pos) tA:=by
  intro wh pins s σ H Q I h
  refine isTrue_or (thn (ha pins s σ H Q I h) fun c s1 e=>?_)
  cases c with
  | false=>exact isTrue_or_nil e
  | true=>exact e
theorem pw_and (ha:PT X a tA) (hb:PW X (.BoolOp .And (b::rest) pos) tB'):PW X (.BoolOp .And (a::b::rest) pos) (tAnd tA tB'):=by
  intro wh pins s σ H Q I h
  refine isTrue_and (thn (ha pins s σ H _ I h) fun c s1 ⟨H1,I1,q1⟩=>?_)
  cases c with
  | true=>exact hb wh pins s1 σ H1 Q I1 q1
  | false=>exact ⟨H1,I1,q1⟩
theorem pw_or (ha:PT X a tA) (hb:PW X (.BoolOp .Or (b::rest) pos) tB'):PW X (.BoolOp .Or (a::b::rest) pos) (tOr tA tB'):=by
  intro wh pins s σ H Q I h
  refine isTrue_or (thn (ha pins s σ H _ I h) fun c s1 ⟨H1,I1,q1⟩=>?_)
  cases c with
  | true=>exact ⟨H1,I1,q1⟩
  | false=>exact hb wh pins s1 σ H1 Q I1 q1
theorem pt_not (ha:PT X a tA):PT X (.UnaryOp .Not a pos) (tNot tA):=by
  intro pins s σ H Q I h
  exact isTrue_not (ha pins s σ H (fun c H1=>Q (!c) H1) I h)
def tAndV (ta tb:TE):TE:=fun σ H Q=>ta σ H fun x H1=>∃ c,x=.bl c∧if c=true then tb σ H1 Q else Q (.bl false) H1
theorem pe_one {op} {t:TE} (h:PE X a t):PE X (.BoolOp op [a] pos) t:=fun pins s σ H Q I hw=>BoolOp_one (h pins s σ H Q I hw)
theorem pe_and (ha:PE X a ta) (hb:PE X (.BoolOp .And (b::rest) pos) tb):PE X (.BoolOp .And (a::b::rest) pos) (tAndV ta tb):=by
  intro pins s σ H Q I h
  refine BoolOp_and (thn (ha pins s σ H _ I h) fun v s1 ⟨x,H1,I1,r1,q1⟩=>?_)
  obtain ⟨c,rfl,q1⟩:=q1
  cases r1
  refine wpAny_truthy_bool ?_
  cases c with
  | true=>exact hb pins s1 σ H1 Q I1 q1
  | false=>exact ⟨.bl false,H1,I1,rfl,q1⟩
def tIf (t:TT) (ta tb:TE):TE:=fun σ H Q=>t σ H fun c H1=>if c=true then ta σ H1 Q else tb σ H1 Q
theorem pe_ifExp {c:Expr} (hc:PT X c tA) (ha:PE X a ta) (hb:PE X b tb):PE X (.IfExp c a b pos) (tIf tA ta tb):=by
  intro pins s σ H Q I h
  refine wpAny_IfExp (thn (hc pins s σ H _ I h) fun d s1 ⟨H1,I1,q1⟩=>?_)
  cases d with
  | true=>exact ha pins s1 σ H1 Q I1 q1
  | false=>exact hb pins s1 σ H1 Q I1 q1
end
end L2
namespace L2
open PySem PySem.Spec PyProof.Rows
def SqL (K:PySem.W.Frag) (H:Hp) (a:Addr) (xs:List V):Prop :=
  Rd H a (.lst xs) ∨
    ∃ (o:Obj) (its:Array Value) (n:Nat),K.lookup a=some o∧o.cls=.type "list" ∧ o.dict=none∧o.data=.seq its n∧its.size≤sizeLine∧Vals xs its.toList
def SqT (K:PySem.W.Frag) (H:Hp) (a:Addr) (xs:List V):Prop :=
  Rd H a (.tup xs) ∨
    ∃ (o:Obj) (its:Array Value) (n:Nat),K.lookup a=some o∧o.cls=.type "tuple" ∧ o.data=.seq its n∧its.size≤sizeLine∧Vals xs its.toList
def absV:Value→Option V
  | .none=>some .non
  | .bool b=>some (.bl b)
  | .int i _=>some (.int i)
  | .str x _=>some (.str x)
  | .bytes b _=>some (.byt b)
  | .float b _=>some (.flt b)
  | .ref a=>some (.ref a)
  | .type n=>some (.ty n)
  | _=>none
theorem RelV.abs {x:V} {u:Value} (r:RelV x u):absV u=some x:=by
  cases x with
  | non=>cases r;rfl
  | bl _=>cases r;rfl
  | int _=>obtain ⟨t,rfl⟩:=r;rfl
  | str _=>obtain ⟨t,rfl⟩:=r;rfl
  | byt _=>obtain ⟨t,rfl⟩:=r;rfl
  | flt _=>obtain ⟨t,rfl⟩:=r;rfl
  | ref _=>cases r;rfl
  | ty _=>cases r;rfl
theorem RelV.inj {x y:V} {u:Value} (r:RelV x u) (q:RelV y u):x=y:=Option.some.inj (r.abs.symm.trans q.abs)
theorem Vals.inj:∀ {xs ys:List V} {us:List Value},Vals xs us→Vals ys us→xs=ys
  | _,_,_,.nil,.nil=>rfl
  | _,_,_,.cons r t,.cons r' t'=>by rw [r.inj r',Vals.inj t t']
section
variable {X:Cx} {pins:List (Addr×Obj)} {σ:St} {H:Hp} {s:Shared} {a:Addr} {xs ys:List V}
theorem SqL.of {K:PySem.W.Frag} (h:H a=some (.lst xs)):SqL K H a xs:=.inl (.inl h)
theorem SqT.of {K:PySem.W.Frag} (h:H a=some (.tup xs)):SqT K H a xs:=.inl (.inl h)
theorem Inv.list (I:Inv X pins σ H s) (h:SqL X.K H a xs):∃ its:List Value,Vals xs its∧PlainL s.heap a its.toArray∧xs.length≤sizeLine:=by
  rcases h with h | ⟨o,its,n,hk,hc,hd,hs,hz,r⟩
  · obtain ⟨z,its,n,r,e⟩:=h.ok I.hok
    exact ⟨its,r,⟨_,n,e,rfl,rfl,rfl⟩,z⟩
  · refine ⟨its.toList,r,⟨o,n,I.kIn a o hk,hc,hd,by simpa using hs⟩,?_⟩
    have e:=r.length
    simp only [Array.length_toList] at e
    lia
theorem Inv.tuple (I:Inv X pins σ H s) (h:SqT X.K H a xs):∃ its:List Value,Vals xs its∧IsTup s.heap a its.toArray∧xs.length≤sizeLine:=by
  rcases h with h | ⟨o,its,n,hk,hc,hs,hz,r⟩
  · obtain ⟨z,its,r,p⟩:=h.ok I.hok
    exact ⟨its,r,p,z⟩
  · refine ⟨its.toList,r,⟨o,I.kIn a o hk,hc,n,by simpa using hs⟩,?_⟩
    have e:=r.length
    simp only [Array.length_toList] at e
    lia
theorem Inv.list_inj (I:Inv X pins σ H s) (h:SqL X.K H a xs) (h':SqL X.K H a ys):xs=ys:=by
  obtain ⟨its,r,⟨o,n,e,_,_,d⟩,_⟩:=I.list h
  obtain ⟨its',r',⟨o',n',e',_,_,d'⟩,_⟩:=I.list h'
  rw [e] at e';cases e'
  rw [d] at d'
  injection d' with d1 _
  have:its=its':=by simpa using congrArg Array.toList d1
  subst this
  exact r.inj r'
theorem Inv.tuple_inj (I:Inv X pins σ H s) (h:SqT X.K H a xs) (h':SqT X.K H a ys):xs=ys:=by
  obtain ⟨its,r,⟨o,e,_,n,d⟩,_⟩:=I.tuple h
  obtain ⟨its',r',⟨o',e',_,n',d'⟩,_⟩:=I.tuple h'
  rw [e] at e';cases e'
  rw [d] at d'
  injection d' with d1 _
  have:its=its':=by simpa using congrArg Array.toList d1
  subst this
  exact r.inj r'
end
abbrev Cx.wish (X:Cx) (E:Value→Shared→Prop):Cx:={ X with xe:=E }
abbrev Cx.nox (X:Cx):Cx:=X.wish fun _ _=>False
theorem Cx.Ok.wish {X:Cx} (ok:X.Ok) (E:Value→Shared→Prop):(X.wish E).Ok :=
  ⟨ok.mod,ok.kind,ok.glob,ok.blt,ok.above,ok.inj,ok.has,ok.cab,ok.hd,ok.frames,ok.stk,ok.exf,ok.bs,ok.bsz,ok.noex,ok.exfs,ok.funs,ok.frf⟩
theorem Cx.Ok.unwish {X:Cx} {E:Value→Shared→Prop} (ok:(X.wish E).Ok):X.Ok :=
  ⟨ok.mod,ok.kind,ok.glob,ok.blt,ok.above,ok.inj,ok.has,ok.cab,ok.hd,ok.frames,ok.stk,ok.exf,ok.bs,ok.bsz,ok.noex,ok.exfs,ok.funs,ok.frf⟩
section
variable {X:Cx} {pins:List (Addr×Obj)} {σ:St} {H:Hp} {s:Shared} {E:Value→Shared→Prop}
theorem Inv.wish (I:Inv X pins σ H s) (E:Value→Shared→Prop):Inv (X.wish E) pins σ H s:=⟨I.ok.wish E,I.os,I.bare,I.base,I.loc,I.cell,I.free,I.freeC,I.pin,I.hok,I.len⟩
theorem Inv.unwish (I:Inv (X.wish E) pins σ H s):Inv X pins σ H s:=⟨I.ok.unwish,I.os,I.bare,I.base,I.loc,I.cell,I.free,I.freeC,I.pin,I.hok,I.len⟩
theorem SP.unwish {D:Ends} {f:Flow} {s':Shared} (h:SP (X.wish E) pins D f s'):SP X pins D f s':=by
  cases f with
  | next=>obtain ⟨σ',H',I,q⟩:=h;exact ⟨σ',H',I.unwish,q⟩
  | brk=>obtain ⟨σ',H',I,q⟩:=h;exact ⟨σ',H',I.unwish,q⟩
  | cont=>obtain ⟨σ',H',I,q⟩:=h;exact ⟨σ',H',I.unwish,q⟩
  | ret u=>obtain ⟨v,σ',H',I,r,q⟩:=h;exact ⟨v,σ',H',I.unwish,r,q⟩
theorem PE.nox {e:Expr} {t:TE} (h:PE X.nox e t):PE X e t:=fun pins s σ H Q I hw =>
  wpAny_mono (h pins s σ H Q (I.wish _) hw) (fun _ _ ⟨v,H',I',r,q⟩=>⟨v,H',I'.unwish,r,q⟩) fun _ _ z=>False.elim z
theorem PSs.nox {st:List Stmt} {t:TS} (h:PSs X.nox st t):PSs X st t:=fun pins s σ H D I hw =>
  wpAny_mono (h pins s σ H D (I.wish _) hw) (fun _ _ q=>q.unwish) fun _ _ z=>False.elim z
end
section
variable {X:Cx} {st:Stmt} {rest:List Stmt} {t u:TS} {e:Expr} {te:TE} {pos:Pos}
def tNext:TS:=fun D σ H=>D.nx σ H
def tSeq (t u:TS):TS:=fun D σ H=>t { D with nx:=u D } σ H
theorem pss_nil:PSs X [] tNext:=fun _ _ σ H _ I h=>wpAny_execs_nil ⟨σ,H,I,h⟩
theorem pss_cons (h1:PS X st t) (h2:PSs X rest u):PSs X (st::rest) (tSeq t u):=by
  intro pins s σ H D I h
  refine wpAny_execs_cons (thn (h1 pins s σ H { D with nx:=u D } I h) fun f s1 q=>?_)
  cases f with
  | next =>
    obtain ⟨σ',H',I',q⟩:=q
    exact h2 pins s1 σ' H' D I' q
  | ret v=>exact q
  | brk=>exact q
  | cont=>exact q
theorem pss_one (h1:PS X st t):PSs X [st] t:=by
  intro pins s σ H D I h
  refine wpAny_execs_cons (thn (h1 pins s σ H D I h) fun f s1 q=>?_)
  cases f with
  | next=>exact wpAny_execs_nil q
  | ret v=>exact q
  | brk=>exact q
  | cont=>exact q
theorem Inv.quiet {pins:List (Addr×Obj)} {σ:St} {H:Hp} {s:Shared} (I:Inv X pins σ H s):interactive X.env=false:=by simp [interactive,I.ok.kind]
def tDrop (te:TE):TS:=fun D σ H=>te σ H fun _ H1=>D.nx σ H1
theorem ps_expr (he:PE X e te) (hs:swapsWith e none pos.line X.env=pure false:=by rfl):PS X (.Expr e pos) (tDrop te):=by
  intro pins s σ H D I h
  exact wpAny_Expr_any (thn (he pins s σ H _ I h) fun v s1 ⟨x,H1,I1,r1,q1⟩=>⟨σ,H1,I1,q1⟩) I.quiet hs
def tRet (te:TE):TS:=fun D σ H=>te σ H D.rt
theorem ps_ret (he:PE X e te):PS X (.Return (some e) pos) (tRet te):=by
  intro pins s σ H D I h
  exact wpAny_Return_some (thn (he pins s σ H _ I h) fun v s1 ⟨x,H1,I1,r1,q1⟩=>⟨x,σ,H1,I1,r1,q1⟩)
def tIfS (c:TT) (t u:TS):TS:=fun D σ H=>c σ H fun b H1=>if b=true then t D σ H1 else u D σ H1
theorem ps_if {c:Expr} {a b:List Stmt} {tc:TT} (hc:PT X c tc) (ha:PSs X a t) (hb:PSs X b u):PS X (.If c a b pos) (tIfS tc t u):=by
  intro pins s σ H D I h
  refine wpAny_If (thn (hc pins s σ H _ I h) fun d s1 ⟨H1,I1,q1⟩=>?_)
  cases d with
  | true=>exact ha pins s1 σ H1 D I1 q1
  | false=>exact hb pins s1 σ H1 D I1 q1
end
abbrev TG:=V→St→Hp→(St→Hp→Prop)→Prop
abbrev TGs:=List V→St→Hp→(St→Hp→Prop)→Prop
def PG (X:Cx) (target:Expr) (t:TG):Prop :=
  ∀ (pins:List (Addr×Obj)) (s:Shared) (σ:St) (H:Hp) (v:V) (u:Value) (Q:St→Hp→Prop),Inv X pins σ H s→RelV v u→t v σ H Q →
    wpAny (model X.prog X.w) X.A (assign target X.env u) (fun _ s'=>∃ σ' H',Inv X pins σ' H' s'∧Q σ' H') X.xe s
def PGs (X:Cx) (ts:List Expr) (t:TGs):Prop :=
  ∀ (pins:List (Addr×Obj)) (s:Shared) (σ:St) (H:Hp) (vs:List V) (us:List Value) (Q:St→Hp→Prop),Inv X pins σ H s→Vals vs us→t vs σ H Q →
    wpAny (model X.prog X.w) X.A (assignInOrder ((assignEach ts X.env).map (·.2)) us) (fun _ s'=>∃ σ' H',Inv X pins σ' H' s'∧Q σ' H') X.xe s
abbrev TSet:=V→V→V→Hp→(Hp→Prop)→Prop
def PSet (X:Cx) (t:TSet):Prop :=
  ∀ (pins:List (Addr×Obj)) (s:Shared) (σ:St) (H:Hp) (o i v:V) (ov iv u:Value) (Q:Hp→Prop),Inv X pins σ H s→RelV o ov→RelV i iv→RelV v u→t o i v H Q →
    wpAny (model X.prog X.w) X.A (setItem ov iv u) (fun _ s'=>∃ H',Inv X pins σ H' s'∧Q H') X.xe s
section
variable {X:Cx} {pos:Pos}
def gName (i:Nat):TG:=fun v σ H Q=>Q (σ.set i (some v)) H
theorem pg_name {i:Nat} {x:Str} (hN:X.N.Nodup) (hi:X.N[i]?=some x) (hx:Loc X.env.scope x) (hf:X.fn x=true∨X.env.scope.names.lookup x=some .local:=by first | exact .inl rfl | exact .inr rfl | assumption):PG X (.Name x pos) (gName i):=by
  intro pins s σ H v u Q I r h
  exact wpAny_assign_Name (store_ok I hN hi hx r (fun s' I'=>⟨_,H,I',h⟩) hf)
def gNil:TGs:=fun vs σ H Q=>vs=[]∧Q σ H
def gCons (t:TG) (u:TGs):TGs:=fun vs σ H Q=>∃ v r,vs=v::r∧t v σ H fun σ' H'=>u r σ' H' Q
theorem pgs_nil:PGs X [] gNil:=by
  intro pins s σ H vs us Q I r h
  obtain ⟨e,h⟩:=h
  subst e
  cases r
  exact assignInOrder_nil ⟨σ,H,I,h⟩
theorem pgs_cons {e : Expr} {es : List Expr} {t : TG} {u : TGs} (h1 : PG X e t) (h2 : PGs X es u)
    (hs:(assignEach (e::es) X.env).map (·.2)=assign e X.env::(assignEach es X.env).map (·.2):=by rfl):PGs X (e::es) (gCons t u):=by
  intro pins s σ H vs us Q I r h
  obtain ⟨v,vr,e1,h⟩:=h
  subst e1
  cases r with
  | cons r rr =>
    rw [hs]
    refine assignInOrder_cons (thn (h1 pins s σ H _ _ _ I r h) fun _ s1 ⟨σ1,H1,I1,q1⟩=>?_)
    exact h2 pins s1 σ1 H1 _ _ Q I1 rr q1
def gTup (K:PySem.W.Frag) (n:Nat) (t:TGs):TG:=fun v σ H Q=>∃ a xs,v=.ref a∧SqT K H a xs∧xs.length=n∧t xs σ H Q
theorem pg_tup {es : List Expr} {k : Nat} {t : TGs} {n : Nat} (hc : X.calm = true) (h : PGs X es t)
    (hn:(assignEach es X.env).length=n:=by rfl) (hst:(assignEach es X.env).findIdx? (·.1)=none:=by rfl):PG X (.Tuple es k pos) (gTup X.K n t):=by
  intro pins s σ H v u Q I r hw
  obtain ⟨a,xs,e1,hq,hl,hw⟩:=hw
  subst e1
  cases r
  obtain ⟨its,rv,ht,hz⟩:=I.tuple hq
  refine assign_Tuple_tuple (I.ok.hd hc) ht (by simp [hn,← hl,rv.length]) hst fun h' hx=>?_
  have I1:Inv X pins σ H { s with heap:=h' }:=I.kept (t':=s.toks) fun b o e=>hx b o (Nat.ne_of_lt (Heap.lt_size e)) e
  exact h pins _ σ H xs _ Q I1 (by simpa using rv) hw
def gSub (to ti:TE) (t:TSet):TG:=fun v σ H Q=>to σ H fun o H1=>ti σ H1 fun i H2=>t o i v H2 fun H3=>Q σ H3
theorem pg_sub {o i : Expr} {to ti : TE} {t : TSet} (ho : PE X o to) (hi : PE X i ti) (hs : PSet X t)
    (ha:∀ v,assign (.Subscript o i pos) X.env v=(do
      let ov ← holding [v] (eval o X.env)
      let iv ← holding [v,ov] (eval i X.env)
      standAt pos
      holding [v,ov,iv] (setItem ov iv v)
      release [v,ov,iv] []):=by intro _;rfl):PG X (.Subscript o i pos) (gSub to ti t):=by
  intro pins s σ H v u Q I r h
  rw [ha]
  refine wpAny_bind (wpAny_holding (thn (ho pins s σ H _ I h) fun ov s1 ⟨x,H1,I1,r1,q1⟩=>?_))
  refine wpAny_bind (wpAny_holding (thn (hi pins s1 σ H1 _ I1 q1) fun iv s2 ⟨y,H2,I2,r2,q2⟩=>?_))
  refine wpAny_bind (wpAny_standAt (wpAny_bind (wpAny_holding (thn (hs pins s2 σ H2 x y v ov iv u _ I2 r1 r2 r q2) fun _ s3 ⟨H3,I3,q3⟩=>?_))))
  exact wpAny_release ⟨σ,H3,I3,q3⟩
def tAsg (te:TE) (g:TG):TS:=fun D σ H=>te σ H fun x H1=>g x σ H1 D.nx
theorem ps_asg {tg e : Expr} {te : TE} {g : TG} (he : PE X e te) (hg : PG X tg g) (hs : swapsWithSole [tg] e pos.line X.env = pure false := by rfl) (hw : swappedStores [tg] e X.env = pure none := by rfl)
    (h1:(assignEach [tg] X.env).map (·.2)=[assign tg X.env]:=by rfl):PS X (.Assign [tg] e pos) (tAsg te g):=by
  intro pins s σ H D I h
  refine wpAny_Assign_stores (thn (he pins s σ H _ I h) fun v s1 ⟨x,H1,I1,r1,q1⟩=>?_) hs hw
  rw [h1]
  exact thn (hg pins s1 σ H1 x v _ I1 r1 q1) fun _ s2 q=>q
theorem ps_set {i : Nat} {x : Str} {e : Expr} {te : TE} {pos' : Pos} (hN : X.N.Nodup) (hi : X.N[i]? = some x) (hx : Loc X.env.scope x) (he : PE X e te) (hs : swapsWith e (some (.Name x pos')) pos.line X.env = pure false := by rfl) (hf : X.fn x = true ∨ X.env.scope.names.lookup x = some .local := by first | exact .inl rfl | exact .inr rfl | assumption) :
    PS X (.Assign [.Name x pos'] e pos) (tAsg te (gName i)):=by
  intro pins s σ H D I h
  refine wpAny_Assign_Name (thn (he pins s σ H _ I h) fun v s1 ⟨y,H1,I1,r1,q1⟩=>?_) hs
  exact store_ok I1 hN hi hx r1 (fun s2 I2=>⟨_,H1,I2,q1⟩) hf
end
section
variable {X:Cx} {pos:Pos}
def tWhile (c:TT) (tb:TS):TS:=fun D σ H=>∃ W:Nat→St→Hp→Prop,(∃ m,W m σ H)∧∀ m σ H,W m σ H →
  c σ H fun b H1=>if b=true then ∃ N:St→Hp→Prop,(∀ σ' H',N σ' H'→∃ m',m'<m∧W m' σ' H')∧tb { D with nx:=N,ct:=N,bk:=D.nx } σ H1 else D.nx σ H1
theorem ps_while {c:Expr} {body:List Stmt} {tc:TT} {tb:TS} (hp:PassesOwn (model X.prog X.w) X.A X.env X.xe) (hc:PT X c tc) (hb:PSs X body tb):PS X (.While c body [] pos) (tWhile tc tb):=by
  intro pins s σ H D I h
  obtain ⟨W,⟨m0,w0⟩,turn⟩:=h
  refine wpAny_While (codeAny_whileLoop (fun n s'=>∃ σ' H',Inv X pins σ' H' s'∧W n σ' H') ?_ m0 ⟨σ,H,I,w0⟩)
  rintro n s1 ⟨σ1,H1,I1,w1⟩
  refine wpAny_passesOwn hp (thn (hc pins s1 σ1 H1 _ I1 (turn n σ1 H1 w1)) fun b s2 ⟨H2,I2,q2⟩=>?_)
  cases b with
  | true =>
    obtain ⟨N,hN,q2⟩:=q2
    rw [if_pos rfl]
    refine wpAny_passesOwn hp (thn (hb pins s2 σ1 H2 _ I2 q2) fun f s3 q3=>?_)
    cases f with
    | next =>
      obtain ⟨σ3,H3,I3,n3⟩:=q3
      obtain ⟨m',hm,w3⟩:=hN σ3 H3 n3
      exact ⟨m',hm,σ3,H3,I3,w3⟩
    | cont =>
      obtain ⟨σ3,H3,I3,n3⟩:=q3
      obtain ⟨m',hm,w3⟩:=hN σ3 H3 n3
      exact ⟨m',hm,σ3,H3,I3,w3⟩
    | brk=>exact q3
    | ret v=>exact q3
  | false =>
    rw [if_neg Bool.false_ne_true]
    exact wpAny_execs_nil ⟨σ1,H2,I2,q2⟩
end
structure It where
  go:Nat→Hp→Prop
  yld:Nat→Hp→V→Hp→Prop
  stop:Nat→Hp→Prop
def FpOk (X:Cx) (pins:List (Addr×Obj)) (H:Hp) (b:Addr):Prop :=
  H b=none∧b≠X.env.locals∧b ∉ X.fs∧(b∈X.ex∨X.s₀.heap.objs.size≤b)∧(∀ x c,X.env.cells.lookup x=some c→c≠b)∧∀ p∈X.pn++pins,p.1≠b
theorem Inv.fpOk {X:Cx} {pins:List (Addr×Obj)} {σ:St} {H H':Hp} {s:Shared} {b:Addr} (I:Inv X pins σ H s) (hb:s.heap.objs.size≤b) (hn:H' b=none):FpOk X pins H' b:=by
  refine ⟨hn,Nat.ne_of_gt (Nat.lt_of_lt_of_le I.lt hb),I.nofs hb,.inr (Nat.le_trans I.sz hb),fun x c e z=>?_,fun p hp z=>?_⟩
  · obtain ⟨v,q⟩:=I.cell x c e
    exact absurd (Nat.lt_of_lt_of_le q.lt (by rw [z];exact hb)) (Nat.lt_irrefl _)
  · exact absurd (Nat.lt_of_lt_of_le (Heap.lt_size (I.pin p hp).1) (by rw [z];exact hb)) (Nat.lt_irrefl _)
structure Turn (P:Program) (w:World) (K:PySem.W.Frag) (tg:Expr) (J:It) (fp:List Addr) (it:Addr) (tn:Nat→Heap→Prop):Prop where
  mem:it∈fp
  obj:∀ i h,tn i h→∀ b∈fp,∃ o,h.get? b=some o∧∀ v,o.data≠.cell v
  keep:∀ i h h',tn i h→(∀ b∈fp,∀ o,h.get? b=some o→h'.get? b=some o)→tn i h'
  item:∀ (X:Cx),X.prog=P→X.w=w→X.K=K→X.calm=true→∀ (i:Nat) (pins:List (Addr×Obj)) (s:Shared) (σ:St) (H:Hp) (E:Value→Shared→Prop),Inv X pins σ H s→(∀ b∈fp,FpOk X pins H b)→tn i s.heap→J.go i H →
    wpAny (model P w) X.A (pyNext (.ref it)) (fun r s1=>∃ u,r=some u ∧
      wpAny (model P w) X.A (letOwnedTupleGo tg (.ref it) u) (fun _ s2=>∃ x H',Inv X pins σ H' s2∧RelV x u∧J.yld i H x H'∧tn (i+1) s2.heap∧∀ b∈fp,H' b=none) E s1) E s
  done:∀ (X:Cx),X.prog=P→X.w=w→X.K=K→X.calm=true→∀ (i:Nat) (pins:List (Addr×Obj)) (s:Shared) (σ:St) (H:Hp) (E:Value→Shared→Prop),Inv X pins σ H s→(∀ b∈fp,FpOk X pins H b)→tn i s.heap→J.stop i H →
    wpAny (model P w) X.A (pyNext (.ref it)) (fun r s1=>r=none∧Inv X pins σ H s1) E s
  self:∀ (A:Around) (i:Nat) (s:Shared) (Q:Value→Shared→Prop) (E:Value→Shared→Prop),tn i s.heap→Q (.ref it) s→wpAny (model P w) A (pyIter (.ref it)) Q E s
abbrev TI:=St→Hp→(It→Hp→Prop)→Prop
def PIE (X:Cx) (pins:List (Addr×Obj)) (σ:St) (tg:Expr) (R:It→Hp→Prop) (itv:Value) (s2:Shared):Prop :=
  ∃ (it:Addr) (fp:List Addr) (tn:Nat→Heap→Prop) (J:It) (H':Hp),itv=.ref it∧Inv X pins σ H' s2∧Turn X.prog X.w X.K tg J fp it tn∧tn 0 s2.heap∧(∀ b∈fp,FpOk X pins H' b)∧R J H'
def PI (X:Cx) (tg iter:Expr) (wi:TI):Prop :=
  ∀ (pins:List (Addr×Obj)) (s:Shared) (σ:St) (H:Hp) (R:It→Hp→Prop),Inv X pins σ H s→wi σ H R →
    wpAny (model X.prog X.w) X.A (eval iter X.env) (fun v s1=>wpAny (model X.prog X.w) X.A (pyIter v) (PIE X pins σ tg R) X.xe s1) X.xe s
theorem go_of {M : Model} {A : Around} {E : Value → Shared → Prop} {s : Shared} {tg : Expr} {it : Addr} {u : Value} {o : Obj} {n : String} {vs : Array Value} {Q : Unit → Shared → Prop} (ho : s.heap.get? it = some o) (hc : o.cls = .type n) (hd : o.data = .fields vs)
    (hn:["enumerate","zip","dict_itemiterator","dict_reverseitemiterator","odict_iterator","itertools.zip_longest","itertools.pairwise"].contains n=false) (hQ:Q () s):wpAny M A (letOwnedTupleGo tg (.ref it) u) Q E s:=by
  unfold letOwnedTupleGo
  cases tg <;> first
    | exact wpAny_pure hQ
    | (cases u <;> first
        | exact wpAny_pure hQ
        | (refine wpAny_bind (wpAny_load ho ?_)
           rw [hc,hd]
           show wpAny M A (if (["enumerate","zip","dict_itemiterator","dict_reverseitemiterator","odict_iterator","itertools.zip_longest","itertools.pairwise"].contains n && vs[0]? == some (rawInt _))=true then _ else _) Q E s
           rw [if_neg (by intro h;rw [hn,Bool.false_and] at h;cases h)]
           exact wpAny_pure hQ))
def Itl (K:PySem.W.Frag) (a:Addr):It :=
  ⟨fun i H=>∃ xs x,SqL K H a xs∧xs[i]?=some x,fun i H x H'=>H'=H∧∀ xs,SqL K H a xs→xs[i]?=some x,fun i H=>∃ xs,SqL K H a xs∧xs.length≤i⟩
def Itt (K:PySem.W.Frag) (a:Addr):It :=
  ⟨fun i H=>∃ xs x,SqT K H a xs∧xs[i]?=some x,fun i H x H'=>H'=H∧∀ xs,SqT K H a xs→xs[i]?=some x,fun i H=>∃ xs,SqT K H a xs∧xs.length≤i⟩
def Itr (lo:Int) (n:Nat):It:=⟨fun i _=>i<n,fun i H x H'=>H'=H∧x=.int (lo+i),fun i _=>n≤i⟩
theorem turn_list {P:Program} {w:World} {K:PySem.W.Frag} {tg:Expr} (a it:Addr):Turn P w K tg (Itl K a) [it] it (fun i h=>h.IsListIter it a i) where
  mem:=by simp
  obj:=fun i h st b hb=>by
    have e:b=it:=by simpa using hb
    subst e
    obtain ⟨o,e,c,d⟩:=st
    exact ⟨o,e,fun v z=>by rw [d] at z;cases z⟩
  keep:=fun i h h' st k=>st.at fun o e=>k it (by simp) o e
  item:=by
    intro X hP hw hK hc i pins s σ H E I hf st hg
    subst hP hw hK
    obtain ⟨xs,x,hq,hx⟩:=hg
    obtain ⟨its,rv,p,hz⟩:=I.list hq
    obtain ⟨u,hu,ru⟩:=rv.get hx
    obtain ⟨f0,f1,f2,f3,f4,f5⟩:=hf it (by simp)
    refine wpAny_pyNext_list_item st p.isList (x:=u) (by simpa using hu) fun h' st' sb=>?_
    have I1:Inv X pins σ H { s with heap:=h' }:=I.turned (t':=s.toks) (fun b o hb e=>(sb.2 b hb).trans e) f0 f1 f3 f4 f5
    obtain ⟨o,e,c,d⟩:=id st'
    exact ⟨u,rfl,go_of (s:={ s with heap:=h' }) e c d (by decide) ⟨x,H,I1,ru,⟨rfl,fun ys hy=>by rw [I.list_inj hy hq];exact hx⟩,st',fun b hb=>(hf b hb).1⟩⟩
  done:=by
    intro X hP hw hK hc i pins s σ H E I hf st hg
    subst hP hw hK
    obtain ⟨xs,hq,hx⟩:=hg
    obtain ⟨its,rv,p,hz⟩:=I.list hq
    obtain ⟨f0,f1,f2,f3,f4,f5⟩:=hf it (by simp)
    have hl:=rv.length
    exact wpAny_pyNext_list_end (I.ok.hd hc) st p.isList (by simp;lia) fun h' eb=>⟨rfl,I.turned (t':=s.toks) (fun b o hb e=>eb b o hb e) f0 f1 f3 f4 f5⟩
  self:=fun _ _ _ _ _ st h=>wpAny_pyIter_listiter st h
theorem turn_tuple {P:Program} {w:World} {K:PySem.W.Frag} {tg:Expr} (a it:Addr):Turn P w K tg (Itt K a) [it] it (fun i h=>h.IsTupleIter it a i) where
  mem:=by simp
  obj:=fun i h st b hb=>by
    have e:b=it:=by simpa using hb
    subst e
    obtain ⟨o,e,c,d⟩:=st
    exact ⟨o,e,fun v z=>by rw [d] at z;cases z⟩
  keep:=fun i h h' st k=>st.at fun o e=>k it (by simp) o e
  item:=by
    intro X hP hw hK hc i pins s σ H E I hf st hg
    subst hP hw hK
    obtain ⟨xs,x,hq,hx⟩:=hg
    obtain ⟨its,rv,p,hz⟩:=I.tuple hq
    obtain ⟨u,hu,ru⟩:=rv.get hx
    obtain ⟨f0,f1,f2,f3,f4,f5⟩:=hf it (by simp)
    refine wpAny_pyNext_tuple_item st (show s.heap.IsTuple a its.toArray from p) (x:=u) (by simpa using hu) fun h' st' sb=>?_
    have I1:Inv X pins σ H { s with heap:=h' }:=I.turned (t':=s.toks) (fun b o hb e=>(sb.2 b hb).trans e) f0 f1 f3 f4 f5
    obtain ⟨o,e,c,d⟩:=id st'
    exact ⟨u,rfl,go_of (s:={ s with heap:=h' }) e c d (by decide) ⟨x,H,I1,ru,⟨rfl,fun ys hy=>by rw [I.tuple_inj hy hq];exact hx⟩,st',fun b hb=>(hf b hb).1⟩⟩
  done:=by
    intro X hP hw hK hc i pins s σ H E I hf st hg
    subst hP hw hK
    obtain ⟨xs,hq,hx⟩:=hg
    obtain ⟨its,rv,p,hz⟩:=I.tuple hq
    obtain ⟨f0,f1,f2,f3,f4,f5⟩:=hf it (by simp)
    have hl:=rv.length
    exact wpAny_pyNext_tuple_end (I.ok.hd hc) st (show s.heap.IsTuple a its.toArray from p) (by simp;lia) fun h' eb=>⟨rfl,I.turned (t':=s.toks) (fun b o hb e=>eb b o hb e) f0 f1 f3 f4 f5⟩
  self:=fun _ _ _ _ _ st h=>wpAny_pyIter_tupleiter st h
theorem turn_range {P:Program} {w:World} {K:PySem.W.Frag} {tg:Expr} (it:Addr) (lo:Int) (n:Nat):Turn P w K tg (Itr lo n) [it] it (fun i h=>IsRangeIter h it (lo+(i:Nat)*1) ((n:Int) - (i:Nat)) 1) where
  mem:=by simp
  obj:=fun i h st b hb=>by
    have e:b=it:=by simpa using hb
    subst e
    exact ⟨_,st,fun v z=>by
      have z':Data.fields _=Data.cell v:=z
      cases z'⟩
  keep:=fun i h h' st k=>k it (by simp) _ st
  item:=by
    intro X hP hw hK hc i pins s σ H E I hf st hg
    subst hP hw hK
    obtain ⟨f0,f1,f2,f3,f4,f5⟩:=hf it (by simp)
    have W:=Walks.range (prog:=X.prog) (w:=X.w) (I.ok.hd hc) it lo 1 n
    refine W.item i s _ _ hg st fun v h' tk hv st' kk=>?_
    obtain ⟨t,rfl⟩:=hv
    have I1:Inv X pins σ H { s with heap:=h',toks:=tk }:=I.turned (fun b o hb e=>kk b o (by simpa using hb) e) f0 f1 f3 f4 f5
    refine ⟨_,rfl,go_of (s:={ s with heap:=h',toks:=tk }) (n:="range_iterator") st' rfl rfl (by decide) ⟨.int (lo+i),H,I1,⟨t,?_⟩,⟨rfl,rfl⟩,st',fun b hb=>(hf b hb).1⟩⟩
    rw [Int.mul_one]
  done:=by
    intro X hP hw hK hc i pins s σ H E I hf st hg
    subst hP hw hK
    obtain ⟨f0,f1,f2,f3,f4,f5⟩:=hf it (by simp)
    exact wpAny_pyNext_range_end (I.ok.hd hc) st (by have:n≤i:=hg;lia) fun h' eb=>⟨rfl,I.turned (t':=s.toks) (fun b o hb e=>eb b o hb e) f0 f1 f3 f4 f5⟩
  self:=fun _ _ _ _ _ st h=>wpAny_pyIter_rangeiter st h
end L2
namespace L2
open PySem PySem.Spec PyProof.Rows
section
variable {X:Cx} {tg:Expr}
def iList (K:PySem.W.Frag) (tl:TE):TI:=fun σ H R=>tl σ H fun x H1=>∃ a,x=.ref a∧(∃ xs,SqL K H1 a xs)∧R (Itl K a) H1
def iTup (K:PySem.W.Frag) (tl:TE):TI:=fun σ H R=>tl σ H fun x H1=>∃ a,x=.ref a∧(∃ xs,SqT K H1 a xs)∧R (Itt K a) H1
theorem pi_list {l:Expr} {tl:TE} (hl:PE X l tl):PI X tg l (iList X.K tl):=by
  intro pins s σ H R I h
  refine thn (hl pins s σ H _ I h) fun v s1 ⟨x,H1,I1,r1,q1⟩=>?_
  obtain ⟨a,e,⟨xs,hq⟩,q⟩:=q1
  subst e
  cases r1
  obtain ⟨its,rv,p,hz⟩:=I1.list hq
  refine wpAny_pyIter_list p.isList ?_
  refine ⟨s1.heap.objs.size,[s1.heap.objs.size],_,_,H1,rfl,I1.kept (t':=s1.toks) fun b o e=>Heap.get?_push_of_some _ e,turn_list a _,⟨_,Heap.get?_push_size _ rfl,rfl,rfl⟩,fun b hb=>?_,q⟩
  have e:b=s1.heap.objs.size:=by simpa using hb
  subst e
  exact I1.fpOk (Nat.le_refl _) (I1.hok.fresh (Nat.le_refl _))
theorem pi_tup {l:Expr} {tl:TE} (hl:PE X l tl):PI X tg l (iTup X.K tl):=by
  intro pins s σ H R I h
  refine thn (hl pins s σ H _ I h) fun v s1 ⟨x,H1,I1,r1,q1⟩=>?_
  obtain ⟨a,e,⟨xs,hq⟩,q⟩:=q1
  subst e
  cases r1
  obtain ⟨its,rv,p,hz⟩:=I1.tuple hq
  refine wpAny_pyIter_tuple (show s1.heap.IsTuple a its.toArray from p) ?_
  refine ⟨s1.heap.objs.size,[s1.heap.objs.size],_,_,H1,rfl,I1.kept (t':=s1.toks) fun b o e=>Heap.get?_push_of_some _ e,turn_tuple a _,⟨_,Heap.get?_push_size _ rfl,rfl,rfl⟩,fun b hb=>?_,q⟩
  have e:b=s1.heap.objs.size:=by simpa using hb
  subst e
  exact I1.fpOk (Nat.le_refl _) (I1.hok.fresh (Nat.le_refl _))
theorem range_it {pins : List (Addr × Obj)} {σ : St} {H : Hp} {s : Shared} {R : It → Hp → Prop} {E : Value → Shared → Prop} {lo hi : Int} {t u v : Tok} {tk : Nat} (I : Inv X pins σ H s) (h1 : -(2 ^ 62) ≤ lo) (h2 : lo < 2 ^ 62) (h3 : -(2 ^ 62) ≤ hi) (h4 : hi < 2 ^ 62)
    (q:R (Itr lo (hi - lo).toNat) H):wpAny (model X.prog X.w) X.A (pyIter (.ref s.heap.objs.size)) (PIE X pins σ tg R) E { s with heap:=s.heap.push { cls:=.type "range",data:=.fields #[.int lo t,.int hi u,.int 1 v] },toks:=tk }:=by
  refine wpAny_pyIter_range (IsRange.new ..) (small_one h1 h2 h3 h4) ?_
  have I1:Inv X pins σ H { s with heap:=s.heap.push { cls:=.type "range",data:=.fields #[.int lo t,.int hi u,.int 1 v] },toks:=tk }:=I.kept fun b o e=>Heap.get?_push_of_some _ e
  refine ⟨(s.heap.push { cls:=.type "range",data:=.fields #[.int lo t,.int hi u,.int 1 v] }).objs.size,[(s.heap.push { cls:=.type "range",data:=.fields #[.int lo t,.int hi u,.int 1 v] }).objs.size],_,_,H,rfl,
    I1.kept (t':=tk) fun b o e=>Heap.get?_push_of_some _ e,turn_range _ lo (hi - lo).toNat,?_,fun b hb=>?_,q⟩
  · have e1:lo+((0:Nat):Int)*1=lo:=by simp
    have e2:(((hi - lo).toNat:Nat):Int) - ((0:Nat):Int)=Builtin.Range.rangeSize lo hi 1:=by rw [rangeSize_one];split <;> lia
    show IsRangeIter _ _ (lo+((0:Nat):Int)*1) ((((hi - lo).toNat:Nat):Int) - ((0:Nat):Int)) 1
    rw [e1,e2]
    exact Heap.get?_push_size _ rfl
  · have e:b=(s.heap.push { cls:=.type "range",data:=.fields #[.int lo t,.int hi u,.int 1 v] }).objs.size:=by simpa using hb
    subst e
    exact I1.fpOk (Nat.le_refl _) (I1.hok.fresh (Nat.le_refl _))
def iRng1 (ta:TA):TI:=fun σ H R=>ta σ H fun vs H1=>∃ j:Int,vs=[.int j]∧-(2 ^ 62)≤j∧j<2 ^ 62∧R (Itr 0 j.toNat) H1
theorem pi_range1 {a:Expr} {ta:TA} {p pos:Pos} (hg:Gl X "range") (hm:X.mg "range" = none) (ha:PA X [a] ta) (hs:starEach [a] X.env=[(false,eval a X.env)]:=by rfl):PI X tg (.Call (.Name "range" p) [a] [] pos) (iRng1 ta):=by
  intro pins s σ H R I h
  refine Call_ (ld_blt I hg hm boot_range (PyProof.Rows.callWith_type1 (thn (ha pos pins s σ H _ I h) fun us s1 ⟨vs,H1,I1,r1,q1⟩=>?_) hs rfl))
  obtain ⟨j,e,q1,q2,q⟩:=q1
  subst e
  cases r1 with
  | cons r rr =>
    cases rr
    obtain ⟨t,rfl⟩:=r
    exact call_range_1 (range_it I1 (by lia) (by lia) q1 q2 (by simpa using q))
def tFor (wi:TI) (g:TG) (tb:TS):TS:=fun D σ H=>wi σ H fun J H1=>∃ W:Nat→Nat→St→Hp→Prop,(∃ m,W 0 m σ H1)∧∀ i m σ H,W i m σ H →
  (J.stop i H∧D.nx σ H)∨(J.go i H∧∃ N:St→Hp→Prop,(∀ σ' H',N σ' H'→∃ m',m'<m∧W (i+1) m' σ' H')∧∀ x H',J.yld i H x H'→g x σ H' fun σ2 H2=>tb { D with nx:=N,ct:=N,bk:=D.nx } σ2 H2)
def pinsAt (fp:List Addr) (h:Heap):List (Addr×Obj):=fp.filterMap fun b=>(h.get? b).map fun o=>(b,o)
theorem mem_pinsAt {fp:List Addr} {h:Heap} {b:Addr} {o:Obj} (hb:b∈fp) (e:h.get? b=some o):(b,o)∈pinsAt fp h:=List.mem_filterMap.mpr ⟨b,hb,by rw [e];rfl⟩
theorem of_pinsAt {fp:List Addr} {h:Heap} {p:Addr×Obj} (hp:p∈pinsAt fp h):p.1∈fp∧h.get? p.1=some p.2:=by
  obtain ⟨b,hb,e⟩:=List.mem_filterMap.mp hp
  cases q:h.get? b with
  | none=>rw [q] at e;cases e
  | some o =>
    rw [q] at e
    have e':(b,o)=p:=Option.some.inj e
    subst e'
    exact ⟨hb,q⟩
theorem Inv.pinned {pins:List (Addr×Obj)} {σ:St} {H:Hp} {s:Shared} {fp:List Addr} (I:Inv X pins σ H s) (hf:∀ b∈fp,FpOk X pins H b) (ho:∀ b∈fp,∃ o,s.heap.get? b=some o∧∀ v,o.data≠.cell v):Inv X (pins++pinsAt fp s.heap) σ H s :=
  I.pins_of fun p hp=>(List.mem_append.mp hp).elim (fun z=>I.pin p (List.mem_append_right _ z)) fun z=>by
    obtain ⟨hb,e⟩:=of_pinsAt z
    obtain ⟨f0,f1,f2,_⟩:=hf p.1 hb
    obtain ⟨o,e',d⟩:=ho p.1 hb
    rw [e] at e';cases e'
    exact ⟨e,f0,f1,f2,d⟩
theorem Inv.unpinned {pins pl:List (Addr×Obj)} {σ:St} {H:Hp} {s:Shared} (I:Inv X (pins++pl) σ H s):Inv X pins σ H s:=I.pins_of fun p hp=>I.pin p (List.mem_append_right _ (List.mem_append_left _ hp))
theorem ps_for {iter : Expr} {body : List Stmt} {wi : TI} {g : TG} {tb : TS} {pos : Pos} (hp : PassesOwn (model X.prog X.w) X.A X.env X.xe) (hc : X.calm = true) (hi : PI X tg iter wi) (hg : PG X tg g) (hb : PSs X body tb)
    (hs:∀ x,foldedSetIterable iter X.env x=pure x:=by intro _;rfl):PS X (.For tg iter body [] pos) (tFor wi g tb):=by
  intro pins s σ H D I h
  refine wpAny_For (thn (hi pins s σ H _ I h) fun v s1 h1=>thn h1 fun itv s2 h2=>?_) hs
  obtain ⟨it,fp,tn,J,H2,e,I2,T,st2,f2,W,⟨m0,w0⟩,turn⟩:=h2
  subst e
  have stat:∀ {H':Hp},(∀ b∈fp,H' b=none)→∀ b∈fp,FpOk X pins H' b:=fun hn b hb=>⟨hn b hb,(f2 b hb).2⟩
  refine codeAny_forLoop_any (fun n s'=>∃ i σ' H',Inv X pins σ' H' s'∧tn i s'.heap∧(∀ b∈fp,H' b=none)∧W i n σ' H') ?_ m0 ⟨0,σ,H2,I2,st2,fun b hb=>(f2 b hb).1,w0⟩
  rintro n s3 ⟨i,σ3,H3,I3,st3,fr3,w3⟩
  rcases turn i n σ3 H3 w3 with ⟨stop,qn⟩ | ⟨go,N,hN,step⟩
  · refine wpAny_passesOwn hp (thn (T.done X rfl rfl rfl hc i pins s3 σ3 H3 X.xe I3 (stat fr3) st3 stop) fun r s4 ⟨hr,I4⟩=>?_)
    subst hr
    exact wpAny_execs_nil ⟨σ3,H3,I4,qn⟩
  · refine wpAny_passesOwn hp (thn (T.item X rfl rfl rfl hc i pins s3 σ3 H3 X.xe I3 (stat fr3) st3 go) fun r s4 ⟨u,hr,h4⟩=>?_)
    subst hr
    refine wpAny_passesOwn hp (thn h4 fun _ s5 ⟨x,H5,I5,r5,y5,st5,fr5⟩=>?_)
    have I5':=I5.pinned (stat fr5) (T.obj _ _ st5)
    refine wpAny_passesOwn hp (thn (hg _ s5 σ3 H5 x u _ I5' r5 (step x H5 y5)) fun _ s6 ⟨σ6,H6,I6,q6⟩=>?_)
    refine wpAny_passesOwn hp (thn (hb _ s6 σ6 H6 _ I6 q6) fun f s7 q7=>?_)
    have again:∀ {σ7:St} {H7:Hp},Inv X (pins++pinsAt fp s5.heap) σ7 H7 s7→N σ7 H7→∃ m,m<n∧∃ i σ' H',Inv X pins σ' H' s7∧tn i s7.heap∧(∀ b∈fp,H' b=none)∧W i m σ' H':=fun {σ7 H7} I7 n7=>by
      obtain ⟨m',hm,w7⟩:=hN σ7 H7 n7
      refine ⟨m',hm,i+1,σ7,H7,I7.unpinned,T.keep _ _ _ st5 fun b hb o e=>(I7.pin (b,o) (List.mem_append_right _ (List.mem_append_right _ (mem_pinsAt hb e)))).1,fun b hb=>?_,w7⟩
      obtain ⟨o,e,d⟩:=T.obj _ _ st5 b hb
      exact (I7.pin (b,o) (List.mem_append_right _ (List.mem_append_right _ (mem_pinsAt hb e)))).2.1
    cases f with
    | next=>obtain ⟨σ7,H7,I7,n7⟩:=q7;exact again I7 n7
    | cont=>obtain ⟨σ7,H7,I7,n7⟩:=q7;exact again I7 n7
    | brk=>obtain ⟨σ7,H7,I7,q7⟩:=q7;exact ⟨σ7,H7,I7.unpinned,q7⟩
    | ret v=>obtain ⟨x7,σ7,H7,I7,r7,q7⟩:=q7;exact ⟨x7,σ7,H7,I7.unpinned,r7,q7⟩
end
theorem for_list {K : PySem.W.Frag} {a : Addr} {xs : List V} {g : TG} {tb : TS} {D : Ends} {σ : St} {H : Hp} (Pv : Nat → St → Hp → Prop) (h0 : Pv 0 σ H) (hl : ∀ i σ H, i ≤ xs.length → Pv i σ H → SqL K H a xs)
    (hs:∀ i x σ H,xs[i]?=some x→Pv i σ H→g x σ H fun σ2 H2=>tb { D with nx:=Pv (i+1),ct:=Pv (i+1),bk:=D.nx } σ2 H2) (hd:∀ σ H,Pv xs.length σ H→D.nx σ H) :
    ∃ W:Nat→Nat→St→Hp→Prop,(∃ m,W 0 m σ H)∧∀ i m σ H,W i m σ H →
      ((Itl K a).stop i H∧D.nx σ H)∨((Itl K a).go i H∧∃ N:St→Hp→Prop,(∀ σ' H',N σ' H'→∃ m',m'<m∧W (i+1) m' σ' H')∧∀ x H',(Itl K a).yld i H x H'→g x σ H' fun σ2 H2=>tb { D with nx:=N,ct:=N,bk:=D.nx } σ2 H2):=by
  refine ⟨fun i m σ H=>m=xs.length - i∧i≤xs.length∧Pv i σ H,⟨xs.length,by simp,Nat.zero_le _,h0⟩,?_⟩
  rintro i m σ H ⟨rfl,hi,p⟩
  have q:=hl i σ H hi p
  by_cases hlt:i<xs.length
  · refine .inr ⟨⟨xs,xs[i],q,by simp [hlt]⟩,Pv (i+1),fun σ' H' p'=>⟨xs.length - (i+1),by lia,rfl,hlt,p'⟩,fun x H' y=>?_⟩
    obtain ⟨e,y⟩:=y
    subst e
    exact hs i x σ _ (y xs q) p
  · have e:i=xs.length:=by lia
    subst e
    exact .inl ⟨⟨xs,q,Nat.le_refl _⟩,hd σ H p⟩
theorem for_tup {K : PySem.W.Frag} {a : Addr} {xs : List V} {g : TG} {tb : TS} {D : Ends} {σ : St} {H : Hp} (Pv : Nat → St → Hp → Prop) (h0 : Pv 0 σ H) (hl : ∀ i σ H, i ≤ xs.length → Pv i σ H → SqT K H a xs)
    (hs:∀ i x σ H,xs[i]?=some x→Pv i σ H→g x σ H fun σ2 H2=>tb { D with nx:=Pv (i+1),ct:=Pv (i+1),bk:=D.nx } σ2 H2) (hd:∀ σ H,Pv xs.length σ H→D.nx σ H) :
    ∃ W:Nat→Nat→St→Hp→Prop,(∃ m,W 0 m σ H)∧∀ i m σ H,W i m σ H →
      ((Itt K a).stop i H∧D.nx σ H)∨((Itt K a).go i H∧∃ N:St→Hp→Prop,(∀ σ' H',N σ' H'→∃ m',m'<m∧W (i+1) m' σ' H')∧∀ x H',(Itt K a).yld i H x H'→g x σ H' fun σ2 H2=>tb { D with nx:=N,ct:=N,bk:=D.nx } σ2 H2):=by
  refine ⟨fun i m σ H=>m=xs.length - i∧i≤xs.length∧Pv i σ H,⟨xs.length,by simp,Nat.zero_le _,h0⟩,?_⟩
  rintro i m σ H ⟨rfl,hi,p⟩
  have q:=hl i σ H hi p
  by_cases hlt:i<xs.length
  · refine .inr ⟨⟨xs,xs[i],q,by simp [hlt]⟩,Pv (i+1),fun σ' H' p'=>⟨xs.length - (i+1),by lia,rfl,hlt,p'⟩,fun x H' y=>?_⟩
    obtain ⟨e,y⟩:=y
    subst e
    exact hs i x σ _ (y xs q) p
  · have e:i=xs.length:=by lia
    subst e
    exact .inl ⟨⟨xs,q,Nat.le_refl _⟩,hd σ H p⟩
theorem for_range {lo : Int} {n : Nat} {g : TG} {tb : TS} {D : Ends} {σ : St} {H : Hp} (Pv : Nat → St → Hp → Prop) (h0 : Pv 0 σ H)
    (hs:∀ i σ H,i<n→Pv i σ H→g (.int (lo+i)) σ H fun σ2 H2=>tb { D with nx:=Pv (i+1),ct:=Pv (i+1),bk:=D.nx } σ2 H2) (hd:∀ σ H,Pv n σ H→D.nx σ H) :
    ∃ W:Nat→Nat→St→Hp→Prop,(∃ m,W 0 m σ H)∧∀ i m σ H,W i m σ H →
      ((Itr lo n).stop i H∧D.nx σ H)∨((Itr lo n).go i H∧∃ N:St→Hp→Prop,(∀ σ' H',N σ' H'→∃ m',m'<m∧W (i+1) m' σ' H')∧∀ x H',(Itr lo n).yld i H x H'→g x σ H' fun σ2 H2=>tb { D with nx:=N,ct:=N,bk:=D.nx } σ2 H2):=by
  refine ⟨fun i m σ H=>m=n - i∧i≤n∧Pv i σ H,⟨n,by simp,Nat.zero_le _,h0⟩,?_⟩
  rintro i m σ H ⟨rfl,hi,p⟩
  by_cases hlt:i<n
  · refine .inr ⟨hlt,Pv (i+1),fun σ' H' p'=>⟨n - (i+1),by lia,rfl,hlt,p'⟩,fun x H' y=>?_⟩
    obtain ⟨e,y⟩:=y
    subst e y
    exact hs i σ _ hlt p
  · have e:i=n:=by lia
    subst e
    exact .inl ⟨Nat.le_refl _,hd σ H p⟩
theorem while_by {c : TT} {tb : TS} {D : Ends} {σ : St} {H : Hp} (Pv : St → Hp → Prop) (μ : St → Hp → Nat) (h0 : Pv σ H)
    (hs:∀ σ H,Pv σ H→c σ H fun b H1=>if b=true then tb { D with nx:=fun σ' H'=>Pv σ' H'∧μ σ' H'<μ σ H,ct:=fun σ' H'=>Pv σ' H'∧μ σ' H'<μ σ H,bk:=D.nx } σ H1 else D.nx σ H1)
    (mono:∀ σ H Q Q',(∀ b H1,Q b H1→Q' b H1)→c σ H Q→c σ H Q'):tWhile c tb D σ H:=by
  refine ⟨fun m σ H=>m=μ σ H∧Pv σ H,⟨_,rfl,h0⟩,?_⟩
  rintro m σ H ⟨rfl,p⟩
  refine mono σ H _ _ (fun b H1 q=>?_) (hs σ H p)
  cases b with
  | true=>exact ⟨_,fun σ' H' ⟨p',l⟩=>⟨_,l,rfl,p'⟩,q⟩
  | false=>exact q
end L2
namespace L2
open PySem PySem.Spec PyProof.Rows
abbrev R2:=V→V→Hp→VK→Prop
def OpR (X:Cx) (f:Value→Value→Sem Value) (r:R2):Prop :=
  ∀ (pins:List (Addr×Obj)) (s:Shared) (σ:St) (H:Hp) (x y:V) (v u:Value) (Q:VK),Inv X pins σ H s→RelV x v→RelV y u→r x y H Q →
    wpAny (model X.prog X.w) X.A (f v u) (EP X pins σ Q) X.xe s
def UnR (X:Cx) (f:Value→Sem Value) (r:V→Hp→VK→Prop):Prop :=
  ∀ (pins:List (Addr×Obj)) (s:Shared) (σ:St) (H:Hp) (x:V) (v:Value) (Q:VK),Inv X pins σ H s→RelV x v→r x H Q →
    wpAny (model X.prog X.w) X.A (f v) (EP X pins σ Q) X.xe s
def CallR (X:Cx) (f:Value) (r:List V→Hp→VK→Prop):Prop :=
  ∀ (pins:List (Addr×Obj)) (s:Shared) (σ:St) (H:Hp) (xs:List V) (us:List Value) (Q:VK),Inv X pins σ H s→Vals xs us→r xs H Q →
    wpAny (model X.prog X.w) X.A (call f us) (EP X pins σ Q) X.xe s
def TruR (X:Cx) (r:V→Hp→(Bool→Hp→Prop)→Prop):Prop :=
  ∀ (pins:List (Addr×Obj)) (s:Shared) (σ:St) (H:Hp) (x:V) (v:Value) (Q:Bool→Hp→Prop),Inv X pins σ H s→RelV x v→r x H Q →
    wpAny (model X.prog X.w) X.A (truthy v) (TP X pins σ Q) X.xe s
def tOp (r:R2) (ta tb:TE):TE:=fun σ H Q=>ta σ H fun x H1=>tb σ H1 fun y H2=>r x y H2 Q
def tUn (r:V→Hp→VK→Prop) (ta:TE):TE:=fun σ H Q=>ta σ H fun x H1=>r x H1 Q
def rI (C:Int→Int→Prop) (g:Int→Int→V):R2:=fun x y H Q=>∃ i j,x=.int i∧y=.int j∧C i j∧Q (g i j) H
def rI0 (g:Int→Int→V):R2:=fun x y H Q=>∃ i j,x=.int i∧y=.int j∧Q (g i j) H
def rU (g:Int→V):V→Hp→VK→Prop:=fun x H Q=>∃ i,x=.int i∧Q (g i) H
section
variable {X:Cx} {a b c:Expr} {ta tb tc:TE} {pos:Pos}
theorem binT (ha : PE X a ta) (hb : PE X b tb) {pins : List (Addr × Obj)} {s : Shared} {σ : St} {H : Hp} {R : V → V → Hp → Prop} (I : Inv X pins σ H s)
    (h:ta σ H fun x H1=>tb σ H1 fun y H2=>R x y H2) {Q:Value→Shared→Prop} {f:Value→Value→Sem Value}
    (hf:∀ v u s2 x y H2,Inv X pins σ H2 s2→RelV x v→RelV y u→R x y H2→wpAny (model X.prog X.w) X.A (f v u) Q X.xe s2) :
    wpAny (model X.prog X.w) X.A (eval a X.env) (fun v s₁=>wpAny (model X.prog X.w) X.A (eval b X.env) (fun u s₂=>wpAny (model X.prog X.w) X.A (f v u) Q X.xe s₂) X.xe s₁) X.xe s:=by
  refine thn (ha pins s σ H _ I h) fun v s1 ⟨x,H1,I1,r1,q1⟩=>?_
  refine thn (hb pins s1 σ H1 _ I1 q1) fun u s2 ⟨y,H2,I2,r2,q2⟩=>?_
  exact hf v u s2 x y H2 I2 r1 r2 q2
theorem pe_op {op:Operator} {r:R2} (ho:OpR X (binaryOp op) r) (ha:PE X a ta) (hb:PE X b tb):PE X (.BinOp a op b pos) (tOp r ta tb):=by
  intro pins s σ H Q I h
  exact wpAny_BinOp (binT ha hb I h fun v u s2 x y H2 I2 rx ry q=>ho pins s2 σ H2 x y v u Q I2 rx ry q)
theorem pe_un {op:UnaryOp} {r:V→Hp→VK→Prop} (ho:UnR X (unaryOp op) r) (ha:PE X a ta):PE X (.UnaryOp op a pos) (tUn r ta):=by
  intro pins s σ H Q I h
  exact UnaryOp_ (thn (ha pins s σ H _ I h) fun v s1 ⟨x,H1,I1,r1,q1⟩=>ho pins s1 σ H1 x v Q I1 r1 q1)
theorem opI {f : Value → Value → Sem Value} {C : Int → Int → Prop} {g : Int → Int → Int}
    (rule:∀ (i j:Int) (t u:Tok) (s:Shared) (Q:Value→Shared→Prop) (E:Value→Shared→Prop),C i j→Q (.int (g i j) s.toks) { s with toks:=s.toks+1 }→wpAny (model X.prog X.w) X.A (f (.int i t) (.int j u)) Q E s) :
    OpR X f (rI C fun i j=>.int (g i j)):=by
  intro pins s σ H x y v u Q I rx ry h
  obtain ⟨i,j,rfl,rfl,hc,q⟩:=h
  obtain ⟨t,rfl⟩:=rx
  obtain ⟨t',rfl⟩:=ry
  exact rule i j t t' s _ _ hc ⟨.int (g i j),H,I.tok _,⟨_,rfl⟩,q⟩
theorem opI0 {f : Value → Value → Sem Value} {g : Int → Int → Int}
    (rule:∀ (i j:Int) (t u:Tok) (s:Shared) (Q:Value→Shared→Prop) (E:Value→Shared→Prop),Q (.int (g i j) s.toks) { s with toks:=s.toks+1 }→wpAny (model X.prog X.w) X.A (f (.int i t) (.int j u)) Q E s) :
    OpR X f (rI0 fun i j=>.int (g i j)):=by
  intro pins s σ H x y v u Q I rx ry h
  obtain ⟨i,j,rfl,rfl,q⟩:=h
  obtain ⟨t,rfl⟩:=rx
  obtain ⟨t',rfl⟩:=ry
  exact rule i j t t' s _ _ ⟨.int (g i j),H,I.tok _,⟨_,rfl⟩,q⟩
theorem opB0 {f : Value → Value → Sem Value} {g : Int → Int → Bool}
    (rule:∀ (i j:Int) (t u:Tok) (s:Shared) (Q:Value→Shared→Prop) (E:Value→Shared→Prop),Q (.bool (g i j)) s→wpAny (model X.prog X.w) X.A (f (.int i t) (.int j u)) Q E s) :
    OpR X f (rI0 fun i j=>.bl (g i j)):=by
  intro pins s σ H x y v u Q I rx ry h
  obtain ⟨i,j,rfl,rfl,q⟩:=h
  obtain ⟨t,rfl⟩:=rx
  obtain ⟨t',rfl⟩:=ry
  exact rule i j t t' s _ _ ⟨.bl (g i j),H,I,rfl,q⟩
def CDiv (i j:Int):Prop:=0<j∧j<1073741824
def CPow (i j:Int):Prop:=0≤j∧j≤1000000∧i.natAbs<2 ^ 64
def CMul (i j:Int):Prop:=(-(2 ^ 64)<i∧i<2 ^ 64)∨(-(2 ^ 64)<j∧j<2 ^ 64)
theorem CMul.ok {i j:Int} (h:CMul i j):IntMulOk i j:=by
  rcases h with ⟨h1,h2⟩ | ⟨h1,h2⟩
  · exact .of_left (intBits_le_64 h1 h2)
  · exact .of_right (intBits_le_64 h1 h2)
theorem op_add:OpR X (binaryOp .Add) (rI0 fun i j=>.int (i+j)):=opI0 fun _ _ _ _ _ _ _ q=>add_int q
theorem op_sub:OpR X (binaryOp .Sub) (rI0 fun i j=>.int (i - j)):=opI0 fun _ _ _ _ _ _ _ q=>sub_int q
theorem op_mul:OpR X (binaryOp .Mult) (rI CMul fun i j=>.int (i*j)):=opI fun _ _ _ _ _ _ _ hc q=>mul_int q hc.ok
theorem op_fdiv:OpR X (binaryOp .FloorDiv) (rI CDiv fun i j=>.int (i / j)):=opI fun i j _ _ _ _ _ hc q=>by
  have h1:(0:Int)<j:=hc.1
  have h2:j<1073741824:=hc.2
  exact floordiv_int (by lia) (by rw [Int.fdiv_eq_ediv_of_nonneg i (by lia)];exact q) (.inl (PyProof.noPylong_small (by lia)))
theorem op_mod:OpR X (binaryOp .Mod) (rI (fun _ j=>0<j) fun i j=>.int (i % j)):=opI fun i j _ _ _ _ _ hc q=>by
  have h1:(0:Int)<j:=hc
  exact mod_int' (by lia) (by rw [Int.fmod_eq_emod_of_nonneg i (by lia)];exact q)
theorem op_pow:OpR X (binaryOp .Pow) (rI CPow fun i j=>.int (i ^ j.toNat)):=opI fun _ _ _ _ _ _ _ hc q=>pow_int_small hc.1 hc.2.1 hc.2.2 q
theorem unI {f : Value → Sem Value} {g : Int → Int}
    (rule:∀ (i:Int) (t:Tok) (s:Shared) (Q:Value→Shared→Prop) (E:Value→Shared→Prop),Q (.int (g i) s.toks) { s with toks:=s.toks+1 }→wpAny (model X.prog X.w) X.A (f (.int i t)) Q E s) :
    UnR X f (rU fun i=>.int (g i)):=by
  intro pins s σ H x v Q I rx h
  obtain ⟨i,rfl,q⟩:=h
  obtain ⟨t,rfl⟩:=rx
  exact rule i t s _ _ ⟨.int (g i),H,I.tok _,⟨_,rfl⟩,q⟩
theorem un_neg:UnR X (unaryOp .USub) (rU fun i=>.int (-i)):=unI fun _ _ _ _ _ q=>neg_int q
end
def scal:V→V→Bool
  | .non,.non=>true | .non,.int _=>true | .int _,.non=>true | .non,.bl _=>true | .bl _,.non=>true | .non,.str _=>true | .str _,.non=>true
  | .int _,.int _=>true | .bl _,.bl _=>true | .str _,.str _=>true | .byt _,.byt _=>true
  | .int _,.str _=>true | .str _,.int _=>true | .bl _,.str _=>true | .str _,.bl _=>true
  | _,_=>false
def rEq:R2:=fun x y H Q=>scal x y=true∧Q (.bl (decide (x=y))) H
def rNe:R2:=fun x y H Q=>scal x y=true∧Q (.bl (!decide (x=y))) H
theorem dec_int {i j:Int}:decide (V.int i=V.int j)=(i == j):=by
  rw [Bool.eq_iff_iff]
  simp
theorem dec_bl {i j:Bool}:decide (V.bl i=V.bl j)=(i == j):=by
  rw [Bool.eq_iff_iff]
  simp
theorem dec_str {i j:Str}:decide (V.str i=V.str j)=(i == j):=by
  rw [Bool.eq_iff_iff]
  simp
theorem dec_byt {i j:Array UInt8}:decide (V.byt i=V.byt j)=(i.toList == j.toList):=by
  rw [Bool.eq_iff_iff]
  cases i
  cases j
  simp
section
variable {X:Cx} {a b c:Expr} {ta tb tc:TE} {pos:Pos}
theorem fin_bl {pins:List (Addr×Obj)} {σ:St} {H:Hp} {s:Shared} {Q:VK} {k k':Bool} (I:Inv X pins σ H s) (q:Q (.bl k) H) (e:k=k'):EP X pins σ Q (.bool k') s:=by
  subst e
  exact ⟨.bl k,H,I,rfl,q⟩
theorem op_eq:OpR X (compareOp .Eq) rEq:=by
  intro pins s σ H x y v u Q I rx ry h
  obtain ⟨hs,q⟩:=h
  cases x with
  | non =>
    cases rx
    cases y with
    | non=>cases ry;exact PySem.EqNone.eq_none_none (fin_bl I q (by simp))
    | bl j=>cases ry;exact PySem.EqNone.eq_none_bool (fin_bl I q (by simp))
    | int j=>obtain ⟨t',rfl⟩:=ry;exact PySem.EqNone.eq_none_int (fin_bl I q (by simp))
    | str j=>obtain ⟨t',rfl⟩:=ry;exact PySem.EqNone.eq_none_str (fin_bl I q (by simp))
    | _=>exact absurd (show false=true from hs) Bool.false_ne_true
  | bl i =>
    cases rx
    cases y with
    | non=>cases ry;exact PySem.EqNone.eq_bool_none (fin_bl I q (by simp))
    | bl j=>cases ry;exact eq_bool (fin_bl I q dec_bl)
    | str j=>obtain ⟨t',rfl⟩:=ry;exact PySem.EqMixed.eq_bool_str (fin_bl I q (by simp))
    | _=>exact absurd (show false=true from hs) Bool.false_ne_true
  | int i =>
    obtain ⟨t,rfl⟩:=rx
    cases y with
    | non=>cases ry;exact PySem.EqNone.eq_int_none (fin_bl I q (by simp))
    | int j=>obtain ⟨t',rfl⟩:=ry;exact eq_int (fin_bl I q dec_int)
    | str j=>obtain ⟨t',rfl⟩:=ry;exact PySem.EqMixed.eq_int_str (fin_bl I q (by simp))
    | _=>exact absurd (show false=true from hs) Bool.false_ne_true
  | str i =>
    obtain ⟨t,rfl⟩:=rx
    cases y with
    | non=>cases ry;exact PySem.EqNone.eq_str_none (fin_bl I q (by simp))
    | bl j=>cases ry;exact PySem.EqMixed.eq_str_bool (fin_bl I q (by simp))
    | int j=>obtain ⟨t',rfl⟩:=ry;exact PySem.EqMixed.eq_str_int (fin_bl I q (by simp))
    | str j=>obtain ⟨t',rfl⟩:=ry;exact eq_str (fin_bl I q dec_str)
    | _=>exact absurd (show false=true from hs) Bool.false_ne_true
  | byt i =>
    obtain ⟨t,rfl⟩:=rx
    cases y with
    | byt j=>obtain ⟨t',rfl⟩:=ry;exact PySem.W.eq_bytes (fin_bl I q dec_byt)
    | _=>exact absurd (show false=true from hs) Bool.false_ne_true
  | _=>cases y <;> exact absurd (show false=true from hs) Bool.false_ne_true
theorem op_ne:OpR X (compareOp .NotEq) rNe:=by
  intro pins s σ H x y v u Q I rx ry h
  obtain ⟨hs,q⟩:=h
  cases x with
  | non =>
    cases rx
    cases y with
    | non=>cases ry;exact PySem.EqNone.ne_none_none (fin_bl I q (by simp))
    | bl j=>cases ry;exact PySem.EqNone.ne_none_bool (fin_bl I q (by simp))
    | int j=>obtain ⟨t',rfl⟩:=ry;exact PySem.EqNone.ne_none_int (fin_bl I q (by simp))
    | str j=>obtain ⟨t',rfl⟩:=ry;exact PySem.EqNone.ne_none_str (fin_bl I q (by simp))
    | _=>exact absurd (show false=true from hs) Bool.false_ne_true
  | bl i =>
    cases rx
    cases y with
    | non=>cases ry;exact PySem.EqNone.ne_bool_none (fin_bl I q (by simp))
    | bl j=>cases ry;exact ne_bool (fin_bl I q (congrArg not dec_bl))
    | str j=>obtain ⟨t',rfl⟩:=ry;exact PySem.EqMixed.ne_bool_str (fin_bl I q (by simp))
    | _=>exact absurd (show false=true from hs) Bool.false_ne_true
  | int i =>
    obtain ⟨t,rfl⟩:=rx
    cases y with
    | non=>cases ry;exact PySem.EqNone.ne_int_none (fin_bl I q (by simp))
    | int j=>obtain ⟨t',rfl⟩:=ry;exact ne_int (fin_bl I q (congrArg not dec_int))
    | str j=>obtain ⟨t',rfl⟩:=ry;exact PySem.EqMixed.ne_int_str (fin_bl I q (by simp))
    | _=>exact absurd (show false=true from hs) Bool.false_ne_true
  | str i =>
    obtain ⟨t,rfl⟩:=rx
    cases y with
    | non=>cases ry;exact PySem.EqNone.ne_str_none (fin_bl I q (by simp))
    | bl j=>cases ry;exact PySem.EqMixed.ne_str_bool (fin_bl I q (by simp))
    | int j=>obtain ⟨t',rfl⟩:=ry;exact PySem.EqMixed.ne_str_int (fin_bl I q (by simp))
    | str j=>obtain ⟨t',rfl⟩:=ry;exact ne_str (fin_bl I q (congrArg not dec_str))
    | _=>exact absurd (show false=true from hs) Bool.false_ne_true
  | byt i =>
    obtain ⟨t,rfl⟩:=rx
    cases y with
    | byt j=>obtain ⟨t',rfl⟩:=ry;exact PySem.W.ne_bytes (fin_bl I q (congrArg not dec_byt))
    | _=>exact absurd (show false=true from hs) Bool.false_ne_true
  | _=>cases y <;> exact absurd (show false=true from hs) Bool.false_ne_true
theorem op_lt:OpR X (compareOp .Lt) (rI0 fun i j=>.bl (decide (i<j))):=opB0 fun _ _ _ _ _ _ _ q=>lt_int q
theorem op_le:OpR X (compareOp .LtE) (rI0 fun i j=>.bl (decide (i≤j))):=opB0 fun _ _ _ _ _ _ _ q=>le_int q
theorem op_gt:OpR X (compareOp .Gt) (rI0 fun i j=>.bl (decide (j<i))):=opB0 fun _ _ _ _ _ _ _ q=>gt_int q
theorem op_ge:OpR X (compareOp .GtE) (rI0 fun i j=>.bl (decide (j≤i))):=opB0 fun _ _ _ _ _ _ _ q=>ge_int q
theorem op_notN:OpR X (compareOp .IsNot) (fun x y H Q=>y=.non∧Q (.bl (!decide (x=.non))) H):=by
  intro pins s σ H x y v u Q I rx ry h
  obtain ⟨rfl,q⟩:=h
  cases ry
  refine isnot_none_gen (fin_bl I q ?_)
  cases x <;> first
    | (cases rx;rfl)
    | (obtain ⟨t,rfl⟩:=rx;rfl)
theorem nomark (b:Expr) {op:CmpOp} (h:op≠.In:=by decide) (h2:op≠.NotIn:=by decide):behindInMarks op b=false:=by
  have e1:(op == CmpOp.In)=false:=by cases op <;> first | rfl | exact absurd rfl h
  have e2:(op == CmpOp.NotIn)=false:=by cases op <;> first | rfl | exact absurd rfl h2
  cases b <;> simp [behindInMarks,e1,e2]
theorem pe_cmpR {op:CmpOp} {r:R2} (ho:OpR X (compareOp op) r) (ha:PE X a ta) (hb:PE X b tb) (hm:behindInMarks op b=false):PE X (.Compare a [op] [b] pos) (tOp r ta tb):=by
  intro pins s σ H Q I h
  exact wpAny_Compare1 (binT ha hb I h fun v u s2 x y H2 I2 rx ry q=>ho pins s2 σ H2 x y v u Q I2 rx ry q) hm
def tTest (t:TE):TT:=fun σ H Q=>t σ H fun x H'=>∃ k,x=.bl k∧Q k H'
theorem pt_cmpR {op:CmpOp} {r:R2} (ho:OpR X (compareOp op) r) (ha:PE X a ta) (hb:PE X b tb) (hm:behindInMarks op b=false):PT X (.Compare a [op] [b] pos) (tTest (tOp r ta tb)):=by
  intro pins s σ H Q I h
  refine wpAny_isTrue_Compare1 (thn (ha pins s σ H _ I h) fun v s1 ⟨x,H1,I1,r1,q1⟩=>thn (hb pins s1 σ H1 _ I1 q1) fun u s2 ⟨y,H2,I2,r2,q2⟩ =>
    thn (ho pins s2 σ H2 x y v u _ I2 r1 r2 q2) fun c s3 ⟨z,H3,I3,r3,k,e,q3⟩=>?_) hm
  subst e
  cases r3
  exact wpAny_truthy_bool ⟨H3,I3,q3⟩
def TruV (K:PySem.W.Frag) (x:V) (H:Hp) (k:Bool):Prop :=
  match x with
  | .non=>k=false
  | .bl b=>k=b
  | .int i=>k=(i != 0)
  | .str y=>y.length≤sizeLine∧k=((y.length:Int) != 0)
  | .byt y=>y.size≤sizeLine∧k=((y.size:Int) != 0)
  | .ref p=>(∃ xs,SqL K H p xs∧k=!xs.isEmpty)∨(∃ xs,SqT K H p xs∧k=!xs.isEmpty)∨∃ kvs,H p=some (.dK kvs)∧k=!kvs.isEmpty
  | _=>False
theorem isEmpty_kv {κ:Type} {kvs:List (κ×V)} {vs:List (κ×Value)} (r:KV kvs vs):(!vs.isEmpty)=!kvs.isEmpty:=by
  cases r <;> rfl
theorem isEmpty_of {xs:List V} {its:List Value} (r:Vals xs its):(!its.toArray.isEmpty)=!xs.isEmpty:=by
  cases r <;> simp
theorem line63:(sizeLine:Nat)<2 ^ 63:=by rw [sizeLine_eq];decide
theorem tru_ok:TruR X (fun x H Q=>∃ k,TruV X.K x H k∧Q k H):=by
  intro pins s σ H x v Q I rx h
  obtain ⟨k,e,q⟩:=h
  have hl:=line63
  have hs:sizeLine=16777216:=sizeLine_eq
  cases x with
  | non =>
    cases rx
    have e':k=false:=e
    subst e'
    exact truthy_none ⟨H,I,q⟩
  | bl b =>
    cases rx
    have e':k=b:=e
    subst e'
    exact wpAny_truthy_bool ⟨H,I,q⟩
  | int i =>
    obtain ⟨t,rfl⟩:=rx
    have e':k=(i != 0):=e
    subst e'
    exact PySem.P.truthy_int ⟨H,I,q⟩
  | str y =>
    obtain ⟨t,rfl⟩:=rx
    obtain ⟨hy,e'⟩:y.length≤sizeLine∧k=((y.length:Int) != 0):=e
    subst e'
    exact PySem.P.truthy_str (by lia) ⟨H,I.tok _,q⟩
  | byt y =>
    obtain ⟨t,rfl⟩:=rx
    obtain ⟨hy,e'⟩:y.size≤sizeLine∧k=((y.size:Int) != 0):=e
    subst e'
    exact PySem.W.truthy_bytes (by lia) ⟨H,I.tok _,q⟩
  | ref p =>
    cases rx
    have e':(∃ xs,SqL X.K H p xs∧k=!xs.isEmpty)∨(∃ xs,SqT X.K H p xs∧k=!xs.isEmpty)∨∃ kvs,H p=some (.dK kvs)∧k=!kvs.isEmpty:=e
    rcases e' with ⟨xs,hx,e'⟩ | ⟨xs,hx,e'⟩ | ⟨kvs,hx,e'⟩
    · subst e'
      obtain ⟨its,r,pl,hz⟩:=I.list hx
      have hlen:=r.length
      exact wpAny_truthy_list pl.isList (by simp only [List.size_toArray];lia) ⟨H,I.tok _,by rw [isEmpty_of r];exact q⟩
    · subst e'
      obtain ⟨its,r,pl,hz⟩:=I.tuple hx
      have hlen:=r.length
      exact truthy_tuple pl (by simp only [List.size_toArray];lia) ⟨H,I.tok _,by rw [isEmpty_of r];exact q⟩
    · subst e'
      obtain ⟨hz,hS,vs,r,m⟩:kvs.length≤sizeLine∧(p == sysModules)=false∧∃ vs,KV kvs vs∧s.heap.DictOf (mixKind X.prog X.w) p vs:=I.hok p _ hx
      have hlen:kvs.length=vs.length:=Paired.length r
      exact wpAny_truthy_dict hS m (by lia) ⟨H,I.tok _,by rw [isEmpty_kv r];exact q⟩
  | _=>exact (show False from e).elim
theorem pt_truth (ha : PE X a ta) (he : ∀ whole, isTrue a X.env whole = (do let v ← whole; standAt a.pos; holding [v] (truthy v))) :
    PT X a (fun σ H Q=>ta σ H fun x H'=>∃ k,TruV X.K x H' k∧Q k H'):=by
  intro pins s σ H Q I h
  exact isTrue_plain (thn (ha pins s σ H _ I h) fun v s1 ⟨x,H1,I1,r1,q1⟩=>tru_ok pins s1 σ H1 x v Q I1 r1 q1) (he _)
theorem vals1 {x:V} {us:List Value} (r:Vals [x] us):∃ u,us=[u]∧RelV x u:=by
  cases r with
  | cons r1 r2=>cases r2;exact ⟨_,rfl,r1⟩
theorem vals2 {x y:V} {us:List Value} (r:Vals [x,y] us):∃ u w',us=[u,w']∧RelV x u∧RelV y w':=by
  cases r with
  | cons r1 r2 =>
    cases r2 with
    | cons r3 r4=>cases r4;exact ⟨_,_,rfl,r1,r3⟩
theorem call_int1:CallR X (.type "int") (fun xs H Q=>(∃ i,xs=[.int i]∧Q (.int i) H)∨∃ k,xs=[.bl k]∧Q (.int (if k then 1 else 0)) H):=by
  intro pins s σ H xs us Q I r h
  rcases h with ⟨i,rfl,q⟩ | ⟨k,rfl,q⟩
  · obtain ⟨u,rfl,t,rfl⟩:=vals1 r
    exact call_int_int ⟨.int i,H,I,⟨_,rfl⟩,q⟩
  · obtain ⟨u,rfl,r1⟩:=vals1 r
    cases r1
    exact call_int_bool ⟨.int (if k then 1 else 0),H,I.tok _,⟨_,rfl⟩,q⟩
theorem call_str_int:CallR X (.type "str") (fun xs H Q=>∃ i,xs=[.int i]∧i.natAbs.log2<1920∧Q (.str (toString i)) H):=by
  intro pins s σ H xs us Q I r h
  obtain ⟨i,rfl,hz,q⟩:=h
  obtain ⟨u,rfl,t,rfl⟩:=vals1 r
  exact PySem.P.str_of_int hz ⟨.str _,H,I.tok _,⟨_,rfl⟩,q⟩
end
end L2
namespace L2
open PySem PySem.Spec PyProof.Rows
structure ObjM (h:Heap) (x dx C:Addr) (mA:Str→Option Value):Prop where
  obj:h.get? x=some (PySem.W.instObj C dx)
  ns:h.Ns1 dx mA
  ne:dx≠x
theorem lookIn_ns {h:Heap} {dx:Addr} {mA:Str→Option Value} (n:h.Ns1 dx mA):∃ od,h.get? dx=some od∧∀ name,PySem.W.lookIn name od=some (mA name):=by
  obtain ⟨o,es,ep,ho,hd,hk,_,hm⟩:=n
  refine ⟨o,ho,fun name=>?_⟩
  have e:=hm name
  unfold nsFind findBy at e
  rw [← Array.find?_toList] at e
  unfold PySem.W.lookIn
  rw [hd]
  dsimp only
  split
  · rename_i y q
    rw [q] at e
    exact congrArg some e
  · rename_i q
    rw [q] at e
    have a:es.toList.any (·.refKey)=false:=by
      rw [List.any_eq_false]
      intro y hy
      obtain ⟨z,t,hkey⟩:=hk y (Array.mem_toList_iff.mp hy)
      simp [DictEntry.refKey,hkey]
    have a':¬ es.toList.any (·.refKey)=true:=by rw [a];exact Bool.false_ne_true
    rw [if_neg a']
    exact congrArg some e
theorem ObjM.look {h:Heap} {x dx C:Addr} {mA:Str→Option Value} (I:ObjM h x dx C mA):∃ od,PySem.W.InstAt h x (PySem.W.instObj C dx) C (some od)∧∀ name,PySem.W.lookIn name od=some (mA name) :=
  let ⟨od,ho,hl⟩:=lookIn_ns I.ns
  ⟨od,⟨I.obj,rfl,rfl,ho⟩,hl⟩
section
variable {prog:Program} {w:World} {A:Around} {E:Value→Shared→Prop} {s:Shared} {K:PySem.W.Frag} {x dx C f:Addr} {mA:Str→Option Value} {name:Str} {v:Value}
end
section
variable {P:Program} {w:World} {H H':Hp} {h h':Heap} {a C dx:Addr} {fs fs':List (Str×V)}
theorem ins_get (hok:HOk P w H h) (e:H a=some (.ins C dx fs)):∃ mA,ObjM h a dx C mA∧(∀ f,RelO (fs.lookup f) (mA f))∧PySem.Within mA (fs.map (·.1))∧fs.length≤1000∧H dx=some (.own a):=by
  obtain ⟨d,z,ne,ob,mA,n,r,q⟩:=(show ObjOk P w H h a (.ins C dx fs) from hok a _ e)
  exact ⟨mA,⟨ob,n,ne⟩,r,q,z,d⟩
end
structure Cls (K:PySem.W.Frag) (C:Addr):Prop where
  pg:PySem.W.plainGet K C Str.empty=true
  hd:PySem.W.hasDictIn K C=true
  po:PySem.W.plainOver K C=true
  sa:PySem.W.findIn K (.ref C) "__setattr__" = some (some (.builtin "object.__setattr__"))
theorem Cls.get {K:PySem.W.Frag} {C:Addr} (c:Cls K C) (f:Str):PySem.W.plainGet K C f=true:=c.pg
structure Con (K:PySem.W.Frag) (C:Addr) (f:Str) (v:V) (u:Value):Prop where
  at_:PySem.W.findIn K (.ref C) f=some (some u)
  rel:RelV v u
  get:PySem.W.specialIn K u "__get__" = some none
  cp:PySem.W.copiedNames.contains f=false
structure Meth (K:PySem.W.Frag) (C:Addr) (m:Str) (f:Addr):Prop where
  at_:PySem.W.findIn K (.ref C) m=some (some (.ref f))
  fn:PySem.W.isFn K (.ref f)=true
  kp:PySem.W.keepIn K (.ref f)=true
section
variable {X:Cx} {pins:List (Addr×Obj)} {σ:St} {H:Hp} {s:Shared} {a C dx:Addr} {fs:List (Str×V)} {f:Str} {v:V} {A:Around} {E:Value→Shared→Prop}
end
section
variable {X:Cx} {o e value:Expr} {f:Str} {pos pos' tpos:Pos} {ta tv:TE}
end
section
variable {X:Cx} {pins:List (Addr×Obj)} {σ:St} {H:Hp} {s:Shared} {A:Around} {E:Value→Shared→Prop} {Q:Value→Shared→Prop} {c:Value} {b:Bool}
inductive TyOf (K:PySem.W.Frag) (H:Hp):V→Value→Prop where
  | non:TyOf K H .non (.type "NoneType")
  | bl (x:Bool):TyOf K H (.bl x) (.type "bool")
  | int (i:Int):TyOf K H (.int i) (.type "int")
  | str (x:Str):TyOf K H (.str x) (.type "str")
  | flt (x:UInt64):TyOf K H (.flt x) (.type "float")
  | lst {a:Addr} {xs:List V} (e:H a=some (.lst xs)):TyOf K H (.ref a) (.type "list")
  | frz {a:Addr} {o:Obj} {xs:List V} (e:H a=some (.frz o (.lst xs))):TyOf K H (.ref a) (.type "list")
  | tup {a:Addr} {xs:List V} (e:H a=some (.tup xs)):TyOf K H (.ref a) (.type "tuple")
  | dK {a:Addr} {kvs:List (Key×V)} (e:H a=some (.dK kvs)):TyOf K H (.ref a) (.type "dict")
  | dT {a:Addr} {kvs:List (List Key×V)} (e:H a=some (.dT kvs)):TyOf K H (.ref a) (.type "dict")
  | ins {a C dx : Addr} {fs : List (Str × V)} (e : H a = some (.ins C dx fs)) (cl : Cls K C) (ha : PySem.W.findIn K (.ref C) "__class__" = some (some (.builtin "object.__class__")))
      (hn:PySem.W.specialIn K (.builtin "object.__class__") "__get__" = some (some (.builtin "getset_descriptor.__get__"))) (htk:PySem.W.takesIn K (.builtin "object.__class__")=some true)
      (hm:PySem.W.mroIn K C (.type "object")=some true):TyOf K H (.ref a) (.ref C)
theorem isinst_ok {x : V} {u t : Value} (I : Inv X pins σ H s) (rx : RelV x u) (ty : TyOf X.K H x t) (e : PySem.W.kitOne X.K t c = some b) (h : ∀ tk, Q (.bool b) { s with toks := tk }) :
    wpAny (model X.prog X.w) A (call (.builtin "isinstance") [u,c]) Q E s:=by
  cases ty with
  | non=>cases (show u=Value.none from rx);exact PySem.W.kia_one PySem.W.kitx_none I.kIn True.intro e (fun z=>nomatch z) h
  | bl y=>cases (show u=Value.bool y from rx);exact PySem.W.kia_one PySem.W.kitx_bool I.kIn True.intro e (fun z=>nomatch z) h
  | int i=>obtain ⟨t,q⟩:=(show ∃ t,u=Value.int i t from rx);cases q;exact PySem.W.kia_one PySem.W.kitx_int I.kIn True.intro e (fun z=>nomatch z) h
  | str y=>obtain ⟨t,q⟩:=(show ∃ t,u=Value.str y t from rx);cases q;exact PySem.W.kia_one PySem.W.kitx_str I.kIn True.intro e (fun z=>nomatch z) h
  | flt y=>obtain ⟨t,q⟩:=(show ∃ t,u=Value.float y t from rx);cases q;exact PySem.W.kia_one PySem.W.kitx_float I.kIn True.intro e (fun z=>nomatch z) h
  | @lst a xs ea =>
    cases (show u=Value.ref a from rx)
    obtain ⟨_,_,n,_,h1⟩:=(show ObjOk X.prog X.w H s.heap a (.lst xs) from I.hok a _ ea)
    exact PySem.W.kia_one PySem.W.kitx_list I.kIn ⟨_,h1,rfl⟩ e (fun z=>nomatch z) h
  | @frz a ob xs ea =>
    cases (show u=Value.ref a from rx)
    obtain ⟨_,_,_,n,_,h1⟩:=(show ObjOk X.prog X.w H s.heap a (.frz ob (.lst xs)) from I.hok a _ ea)
    exact PySem.W.kia_one PySem.W.kitx_list I.kIn ⟨_,h1,rfl⟩ e (fun z=>nomatch z) h
  | @tup a xs ea =>
    cases (show u=Value.ref a from rx)
    obtain ⟨_,_,_,p⟩:=(show ObjOk X.prog X.w H s.heap a (.tup xs) from I.hok a _ ea)
    obtain ⟨o,h1,h2,_⟩:=p
    exact PySem.W.kia_one PySem.W.kitx_tuple I.kIn ⟨o,h1,h2⟩ e (fun z=>nomatch z) h
  | @dK a kvs ea =>
    cases (show u=Value.ref a from rx)
    obtain ⟨_,_,vs,_,p⟩:=(show ObjOk X.prog X.w H s.heap a (.dK kvs) from I.hok a _ ea)
    obtain ⟨o,es,ep,h1,h2,_⟩:=p
    exact PySem.W.kia_one PySem.W.kitx_dict I.kIn ⟨o,h1,h2.1⟩ e (fun z=>nomatch z) h
  | @dT a kvs ea =>
    cases (show u=Value.ref a from rx)
    obtain ⟨_,_,xs,_,o,es,ep,h1,h2,_⟩:=(show ObjOk X.prog X.w H s.heap a (.dT kvs) from I.hok a _ ea)
    exact PySem.W.kia_one PySem.W.kitx_dict I.kIn ⟨o,h1,h2.1⟩ e (fun z=>nomatch z) h
  | @ins a C dx fs ea cl ha hn htk hm =>
    cases (show u=Value.ref a from rx)
    obtain ⟨mA,O,_⟩:=ins_get I.hok ea
    obtain ⟨od,J,_⟩:=O.look
    exact PySem.W.kia_one (PySem.W.kitx_own (cl.get _) cl.hd ha hn htk hm) I.kIn J e (fun z=>nomatch z) h
end
end L2
namespace L2
open PySem PySem.Spec PyProof.Rows
structure Room (k:Nat) (A:Around):Prop where
  hd:A.handled=none
  dp:A.depth+3*k+5<recursionLimit
  un:A.units+16*k+200<cLine
theorem Room.mono {j k:Nat} {A:Around} (r:Room k A) (h:j≤k):Room j A:=⟨r.hd,by have:=r.dp;lia,by have:=r.un;lia⟩
theorem Room.deeper {k:Nat} {A:Around} (r:Room (k+1) A) (env:Env):Room k (A.deeper env) :=
  ⟨r.hd,by have:=r.dp;show A.depth+1+3*k+5<_;lia,by have:=r.un;show A.units+3+16*k+200<_;lia⟩
theorem Room.in1 {k:Nat} {A:Around} (r:Room (k+1) A):Room k A.in1 :=
  ⟨r.hd,by have:=r.dp;show A.depth+3*k+5<_;lia,by have:=r.un;show A.units+1+16*k+200<_;lia⟩
theorem Room.depth {k:Nat} {A:Around} (r:Room k A):A.depth<recursionLimit:=by have:=r.dp;lia
theorem Room.units {k:Nat} {A:Around} (r:Room k A):A.units+64<cLine:=by have:=r.un;lia
def tNil:TA:=fun _ H Q=>Q [] H
def tCons (ta:TE) (tr:TA):TA:=fun σ H Q=>ta σ H fun x H1=>tr σ H1 fun xs H2=>Q (x::xs) H2
section
variable {X:Cx} {e:Expr} {es:List Expr} {te:TE} {t:TA} {pos:Pos}
theorem pa_nil:PA X [] tNil:=fun _ _ _ _ H Q I h=>Calls.spliced_nil ⟨[],H,I,.nil,h⟩
theorem pa_cons (ha:PE X e te) (hr:PA X es t) (hs:starEach (e::es) X.env=(false,eval e X.env)::starEach es X.env:=by rfl):PA X (e::es) (tCons te t):=by
  intro pos pins s σ H Q I h
  rw [hs]
  show wpAny _ _ (spliced ((false,eval e X.env)::backTo pos (starEach es X.env))) _ _ s
  refine Calls.spliced_cons (thn (ha pins s σ H _ I h) fun u s1 ⟨x,H1,I1,r1,q1⟩=>?_)
  exact thn (hr pos pins s1 σ H1 _ I1 q1) fun us s2 ⟨xs,H2,I2,r2,q2⟩=>⟨x::xs,H2,I2,.cons r1 r2,q2⟩
def tTup (t:TA):TE:=fun σ H Q=>t σ H fun xs H1=>xs.length≤sizeLine∧∀ p,H1 p=none→Q (.ref p) (upd H1 p (.tup xs))
def tLst (t:TA):TE:=fun σ H Q=>t σ H fun xs H1=>xs.length≤sizeLine∧∀ p,H1 p=none→Q (.ref p) (upd H1 p (.lst xs))
theorem pe_tup {x1} (h:PA X es t):PE X (.Tuple es x1 pos) (tTup t):=by
  intro pins s σ H Q I hq
  refine wpAny_Tuple_spliced (thn (h pos pins s σ H _ I hq) fun us s1 ⟨xs,H1,I1,r,z,q⟩=>⟨by rw [← r.length];exact z,?_⟩)
  have hf:H1 s1.heap.objs.size=none:=I1.hok.fresh (Nat.le_refl _)
  refine ⟨.ref s1.heap.objs.size,upd H1 s1.heap.objs.size (.tup xs),I1.laid (t':=s1.toks) (fun b u e=>Heap.get?_push_of_some _ e) (Nat.le_refl _) ?_,rfl,q _ hf⟩
  exact ⟨z,us,r,⟨_,Heap.get?_push_size _ rfl,rfl,_,rfl⟩⟩
theorem pe_lst (h:PA X es t):PE X (.List es pos) (tLst t):=by
  intro pins s σ H Q I hq
  refine wpAny_List_spliced (thn (h pos pins s σ H _ I hq) fun us s1 ⟨xs,H1,I1,r,z,q⟩=>⟨by rw [← r.length];exact z,?_⟩)
  have hf:H1 s1.heap.objs.size=none:=I1.hok.fresh (Nat.le_refl _)
  refine ⟨.ref s1.heap.objs.size,upd H1 s1.heap.objs.size (.lst xs),I1.laid (t':=s1.toks) (fun b u e=>Heap.get?_push_of_some _ e) (Nat.le_refl _) ?_,rfl,q _ hf⟩
  exact ⟨z,us,0,r,Heap.get?_push_size _ rfl⟩
end
abbrev Sp:=List V→Hp→VK→XK→Prop
abbrev CXT:=List Env→Hp→Shared→XK→Value→Shared→Prop
structure Env0 (P:Program) (w:World) (K:PySem.W.Frag) (mg:Str→Option Value) (base:Heap) (A:Around) (outer:List Env) (s:Shared) (H:Hp):Prop where
  frames:A.frames=some outer
  mod:Mod K mg base
  bs:∀ b o,base.get? b=some o→s.heap.get? b=some o∧H b=none
  bsz:base.objs.size≤s.heap.objs.size
  funs:s.heap.FunFrames base outer
  frf:∀ b∈frs outer,H b=none
  hok:HOk P w H s.heap
  bare:AllBare s.gens
def CE (outer:List Env) (P:Program) (w:World) (H:Hp) (s:Shared) (Q:VK) (u:Value) (s':Shared):Prop :=
  ∃ v H',s'.os=s.os∧AllBare s'.gens∧Un (frs outer) [] H H' s.heap s'.heap∧HOk P w H' s'.heap∧RelV v u∧Q v H'
def CR (CX:CXT) (outer:List Env) (P:Program) (w:World) (H:Hp) (s:Shared) (Q:VK) (E:XK) (r:Result) (s':Shared):Prop :=
  match r with
  | .ok (.ret u)=>CE outer P w H s Q u s'
  | .ok _=>False
  | .error e=>CX outer H s E e s'
structure FnOk (P:Program) (w:World) (K:PySem.W.Frag) (mg:Str→Option Value) (base:Heap) (CX:CXT) (k:Nat) (f:Addr) (fd:FuncData) (ps:List Str) (sp:Sp):Prop where
  len:∀ vs H Q E,sp vs H Q E→vs.length=ps.length
  run:∀ (A:Around) (outer:List Env) (s:Shared) (H:Hp) (args:Args) (us:List Value) (vs:List V) (Q:VK) (E:XK),Room k A→Env0 P w K mg base A outer s H→BindsTo s fd args (ps.zip us)→Vals vs us→sp vs H Q E →
    codeAny (model P w) A (.call (.ref f) args) (CR CX outer P w H s Q E) s
theorem Env0.in1 {P : Program} {w : World} {K : PySem.W.Frag} {mg : Str → Option Value} {base : Heap} {A : Around} {outer : List Env} {s : Shared} {H : Hp} (e : Env0 P w K mg base A outer s H) :
    Env0 P w K mg base A.in1 outer s H:=⟨e.frames,e.mod,e.bs,e.bsz,e.funs,e.frf,e.hok,e.bare⟩
section
variable {X:Cx} {pins:List (Addr×Obj)} {σ:St} {H:Hp} {s s':Shared}
theorem Inv.env0 (I:Inv X pins σ H s):Env0 X.prog X.w X.K X.mg X.base X.A X.stack s H :=
  ⟨I.ok.frames,I.ok.mod,I.bs,Nat.le_trans I.ok.bsz I.sz,I.stack,I.stkFree,I.hok,I.bare⟩
theorem Inv.after {Q:VK} {u:Value} (I:Inv X pins σ H s) (h:CE X.stack X.prog X.w H s Q u s'):EP X pins σ Q u s':=by
  obtain ⟨v,H',os,bare,un,hok,r,q⟩:=h
  obtain ⟨hh,g,d,t,os'⟩:=s'
  obtain rfl:os'=s.os:=os
  exact ⟨v,H',I.call (h':=hh) (g':=g) (d':=d) (t':=t) (ch:=[]) un hok bare (fun b z=>absurd z (by simp)),r,q⟩
end
def tCall (sp:Sp) (dvs:List V) (E:XK) (t:TA):TE:=fun σ H Q=>t σ H fun vs H1=>sp (vs++dvs) H1 Q E
def Binds (K:PySem.W.Frag) (fd:FuncData) (ps:List Str) (ds:List Value):Prop :=
  ∀ (s:Shared) (us:List Value),K.In s.heap→(us++ds).length=ps.length→BindsTo s fd ⟨us,[]⟩ (ps.zip (us++ds))
theorem Binds.all {K:PySem.W.Frag} {fd:FuncData} {ps:List Str} (h:∀ us:List Value,us.length=ps.length→bindArgs fd ⟨us,[]⟩=pure (ps.zip us)):Binds K fd ps []:=fun s us _ hl=>by
  rw [List.append_nil] at hl ⊢
  exact .of_eq (h us hl)
def Passes (CX:CXT) (X:Cx) (E:XK):Prop:=∀ (pins:List (Addr×Obj)) (σ:St) (H:Hp) (s:Shared) (e:Value) (s':Shared),Inv X pins σ H s→CX X.stack H s E e s'→X.xe e s'
section
variable {X:Cx} {CX:CXT} {k:Nat} {f C:Addr} {fd:FuncData} {ps:List Str} {sp:Sp} {dvs:List V} {ds:List Value} {E:XK} {x m:Str} {p pos apos:Pos} {e o:Expr} {es:List Expr} {ta:TE} {t:TA}
theorem run_fn {pins : List (Addr × Obj)} {σ : St} {H : Hp} {s : Shared} {Q : VK} {us : List Value} {vs : List V} (F : FnOk X.prog X.w X.K X.mg X.base CX k f fd ps sp) (hr : Room k X.A) (hb : Binds X.K fd ps ds) (hd : Vals dvs ds) (hx : Passes CX X E)
    (I:Inv X pins σ H s) (r:Vals vs us) (h:sp (vs++dvs) H Q E):wpAny (model X.prog X.w) X.A (call (.ref f) us) (EP X pins σ Q) X.xe s:=by
  have r2:Vals (vs++dvs) (us++ds):=r.append hd
  have hl:(us++ds).length=ps.length:=by rw [← r2.length];exact F.len _ _ _ _ h
  refine wpAny_call (codeAny_mono (F.run X.A X.stack s H ⟨us,[]⟩ (us++ds) (vs++dvs) Q E hr I.env0 (hb s us I.kIn hl) r2 h) fun r s' hq=>?_)
  cases r with
  | error e=>exact hx pins σ H s e s' I hq
  | ok fl =>
    cases fl with
    | ret u=>exact I.after hq
    | next=>exact False.elim hq
    | brk=>exact False.elim hq
    | cont=>exact False.elim hq
theorem pe_call (F : FnOk X.prog X.w X.K X.mg X.base CX k f fd ps sp) (hr : Room k X.A) (hg : Gl X x) (hm : X.mg x = some (.ref f)) (hk : PySem.W.keepIn X.K (.ref f) = true) (hb : Binds X.K fd ps ds) (hd : Vals dvs ds) (hx : Passes CX X E)
    (ha:PA X (e::es) t) (hdb:(x == ("__debug__" : Str))=false:=by decide) (he:starEach (e::es) X.env=(false,eval e X.env)::starEach es X.env:=by rfl) (hpl:(backTo pos (starEach es X.env)).any (·.1)=false:=by rfl) :
    PE X (.Call (.Name x p) (e::es) [] pos) (tCall sp dvs E t):=by
  intro pins s σ H Q I h
  refine wpAny_Call_Name_kw (ld_glob I hg hm ?_ hdb)
  refine PySem.W.callWith_K (h₀:=X.base) I.ok.mod.kin hk (thn (ha pos pins s σ H _ I h) fun us s1 ⟨vs,H1,I1,r,q⟩=>⟨I1.kIn,?_⟩) he hpl
  exact run_fn F hr hb hd hx I1 r q
structure Mk (K:PySem.W.Frag) (C f:Addr):Prop where
  makes:PySem.W.makesIn K C=true
  init:PySem.W.findIn K (.ref C) "__init__" = some (some (.ref f))
  fn:PySem.W.isFn K (.ref f)=true
  kp:PySem.W.keepIn K (.ref C)=true
end
def PK (X:Cx) (kws:List Keyword) (t:TA):Prop :=
  ∀ (pos:Pos) (pins:List (Addr×Obj)) (s:Shared) (σ:St) (H:Hp) (Q:List V→Hp→Prop),Inv X pins σ H s→t σ H Q→wpAny (model X.prog X.w) X.A (evalAll ((backToKw pos (keywordEach kws X.env)).map (·.2))) (AP X pins σ Q) X.xe s
section
variable {X:Cx} {CX:CXT} {k:Nat} {f C:Addr} {fd:FuncData} {ps ks:List Str} {sp:Sp} {E:XK} {x m:Str} {p pos apos kpos:Pos} {e o:Expr} {es:List Expr} {kws:List Keyword} {te ta:TE} {t tk:TA} {nm:Option Str}
theorem pk_nil:PK X [] tNil:=fun _ _ _ _ H Q I h=>wpAny_evalAll_nil ⟨[],H,I,.nil,h⟩
theorem pk_cons (ha:PE X e te) (hr:PK X kws t):PK X (⟨nm,e,kpos⟩::kws) (tCons te t):=by
  intro pos pins s σ H Q I h
  show wpAny _ _ (evalAll ((do let v ← eval e X.env;standAt pos;pure v)::(backToKw pos (keywordEach kws X.env)).map (·.2))) _ _ s
  refine wpAny_evalAll_cons (wpAny_bind (thn (ha pins s σ H _ I h) fun u s1 ⟨x,H1,I1,r1,q1⟩=>wpAny_bind (wpAny_standAt (wpAny_pure ?_))))
  exact thn (hr pos pins s1 σ H1 _ I1 q1) fun us s2 ⟨xs,H2,I2,r2,q2⟩=>⟨x::xs,H2,I2,.cons r1 r2,q2⟩
structure KBinds (K:PySem.W.Frag) (fd:FuncData) (ps ks:List Str) (g:List Value→List Value→List Value) (gV:List V→List V→List V):Prop where
  to:∀ (s:Shared) (us ws:List Value),K.In s.heap→(g us ws).length=ps.length→BindsTo s fd ⟨us,ks.zip ws⟩ (ps.zip (g us ws))
  rel:∀ {vs:List V} {us:List Value} {zs:List V} {ws:List Value},Vals vs us→Vals zs ws→Vals (gV vs zs) (g us ws)
variable {g:List Value→List Value→List Value} {gV:List V→List V→List V}
end
structure FnScope (N P:List Str) (sc:Scope):Prop where
  kind:sc.kind=.function
  co:sc.isCoroutine=false
  gen:sc.isGenerator=false
  nd:N.Nodup
  pre:N.take P.length=P
  par:∀ x∈P,sc.names.lookup x=some .local∨sc.names.lookup x=some .cell
  nofree:∀ y∈sc.names,y.2≠.free
theorem bindL_out {kindOf:Str→Option NameKind} {x:Str}:∀ {binds:List (Str×Value)} {m:Str→Option Value},(∀ v,(x,v) ∉ binds)→bindL kindOf binds m x=m x
  | [],_,_=>rfl
  | (n,v)::r,m,h=>by
    unfold bindL
    rw [bindL_out fun w hw=>h w (List.mem_cons_of_mem _ hw)]
    split
    · have:x≠n:=by rintro rfl;exact h v List.mem_cons_self
      simp [this]
    · rfl
theorem bindC_out {kindOf:Str→Option NameKind} {x:Str}:∀ {binds:List (Str×Value)} {m:Str→Option Value},(∀ v,(x,v) ∉ binds)→bindC kindOf binds m x=m x
  | [],_,_=>rfl
  | (n,v)::r,m,h=>by
    unfold bindC
    rw [bindC_out fun w hw=>h w (List.mem_cons_of_mem _ hw)]
    split
    · rfl
    · have:x≠n:=by rintro rfl;exact h v List.mem_cons_self
      simp [this]
theorem bindL_get {kindOf : Str → Option NameKind} {x : Str} {v : Value} : ∀ {P : List Str} {vs : List Value} {i : Nat} {m : Str → Option Value}, P.Nodup → P[i]? = some x → vs[i]? = some v → kindOf x = some .local →
    bindL kindOf (P.zip vs) m x=some v
  | [],_,_,_,_,h,_,_=>by simp at h
  | _::_,[],_,_,_,_,h,_=>by simp at h
  | p::P,w::vs,0,m,nd,h1,h2,hk=>by
    simp at h1 h2;subst h1;subst h2
    show bindL kindOf ((p,w)::P.zip vs) m p=_
    unfold bindL
    rw [bindL_out fun v hv=>(List.nodup_cons.mp nd).1 (List.of_mem_zip hv).1,if_pos hk]
    simp
  | p::P,w::vs,i+1,m,nd,h1,h2,hk=>by
    show bindL kindOf ((p,w)::P.zip vs) m x=_
    unfold bindL
    exact bindL_get (i:=i) (List.nodup_cons.mp nd).2 (by simpa using h1) (by simpa using h2) hk
theorem bindC_get {kindOf : Str → Option NameKind} {x : Str} {v : Value} : ∀ {P : List Str} {vs : List Value} {i : Nat} {m : Str → Option Value}, P.Nodup → P[i]? = some x → vs[i]? = some v → kindOf x ≠ some .local →
    bindC kindOf (P.zip vs) m x=some v
  | [],_,_,_,_,h,_,_=>by simp at h
  | _::_,[],_,_,_,_,h,_=>by simp at h
  | p::P,w::vs,0,m,nd,h1,h2,hk=>by
    simp at h1 h2;subst h1;subst h2
    show bindC kindOf ((p,w)::P.zip vs) m p=_
    unfold bindC
    rw [bindC_out fun v hv=>(List.nodup_cons.mp nd).1 (List.of_mem_zip hv).1,if_neg hk]
    simp
  | p::P,w::vs,i+1,m,nd,h1,h2,hk=>by
    show bindC kindOf ((p,w)::P.zip vs) m x=_
    unfold bindC
    exact bindC_get (i:=i) (List.nodup_cons.mp nd).2 (by simpa using h1) (by simpa using h2) hk
def start (N:List Str) (vs:List V):St:=vs.map some++List.replicate (N.length - vs.length) none
def cxOf (CX:CXT) (P:Program) (w:World) (K:PySem.W.Frag) (mg:Str→Option Value) (base:Heap) (N:List Str) (qual:Str) (scope:Scope) (f:Addr) (cd:Value) (A:Around) (outer:List Env) (s:Shared) (H:Hp) (E:XK):Cx where
  prog:=P
  w:=w
  K:=K
  mg:=mg
  base:=base
  A:=A.deeper (envOfC qual scope s.heap.objs.size f cd)
  N:=N
  s₀:=s
  H₀:=H
  env:=envOfC qual scope s.heap.objs.size f cd
  outer:=outer
  stack:=envOfC qual scope s.heap.objs.size f cd::outer
  ex:=[]
  calm:=true
  fn:=fun _=>true
  pn:=[]
  xe:=fun e s'=>wpAny (model P w) (A.deeper (envOfC qual scope s.heap.objs.size f cd)) (leaving (envOfC qual scope s.heap.objs.size f cd) e) (fun _ s''=>CX outer H s E e s'') (fun e' s''=>CX outer H s E e' s'') s'
theorem cell_has {sc:Scope} {n:Nat} {x:Str} (h:sc.names.lookup x=some .cell):∃ c,(cellsFrom n sc.names []).lookup x=some c:=by
  have q:=PySem.W.cellsFrom_some sc.names n [] (.inl h)
  exact Option.isSome_iff_exists.mp q
theorem inv_start {CX : CXT} {P : Program} {w : World} {K : PySem.W.Frag} {mg : Str → Option Value} {base : Heap} {N ps : List Str} {qual : Str} {scope : Scope} {f : Addr} {cd : Value} {A : Around} {outer : List Env} {s s1 : Shared} {H : Hp} {E : XK} {us : List Value} {vs : List V}
    (S:FnScope N ps scope) (hd:A.handled=none) (e0:Env0 P w K mg base A outer s H) (hl:vs.length=ps.length) (r:Vals vs us)
    (x:InCallC s s.heap.objs.size (bindL (envOfC qual scope s.heap.objs.size f cd).kindOf (ps.zip us) fun _=>none) (cellsFrom (s.heap.objs.size+1) scope.names []) (bindC (envOfC qual scope s.heap.objs.size f cd).kindOf (ps.zip us) fun _=>none) s1) :
    Inv (cxOf CX P w K mg base N qual scope f cd A outer s H E) [] (start N vs) H s1:=by
  have hpl:ps.length≤N.length:=by have:=congrArg List.length S.pre;rw [List.length_take] at this;lia
  obtain ⟨h1,tk,rfl,hk⟩:=x.done
  have noA:∀ b:Addr,b ∉ (cxOf CX P w K mg base N qual scope f cd A outer s H E).ex:=fun b z=>absurd (show b∈([]:List Addr) from z) (by simp)
  refine ⟨⟨e0.mod,S.kind,rfl,rfl,Nat.le_refl _,fun y z c h1 h2=>?_,fun y hy=>?_,fun y c _ h=>?_,fun _=>hd,Around.frames_deeper e0.frames,.inr ⟨rfl,rfl⟩,fun b z=>absurd z (noA b),e0.bs,e0.bsz,fun b _ _=>noA b,fun b z=>absurd z (noA b),e0.funs,e0.frf⟩,
    rfl,e0.bare,Un.kept hk,⟨_,x.toInCall.ns,fun i y v h1 h2 h3=>?_⟩,fun y c h=>⟨_,x.cell y c h⟩,e0.hok.fresh (Nat.le_refl _),fun y c h=>?_,fun p hp=>absurd (show p∈([]:List (Addr×Obj)) from hp) (by simp),e0.hok.kept hk,?_⟩
  · exact name_of_addr x.apart (PySem.mem_of_lookup h1) (PySem.mem_of_lookup h2)
  · have hy:scope.names.lookup y=some .cell∨scope.names.lookup y=some .free:=hy
    rcases hy with hy | hy
    · exact cell_has hy
    · exact absurd rfl (S.nofree _ (PySem.mem_of_lookup hy))
  · exact Nat.le_of_lt (x.above y c (PySem.mem_of_lookup h))
  · have hi : i < vs.length := by
      unfold start at h2
      by_cases hi:i<vs.length
      · exact hi
      · rw [List.getElem?_append_right (by simpa using hi)] at h2
        rw [List.getElem?_replicate] at h2
        split at h2 <;> cases h2
    have ha:vs[i]?=some v:=by
      unfold start at h2
      rw [List.getElem?_append_left (by simpa using hi),List.getElem?_map] at h2
      cases e:vs[i]? with
      | none=>rw [e] at h2;cases h2
      | some a=>rw [e] at h2;cases h2;rfl
    obtain ⟨u,hu,rv⟩:=r.get ha
    have hp:ps[i]?=some y:=by
      rw [← S.pre,List.getElem?_take_of_lt (by lia)];exact h1
    have ndP:ps.Nodup:=by rw [← S.pre];exact S.nd.sublist (List.take_sublist _ _)
    refine ⟨u,rv,?_⟩
    rcases S.par y (List.mem_of_getElem? hp) with k | k
    · exact .inl ⟨k,bindL_get ndP hp hu k⟩
    · obtain ⟨c,e⟩:=cell_has (n:=s.heap.objs.size+1) k
      refine .inr ⟨.inl k,c,e,?_⟩
      have q:=x.cell y c e
      rw [bindC_get ndP hp hu (by show scope.names.lookup y≠_;rw [k];decide)] at q
      exact q
  · exact e0.hok.fresh (Nat.le_of_lt (x.above y c (PySem.mem_of_lookup h)))
  · unfold start
    show _=N.length
    rw [List.length_append,List.length_map,List.length_replicate]
    lia
theorem fn_of {CX : CXT} {P : Program} {w : World} {K : PySem.W.Frag} {mg : Str → Option Value} {base : Heap} {k : Nat} {f : Addr} {name qual : Str} {params : Arguments} {body : List Stmt} {scope : Scope} {dV kV doc pm cdv ct oc : Value} {an od : Option Addr}
    {osl:Array (Option Value)} {N ps:List Str} {sp:Sp} (lk:K.lookup f=some ⟨oc,od,.func (PySem.W.fnOf name qual params body scope dV kV doc pm an cdv ct),osl⟩) (hcd:PySem.W.codeIn K cdv qual=true) (S:FnScope N ps scope)
    (len:∀ vs H Q E,sp vs H Q E→vs.length=ps.length)
    (hbody:∀ (A:Around) (outer:List Env) (s:Shared) (H:Hp) (vs:List V) (Q:VK) (E:XK),Room k (A.deeper (envOfC qual scope s.heap.objs.size f cdv))→sp vs H Q E →
      ∃ t,PSs (cxOf CX P w K mg base N qual scope f cdv A outer s H E) body t∧t { nx:=fun _ H'=>Q .non H',rt:=Q } (start N vs) H) :
    FnOk P w K mg base CX (k+1) f (PySem.W.fnOf name qual params body scope dV kV doc pm an cdv ct) ps sp:=by
  refine ⟨len,fun A outer s H args us vs Q E hr e0 hb r hsp=>?_⟩
  have hl:=len _ _ _ _ hsp
  have KX:K.In s.heap:=e0.mod.kin.keeps fun b o e=>(e0.bs b o e).1
  have lim:s.heap.NoLimit:=e0.mod.nolimit.keeps fun b o e=>(e0.bs b o e).1
  have hkind:∀ y∈ps.zip us,scope.names.lookup y.1=some .local∨(scope.names.lookup y.1=some .cell∧((cellsFrom (s.heap.objs.size+1) scope.names []).lookup y.1).isSome=true):=fun ⟨n,v⟩ hy=>by
    rcases S.par n (List.of_mem_zip hy).1 with q | q
    · exact .inl q
    · exact .inr ⟨q,PySem.W.cellsFrom_some _ _ _ (.inl q)⟩
  refine codeAny_call_function hr.depth (KX _ _ lk) rfl S.co S.gen rfl (PySem.W.codeRec_of KX hcd) (hb _ _ _ _ ?_)
  refine wpAny_newFunctionEnv_cells S.kind hkind fun env he s1 x=>?_
  subst he
  refine ⟨lim.keeps x.toInCall.keep,codeAny_func ?_⟩
  obtain ⟨t,ht,hq⟩:=hbody A outer s H vs Q E (hr.deeper _) hsp
  have I:Inv (cxOf CX P w K mg base N qual scope f cdv A outer s H E) [] (start N vs) H s1:=inv_start S hr.hd e0 hl r x
  refine wpAny_mono (ht [] s1 (start N vs) H _ I hq) (fun fl s' hs=>?_) fun e s' hs=>hs
  have fin:∀ {σ':St} {H':Hp} {v:V} {u:Value},Inv (cxOf CX P w K mg base N qual scope f cdv A outer s H E) [] σ' H' s'→RelV v u→Q v H'→CE outer P w H s Q u s' :=
    fun {σ' H' v u} J rv q=>⟨v,H',J.os,J.bare,J.base,J.hok,rv,q⟩
  cases fl with
  | ret u =>
    obtain ⟨v,σ',H',J,rv,q⟩:=hs
    exact fin J rv q
  | next =>
    obtain ⟨σ',H',J,q⟩:=hs
    exact fin (v:=V.non) (u:=Value.none) J rfl q
  | brk =>
    obtain ⟨_,_,_,q⟩:=hs
    exact False.elim q
  | cont =>
    obtain ⟨_,_,_,q⟩:=hs
    exact False.elim q
end L2
namespace L2
open PySem PySem.Spec PyProof.Rows
section
variable {X:Cx} {x:Str} {p pos:Pos} {e:Expr} {es:List Expr} {t:TA} {id T:String} {r:List V→Hp→VK→Prop}
def tCB (r:List V→Hp→VK→Prop) (t:TA):TE:=fun σ H Q=>t σ H fun vs H1=>r vs H1 Q
theorem pe_callB (hc : CallR X (.builtin id) r) (hg : Gl X x) (hm : X.mg x = none) (hv : bootBuiltins x = some (.builtin id)) (ha : PA X (e :: es) t) (hn : x ≠ "__name__" := by decide) (hdb : (x == ("__debug__" : Str)) = false := by decide)
    (he:starEach (e::es) X.env=(false,eval e X.env)::starEach es X.env:=by rfl) (hpl:(backTo pos (starEach es X.env)).any (·.1)=false:=by rfl):PE X (.Call (.Name x p) (e::es) [] pos) (tCB r t):=by
  intro pins s σ H Q I h
  refine wpAny_Call_Name_kw (ld_blt I hg hm hv ?_ hn hdb)
  exact PyProof.Rows.callWith_builtin1 (thn (ha pos pins s σ H _ I h) fun us s1 ⟨vs,H1,I1,r1,q1⟩=>hc pins s1 σ H1 vs us Q I1 r1 q1) he hpl
theorem pe_callTy (hc : CallR X (.type T) r) (hg : Gl X x) (hm : X.mg x = none) (hv : bootBuiltins x = some (.type T)) (ha : PA X (e :: es) t) (hn : x ≠ "__name__" := by decide) (hdb : (x == ("__debug__" : Str)) = false := by decide)
    (he:starEach (e::es) X.env=(false,eval e X.env)::starEach es X.env:=by rfl) (hpl:(backTo pos (starEach es X.env)).any (·.1)=false:=by rfl):PE X (.Call (.Name x p) (e::es) [] pos) (tCB r t):=by
  intro pins s σ H Q I h
  refine wpAny_Call_Name_kw (ld_blt I hg hm hv ?_ hn hdb)
  exact PyProof.Rows.callWith_type1 (thn (ha pos pins s σ H _ I h) fun us s1 ⟨vs,H1,I1,r1,q1⟩=>hc pins s1 σ H1 vs us Q I1 r1 q1) he hpl
end
end L2
namespace L2
open PySem PySem.Spec PyProof.Rows
section
variable {κ:Type} [DecidableEq κ]
def valV (kvs:List (κ×V)) (k:κ):Option V:=(kvs.find? fun kv=>decide (kv.1=k)).map (·.2)
def putK (kvs:List (κ×V)) (k:κ) (v:V):List (κ×V) :=
  if (kvs.any fun kv=>decide (kv.1=k))=true then kvs.map (fun kv=>if kv.1=k then (kv.1,v) else kv) else kvs++[(k,v)]
theorem valV_pos {p:κ×V} {r:List (κ×V)} {k:κ} (e:p.1=k):valV (p::r) k=some p.2:=by simp [valV,List.find?_cons,e]
theorem valV_neg {p:κ×V} {r:List (κ×V)} {k:κ} (e:¬ p.1=k):valV (p::r) k=valV r k:=by simp [valV,List.find?_cons,e]
theorem valV_any (k:κ):∀ kvs:List (κ×V),(kvs.any fun kv=>decide (kv.1=k))=(valV kvs k).isSome
  | []=>rfl
  | p::r=>by
    rw [List.any_cons]
    by_cases e:p.1=k
    · simp only [valV_pos e,decide_eq_true e,Bool.true_or,Option.isSome_some]
    · rw [valV_neg e,decide_eq_false e,Bool.false_or];exact valV_any k r
theorem valV_map (k j:κ) (y:V):∀ kvs:List (κ×V),valV (kvs.map fun kv=>if kv.1=k then (kv.1,y) else kv) j=(valV kvs j).map fun x=>if j=k then y else x
  | []=>rfl
  | p::r=>by
    have ih:=valV_map k j y r
    rw [List.map_cons]
    by_cases h:p.1=k
    · rw [if_pos h]
      by_cases e:p.1=j
      · rw [valV_pos (p:=(p.1,y)) e,valV_pos e,Option.map_some,if_pos (e.symm.trans h)]
      · rw [valV_neg (p:=(p.1,y)) e,valV_neg e,ih]
    · rw [if_neg h]
      by_cases e:p.1=j
      · rw [valV_pos (p:=p) e,valV_pos e,Option.map_some,if_neg (fun z=>h (e.trans z))]
      · rw [valV_neg (p:=p) e,valV_neg e,ih]
theorem valV_snoc (k j:κ) (y:V):∀ kvs:List (κ×V),valV kvs k=none→valV (kvs++[(k,y)]) j=if j=k then some y else valV kvs j
  | [],_=>by
    by_cases e:k=j
    · rw [if_pos e.symm];exact valV_pos (p:=(k,y)) e
    · rw [if_neg (fun z=>e z.symm)];exact valV_neg (p:=(k,y)) e
  | p::r,hn=>by
    rw [List.cons_append]
    have hk:¬ p.1=k:=fun z=>by rw [valV_pos z] at hn;cases hn
    rw [valV_neg hk] at hn
    have ih:=valV_snoc k j y r hn
    by_cases e:p.1=j
    · rw [valV_pos e,valV_pos e,if_neg (fun z=>hk (e.trans z))]
    · rw [valV_neg e,valV_neg e,ih]
theorem valV_put (kvs:List (κ×V)) (k j:κ) (y:V):valV (putK kvs k y) j=if j=k then some y else valV kvs j:=by
  unfold putK
  by_cases a:(kvs.any fun kv=>decide (kv.1=k))=true
  · rw [if_pos a,valV_map]
    rw [valV_any] at a
    by_cases e:j=k
    · obtain ⟨x,hx⟩:=Option.isSome_iff_exists.mp a
      rw [if_pos e,e,hx,Option.map_some,if_pos rfl]
    · rw [if_neg e]
      cases valV kvs j with
      | none=>rfl
      | some x=>rw [Option.map_some,if_neg e]
  · rw [if_neg a]
    refine valV_snoc k j y kvs ?_
    rw [valV_any] at a
    cases q:valV kvs k with
    | none=>rfl
    | some x=>rw [q] at a;exact (a rfl).elim
theorem length_putK (kvs:List (κ×V)) (k:κ) (v:V):(putK kvs k v).length≤kvs.length+1:=by
  unfold putK
  split
  · rw [List.length_map];lia
  · rw [List.length_append,List.length_cons,List.length_nil];lia
theorem RelO.isSome_eq {o:Option V} {u:Option Value} (r:RelO o u):o.isSome=u.isSome:=by
  cases o with
  | none=>cases u with
    | none=>rfl
    | some _=>exact (show False from r).elim
  | some _=>cases u with
    | none=>exact (show False from r).elim
    | some _=>rfl
theorem KV.val {kvs:List (κ×V)} {vs:List (κ×Value)} (r:KV kvs vs) (k:κ):RelO (valV kvs k) (valueAt vs k):=by
  unfold KV at r
  induction r with
  | nil=>exact True.intro
  | @cons p q ps qs h t ih =>
    obtain ⟨h1,h2⟩:=h
    by_cases e:p.1=k
    · have e':q.1=k:=h1.symm.trans e
      have b:valueAt (q::qs) k=some q.2:=by simp [valueAt,List.find?_cons,e']
      rw [valV_pos e,b];exact h2
    · have e':¬ q.1=k:=fun z=>e (h1.trans z)
      have b:valueAt (q::qs) k=valueAt qs k:=by simp [valueAt,List.find?_cons,e']
      rw [valV_neg e,b];exact ih
theorem KV.any {kvs:List (κ×V)} {vs:List (κ×Value)} (r:KV kvs vs) (k:κ):(kvs.any fun kv=>decide (kv.1=k))=vs.any fun kv=>decide (kv.1=k):=by
  unfold KV at r
  induction r with
  | nil=>rfl
  | cons h t ih=>rw [List.any_cons,List.any_cons,ih,h.1]
theorem KV.repl {kvs : List (κ × V)} {vs : List (κ × Value)} (r : KV kvs vs) (k : κ) {y : V} {u : Value} (ry : RelV y u) :
    KV (kvs.map fun kv=>if kv.1=k then (kv.1,y) else kv) (vs.map fun kv=>if kv.1=k then (kv.1,u) else kv):=by
  unfold KV at r ⊢
  induction r with
  | nil=>exact .nil
  | @cons p q ps qs h t ih =>
    rw [List.map_cons,List.map_cons]
    refine .cons ?_ ih
    obtain ⟨h1,h2⟩:=h
    by_cases e:p.1=k
    · rw [if_pos e,if_pos (h1.symm.trans e)];exact ⟨h1,ry⟩
    · rw [if_neg e,if_neg (fun z=>e (h1.trans z))];exact ⟨h1,h2⟩
theorem KV.put {kvs:List (κ×V)} {vs:List (κ×Value)} (r:KV kvs vs) (k:κ) {y:V} {u:Value} (ry:RelV y u):KV (putK kvs k y) (stored vs k u):=by
  unfold putK stored
  rw [r.any k]
  by_cases e:(vs.any fun kv=>decide (kv.1=k))=true
  · rw [if_pos e,if_pos e];exact r.repl k ry
  · rw [if_neg e,if_neg e];exact Paired.snoc r ⟨rfl,ry⟩
theorem KV.length {kvs:List (κ×V)} {vs:List (κ×Value)} (r:KV kvs vs):kvs.length=vs.length:=Paired.length r
end
theorem kV_is {P:Program} {w:World} {k:Key} {u:Value} (r:RelV (kV k) u):(mixKind P w).is k u=true:=by
  cases k with
  | inl i=>obtain ⟨t,e⟩:=(show ∃ t,u=Value.int i t from r);subst e;exact mixKind_int P w i t
  | inr x=>obtain ⟨t,e⟩:=(show ∃ t,u=Value.str x t from r);subst e;exact mixKind_str P w x t
theorem items_are {P:Program} {w:World}:∀ {ks:List Key} {us:List Value},Vals (ks.map kV) us→ItemsAre (mixKind P w) ks us
  | [],_,r=>by rw [List.map_nil] at r;cases r;exact .nil
  | k::ks,_,r=>by
    rw [List.map_cons] at r
    cases r with
    | cons h t=>exact .cons (kV_is h) (items_are t)
abbrev KT (H:Hp):List (List Key×V)→List (List Key×Addr×Value)→Prop:=Paired fun p q=>p.1=q.1∧H q.2.1=some (.tup (p.1.map kV))∧RelV p.2 q.2.2
theorem KT.val {H:Hp} {kvs:List (List Key×V)} {xs:List (List Key×Addr×Value)} (r:KT H kvs xs) (k:List Key):RelO (valV kvs k) ((atKey xs k).map (·.2)):=by
  induction r with
  | nil=>exact True.intro
  | @cons p q ps qs h t ih =>
    obtain ⟨h1,_,h2⟩:=h
    by_cases e:p.1=k
    · have e':q.1=k:=h1.symm.trans e
      have b:atKey (q::qs) k=some q.2:=by simp [atKey,List.find?_cons,e']
      rw [valV_pos e,b];exact h2
    · have e':¬ q.1=k:=fun z=>e (h1.trans z)
      have b:atKey (q::qs) k=atKey qs k:=by simp [atKey,List.find?_cons,e']
      rw [valV_neg e,b];exact ih
theorem KT.repl {H : Hp} {kvs : List (List Key × V)} {xs : List (List Key × Addr × Value)} (r : KT H kvs xs) (k : List Key) {y : V} {u : Value} (ry : RelV y u) :
    KT H (kvs.map fun kv=>if kv.1=k then (kv.1,y) else kv) (xs.map (putAt k u)):=by
  induction r with
  | nil=>exact .nil
  | @cons p q ps qs h t ih =>
    rw [List.map_cons,List.map_cons]
    refine .cons ?_ ih
    obtain ⟨h1,h2,h3⟩:=h
    unfold putAt
    by_cases e:p.1=k
    · rw [if_pos e,if_pos (h1.symm.trans e)];exact ⟨h1,h2,ry⟩
    · rw [if_neg e,if_neg (fun z=>e (h1.trans z))];exact ⟨h1,h2,h3⟩
theorem KT.put {H : Hp} {kvs : List (List Key × V)} {xs : List (List Key × Addr × Value)} (r : KT H kvs xs) (k : List Key) {b : Addr} {y : V} {u : Value} (hb : H b = some (.tup (k.map kV))) (ry : RelV y u) :
    KT H (putK kvs k y) (storedH xs k b u):=by
  have e:(kvs.any fun kv=>decide (kv.1=k))=(atKey xs k).isSome:=by
    rw [valV_any,(r.val k).isSome_eq,Option.isSome_map]
  unfold putK storedH
  rw [e]
  by_cases q:(atKey xs k).isSome=true
  · rw [if_pos q,if_pos q];exact r.repl k ry
  · rw [if_neg q,if_neg q];exact Paired.snoc r ⟨rfl,hb,ry⟩
theorem KT.keeps {H H':Hp} {kvs:List (List Key×V)} {xs:List (List Key×Addr×Value)} (r:KT H kvs xs) (ht:∀ b ys,H b=some (.tup ys)→H' b=some (.tup ys)):KT H' kvs xs :=
  Paired.mapP r fun _ _ z=>⟨z.1,ht _ _ z.2.1,z.2.2⟩
section
variable {P:Program} {w:World} {H:Hp} {h:Heap} {a:Addr}
theorem rd_of {u:HO} (ok:HOk P w H h) (e:Rd H a u):ObjOk P w H h a u:=e.ok ok
theorem dk_rd {kvs:List (Key×V)} (ok:HOk P w H h) (e:Rd H a (.dK kvs)):kvs.length≤sizeLine∧(a == sysModules)=false∧∃ vs,KV kvs vs∧h.DictOf (mixKind P w) a vs :=
  show ObjOk P w H h a (.dK kvs) from rd_of ok e
theorem dk_of {kvs:List (Key×V)} (ok:HOk P w H h) (e:H a=some (.dK kvs)):kvs.length≤sizeLine∧(a == sysModules)=false∧∃ vs,KV kvs vs∧h.DictOf (mixKind P w) a vs:=dk_rd ok (.inl e)
theorem key_of {ks:List Key} (ok:HOk P w H h) (e:H a=some (.tup (ks.map kV))):(tupleKind (mixKind P w)).is h ks a:=by
  obtain ⟨_,its,r,o,h1,h2,n,h3⟩:=(show ObjOk P w H h a (.tup (ks.map kV)) from ok a _ e)
  exact ⟨o,its.toArray,n,h1,h2,h3,by simpa using items_are r⟩
theorem dt_rd {kvs : List (List Key × V)} (ok : HOk P w H h) (e : Rd H a (.dT kvs)) : kvs.length ≤ sizeLine ∧ (a == sysModules) = false ∧
    ∃ xs,KT H kvs xs∧h.DictOfH (tupleKind (mixKind P w)) a xs:=by
  obtain ⟨z,y,xs,r,o,es,ep,h1,h2,h3,h4,h5⟩:=(show ObjOk P w H h a (.dT kvs) from rd_of ok e)
  refine ⟨z,y,xs,r,o,es,ep,h1,h2,h3,h4,fun x hx=>?_,h5⟩
  have all:∀ {l:List (List Key×V)} {m:List (List Key×Addr×Value)},KT H l m→∀ x∈m,(tupleKind (mixKind P w)).is h x.1 x.2.1:=by
    intro l m q
    induction q with
    | nil=>intro x hx;exact nomatch hx
    | @cons p q ps qs hq t ih =>
      intro x hx
      rcases List.mem_cons.mp hx with e | hx
      · subst e
        exact key_of ok (by rw [← hq.1];exact hq.2.1)
      · exact ih x hx
  exact all r x hx
theorem dt_of {kvs : List (List Key × V)} (ok : HOk P w H h) (e : H a = some (.dT kvs)) : kvs.length ≤ sizeLine ∧ (a == sysModules) = false ∧
    ∃ xs,KT H kvs xs∧h.DictOfH (tupleKind (mixKind P w)) a xs:=dt_rd ok (.inl e)
end
def DGet (H:Hp) (a:Addr) (y:V) (r:Option V):Prop :=
  (∃ kvs k,Rd H a (.dK kvs)∧y=kV k∧r=valV kvs k)∨∃ kvs k b,Rd H a (.dT kvs)∧y=.ref b∧H b=some (.tup (k.map kV))∧r=valV kvs k
def DPut (H:Hp) (a:Addr) (y v:V) (H':Hp):Prop :=
  (∃ kvs k,H a=some (.dK kvs)∧y=kV k∧kvs.length<sizeLine∧H'=upd H a (.dK (putK kvs k v))) ∨
  ∃ kvs k b,H a=some (.dT kvs)∧y=.ref b∧H b=some (.tup (k.map kV))∧kvs.length<sizeLine∧H'=upd H a (.dT (putK kvs k v))
section
variable {X:Cx} {pins:List (Addr×Obj)} {σ:St} {H:Hp} {s:Shared} {a:Addr} {y v:V} {u r:Value} {o:Option V} {A:Around} {E:Value→Shared→Prop}
theorem Inv.big (I:Inv X pins σ H s):sysModules<s.heap.objs.size:=by
  have h:mainGlobals<s.heap.objs.size:=(I.mod.glob.keeps I.bk).lt
  exact Nat.lt_trans (by decide) h
theorem d_in {Q : Value → Shared → Prop} (hu : A.units + 1 < cLine) (I : Inv X pins σ H s) (g : DGet H a y o) (ry : RelV y u) (h : ∀ s', Inv X pins σ H s' → Q (.bool o.isSome) s') :
    wpAny (model X.prog X.w) A (compareOp .In u (.ref a)) Q E s:=by
  rcases g with ⟨kvs,k,e,ey,l⟩ | ⟨kvs,k,b,e,ey,eb,l⟩
  · subst ey
    obtain ⟨z,hd,vs,rel,dd⟩:=dk_rd I.hok e
    refine wpAny_in_of (kV_is ry) hd dd.mapOf ?_
    rw [← (rel.val k).isSome_eq,← l]
    exact h _ (I.tok _)
  · subst ey
    cases (show u=Value.ref b from ry)
    obtain ⟨z,hd,xs,rel,dd⟩:=dt_rd I.hok e
    refine wpAny_in_heap (tupleKind_room_in1 hu) (key_of I.hok eb) hd dd ?_
    have q:=(rel.val k).isSome_eq
    rw [Option.isSome_map] at q
    rw [← q,← l]
    exact h _ (I.tok _)
theorem d_notIn {Q : Value → Shared → Prop} (hu : A.units + 1 < cLine) (I : Inv X pins σ H s) (g : DGet H a y o) (ry : RelV y u) (h : ∀ s', Inv X pins σ H s' → Q (.bool (!o.isSome)) s') :
    wpAny (model X.prog X.w) A (compareOp .NotIn u (.ref a)) Q E s:=by
  rcases g with ⟨kvs,k,e,ey,l⟩ | ⟨kvs,k,b,e,ey,eb,l⟩
  · subst ey
    obtain ⟨z,hd,vs,rel,dd⟩:=dk_rd I.hok e
    refine wpAny_notIn_of (kV_is ry) hd dd.mapOf ?_
    rw [← (rel.val k).isSome_eq,← l]
    exact h _ (I.tok _)
  · subst ey
    cases (show u=Value.ref b from ry)
    obtain ⟨z,hd,xs,rel,dd⟩:=dt_rd I.hok e
    refine wpAny_notIn_heap (tupleKind_room_in1 hu) (key_of I.hok eb) hd dd ?_
    have q:=(rel.val k).isSome_eq
    rw [Option.isSome_map] at q
    rw [← q,← l]
    exact h _ (I.tok _)
theorem d_write {h' : Heap} {t' : Nat} {ob : HO} (I : Inv X pins σ H s) (mu : Mut (H a)) (hs : Heap.SameBut a s.heap h') (he : ∃ q, h'.get? a = some q) (new : ObjOk X.prog X.w (upd H a ob) h' a ob) :
    Inv X pins σ (upd H a ob) { s with heap:=h',toks:=t' } :=
  I.write (x:=a) (e:=a) mu (.inl rfl) (fun b q hb z=>(hs.2 b hb).trans z) he new
theorem dk_new {P : Program} {w : World} {H' : Hp} {h' : Heap} {kvs : List (Key × V)} {vs : List (Key × Value)} (z : kvs.length ≤ sizeLine) (hd : (a == sysModules) = false) (rel : KV kvs vs) (dd : h'.DictOf (mixKind P w) a vs) :
    ObjOk P w H' h' a (.dK kvs):=⟨z,hd,vs,rel,dd⟩
theorem d_setItem {H' : Hp} {Q : Unit → Shared → Prop} (hu : A.units + 1 < cLine) (I : Inv X pins σ H s) (g : DPut H a y v H') (ry : RelV y u) (rv : RelV v r) (h : ∀ s', Inv X pins σ H' s' → Q () s') :
    wpAny (model X.prog X.w) A (setItem (.ref a) u r) Q E s:=by
  rcases g with ⟨kvs,k,e,ey,l,eH⟩ | ⟨kvs,k,b,e,ey,eb,l,eH⟩
  · subst ey eH
    obtain ⟨z,hd,vs,rel,dd⟩:=dk_of I.hok e
    have hz:vs.length≤sizeLine:=by rw [← rel.length];exact z
    have hl:(putK kvs k v).length≤sizeLine:=by have:=length_putK kvs k v;lia
    refine wpAny_setItem_pairs (hsz:=hz) (kV_is ry) dd fun h' dd' hs=>h _ ?_
    have he:∃ q,h'.get? a=some q:=let ⟨q,_,_,hq,_⟩:=dd';⟨q,hq⟩
    exact d_write I (by rw [e];exact True.intro) hs he (dk_new hl hd (rel.put k rv) dd')
  · subst ey eH
    cases (show u=Value.ref b from ry)
    obtain ⟨z,hd,xs,rel,dd⟩:=dt_of I.hok e
    have hz:xs.length≤sizeLine:=by rw [← Paired.length rel];exact z
    have hl:(putK kvs k v).length≤sizeLine:=by have:=length_putK kvs k v;lia
    refine wpAny_setItem_heap (hsz:=hz) (tupleKind_room_in1 hu) (key_of I.hok eb) dd fun h' dd' hs=>h _ ?_
    obtain ⟨q,es,ep,hq,h2,h3,h4,_,h5⟩:=dd'
    refine d_write I (by rw [e];exact True.intro) hs ⟨q,hq⟩ ⟨hl,hd,_,(rel.put k eb rv).keeps fun c ys ec=>?_,q,es,ep,hq,h2,h3,h4,h5⟩
    rw [upd_ne (ne_of ec e (fun z=>nomatch z))]
    exact ec
end
section
variable {X:Cx} {pins:List (Addr×Obj)} {σ:St} {H:Hp} {s:Shared} {a:Addr} {kvs:List (Key×V)} {k:Key} {u:Value} {A:Around} {E:Value→Shared→Prop}
end
def tDIn (ty td:TE):TE:=fun σ H Q=>ty σ H fun y H1=>td σ H1 fun x H2=>∃ a o,x=.ref a∧DGet H2 a y o∧Q (.bl o.isSome) H2
def tDNotIn (ty td:TE):TE:=fun σ H Q=>ty σ H fun y H1=>td σ H1 fun x H2=>∃ a o,x=.ref a∧DGet H2 a y o∧Q (.bl (!o.isSome)) H2
def sDPut (td ty tv:TE):TS:=fun D σ H=>tv σ H fun v H1=>td σ H1 fun x H2=>ty σ H2 fun y H3=>∃ a H4,x=.ref a∧DPut H3 a y v H4∧D.nx σ H4
section
variable {X:Cx} {o i e value:Expr} {pos pos' tpos:Pos} {td ty tv:TE}
theorem pc_din (hu:X.A.units+1<cLine) (hi:PE X i ty) (ho:PE X o td):PC X .In i o (tDIn ty td):=by
  intro pins s σ H Q I h
  refine thn (hi pins s σ H _ I h) fun iv s1 ⟨y,H1,I1,ry,q1⟩=>thn (ho pins s1 σ H1 _ I1 q1) fun u s2 ⟨x,H2,I2,rx,a,ov,ex,g,q2⟩=>?_
  subst ex
  obtain rfl:u=Value.ref a:=rx
  exact d_in hu I2 g ry fun s3 I3=>⟨.bl ov.isSome,H2,I3,rfl,q2⟩
theorem pc_dnotin (hu:X.A.units+1<cLine) (hi:PE X i ty) (ho:PE X o td):PC X .NotIn i o (tDNotIn ty td):=by
  intro pins s σ H Q I h
  refine thn (hi pins s σ H _ I h) fun iv s1 ⟨y,H1,I1,ry,q1⟩=>thn (ho pins s1 σ H1 _ I1 q1) fun u s2 ⟨x,H2,I2,rx,a,ov,ex,g,q2⟩=>?_
  subst ex
  obtain rfl:u=Value.ref a:=rx
  exact d_notIn hu I2 g ry fun s3 I3=>⟨.bl (!ov.isSome),H2,I3,rfl,q2⟩
theorem ps_dput (hu : X.A.units + 1 < cLine) (ho : PE X o td) (hi : PE X i ty) (hv : PE X value tv) (hs : swapsWith value (some (.Subscript o i pos')) pos.line X.env = pure false) :
    PS X (.Assign [.Subscript o i pos'] value pos) (sDPut td ty tv):=by
  intro pins s σ H D I h
  refine wpAny_Assign_Subscript (thn (hv pins s σ H _ I h) fun r s1 ⟨v,H1,I1,rv,q1⟩=>thn (ho pins s1 σ H1 _ I1 q1) fun u s2 ⟨x,H2,I2,rx,q2⟩=>thn (hi pins s2 σ H2 _ I2 q2) fun iv s3 ⟨y,H3,I3,ry,a,H4,ex,g,q3⟩=>?_) hs
  subst ex
  obtain rfl:u=Value.ref a:=rx
  exact d_setItem hu I3 g ry rv fun s4 I4=>⟨σ,H4,I4,q3⟩
end
theorem dt_empty {P:Program} {w:World} {H:Hp} (h:Heap) (hb:sysModules<h.objs.size):ObjOk P w H (h.push { cls:=.type "dict",data:=.dict #[] }) h.objs.size (.dT []) :=
  ⟨Nat.zero_le _,beq_eq_false_iff_ne.mpr (Ne.symm (Nat.ne_of_lt hb)),[],.nil,_,#[],0,Heap.get?_push_size _ rfl,⟨rfl,rfl,rfl⟩,rfl,rfl,List.nodup_nil⟩
def tDNewT:TE:=fun _ H Q=>∀ p,H p=none→Q (.ref p) (upd H p (.dT []))
section
variable {X:Cx} {pos:Pos}
theorem pe_dnewT:PE X (.Dict [] [] pos) tDNewT:=fun pins s σ H Q I h =>
  wpAny_Dict_empty ⟨.ref s.heap.objs.size,_,I.laid (a:=s.heap.objs.size) (o:=.dT []) (t':=s.toks) (fun _ _ q=>Heap.get?_push_of_some _ q) (Nat.le_refl _) (dt_empty s.heap I.big),rfl,h _ (I.hok.fresh (Nat.le_refl _))⟩
end
structure M1 (X:Cx) (o:Expr) (m:Str) (apos:Pos) (e:Expr) (cpos:Pos):Prop where
  base:attributeBase o m X.env (eval o X.env)=eval o X.env
  few:((backTo cpos (starEach [e] X.env)).all (fun x=>!x.1) && (backToKw cpos (keywordEach [] X.env)).all (fun x=>x.1.isSome)
    && decide (([e]:List Expr).length+([]:List Keyword).length+(if ([]:List Keyword).isEmpty then 0 else 1)<30))=true
  line:(apos.endLine == cpos.line)=true
  trees:backTo cpos (starEach [e] X.env)=[(false,eval e X.env)]
structure M2 (X:Cx) (o:Expr) (m:Str) (apos:Pos) (e f:Expr) (cpos:Pos):Prop where
  base:attributeBase o m X.env (eval o X.env)=eval o X.env
  few:((backTo cpos (starEach [e,f] X.env)).all (fun x=>!x.1) && (backToKw cpos (keywordEach [] X.env)).all (fun x=>x.1.isSome)
    && decide (([e,f]:List Expr).length+([]:List Keyword).length+(if ([]:List Keyword).isEmpty then 0 else 1)<30))=true
  line:(apos.endLine == cpos.line)=true
  trees:backTo cpos (starEach [e,f] X.env)=[(false,eval e X.env),(false,eval f X.env)]
section
variable {X:Cx} {pins:List (Addr×Obj)} {σ:St} {H:Hp} {s:Shared} {a:Addr} {y d:V} {u r:Value} {o:Option V} {A:Around} {E:Value→Shared→Prop}
end
section
variable {X:Cx} {o e f:Expr} {apos cpos:Pos} {td ty tx:TE}
end
section
variable {X:Cx} {pins:List (Addr×Obj)} {σ:St} {H:Hp} {s:Shared} {a:Addr} {kvs:List (Key×V)} {A:Around} {E:Value→Shared→Prop}
end
section
variable {X:Cx} {pins:List (Addr×Obj)} {σ:St} {H:Hp} {s:Shared} {a:Addr} {y:V} {u:Value} {A:Around} {E:Value→Shared→Prop}
end
end L2
namespace HT
open PySem PyProof.Rows
def lexLt:List Int→List Int→Bool
  | [],[]=>false
  | [],_::_=>true
  | _::_,[]=>false
  | x::xs,y::ys=>if x=y then lexLt xs ys else decide (x<y)
theorem lexLt_cons (x y:Int) (xs ys:List Int):lexLt (x::xs) (y::ys)=if x=y then lexLt xs ys else decide (x<y):=rfl
theorem lexLt_nil_nil:lexLt [] []=false:=rfl
theorem lexLt_nil_cons (y:Int) (ys:List Int):lexLt [] (y::ys)=true:=rfl
theorem lexLt_cons_nil (x:Int) (xs:List Int):lexLt (x::xs) []=false:=rfl
theorem eqAt_int (A:Around) (s:Shared) (a:Int) (t:Tok) (c:Int) (u:Tok):∃ e,SeqAt.EqAt A s (.int a t) (.int c u) e∧(e=true ↔ a=c) :=
  ⟨(a == c),SeqAt.EqAt.int_int a t c u,by simp⟩
theorem rcLt_int (A : Around) (s : Shared) (a : Int) (t : Tok) (c : Int) (u : Tok) (prog : Program) (w : World) (E : Value → Shared → Prop) (Q : Value → Shared → Prop) (h : Q (.bool (decide (a < c))) s) :
    wpAny (model prog w) A (richCompare .Lt (.int a t) (.int c u)) Q E s :=
  (PyProof.Rows.lt_int h:wpAny (model prog w) A (compareOp .Lt (.int a t) (.int c u)) Q E s)
section
open PySem.SeqAt
open PySem.AutoSeq1 (wpAny_loadPart')
open PySem.MeetsSeq PySem.MeetsSeq2 PySem.MeetsSeq3
theorem tuple_lt_ints (l b : Addr) (items items2 : Array Value) (n n2 : Nat) (dd dd2 : Option Addr) (sl sl2 : Array (Option Value)) (ns ms : List Int) (hi : IntsAre items.toList ns) (hj : IntsAre items2.toList ms) :
    Meets (Builtin.«tuple.__lt__» ⟨[.ref l,.ref b],[]⟩)
      (fun _ R s=>s.heap.get? l=some { cls:=.type "tuple",dict:=dd,data:=.seq items n,slots:=sl }∧s.heap.get? b=some { cls:=.type "tuple",dict:=dd2,data:=.seq items2 n2,slots:=sl2 } ∧
        R (.ok (.ret (.bool (lexLt ns ms)))) s) :=
  .of_wp fun prog w A R s h=>by
    obtain ⟨hp,g,d,tk,os⟩:=s;obtain ⟨hl,hb,h⟩:=h
    have f2:=AutoSeq1.sub_tuple_tuple
    have z1:items.size=ns.length:=by rw [← hi.length];simp
    have z2:items2.size=ms.length:=by rw [← hj.length];simp
    wp_walk using wpAny_loadPart' hl,wpAny_loadPart' hb,wpAny_forIn_list _ (fun rest b s'=>b.1=none∧s'=⟨hp,g,d,tk,os⟩∧∃ (vs ws:List Value) (ns' ms':List Int),rest=vs.zip ws ∧
      IntsAre vs ns'∧IntsAre ws ms'∧ns'.length+items2.size=ms'.length+items.size∧R (.ok (.ret (.bool (lexLt ns' ms')))) ⟨hp,g,d,tk,os⟩) _
    case turn =>
      rintro ⟨y,x⟩ rest b s' ⟨hb',rfl,vs,ws,ns',ms',hz,hvi,hwi,hlen,hR⟩
      cases hvi with
      | nil=>rw [List.zip_nil_left] at hz;cases hz
      | cons a t hvi' =>
        cases hwi with
        | nil=>rw [List.zip_nil_right] at hz;cases hz
        | cons c u hwi' =>
          rw [List.zip_cons_cons] at hz
          injection hz with hyx hrest
          injection hyx with hy hx
          subst hy hx
          rw [lexLt_cons] at hR
          simp only [List.length_cons] at hlen
          obtain ⟨e,he,hiff⟩:=eqAt_int A.in1 ⟨hp,g,d,tk,os⟩ a t c u
          refine wpAny_bind (he prog w _ _ ?_)
          cases e with
          | true =>
            rw [if_pos (hiff.mp rfl)] at hR
            wp_walk
            exact ⟨rfl,rfl,_,_,_,_,hrest,hvi',hwi',by lia,hR⟩
          | false =>
            rw [if_neg (fun q=>absurd (hiff.mpr q) Bool.false_ne_true)] at hR
            have hri:=rcLt_int A.in1 ⟨hp,g,d,tk,os⟩ a t c u prog w
            wp_walk using hri
            exact ⟨_,rfl,by simpa using hR⟩
    case fin =>
      rintro ⟨b1,b2⟩ s' ⟨hb',rfl,vs,ws,ns',ms',hz,hvi,hwi,hlen,hR⟩
      simp only at hb'
      subst hb'
      have hv:lexLt ns' ms'=decide (items.size<items2.size):=by
        cases hvi with
        | nil =>
          cases hwi with
          | nil =>
            simp only [List.length_nil] at hlen
            rw [lexLt_nil_nil]
            exact (decide_eq_false (by lia)).symm
          | cons c u hw =>
            simp only [List.length_nil,List.length_cons] at hlen
            rw [lexLt_nil_cons]
            exact (decide_eq_true (by lia)).symm
        | cons a t hv =>
          cases hwi with
          | nil =>
            simp only [List.length_nil,List.length_cons] at hlen
            rw [lexLt_cons_nil]
            exact (decide_eq_false (by lia)).symm
          | cons c u hw =>
            rw [List.zip_cons_cons] at hz
            cases hz
      rw [hv] at hR
      wp_walk
      exact ⟨_,rfl,by simpa [Builtin.Tuple.tupleCompareSizes] using hR⟩
    case h =>
      exact ⟨rfl,rfl,items.toList,items2.toList,ns,ms,rfl,hi,hj,by lia,h⟩
end
section
variable {prog:Program} {w:World} {A:Around} {E:Value→Shared→Prop} {s:Shared}
theorem lt_tupInts {l b : Addr} {items items2 : Array Value} {ns ms : List Int} {Q : Value → Shared → Prop} (hl : IsTup s.heap l items) (hb : IsTup s.heap b items2) (hi : IntsAre items.toList ns) (hj : IntsAre items2.toList ms)
    (hu:A.units<cLine) (h:Q (.bool (lexLt ns ms)) s):wpAny (model prog w) A (compareOp .Lt (.ref l) (.ref b)) Q E s:=by
  obtain ⟨⟨cls,dd,data,sl⟩,ho,hc,n,hd⟩:=id hl
  obtain ⟨⟨cls2,dd2,data2,sl2⟩,ho2,hc2,n2,hd2⟩:=id hb
  simp only at hc hd hc2 hd2
  subst hc hd hc2 hd2
  exact richCompare_meets_room (op:=.Lt) ⟨_,ho,rfl⟩ ⟨_,ho2,rfl⟩ PySem.F.slot_tuple_lt PySem.F.entry_tuple_lt (PySem.F.args_tuple_lt_2 _ _) (tuple_lt_ints l b items items2 n n2 dd dd2 sl sl2 ns ms hi hj)
    ⟨ho,ho2,show Value.bool (lexLt ns ms)≠Value.notImplemented∧Q (.bool (lexLt ns ms)) s from ⟨(fun x=>nomatch x),h⟩⟩ hu
theorem cat_tup {t b : Addr} {vs ws : List Value} {Q : Value → Shared → Prop} (ht : IsTup s.heap t vs.toArray) (hb : IsTup s.heap b ws.toArray) (hv : vs ≠ [])
    (h1:ws=[]→Q (.ref t) s) (h2:ws≠[]→Q (.ref s.heap.objs.size) { s with heap:=s.heap.push { cls:=.type "tuple",data:=.seq (vs++ws).toArray } })
    (hsz:vs.length+ws.length≤sizeLine):wpAny (model prog w) A (binaryOp .Add (.ref t) (.ref b)) Q E s:=by
  obtain ⟨⟨cls,dd,data,sl⟩,ho,hc,n,hd⟩:=id ht
  obtain ⟨⟨cls2,dd2,data2,sl2⟩,ho2,hc2,n2,hd2⟩:=id hb
  simp only at hc hd hc2 hd2
  subst hc hd hc2 hd2
  have e:vs.toArray++ws.toArray=(vs++ws).toArray:=by simp
  by_cases hw:ws=[]
  · exact concat_meets ⟨_, ho, rfl⟩ ⟨_, ho2, rfl⟩ noFill_tuple_add seq_tuple_add PySem.F.slot_tuple_add PySem.F.entry_tuple_add (PySem.F.args_tuple_add_2 _ _)
      (tuple_addW1 t b vs.toArray ws.toArray n n2 dd dd2 sl sl2 (by simpa using hv) (by simp [hw])) ⟨ho,ho2,h1 hw⟩
  · refine concat_meets ⟨_, ho, rfl⟩ ⟨_, ho2, rfl⟩ noFill_tuple_add seq_tuple_add PySem.F.slot_tuple_add PySem.F.entry_tuple_add (PySem.F.args_tuple_add_2 _ _)
      (tuple_addW2 t b vs.toArray ws.toArray n n2 dd dd2 sl sl2 (by simpa using hv) (by simpa using hw) (by rw [List.size_toArray,List.size_toArray];exact hsz)) ⟨ho,ho2,?_⟩
    rw [e]
    exact h2 hw
def sIx (n d:Nat):Option Int→Nat
  | none=>d
  | some v=>if v<0 then (v+(n:Int)).toNat else min v.toNat n
theorem sIx_none (n d:Nat):sIx n d none=d:=rfl
theorem sIx_nat (n d k:Nat):sIx n d (some (k:Int))=min k n:=by
  show (if (k:Int)<0 then ((k:Int)+(n:Int)).toNat else min (k:Int).toNat n)=min k n
  rw [if_neg (by lia),Int.toNat_natCast]
end
end HT
namespace L2
open PySem PySem.Spec PyProof.Rows
abbrev TO:=St→Hp→(Option Int→Hp→Prop)→Prop
def PO (X:Cx) (e:Option Expr) (t:TO):Prop :=
  ∀ (pins:List (Addr×Obj)) (s:Shared) (σ:St) (H:Hp) (Q:Option Int→Hp→Prop),Inv X pins σ H s→t σ H Q →
    wpAny (model X.prog X.w) X.A (evalPart e X.env) (fun u s'=>∃ o H',Inv X pins σ H' s'∧IsPart u o∧Q o H') X.xe s
def tNoPart:TO:=fun _ H Q=>Q none H
def tPart (t:TE):TO:=fun σ H Q=>t σ H fun x H1=>∃ i,x=.int i∧Q (some i) H1
theorem intsAre_of {ns:List Int}:∀ {us:List Value},Vals (ns.map V.int) us→IntsAre us ns:=by
  induction ns with
  | nil=>intro us r;rw [List.map_nil] at r;cases r;exact .nil
  | cons n ns ih =>
    intro us r
    rw [List.map_cons] at r
    cases r with
    | cons r1 r2 =>
      obtain ⟨t,e⟩:=r1
      subst e
      exact .cons n t (ih r2)
section
variable {X:Cx} {e:Expr} {te:TE} {lo hi:Option Expr} {tl th:TO} {pos p2:Pos}
theorem po_none:PO X none tNoPart:=by
  intro pins s σ H Q I h
  rw [evalPart_none]
  exact wpAny_pure ⟨none,H,I,.none,h⟩
theorem po_some (h:PE X e te):PO X (some e) (tPart te):=by
  intro pins s σ H Q I hw
  rw [evalPart_some]
  refine thn (h pins s σ H _ I hw) fun u s1 ⟨x,H1,I1,r1,q1⟩=>?_
  obtain ⟨i,rfl,q⟩:=q1
  obtain ⟨t,rfl⟩:=r1
  exact ⟨some i,H1,I1,.int i t,q⟩
def SlR (X:Cx) (r:V→Option Int→Option Int→Hp→VK→Prop):Prop :=
  ∀ (pins:List (Addr×Obj)) (s:Shared) (σ:St) (H:Hp) (x:V) (v vl vu:Value) (lo hi:Option Int) (sl:Addr) (Q:VK),Inv X pins σ H s→RelV x v→s.heap.IsSliceOf sl vl vu .none→IsPart vl lo→IsPart vu hi→r x lo hi H Q →
    ∃ T id,typeLookup (.type T) "__getitem__" = pure (some (.builtin id))∧s.TypeIs v T∧wpAny (model X.prog X.w) X.A (getItem v (.ref sl)) (EP X pins σ Q) X.xe s
def tSl (r:V→Option Int→Option Int→Hp→VK→Prop) (te:TE) (tl th:TO):TE:=fun σ H Q=>te σ H fun x H1=>tl σ H1 fun l H2=>th σ H2 fun u H3=>r x l u H3 Q
theorem pe_slice {r:V→Option Int→Option Int→Hp→VK→Prop} (hr:SlR X r) (he:PE X e te) (hl:PO X lo tl) (hu:PO X hi th):PE X (.Subscript e (.Slice lo hi none p2) pos) (tSl r te tl th):=by
  intro pins s σ H Q I h
  refine Subscript_ (thn (he pins s σ H _ I h) fun v s1 ⟨x,H1,I1,r1,q1⟩=>?_)
  refine wpAny_Slice (thn (hl pins s1 σ H1 _ I1 q1) fun vl s2 ⟨l,H2,I2,pl,q2⟩=>thn (hu pins s2 σ H2 _ I2 q2) fun vu s3 ⟨u,H3,I3,pu,q3⟩=>?_)
  rw [evalPart_none]
  refine wpAny_pure ?_
  have I4:Inv X pins σ H3 { s3 with heap:=s3.heap.push { cls:=.type "slice",data:=.fields #[vl,vu,.none] } }:=I3.kept (t':=s3.toks) fun b ob q=>Heap.get?_push_of_some _ q
  obtain ⟨T,id,hT,ht,hg⟩:=hr pins { s3 with heap:=s3.heap.push { cls:=.type "slice",data:=.fields #[vl,vu,.none] } } σ H3 x v vl vu l u s3.heap.objs.size Q I4 r1 (Heap.IsSliceOf.new ..) pl pu q3
  show wpAny (model X.prog X.w) X.A (subscriptTail e (.Slice lo hi none p2) v (.ref s3.heap.objs.size)) (EP X pins σ Q) X.xe { s3 with heap:=s3.heap.push { cls:=.type "slice",data:=.fields #[vl,vu,.none] } }
  exact tail_any (ops:=[.ref s3.heap.objs.size,v]) ht hT hg (by with_unfolding_all rfl)
def cutV (xs:List V) (lo hi:Option Int):List V:=(xs.drop (HT.sIx xs.length 0 lo)).take (HT.sIx xs.length xs.length hi - HT.sIx xs.length 0 lo)
theorem cutV_length (xs:List V) (lo hi:Option Int):(cutV xs lo hi).length≤xs.length:=by
  unfold cutV
  rw [List.length_take,List.length_drop]
  lia
def rCatT (K:PySem.W.Frag):R2:=fun x y H Q=>∃ a b xs ys,x=.ref a∧y=.ref b∧SqT K H a xs∧SqT K H b ys∧xs≠[]∧xs.length+ys.length≤sizeLine ∧
  (ys=[]→Q (.ref a) H)∧(ys≠[]→∀ p,H p=none→Q (.ref p) (upd H p (.tup (xs++ys))))
theorem Vals.nil_iff {xs:List V} {us:List Value} (r:Vals xs us):us=[] ↔ xs=[]:=by
  cases r with
  | nil=>simp
  | cons _ _=>simp
theorem op_catT:OpR X (binaryOp .Add) (rCatT X.K):=by
  intro pins s σ H x y v u Q I rx ry h
  obtain ⟨a,b,xs,ys,rfl,rfl,ha,hb,hx,hz,q1,q2⟩:=h
  cases rx
  cases ry
  obtain ⟨its,r1,p1,_⟩:=I.tuple ha
  obtain ⟨its2,r2,p2,_⟩:=I.tuple hb
  refine HT.cat_tup p1 p2 (fun z=>hx (r1.nil_iff.mp z)) (fun z=>⟨.ref a,H,I,rfl,q1 (r2.nil_iff.mp z)⟩) (fun z=>?_) (by rw [← r1.length,← r2.length];exact hz)
  refine ⟨.ref s.heap.objs.size,_,I.laid (t':=s.toks) (o:=.tup (xs++ys)) (fun b ob q=>Heap.get?_push_of_some _ q) (Nat.le_refl _) ?_,rfl,q2 (fun w=>z (r2.nil_iff.mpr w)) _ (I.hok.fresh (Nat.le_refl _))⟩
  exact ⟨by rw [List.length_append];exact hz,_,r1.append r2,IsTup.new _ _⟩
end
end L2
namespace L2
open PySem PySem.Spec PyProof.Rows
def ixN (n:Nat) (i:Int):Option Nat:=if 0≤i then (if i<n then some i.toNat else none) else if -(n:Int)≤i then some (i+n).toNat else none
def atI {α:Type} (xs:List α) (i:Int):Option α:=(ixN xs.length i).bind fun j=>xs[j]?
theorem ixN_seq {n:Nat} {i:Int} {j:Nat} (h:ixN n i=some j):seqIndex? i n=some j∧j<n∧-(n:Int)≤i∧i<n:=by
  unfold ixN at h
  by_cases h0:0≤i
  · rw [if_pos h0] at h
    by_cases h1:i<n
    · rw [if_pos h1] at h
      have e:i.toNat=j:=Option.some.inj h
      exact ⟨by rw [seqIndex_of h0 h1,e],by lia,by lia,h1⟩
    · rw [if_neg h1] at h;cases h
  · rw [if_neg h0] at h
    by_cases h1:-(n:Int)≤i
    · rw [if_pos h1] at h
      have e:(i+n).toNat=j:=Option.some.inj h
      exact ⟨by rw [seqIndex_neg (by lia) h1,e],by lia,h1,by lia⟩
    · rw [if_neg h1] at h;cases h
theorem atI_get {α:Type} {xs:List α} {i:Int} {v:α} (h:atI xs i=some v):∃ j,seqIndex? i xs.length=some j∧xs[j]?=some v∧j<xs.length∧-(xs.length:Int)≤i∧i<xs.length:=by
  unfold atI at h
  cases e:ixN xs.length i with
  | none=>rw [e] at h;cases h
  | some j =>
    rw [e] at h
    obtain ⟨h1,h2,h3,h4⟩:=ixN_seq e
    exact ⟨j,h1,h,h2,h3,h4⟩
theorem atI_nat {α:Type} {xs:List α} {j:Nat} {v:α} (h:xs[j]?=some v):atI xs (j:Int)=some v:=by
  have hj:j<xs.length:=(List.getElem?_eq_some_iff.mp h).1
  have e:ixN xs.length (j:Int)=some j:=by
    unfold ixN
    rw [if_pos (by lia),if_pos (by lia)];simp
  unfold atI;rw [e];exact h
def PlainIx (b:Expr):Prop:=∀ o i,subscripted b false o i=operate [o,i] (getItem o i)
def IxR (X:Cx) (r:R2):Prop :=
  ∀ (value slice:Expr) (pins:List (Addr×Obj)) (s:Shared) (σ:St) (H:Hp) (x y:V) (v u:Value) (Q:VK),Inv X pins σ H s→RelV x v→RelV y u→r x y H Q →
    subscripted slice false v u=operate [v,u] (getItem v u)→wpAny (model X.prog X.w) X.A (subscriptTail value slice v u) (EP X pins σ Q) X.xe s
def MtR (X:Cx) (id:String) (r:V→List V→Hp→VK→Prop):Prop :=
  ∀ (pins:List (Addr×Obj)) (s:Shared) (σ:St) (H:Hp) (x:V) (xs:List V) (v:Value) (us:List Value) (Q:VK),Inv X pins σ H s→RelV x v→Vals xs us→r x xs H Q →
    wpAny (model X.prog X.w) X.A (call (.builtin id) (v::us)) (EP X pins σ Q) X.xe s
section
variable {X:Cx} {a b:Expr} {ta tb:TE} {pos:Pos}
theorem pe_ix {r:R2} (hr:IxR X r) (ha:PE X a ta) (hb:PE X b tb) (hs:PlainIx b):PE X (.Subscript a b pos) (tOp r ta tb):=by
  intro pins s σ H Q I h
  exact Subscript_ (binT ha hb I h fun v u s2 x y H2 I2 rx ry q=>hr a b pins s2 σ H2 x y v u Q I2 rx ry q (hs _ _))
def rIxL (K:PySem.W.Frag):R2:=fun x y H Q=>∃ p xs i v,x=.ref p∧y=.int i∧SqL K H p xs∧atI xs i=some v∧Q v H
def rIxT (K:PySem.W.Frag):R2:=fun x y H Q=>∃ p xs i v,x=.ref p∧y=.int i∧SqT K H p xs∧atI xs i=some v∧Q v H
def rIxS:R2:=fun x y H Q=>∃ z i c,x=.str z∧y=.int i∧z.length≤sizeLine∧atI z.cps.toList i=some c∧Q (.str ⟨#[c]⟩) H
theorem ix_list:IxR X (rIxL X.K):=by
  intro value slice pins s σ H x y v u Q I rx ry h hs
  obtain ⟨p,xs,i,z,rfl,rfl,hq,he,q⟩:=h
  cases rx
  obtain ⟨t,rfl⟩:=ry
  obtain ⟨its,r,pl,hz⟩:=I.list hq
  obtain ⟨j,h1,h2,h3,h4,h5⟩:=atI_get he
  obtain ⟨w,ew,rw'⟩:=r.get h2
  have hl:=r.length
  have hn:=line63
  have fin:EP X pins σ Q w s:=⟨z,H,I,rw',q⟩
  by_cases h0:0≤i
  · have hj : i.toNat = j := by
      rw [seqIndex_of h0 h5] at h1
      exact Option.some.inj h1
    exact item_listR pl.isList h0 (by lia) (by rw [hj];simpa using ew) fin hs
  · have hj : (i + (its.toArray.size : Int)).toNat = j := by
      rw [seqIndex_neg (by lia) h4] at h1
      rw [List.size_toArray,← hl]
      exact Option.some.inj h1
    exact subscriptTail_builtinR (x:=w) pl.isList.typeIs slot_list_getitem.lookup
      (wpAny_getItem_list_neg (Q:=fun r s'=>r=w∧EP X pins σ Q r s') pl.isList (by lia) (by rw [List.size_toArray] <;> lia) (by lia) (by rw [hj];simpa using ew) ⟨rfl,fin⟩) hs
theorem ix_tup:IxR X (rIxT X.K):=by
  intro value slice pins s σ H x y v u Q I rx ry h hs
  obtain ⟨p,xs,i,z,rfl,rfl,hq,he,q⟩:=h
  cases rx
  obtain ⟨t,rfl⟩:=ry
  obtain ⟨its,r,pl,hz⟩:=I.tuple hq
  obtain ⟨j,h1,h2,h3,h4,h5⟩:=atI_get he
  obtain ⟨w,ew,rw'⟩:=r.get h2
  have hl:=r.length
  have hn:=line63
  have fin:EP X pins σ Q w s:=⟨z,H,I,rw',q⟩
  exact subscriptTail_builtinR (x:=w) pl.typeIs slot_tuple_getitem.lookup
    (getItem_tuple (j:=j) (Q:=fun r s'=>r=w∧EP X pins σ Q r s') pl (by lia) (by lia) (by rw [List.size_toArray,← hl];exact h1) (by simpa using ew) ⟨rfl,fin⟩) hs
theorem ix_str:IxR X rIxS:=by
  intro value slice pins s σ H x y v u Q I rx ry h hs
  obtain ⟨z,i,c,rfl,rfl,hz,he,q⟩:=h
  obtain ⟨t,rfl⟩:=rx
  obtain ⟨t',rfl⟩:=ry
  obtain ⟨j,h1,h2,h3,h4,h5⟩:=atI_get he
  have hl:z.cps.toList.length=z.length:=by simp [Str.length]
  rw [hl] at h1 h4 h5
  have hn:=line63
  exact tail_any (typeIs_str s z t) slot_str_getitem.lookup (getItem_str (c:=c) (by
    have e1:decide (i < -(2 ^ 63:Int))=false:=decide_eq_false (by lia)
    have e2:decide (i ≥ 2 ^ 63)=false:=decide_eq_false (by lia)
    rw [e1,e2,Bool.or_false]) (by rw [h1];simpa using h2) ⟨.str ⟨#[c]⟩,H,I.tok _,⟨_,rfl⟩,q⟩) hs
theorem mapSeq_set (its:List Value) (n j:Nat) (u:Value):Obj.mapSeq (·.setIfInBounds j u) { cls:=.type "list",data:=.seq its.toArray n }={ cls:=.type "list",data:=.seq (its.set j u).toArray n }:=by
  simp [Obj.mapSeq]
theorem Inv.lst {pins : List (Addr × Obj)} {σ : St} {H : Hp} {s : Shared} {p : Addr} {xs : List V} (I : Inv X pins σ H s) (h : H p = some (.lst xs)) :
    ∃ (its:List Value) (n:Nat),Vals xs its∧s.heap.get? p=some { cls:=.type "list",data:=.seq its.toArray n }∧xs.length≤sizeLine:=by
  obtain ⟨z,its,n,r,e⟩:=I.hok p _ h
  exact ⟨its,n,r,e,z⟩
theorem Inv.lstUpd {pins : List (Addr × Obj)} {σ : St} {H : Hp} {s : Shared} {p : Addr} {xs ys : List V} {its its' : List Value} {n n' : Nat} {f : Obj → Obj} (I : Inv X pins σ H s) (h : H p = some (.lst xs))
    (ho:s.heap.get? p=some { cls:=.type "list",data:=.seq its.toArray n }) (hf:f { cls:=.type "list",data:=.seq its.toArray n }={ cls:=.type "list",data:=.seq its'.toArray n' }) (r:Vals ys its') (hz:ys.length≤sizeLine) (t:Nat) :
    Inv X pins σ (upd H p (.lst ys)) { s with heap:=s.heap.update p f,toks:=t }:=by
  have e:(s.heap.update p f).get? p=some { cls:=.type "list",data:=.seq its'.toArray n' }:=by
    rw [Heap.get?_update_self f ho (by rw [hf] <;> rfl),hf]
  refine I.write (x:=p) (e:=p) (by rw [h];trivial) (.inl rfl) (fun b u hb q=>(Heap.get?_update_other _ _ (Ne.symm hb)).trans q) ⟨_,e⟩ ?_
  exact ⟨hz,its',n',r,e⟩
def rSetL:V→V→V→Hp→(Hp→Prop)→Prop:=fun o i v H Q=>∃ p xs k j,o=.ref p∧i=.int k∧H p=some (.lst xs)∧ixN xs.length k=some j∧Q (upd H p (.lst (xs.set j v)))
theorem set_list:PSet X rSetL:=by
  intro pins s σ H o i v ov iv u Q I ro ri rv h
  obtain ⟨p,xs,k,j,rfl,rfl,hp,hj,q⟩:=h
  cases ro
  obtain ⟨t,rfl⟩:=ri
  obtain ⟨its,n,r,ho,hz⟩:=I.lst hp
  obtain ⟨h1,h2,h3,h4⟩:=ixN_seq hj
  have hl:=r.length
  have hn:=line63
  have I':Inv X pins σ (upd H p (.lst (xs.set j v))) { s with heap:=s.heap.update p (Obj.mapSeq (·.setIfInBounds j u)) } :=
    I.lstUpd hp ho (mapSeq_set its n j u) (r.set rv j) (by rw [List.length_set];exact hz) s.toks
  by_cases h0:0≤k
  · have hk : k.toNat = j := by
      rw [seqIndex_of h0 h4] at h1
      exact Option.some.inj h1
    exact PySem.W.ki_setAt ho h0 (by lia) (by rw [List.size_toArray,← hl];exact h4) (by rw [hk];exact ⟨_,I',q⟩)
  · have hk : (k + (its.toArray.size : Int)).toNat = j := by
      rw [seqIndex_neg (by lia) h3] at h1
      rw [List.size_toArray,← hl]
      exact Option.some.inj h1
    exact PySem.W.ki_setBack ho (by lia) (by rw [List.size_toArray,← hl];exact h3) (by lia) (by rw [hk];exact ⟨_,I',q⟩)
theorem slice_bounds (lo hi:Option Int) (n:Nat):(sliceBounds lo hi none n).1=((HT.sIx n 0 lo:Nat):Int)∧(sliceBounds lo hi none n).2.1=((HT.sIx n n hi:Nat):Int)∧(sliceBounds lo hi none n).2.2=1:=by
  refine ⟨?_,?_,rfl⟩
  · cases lo with
    | none=>simp [sliceBounds,HT.sIx]
    | some i =>
      simp only [sliceBounds,HT.sIx,Option.getD_none,show (1:Int) > 0 by decide,if_true]
      by_cases h:i<0
      · simp only [h,if_true] <;> lia
      · simp only [h,if_false] <;> lia
  · cases hi with
    | none=>simp [sliceBounds,HT.sIx]
    | some i =>
      simp only [sliceBounds,HT.sIx,Option.getD_none,show (1:Int) > 0 by decide,if_true]
      by_cases h:i<0
      · simp only [h,if_true] <;> lia
      · simp only [h,if_false] <;> lia
theorem slicePick_cut (its:List Value) (lo hi:Option Int):slicePick its.toArray lo hi none=((its.drop (HT.sIx its.length 0 lo)).take (HT.sIx its.length its.length hi - HT.sIx its.length 0 lo)).toArray:=by
  obtain ⟨h1,h2,h3⟩:=slice_bounds lo hi its.toArray.size
  unfold slicePick
  rw [h1,h2,h3]
  simp only [sliceRange_one,pick_run,List.size_toArray] <;> rfl
def rSlL (K:PySem.W.Frag):V→Option Int→Option Int→Hp→VK→Prop:=fun x lo hi H Q=>∃ a xs,x=.ref a∧SqL K H a xs∧∀ p,H p=none→Q (.ref p) (upd H p (.lst (cutV xs lo hi)))
theorem sl_list:SlR X (rSlL X.K):=by
  intro pins s σ H x v vl vu lo hi sl Q I rx hs pl pu h
  obtain ⟨a,xs,rfl,hx,q⟩:=h
  cases rx
  obtain ⟨its,r,ht,hz⟩:=I.list hx
  have hlen:=r.length
  refine ⟨"list",_,slot_list_getitem.lookup,ht.isList.typeIs,?_⟩
  refine wpAny_getItem_list_slice ht.isList hs pl pu .none (by simp) ?_ (by rw [List.size_toArray] <;> lia)
  rw [slicePick_cut,← hlen]
  refine ⟨.ref s.heap.objs.size,_,I.laid (t':=s.toks) (o:=.lst (cutV xs lo hi)) (fun b ob q=>Heap.get?_push_of_some _ q) (Nat.le_refl _) ?_,rfl,q _ (I.hok.fresh (Nat.le_refl _))⟩
  exact ⟨Nat.le_trans (cutV_length xs lo hi) hz,_,0,(r.drop (HT.sIx xs.length 0 lo)).take (HT.sIx xs.length xs.length hi - HT.sIx xs.length 0 lo),Heap.get?_push_size _ rfl⟩
theorem call_len_seq:CallR X (.builtin "len") (fun xs H Q=>∃ p ys,xs=[.ref p]∧(SqL X.K H p ys∨SqT X.K H p ys)∧Q (.int ys.length) H):=by
  intro pins s σ H xs us Q I r h
  obtain ⟨p,ys,rfl,hq,q⟩:=h
  obtain ⟨u,rfl,rx⟩:=vals1 r
  cases rx
  have hn:=line63
  rcases hq with hq | hq
  · obtain ⟨its,r',pl,hz⟩:=I.list hq
    have hlen:=r'.length
    exact Calls.call_len_list pl.isList (by simp only [List.size_toArray] <;> lia) ⟨.int ys.length,H,I.tok _,⟨s.toks+1,by rw [List.size_toArray,hlen]⟩,q⟩
  · obtain ⟨its,r',pl,hz⟩:=I.tuple hq
    have hlen:=r'.length
    exact len_tuple pl (by simp only [List.size_toArray] <;> lia) ⟨.int ys.length,H,I.tok _,⟨s.toks+1,by rw [List.size_toArray,hlen]⟩,q⟩
theorem call_len_str:CallR X (.builtin "len") (fun xs H Q=>∃ z,xs=[.str z]∧z.length≤sizeLine∧Q (.int z.length) H):=by
  intro pins s σ H xs us Q I r h
  obtain ⟨z,rfl,hz,q⟩:=h
  obtain ⟨u,rfl,t,rfl⟩:=vals1 r
  have hn:=line63
  exact len_str (by lia) ⟨.int z.length,H,I.tok _,⟨_,rfl⟩,q⟩
theorem call_list_of:CallR X (.type "list") (fun xs H Q=>∃ p ys,xs=[.ref p]∧(SqL X.K H p ys∨SqT X.K H p ys)∧∀ l,H l=none→Q (.ref l) (upd H l (.lst ys))):=by
  intro pins s σ H xs us Q I r h
  obtain ⟨p,ys,rfl,hq,q⟩:=h
  obtain ⟨u,rfl,rx⟩:=vals1 r
  cases rx
  have fin : ∀ (its : List Value), Vals ys its → ys.length ≤ sizeLine → ∀ (h' : Heap) (c' : Nat), (∀ b o', s.heap.get? b = some o' → h'.get? b = some o') →
      h'.get? s.heap.objs.size=some { cls:=.type "list",dict:=none,data:=.seq its.toArray c',slots:=#[] }→EP X pins σ Q (.ref s.heap.objs.size) { s with heap:=h' }:=fun its r' hz h' c' kp e =>
    ⟨.ref s.heap.objs.size,_,I.laid (t':=s.toks) kp (Nat.le_refl _) (show ObjOk X.prog X.w _ h' _ (.lst ys) from ⟨hz,its,c',r',e⟩),rfl,q _ (I.hok.fresh (Nat.le_refl _))⟩
  rcases hq with hq | hq
  · obtain ⟨its,r',pl,hz⟩:=I.list hq
    have hlen:=r'.length
    obtain ⟨o,ho,hc,n,hd⟩:=pl.isList
    exact call_list_seq p (.inl rfl) ho hc hd (fun h' c' kp e=>fin its r' hz h' c' kp e) (by simp only [List.size_toArray] <;> lia)
  · obtain ⟨its,r',pl,hz⟩:=I.tuple hq
    have hlen:=r'.length
    obtain ⟨o,ho,hc,n,hd⟩:=pl
    exact call_list_seq p (.inr rfl) ho hc hd (fun h' c' kp e=>fin its r' hz h' c' kp e) (by simp only [List.size_toArray] <;> lia)
theorem call_tuple_of:CallR X (.type "tuple") (fun xs H Q=>∃ p ys,xs=[.ref p]∧((SqL X.K H p ys∧∀ l,H l=none→Q (.ref l) (upd H l (.tup ys)))∨(SqT X.K H p ys∧Q (.ref p) H))):=by
  intro pins s σ H xs us Q I r h
  obtain ⟨p,ys,rfl,h⟩:=h
  obtain ⟨u,rfl,rx⟩:=vals1 r
  cases rx
  rcases h with ⟨hq,q⟩ | ⟨hq,q⟩
  · obtain ⟨its,r',pl,hz⟩:=I.list hq
    have hlen:=r'.length
    refine call_tuple_list pl.isList (fun h' kp=>?_) (by simp only [List.size_toArray] <;> lia)
    have I1:Inv X pins σ H { s with heap:=h' }:=I.kept (t':=s.toks) kp
    have I2:Inv X pins σ (upd H h'.objs.size (.tup ys)) { s with heap:=h'.push { cls:=.type "tuple",data:=.seq its.toArray } } :=
      I1.laid (t':=s.toks) (fun b o e=>Heap.get?_push_of_some _ e) (Nat.le_refl _) (show ObjOk X.prog X.w _ _ _ (.tup ys) from ⟨hz,its,r',IsTup.new _ _⟩)
    exact ⟨.ref h'.objs.size,_,I2,rfl,q _ (I1.hok.fresh (Nat.le_refl _))⟩
  · obtain ⟨its,r',pl,hz⟩:=I.tuple hq
    exact call_tuple_same pl ⟨.ref p,H,I,rfl,q⟩
def tyV (K:PySem.W.Frag) (T:String) (x:V) (H:Hp):Prop:=match x with
  | .str _=>T = "str"
  | .int _=>T = "int"
  | .ref p => (T = "list" ∧ ∃ xs, SqL K H p xs) ∨ (T = "tuple" ∧ ∃ o, K.lookup p = some o ∧ o.cls = .type "tuple" ∧ o.dict = none) ∨
      (T = "dict" ∧ ((∃ kvs,H p=some (.dK kvs))∨∃ kvs,H p=some (.dT kvs)))∨(T = "set" ∧ ∃ S n,H p=some (.set S n))
  | _=>False
theorem tyV_is {pins : List (Addr × Obj)} {σ : St} {H : Hp} {s : Shared} {T : String} {x : V} {v : Value} (I : Inv X pins σ H s) (r : RelV x v) (ty : tyV X.K T x H) :
    s.TypeIs v T∧∀ a,v=.ref a→∃ ob,s.heap.get? a=some ob∧ob.dict=none:=by
  cases x with
  | str z =>
    obtain ⟨t,rfl⟩:=r
    cases (show T = "str" from ty)
    exact ⟨typeIs_str s z t,fun _ e=>nomatch e⟩
  | int i =>
    obtain ⟨t,rfl⟩:=r
    cases (show T = "int" from ty)
    exact ⟨typeIs_int s i t,fun _ e=>nomatch e⟩
  | ref p =>
    cases r
    rcases ty with ⟨rfl,xs,hq⟩ | ⟨rfl,o,hk,hc,hd⟩ | ⟨rfl,hk⟩ | ⟨rfl,S,n,hk⟩
    · obtain ⟨its,_,pl,_⟩:=I.list hq
      refine ⟨pl.isList.typeIs,fun a e=>?_⟩
      cases e
      obtain ⟨o,n,e,c,hd,_⟩:=pl
      exact ⟨o,e,hd⟩
    · refine ⟨⟨o,I.kIn p o hk,hc⟩,fun a e=>?_⟩
      cases e
      exact ⟨o,I.kIn _ o hk,hd⟩
    · have z : ∃ o, s.heap.get? p = some o ∧ o.ExactDict := by
        rcases hk with ⟨kvs,hk⟩ | ⟨kvs,hk⟩
        · obtain ⟨_,_,_,_,o,_,_,e,ex,_⟩:=I.hok p _ hk
          exact ⟨o,e,ex⟩
        · obtain ⟨_,_,_,_,o,_,_,e,ex,_⟩:=I.hok p _ hk
          exact ⟨o,e,ex⟩
      obtain ⟨o,e,ex⟩:=z
      refine ⟨⟨o,e,ex.1⟩,fun a e2=>?_⟩
      cases e2
      exact ⟨o,e,ex.2.1⟩
    · obtain ⟨o,_,_,_,e,ex,_⟩:=I.hok p _ hk
      refine ⟨⟨o,e,ex.1⟩,fun a e2=>?_⟩
      cases e2
      exact ⟨o,e,ex.2.1⟩
  | _=>exact False.elim ty
def tBM (K:PySem.W.Frag) (T:String) (r:V→List V→Hp→VK→Prop) (to:TE) (t:TA):TE:=fun σ H Q=>to σ H fun x H1=>tyV K T x H1∧t σ H1 fun xs H2=>r x xs H2 Q
variable {o e:Expr} {es:List Expr} {to:TE} {t:TA} {name:Str} {apos cpos:Pos} {T id:String} {r:V→List V→Hp→VK→Prop}
theorem pe_bm (pa : PlainAttrs T) (slot : Slot T name id) (hty : typeOf (.builtin id) = pure (.type "method_descriptor")) (hm : MtR X id r) (ho : PE X o to) (ha : PA X (e :: es) t)
    (hbase:attributeBase o name X.env (eval o X.env)=eval o X.env:=by rfl)
    (hfew:((backTo cpos (starEach (e::es) X.env)).all (fun x=>!x.1) && (backToKw cpos (keywordEach [] X.env)).all (fun x=>x.1.isSome)
      && decide ((e::es).length+([]:List Keyword).length+(if ([]:List Keyword).isEmpty then 0 else 1)<30))=true:=by rfl)
    (hline:(apos.endLine == cpos.line)=true:=by rfl) (hs:starEach (e::es) X.env=(false,eval e X.env)::starEach es X.env:=by rfl) (hplain:(backTo cpos (starEach es X.env)).any (·.1)=false:=by rfl) :
    PE X (.Call (.Attribute o name apos) (e::es) [] cpos) (tBM X.K T r to t):=by
  intro pins s σ H Q I h
  refine wpAny_Call_method_late hbase hfew hline rfl (thn (ho pins s σ H _ I h) fun v s1 ⟨x,H1,I1,r1,ty,q1⟩=>?_)
  obtain ⟨h1,h2⟩:=tyV_is I1 r1 ty
  refine ⟨T,id,pa,slot,hty,h1,h2,?_⟩
  have hA:=ha cpos pins s1 σ H1 _ I1 q1
  rw [hs] at hA ⊢
  refine Calls.callWith_builtin (by show (false || (backTo cpos (starEach es X.env)).any (·.1))=false;rw [hplain] <;> rfl) (Calls.evalArgs_plain ?_)
  exact thn hA fun us s2 ⟨vs,H2,I2,r2,q2⟩=>hm pins s2 σ H2 x vs v us Q I2 r1 r2 q2
/- xs.append(e),list.index on a module's tuple .. are MtR facts of 06m -/
end
end L2
namespace L2
open PySem PySem.Spec PyProof.Rows
def MtM (X:Cx) (id:String) (r:V→List V→Hp→VK→Prop):Prop :=
  ∀ (pins:List (Addr×Obj)) (s:Shared) (σ:St) (H:Hp) (x:V) (xs:List V) (v:Value) (us:List Value) (Q:VK),Inv X pins σ H s→RelV x v→Vals xs us→r x xs H Q →
    wpAny (model X.prog X.w) X.A (call (.builtin id) (v::us)) (EP X pins σ Q) X.xe s
theorem Vals.one:∀ {x:V} {us:List Value},Vals [x] us→∃ u,us=[u]∧RelV x u
  | _,_,.cons r .nil=>⟨_,rfl,r⟩
section
variable {X:Cx} {pins:List (Addr×Obj)} {σ:St} {H:Hp} {s:Shared} {l b:Addr} {xs ys zs:List V}
theorem Inv.lset {its its' : List Value} {n : Nat} {f : Array Value → Array Value} {t' : Nat} (I : Inv X pins σ H s) (hH : H l = some (.lst xs))
    (e:s.heap.get? l=some { cls:=.type "list",data:=.seq its.toArray n }) (hf:f its.toArray=its'.toArray) (hv:Vals ys its') (hz:ys.length≤sizeLine) :
    Inv X pins σ (upd H l (.lst ys)) { s with heap:=s.heap.update l (Obj.mapSeq f),toks:=t' }:=by
  have q:=PySem.IsL.update e f
  rw [hf] at q
  refine I.write (x:=l) (e:=l) (by rw [hH];exact trivial) (.inl rfl) (fun b' u hb hu=>(Heap.get?_update_other s.heap (Obj.mapSeq f) (Ne.symm hb)).trans hu) ⟨_,q⟩ ?_
  exact ⟨hz,its',_,hv,q⟩
theorem Inv.lnew {its : List Value} {t' : Nat} (I : Inv X pins σ H s) (hv : Vals ys its) (hz : ys.length ≤ sizeLine) :
    Inv X pins σ (upd H s.heap.objs.size (.lst ys)) { s with heap:=s.heap.push { cls:=.type "list",data:=.seq its.toArray },toks:=t' } :=
  I.laid (fun _ _ q=>Heap.get?_push_of_some _ q) (Nat.le_refl _) ⟨hz,its,0,hv,Heap.get?_push_size _ rfl⟩
theorem Inv.fresh (I:Inv X pins σ H s):H s.heap.objs.size=none:=I.hok.fresh (Nat.le_refl _)
theorem Inv.lstM (I:Inv X pins σ H s) (hH:H l=some (.lst xs)):xs.length≤sizeLine∧∃ (its:List Value) (n:Nat),Vals xs its∧xs.length=its.length∧s.heap.get? l=some { cls:=.type "list",data:=.seq its.toArray n }:=by
  obtain ⟨z,its,n,r,e⟩:=I.hok l _ hH
  exact ⟨z,its,n,r,r.length,e⟩
theorem notLongL {n:Nat} (h:n≤sizeLine):Builtin.List.listTooLong n=false:=by
  unfold Builtin.List.listTooLong
  exact decide_eq_false (by lia)
end
section
variable {X:Cx}
def rAppend:V→List V→Hp→VK→Prop:=fun x vs H Q=>∃ l xs y,x=.ref l∧vs=[y]∧H l=some (.lst xs)∧xs.length<sizeLine∧Q .non (upd H l (.lst (xs++[y])))
theorem mt_append:MtM X "list.append" rAppend:=by
  intro pins s σ H x vs v us Q I rx rv h
  obtain ⟨l,xs,y,rfl,rfl,hH,hz,q⟩:=h
  cases rx
  obtain ⟨u,rfl,ru⟩:=rv.one
  obtain ⟨z,its,n,r,hl,e⟩:=I.lstM hH
  refine call_meets F.slot_list_append ⟨_,e,rfl⟩ F.entry_list_append (F.args_list_append_2 _ _) (PySem.list_append l its.toArray n u (by rw [List.size_toArray];lia)) ⟨e,?_⟩
  refine ⟨.non,_,I.lset (its':=its++[u]) hH e (by simp) (r.append (.cons ru .nil)) ?_,rfl,q⟩
  rw [List.length_append,List.length_singleton]
  lia
def rExtend:V→List V→Hp→VK→Prop:=fun x vs H Q=>∃ l b xs zs,x=.ref l∧vs=[.ref b]∧H l=some (.lst xs)∧H b=some (.lst zs)∧xs.length+zs.length≤sizeLine∧Q .non (upd H l (.lst (xs++zs)))
theorem mt_extend:MtM X "list.extend" rExtend:=by
  intro pins s σ H x vs v us Q I rx rv h
  obtain ⟨l,b,xs,zs,rfl,rfl,hH,hB,hz,q⟩:=h
  cases rx
  obtain ⟨u,rfl,ru⟩:=rv.one
  cases ru
  obtain ⟨z,its,n,r,hl,e⟩:=I.lstM hH
  obtain ⟨z2,its2,n2,r2,hl2,e2⟩:=I.lstM hB
  have hsz:its.toArray.size+its2.toArray.size≤sizeLine:=by rw [List.size_toArray,List.size_toArray];lia
  have hlong:¬ (!its.toArray.isEmpty && Builtin.List.listTooLong (its.toArray.size+its2.toArray.size))=true:=by
    rw [notLongL hsz,Bool.and_false]
    exact Bool.false_ne_true
  refine call_meets F.slot_list_extend ⟨_,e,rfl⟩ F.entry_list_extend (F.args_list_extend_2 _ _)
    (AutoSeq1.list_extend_list_list_0 l its.toArray n b its2.toArray n2 hlong (by rw [List.size_toArray];lia) (by lia)) ⟨e,e2,?_⟩
  refine ⟨.non,_,I.lset (its':=its++its2) hH e (by simp) (r.append r2) ?_,rfl,q⟩
  rw [List.length_append]
  lia
def rCat:R2:=fun x y H Q=>∃ l b xs zs,x=.ref l∧y=.ref b∧H l=some (.lst xs)∧H b=some (.lst zs)∧xs.length+zs.length≤sizeLine∧∀ p,H p=none→Q (.ref p) (upd H p (.lst (xs++zs)))
theorem op_cat:OpR X (binaryOp .Add) rCat:=by
  intro pins s σ H x y v u Q I rx ry h
  obtain ⟨l,b,xs,zs,rfl,rfl,hH,hB,hz,q⟩:=h
  cases rx
  cases ry
  obtain ⟨z,its,n,r,hl,e⟩:=I.lstM hH
  obtain ⟨z2,its2,n2,r2,hl2,e2⟩:=I.lstM hB
  refine PySem.P.add_list e e2 ?_ (by rw [List.size_toArray,List.size_toArray];lia)
  have ea:its.toArray++its2.toArray=(its++its2).toArray:=by simp
  rw [ea]
  exact ⟨.ref _,_,I.lnew (t':=s.toks) (r.append r2) (by rw [List.length_append];lia),rfl,q _ I.fresh⟩
end
section
variable {prog:Program} {w:World} {A:Around} {E:Value→Shared→Prop} {s:Shared}
end
section
variable {X:Cx}
end
end L2
namespace Att
open PySem PySem.W PySem.Calls PyProof.Rows
theorem ints_of_wellAll {P:Params} {h:Heap}:∀ (ns:List Int) (vs:List Value),WellAll P h vs (ns.map WData.int)→IntsAre vs ns:=by
  intro ns
  induction ns with
  | nil =>
    intro vs w
    rw [List.map_nil] at w
    cases w
    exact .nil
  | cons n ns ih =>
    intro vs w
    rw [List.map_cons] at w
    cases w with
    | cons a b =>
      cases a
      exact .cons _ _ (ih _ b)
theorem script_of {l : OpenLaw} {n : Nat} (hn : l.most = some n) {P : Params} {h : Heap} {args : List WData} {vals : List Value}
    (hpre:l.row.toRowW.claim.pre args=true) (hwl:WellAll P h vals args) :
    ∃ a vs ns,vals=[Value.ref a]∧args=[WData.list (ns.map WData.int)]∧h.get? a=some { cls:=.type "list",data:=.seq vs.toArray }∧IntsAre vs ns∧ns.length≤n:=by
  have hsh:WShape.hasAll [] args [.list .int]=true:=(pre_splitW hpre).1
  have hc:l.pre.holds [] { args:=args }=true:=(pre_splitW hpre).2
  obtain ⟨d,r,rfl,h1,h2⟩:=hasAllW_cons hsh
  obtain rfl:=hasAllW_nil h2
  obtain ⟨xs,rfl,h3⟩:=hasW_list h1
  obtain ⟨ns,rfl⟩:=items_int h3
  have hlen:ns.length≤n:=by
    unfold OpenLaw.pre at hc
    have h4:(WTm.not (.lt (.lit (.int (n:Int))) (.len (.arg 0)))).holds [] { args:=[.list (ns.map .int)] }=true:=by
      have h4:=(holds_andW hc).1
      rw [hn] at h4
      exact h4
    have h5:=condW_of h4 (w_not (w_lt w_lit (w_len_list (w_arg rfl))))
    rw [List.length_map] at h5
    refine Nat.le_of_not_lt fun q=>?_
    have q':(n:Int)<((ns.length:Nat):Int):=by lia
    first
      | (rw [decide_eq_true q'] at h5;exact absurd h5 (by decide))
      | (simp at h5;lia)
  cases hwl with
  | cons w1 w2 =>
    cases w2
    cases w1 with
    | list ho hall=>exact ⟨_,_,ns,rfl,rfl,ho,ints_of_wellAll ns _ hall,hlen⟩
theorem post_true (l:OpenLaw) (args:List WData):l.row.toRowW.claim.post args (.bool true) args=true :=
  postW_of (r:=l.row.toRowW) (X:=(true == true))
    (show WShape.has [] (.bool true) .bool=true by first | rfl | decide | simp [WShape.has,WShape.arms,WShape.armsAll])
    (show (WTm.eq .res (.lit (.bool true))).value [] { args:=args,res:=some (.bool true),after:=args }=some (.bool (true == true)) from w_eq_bool (w_res rfl) w_lit) rfl
theorem attach_call {l : OpenLaw} {n : Nat} {q : Program} {loose : List Str} {XP : (Str → Option Value) → Heap → Prop} {YP : World → Heap → Prop} {d : DefRec}
    (hn:l.most=some n) (hdf:d.params.defaults=[])
    (call:∀ (w:World) (s₀ s₁:Shared) (mg mb:Str→Option Value) (fa:Addr) (o:Obj) (pm cd doc:Value) (a:Addr) (vs:List Value) (ns:List Int),
      Ground q loose [] XP w s₀ mg mb s₁.heap→YP w s₁.heap →
      s₁.heap.get? fa=some o→o.data=.func (docDef d.name d.params d.body d.scope pm cd doc)→s₁.heap.CodeRec cd d.name→mg d.name=some (.ref fa) →
      s₁.heap.get? a=some { cls:=.type "list",data:=.seq vs.toArray }→IntsAre vs ns→ns.length≤n→s₁.gens=#[] →
      codeAny (model l.prog w) callerA (.call (.ref fa) ⟨[.ref a],[]⟩) (fun r s'=>r=.ok (.ret (.bool true))∧OldK s₁.heap s'.heap∧s'.os=s₁.os∧AllBare s'.gens) s₁) :
    WalkO q loose XP YP l.row.toRowW d [] (fun f vs=>PySem.call f vs):=by
  intro w s₀ s₁ mg mb G Y fa o pm cd doc dV kV ho hd hcd hD hmg hg args vals as hpre hlay hrd hwl hlo
  obtain rfl:dV=.none:=Dflts.none hD hdf
  obtain rfl:kV=.none:=Dflts.noKw hD
  obtain ⟨a,vs,ns,rfl,rfl,hobj,hints,hlen⟩:=script_of hn hpre hwl
  refine enter_call (codeAny_mono (call w s₀ s₁ mg mb fa o pm cd doc a vs ns G Y ho (fd_plain hd) hcd hmg hobj hints hlen hg) fun r s' hq=>?_)
  obtain ⟨rfl,h2,h3,h4⟩:=hq
  exact ⟨.inl ⟨.bool true,.bool true,[],rfl,fun _=>rfl,.bool true,post_true l _,fun _=>⟨List.Pairwise.nil,fun _ hm=>(nomatch hm)⟩⟩,h2,h3,h4⟩
section
variable {prog:Program} {w:World} {A:Around} {E:Value→Shared→Prop} {s:Shared} {K:Frag}
def ledger (h:Heap) (L d:Addr):List (Addr×Obj):=(List.range h.objs.size).filterMap fun a=>if a=L∨a=d then none else (h.get? a).map fun o=>(a,o)
end
end Att
namespace L2
open PySem PySem.Spec PyProof.Rows
theorem vals_ints:∀ {vs:List Value} {ns:List Int},IntsAre vs ns→Vals (ns.map V.int) vs
  | _,_,.nil=>.nil
  | _,_,.cons n t h=>.cons ⟨t,rfl⟩ (vals_ints h)
end L2
namespace L2
open PySem PySem.Spec PyProof.Rows
abbrev KOf {K:PySem.W.Frag} {h:Heap} (_:K.In h):PySem.W.Frag:=K
end L2
/- THE LAST THEOREM (shape; LID, My.* are yours):
   My.Adr: a structure of the addresses that your layer names (classes,functions);My.Txt K t: a structure (Prop) of the equations over K;
   My.txt_mk:{K} {implicit addresses ..} (e1:nsIn K mainGlobals "law" = some (some (.ref f))) (e2:K.lookup f=some ⟨oc,od,.func (fnOf "law" "law" params body scope dV kV doc pm an cdv ct),sl⟩) (e3:codeIn K cdv "law" = true) ..:∃ t,My.Txt K t
set_option maxRecDepth 100000 in
set_option maxHeartbeats 0 in
theorem PySem.Challenge.cw_LID_holds : PySem.Challenge.rw_LID.Holds := by
  w_on;o_law;k_head;(case hw=>w_witness2)
  k_fill
  refine L2.walk_of (l:=PySem.Challenge.rw_LID) (n:=63) (k:=40) (x:="script") (CX:=fun w=>..) (sp:=fun _=>My.sp_law) rfl (by decide) rfl ⟨rfl,by decide,by decide⟩ (fun w h Y=>PySem.W.kIn_of Y) ?F ?S ?C
  case F =>
    intro w mg fa h KX G hmg
    have T:∃ t,My.Txt (L2.KOf KX) t:=by
      dsimp only [L2.KOf]                          -- K must stand as «<heap const> w.params» for k_is
      refine' My.txt_mk ?e1 ?e2 ?e3 ..
      (case e1=>PySem.W.k_is)                    -- in the order: a name -> its address -> its object -> its parts
      (case e2=>PySem.W.k_is)
      ..
    obtain ⟨t,T⟩:=T
    have e0:=hmg.symm.trans (PySem.W.mg_of KX G T.law)
    cases e0                                       -- fa is the law's own address
    exact ⟨_,fun s u=>.of_eq rfl,fun base kb nb=>My.law_fn T kb nb⟩     -- if «.of_eq rfl» comes too early: refine' ⟨_,?b,fun base kb nb=>My.law_fn T kb nb⟩;exact fun s u=>.of_eq rfl
  case S=>exact fun w H a ns hl hO hS=>..
  case C=>exact ..
(the tactic k_is has no namespace: write k_is) -/
namespace L2
open PySem PySem.Spec PyProof.Rows
def defArgs (s:Stmt):Arguments:=match s with
  | .FunctionDef _ a _ _ _ _ _ _ _ _=>a
  | _=>{ posonlyargs:=[],args:=[],vararg:=none,kwonlyargs:=[],kw_defaults:=[],kwarg:=none,defaults:=[] }
def defBody (s:Stmt):List Stmt:=match s with
  | .FunctionDef _ _ b _ _ _ _ _ _ _=>b
  | _=>[]
def defScope (s:Stmt):Scope:=match s with
  | .FunctionDef _ _ _ _ _ _ sc _ _ _=>sc
  | _=>{ kind:=.function,names:=[],isGenerator:=false,isCoroutine:=false }
abbrev CX0:CXT:=fun _ _ _ _ _ _=>False
abbrev E0:XK:=fun _ _ _=>False
theorem pass0 {X:Cx}:Passes CX0 X E0:=fun _ _ _ _ _ _ _ h=>h.elim
structure Fun (K:PySem.W.Frag) (x qual:Str) (st:Stmt) (f:Addr) (fd:FuncData):Prop where
  ex:∃ (oc:Value) (od:Option Addr) (kV doc pm:Value) (an:Option Addr) (cdv ct:Value) (osl:Array (Option Value)),
    fd=PySem.W.fnOf x qual (defArgs st) (defBody st) (defScope st) .none kV doc pm an cdv ct∧K.lookup f=some ⟨oc,od,.func fd,osl⟩∧PySem.W.codeIn K cdv qual=true
  kp:PySem.W.keepIn K (.ref f)=true
section
variable {P:Program} {w:World} {K:PySem.W.Frag} {mg:Str→Option Value} {base:Heap}
theorem Fun.ok {x qual : Str} {st : Stmt} {f : Addr} {fd : FuncData} {N ps : List Str} {k : Nat} {sp : Sp} (F : Fun K x qual st f fd) (S : FnScope N ps (defScope st)) (len : ∀ vs H Q E, sp vs H Q E → vs.length = ps.length)
    (hbody:∀ (cdv:Value) (A:Around) (outer:List Env) (s:Shared) (H:Hp) (vs:List V) (Q:VK) (E:XK),Room k (A.deeper (envOfC qual (defScope st) s.heap.objs.size f cdv))→sp vs H Q E →
      ∃ t,PSs (cxOf CX0 P w K mg base N qual (defScope st) f cdv A outer s H E).nox (defBody st) t∧t { nx:=fun _ H'=>Q .non H',rt:=Q } (start N vs) H):FnOk P w K mg base CX0 (k+1) f fd ps sp:=by
  obtain ⟨oc,od,kV,doc,pm,an,cdv,ct,osl,rfl,lk,hcd⟩:=F.ex
  refine fn_of lk hcd S len fun A outer s H vs Q E hr hsp=>?_
  obtain ⟨t,h,q⟩:=hbody cdv A outer s H vs Q E hr hsp
  exact ⟨t,h.nox,q⟩
theorem Fun.binds {x qual : Str} {st : Stmt} {f : Addr} {fd : FuncData} {ps : List Str} (F : Fun K x qual st f fd)
    (h:∀ (kV doc pm:Value) (an:Option Addr) (cdv ct:Value) (us:List Value),us.length=ps.length→bindArgs (PySem.W.fnOf x qual (defArgs st) (defBody st) (defScope st) .none kV doc pm an cdv ct) ⟨us,[]⟩=pure (ps.zip us)):Binds K fd ps []:=by
  obtain ⟨oc,od,kV,doc,pm,an,cdv,ct,osl,rfl,lk,hcd⟩:=F.ex
  exact .all (h kV doc pm an cdv ct)
theorem fun_mk {x qual : Str} {st : Stmt} {f : Addr} {oc : Value} {od an : Option Addr} {osl : Array (Option Value)} {kV doc pm cdv ct : Value} (l : K.lookup f = some ⟨oc, od, .func (PySem.W.fnOf x qual (defArgs st) (defBody st) (defScope st) .none kV doc pm an cdv ct), osl⟩)
    (c:PySem.W.codeIn K cdv qual=true) (k:PySem.W.keepIn K (.ref f)=true):Fun K x qual st f (PySem.W.fnOf x qual (defArgs st) (defBody st) (defScope st) .none kV doc pm an cdv ct):=⟨⟨oc,od,kV,doc,pm,an,cdv,ct,osl,rfl,l,c⟩,k⟩
end
theorem hu_of {A:Around} {k:Nat} (hr:Room k A):A.units+1<cLine:=Nat.lt_of_le_of_lt (Nat.add_le_add_left (by decide:1≤64) _) hr.units
theorem small1000 {n:Nat} (h:n≤1000):n<sizeLine:=Nat.lt_of_le_of_lt h (by decide)
section
variable {X:Cx}
theorem pv (i : Nat) {x : Str} {pos : Pos} (hN : X.N[i]? = some x := by rfl) (hv : Vis X.env.scope x := by first | exact Or.inl rfl | exact Or.inr (Or.inl rfl) | exact Or.inr (Or.inr rfl)) (hd : (x == ("__debug__" : Str)) = false := by decide)
    (hcd:(x == ("__classdict__" : Str))=false:=by decide):PE X (.Name x pos) (tVar i):=pe_var hN hv hd hcd
end
theorem iteF {A B:Prop} (h:B):if false=true then A else B:=by
  rw [if_neg Bool.false_ne_true]
  exact h
theorem iteT {A B:Prop} (h:A):if true=true then A else B:=by
  rw [if_pos rfl]
  exact h
theorem ite2 {c A B:Prop} [Decidable c] (h1:c→A) (h2:¬ c→B):if c then A else B:=by
  by_cases h:c
  · rw [if_pos h]
    exact h1 h
  · rw [if_neg h]
    exact h2 h
def Same (H H':Hp):Prop:=∀ b o,H b=some o→H' b=some o
theorem Same.refl (H:Hp):Same H H:=fun _ _ h=>h
theorem Same.trans {H H1 H2:Hp} (a:Same H H1) (b:Same H1 H2):Same H H2:=fun c o h=>b c o (a c o h)
theorem Same.free {H H':Hp} (e:Same H H') {l:Addr} (h:H' l=Option.none):H l=Option.none:=by
  cases q:H l with
  | none=>rfl
  | some o =>
    rw [e l o q] at h
    cases h
theorem Same.seq {K:PySem.W.Frag} {H H':Hp} {a:Addr} {xs:List V} (e:Same H H') (h:SqL K H a xs):SqL K H' a xs:=by
  rcases h with (h | ⟨o,h⟩) | h
  · exact .inl (.inl (e _ _ h))
  · exact .inl (.inr ⟨o,e _ _ h⟩)
  · exact .inr h
section
variable {κ:Type} [DecidableEq κ]
end
end L2
set_option maxHeartbeats 4000000
namespace L2
open PySem PySem.Spec PyProof.Rows
def tForIn (J:It) (g:TG) (tb:TS):TS:=fun D σ H=>∃ W:Nat→Nat→St→Hp→Prop,(∃ m,W 0 m σ H)∧∀ i m σ H,W i m σ H →
  (J.stop i H∧D.nx σ H)∨(J.go i H∧∃ N:St→Hp→Prop,(∀ σ' H',N σ' H'→∃ m',m'<m∧W (i+1) m' σ' H')∧∀ x H',J.yld i H x H'→g x σ H' fun σ2 H2=>tb { D with nx:=N,ct:=N,bk:=D.nx } σ2 H2)
def PTs (X:Cx) (ifs:List Expr) (t:TT):Prop :=
  ∀ (pins:List (Addr×Obj)) (s:Shared) (σ:St) (H:Hp) (Q:Bool→Hp→Prop),Inv X pins σ H s→t σ H Q →
    wpAny (model X.prog X.w) X.A (forIn ifs true fun c r=>if r=true then do let ok ← isTrue c X.env (eval c X.env);pure (ForInStep.yield ok) else pure (ForInStep.yield r)) (TP X pins σ Q) X.xe s
theorem pts_nil {X:Cx}:PTs X [] (fun _ H Q=>Q true H):=fun pins s σ H Q I h=>wpAny_pure ⟨H,I,h⟩
theorem pts_one {X:Cx} {c:Expr} {t:TT} (hc:PT X c t):PTs X [c] t:=fun pins s σ H Q I h=>wpAny_tests_one (hc pins s σ H Q I h)
def PB (X:Cx) (inner:Sem Unit) (t:TS):Prop :=
  ∀ (pins:List (Addr×Obj)) (s:Shared) (σ:St) (H:Hp) (D:Ends),Inv X pins σ H s→t D σ H→wpAny (model X.prog X.w) X.A inner (fun _ s'=>∃ σ' H',Inv X pins σ' H' s'∧D.nx σ' H') X.xe s
def tIfs (tt:TT) (tb:TS):TS:=fun D σ H=>tt σ H fun b H1=>if b=true then tb D σ H1 else D.nx σ H1
theorem comp_loop {X : Cx} {e tg : Expr} {d : Nat} {ifs : List Expr} {p : Pos} {acc : Value} {inner : Sem Unit} {g : TG} {tt : TT} {tb : TS} {it : Addr} {fp : List Addr} {tn : Nat → Heap → Prop} {J : It}
    {pins:List (Addr×Obj)} {s:Shared} {σ:St} {H:Hp} {D:Ends} {R:Result→Shared→Prop}
    (hq:(Code.compLoop e d (.ref it) acc X.env).quiet=true)
    (hden:(model X.prog X.w).den (.compLoop e d (.ref it) acc X.env)=(compTurn e d (.ref it) acc X.env).onRaise (fun x=>do noteFrame x X.env;theTreesLotGoes x))
    (hT:compTurn e d (.ref it) acc X.env=(do
      standAt p
      match ← pyNext (.ref it) with
      | none=>pure (.done .next)
      | some v =>
        letOwnedTupleGo tg (.ref it) v
        assign tg X.env v
        let mut ok:=true
        for c in ifs do
          if ok then ok ← isTrue c X.env (eval c X.env)
        if ok then
          inner
        again (.compLoop e d (.ref it) acc X.env)))
    (hA:∀ (B:Around) {α:Type} {t:Sem α} {Q:α→Shared→Prop} {E:Value→Shared→Prop} {s:Shared},B=X.A.under (.compLoop e d (.ref it) acc X.env)→wpAny (model X.prog X.w) X.A t Q E s→wpAny (model X.prog X.w) B t Q E s)
    (hc:X.calm=true) (hx:X.xe=fun _ _=>False) (hg:PG X tg g) (ht:PTs X ifs tt) (hb:PB X inner tb)
    (I:Inv X pins σ H s) (T:Turn X.prog X.w X.K tg J fp it tn) (st:tn 0 s.heap) (f:∀ b∈fp,FpOk X pins H b) (W:tForIn J g (tIfs tt tb) D σ H)
    (hR:∀ fl s',(∃ σ' H',Inv X pins σ' H' s'∧(∀ b∈fp,H' b=none)∧D.nx σ' H')→R (.ok fl) s') :
    codeAny (model X.prog X.w) X.A (.compLoop e d (.ref it) acc X.env) R s:=by
  obtain ⟨W,⟨m0,w0⟩,turn⟩:=W
  have stat:∀ {H':Hp},(∀ b∈fp,H' b=none)→∀ b∈fp,FpOk X pins H' b:=fun hn b hb=>⟨hn b hb,(f b hb).2⟩
  refine codeAny_loop hq (fun n s'=>∃ i σ' H',Inv X pins σ' H' s'∧tn i s'.heap∧(∀ b∈fp,H' b=none)∧W i n σ' H') ?_ m0 ⟨0,σ,H,I,st,fun b hb=>(f b hb).1,w0⟩
  rintro n s3 ⟨i,σ3,H3,I3,st3,fr3,w3⟩
  refine hA _ rfl ?_
  rw [hden]
  refine wpAny_noted (wpAny_noRaise ?_)
  rw [hT]
  refine wpAny_bind (wpAny_standAt ?_)
  have nx:∀ {α:Type} {t:Sem α} {Q:α→Shared→Prop} {s:Shared},wpAny (model X.prog X.w) X.A t Q X.xe s→wpAny (model X.prog X.w) X.A t Q (fun _ _=>False) s:=fun {α t Q s} h=>by
    rw [hx] at h
    exact h
  rcases turn i n σ3 H3 w3 with ⟨stop,qn⟩ | ⟨go,N,hN,step⟩
  · refine wpAny_bind (thn (T.done X rfl rfl rfl hc i pins s3 σ3 H3 _ I3 (stat fr3) st3 stop) fun r s4 ⟨hr,I4⟩=>?_)
    subst hr
    exact wpAny_pure (hR _ _ ⟨σ3,H3,I4,fr3,qn⟩)
  · refine wpAny_bind (thn (T.item X rfl rfl rfl hc i pins s3 σ3 H3 _ I3 (stat fr3) st3 go) fun r s4 ⟨u,hr,h4⟩=>?_)
    subst hr
    refine wpAny_bind (thn h4 fun _ s5 ⟨x,H5,I5,r5,y5,st5,fr5⟩=>?_)
    have I5':=I5.pinned (stat fr5) (T.obj _ _ st5)
    have again:∀ {σ7:St} {H7:Hp} {s7:Shared},Inv X (pins++pinsAt fp s5.heap) σ7 H7 s7→N σ7 H7→∃ m,m<n∧∃ i σ' H',Inv X pins σ' H' s7∧tn i s7.heap∧(∀ b∈fp,H' b=none)∧W i m σ' H':=fun {σ7 H7 s7} I7 n7=>by
      obtain ⟨m',hm,w7⟩:=hN σ7 H7 n7
      refine ⟨m',hm,i+1,σ7,H7,I7.unpinned,T.keep _ _ _ st5 fun b hb o e=>(I7.pin (b,o) (List.mem_append_right _ (List.mem_append_right _ (mem_pinsAt hb e)))).1,fun b hb=>?_,w7⟩
      obtain ⟨o,e,d⟩:=T.obj _ _ st5 b hb
      exact (I7.pin (b,o) (List.mem_append_right _ (List.mem_append_right _ (mem_pinsAt hb e)))).2.1
    refine wpAny_bind (thn (nx (hg _ s5 σ3 H5 x u _ I5' r5 (step x H5 y5))) fun _ s6 ⟨σ6,H6,I6,q6⟩=>?_)
    refine wpAny_bind (thn (nx (ht _ s6 σ6 H6 _ I6 q6)) fun ok s7 ⟨H7,I7,q7⟩=>?_)
    cases ok with
    | false =>
      exact wpAny_pure ⟨rfl,again I7 q7⟩
    | true =>
      refine wpAny_bind (thn (nx (hb _ s7 σ6 H7 _ I7 q7)) fun _ s8 ⟨σ8,H8,I8,q8⟩=>?_)
      exact wpAny_pure ⟨rfl,again I8 q8⟩
abbrev blk (X:Cx) (sc:Scope) (cl:List (Str×Addr)) (C:Addr) (N':List Str) (s0:Shared) (H0:Hp) (ex:List Addr):Cx :=
  { X with N:=N',s₀:=s0,H₀:=H0,env:=compEnvC sc cl C X.env,outer:=X.stack,stack:=X.stack,ex:=ex,fn:=fun _=>false,pn:=[],xe:=fun _ _=>False }
structure BlkOk (osc:Scope) (N:List Str) (sc:Scope) (N':List Str) (sel:List (Option Nat)):Prop where
  kind:sc.kind=.function
  nocell:∀ y∈sc.names,y.2≠.cell
  names:∀ y∈sc.names,y.2=.local→sc.names.lookup y.1=some .local
  free:∀ y∈sc.names,y.2=.free→osc.names.lookup y.1=some .cell∨osc.names.lookup y.1=some .free
  len:sel.length=N'.length
  sel:∀ p∈sel.zip N',∀ i∈p.1,N[i]?=some p.2∧sc.names.lookup p.2=some .free
def selSt (sel:List (Option Nat)) (σ:St):St:=sel.map fun o=>o.bind fun i=>(σ[i]?).join
theorem closure_run {env : Env} : ∀ (names : List (Str × NameKind)) (acc : List (Str × Addr)), (∀ y ∈ names, y.2 = .free → ∃ c, env.cells.lookup y.1 = some c) →
    ∃ cl,(forIn names acc fun (x:Str×NameKind) (r:List (Str×Addr))=>(if (x.2 == .free)=true then do let c ← cellOf env x.1;pure (ForInStep.yield ((x.1,c)::r)) else pure (ForInStep.yield r):Sem (ForInStep (List (Str×Addr)))))=pure cl ∧
      (∀ x c,cl.lookup x=some c→acc.lookup x=some c∨(env.cells.lookup x=some c∧(x,NameKind.free)∈names))∧(∀ y∈names,y.2=.free→∃ c,cl.lookup y.1=some c)∧(∀ x c,acc.lookup x=some c→∃ c',cl.lookup x=some c')
  | [],acc,_=>⟨acc,rfl,fun _ _ h=>.inl h,(fun _ h=>nomatch h),fun x c h=>⟨c,h⟩⟩
  | (n,k)::r,acc,h=>by
    by_cases hk:k=.free
    · subst hk
      obtain ⟨c,hc⟩:=h (n,.free) List.mem_cons_self rfl
      obtain ⟨cl,e,h1,h2,h3⟩:=closure_run r ((n,c)::acc) fun y hy=>h y (List.mem_cons_of_mem _ hy)
      refine ⟨cl,?_,fun x c' hx=>?_,fun y hy hf=>?_,fun x c' hx=>?_⟩
      · rw [List.forIn_cons]
        have e1:cellOf env n=pure c:=by unfold cellOf;rw [hc]
        simp only [beq_self_eq_true,if_true,e1,pure_bind]
        exact e
      · rcases h1 x c' hx with q | ⟨q,m⟩
        · by_cases hn:x=n
          · subst hn
            rw [List.lookup_cons,beq_self_eq_true] at q
            cases q
            exact .inr ⟨hc,List.mem_cons_self⟩
          · have hb:(x == n)=false:=by simpa using hn
            rw [List.lookup_cons,hb] at q
            exact .inl q
        · exact .inr ⟨q,List.mem_cons_of_mem _ m⟩
      · rcases List.mem_cons.mp hy with z | z
        · subst z
          exact h3 n c (by rw [List.lookup_cons,beq_self_eq_true])
        · exact h2 y z hf
      · by_cases hn:x=n
        · subst hn;exact h3 x c (by rw [List.lookup_cons,beq_self_eq_true])
        · have hb:(x == n)=false:=by simpa using hn
          exact h3 x c' (by rw [List.lookup_cons,hb];exact hx)
    · obtain ⟨cl,e,h1,h2,h3⟩:=closure_run r acc fun y hy=>h y (List.mem_cons_of_mem _ hy)
      refine ⟨cl,?_,fun x c' hx=>?_,fun y hy hf=>?_,h3⟩
      · rw [List.forIn_cons]
        have hb:(k == NameKind.free)=false:=by simpa using hk
        simp only [hb,Bool.false_eq_true,if_false,pure_bind]
        exact e
      · rcases h1 x c' hx with q | ⟨q,m⟩
        · exact .inl q
        · exact .inr ⟨q,List.mem_cons_of_mem _ m⟩
      · rcases List.mem_cons.mp hy with z | z
        · subst z;exact absurd hf hk
        · exact h2 y z hf
structure Clo (env:Env) (sc:Scope) (cl:List (Str×Addr)):Prop where
  run:closureFor sc env=pure cl
  old:∀ x c,cl.lookup x=some c→env.cells.lookup x=some c∧(x,NameKind.free)∈sc.names
  has:∀ y∈sc.names,y.2=.free→∃ c,cl.lookup y.1=some c
theorem clo_of {X:Cx} {osc:Scope} {N:List Str} {sc:Scope} {N':List Str} {sel:List (Option Nat)} (ok:X.Ok) (B:BlkOk osc N sc N' sel) (ho:X.env.scope=osc):∃ cl,Clo X.env sc cl:=by
  have hc:∀ y∈sc.names,y.2=.free→∃ c,X.env.cells.lookup y.1=some c:=fun y hy hf=>ok.has y.1 (by
    show X.env.scope.names.lookup y.1=_∨X.env.scope.names.lookup y.1=_
    rw [ho];exact B.free y hy hf)
  obtain ⟨cl,e,h1,h2,_⟩:=closure_run (env:=X.env) sc.names [] hc
  refine ⟨cl,?_,fun x c h=>?_,h2⟩
  · unfold closureFor
    have e':=e
    show (do let r ← forIn sc.names [] _;pure r)=_
    simp only [bind_pure]
    exact e'
  · rcases h1 x c h with q | q
    · cases q
    · exact q
theorem lookup_relabel {env : Env} : ∀ {names : List (Str × NameKind)} {x : Str} {k : NameKind}, (names.map fun (n, k) => if (k == NameKind.free && env.scope.kind == .function && env.kindOf n == some .cell) then (n, NameKind.cell) else (n, k)).lookup x = some k →
    ∃ k',(x,k')∈names∧(k=k'∨(k=.cell∧k'=.free))
  | [],x,k,h=>nomatch h
  | (n,j)::r,x,k,h=>by
    have ih:=@lookup_relabel env r x k
    have h:List.lookup x ((if (j == NameKind.free && env.scope.kind == .function && env.kindOf n == some .cell)=true then (n,NameKind.cell) else (n,j))::_)=some k:=h
    by_cases hx:x=n
    · subst hx
      by_cases hc:(j == NameKind.free && env.scope.kind == .function && env.kindOf x == some .cell)=true
      · rw [if_pos hc,List.lookup_cons,beq_self_eq_true] at h
        cases h
        refine ⟨j,List.mem_cons_self,.inr ⟨rfl,?_⟩⟩
        simp only [Bool.and_eq_true,beq_iff_eq] at hc
        exact hc.1.1
      · rw [if_neg hc,List.lookup_cons,beq_self_eq_true] at h
        cases h
        exact ⟨j,List.mem_cons_self,.inl rfl⟩
    · have hb:(x == n)=false:=by simpa using hx
      have h':List.lookup x (r.map fun (n,k)=>if (k == NameKind.free && env.scope.kind == .function && env.kindOf n == some .cell) then (n,NameKind.cell) else (n,k))=some k:=by
        by_cases hc:(j == NameKind.free && env.scope.kind == .function && env.kindOf n == some .cell)=true
        · rw [if_pos hc,List.lookup_cons,hb] at h;exact h
        · rw [if_neg hc,List.lookup_cons,hb] at h;exact h
      obtain ⟨k',m,e⟩:=ih h'
      exact ⟨k',List.mem_cons_of_mem _ m,e⟩
theorem lookup_relabel_free {env : Env} : ∀ {names : List (Str × NameKind)} {x : Str}, names.lookup x = some .free →
    (names.map fun (n,k)=>if (k == NameKind.free && env.scope.kind == .function && env.kindOf n == some .cell) then (n,NameKind.cell) else (n,k)).lookup x=some .cell ∨
    (names.map fun (n,k)=>if (k == NameKind.free && env.scope.kind == .function && env.kindOf n == some .cell) then (n,NameKind.cell) else (n,k)).lookup x=some .free
  | [],x,h=>nomatch h
  | (n,j)::r,x,h=>by
    have ih:=@lookup_relabel_free env r x
    rw [List.lookup_cons] at h
    show List.lookup x ((if (j == NameKind.free && env.scope.kind == .function && env.kindOf n == some .cell)=true then (n,NameKind.cell) else (n,j))::_)=_∨List.lookup x ((if (j == NameKind.free && env.scope.kind == .function && env.kindOf n == some .cell)=true then (n,NameKind.cell) else (n,j))::_)=_
    cases hx:x == n with
    | true =>
      rw [hx] at h
      cases h
      by_cases hc:(NameKind.free == NameKind.free && env.scope.kind == .function && env.kindOf n == some .cell)=true
      · rw [if_pos hc,List.lookup_cons,hx];exact .inl rfl
      · rw [if_neg hc,List.lookup_cons,hx];exact .inr rfl
    | false =>
      rw [hx] at h
      by_cases hc:(j == NameKind.free && env.scope.kind == .function && env.kindOf n == some .cell)=true
      · rw [if_pos hc,List.lookup_cons,hx];exact ih h
      · rw [if_neg hc,List.lookup_cons,hx];exact ih h
section
variable {X:Cx} {osc:Scope} {N:List Str} {sc:Scope} {N':List Str} {sel:List (Option Nat)} {cl:List (Str×Addr)} {pins:List (Addr×Obj)} {σ:St} {H:Hp} {s:Shared} {fp:List Addr}
theorem inv_blk {h' : Heap} {ob : Obj} {tk : Nat} (B : BlkOk osc N sc N' sel) (ho : X.env.scope = osc) (hN : X.N = N) (Cl : Clo X.env sc cl) (I : Inv X pins σ H s)
    (f:∀ b∈fp,FpOk X pins H b) (fo:∀ b∈fp,∃ o,s.heap.get? b=some o) (hns:h'.Ns s.heap.objs.size (fun _=>none)) (hsb:Heap.SameBut s.heap.objs.size (s.heap.push ob) h') :
    Inv (blk X sc cl s.heap.objs.size N' s H fp) [] (selSt sel σ) H { s with heap:=h',toks:=tk }:=by
  have old:∀ b o,s.heap.get? b=some o→h'.get? b=some o:=fun b o e=>(hsb.2 b (Nat.ne_of_lt (Heap.lt_size e))).trans (Heap.get?_push_of_some _ e)
  have bel:∀ b∈fp,b<s.heap.objs.size:=fun b hb=>by
    obtain ⟨o,e⟩:=fo b hb
    exact Heap.lt_size e
  have kk:∀ x,(compEnvC sc cl s.heap.objs.size X.env).kindOf x=some .cell∨(compEnvC sc cl s.heap.objs.size X.env).kindOf x=some .free→(x,NameKind.free)∈sc.names:=fun x hx=>by
    rcases hx with hx | hx
    · obtain ⟨k',m,e⟩:=lookup_relabel hx
      rcases e with e | ⟨_,e⟩
      · subst e;exact absurd rfl (B.nocell _ m)
      · subst e;exact m
    · obtain ⟨k',m,e⟩:=lookup_relabel hx
      rcases e with e | ⟨e,_⟩
      · subst e;exact m
      · cases e
  refine ⟨⟨I.mod, B.kind, I.ok.glob, I.ok.blt, Nat.le_refl _, fun x y c e1 e2 => I.ok.inj x y c (Cl.old x c e1).1 (Cl.old y c e2).1, fun x hx => Cl.has _ (kk x hx) rfl, fun x c z => absurd z (by intro q; cases q), I.ok.hd, I.ok.frames, .inl rfl,
      fun b hb=>⟨Nat.ne_of_lt (bel b hb),fun x c e=>(f b hb).2.2.2.2.1 x c (Cl.old x c e).1⟩,I.bs,Nat.le_trans I.ok.bsz I.sz,fun b o e hb=>?_,fun b hb hs=>?_,I.stack,I.stkFree⟩,
    rfl,I.bare,Un.kept old,⟨_,hns,fun j x v e1 e2 e3=>?_⟩,fun x c e=>?_,I.hok.fresh (Nat.le_refl _),fun x c e=>I.freeC x c (Cl.old x c e).1,fun p hp=>absurd (show p∈([]:List (Addr×Obj)) from hp) (by simp),I.hok.kept old,?_⟩
  · rcases (f b hb).2.2.2.1 with z | z
    · exact I.ok.noex b o e z
    · exact absurd (Nat.lt_of_lt_of_le (Heap.lt_size e) (Nat.le_trans I.ok.bsz z)) (Nat.lt_irrefl _)
  · obtain ⟨_,f1,f2,_⟩:=f b hb
    rcases List.mem_cons.mp (I.stkSub b hs) with z | z
    · exact f1 z
    · exact f2 z
  · have e2' : ((sel[j]?).map fun o => o.bind fun i => (σ[i]?).join) = some (some v) := by
      have:=e2
      unfold selSt at this
      rw [List.getElem?_map] at this
      exact this
    cases hj:sel[j]? with
    | none=>rw [hj] at e2';cases e2'
    | some o =>
      rw [hj] at e2'
      cases o with
      | none=>cases e2'
      | some i =>
        have e4:(σ[i]?).join=some v:=Option.some.inj e2'
        have e5:σ[i]?=some (some v):=by
          cases q:σ[i]? with
          | none=>rw [q] at e4;cases e4
          | some z=>rw [q] at e4;exact congrArg some e4
        have hz:(some i,x)∈sel.zip N':=by
          refine List.mem_of_getElem? (i:=j) ?_
          rw [List.getElem?_zip_eq_some]
          exact ⟨hj,e1⟩
        obtain ⟨g1,g2⟩:=B.sel _ hz i rfl
        obtain ⟨m,hn,hl⟩:=I.loc
        have m2:(x,NameKind.free)∈sc.names:=PySem.mem_of_lookup g2
        have k2:X.env.kindOf x=some .cell∨X.env.kindOf x=some .free:=by
          show X.env.scope.names.lookup x=_∨X.env.scope.names.lookup x=_
          rw [ho];exact B.free _ m2 rfl
        have v2:Vis X.env.scope x:=by
          rcases k2 with z | z
          · exact .inr (.inl z)
          · exact .inr (.inr z)
        obtain ⟨u,r,l⟩:=hl i x v (by rw [hN];exact g1) e5 v2
        refine ⟨u,r,?_⟩
        rcases l with ⟨l,_⟩ | ⟨_,c,e6,hc⟩
        · rcases k2 with z | z <;> (rw [l] at z;cases z)
        · obtain ⟨c',hc'⟩:=Cl.has _ m2 rfl
          have e7:=(Cl.old x c' hc').1
          rw [e6] at e7
          cases e7
          exact .inr ⟨lookup_relabel_free g2,c,hc',hc.keeps old⟩
  · obtain ⟨v,hc⟩:=I.cell x c (Cl.old x c e).1
    exact ⟨v,hc.keeps old⟩
  · show (selSt sel σ).length=N'.length
    unfold selSt
    rw [List.length_map,B.len]
theorem blk_out {C:Addr} {H':Hp} {σ':St} {s':Shared} (I:Inv X pins σ H s) (f:∀ b∈fp,FpOk X pins H b) (I':Inv (blk X sc cl C N' s H fp) [] σ' H' s'):Inv X pins σ H' s' :=
  I.call' (ch:=fp) I'.os I'.base I'.hok I'.bare fun b hb=>by
    obtain ⟨_,f1,_,f3,f4,f5⟩:=f b hb
    exact ⟨f3,f1,f4,f5⟩
end
end L2
namespace L2
open PySem PySem.Spec PyProof.Rows
section
variable {X:Cx}
def tEmitL (p:Addr) (te:TE):TS:=fun D σ H=>te σ H fun v H1=>∃ xs,H1 p=some (.lst xs)∧xs.length<sizeLine∧D.nx σ (upd H1 p (.lst (xs++[v])))
theorem pb_list {p:Addr} {elt:Expr} {te:TE} (he:PE X elt te):PB X (do let _ ← call (.builtin "list.append") [.ref p,← eval elt X.env]) (tEmitL p te):=by
  intro pins s σ H D I h
  refine wpAny_bind (thn (he pins s σ H _ I h) fun v s1 ⟨x,H1,I1,r1,xs,e1,hl,q⟩=>?_)
  refine wpAny_bind (thn (mt_append pins s1 σ H1 (.ref p) [x] (.ref p) [v] (fun z H2=>D.nx σ H2) I1 rfl (.cons r1 .nil) ⟨p,xs,x,rfl,rfl,e1,hl,q⟩) fun u s2 ⟨z,H2,I2,_,q2⟩=>?_)
  exact wpAny_pure ⟨σ,H2,I2,q2⟩
end
section
variable {X:Cx} {osc:Scope} {N:List Str} {sc:Scope} {N':List Str} {sel:List (Option Nat)} {pos:Pos} {elt kx vx tg iter:Expr} {ifs:List Expr} {wi:TI} {g:TG} {tt:TT} {te tk tv:TE}
def InBlk (X:Cx) (sc:Scope) (N':List Str) (P:Cx→Prop):Prop:=∀ cl C s0 H0 ex,P (blk X sc cl C N' s0 H0 ex)
theorem comp_core {e : Expr} {inner : Env → Addr → Sem Unit} {tb : Addr → TS} {use : Option (Value → Sem Unit)} {pins : List (Addr × Obj)} {s : Shared} {σ : St} {H : Hp} {J : It} {it : Addr} {fp : List Addr} {tn : Nat → Heap → Prop} {o0 : HO} {ob : Obj}
    {D:Addr→Ends} {Q:Value→Shared→Prop}
    (B:BlkOk osc N sc N' sel) (ho:X.env.scope=osc) (hN:X.N=N) (hc:X.calm=true)
    (hstart:∀ (acc:Value) (env:Env) (R:Result→Shared→Prop) (s:Shared),codeAny (model X.prog X.w) X.A (.compLoop e 0 (.ref it) acc env) R s→wpAny (model X.prog X.w) X.A (pyIter (.ref it)) (fun it' s'=>codeAny (model X.prog X.w) X.A (.compLoop e 0 it' acc env) R s') (notedBy (model X.prog X.w) X.A env fun x s'=>R (.error x) s') s→codeAny (model X.prog X.w) X.A (.compStart e 0 (.ref it) acc env) R s)
    (hloop:∀ cl C s0 H0 ex p pins s σ H Dn R,Inv (blk X sc cl C N' s0 H0 ex) pins σ H s→tn 0 s.heap→(∀ b∈fp,FpOk (blk X sc cl C N' s0 H0 ex) pins H b)→tForIn J g (tIfs tt (tb p)) Dn σ H →
      (∀ fl s',(∃ σ' H',Inv (blk X sc cl C N' s0 H0 ex) pins σ' H' s'∧(∀ b∈fp,H' b=none)∧Dn.nx σ' H')→R (.ok fl) s')→codeAny (model X.prog X.w) X.A (.compLoop e 0 (.ref it) (.ref p) (compEnvC sc cl C X.env)) R s)
    (I:Inv X pins σ H s) (T:Turn X.prog X.w X.K tg J fp it tn) (st:tn 0 s.heap) (f:∀ b∈fp,FpOk X pins H b)
    (hnew:ObjOk X.prog X.w (upd H s.heap.objs.size o0) (s.heap.push ob) s.heap.objs.size o0) (hfree:ob.isFreed=false)
    (h:tForIn J g (tIfs tt (tb s.heap.objs.size)) (D s.heap.objs.size) (selSt sel σ) (upd H s.heap.objs.size o0))
    (hend:∀ C H' s',Inv X pins σ H' s'→FpOk X pins H' C→(∃ m,s'.heap.Ns C m)→(∃ σ',(D s.heap.objs.size).nx σ' H')→compPost (model X.prog X.w) X.A X.xe use Q (.ref s.heap.objs.size) C (.ok .next) s') (tk:Nat)
    (cl:List (Str×Addr)) (Cl:Clo X.env sc cl) (E:Value→Shared→Prop) :
    wpAny (model X.prog X.w) X.A (newFunctionEnv sc X.env.globals cl [] X.env.qual none .none (some X.env)) (fun cenv s₄ =>
        codeAny (model X.prog X.w) X.A (.compStart e 0 (.ref it) (.ref s.heap.objs.size) { cenv with scope:=relabel sc X.env }) (compPost (model X.prog X.w) X.A X.xe use Q (.ref s.heap.objs.size) cenv.locals) s₄) E { s with heap:=s.heap.push ob,toks:=tk }:=by
  have grow:∀ b o,s.heap.get? b=some o→(s.heap.push ob).get? b=some o:=fun _ _ q=>Heap.get?_push_of_some _ q
  have I1:Inv X pins σ (upd H s.heap.objs.size o0) { s with heap:=s.heap.push ob,toks:=tk }:=I.laid grow (Nat.le_refl _) hnew
  have bel:∀ b∈fp,∃ o,s.heap.get? b=some o:=fun b hb=>let ⟨o,e,_⟩:=T.obj _ _ st b hb;⟨o,e⟩
  have f1:∀ b∈fp,FpOk X pins (upd H s.heap.objs.size o0) b:=fun b hb=>by
    obtain ⟨o,e⟩:=bel b hb
    refine ⟨?_,(f b hb).2⟩
    rw [upd_ne (Nat.ne_of_lt (Heap.lt_size e))]
    exact (f b hb).1
  refine wpAny_newFunctionEnv (s:={ s with heap:=s.heap.push ob,toks:=tk }) B.nocell (by intro x hx;cases hx) (fun h1 hns hsb=>?_) B.kind
  have I2:=inv_blk (tk:=tk) B ho hN Cl I1 f1 (fun b hb=>let ⟨o,e⟩:=bel b hb;⟨o,grow b o e⟩) hns hsb
  have old:∀ b o,s.heap.get? b=some o→h1.get? b=some o:=fun b o e=>(hsb.2 b (Nat.ne_of_lt (Heap.lt_size (grow b o e)))).trans (Heap.get?_push_of_some _ (grow b o e))
  have st1:tn 0 h1:=T.keep _ _ _ st fun b _ o e=>old b o e
  have f2:∀ b∈fp,FpOk (blk X sc cl (s.heap.push ob).objs.size N' { s with heap:=s.heap.push ob,toks:=tk } (upd H s.heap.objs.size o0) fp) [] (upd H s.heap.objs.size o0) b:=fun b hb=>by
    obtain ⟨g0,g1,g2,g3,g4,g5⟩:=f1 b hb
    obtain ⟨o,e⟩:=bel b hb
    refine ⟨g0,Nat.ne_of_lt (Heap.lt_size (grow b o e)),fun z=>?_,.inl hb,fun x c e=>g4 x c (Cl.old x c e).1,fun p hp=>absurd (show p∈([]:List (Addr×Obj)) from hp) (by simp)⟩
    rcases List.mem_cons.mp (I1.stkSub b z) with q | q
    · exact g1 q
    · exact g2 q
  have loop:=hloop cl _ _ _ _ s.heap.objs.size [] _ _ _ (D s.heap.objs.size) (compPost (model X.prog X.w) X.A X.xe use Q (.ref s.heap.objs.size) (s.heap.push ob).objs.size) I2 st1 f2 h fun fl s' ⟨σ',H',I',fr',q'⟩=>by
    have I3:=blk_out I1 f1 I'
    have hC:FpOk X pins H' (s.heap.push ob).objs.size:=I1.fpOk (Nat.le_refl _) I'.free
    obtain ⟨m,hn,_⟩:=I'.loc
    have:=hend _ H' s' I3 hC ⟨m,hn⟩ ⟨σ',q'⟩
    cases use <;> exact this
  exact hstart _ _ _ _ loop (T.self _ 0 _ _ _ st1 loop)
end
end L2
namespace L2
open PySem PySem.Spec PyProof.Rows
section
variable {X:Cx} {osc:Scope} {N:List Str} {sc:Scope} {N':List Str} {sel:List (Option Nat)} {pos:Pos} {elt kx vx tg iter:Expr} {ifs:List Expr} {wi:TI} {g:TG} {tt:TT} {te tk tv:TE}
theorem hloop_list {it : Addr} {fp : List Addr} {tn : Nat → Heap → Prop} {J : It} (T : Turn X.prog X.w X.K tg J fp it tn) (hc : X.calm = true) (hg : InBlk X sc N' fun Y => PG Y tg g) (ht : InBlk X sc N' fun Y => PTs Y ifs tt) (he : InBlk X sc N' fun Y => PE Y elt te) :
    ∀ cl C s0 H0 ex p pins s σ H Dn R,Inv (blk X sc cl C N' s0 H0 ex) pins σ H s→tn 0 s.heap→(∀ b∈fp,FpOk (blk X sc cl C N' s0 H0 ex) pins H b)→tForIn J g (tIfs tt (tEmitL p te)) Dn σ H →
      (∀ fl s',(∃ σ' H',Inv (blk X sc cl C N' s0 H0 ex) pins σ' H' s'∧(∀ b∈fp,H' b=none)∧Dn.nx σ' H')→R (.ok fl) s')→codeAny (model X.prog X.w) X.A (.compLoop (.ListComp elt [⟨tg,iter,ifs,0⟩] sc pos) 0 (.ref it) (.ref p) (compEnvC sc cl C X.env)) R s :=
  fun cl C s0 H0 ex p pins s σ H Dn R I st f W hR =>
    comp_loop (X:=blk X sc cl C N' s0 H0 ex) (p:=iter.pos) (inner:=do let _ ← call (.builtin "list.append") [.ref p,← eval elt (compEnvC sc cl C X.env)]) rfl rfl rfl (fun B {α t Q E s} h w=>by subst h;exact w) hc rfl (hg _ _ _ _ _) (ht _ _ _ _ _) (pb_list (he _ _ _ _ _)) I T st f W hR
def tCompL (wi:TI) (sel:List (Option Nat)) (g:TG) (tt:TT) (te:TE):TE:=fun σ H Q=>wi σ H fun J H1=>∀ p,H1 p=none →
  tForIn J g (tIfs tt (tEmitL p te)) { nx:=fun _ H'=>Q (.ref p) H',rt:=fun _ _=>False } (selSt sel σ) (upd H1 p (.lst []))
theorem Inv.let_go {pins:List (Addr×Obj)} {σ:St} {H:Hp} {s:Shared} {C:Addr} {h':Heap} (I:Inv X pins σ H s) (f:FpOk X pins H C) (hs:Heap.SameBut C s.heap h'):Inv X pins σ H { s with heap:=h' }:=by
  obtain ⟨f0,f1,_,f3,f4,f5⟩:=f
  exact I.turned (t':=s.toks) (fun b o hb e=>(hs.2 b hb).trans e) f0 f1 f3 f4 f5
theorem lst_new {P:Program} {w:World} {H:Hp} {h:Heap}:ObjOk P w (upd H h.objs.size (.lst [])) (h.push { cls:=.type "list",dict:=none,data:=.seq ([]:List Value).toArray }) h.objs.size (.lst []) :=
  ⟨Nat.zero_le _,[],_,.nil,Heap.get?_push_size _ rfl⟩
theorem pe_compL (B : BlkOk osc N sc N' sel) (hi : PI X tg iter wi) (hg : InBlk X sc N' fun Y => PG Y tg g) (ht : InBlk X sc N' fun Y => PTs Y ifs tt) (he : InBlk X sc N' fun Y => PE Y elt te)
    (ho:X.env.scope=osc:=by rfl) (hN:X.N=N:=by rfl) (hc:X.calm=true:=by rfl) (hs:∀ x,foldedSetIterable iter X.env x=pure x:=by intro _;rfl) :
    PE X (.ListComp elt [⟨tg,iter,ifs,0⟩] sc pos) (tCompL wi sel g tt te):=by
  intro pins s σ H Q I h
  obtain ⟨cl,Cl⟩:=clo_of I.ok B ho
  rw [eval_ListComp]
  refine wpAny_comprehension_free (use:=none) rfl hs Cl.run B.kind B.names (thn (hi pins s σ H _ I h) fun v s1 h1=>thn h1 fun itv s2 h2=>?_)
  obtain ⟨it,fp,tn,J,H2,e,I2,T,st2,f2,h2⟩:=h2
  subst e
  refine wpAny_newObj_type (comp_core (e:=.ListComp elt [⟨tg,iter,ifs,0⟩] sc pos) (inner:=fun _ _=>pure ()) (D:=fun p=>{ nx:=fun _ H'=>Q (.ref p) H',rt:=fun _ _=>False }) (tb:=fun p=>tEmitL p te) (use:=none) B ho hN hc (fun acc env R s a b=>codeAny_compStart_list a b)
    (hloop_list (iter:=iter) (pos:=pos) T hc hg ht he) I2 T st2 f2 lst_new rfl (h2 _ (I2.hok.fresh (Nat.le_refl _))) (fun C H' s' I3 fC hn hq=>?_) s2.toks cl Cl X.xe)
  obtain ⟨m,hn⟩:=hn
  obtain ⟨_,hq⟩:=hq
  exact ⟨m,hn,fun h' hs'=>⟨.ref s2.heap.objs.size,H',I3.let_go fC hs',rfl,hq⟩⟩
def sCompL (wi:TI) (sel:List (Option Nat)) (g:TG) (tt:TT) (te:TE) (i:Nat):TS:=fun D σ H=>wi σ H fun J H1=>∀ p,H1 p=none →
  tForIn J g (tIfs tt (tEmitL p te)) { nx:=fun _ H'=>D.nx (σ.set i (some (.ref p))) H',rt:=fun _ _=>False } (selSt sel σ) (upd H1 p (.lst []))
theorem ps_compL {i : Nat} {x : Str} {px spos : Pos} (B : BlkOk osc N sc N' sel) (hnd : X.N.Nodup) (hi' : X.N[i]? = some x) (hx : Loc X.env.scope x) (hi : PI X tg iter wi) (hg : InBlk X sc N' fun Y => PG Y tg g) (ht : InBlk X sc N' fun Y => PTs Y ifs tt) (he : InBlk X sc N' fun Y => PE Y elt te)
    (hsw:swapsWith (.ListComp elt [⟨tg,iter,ifs,0⟩] sc pos) (some (.Name x px)) spos.line X.env=pure true:=by rfl)
    (ho:X.env.scope=osc:=by rfl) (hN:X.N=N:=by rfl) (hc:X.calm=true:=by rfl) (hs:∀ x,foldedSetIterable iter X.env x=pure x:=by intro _;rfl)
    (hf:X.fn x=true∨X.env.scope.names.lookup x=some .local:=by first | exact .inl rfl | exact .inr rfl | assumption) :
    PS X (.Assign [.Name x px] (.ListComp elt [⟨tg,iter,ifs,0⟩] sc pos) spos) (sCompL wi sel g tt te i):=by
  intro pins s σ H D I h
  obtain ⟨cl,Cl⟩:=clo_of I.ok B ho
  rw [exec_Assign_Name_used _ _ _ _ hsw]
  refine wpAny_bind (wpAny_standAt (wpAny_bind ?_))
  show wpAny _ X.A (do let _ ← comprehension (.ListComp elt [⟨tg,iter,ifs,0⟩] sc pos) sc X.env _ (newList []) false (eval iter X.env) (some (assign (.Name x px) X.env))) _ _ s
  refine wpAny_bind (thn (wpAny_comprehension_free (use:=some (assign (.Name x px) X.env)) (Q:=fun _ s'=>SP X pins D .next s') rfl hs Cl.run B.kind B.names (thn (hi pins s σ H _ I h) fun v s1 h1=>thn h1 fun itv s2 h2=>?_)) fun _ s' hq=>wpAny_pure (wpAny_pure hq))
  obtain ⟨it,fp,tn,J,H2,e,I2,T,st2,f2,h2⟩:=h2
  subst e
  refine wpAny_newObj_type (comp_core (e:=.ListComp elt [⟨tg,iter,ifs,0⟩] sc pos) (inner:=fun _ _=>pure ()) (D:=fun p=>{ nx:=fun _ H'=>D.nx (σ.set i (some (.ref p))) H',rt:=fun _ _=>False }) (tb:=fun p=>tEmitL p te) (use:=some (assign (.Name x px) X.env)) B ho hN hc (fun acc env R s a b=>codeAny_compStart_list a b)
    (hloop_list (iter:=iter) (pos:=pos) T hc hg ht he) I2 T st2 f2 lst_new rfl (h2 _ (I2.hok.fresh (Nat.le_refl _))) (fun C H' s' I3 fC hn hq=>?_) s2.toks cl Cl X.xe)
  obtain ⟨m,hn⟩:=hn
  obtain ⟨_,hq⟩:=hq
  show wpAny _ X.A (assign (.Name x px) X.env (.ref s2.heap.objs.size)) _ _ _
  refine wpAny_assign_Name (store_ok2 I3 hnd hi' hx (v:=.ref s2.heap.objs.size) rfl (fun s4 I4 hch=>?_) hf)
  obtain ⟨a,sb,ha⟩:=hch
  have nC:C≠a:=by
    rcases ha with z | z
    · rw [z];exact fC.2.1
    · exact fun q=>fC.2.2.2.2.1 x a z q.symm
  refine ⟨m,hn.sameBut sb nC,fun h' hs'=>⟨_,H',I4.let_go fC hs',hq⟩⟩
end
end L2
namespace L2
open PySem PySem.Spec PyProof.Rows
mutual
inductive RD (K:PySem.W.Frag) (H:Hp):V→PyData→Prop where
  | non:RD K H .non .none
  | bl (b:Bool):RD K H (.bl b) (.bool b)
  | int (i:Int):RD K H (.int i) (.int i)
  | str (x:Str):RD K H (.str x) (.str x)
  | lst {a:Addr} {xs:List V} {ds:List PyData}:SqL K H a xs→RDs K H xs ds→RD K H (.ref a) (.list ds)
  | tup {a:Addr} {xs:List V} {ds:List PyData}:SqT K H a xs→RDs K H xs ds→RD K H (.ref a) (.tuple ds)
inductive RDs (K:PySem.W.Frag) (H:Hp):List V→List PyData→Prop where
  | nil:RDs K H [] []
  | cons {x:V} {xs:List V} {d:PyData} {ds:List PyData}:RD K H x d→RDs K H xs ds→RDs K H (x::xs) (d::ds)
end
section
variable {X:Cx} {pins:List (Addr×Obj)} {σ:St} {H:Hp} {s:Shared}
mutual
theorem Inv.reads (I:Inv X pins σ H s):∀ {v:V} {d:PyData} {u:Value},RD X.K H v d→RelV v u→∃ as,Reads s.heap u d as
  | _,_,_,.non,r=>by cases (show _=Value.none from r);exact ⟨_,.none⟩
  | _,_,_,.bl b,r=>by cases (show _=Value.bool b from r);exact ⟨_,.bool b⟩
  | _,_,_,.int i,r=>by obtain ⟨t,rfl⟩:=r;exact ⟨_,.int i t⟩
  | _,_,_,.str x,r=>by obtain ⟨t,rfl⟩:=r;exact ⟨_,.str x t⟩
  | _,_,_,.lst (a:=a) hq hs,r=>by
    cases (show _=Value.ref a from r)
    obtain ⟨its,rv,p,hz⟩:=I.list hq
    obtain ⟨as,ra⟩:=I.readsAll hs rv
    obtain ⟨o,ho,hc,n,hd⟩:=p.isList
    exact ⟨_,.list ho hc hd (by simpa using ra)⟩
  | _,_,_,.tup (a:=a) hq hs,r=>by
    cases (show _=Value.ref a from r)
    obtain ⟨its,rv,p,hz⟩:=I.tuple hq
    obtain ⟨as,ra⟩:=I.readsAll hs rv
    obtain ⟨o,ho,hc,n,hd⟩:=p
    exact ⟨_,.tuple ho hc hd (by simpa using ra)⟩
theorem Inv.readsAll (I:Inv X pins σ H s):∀ {vs:List V} {ds:List PyData} {us:List Value},RDs X.K H vs ds→Vals vs us→∃ as,ReadsAll s.heap us ds as
  | _,_,_,.nil,r=>by cases r;exact ⟨_,.nil⟩
  | _,_,_,.cons h t,.cons r rr=>by
    obtain ⟨as,h1⟩:=I.reads h r
    obtain ⟨bs,h2⟩:=I.readsAll t rr
    exact ⟨_,.cons h1 h2⟩
end
end
theorem RDs.ints {K:PySem.W.Frag} {H:Hp}:∀ (ns:List Int),RDs K H (ns.map V.int) (ns.map PyData.int)
  | []=>.nil
  | n::r=>.cons (.int n) (RDs.ints r)
mutual
theorem RD.mono {K:PySem.W.Frag} {H H':Hp} (hl:∀ a xs,SqL K H a xs→SqL K H' a xs) (ht:∀ a xs,SqT K H a xs→SqT K H' a xs):∀ {v:V} {d:PyData},RD K H v d→RD K H' v d
  | _,_,.non=>.non
  | _,_,.bl b=>.bl b
  | _,_,.int i=>.int i
  | _,_,.str x=>.str x
  | _,_,.lst h t=>.lst (hl _ _ h) (RDs.mono hl ht t)
  | _,_,.tup h t=>.tup (ht _ _ h) (RDs.mono hl ht t)
theorem RDs.mono {K:PySem.W.Frag} {H H':Hp} (hl:∀ a xs,SqL K H a xs→SqL K H' a xs) (ht:∀ a xs,SqT K H a xs→SqT K H' a xs):∀ {v:List V} {d:List PyData},RDs K H v d→RDs K H' v d
  | _,_,.nil=>.nil
  | _,_,.cons h t=>.cons (RD.mono hl ht h) (RDs.mono hl ht t)
end
def rEqD (K:PySem.W.Frag):R2:=fun x y H Q=>∃ d e,RD K H x d∧RD K H y e∧SeqAt.shaped d=true∧SeqAt.shaped e=true∧Q (.bl (PyData.eqv d e)) H
def rNeD (K:PySem.W.Frag):R2:=fun x y H Q=>∃ d e,RD K H x d∧RD K H y e∧SeqAt.shaped d=true∧SeqAt.shaped e=true∧Q (.bl (!PyData.eqv d e)) H
section
variable {X:Cx}
theorem op_eqD (hu:X.A.units+64<cLine):OpR X (compareOp .Eq) (rEqD X.K):=by
  intro pins s σ H x y v u Q I rx ry h
  obtain ⟨d,e,hd,he,sd,se,q⟩:=h
  obtain ⟨as,ra⟩:=I.reads hd rx
  obtain ⟨bs,rb⟩:=I.reads he ry
  exact SeqAt.compareEq_shaped ra rb sd se hu ⟨.bl _,H,I,rfl,q⟩
theorem op_neD (hu:X.A.units+64<cLine):OpR X (compareOp .NotEq) (rNeD X.K):=by
  intro pins s σ H x y v u Q I rx ry h
  obtain ⟨d,e,hd,he,sd,se,q⟩:=h
  obtain ⟨as,ra⟩:=I.reads hd rx
  obtain ⟨bs,rb⟩:=I.reads he ry
  exact SeqAt.compareNe_shaped ra rb sd se hu ⟨.bl _,H,I,rfl,q⟩
theorem eqvAll_ints:∀ ns ms:List Int,PyData.eqvAll (ns.map PyData.int) (ms.map PyData.int)=decide (ns=ms)
  | [],[]=>rfl
  | [],_::_=>rfl
  | _::_,[]=>rfl
  | n::r,m::t=>by
    show (n == m && PyData.eqvAll (r.map PyData.int) (t.map PyData.int))=_
    rw [eqvAll_ints r t]
    by_cases e:n=m
    · subst e;by_cases e2:r=t <;> simp [e2]
    · simp [e]
theorem depthAll_ints:∀ ns:List Int,PyData.depthAll (ns.map PyData.int)=0
  | []=>rfl
  | n::r=>by show max 0 (PyData.depthAll (r.map PyData.int))=0;rw [depthAll_ints r];rfl
theorem canLayAll_ints:∀ ns:List Int,PyData.canLayAll0 (ns.map PyData.int)=true
  | []=>rfl
  | n::r=>by show (true && PyData.canLayAll0 (r.map PyData.int))=true;rw [canLayAll_ints r];rfl
def tI (ns:List Int):PyData:=.tuple (ns.map .int)
theorem eqv_tI (ns ms:List Int):PyData.eqv (tI ns) (tI ms)=decide (ns=ms):=eqvAll_ints ns ms
theorem shaped_tI (ns:List Int):SeqAt.shaped (tI ns)=true:=by
  unfold SeqAt.shaped tI
  rw [PyData.canLay0,canLayAll_ints,PyData.depth,depthAll_ints];rfl
end
section
variable {prog:Program} {w:World} {A:Around} {E:Value→Shared→Prop} {s:Shared}
theorem draw_list {it t : Addr} {items : Array Value} (hne : t ≠ it) : ∀ (n i : Nat) (s : Shared) (Q : List Value → Shared → Prop), s.heap.IsListIter it t i → s.heap.IsList t items → i + n ≤ items.size →
    (∀ h',h'.IsListIter it t (i+n)→Heap.SameBut it s.heap h'→Q ((items.toList.drop i).take n) { s with heap:=h' })→wpAny (model prog w) A (draw (.ref it) n) Q E s
  | 0,i,s,Q,hit,_,_,hQ=>by
    show wpAny _ _ (pure []) Q E s
    exact wpAny_pure (by simpa using hQ s.heap hit (Heap.SameBut.refl ..))
  | n+1,i,s,Q,hit,ht,hle,hQ=>by
    have hlt:i<items.size:=by lia
    show wpAny _ _ (pyNext (.ref it) >>= _) Q E s
    refine wpAny_bind (wpAny_pyNext_list_item hit ht (x:=items[i]) (by simp [hlt]) fun h₁ hit₁ hs₁=>?_)
    refine wpAny_bind (wpAny_holding (draw_list hne n (i+1) _ _ hit₁ (ht.extBut hs₁.extBut hne) (by lia) fun h₂ hit₂ hs₂=>wpAny_pure ?_))
    have hd:items.toList.drop i=items[i]::items.toList.drop (i+1):=by simp [List.drop_eq_getElem_cons,hlt]
    have:=hQ h₂ (by rw [show i+(n+1)=i+1+n by lia];exact hit₂) (hs₁.trans hs₂)
    rw [hd,List.take_succ_cons] at this
    exact this
theorem unpackItems_list {t : Addr} {items : Array Value} {Q : List Value → Shared → Prop} (hh : A.handled = none) (ht : s.heap.IsList t items)
    (hQ:∀ h',Heap.ExtBut s.heap.objs.size s.heap h'→Q items.toList { s with heap:=h' }):wpAny (model prog w) A (unpackItems (.ref t) items.size none) Q E s:=by
  have hlt:t≠s.heap.objs.size:=by obtain ⟨o,ho,_⟩:=ht;exact Nat.ne_of_lt (Heap.lt_size ho)
  unfold unpackItems
  refine wpAny_bind ?_
  · unfold notIterableAtAll
    refine wpAny_bind (wpAny_specialOf ht.typeIs PySem.F.slot_list_iter.lookup ?_)
    refine wpAny_pure ?_
    simp only [Bool.false_eq_true,if_false]
    refine wpAny_bind (wpAny_holding (wpAny_pyIter_list ht ?_))
    refine wpAny_bind (wpAny_holding (draw_list hlt items.size 0 _ _ ⟨_,Heap.get?_push_size _ rfl,rfl,rfl⟩ (ht.push _) (by lia) fun h₁ hit₁ hs₁=>?_))
    have hall:List.take items.size (List.drop 0 items.toList)=items.toList:=by
      rw [List.drop_zero];exact List.take_of_length_le (by simp)
    rw [hall]
    rw [if_neg (by simp)]
    have ht₁:h₁.IsList t items:=(ht.push _).extBut hs₁.extBut hlt
    refine wpAny_bind (wpAny_holding (wpAny_pyNext_list_end hh hit₁ ht₁ (by simp) fun h₂ he₂=>?_))
    simp only [Option.isSome_none,Bool.false_eq_true,if_false]
    refine wpAny_pure (hQ h₂ fun b o hb e=>he₂ b o hb (hs₁.extBut b o hb (Heap.get?_push_of_some _ e)))
theorem assign_Tuple_list {env : Env} {elts : List Expr} {x1} {pos : Pos} {t : Addr} {items : Array Value} {Q : Unit → Shared → Prop} (hh : A.handled = none) (ht : s.heap.IsList t items)
    (hn:(assignEach elts env).length=items.size) (hstar:(assignEach elts env).findIdx? (·.1)=none)
    (h:∀ h',Heap.ExtBut s.heap.objs.size s.heap h'→wpAny (model prog w) A (assignInOrder ((assignEach elts env).map (·.2)) items.toList) Q E { s with heap:=h' }) :
    wpAny (model prog w) A (assign (.Tuple elts x1 pos) env (.ref t)) Q E s:=by
  rw [assign_Tuple]
  refine wpAny_bind (wpAny_standAt ?_)
  unfold unpack
  rw [hn,hstar]
  exact wpAny_bind (wpAny_holding (unpackItems_list hh ht h))
end
section
variable {X:Cx} {pos:Pos}
def gLst (K:PySem.W.Frag) (n:Nat) (t:TGs):TG:=fun v σ H Q=>∃ a xs,v=.ref a∧SqL K H a xs∧xs.length=n∧t xs σ H Q
theorem pg_lst {es : List Expr} {k : Nat} {t : TGs} {n : Nat} (hc : X.calm = true) (h : PGs X es t)
    (hn:(assignEach es X.env).length=n:=by rfl) (hst:(assignEach es X.env).findIdx? (·.1)=none:=by rfl):PG X (.Tuple es k pos) (gLst X.K n t):=by
  intro pins s σ H v u Q I r hw
  obtain ⟨a,xs,e1,hq,hl,hw⟩:=hw
  subst e1
  cases r
  obtain ⟨its,rv,ht,hz⟩:=I.list hq
  refine assign_Tuple_list (I.ok.hd hc) ht.isList (by simp [hn,← hl,rv.length]) hst fun h' hx=>?_
  have I1:Inv X pins σ H { s with heap:=h' }:=I.kept (t':=s.toks) fun b o e=>hx b o (Nat.ne_of_lt (Heap.lt_size e)) e
  exact h pins _ σ H xs _ Q I1 (by simpa using rv) hw
def CDivB (i j:Int):Prop:=0<j∧j.natAbs.log2<9000
theorem op_fdivB:OpR X (binaryOp .FloorDiv) (rI CDivB fun i j=>.int (i / j)):=opI fun i j _ _ _ _ _ hc q=>by
  have e:i.fdiv j=i / j:=Int.fdiv_eq_ediv_of_nonneg i (Int.le_of_lt hc.1)
  rw [← e] at q
  exact floordiv_int (by have:=hc.1;lia) q (.inl (PyProof.noPylong_of_log2 hc.2))
end
end L2
namespace L2
open PySem PySem.Spec PyProof.Rows
section
variable {X:Cx}
theorem call_isi:CallR X (.builtin "isinstance") (fun xs H Q=>∃ x T t b,xs=[x,.ty T]∧TyOf X.K H x t∧PySem.W.kitOne X.K t (.type T)=some b∧Q (.bl b) H):=by
  intro pins s σ H xs us Q I r h
  obtain ⟨x,T,t,b,rfl,ty,e,q⟩:=h
  obtain ⟨u,w',rfl,ru,rw'⟩:=vals2 r
  cases (show w'=Value.type T from rw')
  exact isinst_ok I ru ty e fun tk=>⟨.bl b,H,I.tok tk,rfl,q⟩
theorem kit_same (K:PySem.W.Frag) (T:String):PySem.W.kitOne K (.type T) (.type T)=some true:=by
  unfold PySem.W.kitOne;rw [if_pos (by simp)]
end
end L2
namespace HT
open PySem PyProof.Rows
section
open PySem.SeqAt
open PySem.AutoSeq1 (wpAny_loadPart')
open PySem.MeetsSeq PySem.MeetsSeq2 PySem.MeetsSeq3
end
section
variable {prog:Program} {w:World} {A:Around} {E:Value→Shared→Prop} {s:Shared}
end
end HT
namespace L2
open PySem PySem.Spec PyProof.Rows
section
variable {X:Cx}
end
end L2
namespace L2
open PySem PySem.Spec PyProof.Rows
section
variable {X:Cx}
end
section
variable {X:Cx} {k:Nat} {f:Addr} {fd:FuncData} {ps:List Str} {sp:Sp} {pins:List (Addr×Obj)} {σ:St}
theorem Inv.moved {H:Hp} {s:Shared} {b:Addr} {h':Heap} {t':Nat} (I:Inv X pins σ H s) (fb:FpOk X pins H b) (hk:∀ c o,c ∉ [b]→s.heap.get? c=some o→h'.get? c=some o):Inv X pins σ H { s with heap:=h',toks:=t' } :=
  I.turned (fun c o hc e=>hk c o (fun z=>hc (List.mem_singleton.mp z)) e) fb.1 fb.2.1 fb.2.2.2.1 fb.2.2.2.2.1 fb.2.2.2.2.2
theorem FpOk.again {H H':Hp} {b:Addr} (fb:FpOk X pins H b) (hn:H' b=none):FpOk X pins H' b:=⟨hn,fb.2⟩
structure MK (X:Cx) (pins:List (Addr×Obj)) (σ:St) (H:Hp) (s:Shared) (it st l:Addr) (j:Nat) (vb kb:Value):Prop where
  inv:Inv X pins σ H s
  fi:FpOk X pins H it
  fs:FpOk X pins H st
  ne:st≠it
  iter:s.heap.IsListIter it l j
  hold:∃ c,s.heap.get? st=some (seqObj "list" #[vb,kb] c)
def Least (κ:Nat→List Int) (n i:Nat):Prop:=∀ j,j<n→HT.lexLt (κ j) (κ i)=false∧(j<i→HT.lexLt (κ i) (κ j)=true)
end
end L2
namespace HT
theorem lexLt_irrefl:∀ a:List Int,lexLt a a=false
  | []=>rfl
  | x::r=>by rw [lexLt_cons,if_pos rfl];exact lexLt_irrefl r
theorem lexLt_trans:∀ {a b c:List Int},lexLt a b=true→lexLt b c=true→lexLt a c=true
  | [],[],_,h,_=>by cases h
  | [],_::_,[],_,h=>by cases h
  | [],_::_,_::_,_,_=>rfl
  | _::_,[],_,h,_=>by cases h
  | _::_,_::_,[],_,h=>by cases h
  | x::a,y::b,z::c,h,g=>by
    rw [lexLt_cons] at h g ⊢
    by_cases e1:x=y
    · subst e1
      rw [if_pos rfl] at h
      by_cases e2:x=z
      · subst e2;rw [if_pos rfl] at g ⊢;exact lexLt_trans h g
      · rw [if_neg e2] at g ⊢;exact g
    · rw [if_neg e1] at h
      have h':x<y:=by simpa using h
      by_cases e2:y=z
      · subst e2;rw [if_neg e1];exact h
      · rw [if_neg e2] at g
        have g':y<z:=by simpa using g
        rw [if_neg (by lia)]
        exact decide_eq_true (by lia)
theorem lexLt_total:∀ {a b:List Int},lexLt a b=false→lexLt b a=false→a=b
  | [],[],_,_=>rfl
  | [],_::_,h,_=>by cases h
  | _::_,[],_,h=>by cases h
  | x::a,y::b,h,g=>by
    rw [lexLt_cons] at h g
    by_cases e:x=y
    · subst e
      rw [if_pos rfl] at h g
      rw [lexLt_total h g]
    · rw [if_neg e] at h
      rw [if_neg (Ne.symm e)] at g
      have h':¬ x<y:=by simpa using h
      have g':¬ y<x:=by simpa using g
      lia
theorem lexLt_of_not_lt_lt {a b c:List Int} (h:lexLt b a=false) (g:lexLt b c=true):lexLt a c=true:=by
  cases e:lexLt a b with
  | true=>exact lexLt_trans e g
  | false=>rw [lexLt_total e h];exact g
theorem lexLt_asym {a b:List Int} (h:lexLt a b=true):lexLt b a=false:=by
  cases e:lexLt b a with
  | false=>rfl
  | true=>have:=lexLt_trans h e;rw [lexLt_irrefl] at this;cases this
end HT
namespace L2
open PySem PySem.Spec PyProof.Rows
section
variable {X:Cx} {k:Nat} {f:Addr} {fd:FuncData} {ps:List Str} {sp:Sp} {pins:List (Addr×Obj)} {σ:St} {H0:Hp} {Q:VK} {l it st:Addr} {xs:List V} {κ:Nat→List Int}
def MKR (X:Cx) (pins:List (Addr×Obj)) (σ:St) (Q:VK):Result→Shared→Prop:=fun r s'=>match r with
  | .ok (.ret v)=>EP X pins σ Q v s'
  | .ok _=>False
  | .error e=>X.xe e s'
theorem nocell_seq {xs:Array Value} {c:Nat}:∀ v,(seqObj "list" xs c).data≠.cell v:=fun v h=>by cases h
theorem ltT_in1 {H : Hp} {s : Shared} {a b : Addr} {ns ms : List Int} {E : Value → Shared → Prop} {Q1 : Value → Shared → Prop} (hu : X.A.units + 1 < cLine) (I : Inv X pins σ H s) (ha : SqT X.K H a (ns.map V.int)) (hb : SqT X.K H b (ms.map V.int)) (q : Q1 (.bool (HT.lexLt ns ms)) s) :
    wpAny (model X.prog X.w) X.A.in1 (richCompare .Lt (.ref a) (.ref b)) Q1 E s:=by
  obtain ⟨its,r1,p1,_⟩:=I.tuple ha
  obtain ⟨its2,r2,p2,_⟩:=I.tuple hb
  exact (HT.lt_tupInts p1 p2 (intsAre_of r1) (intsAre_of r2) hu q:wpAny (model X.prog X.w) X.A.in1 (compareOp .Lt (.ref a) (.ref b)) Q1 E s)
theorem MK.set {H:Hp} {s:Shared} {j:Nat} {vb kb v kv:Value} (M:MK X pins σ H s it st l j vb kb):MK X pins σ H { s with heap:=s.heap.update st (Obj.mapSeq fun _=>#[v,kv]) } it st l j v kv:=by
  obtain ⟨c,hc⟩:=M.hold
  have sb:=Heap.SameBut.update s.heap st (Obj.mapSeq fun _=>#[v,kv])
  obtain ⟨oi,hoi,ci,di⟩:=id M.iter
  exact ⟨M.inv.moved (t':=s.toks) M.fs (fun b o hb e=>(sb.2 b fun z=>hb (by simp [z])).trans e),M.fi,M.fs,M.ne,⟨oi,(sb.2 it M.ne.symm).trans hoi,ci,di⟩,_,get?_update_seq hc fun _=>#[v,kv]⟩
theorem Least.next {n i:Nat} (h:Least κ n i) (e:HT.lexLt (κ n) (κ i)=false) (hi:i<n):Least κ (n+1) i:=fun j hj=>by
  by_cases z:j=n
  · subst z;exact ⟨e,fun q=>absurd q (by lia)⟩
  · exact h j (by lia)
theorem Least.take {n i:Nat} (h:Least κ n i) (e:HT.lexLt (κ n) (κ i)=true) (hi:i<n):Least κ (n+1) n:=fun j hj=>by
  by_cases z:j=n
  · subst z;exact ⟨HT.lexLt_irrefl _,fun q=>absurd q (by lia)⟩
  · have g:=(h j (by lia)).1
    have t:HT.lexLt (κ n) (κ j)=true:=by
      cases q:HT.lexLt (κ i) (κ j) with
      | true=>exact HT.lexLt_trans e q
      | false=>rw [← HT.lexLt_total q g];exact e
    exact ⟨HT.lexLt_asym t,fun _=>t⟩
theorem Same.seqT {K:PySem.W.Frag} {H H':Hp} {a:Addr} {xs:List V} (e:Same H H') (h:SqT K H a xs):SqT K H' a xs:=by
  rcases h with (h | ⟨o,h⟩) | h
  · exact .inl (.inl (e _ _ h))
  · exact .inl (.inr ⟨o,e _ _ h⟩)
  · exact .inr h
theorem min_loopN (hh : X.A.handled = none) (hu : X.A.units + 1 < cLine)
    (turn:∀ i x,xs[i]?=some x→∃ a,x=.ref a∧SqT X.K H0 a ((κ i).map V.int))
    (hl:SqL X.K H0 l xs) (hli:l≠it) (hQ:∀ i x H',xs[i]?=some x→Least κ xs.length i→Same H0 H'→Q x H') :
    ∀ (r j i:Nat) (H:Hp) (s:Shared) (vb:Value) (xb:V) (b:Addr),xs.length - (j+1)=r→j+1≤xs.length→Same H0 H→MK X pins σ H s it st l (j+1) vb (.ref b)→xs[i]?=some xb→RelV xb vb→SqT X.K H b ((κ i).map V.int)→i≤j→Least κ (j+1) i →
      codeAny (model X.prog X.w) X.A (.builtin "min.loop" ⟨[.ref it,.none,.ref st],[]⟩) (MKR X pins σ Q) s:=by
  have nm:(toString "min" ++ toString ".loop" : String) = "min.loop":=by decide
  intro r
  induction r with
  | zero =>
    intro j i H s vb xb b hr0 hj hS M hxb rb kb' hij best
    have hend:j+1=xs.length:=by lia
    obtain ⟨its,rv,pl,hz⟩:=M.inv.list (hS.seq hl)
    have hlen:its.length=xs.length:=rv.length.symm
    have W:=Walks.list (prog:=X.prog) (w:=X.w) (A:=X.A.in1) hh it l hli its.toArray
    obtain ⟨c,hc⟩:=M.hold
    refine codeAny_builtin PySem.F.entry_min_loop ?_
    rw [Around.under_plainId PySem.F.plain_min_loop _]
    show wpAny _ X.A.in1 (seqItems? (.ref st) >>= _) _ _ _
    refine wpAny_bind (wpAny_seqItems hc rfl ?_)
    show wpAny _ X.A.in1 (tryCatch (pyNext (.ref it)) _ >>= _) _ _ _
    refine wpAny_bind (wpAny_tryCatch (W.done _ _ _ ⟨by rw [List.size_toArray,hlen,← hend];exact M.iter,pl.isList⟩ fun h1 tk1 hk1=>?_))
    have I1:=M.inv.moved (t':=tk1) M.fi hk1
    have hc1:=hk1 st _ (by simpa using M.ne) hc
    have sb:=Heap.SameBut.update h1 st (Obj.mapSeq fun _=>(#[]:Array Value))
    show wpAny _ X.A.in1 (updateSeq st (fun _=>#[]) >>= _) _ _ _
    refine wpAny_bind ?_
    refine wpAny_updateSeq hc1 rfl (wpAny_bind (wpAny_letGo (wpAny_pure ?_)))
    have I2:Inv X pins σ H { s with heap:=h1.update st (Obj.mapSeq fun _=>(#[]:Array Value)),toks:=tk1 }:=I1.moved (s:={ s with heap:=h1,toks:=tk1 }) (t':=tk1) M.fs (fun b o hb e=>(sb.2 b fun z=>hb (by simp [z])).trans e)
    exact ⟨xb,H,I2,rb,hQ i xb H hxb (by rw [← hend];exact best) hS⟩
  | succ r ih =>
    intro j i H s vb xb b hr0 hj hS M hxb rb kb' hij best
    have hlt:j+1<xs.length:=by lia
    obtain ⟨its,rv,pl,hz⟩:=M.inv.list (hS.seq hl)
    have hlen:its.length=xs.length:=rv.length.symm
    have W:=Walks.list (prog:=X.prog) (w:=X.w) (A:=X.A.in1) hh it l hli its.toArray
    obtain ⟨c,hc⟩:=M.hold
    refine codeAny_builtin PySem.F.entry_min_loop ?_
    rw [Around.under_plainId PySem.F.plain_min_loop _]
    show wpAny _ X.A.in1 (seqItems? (.ref st) >>= _) _ _ _
    refine wpAny_bind (wpAny_seqItems hc rfl ?_)
    show wpAny _ X.A.in1 (tryCatch (pyNext (.ref it)) _ >>= _) _ _ _
    refine wpAny_bind (wpAny_tryCatch (W.item (j+1) _ _ _ (by rw [List.size_toArray,hlen];exact hlt) ⟨M.iter,pl.isList⟩ fun v h1 tk1 hP hst1 hk1=>?_))
    have hv:its[j+1]?=some v:=by simpa using hP
    obtain ⟨x,hx⟩:∃ x,xs[j+1]?=some x:=⟨_,List.getElem?_eq_getElem hlt⟩
    obtain ⟨v',hv',rx⟩:=rv.get hx
    rw [hv] at hv'
    cases hv'
    have M1:MK X pins σ H { s with heap:=h1,toks:=tk1 } it st l (j+1+1) vb (.ref b):=⟨M.inv.moved (t':=tk1) M.fi hk1,M.fi,M.fs,M.ne,hst1.1,c,hk1 st _ (by simpa using M.ne) hc⟩
    obtain ⟨a2,ex,ka2'⟩:=turn (j+1) x hx
    subst ex
    cases (show v=Value.ref a2 from rx)
    have hS3:=hS
    have M2:=M1
    have ka2:SqT X.K H a2 ((κ (j+1)).map V.int):=hS.seqT ka2'
    have kb2:=kb'
    show wpAny _ X.A.in1 (pure (Value.ref a2) >>= _) _ _ _
    refine wpAny_bind (wpAny_pure ?_)
    show wpAny _ X.A.in1 (tryCatch (holding [.ref a2,.ref a2] (richCompare .Lt (.ref a2) (.ref b) >>= _)) _ >>= _) _ _ _
    refine wpAny_bind (wpAny_tryCatch (wpAny_holding (wpAny_bind (ltT_in1 hu M2.inv ka2 kb2 ?_))))
    refine wpAny_bind (wpAny_holding (wpAny_truthy_bool ?_))
    refine wpAny_bind (wpAny_letGo (wpAny_pure ?_))
    obtain ⟨c2,hc2⟩:=M2.hold
    by_cases hbt:HT.lexLt (κ (j+1)) (κ i)=true
    · simp only [hbt,if_true]
      refine wpAny_bind ?_
      refine wpAny_updateSeq hc2 rfl (wpAny_bind (wpAny_letGo ?_))
      rw [nm]
      exact wpAny_pure ⟨plainId_quiet PySem.F.plain_min_loop _,ih (j+1) (j+1) H _ (.ref a2) _ a2 (by lia) hlt hS3 M2.set hx rx ka2 (Nat.le_refl _) (best.take hbt (by lia))⟩
    · have hbf:HT.lexLt (κ (j+1)) (κ i)=false:=by simpa using hbt
      simp only [hbf,Bool.false_eq_true,if_false]
      refine wpAny_bind (wpAny_letGo ?_)
      rw [nm]
      exact wpAny_pure ⟨plainId_quiet PySem.F.plain_min_loop _,ih (j+1) i H _ vb _ b (by lia) hlt hS3 M2 hxb rb kb2 (by lia) (best.next hbf (by lia))⟩
end
end L2
namespace L2
open PySem PySem.Spec PyProof.Rows
theorem min_args0 (a:Value):argsOk "min" ⟨[a],[]⟩:=by unfold argsOk;kernel_rfl
section
variable {X:Cx} {k:Nat} {f:Addr} {fd:FuncData} {ps:List Str} {sp:Sp} {pins:List (Addr×Obj)} {σ:St} {H0:Hp} {Q:VK} {l it st:Addr} {xs:List V} {κ:Nat→List Int}
structure MK0 (X:Cx) (pins:List (Addr×Obj)) (σ:St) (H:Hp) (s:Shared) (it st l:Addr) (j:Nat):Prop where
  inv:Inv X pins σ H s
  fi:FpOk X pins H it
  fs:FpOk X pins H st
  ne:st≠it
  iter:s.heap.IsListIter it l j
  hold:∃ c,s.heap.get? st=some (seqObj "list" #[] c)
theorem MK0.set {H:Hp} {s:Shared} {j:Nat} {v kv:Value} (M:MK0 X pins σ H s it st l j):MK X pins σ H { s with heap:=s.heap.update st (Obj.mapSeq fun _=>#[v,kv]) } it st l j v kv:=by
  obtain ⟨c,hc⟩:=M.hold
  have sb:=Heap.SameBut.update s.heap st (Obj.mapSeq fun _=>#[v,kv])
  obtain ⟨oi,hoi,ci,di⟩:=id M.iter
  exact ⟨M.inv.moved (t':=s.toks) M.fs (fun b o hb e=>(sb.2 b fun z=>hb (by simp [z])).trans e),M.fi,M.fs,M.ne,⟨oi,(sb.2 it M.ne.symm).trans hoi,ci,di⟩,_,get?_update_seq hc fun _=>#[v,kv]⟩
theorem call_minN {s : Shared} (hh : X.A.handled = none) (hu : X.A.units + 1 < cLine)
    (turn:∀ i x,xs[i]?=some x→∃ a,x=.ref a∧SqT X.K H0 a ((κ i).map V.int))
    (hl:SqL X.K H0 l xs) (hne:0<xs.length) (hQ:∀ i x H',xs[i]?=some x→Least κ xs.length i→Same H0 H'→Q x H') (I:Inv X pins σ H0 s) :
    wpAny (model X.prog X.w) X.A (call (.builtin "min") [.ref l] []) (EP X pins σ Q) X.xe s:=by
  have nm:(toString "min" ++ toString ".loop" : String) = "min.loop":=by decide
  obtain ⟨its,rv,pl,hz⟩:=I.list hl
  have hlen:its.length=xs.length:=rv.length.symm
  have hll:l<s.heap.objs.size:=by obtain ⟨o,ho,_⟩:=pl.isList;exact Heap.lt_size ho
  refine kmk_tree PySem.F.kind_min PySem.F.plain_min PySem.F.entry_min (min_args0 _) ?_
  show wpAny _ X.A.in1 (Builtin.Builtins.bindParams "min" ["key","default"] 0 ⟨[],[]⟩ >>= _) _ _ s
  refine wpAny_bind (wpAny_of_eq (show Builtin.Builtins.bindParams "min" ["key","default"] 0 ⟨[],[]⟩=pure [none,none] from rfl) ?_)
  refine wpAny_bind (wpAny_pure ?_)
  refine wpAny_bind (wpAny_pyIter_list pl.isList ?_)
  refine wpAny_bind (wpAny_newList ?_ (Nat.zero_le _))
  rw [nm]
  refine wpAny_pure ⟨plainId_quiet PySem.F.plain_min_loop _,?_⟩
  have keep:∀ b o,s.heap.get? b=some o→((s.heap.push { cls:=.type "list_iterator",data:=.fields #[.ref l,.int 0 0] }).push (seqObj "list" #[] 0)).get? b=some o:=fun b o e=>Heap.get?_push_of_some _ (Heap.get?_push_of_some _ e)
  have gi:((s.heap.push { cls:=.type "list_iterator",data:=.fields #[.ref l,.int 0 0] }).push (seqObj "list" #[] 0)).get? s.heap.objs.size=some { cls:=.type "list_iterator",data:=.fields #[.ref l,.int 0 0] }:=Heap.get?_push_of_some _ (Heap.get?_push_size _ rfl)
  have hsS:(s.heap.push { cls:=.type "list_iterator",data:=.fields #[.ref l,.int 0 0] }).objs.size=s.heap.objs.size+1:=size_push' ..
  have gs:((s.heap.push { cls:=.type "list_iterator",data:=.fields #[.ref l,.int 0 0] }).push (seqObj "list" #[] 0)).get? (s.heap.objs.size+1)=some (seqObj "list" #[] 0):=by rw [← hsS];exact Heap.get?_push_size _ rfl
  rw [hsS]
  have I1:Inv X pins σ H0 { s with heap:=(s.heap.push { cls:=.type "list_iterator",data:=.fields #[.ref l,.int 0 0] }).push (seqObj "list" #[] 0) }:=I.kept (t':=s.toks) keep
  have fi:FpOk X pins H0 s.heap.objs.size:=I.fpOk (Nat.le_refl _) (I.hok.fresh (Nat.le_refl _))
  have fs:FpOk X pins H0 (s.heap.objs.size+1):=I.fpOk (Nat.le_succ _) (I.hok.fresh (Nat.le_succ _))
  have M0:MK0 X pins σ H0 _ s.heap.objs.size (s.heap.objs.size+1) l 0:=⟨I1,fi,fs,Nat.ne_of_gt (Nat.lt_succ_self _),⟨_,gi,rfl,rfl⟩,⟨0,gs⟩⟩
  have hli:l≠s.heap.objs.size:=Nat.ne_of_lt hll
  have W:=Walks.list (prog:=X.prog) (w:=X.w) (A:=X.A.in1) hh s.heap.objs.size l hli its.toArray
  refine codeAny_builtin PySem.F.entry_min_loop ?_
  rw [Around.under_plainId PySem.F.plain_min_loop _]
  show wpAny _ X.A.in1 (seqItems? (.ref _) >>= _) _ _ _
  refine wpAny_bind (wpAny_seqItems gs rfl ?_)
  show wpAny _ X.A.in1 (tryCatch (pyNext (.ref s.heap.objs.size)) _ >>= _) _ _ _
  obtain ⟨its2,rv2,pl2,_⟩:=I1.list hl
  refine wpAny_bind (wpAny_tryCatch (W.item 0 _ _ _ (by rw [List.size_toArray,hlen];exact hne) ⟨M0.iter,pl.isList.at fun o e=>keep _ _ e⟩ fun v h1 tk1 hP hst1 hk1=>?_))
  have hv:its[0]?=some v:=by simpa using hP
  obtain ⟨x,hx⟩:∃ x,xs[0]?=some x:=⟨_,List.getElem?_eq_getElem hne⟩
  obtain ⟨v',hv',rx⟩:=rv.get hx
  rw [hv] at hv'
  cases hv'
  have M1:MK0 X pins σ H0 { s with heap:=h1,toks:=tk1 } s.heap.objs.size (s.heap.objs.size+1) l 1:=⟨I1.moved (t':=tk1) fi hk1,fi,fs,M0.ne,hst1.1,0,hk1 _ _ (by simp) gs⟩
  obtain ⟨a2,ex,ka2⟩:=turn 0 x hx
  subst ex
  cases (show v=Value.ref a2 from rx)
  have M2:=M1
  show wpAny _ X.A.in1 (pure (Value.ref a2) >>= _) _ _ _
  refine wpAny_bind (wpAny_pure ?_)
  obtain ⟨c2,hc2⟩:=M2.hold
  show wpAny _ X.A.in1 (updateSeq (s.heap.objs.size+1) (fun _=>#[(.ref a2),.ref a2]) >>= _) _ _ _
  refine wpAny_bind ?_
  refine wpAny_updateSeq hc2 rfl ?_
  rw [nm]
  refine wpAny_pure ⟨plainId_quiet PySem.F.plain_min_loop _,?_⟩
  exact codeAny_mono (min_loopN hh hu turn hl hli hQ _ 0 0 H0 _ (.ref a2) _ a2 rfl hne (Same.refl _) M2.set hx rx ka2 (Nat.le_refl _) (fun j hj=>by
    have e:j=0:=by lia
    subst e
    exact ⟨HT.lexLt_irrefl _,fun z=>absurd z (Nat.lt_irrefl _)⟩)) fun r s' hr'=>hr'
end
end L2
namespace RK
open PySem PySem.W PyProof.Rows
variable {n:Nat} {ans:Nat→Nat→Bool}
def Pm (n:Nat) (p:Array Nat):Prop:=p.Perm (List.toArray (List.range n))
inductive Col:Value→Value→Int→Int→Prop where
  | int (a:Int) (t:Tok) (b:Int) (u:Tok):Col (.int a t) (.int b u) a b
  | bl (p q:Bool):Col (.bool p) (.bool q) (b2i p) (b2i q)
inductive Cols:List Value→List Value→List Int→List Int→Prop where
  | nil:Cols [] [] [] []
  | cons {u v:Value} {us vs:List Value} {a b:Int} {as bs:List Int}:Col u v a b→Cols us vs as bs→Cols (u::us) (v::vs) (a::as) (b::bs)
section
variable {prog:Program} {w:World} {A:Around} {s:Shared} {Q:Bool→Shared→Prop}
theorem col_eq {u v:Value} {a b:Int} (c:Col u v a b) {E:Value→Shared→Prop} (h:Q (decide (a=b)) s):wpAny (model prog w) A (eqBool u v) Q E s:=by
  cases c with
  | int _ t _ u =>
    refine wpAny_eqBool_int ?_
    rw [show (a == b)=decide (a=b) from by rw [Bool.beq_eq_decide_eq]];exact h
  | bl p q =>
    refine SeqAt.EqAt.bool_bool p q prog w E Q ?_
    have e:(p == q)=decide (b2i p=b2i q):=by cases p <;> cases q <;> decide
    rw [e];exact h
theorem col_lt {u v:Value} {a b:Int} (c:Col u v a b) {E:Value→Shared→Prop} (h:Q (decide (a<b)) s):wpAny (model prog w) A (oneLt' false u v) Q E s:=by
  cases c with
  | int _ t _ u=>exact kat_one _ _ (lt_int (show W.BoolBack Q (.bool (decide (a<b))) s from h))
  | bl p q=>exact kat_one _ _ (lt_bool (show W.BoolBack Q (.bool (decide (b2i p<b2i q))) s from h))
theorem kat_cols {bb:Bool}:∀ {us vs:List Value} {as bs:List Int} (i:Nat),Cols us vs as bs→Q (HT.lexLt as bs) s→KatLex prog w A bb false Q (us.zip vs) (i+1) s
  | _,_,_,_,_,.nil,h=>kat_nil h
  | _,_,_,_,i,.cons (a:=a) (b:=b) (as:=as) (bs:=bs) c r,h=>by
    rw [HT.lexLt_cons] at h
    refine kat_cons (col_eq c ?_)
    by_cases e:a=b
    · rw [decide_eq_true e]
      rw [if_pos e] at h
      exact kat_yes (kat_cols (i+1) r h)
    · rw [decide_eq_false e]
      rw [if_neg e] at h
      refine kat_no ?_
      rw [show (bb && (i+1 == 0))=false by simp]
      exact col_lt c h
theorem kat_cols0 {us vs:List Value} {as bs:List Int} {a b:Int} {t u:Tok} (r:Cols us vs as bs) (h:Q (HT.lexLt (a::as) (b::bs)) s):KatLex prog w A true false Q ((Value.int a t::us).zip (Value.int b u::vs)) 0 s:=by
  rw [HT.lexLt_cons] at h
  refine kat_cons (col_eq (.int a t b u) ?_)
  by_cases e:a=b
  · rw [decide_eq_true e]
    rw [if_pos e] at h
    exact kat_yes (kat_cols 0 r h)
  · rw [decide_eq_false e]
    rw [if_neg e] at h
    exact kat_no (oneLt_int h)
end
end RK
namespace L2
open PySem PySem.Spec PyProof.Rows
section
variable {X:Cx} {k:Nat} {f:Addr} {fd:FuncData} {ps:List Str} {sp:Sp} {pins:List (Addr×Obj)} {σ:St} {H0:Hp} {Q:VK}
theorem Inv.adopt {H : Hp} {s : Shared} {D : Addr} {o : HO} {h' : Heap} {t' : Nat} (I : Inv X pins σ H s) (fb : FpOk X pins H D) (hk : ∀ b u, b ≠ D → s.heap.get? b = some u → h'.get? b = some u) (heo : ∃ u, h'.get? D = some u)
    (new:ObjOk X.prog X.w (upd H D o) h' D o):Inv X pins σ (upd H D o) { s with heap:=h',toks:=t' }:=by
  have hn:=fb.1
  have nit:∀ b u,H b=some u→b≠D:=fun b u e z=>by rw [z,hn] at e;cases e
  refine I.step (g':=s.gens) (d':=s.drawn) (ch:=[D]) (fun b hb=>?_) (fun b u _ _ hc e _=>hk b u (fun z=>hc (by simp [z])) e) (fun b u _ _ hc e _=>⟨u.slots,hk b u (fun z=>hc (by simp [z])) e⟩)
    (fun b u hc _ n=>by rw [upd_ne (fun z=>hc (by simp [z]))];exact n)
    (fun b u hc e=>⟨u,hk b u (fun z=>hc (by simp [z])) e⟩) (fun b xs e=>by rw [upd_ne (nit _ _ e)];exact e) (fun b u xs e=>by rw [upd_ne (nit _ _ e)];exact e) (fun b ps e=>⟨#[],by rw [upd_ne (nit _ _ e),e];simp⟩) (fun m hm=>?_) (fun b u e=>?_) I.bare
  · have e:b=D:=by simpa using hb
    subst e
    exact ⟨fb.2.2.2.1,fb.2.1,fb.2.2.2.2.1,fb.2.2.2.2.2⟩
  · obtain ⟨u,es,ep,ho,r⟩:=hm
    exact ⟨u,es,ep,hk _ u (Ne.symm fb.2.1) ho,r⟩
  · by_cases hb:b=D
    · subst hb;rw [upd_same] at e;cases e;exact new
    · rw [upd_ne hb] at e
      refine (I.hok b u e).stay (fun c v hc q=>hk c v ?_ q) (fun c q=>by rw [upd_ne (nit _ _ q)];exact q) fun c xs q=>by rw [upd_ne (nit _ _ q)];exact q
      rcases hc with z | z
      · rw [z];exact nit b u e
      · exact nit c _ z
def KeyRun (X:Cx) (σ:St) (H0:Hp) (f:Addr) (xs:List V) (κV:Nat→List V):Prop:=∀ (pins:List (Addr×Obj)) (i:Nat) (x:V) (u:Value) (H:Hp) (s:Shared),xs[i]?=some x→Same H0 H→Inv X pins σ H s→RelV x u →
  wpAny (model X.prog X.w) X.A.in1.in1 (call (.ref f) [u]) (EP X pins σ fun v H'=>Same H H'∧∃ a,v=.ref a∧SqT X.K H' a (κV i)) (fun _ _=>False) s
inductive VCol:V→V→Int→Int→Prop where
  | int (a b:Int):VCol (.int a) (.int b) a b
  | bl (p q:Bool):VCol (.bl p) (.bl q) (b2i p) (b2i q)
inductive VCols:List V→List V→List Int→List Int→Prop where
  | nil:VCols [] [] [] []
  | cons {x y:V} {xs ys:List V} {a b:Int} {as bs:List Int}:VCol x y a b→VCols xs ys as bs→VCols (x::xs) (y::ys) (a::as) (b::bs)
theorem VCols.vals:∀ {xs ys:List V} {as bs:List Int} {us vs:List Value},VCols xs ys as bs→Vals xs us→Vals ys vs→RK.Cols us vs as bs
  | _,_,_,_,_,_,.nil,.nil,.nil=>.nil
  | _, _, _, _, _, _, .cons c r, .cons h t, .cons g q => .cons (by
      cases c with
      | int a b=>obtain ⟨t,rfl⟩:=h;obtain ⟨u,rfl⟩:=g;exact .int _ _ _ _
      | bl p q=>cases h;cases g;exact .bl _ _) (r.vals t q)
structure SK (X:Cx) (pins:List (Addr×Obj)) (σ:St) (H:Hp) (s:Shared) (D st:Addr) (e:Nat) (κV:Nat→List V) (ks:List Addr):Prop where
  inv:Inv X pins σ H s
  fd:FpOk X pins H D
  fs:FpOk X pins H st
  ne:st≠D
  hd:s.heap.get? D=some (seqObj "list" #[] e)
  hs:∃ c,s.heap.get? st=some (seqObj "list" (ks.map Value.ref).toArray c)
  hk:∀ i a,ks[i]?=some a→SqT X.K H a (κV i)
theorem fold_any {M : Model} {A : Around} {E : Value → Shared → Prop} {body : Value → PUnit → Sem (ForInStep PUnit)} {vs : List Value} (P : Nat → Shared → Prop)
    (hb:∀ i x s,vs[i]?=some x→P i s→wpAny M A (body x ⟨⟩) (fun r s'=>r=.yield ⟨⟩∧P (i+1) s') E s):∀ (r:List Value) (i:Nat) (s:Shared),vs.drop i=r→i≤vs.length→P i s →
      wpAny M A (forIn r PUnit.unit body) (fun _ s'=>P vs.length s') E s
  | [],i,s,hr,hi,h=>by
    rw [List.forIn_nil]
    have:vs.length≤i:=List.drop_eq_nil_iff.mp hr
    exact wpAny_pure (by rw [show vs.length=i by lia];exact h)
  | x::r,i,s,hr,hi,h=>by
    have hx:vs[i]?=some x:=by
      have:=congrArg (·[0]?) hr
      simpa using this
    have hlt:i<vs.length:=(List.getElem?_eq_some_iff.mp hx).1
    have hr':vs.drop (i+1)=r:=by rw [← List.tail_drop,hr];rfl
    rw [List.forIn_cons]
    refine wpAny_bind (wpAny_mono (hb i x s hx h) (fun q s' hq=>?_) fun _ _ e=>e)
    obtain ⟨rfl,h'⟩:=hq
    exact fold_any P hb r (i+1) s' hr' hlt h'
end
end L2
namespace L2
open PySem PySem.Spec PyProof.Rows
section
variable {X:Cx} {pins:List (Addr×Obj)} {σ:St} {H:Hp} {s:Shared} {D st:Addr} {e:Nat} {κV:Nat→List V} {ks:List Addr} {E:Value→Shared→Prop}
def CoreOk (X:Cx) (G:Array Nat→Prop) (ks vs:List Value) (E:Value→Shared→Prop) (s:Shared):Prop :=
  wpAny (model X.prog X.w) X.A.in1.in1 (keyKind' ks.toArray) (fun κ s0=>s0=s ∧
    wpAny (model X.prog X.w) X.A.in1.in1 ((sortRuns').run (SortSt.mk' κ (ks.toArray.zip vs.toArray) #[] 7 none)) (fun r s'=>s'=s∧failedOf r.2=none∧∃ p:Array Nat,G p∧p.size=vs.length∧arrOf r.2=p.map (PySem.W.kas_item (ks.toArray.zip vs.toArray))) E s) E s
theorem katTups {as : List Addr} (I : Inv X pins σ H s) : ∀ {ks : List Addr} {vs : List (List V)} {ns : List Int}, (∀ (i : Nat) (a : Addr), ks[i]? = some a → ∃ n r, ns[i]? = some n ∧ SqT X.K H a (.int n :: r)) → ns.length = ks.length →
    ∃ fs:List Value,PySem.W.KatTups s.heap (ks.map Value.ref) fs∧fs.length=ks.length∧∀ v∈fs,∃ n t,v=Value.int n t
  | [],_,_,_,_=>⟨[],.nil,rfl,fun _ h=>nomatch h⟩
  | a::r,vs,[],_,h=>by cases h
  | a::r,vs,n::ns,hk,h=>by
    obtain ⟨m,q,e1,hq⟩:=hk 0 a rfl
    obtain ⟨fs,t,hl,hi⟩:=katTups (as:=as) (vs:=vs) I (ks:=r) (ns:=ns) (fun i b hb=>by simpa using hk (i+1) b (by simpa using hb)) (by simpa using h)
    obtain ⟨its,rv,⟨o,ho,hc,c,hd⟩,_⟩:=I.tuple hq
    cases rv with
    | cons rx rr =>
      obtain ⟨t1,rfl⟩:=rx
      refine ⟨Value.int m t1::fs,.cons ho hc hd (by simp) t,by simp [hl],fun v hv=>?_⟩
      rcases List.mem_cons.mp hv with rfl | hv
      · exact ⟨_,_,rfl⟩
      · exact hi v hv
end
end L2
namespace L2
open PySem PySem.Spec PyProof.Rows
section
variable {X:Cx} {k:Nat} {f:Addr} {fd:FuncData} {ps:List Str} {sp:Sp} {pins:List (Addr×Obj)} {σ:St} {H0 H:Hp} {s:Shared} {D st l:Addr} {e:Nat} {κV:Nat→List V} {ks:List Addr} {E:Value→Shared→Prop} {G:Array Nat→Prop} {xs:List V} {vs:List Value} {Q:VK}
def outV (xs:List V) (p:Array Nat):List V:=p.toList.map fun i=>xs.getD i .non
theorem vals_getD {xs:List V} {vs:List Value} (r:Vals xs vs) (i:Nat) (hi:i<xs.length):RelV (xs.getD i .non) (vs.getD i Value.none):=by
  have hx:xs[i]?=some xs[i]:=by simp [hi]
  obtain ⟨u,hu,ru⟩:=r.get hx
  rw [List.getD_eq_getElem?_getD,hx,List.getD_eq_getElem?_getD,hu]
  exact ru
theorem vals_out {xs:List V} {vs:List Value} (r:Vals xs vs):∀ (l:List Nat),(∀ i∈l,i<xs.length)→Vals (l.map fun i=>xs.getD i .non) (l.map fun i=>vs.getD i Value.none)
  | [],_=>.nil
  | i::t,h=>.cons (vals_getD r i (h i List.mem_cons_self)) (vals_out r t fun j hj=>h j (List.mem_cons_of_mem _ hj))
theorem outV_length {p:Array Nat}:(outV xs p).length=p.size:=by unfold outV;simp
theorem sk_tail {P : PySem.Fin → Shared → Prop} {so : SortSt} {out : List Value} {ys : List V} (K : SK X pins σ H s D st e κV ks) (hks : ks.length ≤ sizeLine) (ho : (arrOf so).map (·.2) = out.toArray) (ry : Vals ys out) (hz : ys.length ≤ sizeLine) (hf : failedOf so = none)
    (h:∀ s',Inv X pins σ (upd H D (.lst ys)) s'→P (.done (.ret .none)) s'):wpAny (model X.prog X.w) X.A.in1.in1 (ksk_tail D false e (.ref st) so) P E s:=by
  obtain ⟨c,hc⟩:=K.hs
  have hzo:out.length≤sizeLine:=by rw [← ry.length];exact hz
  have s1:=Heap.SameBut.update s.heap st (Obj.mapSeq fun _=>(#[]:Array Value))
  have hd1:(s.heap.update st (Obj.mapSeq fun _=>(#[]:Array Value))).get? D=some (seqObj "list" #[] e):=(s1.2 D K.ne.symm).trans K.hd
  have s2:=Heap.SameBut.update (s.heap.update st (Obj.mapSeq fun _=>(#[]:Array Value))) D (Obj.mapSeq fun _=>out.toArray)
  obtain ⟨c2,hc2⟩:∃ c2,((s.heap.update st (Obj.mapSeq fun _=>(#[]:Array Value))).update D (Obj.mapSeq fun _=>out.toArray)).get? D=some (seqObj "list" out.toArray c2):=⟨_,get?_update_seq hd1 fun _=>out.toArray⟩
  unfold ksk_tail
  try dsimp only
  rw [ho]
  refine wpAny_bind (listUpdate_at hc rfl ?_ (by simpa using hks) (Nat.zero_le _))
  refine wpAny_bind (wpAny_letGo ?_)
  refine wpAny_bind (seqEpoch_at hd1 rfl ?_)
  simp only [Bool.false_eq_true,if_false]
  refine wpAny_bind (listUpdate_at hd1 rfl ?_ (Nat.zero_le _) (by simp;lia))
  rw [hf]
  simp only [bne_self_eq_false,Bool.false_eq_true,if_false]
  refine wpAny_pure (h _ ?_)
  have I1:Inv X pins σ H { s with heap:=s.heap.update st (Obj.mapSeq fun _=>(#[]:Array Value)) }:=K.inv.moved (t':=s.toks) K.fs (fun b o hb e=>(s1.2 b fun z=>hb (by simp [z])).trans e)
  exact I1.adopt (t':=s.toks) K.fd (fun b u hb q=>(s2.2 b hb).trans q) ⟨_,hc2⟩ ⟨hz,out,c2,ry,hc2⟩
theorem sk_end {P : PySem.Fin → Shared → Prop} (K : SK X pins σ H s D st e κV ks) (hl : ks.length = vs.length) (r : Vals xs vs) (hz : xs.length ≤ sizeLine) (hG : ∀ p, G p → ∀ i ∈ p.toList, i < xs.length)
    (h0:vs.length<2→G (List.toArray (List.range vs.length))) (core:2≤vs.length→CoreOk X G (ks.map Value.ref) vs E s)
    (h:∀ p s',G p→p.size=xs.length→Inv X pins σ (upd H D (.lst (outV xs p))) s'→P (.done (.ret .none)) s'):wpAny (model X.prog X.w) X.A.in1.in1 (ksk_end D false vs.toArray e (.ref st) (ks.map Value.ref).toArray) P E s:=by
  have hlx:xs.length=vs.length:=r.length
  have hl':(ks.map Value.ref).length=vs.length:=by simp [hl]
  have fin:∀ (p:Array Nat) (so:SortSt),G p→p.size=vs.length→arrOf so=p.map (PySem.W.kas_item ((ks.map Value.ref).toArray.zip vs.toArray))→failedOf so=none→wpAny (model X.prog X.w) X.A.in1.in1 (ksk_tail D false e (.ref st) so) P E s:=fun p so g hp ha hf =>
    sk_tail K (by lia) (PySem.W.kat_snds hl' ha) (ys:=outV xs p) (vals_out r _ (hG p g)) (by rw [outV_length];lia) hf fun s' I'=>h p s' g (by lia) I'
  unfold ksk_end
  try dsimp only
  simp only [Bool.false_eq_true,if_false]
  by_cases h2:vs.length<2
  · have h2':vs.toArray.size<2:=by simpa using h2
    rw [if_pos h2',if_pos h2']
    refine wpAny_bind (wpAny_pure ?_)
    show wpAny (model X.prog X.w) X.A.in1.in1 (pure ((),SortSt.mk' general' ((ks.map Value.ref).toArray.zip vs.toArray) #[] 7 none) >>= _) P E s
    refine wpAny_bind (wpAny_pure ?_)
    try dsimp only
    refine fin (List.toArray (List.range vs.length)) _ (h0 h2) (by simp) ?_ rfl
    have:=PySem.W.kas_range ((ks.map Value.ref).toArray.zip vs.toArray)
    rw [show ((ks.map Value.ref).toArray.zip vs.toArray).size=vs.length by simp [hl]] at this
    exact this.symm
  · have h2':¬ vs.toArray.size<2:=by simpa using h2
    rw [if_neg h2',if_neg h2']
    refine wpAny_bind (wpAny_mono (core (by lia)) (fun κ s0 hk=>?_) fun _ _ z=>z)
    obtain ⟨rfl,hk⟩:=hk
    refine wpAny_bind (wpAny_mono hk (fun r' s' hr=>?_) fun _ _ z=>z)
    obtain ⟨rfl,hf,p,g,hp,ha⟩:=hr
    obtain ⟨⟨⟩,so⟩:=r'
    try dsimp only
    exact fin p so g hp ha hf
theorem sk_rest {P : PySem.Fin → Shared → Prop} (F : KeyRun X σ H0 f xs κV)
    (K:SK X pins σ H0 s D st e κV []) (r:Vals xs vs) (hz:xs.length≤sizeLine)
    (h:∀ H' s' ks,ks.length=vs.length→Same H0 H'→SK X pins σ H' s' D st e κV ks→wpAny (model X.prog X.w) X.A.in1.in1 (ksk_end D false vs.toArray e (.ref st) (ks.map Value.ref).toArray) P E s') :
    wpAny (model X.prog X.w) X.A.in1.in1 (ksk_rest D (.ref f) false vs.toArray e (.ref st)) P E s:=by
  have hlx:xs.length=vs.length:=r.length
  unfold ksk_rest
  refine wpAny_bind (wpAny_rule ?_)
  rw [List.forIn_toArray]
  refine wpAny_bind (wpAny_mono (fold_any (vs:=vs) (fun i s'=>∃ H' ks,ks.length=i∧Same H0 H'∧SK X pins σ H' s' D st e κV ks) (fun i x s1 hx hP=>?_) vs 0 s rfl (Nat.zero_le _) ⟨H0,[],rfl,Same.refl _,K⟩) (fun _ s' hd=>?_) fun _ _ z=>z)
  · obtain ⟨H1,ks,hkl,hS,K1⟩:=hP
    have hi:i<xs.length:=by rw [hlx];exact (List.getElem?_eq_some_iff.mp hx).1
    have hxx:xs[i]?=some xs[i]:=by simp [hi]
    obtain ⟨u,hu,ru⟩:=r.get hxx
    rw [hx] at hu
    cases hu
    obtain ⟨c,hc⟩:=K1.hs
    have I1 : Inv X (pins ++ pinsAt [D, st] s1.heap) σ H1 s1 := K1.inv.pinned (fun b hb => by
        rcases List.mem_cons.mp hb with rfl | hb
        · exact K1.fd
        · rw [List.mem_singleton.mp hb];exact K1.fs) (fun b hb=>by
        rcases List.mem_cons.mp hb with rfl | hb
        · exact ⟨_,K1.hd,nocell_seq⟩
        · rw [List.mem_singleton.mp hb];exact ⟨_,hc,nocell_seq⟩)
    refine wpAny_bind (wpAny_attempt (wpAny_mono (F _ i _ _ H1 _ hxx hS I1 ru) (fun v s2 hv=>?_) fun _ _ hF=>hF.elim))
    obtain ⟨y,H2,I2,ry,hS2,a,ey,ka⟩:=hv
    subst ey
    cases (show v=Value.ref a from ry)
    have p1:=I2.pin (D,seqObj "list" #[] e) (List.mem_append_right _ (List.mem_append_right _ (mem_pinsAt (by simp) K1.hd)))
    have p2:=I2.pin (st,seqObj "list" (ks.map Value.ref).toArray c) (List.mem_append_right _ (List.mem_append_right _ (mem_pinsAt (by simp) hc)))
    have sb:=Heap.SameBut.update s2.heap st (Obj.mapSeq (·.push (Value.ref a)))
    have ea:(ks.map Value.ref).toArray.push (Value.ref a)=((ks++[a]).map Value.ref).toArray:=by simp
    obtain ⟨c2,hc2⟩:∃ c2,(s2.heap.update st (Obj.mapSeq (·.push (Value.ref a)))).get? st=some (seqObj "list" ((ks++[a]).map Value.ref).toArray c2):=⟨_,by rw [← ea];exact get?_update_seq p2.1 (·.push (Value.ref a))⟩
    try dsimp only
    refine wpAny_bind (listUpdate_at p2.1 rfl ?_ (by simp;lia) (by simp;lia))
    refine wpAny_pure ⟨rfl,H2,ks++[a],by simp [hkl],hS.trans hS2,I2.unpinned.moved (t':=s2.toks) (K1.fs.again p2.2.1) (fun b o hb e=>(sb.2 b fun z=>hb (by simp [z])).trans e),K1.fd.again p1.2.1,K1.fs.again p2.2.1,K1.ne,(sb.2 D K1.ne.symm).trans p1.1,⟨c2,hc2⟩,fun j b hj=>?_⟩
    rcases Nat.lt_or_ge j ks.length with hjl | hjl
    · rw [List.getElem?_append_left hjl] at hj
      exact hS2.seqT (K1.hk j b hj)
    · rw [List.getElem?_append_right hjl] at hj
      have hj0:j - ks.length=0:=by
        have:=(List.getElem?_eq_some_iff.mp hj).1
        simp at this;lia
      rw [hj0] at hj
      cases Option.some.inj hj
      rw [show j=i by lia];exact ka
  · obtain ⟨H',ks,hkl,hS,K'⟩:=hd
    obtain ⟨c,hc⟩:=K'.hs
    try dsimp only
    refine wpAny_bind (listItems_at hc rfl ?_)
    exact h H' s' ks hkl hS K'
theorem sk_tree {P : PySem.Fin → Shared → Prop} {c0 : Nat} (F : KeyRun X σ H0 f xs κV)
    (I:Inv X pins σ H0 s) (fb:FpOk X pins H0 D) (hd:s.heap.get? D=some (seqObj "list" vs.toArray c0)) (r:Vals xs vs) (hz:xs.length≤sizeLine)
    (h:∀ e H' s' ks st,ks.length=vs.length→Same H0 H'→SK X pins σ H' s' D st e κV ks→wpAny (model X.prog X.w) X.A.in1.in1 (ksk_end D false vs.toArray e (.ref st) (ks.map Value.ref).toArray) P E s') :
    wpAny (model X.prog X.w) X.A.in1.in1 (ksk_tree D (.ref f) false) P E s:=by
  have hlx:xs.length=vs.length:=r.length
  have s1:=Heap.SameBut.update s.heap D (Obj.mapSeq fun _=>(#[]:Array Value))
  obtain ⟨e1,ho1⟩:∃ e1,(s.heap.update D (Obj.mapSeq fun _=>(#[]:Array Value))).get? D=some (seqObj "list" #[] e1):=⟨_,get?_update_seq hd fun _=>#[]⟩
  have hDl:D<s.heap.objs.size:=Heap.lt_size hd
  unfold ksk_tree
  refine wpAny_bind (listItems_at hd rfl ?_)
  refine wpAny_bind (listUpdate_at hd rfl ?_ (by simp;lia) (Nat.zero_le _))
  refine wpAny_bind (seqEpoch_at ho1 rfl ?_)
  refine wpAny_bind (wpAny_newTuple ?_ (by simp;lia))
  refine wpAny_bind (wpAny_newList ?_ (Nat.zero_le _))
  refine wpAny_holding ?_
  have I1:Inv X pins σ H0 { s with heap:=s.heap.update D (Obj.mapSeq fun _=>(#[]:Array Value)) }:=I.moved (t':=s.toks) fb (fun b o hb e=>(s1.2 b fun z=>hb (by simp [z])).trans e)
  have keep:∀ b o,(s.heap.update D (Obj.mapSeq fun _=>(#[]:Array Value))).get? b=some o→(((s.heap.update D (Obj.mapSeq fun _=>(#[]:Array Value))).push (seqObj "tuple" vs.toArray.toList.toArray 0)).push (seqObj "list" #[] 0)).get? b=some o:=fun b o q=>Heap.get?_push_of_some _ (Heap.get?_push_of_some _ q)
  have hsz:((s.heap.update D (Obj.mapSeq fun _=>(#[]:Array Value))).push (seqObj "tuple" vs.toArray.toList.toArray 0)).objs.size=s.heap.objs.size+1:=by rw [size_push',Heap.size_update]
  have I2:Inv X pins σ H0 { s with heap:=((s.heap.update D (Obj.mapSeq fun _=>(#[]:Array Value))).push (seqObj "tuple" vs.toArray.toList.toArray 0)).push (seqObj "list" #[] 0) }:=I1.kept (t':=s.toks) keep
  show wpAny (model X.prog X.w) X.A.in1.in1 (ksk_rest D (.ref f) false vs.toArray _ (.ref ((s.heap.update D (Obj.mapSeq fun _=>(#[]:Array Value))).push (seqObj "tuple" vs.toArray.toList.toArray 0)).objs.size)) P E { s with heap:=((s.heap.update D (Obj.mapSeq fun _=>(#[]:Array Value))).push (seqObj "tuple" vs.toArray.toList.toArray 0)).push (seqObj "list" #[] 0) }
  rw [hsz]
  have hss:(((s.heap.update D (Obj.mapSeq fun _=>(#[]:Array Value))).push (seqObj "tuple" vs.toArray.toList.toArray 0)).push (seqObj "list" #[] 0)).get? (s.heap.objs.size+1)=some (seqObj "list" #[] 0):=by rw [← hsz];exact Heap.get?_push_size _ rfl
  exact sk_rest F ⟨I2,fb,I.fpOk (Nat.le_succ _) (I.hok.fresh (Nat.le_succ _)),Nat.ne_of_gt (Nat.lt_succ_of_lt hDl),keep _ _ ho1,⟨0,by simpa using hss⟩,fun i a ha=>by simp at ha⟩ r hz fun H' s' ks a b c=>h _ H' s' ks _ a b c
end
end L2
namespace L2
open PySem PySem.Spec PyProof.Rows
section
variable {X:Cx} {k:Nat} {f:Addr} {fd:FuncData} {ps:List Str} {sp:Sp} {pins:List (Addr×Obj)} {σ:St} {H0:Hp} {s:Shared} {l:Addr} {κV:Nat→List V} {G:Array Nat→Prop} {xs:List V} {Q:VK}
theorem call_sortK (F : KeyRun X σ H0 f xs κV)
    (hl:SqL X.K H0 l xs) (hG:∀ p,G p→∀ i∈p.toList,i<xs.length) (h0:xs.length<2→G (List.toArray (List.range xs.length)))
    (core:∀ {vs:List Value} {ks:List Addr} {H':Hp} {s':Shared} {D st:Addr} {e:Nat},Vals xs vs→SK X pins σ H' s' D st e κV ks→ks.length=vs.length→2≤vs.length→CoreOk X G (ks.map Value.ref) vs X.xe s')
    (hQ:∀ p D H',G p→p.size=xs.length→H0 D=none→Same H0 H'→H' D=some (.lst (outV xs p))→Q (.ref D) H') (I:Inv X pins σ H0 s) :
    wpAny (model X.prog X.w) X.A (call (.builtin "sorted") [.ref l] [(Str.ofString "key",.ref f)]) (EP X pins σ Q) X.xe s:=by
  obtain ⟨vs,r,pl,hz⟩:=I.list hl
  have hlx:xs.length=vs.length:=r.length
  refine call_function_entry_kw kind_sorted plain_sorted entry_sorted (ksk_s1 _ _) ?_
  unfold Builtin.«sorted»
  refine wpAny_bind (m:=checkCount "sorted" 1 1 _) (wpAny_pure ?_)
  refine wpAny_bind (collect_list pl.isList ?_ (by first | lia | (rw [List.size_toArray];lia) | (simp;lia)))
  refine wpAny_bind (wpAny_newList ?_ (by first | lia | (rw [List.size_toArray];lia) | (simp;lia)))
  have hsz:((s.heap.push (seqObj "list" #[] 0)).update s.heap.objs.size (Obj.mapSeq (·++vs.toArray))).objs.size=s.heap.objs.size+1:=by rw [Heap.size_update,size_push']
  have hoL:(((s.heap.push (seqObj "list" #[] 0)).update s.heap.objs.size (Obj.mapSeq (·++vs.toArray))).push (seqObj "list" vs.toArray 0)).get? (s.heap.objs.size+1)=some (seqObj "list" vs.toArray 0):=by
    rw [← hsz];exact Heap.get?_push_size _ rfl
  have keep:∀ b o,s.heap.get? b=some o→(((s.heap.push (seqObj "list" #[] 0)).update s.heap.objs.size (Obj.mapSeq (·++vs.toArray))).push (seqObj "list" vs.toArray 0)).get? b=some o:=fun b o q=>by
    have hlt:b<s.heap.objs.size:=Heap.lt_size q
    rw [Heap.get?_push_ne _ _ _ (by rw [hsz];exact Nat.ne_of_lt (Nat.lt_succ_of_lt hlt)),Heap.get?_update_ne _ _ _ _ (Nat.ne_of_lt hlt),Heap.get?_push_ne _ _ _ (Nat.ne_of_lt hlt)]
    exact q
  show wpAny _ _ _ _ _ { s with heap:=((s.heap.push (seqObj "list" #[] 0)).update s.heap.objs.size (Obj.mapSeq (·++vs.toArray))).push (seqObj "list" vs.toArray 0) }
  rw [hsz]
  refine wpAny_bind (wpAny_holding (wpAny_call_entry_kw slot_list_sort ⟨_,hoL,rfl⟩ entry_list_sort ?body (ksk_l1 _ _)))
  case body =>
    show wpAny (model X.prog X.w) X.A.in1.in1 (Builtin.«list.sort» ⟨[.ref (s.heap.objs.size+1)],[(Str.ofString "key",.ref f)]⟩) _ _ _
    rw [ksk_t1]
    have I1:Inv X pins σ H0 { s with heap:=((s.heap.push (seqObj "list" #[] 0)).update s.heap.objs.size (Obj.mapSeq (·++vs.toArray))).push (seqObj "list" vs.toArray 0) }:=I.kept (t':=s.toks) keep
    have hDn:H0 (s.heap.objs.size+1)=none:=I.hok.fresh (Nat.le_succ _)
    refine sk_tree F I1 (I.fpOk (Nat.le_succ _) hDn) hoL r hz fun e H' s' ks st hks hS K=>?_
    refine sk_end K hks r hz hG (fun h2=>by rw [← hlx];exact h0 (by lia)) (core r K hks) fun p s2 g hp I2=>⟨_,rfl,?_⟩
    refine wpAny_pure ⟨_,rfl,.ref (s.heap.objs.size+1),_,I2,rfl,hQ p _ _ g hp hDn (fun b o q=>?_) upd_same⟩
    rw [upd_ne (ne_of_none q hDn)]
    exact hS b o q
end
section
variable {X:Cx} {x:Str} {p pos kp kpos:Pos} {e:Expr} {te:TE} {k:Nat} {f:Addr} {fd:FuncData} {ps:List Str} {sp:Sp} {fn:Str}
theorem call_minL (hu : X.A.units + 1 < cLine) (hh : X.calm = true) : CallR X (.builtin "min") (fun vs H Q => ∃ l xs, ∃ κ : Nat → List Int, vs = [.ref l] ∧ SqL X.K H l xs ∧ 0 < xs.length ∧
    (∀ i x,xs[i]?=some x→∃ a,x=.ref a∧SqT X.K H a ((κ i).map V.int))∧∀ i x H',xs[i]?=some x→Least κ xs.length i→Same H H'→Q x H'):=by
  intro pins s σ H vs us Q I r h
  obtain ⟨l,xs,κ,rfl,hq,hne,turn,hQ⟩:=h
  obtain ⟨u,rfl,ru⟩:=Vals.one r
  cases (show u=Value.ref l from ru)
  exact call_minN (I.ok.hd hh) hu turn hq hne hQ I
end
end L2
namespace TS
open PySem PyProof.Rows
def gallop':Bool→Keyed→Array Keyed→Nat→Nat→Nat→StateT SortSt Sem (Option Nat):=sortPriv% PySem.Builtin.gallop
def mergeLo':Array Keyed→Array Keyed→StateT SortSt Sem (Array Keyed):=sortPriv% PySem.Builtin.mergeLo
def mergeHi':Array Keyed→Array Keyed→StateT SortSt Sem (Array Keyed):=sortPriv% PySem.Builtin.mergeHi
structure LtOk (M:Model) (A:Around) (E:Value→Shared→Prop) (s:Shared) (kd:SortKind) (S:Keyed→Prop) (L:Keyed→Keyed→Bool):Prop where
  lt:∀ x y,S x→S y→∀ (st:SortSt) (Q:Option Bool→SortSt→Prop),kindOf st=kd→Q (some (L x y)) st→wpS M A E s (lt' x y) Q st
  tr:∀ x y z,S x→S y→S z→L y x=false→L z y=false→L z x=false
  as:∀ x y,S x→S y→L x y=true→L y x=false
section
variable {M:Model} {A:Around} {E:Value→Shared→Prop} {s:Shared} {kd:SortKind} {S:Keyed→Prop} {L:Keyed→Keyed→Bool}
theorem wpS_elem {arr:Array Keyed} {i:Nat} {x:Keyed} {st:SortSt} {Q:Keyed→SortSt→Prop} (h:arr[i]?=some x) (q:Q x st):wpS M A E s (elem' arr i) Q st:=by
  rw [elem'_eq,h]
  exact wpS_pure q
theorem gallop_spec (O : LtOk M A E s kd S L) {left : Bool} {key : Keyed} {arr : Array Keyed} {base n hint : Nat} {b : Nat → Bool} {Q : Option Nat → SortSt → Prop} {st : SortSt} (hk : kindOf st = kd) (hS : S key)
    (hb:∀ i,i<n→∃ x,arr[base+i]?=some x∧S x∧(if left=true then L x key else !L key x)=b i) (mono:∀ i j,i≤j→j<n→b j=true→b i=true) (hh:hint<n)
    (hQ:∀ k,k≤n→(∀ i,i<k→b i=true)→(∀ i,k≤i→i<n→b i=false)→Q (some k) st):wpS M A E s (gallop' left key arr base n hint) Q st:=by
  have bey : ∀ i, i < n → ∀ (Q' : Option Bool → SortSt → Prop), Q' (some (b i)) st → wpS M A E s ((fun i => do
        let x ← elem' arr (base+i)
        if left=true then lt' x key
          else do
            let r ← lt' key x
            pure (Option.map (fun x=>!x) r)) i) Q' st:=fun i hi Q' q=>by
    obtain ⟨x,e,sx,eb⟩:=hb i hi
    refine wpS_bind (wpS_elem e ?_)
    cases left with
    | true =>
      rw [if_pos rfl] at eb ⊢
      exact O.lt x key sx hS st Q' hk (by rw [eb];exact q)
    | false =>
      rw [if_neg (by simp)] at eb ⊢
      refine wpS_bind (O.lt key x hS sx st _ hk (wpS_pure ?_))
      show Q' (some (!L key x)) st
      rw [eb];exact q
  refine wpS_bind (bey hint hh _ ?_)
  dsimp only
  cases hbh:b hint with
  | true =>
    rw [if_pos rfl]
    refine wpS_bind (wpS_mono (wpS_forRange (I:=fun x c st'=>st'=st∧∃ la of,c=(none,la,of)∧la<n - hint∧la<of∧x+1≤of∧b (hint+la)=true)
      (Q:=fun c st'=>st'=st∧∃ la of,c=(none,la,of)∧la<n - hint∧la<of∧b (hint+la)=true∧(of<n - hint→b (hint+of)=false)) ?_ ?_ ⟨rfl,0,1,rfl,by lia,by lia,by lia,hbh⟩) ?_)
    · rintro x c st' _ hx ⟨rfl,la,of,rfl,g1,g2,g3,g4⟩
      dsimp only
      by_cases hge:of ≥ n - hint
      · rw [if_pos hge]
        exact wpS_pure ⟨rfl,la,of,rfl,g1,g2,g4,fun z=>absurd z (by lia)⟩
      · rw [if_neg hge]
        refine wpS_bind (bey (hint+of) (by lia) _ ?_)
        dsimp only
        cases hbo:b (hint+of) with
        | true =>
          rw [if_neg (by simp)]
          exact wpS_pure ⟨rfl,of,2*of+1,rfl,by lia,by lia,by lia,hbo⟩
        | false =>
          rw [if_pos (by simp)]
          exact wpS_pure ⟨rfl,la,of,rfl,g1,g2,g4,fun _=>hbo⟩
    · rintro c st' ⟨rfl,la,of,rfl,g1,g2,g3,g4⟩
      exact ⟨rfl,la,of,rfl,g1,g2,g4,fun z=>absurd z (by simp at g3;lia)⟩
    · rintro c st' ⟨rfl,la,of,rfl,g1,g2,g3,g4⟩
      dsimp only
      have hlo:∀ i,i<hint+la+1→b i=true:=fun i hi=>mono i (hint+la) (by lia) (by lia) g3
      have hhi:∀ i,hint+min of (n - hint)≤i→i<n→b i=false:=fun i h1 h2=>by
        by_cases ho:of<n - hint
        · cases q:b i with
          | false=>rfl
          | true =>
            have:=mono (hint+of) i (by lia) h2 q
            rw [g4 ho] at this;cases this
        · exact absurd h2 (by lia)
      refine wpS_bind (wpS_mono (wpS_forRange (I:=fun x c z=>z=st'∧∃ lo hi,c=(none,lo,hi)∧lo≤hi∧hi≤n∧(hi - lo)+x≤n∧(∀ i,i<lo→b i=true)∧∀ i,hi≤i→i<n→b i=false)
        (Q:=fun c z=>z=st'∧∃ k,c=(none,k,k)∧k≤n∧(∀ i,i<k→b i=true)∧∀ i,k≤i→i<n→b i=false) ?_ ?_ ⟨rfl,hint+la+1,hint+min of (n - hint),rfl,by lia,by lia,by lia,hlo,hhi⟩) ?_)
      · rintro x c st'' _ hx ⟨rfl,lo,hi,rfl,g1,g2,g3,g4,g5⟩
        dsimp only
        by_cases hge:lo ≥ hi
        · rw [if_pos hge]
          have e:lo=hi:=by lia
          subst e
          exact wpS_pure ⟨rfl,lo,rfl,g2,g4,g5⟩
        · rw [if_neg hge]
          have hm:lo+(hi - lo) / 2<n:=by lia
          refine wpS_bind (bey _ hm _ ?_)
          dsimp only
          cases hbm:b (lo+(hi - lo) / 2) with
          | true =>
            rw [if_pos rfl]
            refine wpS_pure ⟨rfl,_,_,rfl,by lia,g2,by lia,fun i hi'=>?_,g5⟩
            exact mono i _ (by lia) hm hbm
          | false =>
            rw [if_neg (by simp)]
            refine wpS_pure ⟨rfl,_,_,rfl,by lia,by lia,by lia,g4,fun i hi1 hi2=>?_⟩
            cases q:b i with
            | false=>rfl
            | true=>rw [mono _ i hi1 hi2 q] at hbm;cases hbm
      · rintro c st'' ⟨rfl,lo,hi,rfl,g1,g2,g3,g4,g5⟩
        have e:lo=hi:=by simp at g3;lia
        subst e
        exact ⟨rfl,lo,rfl,g2,g4,g5⟩
      · rintro c st'' ⟨rfl,k,rfl,g1,g2,g3⟩
        exact wpS_pure (hQ k g1 g2 g3)
  | false =>
    rw [if_neg (by simp)]
    refine wpS_bind (wpS_mono (wpS_forRange (I:=fun x c st'=>st'=st∧∃ la of,c=(none,la,of)∧la<hint+1∧la<of∧x+1≤of∧b (hint - la)=false)
      (Q:=fun c st'=>st'=st∧∃ la of,c=(none,la,of)∧la<hint+1∧la<of∧b (hint - la)=false∧(of<hint+1→b (hint - of)=true)) ?_ ?_ ⟨rfl,0,1,rfl,by lia,by lia,by lia,hbh⟩) ?_)
    · rintro x c st' _ hx ⟨rfl,la,of,rfl,g1,g2,g3,g4⟩
      dsimp only
      by_cases hge:of ≥ hint+1
      · rw [if_pos hge]
        exact wpS_pure ⟨rfl,la,of,rfl,g1,g2,g4,fun z=>absurd z (by lia)⟩
      · rw [if_neg hge]
        refine wpS_bind (bey (hint - of) (by lia) _ ?_)
        dsimp only
        cases hbo:b (hint - of) with
        | true =>
          rw [if_pos rfl]
          exact wpS_pure ⟨rfl,la,of,rfl,g1,g2,g4,fun _=>hbo⟩
        | false =>
          rw [if_neg (by simp)]
          exact wpS_pure ⟨rfl,of,2*of+1,rfl,by lia,by lia,by lia,hbo⟩
    · rintro c st' ⟨rfl,la,of,rfl,g1,g2,g3,g4⟩
      exact ⟨rfl,la,of,rfl,g1,g2,g4,fun z=>absurd z (by simp at g3;lia)⟩
    · rintro c st' ⟨rfl,la,of,rfl,g1,g2,g3,g4⟩
      dsimp only
      have hlo:∀ i,i<hint+1 - min of (hint+1)→b i=true:=fun i hi=>by
        by_cases ho:of<hint+1
        · exact mono i (hint - of) (by lia) (by lia) (g4 ho)
        · exact absurd hi (by lia)
      have hhi:∀ i,hint - la≤i→i<n→b i=false:=fun i h1 h2=>by
        cases q:b i with
        | false=>rfl
        | true =>
          have:=mono (hint - la) i (by lia) h2 q
          rw [g3] at this;cases this
      refine wpS_bind (wpS_mono (wpS_forRange (I:=fun x c z=>z=st'∧∃ lo hi,c=(none,lo,hi)∧lo≤hi∧hi≤n∧(hi - lo)+x≤n∧(∀ i,i<lo→b i=true)∧∀ i,hi≤i→i<n→b i=false)
        (Q:=fun c z=>z=st'∧∃ k,c=(none,k,k)∧k≤n∧(∀ i,i<k→b i=true)∧∀ i,k≤i→i<n→b i=false) ?_ ?_ ⟨rfl,hint+1 - min of (hint+1),hint - la,rfl,by lia,by lia,by lia,hlo,hhi⟩) ?_)
      · rintro x c st'' _ hx ⟨rfl,lo,hi,rfl,g1,g2,g3,g4,g5⟩
        dsimp only
        by_cases hge:lo ≥ hi
        · rw [if_pos hge]
          have e:lo=hi:=by lia
          subst e
          exact wpS_pure ⟨rfl,lo,rfl,g2,g4,g5⟩
        · rw [if_neg hge]
          have hm:lo+(hi - lo) / 2<n:=by lia
          refine wpS_bind (bey _ hm _ ?_)
          dsimp only
          cases hbm:b (lo+(hi - lo) / 2) with
          | true =>
            rw [if_pos rfl]
            refine wpS_pure ⟨rfl,_,_,rfl,by lia,g2,by lia,fun i hi'=>?_,g5⟩
            exact mono i _ (by lia) hm hbm
          | false =>
            rw [if_neg (by simp)]
            refine wpS_pure ⟨rfl,_,_,rfl,by lia,by lia,by lia,g4,fun i hi1 hi2=>?_⟩
            cases q:b i with
            | false=>rfl
            | true=>rw [mono _ i hi1 hi2 q] at hbm;cases hbm
      · rintro c st'' ⟨rfl,lo,hi,rfl,g1,g2,g3,g4,g5⟩
        have e:lo=hi:=by simp at g3;lia
        subst e
        exact ⟨rfl,lo,rfl,g2,g4,g5⟩
      · rintro c st'' ⟨rfl,k,rfl,g1,g2,g3⟩
        exact wpS_pure (hQ k g1 g2 g3)
end
end TS
namespace TS
section
variable {α:Type} {le:α→α→Prop}
structure MI (le:α→α→Prop) (a b out:List α) (ia ib:Nat):Prop where
  ha:ia≤a.length
  hb:ib≤b.length
  perm:(out++a.drop ia++b.drop ib).Perm (a++b)
  sorted:out.Pairwise le
  lea:∀ x∈out,∀ y∈a.drop ia,le x y
  leb:∀ x∈out,∀ y∈b.drop ib,le x y
theorem drop_split (a:List α) (i k:Nat):a.drop i=(a.drop i).take k++a.drop (i+k):=by
  rw [← List.drop_drop,List.take_append_drop]
theorem MI.takeA {a b out : List α} {ia ib : Nat} (m : MI le a b out ia ib) (sa : a.Pairwise le) (k : Nat) (hk : ia + k ≤ a.length) (h : ∀ x ∈ (a.drop ia).take k, ∀ y ∈ b.drop ib, le x y) :
    MI le a b (out++(a.drop ia).take k) (ia+k) ib:=by
  have e:=drop_split a ia k
  have sd:((a.drop ia).take k++a.drop (ia+k)).Pairwise le:=by rw [← e];exact sa.sublist (List.drop_sublist _ _)
  obtain ⟨s1,s2,s3⟩:=List.pairwise_append.mp sd
  refine ⟨hk,m.hb,?_,List.pairwise_append.mpr ⟨m.sorted,s1,fun x hx y hy=>m.lea x hx y ?_⟩,fun x hx y hy=>?_,fun x hx y hy=>?_⟩
  · have:=m.perm
    rw [e] at this
    simpa [List.append_assoc] using this
  · rw [e];exact List.mem_append_left _ hy
  · rcases List.mem_append.mp hx with q | q
    · exact m.lea x q y (by rw [e];exact List.mem_append_right _ hy)
    · exact s3 x q y hy
  · rcases List.mem_append.mp hx with q | q
    · exact m.leb x q y hy
    · exact h x q y hy
theorem MI.takeB {a b out : List α} {ia ib : Nat} (m : MI le a b out ia ib) (sb : b.Pairwise le) (k : Nat) (hk : ib + k ≤ b.length) (h : ∀ x ∈ (b.drop ib).take k, ∀ y ∈ a.drop ia, le x y) :
    MI le a b (out++(b.drop ib).take k) ia (ib+k):=by
  have e:=drop_split b ib k
  have sd:((b.drop ib).take k++b.drop (ib+k)).Pairwise le:=by rw [← e];exact sb.sublist (List.drop_sublist _ _)
  obtain ⟨s1,s2,s3⟩:=List.pairwise_append.mp sd
  refine ⟨m.ha,hk,?_,List.pairwise_append.mpr ⟨m.sorted,s1,fun x hx y hy=>m.leb x hx y ?_⟩,fun x hx y hy=>?_,fun x hx y hy=>?_⟩
  · have:=m.perm
    rw [e] at this
    refine List.Perm.trans ?_ this
    rw [List.append_assoc,List.append_assoc,List.append_assoc,← List.append_assoc ((b.drop ib).take k),← List.append_assoc (a.drop ia)]
    exact List.Perm.append_left _ (List.Perm.append_right _ List.perm_append_comm)
  · rw [e];exact List.mem_append_left _ hy
  · rcases List.mem_append.mp hx with q | q
    · exact m.lea x q y hy
    · exact h x q y hy
  · rcases List.mem_append.mp hx with q | q
    · exact m.leb x q y (by rw [e];exact List.mem_append_right _ hy)
    · exact s3 x q y hy
def Res (le:α→α→Prop) (a b r:List α):Prop:=r.Perm (a++b)∧r.Pairwise le
theorem MI.done {a b out:List α} {ia ib:Nat} (m:MI le a b out ia ib) (sa:a.Pairwise le) (h:b.length≤ib):Res le a b (out++a.drop ia++b.drop ib):=by
  refine ⟨m.perm,?_⟩
  rw [List.drop_of_length_le h,List.append_nil]
  exact List.pairwise_append.mpr ⟨m.sorted,sa.sublist (List.drop_sublist _ _),m.lea⟩
theorem MI.lastA {a b out:List α} {ia ib:Nat} (m:MI le a b out ia ib) (sa:a.Pairwise le) (sb:b.Pairwise le) (h:∀ x∈b.drop ib,∀ y∈a.drop ia,le x y):Res le a b (out++b.drop ib++a.drop ia):=by
  refine ⟨?_,?_⟩
  · refine List.Perm.trans ?_ m.perm
    rw [List.append_assoc,List.append_assoc]
    exact List.Perm.append_left _ List.perm_append_comm
  · refine List.pairwise_append.mpr ⟨List.pairwise_append.mpr ⟨m.sorted,sb.sublist (List.drop_sublist _ _),m.leb⟩,sa.sublist (List.drop_sublist _ _),fun x hx y hy=>?_⟩
    rcases List.mem_append.mp hx with q | q
    · exact m.lea x q y hy
    · exact h x q y hy
theorem MI.start {a b:List α} {y:α} (sb:b.Pairwise le) (h0:b[0]?=some y) (h:∀ x∈a,le y x):MI le a b [y] 0 1:=by
  cases b with
  | nil=>cases h0
  | cons z r =>
    cases h0
    obtain ⟨s1,s2⟩:=List.pairwise_cons.mp sb
    refine ⟨Nat.zero_le _,by simp,?_,by simp,fun x hx w hw=>?_,fun x hx w hw=>?_⟩
    · show ([y]++a++r).Perm (a++y::r)
      exact List.perm_middle.symm
    · rw [List.mem_singleton.mp hx];exact h w hw
    · rw [List.mem_singleton.mp hx];exact s1 w hw
end
end TS
namespace TS
open PySem PyProof.Rows
def Like (st st':SortSt):Prop:=kindOf st'=kindOf st∧arrOf st'=arrOf st∧pendingOf st'=pendingOf st∧failedOf st'=failedOf st
theorem Like.refl (st:SortSt):Like st st:=⟨rfl,rfl,rfl,rfl⟩
abbrev leOf (L:Keyed→Keyed→Bool):Keyed→Keyed→Prop:=fun x y=>L y x=false
section
variable {M:Model} {A:Around} {E:Value→Shared→Prop} {s:Shared} {kd:SortKind} {S:Keyed→Prop} {L:Keyed→Keyed→Bool}
theorem LtOk.rf (O:LtOk M A E s kd S L) {x:Keyed} (h:S x):L x x=false:=by
  cases q:L x x with
  | false=>rfl
  | true=>rw [O.as x x h h q] at q;cases q
structure Two (S:Keyed→Prop) (L:Keyed→Keyed→Bool) (a b:Array Keyed):Prop where
  sa:a.toList.Pairwise (leOf L)
  sb:b.toList.Pairwise (leOf L)
  Sa:∀ x∈a.toList,S x
  Sb:∀ x∈b.toList,S x
theorem at_mem {a:Array Keyed} {i:Nat} {x:Keyed} (h:a[i]?=some x):x∈a.toList:=by
  have:a.toList[i]?=some x:=by simpa using h
  exact List.mem_of_getElem? this
theorem drop_at {a:Array Keyed} {i:Nat} {x:Keyed} (h:a[i]?=some x):a.toList.drop i=x::a.toList.drop (i+1):=by
  have hl:i<a.toList.length:=by
    have:=(Array.getElem?_eq_some_iff.mp h).1
    simpa using this
  rw [List.drop_eq_getElem_cons hl]
  congr 1
  have:=(Array.getElem?_eq_some_iff.mp h).2
  simpa using this
theorem le_drop {a:Array Keyed} (O:LtOk M A E s kd S L) (sa:a.toList.Pairwise (leOf L)) (Sa:∀ x∈a.toList,S x) {i:Nat} {x y:Keyed} (h:a[i]?=some x) (hy:y∈a.toList.drop i):leOf L x y:=by
  rw [drop_at h] at hy
  rcases List.mem_cons.mp hy with e | q
  · rw [e];exact O.rf (Sa x (at_mem h))
  · have:=sa.sublist (List.drop_sublist i _)
    rw [drop_at h] at this
    exact (List.pairwise_cons.mp this).1 y q
variable {a b:Array Keyed} {out:Array Keyed} {ia ib:Nat}
theorem one_B (O : LtOk M A E s kd S L) (T : Two S L a b) (m : MI (leOf L) a.toList b.toList out.toList ia ib) {x y : Keyed} (hb : b[ib]? = some x) (ha : a[ia]? = some y) (h : L x y = true) :
    MI (leOf L) a.toList b.toList (out.push x).toList ia (ib+1):=by
  have e:(b.toList.drop ib).take 1=[x]:=by rw [drop_at hb];rfl
  have hl:ib+1≤b.toList.length:=by
    have:=(Array.getElem?_eq_some_iff.mp hb).1
    rw [Array.length_toList];exact this
  have:=m.takeB T.sb 1 hl fun z hz w hw=>by
    rw [e] at hz
    rw [List.mem_singleton.mp hz]
    have h1:leOf L x y:=O.as x y (T.Sb x (at_mem hb)) (T.Sa y (at_mem ha)) h
    exact O.tr x y w (T.Sb x (at_mem hb)) (T.Sa y (at_mem ha)) (T.Sa w (List.mem_of_mem_drop hw)) h1 (le_drop O T.sa T.Sa ha hw)
  rw [e] at this
  rw [Array.toList_push]
  exact this
theorem one_A (O : LtOk M A E s kd S L) (T : Two S L a b) (m : MI (leOf L) a.toList b.toList out.toList ia ib) {x y : Keyed} (hb : b[ib]? = some x) (ha : a[ia]? = some y) (h : L x y = false) :
    MI (leOf L) a.toList b.toList (out.push y).toList (ia+1) ib:=by
  have e:(a.toList.drop ia).take 1=[y]:=by rw [drop_at ha];rfl
  have hl:ia+1≤a.toList.length:=by
    have:=(Array.getElem?_eq_some_iff.mp ha).1
    rw [Array.length_toList];exact this
  have:=m.takeA T.sa 1 hl fun z hz w hw=>by
    rw [e] at hz
    rw [List.mem_singleton.mp hz]
    exact O.tr y x w (T.Sa y (at_mem ha)) (T.Sb x (at_mem hb)) (T.Sb w (List.mem_of_mem_drop hw)) h (le_drop O T.sb T.Sb hb hw)
  rw [e] at this
  rw [Array.toList_push]
  exact this
theorem toList_cut (a:Array Keyed) (i k:Nat):(a.extract i (i+k)).toList=(a.toList.drop i).take k:=by
  rw [Array.toList_extract,List.extract_eq_take_drop,Nat.add_sub_cancel_left]
theorem mem_cut {a:Array Keyed} {i k:Nat} {x:Keyed} (h:x∈(a.toList.drop i).take k):∃ j,j<k∧a[i+j]?=some x:=by
  obtain ⟨j,hj,e⟩:=List.getElem_of_mem h
  have hk:j<k:=by
    have:=hj
    rw [List.length_take] at this
    lia
  refine ⟨j,hk,?_⟩
  have h1:((a.toList.drop i).take k)[j]?=some x:=by rw [List.getElem?_eq_getElem hj,e]
  rw [List.getElem?_take_of_lt hk,List.getElem?_drop] at h1
  simpa using h1
theorem blk_A (O : LtOk M A E s kd S L) (T : Two S L a b) (m : MI (leOf L) a.toList b.toList out.toList ia ib) {x : Keyed} (hb : b[ib]? = some x) (k : Nat) (hk : ia + k ≤ a.size) (h : ∀ j y, j < k → a[ia + j]? = some y → L x y = false) :
    MI (leOf L) a.toList b.toList (out++a.extract ia (ia+k)).toList (ia+k) ib:=by
  rw [Array.toList_append,toList_cut]
  refine m.takeA T.sa k (by rw [Array.length_toList];exact hk) fun z hz w hw=>?_
  obtain ⟨j,hj,e⟩:=mem_cut hz
  exact O.tr z x w (T.Sa z (at_mem e)) (T.Sb x (at_mem hb)) (T.Sb w (List.mem_of_mem_drop hw)) (h j z hj e) (le_drop O T.sb T.Sb hb hw)
theorem blk_B (O : LtOk M A E s kd S L) (T : Two S L a b) (m : MI (leOf L) a.toList b.toList out.toList ia ib) {y : Keyed} (ha : a[ia]? = some y) (k : Nat) (hk : ib + k ≤ b.size) (h : ∀ j x, j < k → b[ib + j]? = some x → L x y = true) :
    MI (leOf L) a.toList b.toList (out++b.extract ib (ib+k)).toList ia (ib+k):=by
  rw [Array.toList_append,toList_cut]
  refine m.takeB T.sb k (by rw [Array.length_toList];exact hk) fun z hz w hw=>?_
  obtain ⟨j,hj,e⟩:=mem_cut hz
  exact O.tr z y w (T.Sb z (at_mem e)) (T.Sa y (at_mem ha)) (T.Sa w (List.mem_of_mem_drop hw)) (O.as z y (T.Sb z (at_mem e)) (T.Sa y (at_mem ha)) (h j z hj e)) (le_drop O T.sa T.Sa ha hw)
theorem seek_A (O : LtOk M A E s kd S L) (T : Two S L a b) {st : SortSt} (hk : kindOf st = kd) {x : Keyed} (Sx : S x) (hi : ia < a.size) {Q : Option Nat → SortSt → Prop}
    (hQ:∀ k,ia+k≤a.size→(∀ j y,j<k→a[ia+j]?=some y→L x y=false)→(∀ j y,k≤j→a[ia+j]?=some y→L x y=true)→Q (some k) st) {hint:Nat} (hh:hint<a.size - ia) :
    wpS M A E s (gallop' false x a ia (a.size - ia) hint) Q st:=by
  have at_:∀ i,i<a.size - ia→∃ y,a[ia+i]?=some y:=fun i h=>⟨a[ia+i],by simp [show ia+i<a.size by lia]⟩
  refine gallop_spec (b:=fun i=>!(a[ia+i]?.elim false fun y=>L x y)) O hk Sx (fun i h=>?_) (fun i j hij hj q=>?_) hh fun k h1 h2 h3=>?_
  · obtain ⟨y,e⟩:=at_ i h
    exact ⟨y,e,T.Sa y (at_mem e),by rw [if_neg (by simp),e];rfl⟩
  · obtain ⟨y,e⟩:=at_ j hj
    obtain ⟨z,e2⟩:=at_ i (by lia)
    rw [e] at q
    rw [e2]
    have q1:L x y=false:=by simpa using q
    have le1:leOf L z y:=le_drop O T.sa T.Sa e2 (by
      have:y∈(a.toList.drop (ia+i)).drop (j - i):=by
        rw [List.drop_drop,show ia+i+(j - i)=ia+j by lia,drop_at e]
        exact List.mem_cons_self
      exact List.mem_of_mem_drop this)
    have:L x z=false:=O.tr z y x (T.Sa z (at_mem e2)) (T.Sa y (at_mem e)) Sx le1 q1
    simpa using this
  · refine hQ k (by lia) (fun j y hj e=>?_) (fun j y hj e=>?_)
    · have:=h2 j hj
      rw [e] at this
      simpa using this
    · have hlt : j < a.size - ia := by
        have:=(Array.getElem?_eq_some_iff.mp e).1
        lia
      have:=h3 j hj hlt
      rw [e] at this
      simpa using this
theorem seek_B (O : LtOk M A E s kd S L) (T : Two S L a b) {st : SortSt} (hk : kindOf st = kd) {y : Keyed} (Sy : S y) (hi : ib < b.size) {Q : Option Nat → SortSt → Prop}
    (hQ:∀ k,ib+k≤b.size→(∀ j x,j<k→b[ib+j]?=some x→L x y=true)→(∀ j x,k≤j→b[ib+j]?=some x→L x y=false)→Q (some k) st) {hint:Nat} (hh:hint<b.size - ib) :
    wpS M A E s (gallop' true y b ib (b.size - ib) hint) Q st:=by
  have at_:∀ i,i<b.size - ib→∃ x,b[ib+i]?=some x:=fun i h=>⟨b[ib+i],by simp [show ib+i<b.size by lia]⟩
  refine gallop_spec (b:=fun i=>b[ib+i]?.elim false fun x=>L x y) O hk Sy (fun i h=>?_) (fun i j hij hj q=>?_) hh fun k h1 h2 h3=>?_
  · obtain ⟨x,e⟩:=at_ i h
    exact ⟨x,e,T.Sb x (at_mem e),by rw [if_pos rfl,e];rfl⟩
  · obtain ⟨x,e⟩:=at_ j hj
    obtain ⟨z,e2⟩:=at_ i (by lia)
    rw [e] at q
    rw [e2]
    have q1:L x y=true:=q
    show L z y=true
    have le1:leOf L z x:=le_drop O T.sb T.Sb e2 (by
      have:x∈(b.toList.drop (ib+i)).drop (j - i):=by
        rw [List.drop_drop,show ib+i+(j - i)=ib+j by lia,drop_at e]
        exact List.mem_cons_self
      exact List.mem_of_mem_drop this)
    cases w:L z y with
    | true=>rfl
    | false =>
      have:L x y=false:=O.tr y z x Sy (T.Sb z (at_mem e2)) (T.Sb x (at_mem e)) w le1
      rw [this] at q1;cases q1
  · refine hQ k (by lia) (fun j x hj e=>?_) (fun j x hj e=>?_)
    · have:=h2 j hj
      rw [e] at this
      exact this
    · have hlt : j < b.size - ib := by
        have:=(Array.getElem?_eq_some_iff.mp e).1
        lia
      have:=h3 j hj hlt
      rw [e] at this
      exact this
end
end TS
set_option maxHeartbeats 8000000
namespace TS
open PySem PyProof.Rows
section
variable {M:Model} {A:Around} {E:Value→Shared→Prop} {s:Shared} {kd:SortKind} {S:Keyed→Prop} {L:Keyed→Keyed→Bool} {a b out:Array Keyed} {ia ib:Nat}
theorem toList_from (a:Array Keyed) (i:Nat):(a.extract i a.size).toList=a.toList.drop i:=by
  rw [Array.toList_extract,List.extract_eq_take_drop,List.take_of_length_le (by simp)]
theorem fin_done (T:Two S L a b) (m:MI (leOf L) a.toList b.toList out.toList ia ib) (h:b.size≤ib):Res (leOf L) a.toList b.toList (out++a.extract ia a.size++b.extract ib b.size).toList:=by
  rw [Array.toList_append,Array.toList_append,toList_from,toList_from]
  exact m.done T.sa (by rw [Array.length_toList];exact h)
theorem fin_doneA (T:Two S L a b) (m:MI (leOf L) a.toList b.toList out.toList ia ib) (h:a.size≤ia):Res (leOf L) a.toList b.toList (out++a.extract ia a.size++b.extract ib b.size).toList:=by
  rw [Array.toList_append,Array.toList_append,toList_from,toList_from]
  have e:a.toList.drop ia=[]:=List.drop_of_length_le (by rw [Array.length_toList];exact h)
  refine ⟨m.perm,?_⟩
  rw [e,List.append_nil]
  exact List.pairwise_append.mpr ⟨m.sorted,T.sb.sublist (List.drop_sublist _ _),m.leb⟩
theorem fin_last (T:Two S L a b) (hl:∀ z,a[a.size - 1]?=some z→∀ x∈b.toList,leOf L x z) (m:MI (leOf L) a.toList b.toList out.toList ia ib) (h:ia+1=a.size):Res (leOf L) a.toList b.toList (out++b.extract ib b.size++a.extract ia a.size).toList:=by
  rw [Array.toList_append,Array.toList_append,toList_from,toList_from]
  have hlt:ia<a.size:=by lia
  have e:a[ia]?=some a[ia]:=by simp [hlt]
  refine m.lastA T.sa T.sb fun x hx y hy=>?_
  rw [drop_at e,List.drop_of_length_le (by rw [Array.length_toList];lia)] at hy
  rw [List.mem_singleton.mp hy]
  exact hl _ (by rw [show a.size - 1=ia by lia];exact e) x (List.mem_of_mem_drop hx)
theorem mergeLo_spec (O : LtOk M A E s kd S L) (T : Two S L a b) {st : SortSt} {Q : Array Keyed → SortSt → Prop} (hk : kindOf st = kd) (ha : 0 < a.size) (hb : 0 < b.size) (h0 : ∀ y, b[0]? = some y → ∀ x ∈ a.toList, leOf L y x)
    (hl:∀ z,a[a.size - 1]?=some z→∀ x∈b.toList,leOf L x z) (hQ:∀ r st',Res (leOf L) a.toList b.toList r.toList→Like st st'→Q r st'):wpS M A E s (mergeLo' a b) Q st:=by
  have atA:∀ i,i<a.size→∃ x,a[i]?=some x:=fun i h=>⟨a[i],by simp [h]⟩
  have atB:∀ i,i<b.size→∃ x,b[i]?=some x:=fun i h=>⟨b[i],by simp [h]⟩
  obtain ⟨b0,e0⟩:=atB 0 hb
  have m0:MI (leOf L) a.toList b.toList (#[b0]:Array Keyed).toList 0 1:=MI.start T.sb (by simpa using e0) (h0 b0 e0)
  refine wpS_bind (wpS_lift (wpAny_rule ⟨rfl,?_⟩))
  refine wpS_bind (wpS_elem e0 ?_)
  dsimp only
  by_cases hb1:b.size=1
  · rw [if_pos (by simp [hb1])]
    exact wpS_pure (hQ _ _ (fin_done T m0 (by lia)) (Like.refl _))
  rw [if_neg (by simp;lia)]
  by_cases ha1:a.size=1
  · rw [if_pos (by simp [ha1])]
    exact wpS_pure (hQ _ _ (fin_last T hl m0 (by lia)) (Like.refl _))
  rw [if_neg (by simp;lia)]
  refine wpS_bind (wpS_get ?_)
  refine wpS_bind (wpS_mono (wpS_forRange (I:=fun x c st'=>Like st st'∧∃ out ia ib mg,c=(none,out,ia,ib,mg)∧MI (leOf L) a.toList b.toList out.toList ia ib∧ia+1<a.size∧ib<b.size∧x+1≤ia+ib)
    (Q:=fun c st'=>Like st st'∧∃ r,c.1=some r∧Res (leOf L) a.toList b.toList r.toList) ?step ?fin ⟨Like.refl _,_,_,_,_,rfl,m0,by lia,by lia,by lia⟩) ?post)
  case fin =>
    rintro c st' ⟨_,out,ia,ib,mg,rfl,m,g1,g2,g3⟩
    exact absurd g3 (by lia)
  case post =>
    rintro c st' ⟨lk,r,e,res⟩
    rw [e]
    exact wpS_pure (hQ r st' res lk)
  case step =>
    rintro x c st' _ hx ⟨lk,out,ia,ib,mg,rfl,m,g1,g2,g3⟩
    have hk':kindOf st'=kd:=lk.1.trans hk
    dsimp only
    refine wpS_bind (wpS_mono (wpS_forRange (I:=fun y c z=>z=st'∧∃ out' ia' ib' ac bc,c=(none,out',ia',ib',ac,bc)∧MI (leOf L) a.toList b.toList out'.toList ia' ib'∧ia'+1<a.size∧ib'<b.size∧ia+ib+y≤ia'+ib')
      (Q:=fun c z=>z=st'∧((∃ r,c.1=some r∧Res (leOf L) a.toList b.toList r.toList)∨∃ out' ia' ib' ac bc,c=(none,out',ia',ib',ac,bc)∧MI (leOf L) a.toList b.toList out'.toList ia' ib'∧ia'+1<a.size∧ib'<b.size∧ia+ib+1≤ia'+ib')) ?istep ?ifin ⟨rfl,out,ia,ib,_,_,rfl,m,g1,g2,by lia⟩) ?ipost)
    case ifin =>
      rintro c z ⟨rfl,out',ia',ib',ac,bc,rfl,m',j1,j2,j3⟩
      exact ⟨rfl,.inr ⟨out',ia',ib',ac,bc,rfl,m',j1,j2,by lia⟩⟩
    case istep =>
      rintro y c z _ hy ⟨rfl,out',ia',ib',ac,bc,rfl,m',j1,j2,j3⟩
      obtain ⟨xb,eb⟩:=atB ib' j2
      obtain ⟨xa,ea⟩:=atA ia' (by lia)
      dsimp only
      refine wpS_bind (wpS_elem eb (wpS_bind (wpS_elem ea (wpS_bind (O.lt xb xa (T.Sb _ (at_mem eb)) (T.Sa _ (at_mem ea)) _ _ hk' ?_)))))
      dsimp only
      cases hw:L xb xa with
      | true =>
        rw [if_pos rfl]
        have m2:=one_B O T m' eb ea hw
        refine wpS_bind (wpS_elem eb ?_)
        by_cases hend:ib'+1=b.size
        · rw [if_pos (by simp [hend])]
          exact wpS_pure ⟨rfl,.inl ⟨_,rfl,fin_done T m2 (by lia)⟩⟩
        · rw [if_neg (by simp [hend])]
          by_cases hg:bc+1 ≥ mg
          · rw [if_pos hg]
            exact wpS_pure ⟨rfl,.inr ⟨_,_,_,_,_,rfl,m2,j1,by lia,by lia⟩⟩
          · rw [if_neg hg]
            exact wpS_pure ⟨rfl,_,_,_,_,_,rfl,m2,j1,by lia,by lia⟩
      | false =>
        rw [if_neg (by simp)]
        have m2:=one_A O T m' eb ea hw
        refine wpS_bind (wpS_elem ea ?_)
        by_cases hend:ia'+1+1=a.size
        · rw [if_pos (by simp [hend])]
          exact wpS_pure ⟨rfl,.inl ⟨_,rfl,fin_last T hl m2 (by lia)⟩⟩
        · rw [if_neg (by simp [hend])]
          by_cases hg:ac+1 ≥ mg
          · rw [if_pos hg]
            exact wpS_pure ⟨rfl,.inr ⟨_,_,_,_,_,rfl,m2,by lia,j2,by lia⟩⟩
          · rw [if_neg hg]
            exact wpS_pure ⟨rfl,_,_,_,_,_,rfl,m2,by lia,j2,by lia⟩
    case ipost =>
      rintro c z ⟨rfl,hc⟩
      rcases hc with ⟨r,e,res⟩ | ⟨out',ia',ib',ac,bc,rfl,m',j1,j2,j3⟩
      · rw [e]
        exact wpS_pure ⟨lk,r,rfl,res⟩
      · dsimp only
        refine wpS_bind (wpS_lift (wpAny_rule ⟨rfl,?_⟩))
        refine wpS_bind (wpS_mono (wpS_forRange (I:=fun y c z=>Like st z∧∃ out2 ia2 ib2 mg2 ac2 bc2,c=(none,out2,ia2,ib2,mg2,ac2,bc2)∧MI (leOf L) a.toList b.toList out2.toList ia2 ib2∧ia2+1<a.size∧ib2<b.size∧ia'+ib'≤ia2+ib2)
          (Q:=fun c z=>Like st z∧((∃ r,c.1=some r∧Res (leOf L) a.toList b.toList r.toList)∨∃ out2 ia2 ib2 mg2 ac2 bc2,c=(none,out2,ia2,ib2,mg2,ac2,bc2)∧MI (leOf L) a.toList b.toList out2.toList ia2 ib2∧ia2+1<a.size∧ib2<b.size∧ia'+ib'≤ia2+ib2)) ?gstep ?gfin ⟨lk,out',ia',ib',_,_,_,rfl,m',j1,j2,Nat.le_refl _⟩) ?gpost)
        case gfin =>
          rintro c z ⟨lk2,rest⟩
          exact ⟨lk2,.inr rest⟩
        case gpost =>
          rintro c z ⟨lk2,hc⟩
          rcases hc with ⟨r,e,res⟩ | ⟨out2,ia2,ib2,mg2,ac2,bc2,rfl,m2,k1,k2,k3⟩
          · rw [e]
            exact wpS_pure ⟨lk2,r,rfl,res⟩
          · dsimp only
            refine wpS_bind (wpS_modify ?_)
            exact wpS_pure ⟨lk2,_,_,_,_,rfl,m2,k1,k2,by lia⟩
        case gstep =>
          rintro y c z _ hy ⟨lk2,out2,ia2,ib2,mg2,ac2,bc2,rfl,m2,k1,k2,k3⟩
          obtain ⟨xb,eb⟩:=atB ib2 k2
          have hkz:kindOf z=kd:=lk2.1.trans hk
          have lk3:=lk2
          dsimp only
          by_cases hmg:mg2 > 1
          · rw [if_pos hmg]
            refine wpS_bind (wpS_modify ?_)
            refine wpS_bind (wpS_elem eb ?_)
            refine wpS_bind (seek_A O T (by exact hkz) (T.Sb _ (at_mem eb)) (by lia) (fun k q1 q2 q3=>?_) (by lia))
            dsimp only
            by_cases hk0:k > 0
            · rw [if_pos hk0]
              have n1:=blk_A O T m2 eb k q1 q2
              by_cases e1:ia2+k+1=a.size
              · rw [if_pos (by simp [e1])]
                exact wpS_pure ⟨lk3,.inl ⟨_,rfl,fin_last T hl n1 e1⟩⟩
              · rw [if_neg (by simp [e1])]
                by_cases e2:ia2+k=a.size
                · rw [if_pos (by simp [e2])]
                  exact wpS_pure ⟨lk3,.inl ⟨_,rfl,fin_doneA T n1 (by lia)⟩⟩
                · rw [if_neg (by simp [e2])]
                  obtain ⟨ya,ea3⟩:=atA (ia2+k) (by lia)
                  have hw:L xb ya=true:=q3 k ya (Nat.le_refl _) ea3
                  have n2:=one_B O T n1 eb ea3 hw
                  refine wpS_bind (wpS_elem eb ?_)
                  by_cases e3:ib2+1=b.size
                  · rw [if_pos (by simp [e3])]
                    exact wpS_pure ⟨lk3,.inl ⟨_,rfl,fin_done T n2 (by lia)⟩⟩
                  · rw [if_neg (by simp [e3])]
                    refine wpS_bind (wpS_elem ea3 ?_)
                    refine wpS_bind (seek_B O T (by exact hkz) (T.Sa _ (at_mem ea3)) (by lia) (fun k' r1 r2 r3=>?_) (by lia))
                    dsimp only
                    by_cases hk1:k' > 0
                    · rw [if_pos hk1]
                      have n3:=blk_B O T n2 ea3 k' r1 r2
                      by_cases e4:ib2+1+k'=b.size
                      · rw [if_pos (by simp [e4])]
                        exact wpS_pure ⟨lk3,.inl ⟨_,rfl,fin_done T n3 (by lia)⟩⟩
                      · rw [if_neg (by simp [e4])]
                        obtain ⟨xb3,eb3⟩:=atB (ib2+1+k') (by lia)
                        have hw2:L xb3 ya=false:=r3 k' xb3 (Nat.le_refl _) eb3
                        have n4:=one_A O T n3 eb3 ea3 hw2
                        refine wpS_bind (wpS_elem ea3 ?_)
                        by_cases e5:ia2+k+1+1=a.size
                        · rw [if_pos (by simp [e5])]
                          exact wpS_pure ⟨lk3,.inl ⟨_,rfl,fin_last T hl n4 (by lia)⟩⟩
                        · rw [if_neg (by simp [e5])]
                          split
                          · exact wpS_pure ⟨lk3,.inr ⟨_,_,_,_,_,_,rfl,n4,by lia,by lia,by lia⟩⟩
                          · exact wpS_pure ⟨lk3,_,_,_,_,_,_,rfl,n4,by lia,by lia,by lia⟩
                    · rw [if_neg hk1]
                      have kz1:k'=0:=by lia
                      subst kz1
                      obtain ⟨xb3,eb3⟩:=atB (ib2+1) (by lia)
                      have hw2:L xb3 ya=false:=r3 0 xb3 (Nat.le_refl _) (by simpa using eb3)
                      have n4:=one_A O T n2 eb3 ea3 hw2
                      refine wpS_bind (wpS_elem ea3 ?_)
                      by_cases e5:ia2+k+1+1=a.size
                      · rw [if_pos (by simp [e5])]
                        exact wpS_pure ⟨lk3,.inl ⟨_,rfl,fin_last T hl n4 (by lia)⟩⟩
                      · rw [if_neg (by simp [e5])]
                        split
                        · exact wpS_pure ⟨lk3,.inr ⟨_,_,_,_,_,_,rfl,n4,by lia,by lia,by lia⟩⟩
                        · exact wpS_pure ⟨lk3,_,_,_,_,_,_,rfl,n4,by lia,by lia,by lia⟩
            · rw [if_neg hk0]
              have kz:k=0:=by lia
              subst kz
              obtain ⟨ya,ea3⟩:=atA (ia2) (by lia)
              have hw:L xb ya=true:=q3 0 ya (Nat.le_refl _) (by simpa using ea3)
              have n2:=one_B O T m2 eb ea3 hw
              refine wpS_bind (wpS_elem eb ?_)
              by_cases e3:ib2+1=b.size
              · rw [if_pos (by simp [e3])]
                exact wpS_pure ⟨lk3,.inl ⟨_,rfl,fin_done T n2 (by lia)⟩⟩
              · rw [if_neg (by simp [e3])]
                refine wpS_bind (wpS_elem ea3 ?_)
                refine wpS_bind (seek_B O T (by exact hkz) (T.Sa _ (at_mem ea3)) (by lia) (fun k' r1 r2 r3=>?_) (by lia))
                dsimp only
                by_cases hk1:k' > 0
                · rw [if_pos hk1]
                  have n3:=blk_B O T n2 ea3 k' r1 r2
                  by_cases e4:ib2+1+k'=b.size
                  · rw [if_pos (by simp [e4])]
                    exact wpS_pure ⟨lk3,.inl ⟨_,rfl,fin_done T n3 (by lia)⟩⟩
                  · rw [if_neg (by simp [e4])]
                    obtain ⟨xb3,eb3⟩:=atB (ib2+1+k') (by lia)
                    have hw2:L xb3 ya=false:=r3 k' xb3 (Nat.le_refl _) eb3
                    have n4:=one_A O T n3 eb3 ea3 hw2
                    refine wpS_bind (wpS_elem ea3 ?_)
                    by_cases e5:ia2+1+1=a.size
                    · rw [if_pos (by simp [e5])]
                      exact wpS_pure ⟨lk3,.inl ⟨_,rfl,fin_last T hl n4 (by lia)⟩⟩
                    · rw [if_neg (by simp [e5])]
                      split
                      · exact wpS_pure ⟨lk3,.inr ⟨_,_,_,_,_,_,rfl,n4,by lia,by lia,by lia⟩⟩
                      · exact wpS_pure ⟨lk3,_,_,_,_,_,_,rfl,n4,by lia,by lia,by lia⟩
                · rw [if_neg hk1]
                  have kz1:k'=0:=by lia
                  subst kz1
                  obtain ⟨xb3,eb3⟩:=atB (ib2+1) (by lia)
                  have hw2:L xb3 ya=false:=r3 0 xb3 (Nat.le_refl _) (by simpa using eb3)
                  have n4:=one_A O T n2 eb3 ea3 hw2
                  refine wpS_bind (wpS_elem ea3 ?_)
                  by_cases e5:ia2+1+1=a.size
                  · rw [if_pos (by simp [e5])]
                    exact wpS_pure ⟨lk3,.inl ⟨_,rfl,fin_last T hl n4 (by lia)⟩⟩
                  · rw [if_neg (by simp [e5])]
                    split
                    · exact wpS_pure ⟨lk3,.inr ⟨_,_,_,_,_,_,rfl,n4,by lia,by lia,by lia⟩⟩
                    · exact wpS_pure ⟨lk3,_,_,_,_,_,_,rfl,n4,by lia,by lia,by lia⟩
          · rw [if_neg hmg]
            refine wpS_bind (wpS_modify ?_)
            refine wpS_bind (wpS_elem eb ?_)
            refine wpS_bind (seek_A O T (by exact hkz) (T.Sb _ (at_mem eb)) (by lia) (fun k q1 q2 q3=>?_) (by lia))
            dsimp only
            by_cases hk0:k > 0
            · rw [if_pos hk0]
              have n1:=blk_A O T m2 eb k q1 q2
              by_cases e1:ia2+k+1=a.size
              · rw [if_pos (by simp [e1])]
                exact wpS_pure ⟨lk3,.inl ⟨_,rfl,fin_last T hl n1 e1⟩⟩
              · rw [if_neg (by simp [e1])]
                by_cases e2:ia2+k=a.size
                · rw [if_pos (by simp [e2])]
                  exact wpS_pure ⟨lk3,.inl ⟨_,rfl,fin_doneA T n1 (by lia)⟩⟩
                · rw [if_neg (by simp [e2])]
                  obtain ⟨ya,ea3⟩:=atA (ia2+k) (by lia)
                  have hw:L xb ya=true:=q3 k ya (Nat.le_refl _) ea3
                  have n2:=one_B O T n1 eb ea3 hw
                  refine wpS_bind (wpS_elem eb ?_)
                  by_cases e3:ib2+1=b.size
                  · rw [if_pos (by simp [e3])]
                    exact wpS_pure ⟨lk3,.inl ⟨_,rfl,fin_done T n2 (by lia)⟩⟩
                  · rw [if_neg (by simp [e3])]
                    refine wpS_bind (wpS_elem ea3 ?_)
                    refine wpS_bind (seek_B O T (by exact hkz) (T.Sa _ (at_mem ea3)) (by lia) (fun k' r1 r2 r3=>?_) (by lia))
                    dsimp only
                    by_cases hk1:k' > 0
                    · rw [if_pos hk1]
                      have n3:=blk_B O T n2 ea3 k' r1 r2
                      by_cases e4:ib2+1+k'=b.size
                      · rw [if_pos (by simp [e4])]
                        exact wpS_pure ⟨lk3,.inl ⟨_,rfl,fin_done T n3 (by lia)⟩⟩
                      · rw [if_neg (by simp [e4])]
                        obtain ⟨xb3,eb3⟩:=atB (ib2+1+k') (by lia)
                        have hw2:L xb3 ya=false:=r3 k' xb3 (Nat.le_refl _) eb3
                        have n4:=one_A O T n3 eb3 ea3 hw2
                        refine wpS_bind (wpS_elem ea3 ?_)
                        by_cases e5:ia2+k+1+1=a.size
                        · rw [if_pos (by simp [e5])]
                          exact wpS_pure ⟨lk3,.inl ⟨_,rfl,fin_last T hl n4 (by lia)⟩⟩
                        · rw [if_neg (by simp [e5])]
                          split
                          · exact wpS_pure ⟨lk3,.inr ⟨_,_,_,_,_,_,rfl,n4,by lia,by lia,by lia⟩⟩
                          · exact wpS_pure ⟨lk3,_,_,_,_,_,_,rfl,n4,by lia,by lia,by lia⟩
                    · rw [if_neg hk1]
                      have kz1:k'=0:=by lia
                      subst kz1
                      obtain ⟨xb3,eb3⟩:=atB (ib2+1) (by lia)
                      have hw2:L xb3 ya=false:=r3 0 xb3 (Nat.le_refl _) (by simpa using eb3)
                      have n4:=one_A O T n2 eb3 ea3 hw2
                      refine wpS_bind (wpS_elem ea3 ?_)
                      by_cases e5:ia2+k+1+1=a.size
                      · rw [if_pos (by simp [e5])]
                        exact wpS_pure ⟨lk3,.inl ⟨_,rfl,fin_last T hl n4 (by lia)⟩⟩
                      · rw [if_neg (by simp [e5])]
                        split
                        · exact wpS_pure ⟨lk3,.inr ⟨_,_,_,_,_,_,rfl,n4,by lia,by lia,by lia⟩⟩
                        · exact wpS_pure ⟨lk3,_,_,_,_,_,_,rfl,n4,by lia,by lia,by lia⟩
            · rw [if_neg hk0]
              have kz:k=0:=by lia
              subst kz
              obtain ⟨ya,ea3⟩:=atA (ia2) (by lia)
              have hw:L xb ya=true:=q3 0 ya (Nat.le_refl _) (by simpa using ea3)
              have n2:=one_B O T m2 eb ea3 hw
              refine wpS_bind (wpS_elem eb ?_)
              by_cases e3:ib2+1=b.size
              · rw [if_pos (by simp [e3])]
                exact wpS_pure ⟨lk3,.inl ⟨_,rfl,fin_done T n2 (by lia)⟩⟩
              · rw [if_neg (by simp [e3])]
                refine wpS_bind (wpS_elem ea3 ?_)
                refine wpS_bind (seek_B O T (by exact hkz) (T.Sa _ (at_mem ea3)) (by lia) (fun k' r1 r2 r3=>?_) (by lia))
                dsimp only
                by_cases hk1:k' > 0
                · rw [if_pos hk1]
                  have n3:=blk_B O T n2 ea3 k' r1 r2
                  by_cases e4:ib2+1+k'=b.size
                  · rw [if_pos (by simp [e4])]
                    exact wpS_pure ⟨lk3,.inl ⟨_,rfl,fin_done T n3 (by lia)⟩⟩
                  · rw [if_neg (by simp [e4])]
                    obtain ⟨xb3,eb3⟩:=atB (ib2+1+k') (by lia)
                    have hw2:L xb3 ya=false:=r3 k' xb3 (Nat.le_refl _) eb3
                    have n4:=one_A O T n3 eb3 ea3 hw2
                    refine wpS_bind (wpS_elem ea3 ?_)
                    by_cases e5:ia2+1+1=a.size
                    · rw [if_pos (by simp [e5])]
                      exact wpS_pure ⟨lk3,.inl ⟨_,rfl,fin_last T hl n4 (by lia)⟩⟩
                    · rw [if_neg (by simp [e5])]
                      split
                      · exact wpS_pure ⟨lk3,.inr ⟨_,_,_,_,_,_,rfl,n4,by lia,by lia,by lia⟩⟩
                      · exact wpS_pure ⟨lk3,_,_,_,_,_,_,rfl,n4,by lia,by lia,by lia⟩
                · rw [if_neg hk1]
                  have kz1:k'=0:=by lia
                  subst kz1
                  obtain ⟨xb3,eb3⟩:=atB (ib2+1) (by lia)
                  have hw2:L xb3 ya=false:=r3 0 xb3 (Nat.le_refl _) (by simpa using eb3)
                  have n4:=one_A O T n2 eb3 ea3 hw2
                  refine wpS_bind (wpS_elem ea3 ?_)
                  by_cases e5:ia2+1+1=a.size
                  · rw [if_pos (by simp [e5])]
                    exact wpS_pure ⟨lk3,.inl ⟨_,rfl,fin_last T hl n4 (by lia)⟩⟩
                  · rw [if_neg (by simp [e5])]
                    split
                    · exact wpS_pure ⟨lk3,.inr ⟨_,_,_,_,_,_,rfl,n4,by lia,by lia,by lia⟩⟩
                    · exact wpS_pure ⟨lk3,_,_,_,_,_,_,rfl,n4,by lia,by lia,by lia⟩
end
end TS
set_option maxHeartbeats 8000000
namespace TS
open PySem PyProof.Rows
section
variable {α:Type} {le:α→α→Prop}
structure MJ (le:α→α→Prop) (a b r:List α) (na nb:Nat):Prop where
  ha:na≤a.length
  hb:nb≤b.length
  perm:(a.take na++b.take nb++r).Perm (a++b)
  sorted:r.Pairwise le
  lea:∀ x∈a.take na,∀ y∈r,le x y
  leb:∀ x∈b.take nb,∀ y∈r,le x y
theorem take_split (a:List α) (i n:Nat) (h:i≤n):a.take n=a.take i++(a.drop i).take (n - i):=by
  rw [← List.take_add,show i+(n - i)=n by lia]
theorem MJ.takeA {a b r : List α} {na nb : Nat} (m : MJ le a b r na nb) (sa : a.Pairwise le) (i : Nat) (hi : i ≤ na) (h : ∀ x ∈ b.take nb, ∀ y ∈ (a.drop i).take (na - i), le x y) :
    MJ le a b ((a.drop i).take (na - i)++r) i nb:=by
  have e:=take_split a i na hi
  have sd:(a.take i++(a.drop i).take (na - i)).Pairwise le:=by rw [← e];exact sa.sublist (List.take_sublist _ _)
  obtain ⟨s1,s2,s3⟩:=List.pairwise_append.mp sd
  refine ⟨Nat.le_trans hi m.ha,m.hb,?_,List.pairwise_append.mpr ⟨s2,m.sorted,fun x hx y hy=>m.lea x (by rw [e];exact List.mem_append_right _ hx) y hy⟩,fun x hx y hy=>?_,fun x hx y hy=>?_⟩
  · have:=m.perm
    rw [e] at this
    refine List.Perm.trans ?_ this
    rw [List.append_assoc,List.append_assoc,List.append_assoc,← List.append_assoc (b.take nb),← List.append_assoc ((a.drop i).take (na - i))]
    exact List.Perm.append_left _ (List.Perm.append_right _ List.perm_append_comm)
  · rcases List.mem_append.mp hy with q | q
    · exact s3 x hx y q
    · exact m.lea x (by rw [e];exact List.mem_append_left _ hx) y q
  · rcases List.mem_append.mp hy with q | q
    · exact h x hx y q
    · exact m.leb x hx y q
theorem MJ.takeB {a b r : List α} {na nb : Nat} (m : MJ le a b r na nb) (sb : b.Pairwise le) (i : Nat) (hi : i ≤ nb) (h : ∀ x ∈ a.take na, ∀ y ∈ (b.drop i).take (nb - i), le x y) :
    MJ le a b ((b.drop i).take (nb - i)++r) na i:=by
  have e:=take_split b i nb hi
  have sd:(b.take i++(b.drop i).take (nb - i)).Pairwise le:=by rw [← e];exact sb.sublist (List.take_sublist _ _)
  obtain ⟨s1,s2,s3⟩:=List.pairwise_append.mp sd
  refine ⟨m.ha,Nat.le_trans hi m.hb,?_,List.pairwise_append.mpr ⟨s2,m.sorted,fun x hx y hy=>m.leb x (by rw [e];exact List.mem_append_right _ hx) y hy⟩,fun x hx y hy=>?_,fun x hx y hy=>?_⟩
  · have:=m.perm
    rw [e] at this
    simpa [List.append_assoc] using this
  · rcases List.mem_append.mp hy with q | q
    · exact h x hx y q
    · exact m.lea x hx y q
  · rcases List.mem_append.mp hy with q | q
    · exact s3 x hx y q
    · exact m.leb x (by rw [e];exact List.mem_append_left _ hx) y q
theorem MJ.doneB {a b r:List α} {nb:Nat} (m:MJ le a b r 0 nb) (sb:b.Pairwise le):Res le a b (a.take 0++b.take nb++r) :=
  ⟨m.perm,by rw [List.take_zero,List.nil_append];exact List.pairwise_append.mpr ⟨sb.sublist (List.take_sublist _ _),m.sorted,m.leb⟩⟩
theorem MJ.doneA {a b r:List α} {na:Nat} (m:MJ le a b r na 0) (sa:a.Pairwise le):Res le a b (a.take na++b.take 0++r) :=
  ⟨m.perm,by rw [List.take_zero,List.append_nil];exact List.pairwise_append.mpr ⟨sa.sublist (List.take_sublist _ _),m.sorted,m.lea⟩⟩
theorem MJ.firstB {a b r:List α} {na nb:Nat} (m:MJ le a b r na nb) (sa:a.Pairwise le) (sb:b.Pairwise le) (h:∀ x∈b.take nb,∀ y∈a.take na,le x y):Res le a b (b.take nb++a.take na++r):=by
  refine ⟨List.Perm.trans (List.Perm.append_right _ List.perm_append_comm) m.perm,?_⟩
  refine List.pairwise_append.mpr ⟨List.pairwise_append.mpr ⟨sb.sublist (List.take_sublist _ _),sa.sublist (List.take_sublist _ _),h⟩,m.sorted,fun x hx y hy=>?_⟩
  rcases List.mem_append.mp hx with q | q
  · exact m.leb x q y hy
  · exact m.lea x q y hy
end
end TS
set_option maxHeartbeats 8000000
namespace TS
open PySem PyProof.Rows
section
variable {M:Model} {A:Around} {E:Value→Shared→Prop} {s:Shared} {kd:SortKind} {S:Keyed→Prop} {L:Keyed→Keyed→Bool} {a b out:Array Keyed} {na nb:Nat}
theorem le_take {a:Array Keyed} (O:LtOk M A E s kd S L) (sa:a.toList.Pairwise (leOf L)) (Sa:∀ x∈a.toList,S x) {i:Nat} {x y:Keyed} (h:a[i]?=some x) (hy:y∈a.toList.take (i+1)):leOf L y x:=by
  have hi:i<a.toList.length:=by
    have:=(Array.getElem?_eq_some_iff.mp h).1
    rw [Array.length_toList];exact this
  have e:a.toList.take (i+1)=a.toList.take i++[x]:=by
    rw [List.take_succ]
    have:a.toList[i]?=some x:=by simpa using h
    rw [this];rfl
  rw [e] at hy
  rcases List.mem_append.mp hy with q | q
  · have:=sa.sublist (List.take_sublist (i+1) _)
    rw [e] at this
    exact (List.pairwise_append.mp this).2.2 y q x List.mem_cons_self
  · rw [List.mem_singleton.mp q];exact O.rf (Sa x (at_mem h))
theorem cut_one {a:Array Keyed} {i:Nat} {x:Keyed} (h:a[i]?=some x):(a.toList.drop i).take (i+1 - i)=[x]:=by
  rw [drop_at h,show i+1 - i=1 by lia];rfl
theorem last_A (O : LtOk M A E s kd S L) (T : Two S L a b) (m : MJ (leOf L) a.toList b.toList out.reverse.toList (na + 1) (nb + 1)) {x y : Keyed} (hb : b[nb]? = some x) (ha : a[na]? = some y) (h : L x y = true) :
    MJ (leOf L) a.toList b.toList (out.push y).reverse.toList na (nb+1):=by
  have:=m.takeA T.sa na (Nat.le_succ _) fun z hz w hw=>by
    rw [cut_one ha] at hw
    rw [List.mem_singleton.mp hw]
    exact O.tr z x y (T.Sb z (List.mem_of_mem_take hz)) (T.Sb x (at_mem hb)) (T.Sa y (at_mem ha)) (le_take O T.sb T.Sb hb hz) (O.as x y (T.Sb x (at_mem hb)) (T.Sa y (at_mem ha)) h)
  rw [cut_one ha] at this
  simpa using this
theorem last_B (O : LtOk M A E s kd S L) (T : Two S L a b) (m : MJ (leOf L) a.toList b.toList out.reverse.toList (na + 1) (nb + 1)) {x y : Keyed} (hb : b[nb]? = some x) (ha : a[na]? = some y) (h : L x y = false) :
    MJ (leOf L) a.toList b.toList (out.push x).reverse.toList (na+1) nb:=by
  have:=m.takeB T.sb nb (Nat.le_succ _) fun z hz w hw=>by
    rw [cut_one hb] at hw
    rw [List.mem_singleton.mp hw]
    exact O.tr z y x (T.Sa z (List.mem_of_mem_take hz)) (T.Sa y (at_mem ha)) (T.Sb x (at_mem hb)) (le_take O T.sa T.Sa ha hz) h
  rw [cut_one hb] at this
  simpa using this
theorem back_A (O : LtOk M A E s kd S L) (T : Two S L a b) (m : MJ (leOf L) a.toList b.toList out.reverse.toList na (nb + 1)) {x : Keyed} (hb : b[nb]? = some x) (i : Nat) (hi : i ≤ na) (h : ∀ j y, i ≤ j → j < na → a[j]? = some y → L x y = true) :
    MJ (leOf L) a.toList b.toList (out++(a.extract i na).reverse).reverse.toList i (nb+1):=by
  have:=m.takeA T.sa i hi fun z hz w hw=>by
    obtain ⟨j,hj,e⟩:=mem_cut hw
    exact O.tr z x w (T.Sb z (List.mem_of_mem_take hz)) (T.Sb x (at_mem hb)) (T.Sa w (at_mem e)) (le_take O T.sb T.Sb hb hz) (O.as x w (T.Sb x (at_mem hb)) (T.Sa w (at_mem e)) (h (i+j) w (by lia) (by lia) e))
  have e2:(out++(a.extract i na).reverse).reverse.toList=(a.toList.drop i).take (na - i)++out.reverse.toList:=by
    simp [Array.toList_extract,List.extract_eq_take_drop]
  rw [e2];exact this
theorem back_B (O : LtOk M A E s kd S L) (T : Two S L a b) (m : MJ (leOf L) a.toList b.toList out.reverse.toList (na + 1) nb) {y : Keyed} (ha : a[na]? = some y) (i : Nat) (hi : i ≤ nb) (h : ∀ j x, i ≤ j → j < nb → b[j]? = some x → L x y = false) :
    MJ (leOf L) a.toList b.toList (out++(b.extract i nb).reverse).reverse.toList (na+1) i:=by
  have:=m.takeB T.sb i hi fun z hz w hw=>by
    obtain ⟨j,hj,e⟩:=mem_cut hw
    exact O.tr z y w (T.Sa z (List.mem_of_mem_take hz)) (T.Sa y (at_mem ha)) (T.Sb w (at_mem e)) (le_take O T.sa T.Sa ha hz) (h (i+j) w (by lia) (by lia) e)
  have e2:(out++(b.extract i nb).reverse).reverse.toList=(b.toList.drop i).take (nb - i)++out.reverse.toList:=by
    simp [Array.toList_extract,List.extract_eq_take_drop]
  rw [e2];exact this
end
end TS
set_option maxHeartbeats 8000000
namespace TS
open PySem PyProof.Rows
section
variable {M:Model} {A:Around} {E:Value→Shared→Prop} {s:Shared} {kd:SortKind} {S:Keyed→Prop} {L:Keyed→Keyed→Bool} {a b out:Array Keyed} {na nb:Nat}
theorem seekA0 (O : LtOk M A E s kd S L) (T : Two S L a b) {st : SortSt} (hk : kindOf st = kd) {x : Keyed} (Sx : S x) {n : Nat} (hn : n ≤ a.size) {Q : Option Nat → SortSt → Prop}
    (hQ:∀ k,k≤n→(∀ j y,j<k→a[j]?=some y→L x y=false)→(∀ j y,k≤j→j<n→a[j]?=some y→L x y=true)→Q (some k) st) {hint:Nat} (hh:hint<n) :
    wpS M A E s (gallop' false x a 0 n hint) Q st:=by
  have at_:∀ i,i<n→∃ y,a[0+i]?=some y:=fun i h=>⟨a[0+i]'(by lia),by simp [show i<a.size by lia]⟩
  refine gallop_spec (b:=fun i=>!(a[0+i]?.elim false fun y=>L x y)) O hk Sx (fun i h=>?_) (fun i j hij hj q=>?_) hh fun k h1 h2 h3=>?_
  · obtain ⟨y,e⟩:=at_ i h
    exact ⟨y,e,T.Sa y (at_mem e),by rw [if_neg (by simp),e];rfl⟩
  · obtain ⟨y,e⟩:=at_ j hj
    obtain ⟨z,e2⟩:=at_ i (by lia)
    rw [e] at q
    rw [e2]
    have q1:L x y=false:=by simpa using q
    have le1:leOf L z y:=le_drop O T.sa T.Sa e2 (by
      have:y∈(a.toList.drop (0+i)).drop (j - i):=by
        rw [List.drop_drop,show 0+i+(j - i)=0+j by lia,drop_at e]
        exact List.mem_cons_self
      exact List.mem_of_mem_drop this)
    have:L x z=false:=O.tr z y x (T.Sa z (at_mem e2)) (T.Sa y (at_mem e)) Sx le1 q1
    simpa using this
  · refine hQ k h1 (fun j y hj e=>?_) (fun j y hj hjn e=>?_)
    · have:=h2 j hj
      rw [Nat.zero_add,e] at this
      simpa using this
    · have:=h3 j hj hjn
      rw [Nat.zero_add,e] at this
      simpa using this
theorem seekB0 (O : LtOk M A E s kd S L) (T : Two S L a b) {st : SortSt} (hk : kindOf st = kd) {y : Keyed} (Sy : S y) {n : Nat} (hn : n ≤ b.size) {Q : Option Nat → SortSt → Prop}
    (hQ:∀ k,k≤n→(∀ j x,j<k→b[j]?=some x→L x y=true)→(∀ j x,k≤j→j<n→b[j]?=some x→L x y=false)→Q (some k) st) {hint:Nat} (hh:hint<n) :
    wpS M A E s (gallop' true y b 0 n hint) Q st:=by
  have at_:∀ i,i<n→∃ x,b[0+i]?=some x:=fun i h=>⟨b[0+i]'(by lia),by simp [show i<b.size by lia]⟩
  refine gallop_spec (b:=fun i=>b[0+i]?.elim false fun x=>L x y) O hk Sy (fun i h=>?_) (fun i j hij hj q=>?_) hh fun k h1 h2 h3=>?_
  · obtain ⟨x,e⟩:=at_ i h
    exact ⟨x,e,T.Sb x (at_mem e),by rw [if_pos rfl,e];rfl⟩
  · obtain ⟨x,e⟩:=at_ j hj
    obtain ⟨z,e2⟩:=at_ i (by lia)
    rw [e] at q
    rw [e2]
    have q1:L x y=true:=q
    show L z y=true
    have le1:leOf L z x:=le_drop O T.sb T.Sb e2 (by
      have:x∈(b.toList.drop (0+i)).drop (j - i):=by
        rw [List.drop_drop,show 0+i+(j - i)=0+j by lia,drop_at e]
        exact List.mem_cons_self
      exact List.mem_of_mem_drop this)
    cases w:L z y with
    | true=>rfl
    | false =>
      have:L x y=false:=O.tr y z x Sy (T.Sb z (at_mem e2)) (T.Sb x (at_mem e)) w le1
      rw [this] at q1;cases q1
  · refine hQ k h1 (fun j x hj e=>?_) (fun j x hj hjn e=>?_)
    · have:=h2 j hj
      rw [Nat.zero_add,e] at this
      exact this
    · have:=h3 j hj hjn
      rw [Nat.zero_add,e] at this
      exact this
theorem toList_upto (a:Array Keyed) (i:Nat):(a.extract 0 i).toList=a.toList.take i:=by
  rw [Array.toList_extract,List.extract_eq_take_drop,List.drop_zero,Nat.sub_zero]
theorem end_A (T:Two S L a b) (m:MJ (leOf L) a.toList b.toList out.reverse.toList 0 nb):Res (leOf L) a.toList b.toList (a.extract 0 0++b.extract 0 nb++out.reverse).toList:=by
  rw [Array.toList_append,Array.toList_append,toList_upto,toList_upto]
  exact m.doneB T.sb
theorem end_B0 (T:Two S L a b) (m:MJ (leOf L) a.toList b.toList out.reverse.toList na 0):Res (leOf L) a.toList b.toList (a.extract 0 na++b.extract 0 0++out.reverse).toList:=by
  rw [Array.toList_append,Array.toList_append,toList_upto,toList_upto]
  exact m.doneA T.sa
theorem end_B (T:Two S L a b) (h0:∀ y,b[0]?=some y→∀ x∈a.toList,leOf L y x) (m:MJ (leOf L) a.toList b.toList out.reverse.toList na 1):Res (leOf L) a.toList b.toList (b.extract 0 1++a.extract 0 na++out.reverse).toList:=by
  rw [Array.toList_append,Array.toList_append,toList_upto,toList_upto]
  refine m.firstB T.sa T.sb fun x hx y hy=>?_
  cases hb:b.toList with
  | nil=>rw [hb] at hx;cases hx
  | cons z r =>
    rw [hb] at hx
    have e:x=z:=List.mem_singleton.mp hx
    subst e
    exact h0 x (by have : b.toList[0]? = some x := by rw [hb]; rfl
                   simpa using this) y (List.mem_of_mem_take hy)
end
end TS
set_option maxHeartbeats 8000000
namespace TS
open PySem PyProof.Rows
section
variable {M:Model} {A:Around} {E:Value→Shared→Prop} {s:Shared} {kd:SortKind} {S:Keyed→Prop} {L:Keyed→Keyed→Bool} {a b out:Array Keyed} {na nb:Nat}
theorem lastA (O:LtOk M A E s kd S L) (T:Two S L a b) (h1:0<na) (h2:0<nb) (m:MJ (leOf L) a.toList b.toList out.reverse.toList na nb) {x y:Keyed} (hb:b[nb - 1]?=some x) (ha:a[na - 1]?=some y) (h:L x y=true):MJ (leOf L) a.toList b.toList (out.push y).reverse.toList (na - 1) nb:=by
  obtain ⟨p,rfl⟩:∃ p,na=p+1:=⟨na - 1,by lia⟩
  obtain ⟨q,rfl⟩:∃ q,nb=q+1:=⟨nb - 1,by lia⟩
  exact last_A O T m hb ha h
theorem lastB (O:LtOk M A E s kd S L) (T:Two S L a b) (h1:0<na) (h2:0<nb) (m:MJ (leOf L) a.toList b.toList out.reverse.toList na nb) {x y:Keyed} (hb:b[nb - 1]?=some x) (ha:a[na - 1]?=some y) (h:L x y=false):MJ (leOf L) a.toList b.toList (out.push x).reverse.toList na (nb - 1):=by
  obtain ⟨p,rfl⟩:∃ p,na=p+1:=⟨na - 1,by lia⟩
  obtain ⟨q,rfl⟩:∃ q,nb=q+1:=⟨nb - 1,by lia⟩
  exact last_B O T m hb ha h
theorem backA (O:LtOk M A E s kd S L) (T:Two S L a b) (h2:0<nb) (m:MJ (leOf L) a.toList b.toList out.reverse.toList na nb) {x:Keyed} (hb:b[nb - 1]?=some x) (i:Nat) (hi:i≤na) (h:∀ j y,i≤j→j<na→a[j]?=some y→L x y=true):MJ (leOf L) a.toList b.toList (out++(a.extract i na).reverse).reverse.toList i nb:=by
  obtain ⟨q,rfl⟩:∃ q,nb=q+1:=⟨nb - 1,by lia⟩
  exact back_A O T m hb i hi h
theorem backB (O:LtOk M A E s kd S L) (T:Two S L a b) (h1:0<na) (m:MJ (leOf L) a.toList b.toList out.reverse.toList na nb) {y:Keyed} (ha:a[na - 1]?=some y) (i:Nat) (hi:i≤nb) (h:∀ j x,i≤j→j<nb→b[j]?=some x→L x y=false):MJ (leOf L) a.toList b.toList (out++(b.extract i nb).reverse).reverse.toList na i:=by
  obtain ⟨p,rfl⟩:∃ p,na=p+1:=⟨na - 1,by lia⟩
  exact back_B O T m ha i hi h
theorem mergeHi_spec (O : LtOk M A E s kd S L) (T : Two S L a b) {st : SortSt} {Q : Array Keyed → SortSt → Prop} (hk : kindOf st = kd) (ha : 0 < a.size) (hb : 0 < b.size) (h0 : ∀ y, b[0]? = some y → ∀ x ∈ a.toList, leOf L y x)
    (hl:∀ z,a[a.size - 1]?=some z→∀ x∈b.toList,leOf L x z) (hQ:∀ r st',Res (leOf L) a.toList b.toList r.toList→Like st st'→Q r st'):wpS M A E s (mergeHi' a b) Q st:=by
  have atA:∀ i,i<a.size→∃ x,a[i]?=some x:=fun i h=>⟨a[i],by simp [h]⟩
  have atB:∀ i,i<b.size→∃ x,b[i]?=some x:=fun i h=>⟨b[i],by simp [h]⟩
  obtain ⟨a1,e1⟩:=atA (a.size - 1) (by lia)
  have mS:MJ (leOf L) a.toList b.toList (#[]:Array Keyed).reverse.toList a.size b.size:=⟨by simp,by simp,by rw [List.take_of_length_le (by simp),List.take_of_length_le (by simp)];simp,by simp,(fun _ _ _ h=>by simp at h),(fun _ _ _ h=>by simp at h)⟩
  have m0:MJ (leOf L) a.toList b.toList (#[a1]:Array Keyed).reverse.toList (a.size - 1) b.size:=by
    have hc:=cut_one e1
    rw [show a.size - 1+1=a.size by lia] at hc
    have:=mS.takeA T.sa (a.size - 1) (by lia) fun x hx y hy=>by
      rw [hc] at hy
      rw [List.mem_singleton.mp hy]
      exact hl a1 e1 x (List.mem_of_mem_take hx)
    rw [hc] at this
    simpa using this
  refine wpS_bind (wpS_lift (wpAny_rule ⟨rfl,?_⟩))
  refine wpS_bind (wpS_elem e1 ?_)
  dsimp only
  by_cases ha1:a.size - 1=0
  · rw [if_pos (by simp [ha1])]
    rw [ha1] at m0
    rw [ha1]
    exact wpS_pure (hQ _ _ (end_A T m0) (Like.refl _))
  rw [if_neg (by simp [ha1])]
  by_cases hb1:b.size=1
  · rw [if_pos (by simp [hb1])]
    rw [hb1] at m0
    rw [hb1]
    exact wpS_pure (hQ _ _ (end_B T h0 m0) (Like.refl _))
  rw [if_neg (by simp [hb1])]
  refine wpS_bind (wpS_get ?_)
  refine wpS_bind (wpS_mono (wpS_forRange (I:=fun x c st'=>Like st st'∧∃ na nb out mg,c=(none,na,nb,out,mg)∧MJ (leOf L) a.toList b.toList out.reverse.toList na nb∧0<na∧1<nb∧na+nb+x+1≤a.size+b.size∧na≤a.size∧nb≤b.size)
    (Q:=fun c st'=>Like st st'∧∃ r,c.1=some r∧Res (leOf L) a.toList b.toList r.toList) ?step ?fin ⟨Like.refl _,_,_,_,_,rfl,m0,by lia,by lia,by lia,by lia,by lia⟩) ?post)
  case fin =>
    rintro c st' ⟨_,na,nb,out,mg,rfl,m,g1,g2,g3,g4,g5⟩
    exact absurd g3 (by lia)
  case post =>
    rintro c st' ⟨lk,r,e,res⟩
    rw [e]
    exact wpS_pure (hQ r st' res lk)
  case step =>
    rintro x c st' _ hx ⟨lk,na,nb,out,mg,rfl,m,g1,g2,g3,g4,g5⟩
    have hk':kindOf st'=kd:=lk.1.trans hk
    dsimp only
    refine wpS_bind (wpS_mono (wpS_forRange (I:=fun y c z=>z=st'∧∃ na' nb' out' ac bc,c=(none,na',nb',out',ac,bc)∧MJ (leOf L) a.toList b.toList out'.reverse.toList na' nb'∧0<na'∧1<nb'∧na'+nb'+y≤na+nb∧na'≤a.size∧nb'≤b.size)
      (Q:=fun c z=>z=st'∧((∃ r,c.1=some r∧Res (leOf L) a.toList b.toList r.toList)∨∃ na' nb' out' ac bc,c=(none,na',nb',out',ac,bc)∧MJ (leOf L) a.toList b.toList out'.reverse.toList na' nb'∧0<na'∧1<nb'∧na'+nb'+1≤na+nb∧na'≤a.size∧nb'≤b.size)) ?istep ?ifin ⟨rfl,na,nb,out,_,_,rfl,m,g1,g2,by lia,g4,g5⟩) ?ipost)
    case ifin =>
      rintro c z ⟨rfl,na',nb',out',ac,bc,rfl,m',j1,j2,j3,j4,j5⟩
      exact ⟨rfl,.inr ⟨na',nb',out',ac,bc,rfl,m',j1,j2,by lia,j4,j5⟩⟩
    case istep =>
      rintro y c z _ hy ⟨rfl,na',nb',out',ac,bc,rfl,m',j1,j2,j3,j4,j5⟩
      obtain ⟨xb,eb⟩:=atB (nb' - 1) (by lia)
      obtain ⟨xa,ea⟩:=atA (na' - 1) (by lia)
      dsimp only
      refine wpS_bind (wpS_elem eb (wpS_bind (wpS_elem ea (wpS_bind (O.lt xb xa (T.Sb _ (at_mem eb)) (T.Sa _ (at_mem ea)) _ _ hk' ?_)))))
      dsimp only
      cases hw:L xb xa with
      | true =>
        rw [if_pos rfl]
        have m2:=lastA O T j1 (by lia) m' eb ea hw
        refine wpS_bind (wpS_elem ea ?_)
        by_cases hend:na' - 1=0
        · rw [if_pos (by simp [hend])]
          rw [hend] at m2
          rw [hend]
          exact wpS_pure ⟨rfl,.inl ⟨_,rfl,end_A T m2⟩⟩
        · rw [if_neg (by simp [hend])]
          by_cases hg:ac+1 ≥ mg
          · rw [if_pos hg]
            exact wpS_pure ⟨rfl,.inr ⟨_,_,_,_,_,rfl,m2,by lia,j2,by lia,by lia,j5⟩⟩
          · rw [if_neg hg]
            exact wpS_pure ⟨rfl,_,_,_,_,_,rfl,m2,by lia,j2,by lia,by lia,j5⟩
      | false =>
        rw [if_neg (by simp)]
        have m2:=lastB O T j1 (by lia) m' eb ea hw
        refine wpS_bind (wpS_elem eb ?_)
        by_cases hend:nb' - 1=1
        · rw [if_pos (by simp [hend])]
          rw [hend] at m2
          rw [hend]
          exact wpS_pure ⟨rfl,.inl ⟨_,rfl,end_B T h0 m2⟩⟩
        · rw [if_neg (by simp [hend])]
          by_cases hg:bc+1 ≥ mg
          · rw [if_pos hg]
            exact wpS_pure ⟨rfl,.inr ⟨_,_,_,_,_,rfl,m2,j1,by lia,by lia,j4,by lia⟩⟩
          · rw [if_neg hg]
            exact wpS_pure ⟨rfl,_,_,_,_,_,rfl,m2,j1,by lia,by lia,j4,by lia⟩
    case ipost =>
      rintro c z ⟨rfl,hc⟩
      rcases hc with ⟨r,e,res⟩ | ⟨na',nb',out',ac,bc,rfl,m',j1,j2,j3,j4,j5⟩
      · rw [e]
        exact wpS_pure ⟨lk,r,rfl,res⟩
      · dsimp only
        refine wpS_bind (wpS_lift (wpAny_rule ⟨rfl,?_⟩))
        refine wpS_bind (wpS_mono (wpS_forRange (I:=fun y c z=>Like st z∧∃ na2 nb2 out2 mg2 ac2 bc2,c=(none,na2,nb2,out2,mg2,ac2,bc2)∧MJ (leOf L) a.toList b.toList out2.reverse.toList na2 nb2∧0<na2∧1<nb2∧na2+nb2≤na'+nb'∧na2≤a.size∧nb2≤b.size)
          (Q:=fun c z=>Like st z∧((∃ r,c.1=some r∧Res (leOf L) a.toList b.toList r.toList)∨∃ na2 nb2 out2 mg2 ac2 bc2,c=(none,na2,nb2,out2,mg2,ac2,bc2)∧MJ (leOf L) a.toList b.toList out2.reverse.toList na2 nb2∧0<na2∧1<nb2∧na2+nb2≤na'+nb'∧na2≤a.size∧nb2≤b.size)) ?gstep ?gfin ⟨lk,na',nb',out',_,_,_,rfl,m',j1,j2,Nat.le_refl _,j4,j5⟩) ?gpost)
        case gfin =>
          rintro c z ⟨lk2,rest⟩
          exact ⟨lk2,.inr rest⟩
        case gpost =>
          rintro c z ⟨lk2,hc⟩
          rcases hc with ⟨r,e,res⟩ | ⟨na2,nb2,out2,mg2,ac2,bc2,rfl,m2,k1,k2,k3,k4,k5⟩
          · rw [e]
            exact wpS_pure ⟨lk2,r,rfl,res⟩
          · dsimp only
            refine wpS_bind (wpS_modify ?_)
            exact wpS_pure ⟨lk2,_,_,_,_,rfl,m2,k1,k2,by lia,k4,k5⟩
        case gstep =>
          rintro y c z _ hy ⟨lk2,na2,nb2,out2,mg2,ac2,bc2,rfl,m2,k1,k2,k3,k4,k5⟩
          obtain ⟨xb,eb⟩:=atB (nb2 - 1) (by lia)
          have hkz:kindOf z=kd:=lk2.1.trans hk
          have lk3:=lk2
          dsimp only
          by_cases hmg:mg2 > 1
          · rw [if_pos hmg]
            refine wpS_bind (wpS_modify ?_)
            refine wpS_bind (wpS_elem eb ?_)
            refine wpS_bind (seekA0 O T (by exact hkz) (T.Sb _ (at_mem eb)) (by lia) (fun t q1 q2 q3=>?_) (by lia))
            dsimp only
            by_cases hk0:na2 - t > 0
            · rw [if_pos hk0]
              have n1:=backA O T (by lia) m2 eb t q1 q3
              by_cases e1:t=0
              · rw [if_pos (by simp [e1])]
                rw [e1] at n1
                rw [e1]
                exact wpS_pure ⟨lk3,.inl ⟨_,rfl,end_A T n1⟩⟩
              · rw [if_neg (by simp [e1])]
                obtain ⟨ya,ea3⟩:=atA (t - 1) (by lia)
                have hw:L xb ya=false:=q2 (t - 1) ya (by lia) ea3
                have n2:=lastB O T (by lia) (by lia) n1 eb ea3 hw
                refine wpS_bind (wpS_elem eb ?_)
                by_cases e3:nb2 - 1=1
                · rw [if_pos (by simp [e3])]
                  rw [e3] at n2
                  rw [e3]
                  exact wpS_pure ⟨lk3,.inl ⟨_,rfl,end_B T h0 n2⟩⟩
                · rw [if_neg (by simp [e3])]
                  refine wpS_bind (wpS_elem ea3 ?_)
                  refine wpS_bind (seekB0 O T (by exact hkz) (T.Sa _ (at_mem ea3)) (by lia) (fun t' r1 r2 r3=>?_) (by lia))
                  dsimp only
                  by_cases hk1:nb2 - 1 - t' > 0
                  · rw [if_pos hk1]
                    have n3:=backB O T (by lia) n2 ea3 t' r1 r3
                    by_cases e4:t'=1
                    · rw [if_pos (by simp [e4])]
                      rw [e4] at n3
                      rw [e4]
                      exact wpS_pure ⟨lk3,.inl ⟨_,rfl,end_B T h0 n3⟩⟩
                    · rw [if_neg (by simp [e4])]
                      by_cases e6:t'=0
                      · rw [if_pos (by simp [e6])]
                        rw [e6] at n3
                        rw [e6]
                        exact wpS_pure ⟨lk3,.inl ⟨_,rfl,end_B0 T n3⟩⟩
                      · rw [if_neg (by simp [e6])]
                        obtain ⟨xb3,eb3⟩:=atB (t' - 1) (by lia)
                        have hw2:L xb3 ya=true:=r2 (t' - 1) xb3 (by lia) eb3
                        have n4:=lastA O T (by lia) (by lia) n3 eb3 ea3 hw2
                        refine wpS_bind (wpS_elem ea3 ?_)
                        by_cases e5:t - 1=0
                        · rw [if_pos (by simp [e5])]
                          rw [e5] at n4
                          rw [e5]
                          exact wpS_pure ⟨lk3,.inl ⟨_,rfl,end_A T n4⟩⟩
                        · rw [if_neg (by simp [e5])]
                          split
                          · exact wpS_pure ⟨lk3,.inr ⟨_,_,_,_,_,_,rfl,n4,by lia,by lia,by lia,by lia,by lia⟩⟩
                          · exact wpS_pure ⟨lk3,_,_,_,_,_,_,rfl,n4,by lia,by lia,by lia,by lia,by lia⟩
                  · rw [if_neg hk1]
                    obtain ⟨xb3,eb3⟩:=atB ((nb2 - 1) - 1) (by lia)
                    have hw2:L xb3 ya=true:=r2 (nb2 - 1 - 1) xb3 (by lia) eb3
                    have n4:=lastA O T (by lia) (by lia) n2 eb3 ea3 hw2
                    refine wpS_bind (wpS_elem ea3 ?_)
                    by_cases e5:t - 1=0
                    · rw [if_pos (by simp [e5])]
                      rw [e5] at n4
                      rw [e5]
                      exact wpS_pure ⟨lk3,.inl ⟨_,rfl,end_A T n4⟩⟩
                    · rw [if_neg (by simp [e5])]
                      split
                      · exact wpS_pure ⟨lk3,.inr ⟨_,_,_,_,_,_,rfl,n4,by lia,by lia,by lia,by lia,by lia⟩⟩
                      · exact wpS_pure ⟨lk3,_,_,_,_,_,_,rfl,n4,by lia,by lia,by lia,by lia,by lia⟩
            · rw [if_neg hk0]
              obtain ⟨ya,ea3⟩:=atA (na2 - 1) (by lia)
              have hw:L xb ya=false:=q2 (na2 - 1) ya (by lia) ea3
              have n2:=lastB O T (by lia) (by lia) m2 eb ea3 hw
              refine wpS_bind (wpS_elem eb ?_)
              by_cases e3:nb2 - 1=1
              · rw [if_pos (by simp [e3])]
                rw [e3] at n2
                rw [e3]
                exact wpS_pure ⟨lk3,.inl ⟨_,rfl,end_B T h0 n2⟩⟩
              · rw [if_neg (by simp [e3])]
                refine wpS_bind (wpS_elem ea3 ?_)
                refine wpS_bind (seekB0 O T (by exact hkz) (T.Sa _ (at_mem ea3)) (by lia) (fun t' r1 r2 r3=>?_) (by lia))
                dsimp only
                by_cases hk1:nb2 - 1 - t' > 0
                · rw [if_pos hk1]
                  have n3:=backB O T (by lia) n2 ea3 t' r1 r3
                  by_cases e4:t'=1
                  · rw [if_pos (by simp [e4])]
                    rw [e4] at n3
                    rw [e4]
                    exact wpS_pure ⟨lk3,.inl ⟨_,rfl,end_B T h0 n3⟩⟩
                  · rw [if_neg (by simp [e4])]
                    by_cases e6:t'=0
                    · rw [if_pos (by simp [e6])]
                      rw [e6] at n3
                      rw [e6]
                      exact wpS_pure ⟨lk3,.inl ⟨_,rfl,end_B0 T n3⟩⟩
                    · rw [if_neg (by simp [e6])]
                      obtain ⟨xb3,eb3⟩:=atB (t' - 1) (by lia)
                      have hw2:L xb3 ya=true:=r2 (t' - 1) xb3 (by lia) eb3
                      have n4:=lastA O T (by lia) (by lia) n3 eb3 ea3 hw2
                      refine wpS_bind (wpS_elem ea3 ?_)
                      by_cases e5:na2 - 1=0
                      · rw [if_pos (by simp [e5])]
                        rw [e5] at n4
                        rw [e5]
                        exact wpS_pure ⟨lk3,.inl ⟨_,rfl,end_A T n4⟩⟩
                      · rw [if_neg (by simp [e5])]
                        split
                        · exact wpS_pure ⟨lk3,.inr ⟨_,_,_,_,_,_,rfl,n4,by lia,by lia,by lia,by lia,by lia⟩⟩
                        · exact wpS_pure ⟨lk3,_,_,_,_,_,_,rfl,n4,by lia,by lia,by lia,by lia,by lia⟩
                · rw [if_neg hk1]
                  obtain ⟨xb3,eb3⟩:=atB ((nb2 - 1) - 1) (by lia)
                  have hw2:L xb3 ya=true:=r2 (nb2 - 1 - 1) xb3 (by lia) eb3
                  have n4:=lastA O T (by lia) (by lia) n2 eb3 ea3 hw2
                  refine wpS_bind (wpS_elem ea3 ?_)
                  by_cases e5:na2 - 1=0
                  · rw [if_pos (by simp [e5])]
                    rw [e5] at n4
                    rw [e5]
                    exact wpS_pure ⟨lk3,.inl ⟨_,rfl,end_A T n4⟩⟩
                  · rw [if_neg (by simp [e5])]
                    split
                    · exact wpS_pure ⟨lk3,.inr ⟨_,_,_,_,_,_,rfl,n4,by lia,by lia,by lia,by lia,by lia⟩⟩
                    · exact wpS_pure ⟨lk3,_,_,_,_,_,_,rfl,n4,by lia,by lia,by lia,by lia,by lia⟩
          · rw [if_neg hmg]
            refine wpS_bind (wpS_modify ?_)
            refine wpS_bind (wpS_elem eb ?_)
            refine wpS_bind (seekA0 O T (by exact hkz) (T.Sb _ (at_mem eb)) (by lia) (fun t q1 q2 q3=>?_) (by lia))
            dsimp only
            by_cases hk0:na2 - t > 0
            · rw [if_pos hk0]
              have n1:=backA O T (by lia) m2 eb t q1 q3
              by_cases e1:t=0
              · rw [if_pos (by simp [e1])]
                rw [e1] at n1
                rw [e1]
                exact wpS_pure ⟨lk3,.inl ⟨_,rfl,end_A T n1⟩⟩
              · rw [if_neg (by simp [e1])]
                obtain ⟨ya,ea3⟩:=atA (t - 1) (by lia)
                have hw:L xb ya=false:=q2 (t - 1) ya (by lia) ea3
                have n2:=lastB O T (by lia) (by lia) n1 eb ea3 hw
                refine wpS_bind (wpS_elem eb ?_)
                by_cases e3:nb2 - 1=1
                · rw [if_pos (by simp [e3])]
                  rw [e3] at n2
                  rw [e3]
                  exact wpS_pure ⟨lk3,.inl ⟨_,rfl,end_B T h0 n2⟩⟩
                · rw [if_neg (by simp [e3])]
                  refine wpS_bind (wpS_elem ea3 ?_)
                  refine wpS_bind (seekB0 O T (by exact hkz) (T.Sa _ (at_mem ea3)) (by lia) (fun t' r1 r2 r3=>?_) (by lia))
                  dsimp only
                  by_cases hk1:nb2 - 1 - t' > 0
                  · rw [if_pos hk1]
                    have n3:=backB O T (by lia) n2 ea3 t' r1 r3
                    by_cases e4:t'=1
                    · rw [if_pos (by simp [e4])]
                      rw [e4] at n3
                      rw [e4]
                      exact wpS_pure ⟨lk3,.inl ⟨_,rfl,end_B T h0 n3⟩⟩
                    · rw [if_neg (by simp [e4])]
                      by_cases e6:t'=0
                      · rw [if_pos (by simp [e6])]
                        rw [e6] at n3
                        rw [e6]
                        exact wpS_pure ⟨lk3,.inl ⟨_,rfl,end_B0 T n3⟩⟩
                      · rw [if_neg (by simp [e6])]
                        obtain ⟨xb3,eb3⟩:=atB (t' - 1) (by lia)
                        have hw2:L xb3 ya=true:=r2 (t' - 1) xb3 (by lia) eb3
                        have n4:=lastA O T (by lia) (by lia) n3 eb3 ea3 hw2
                        refine wpS_bind (wpS_elem ea3 ?_)
                        by_cases e5:t - 1=0
                        · rw [if_pos (by simp [e5])]
                          rw [e5] at n4
                          rw [e5]
                          exact wpS_pure ⟨lk3,.inl ⟨_,rfl,end_A T n4⟩⟩
                        · rw [if_neg (by simp [e5])]
                          split
                          · exact wpS_pure ⟨lk3,.inr ⟨_,_,_,_,_,_,rfl,n4,by lia,by lia,by lia,by lia,by lia⟩⟩
                          · exact wpS_pure ⟨lk3,_,_,_,_,_,_,rfl,n4,by lia,by lia,by lia,by lia,by lia⟩
                  · rw [if_neg hk1]
                    obtain ⟨xb3,eb3⟩:=atB ((nb2 - 1) - 1) (by lia)
                    have hw2:L xb3 ya=true:=r2 (nb2 - 1 - 1) xb3 (by lia) eb3
                    have n4:=lastA O T (by lia) (by lia) n2 eb3 ea3 hw2
                    refine wpS_bind (wpS_elem ea3 ?_)
                    by_cases e5:t - 1=0
                    · rw [if_pos (by simp [e5])]
                      rw [e5] at n4
                      rw [e5]
                      exact wpS_pure ⟨lk3,.inl ⟨_,rfl,end_A T n4⟩⟩
                    · rw [if_neg (by simp [e5])]
                      split
                      · exact wpS_pure ⟨lk3,.inr ⟨_,_,_,_,_,_,rfl,n4,by lia,by lia,by lia,by lia,by lia⟩⟩
                      · exact wpS_pure ⟨lk3,_,_,_,_,_,_,rfl,n4,by lia,by lia,by lia,by lia,by lia⟩
            · rw [if_neg hk0]
              obtain ⟨ya,ea3⟩:=atA (na2 - 1) (by lia)
              have hw:L xb ya=false:=q2 (na2 - 1) ya (by lia) ea3
              have n2:=lastB O T (by lia) (by lia) m2 eb ea3 hw
              refine wpS_bind (wpS_elem eb ?_)
              by_cases e3:nb2 - 1=1
              · rw [if_pos (by simp [e3])]
                rw [e3] at n2
                rw [e3]
                exact wpS_pure ⟨lk3,.inl ⟨_,rfl,end_B T h0 n2⟩⟩
              · rw [if_neg (by simp [e3])]
                refine wpS_bind (wpS_elem ea3 ?_)
                refine wpS_bind (seekB0 O T (by exact hkz) (T.Sa _ (at_mem ea3)) (by lia) (fun t' r1 r2 r3=>?_) (by lia))
                dsimp only
                by_cases hk1:nb2 - 1 - t' > 0
                · rw [if_pos hk1]
                  have n3:=backB O T (by lia) n2 ea3 t' r1 r3
                  by_cases e4:t'=1
                  · rw [if_pos (by simp [e4])]
                    rw [e4] at n3
                    rw [e4]
                    exact wpS_pure ⟨lk3,.inl ⟨_,rfl,end_B T h0 n3⟩⟩
                  · rw [if_neg (by simp [e4])]
                    by_cases e6:t'=0
                    · rw [if_pos (by simp [e6])]
                      rw [e6] at n3
                      rw [e6]
                      exact wpS_pure ⟨lk3,.inl ⟨_,rfl,end_B0 T n3⟩⟩
                    · rw [if_neg (by simp [e6])]
                      obtain ⟨xb3,eb3⟩:=atB (t' - 1) (by lia)
                      have hw2:L xb3 ya=true:=r2 (t' - 1) xb3 (by lia) eb3
                      have n4:=lastA O T (by lia) (by lia) n3 eb3 ea3 hw2
                      refine wpS_bind (wpS_elem ea3 ?_)
                      by_cases e5:na2 - 1=0
                      · rw [if_pos (by simp [e5])]
                        rw [e5] at n4
                        rw [e5]
                        exact wpS_pure ⟨lk3,.inl ⟨_,rfl,end_A T n4⟩⟩
                      · rw [if_neg (by simp [e5])]
                        split
                        · exact wpS_pure ⟨lk3,.inr ⟨_,_,_,_,_,_,rfl,n4,by lia,by lia,by lia,by lia,by lia⟩⟩
                        · exact wpS_pure ⟨lk3,_,_,_,_,_,_,rfl,n4,by lia,by lia,by lia,by lia,by lia⟩
                · rw [if_neg hk1]
                  obtain ⟨xb3,eb3⟩:=atB ((nb2 - 1) - 1) (by lia)
                  have hw2:L xb3 ya=true:=r2 (nb2 - 1 - 1) xb3 (by lia) eb3
                  have n4:=lastA O T (by lia) (by lia) n2 eb3 ea3 hw2
                  refine wpS_bind (wpS_elem ea3 ?_)
                  by_cases e5:na2 - 1=0
                  · rw [if_pos (by simp [e5])]
                    rw [e5] at n4
                    rw [e5]
                    exact wpS_pure ⟨lk3,.inl ⟨_,rfl,end_A T n4⟩⟩
                  · rw [if_neg (by simp [e5])]
                    split
                    · exact wpS_pure ⟨lk3,.inr ⟨_,_,_,_,_,_,rfl,n4,by lia,by lia,by lia,by lia,by lia⟩⟩
                    · exact wpS_pure ⟨lk3,_,_,_,_,_,_,rfl,n4,by lia,by lia,by lia,by lia,by lia⟩
end
end TS
namespace TS
open PySem PyProof.Rows
section
variable {M:Model} {A:Around} {E:Value→Shared→Prop} {s:Shared} {kd:SortKind} {S:Keyed→Prop} {L:Keyed→Keyed→Bool}
def Seg (L:Keyed→Keyed→Bool) (a:Array Keyed) (lo n:Nat):Prop:=∀ (i j:Nat) x y,i≤j→j<n→a[lo+i]?=some x→a[lo+j]?=some y→L y x=false
def Rev (L:Keyed→Keyed→Bool) (a:Array Keyed) (lo n:Nat):Prop:=∀ (i j:Nat) x y,i≤j→j<n→a[lo+i]?=some x→a[lo+j]?=some y→L x y=false
structure SB (kd:SortKind) (S:Keyed→Prop) (st0 st:SortSt) (lo hi:Nat):Prop where
  kind:kindOf st=kd
  pend:pendingOf st=pendingOf st0
  fail:failedOf st=failedOf st0
  perm:(arrOf st).Perm (arrOf st0)
  out:∀ k:Nat,k<lo∨hi≤k→(arrOf st)[k]?=(arrOf st0)[k]?
  all:∀ (k:Nat) x,(arrOf st)[k]?=some x→S x
theorem SB.size {st0 st:SortSt} {lo hi:Nat} (h:SB kd S st0 st lo hi):(arrOf st).size=(arrOf st0).size:=h.perm.size_eq
theorem wpS_at (O:LtOk M A E s kd S L) {st:SortSt} {i j:Nat} {x y:Keyed} {Q:Option Bool→SortSt→Prop} (hk:kindOf st=kd) (hi:(arrOf st)[i]?=some x) (hj:(arrOf st)[j]?=some y) (sx:S x) (sy:S y) (q:Q (some (L x y)) st):wpS M A E s (ltAt' i j) Q st:=by
  rw [ltAt'_eq]
  refine wpS_bind (wpS_get ?_)
  refine wpS_bind (wpS_elem hi ?_)
  refine wpS_bind (wpS_elem hj ?_)
  exact O.lt x y sx sy st Q hk q
theorem has_at {st:SortSt} {i:Nat} (h:i<(arrOf st).size):∃ x,(arrOf st)[i]?=some x:=⟨(arrOf st)[i],by simp [h]⟩
theorem Seg.more (O:LtOk M A E s kd S L) {a:Array Keyed} {lo n:Nat} {x y:Keyed} (hS:∀ (k:Nat) x,a[k]?=some x→S x) (h:Seg L a lo (n+1)) (hx:a[lo+n]?=some x) (hy:a[lo+(n+1)]?=some y) (hl:L y x=false):Seg L a lo (n+2):=by
  intro i j u v hij hj hu hv
  rcases Nat.lt_or_ge j (n+1) with q | q
  · exact h i j u v hij q hu hv
  · have ej:j=n+1:=by lia
    subst ej
    rw [hy] at hv
    cases hv
    rcases Nat.lt_or_ge i (n+1) with q2 | q2
    · have h1:=h i n u x (by lia) (by lia) hu hx
      exact O.tr u x y (hS _ _ hu) (hS _ _ hx) (hS _ _ hy) h1 hl
    · have ei:i=n+1:=by lia
      subst ei
      rw [hy] at hu
      cases hu
      exact O.rf (hS _ _ hy)
def Blk (L:Keyed→Keyed→Bool) (a:Array Keyed) (lo n q:Nat):Prop:=∀ (i j:Nat) x y,n - (q+1)≤i→i<n→n - (q+1)≤j→j<n→a[lo+i]?=some x→a[lo+j]?=some y→L x y=false
theorem SB.refl {st:SortSt} {lo hi:Nat} (hk:kindOf st=kd) (hS:∀ (k:Nat) x,(arrOf st)[k]?=some x→S x):SB kd S st st lo hi:=⟨hk,rfl,rfl,Array.Perm.refl _,fun _ _=>rfl,hS⟩
theorem SB.mir {st0 st:SortSt} {lo hi i j:Nat} (h:SB kd S st0 st lo hi) (h1:lo≤i) (h2:j≤hi) (hz:j≤(arrOf st).size):SB kd S st0 (setArr st (mirror (arrOf st) i j ((j - i) / 2))) lo hi:=by
  refine ⟨h.kind,h.pend,h.fail,(mirror_perm _ _ _ _).trans h.perm,fun k hk=>?_,fun k x hx=>?_⟩
  · show (mirror (arrOf st) i j ((j - i) / 2))[k]?=_
    rw [getElem?_mirror_all hz,if_neg (by lia)]
    exact h.out k hk
  · have hx':(mirror (arrOf st) i j ((j - i) / 2))[k]?=some x:=hx
    rw [getElem?_mirror_all hz] at hx'
    split at hx'
    · exact h.all _ x hx'
    · exact h.all _ x hx'
theorem Rev.blk {a:Array Keyed} {lo n q:Nat} (h:Rev L a lo n) (hb:Blk L a lo n q) (hq:q<n) (hz:lo+n≤a.size):Rev L (mirror a (lo+n - (q+1)) (lo+n) ((lo+n - (lo+n - (q+1))) / 2)) lo n:=by
  intro i j x y hij hj hx hy
  rw [getElem?_mirror_all hz] at hx hy
  by_cases hi:lo+n - (q+1)≤lo+i∧lo+i<lo+n
  · rw [if_pos hi] at hx
    rw [if_pos (by lia)] at hy
    rw [show lo+n - (q+1)+(lo+n) - 1 - (lo+i)=lo+(n - (q+1)+n - 1 - i) by lia] at hx
    rw [show lo+n - (q+1)+(lo+n) - 1 - (lo+j)=lo+(n - (q+1)+n - 1 - j) by lia] at hy
    exact hb _ _ x y (by lia) (by lia) (by lia) (by lia) hx hy
  · rw [if_neg hi] at hx
    by_cases hj':lo+n - (q+1)≤lo+j∧lo+j<lo+n
    · rw [if_pos hj'] at hy
      rw [show lo+n - (q+1)+(lo+n) - 1 - (lo+j)=lo+(n - (q+1)+n - 1 - j) by lia] at hy
      exact h i _ x y (by lia) (by lia) hx hy
    · rw [if_neg hj'] at hy
      exact h i j x y hij hj hx hy
theorem Rev.flip {a:Array Keyed} {lo n:Nat} (h:Rev L a lo n) (hz:lo+n≤a.size):Seg L (mirror a lo (lo+n) ((lo+n - lo) / 2)) lo n:=by
  intro i j x y hij hj hx hy
  rw [getElem?_mirror_all hz,if_pos (by lia)] at hx hy
  rw [show lo+(lo+n) - 1 - (lo+i)=lo+(n - 1 - i) by lia] at hx
  rw [show lo+(lo+n) - 1 - (lo+j)=lo+(n - 1 - j) by lia] at hy
  exact h _ _ y x (by lia) (by lia) hy hx
theorem Rev.more (O:LtOk M A E s kd S L) {a:Array Keyed} {lo n:Nat} {x y:Keyed} (hS:∀ (k:Nat) x,a[k]?=some x→S x) (h:Rev L a lo (n+1)) (hx:a[lo+n]?=some x) (hy:a[lo+(n+1)]?=some y) (hl:L x y=false):Rev L a lo (n+2):=by
  intro i j u v hij hj hu hv
  rcases Nat.lt_or_ge j (n+1) with q | q
  · exact h i j u v hij q hu hv
  · have ej:j=n+1:=by lia
    subst ej
    rw [hy] at hv
    cases hv
    rcases Nat.lt_or_ge i (n+1) with q2 | q2
    · have h1:=h i n u x (by lia) (by lia) hu hx
      exact O.tr y x u (hS _ _ hy) (hS _ _ hx) (hS _ _ hu) hl h1
    · have ei:i=n+1:=by lia
      subst ei
      rw [hy] at hu
      cases hu
      exact O.rf (hS _ _ hy)
theorem Blk.more (O:LtOk M A E s kd S L) {a:Array Keyed} {lo n q:Nat} {x y:Keyed} (hS:∀ (k:Nat) x,a[k]?=some x→S x) (h:Blk L a lo (n+1) q) (hq:q<n+1) (hx:a[lo+n]?=some x) (hy:a[lo+(n+1)]?=some y) (h1:L x y=false) (h2:L y x=false):Blk L a lo (n+2) (q+1):=by
  have old:∀ (i:Nat) u,n+1 - (q+1)≤i→i<n+1→a[lo+i]?=some u→L u y=false∧L y u=false:=fun i u a1 a2 hu=>by
    have e1:=h i n u x a1 a2 (by lia) (by lia) hu hx
    have e2:=h n i x u (by lia) (by lia) a1 a2 hx hu
    exact ⟨O.tr y x u (hS _ _ hy) (hS _ _ hx) (hS _ _ hu) h1 e1,O.tr u x y (hS _ _ hu) (hS _ _ hx) (hS _ _ hy) e2 h2⟩
  intro i j u v a1 a2 b1 b2 hu hv
  rcases Nat.lt_or_ge i (n+1) with ci | ci
  · rcases Nat.lt_or_ge j (n+1) with cj | cj
    · exact h i j u v (by lia) ci (by lia) cj hu hv
    · have ej:j=n+1:=by lia
      subst ej;rw [hy] at hv;cases hv
      exact (old i u (by lia) ci hu).1
  · have ei:i=n+1:=by lia
    subst ei;rw [hy] at hu;cases hu
    rcases Nat.lt_or_ge j (n+1) with cj | cj
    · exact (old j v (by lia) cj hv).2
    · have ej:j=n+1:=by lia
      subst ej;rw [hy] at hv;cases hv
      exact O.rf (hS _ _ hy)
theorem Blk.one (O:LtOk M A E s kd S L) {a:Array Keyed} {lo n:Nat} (hS:∀ (k:Nat) x,a[k]?=some x→S x):Blk L a lo (n+1) 0:=fun i j x y a1 a2 b1 b2 hx hy=>by
  have ei:i=n:=by lia
  have ej:j=n:=by lia
  subst ei;subst ej
  rw [hx] at hy;cases hy
  exact O.rf (hS _ _ hx)
theorem two_waysS {B:Prop} {D:SortSt→Prop} (C:SortSt→Prop) (g:(∀ st,D st→C st)→B) (h:∀ st,D st→C st):B:=g h
theorem countRun_spec (O : LtOk M A E s kd S L) {st : SortSt} {lo nrem : Nat} {Q : Option Nat → SortSt → Prop} (h1 : 1 ≤ nrem) (hz : lo + nrem ≤ (arrOf st).size) (hk : kindOf st = kd) (hS : ∀ (k : Nat) x, (arrOf st)[k]? = some x → S x)
    (hQ:∀ m st',SB kd S st st' lo (lo+nrem)→1≤m→m≤nrem→Seg L (arrOf st') lo m→Q (some m) st'):wpS M A E s (countRun' lo nrem) Q st:=by
  rw [countRun'_eq]
  refine wpS_bind (wpS_mono (wpS_forRange (I:=fun x c st'=>c=(none,x)∧st'=st∧x≤nrem∧Seg L (arrOf st) lo x)
    (Q:=fun c st'=>∃ m,c=(none,m)∧st'=st∧1≤m∧m≤nrem∧Seg L (arrOf st) lo m∧(m<nrem→∃ x y,(arrOf st)[lo+m]?=some x∧(arrOf st)[lo+m - 1]?=some y∧L x y=true)) ?step ?fin ?init) ?post)
  case init =>
    refine ⟨rfl,rfl,h1,fun i j x y hij hj hx hy=>?_⟩
    have ei:i=0:=by lia
    have ej:j=0:=by lia
    subst ei;subst ej
    rw [hx] at hy
    cases hy
    exact O.rf (hS _ _ hx)
  case fin =>
    rintro c st' ⟨rfl,rfl,hle,hsg⟩
    exact ⟨_,rfl,rfl,by lia,hle,hsg,fun h=>absurd h (by lia)⟩
  case step =>
    rintro n c st' hn1 hn2 ⟨rfl,rfl,hle,hsg⟩
    obtain ⟨x,hx⟩:=has_at (st:=st') (i:=lo+n) (by lia)
    obtain ⟨y,hy⟩:=has_at (st:=st') (i:=lo+n - 1) (by lia)
    refine wpS_bind (wpS_at O hk hx hy (hS _ _ hx) (hS _ _ hy) ?_)
    dsimp only
    by_cases hl:L x y=true
    · rw [if_pos hl]
      exact wpS_pure ⟨n,rfl,rfl,hn1,hle,hsg,fun _=>⟨x,y,hx,hy,hl⟩⟩
    · rw [if_neg hl]
      refine wpS_pure ⟨rfl,rfl,hn2,?_⟩
      obtain ⟨p,rfl⟩:∃ p,n=p+1:=⟨n - 1,by lia⟩
      exact hsg.more O hS (by rw [show lo+(p+1) - 1=lo+p by lia] at hy;exact hy) hx (by simpa using hl)
  case post =>
    rintro c st' ⟨m,rfl,rfl,hm1,hm2,hsg,hnx⟩
    dsimp only
    by_cases hmn:(m == nrem)=true
    · rw [if_pos hmn]
      exact wpS_pure (hQ m st' (SB.refl hk hS) hm1 hm2 hsg)
    · rw [if_neg hmn]
      have hlt : m < nrem := by have : m ≠ nrem := by simpa using hmn
                                lia
      obtain ⟨x0,y0,hx0,hy0,hl0⟩:=hnx hlt
      refine two_waysS (D:=fun st1=>SB kd S st' st1 lo (lo+nrem)∧Rev L (arrOf st1) lo m∧(∃ x y,(arrOf st1)[lo+m]?=some x∧(arrOf st1)[lo+m - 1]?=some y∧L y x=false)) ?C (fun share=>?g) ?h
      case g =>
        by_cases hm:m > 1
        · rw [if_pos hm]
          obtain ⟨a,ha⟩:=has_at (st:=st') (i:=lo) (by lia)
          obtain ⟨b,hb⟩:=has_at (st:=st') (i:=lo+m - 1) (by lia)
          refine wpS_bind (wpS_at O hk ha hb (hS _ _ ha) (hS _ _ hb) ?_)
          dsimp only
          by_cases hr:L a b=true
          · rw [if_pos hr]
            exact wpS_pure (hQ m st' (SB.refl hk hS) hm1 hm2 hsg)
          · rw [if_neg hr]
            have hr':L a b=false:=by simpa using hr
            rw [reverseSlice'_eq]
            refine wpS_bind (wpS_modify ?_)
            have hz2:lo+m≤(arrOf st').size:=by lia
            have hb':(arrOf st')[lo+(m - 1)]?=some b:=by rw [show lo+(m - 1)=lo+m - 1 by lia];exact hb
            have eqv:Rev L (arrOf st') lo m:=fun i j x y hij hj hx hy=>by
              have e1:=hsg 0 j a y (by lia) hj (by simpa using ha) hy
              have e2:=hsg i (m - 1) x b (by lia) (by lia) hx hb'
              have e3:=O.tr x b a (hS _ _ hx) (hS _ _ hb) (hS _ _ ha) e2 hr'
              have e4:=hsg j (m - 1) y b (by lia) (by lia) hy hb'
              have e5:=hsg 0 i a x (by lia) (by lia) (by simpa using ha) hx
              exact O.tr y b x (hS _ _ hy) (hS _ _ hb) (hS _ _ hx) e4 (O.tr b a x (hS _ _ hb) (hS _ _ ha) (hS _ _ hx) hr' e5)
            have rv2:Rev L (mirror (arrOf st') lo (lo+m) ((lo+m - lo) / 2)) lo m:=fun i j x y hij hj hx hy=>by
              rw [getElem?_mirror_all hz2,if_pos (by lia)] at hx hy
              rw [show lo+(lo+m) - 1 - (lo+i)=lo+(m - 1 - i) by lia] at hx
              rw [show lo+(lo+m) - 1 - (lo+j)=lo+(m - 1 - j) by lia] at hy
              exact hsg _ _ y x (by lia) (by lia) hy hx
            refine share _ ⟨(SB.refl hk hS).mir (Nat.le_refl _) (by lia) hz2,rv2,x0,a,?_,?_,?_⟩
            · show (mirror (arrOf st') lo (lo+m) ((lo+m - lo) / 2))[lo+m]?=_
              rw [getElem?_mirror_all hz2,if_neg (by lia)];exact hx0
            · show (mirror (arrOf st') lo (lo+m) ((lo+m - lo) / 2))[lo+m - 1]?=_
              rw [getElem?_mirror_all hz2,if_pos (by lia),show lo+(lo+m) - 1 - (lo+m - 1)=lo by lia];exact ha
            · have eb:b=y0:=by rw [hb] at hy0;exact Option.some.inj hy0
              subst eb
              exact O.tr x0 b a (hS _ _ hx0) (hS _ _ hb) (hS _ _ ha) (O.as x0 b (hS _ _ hx0) (hS _ _ hb) hl0) hr'
        · rw [if_neg hm]
          have em:m=1:=by lia
          subst em
          refine share _ ⟨SB.refl hk hS,fun i j x y hij hj hx hy=>?_,x0,y0,hx0,hy0,O.as x0 y0 (hS _ _ hx0) (hS _ _ hy0) hl0⟩
          have ei:i=0:=by lia
          have ej:j=0:=by lia
          subst ei;subst ej
          rw [hx] at hy;cases hy
          exact O.rf (hS _ _ hx)
      case h =>
        rintro st1 ⟨sb1,rv1,x1,y1,hx1,hy1,hl1⟩
        have hz1:lo+nrem≤(arrOf st1).size:=by rw [sb1.size];exact hz
        refine wpS_bind (wpS_lift (wpAny_rule ⟨rfl,?_⟩))
        obtain ⟨p,rfl⟩:∃ p,m=p+1:=⟨m - 1,by lia⟩
        rw [show lo+(p+1) - 1=lo+p by lia] at hy1
        have rv2:Rev L (arrOf st1) lo (p+1+1):=rv1.more O sb1.all hy1 hx1 hl1
        refine wpS_bind (wpS_mono (wpS_forRange (I:=fun x c st2=>∃ q,c=(none,x,q)∧SB kd S st' st2 lo (lo+nrem)∧1≤x∧x≤nrem∧q<x∧Rev L (arrOf st2) lo x∧Blk L (arrOf st2) lo x q)
          (Q:=fun c st2=>∃ x q,c=(none,x,q)∧SB kd S st' st2 lo (lo+nrem)∧1≤x∧x≤nrem∧q<x∧Rev L (arrOf st2) lo x∧Blk L (arrOf st2) lo x q) ?step ?fin ⟨0,rfl,sb1,by lia,by lia,by lia,rv2,Blk.one O sb1.all⟩) ?post)
        case fin =>
          rintro c st2 ⟨q,rfl,hh⟩
          exact ⟨_,q,rfl,hh⟩
        case step =>
          rintro x c st2 hx1' hx2 ⟨q,rfl,sb2,hn1,hn2,hq,rv,bk⟩
          have hz2:lo+nrem≤(arrOf st2).size:=by rw [sb2.size];exact hz
          obtain ⟨u,hu⟩:=has_at (st:=st2) (i:=lo+x) (by lia)
          obtain ⟨v,hv⟩:=has_at (st:=st2) (i:=lo+x - 1) (by lia)
          obtain ⟨r,rfl⟩:∃ r,x=r+1:=⟨x - 1,by lia⟩
          rw [show lo+(r+1) - 1=lo+r by lia] at hv
          refine wpS_bind (wpS_at O sb2.kind hu (by rw [show lo+(r+1) - 1=lo+r by lia];exact hv) (sb2.all _ _ hu) (sb2.all _ _ hv) ?_)
          dsimp only
          by_cases hl:L u v=true
          · rw [if_pos hl]
            have hvu:=O.as u v (sb2.all _ _ hu) (sb2.all _ _ hv) hl
            by_cases hq0:q > 0
            · rw [if_pos hq0,reverseSlice'_eq]
              refine wpS_bind (wpS_modify ?_)
              have hzr:lo+(r+1)≤(arrOf st2).size:=by lia
              have sb3:=sb2.mir (i:=lo+(r+1) - (q+1)) (j:=lo+(r+1)) (by lia) (by lia) hzr
              have rv3:=rv.blk bk hq hzr
              refine wpS_pure ⟨0,rfl,sb3,by lia,by lia,by lia,?_,Blk.one O sb3.all⟩
              have hz3:r<r+1:=by lia
              obtain ⟨v2,hv2⟩:=has_at (st:=setArr st2 (mirror (arrOf st2) (lo+(r+1) - (q+1)) (lo+(r+1)) ((lo+(r+1) - (lo+(r+1) - (q+1))) / 2))) (i:=lo+r) (by show lo+r<(mirror (arrOf st2) _ _ _).size;rw [mirror_size];lia)
              have hv2':(arrOf st2)[lo+(r+1 - (q+1)+r - r)]?=some v2:=by
                have h0:(mirror (arrOf st2) (lo+(r+1) - (q+1)) (lo+(r+1)) ((lo+(r+1) - (lo+(r+1) - (q+1))) / 2))[lo+r]?=some v2:=hv2
                rw [getElem?_mirror_all hzr,if_pos (by lia),show lo+(r+1) - (q+1)+(lo+(r+1)) - 1 - (lo+r)=lo+(r+1 - (q+1)+r - r) by lia] at h0
                exact h0
              refine rv3.more O sb3.all hv2 (y:=u) ?_ ?_
              · show (mirror (arrOf st2) (lo+(r+1) - (q+1)) (lo+(r+1)) ((lo+(r+1) - (lo+(r+1) - (q+1))) / 2))[lo+(r+1)]?=some u
                rw [getElem?_mirror_all hzr,if_neg (by lia)];exact hu
              · exact O.tr u v v2 (sb2.all _ _ hu) (sb2.all _ _ hv) (sb2.all _ _ hv2') hvu (rv _ r v2 v (by lia) (by lia) hv2' hv)
            · rw [if_neg hq0]
              exact wpS_pure ⟨0,rfl,sb2,by lia,by lia,by lia,rv.more O sb2.all hv hu hvu,Blk.one O sb2.all⟩
          · rw [if_neg hl]
            have hl':L u v=false:=by simpa using hl
            refine wpS_bind (wpS_at O sb2.kind (by rw [show lo+(r+1) - 1=lo+r by lia];exact hv) hu (sb2.all _ _ hv) (sb2.all _ _ hu) ?_)
            dsimp only
            by_cases hg:L v u=true
            · rw [if_pos hg]
              exact wpS_pure ⟨r+1,q,rfl,sb2,hn1,hn2,hq,rv,bk⟩
            · rw [if_neg hg]
              have hg':L v u=false:=by simpa using hg
              exact wpS_pure ⟨q+1,rfl,sb2,by lia,by lia,by lia,rv.more O sb2.all hv hu hg',bk.more O sb2.all hq hv hu hg' hl'⟩
        case post =>
          rintro c st2 ⟨x,q,rfl,sb2,hx1',hx2,hq,rv,bk⟩
          dsimp only
          have hz2:lo+nrem≤(arrOf st2).size:=by rw [sb2.size];exact hz
          refine two_waysS (D:=fun st3=>SB kd S st' st3 lo (lo+nrem)∧Rev L (arrOf st3) lo x) ?C2 (fun share=>?g2) ?h2
          case g2 =>
            by_cases hq0:q > 0
            · rw [if_pos hq0,reverseSlice'_eq]
              refine wpS_bind (wpS_modify ?_)
              exact share _ ⟨sb2.mir (by lia) (by lia) (by lia),rv.blk bk hq (by lia)⟩
            · rw [if_neg hq0]
              exact share _ ⟨sb2,rv⟩
          case h2 =>
            rintro st3 ⟨sb3,rv3⟩
            have hz3:lo+nrem≤(arrOf st3).size:=by rw [sb3.size];exact hz
            rw [reverseSlice'_eq]
            refine wpS_bind (wpS_modify ?_)
            have sb4:=sb3.mir (i:=lo) (j:=lo+x) (Nat.le_refl _) (by lia) (by lia)
            have sg4:=rv3.flip (show lo+x≤(arrOf st3).size by lia)
            have sg5:Seg L (arrOf (setArr st3 (mirror (arrOf st3) lo (lo+x) ((lo+x - lo) / 2)))) lo x:=sg4
            generalize setArr st3 (mirror (arrOf st3) lo (lo+x) ((lo+x - lo) / 2))=st4 at sb4 sg5
            have hz4:lo+nrem≤(arrOf st4).size:=by rw [sb4.size];exact hz
            refine wpS_bind (wpS_mono (wpS_forRange (I:=fun n c st5=>c=(none,n)∧st5=st4∧n≤nrem∧Seg L (arrOf st4) lo n) (Q:=fun c st5=>∃ m,c=(none,m)∧st5=st4∧1≤m∧m≤nrem∧Seg L (arrOf st4) lo m) ?step ?fin ⟨rfl,rfl,hx2,sg5⟩) ?post)
            case fin =>
              rintro c st5 ⟨rfl,rfl,hle,hsg⟩
              exact ⟨_,rfl,rfl,by lia,hle,hsg⟩
            case step =>
              rintro n c st5 hn1 hn2 ⟨rfl,rfl,hle,hsg⟩
              obtain ⟨u,hu⟩:=has_at (st:=st5) (i:=lo+n) (by lia)
              obtain ⟨v,hv⟩:=has_at (st:=st5) (i:=lo+n - 1) (by lia)
              refine wpS_bind (wpS_at O sb4.kind hu hv (sb4.all _ _ hu) (sb4.all _ _ hv) ?_)
              dsimp only
              by_cases hl:L u v=true
              · rw [if_pos hl]
                exact wpS_pure ⟨n,rfl,rfl,by lia,hle,hsg⟩
              · rw [if_neg hl]
                refine wpS_pure ⟨rfl,rfl,hn2,?_⟩
                obtain ⟨p,rfl⟩:∃ p,n=p+1:=⟨n - 1,by lia⟩
                exact hsg.more O sb4.all (by rw [show lo+(p+1) - 1=lo+p by lia] at hv;exact hv) hu (by simpa using hl)
            case post =>
              rintro c st5 ⟨n,rfl,rfl,h1n,hn2,hsg⟩
              exact wpS_pure (hQ n st5 sb4 h1n hn2 hsg)
end
end TS
namespace TS
open PySem PyProof.Rows
section
variable {M:Model} {A:Around} {E:Value→Shared→Prop} {s:Shared} {kd:SortKind} {S:Keyed→Prop} {L:Keyed→Keyed→Bool}
theorem SB.bub {st0 st:SortSt} {lo hi i d:Nat} (h:SB kd S st0 st lo hi) (h1:lo≤i - d) (hd:d≤i) (h2:i<hi) (hz:i<(arrOf st).size):SB kd S st0 (setArr st (bubble (arrOf st) i d)) lo hi:=by
  refine ⟨h.kind,h.pend,h.fail,(bubble_perm _ _ _).trans h.perm,fun k hk=>?_,fun k x hx=>?_⟩
  · show (bubble (arrOf st) i d)[k]?=_
    rw [getElem?_bubble hz _ hd,if_neg (by lia),if_neg (by lia)]
    exact h.out k hk
  · have hx':(bubble (arrOf st) i d)[k]?=some x:=hx
    rw [getElem?_bubble hz _ hd] at hx'
    split at hx'
    · exact h.all _ x hx'
    · split at hx'
      · exact h.all _ x hx'
      · exact h.all _ x hx'
theorem Seg.ins (O : LtOk M A E s kd S L) {a : Array Keyed} {lo k l : Nat} {p : Keyed} (hS : ∀ (k : Nat) x, a[k]? = some x → S x) (h : Seg L a lo k) (hlk : l ≤ k) (hz : lo + k < a.size) (hp : a[lo + k]? = some p)
    (h1:∀ (i:Nat) x,i<l→a[lo+i]?=some x→L p x=false) (h2:∀ (i:Nat) x,l≤i→i<k→a[lo+i]?=some x→L p x=true):Seg L (bubble a (lo+k) (lo+k - (lo+l))) lo (k+1):=by
  have at':∀ (i:Nat) x,i<k+1→(bubble a (lo+k) (lo+k - (lo+l)))[lo+i]?=some x→(i<l∧a[lo+i]?=some x)∨(i=l∧x=p)∨(l<i∧a[lo+(i - 1)]?=some x):=fun i x hi hx=>by
    rw [getElem?_bubble hz _ (by lia)] at hx
    by_cases e:lo+i=lo+k - (lo+k - (lo+l))
    · rw [if_pos e,hp] at hx
      exact .inr (.inl ⟨by lia,(Option.some.inj hx).symm⟩)
    · rw [if_neg e] at hx
      by_cases e2:lo+k - (lo+k - (lo+l))<lo+i∧lo+i≤lo+k
      · rw [if_pos e2,show lo+i - 1=lo+(i - 1) by lia] at hx
        exact .inr (.inr ⟨by lia,hx⟩)
      · rw [if_neg e2] at hx
        exact .inl ⟨by lia,hx⟩
  intro i j x y hij hj hx hy
  have sp:=hS _ _ hp
  rcases at' i x (by lia) hx with ⟨a1,a2⟩ | ⟨a1,a2⟩ | ⟨a1,a2⟩
  · rcases at' j y hj hy with ⟨b1,b2⟩ | ⟨b1,b2⟩ | ⟨b1,b2⟩
    · exact h i j x y hij (by lia) a2 b2
    · rw [b2];exact h1 i x a1 a2
    · exact h i (j - 1) x y (by lia) (by lia) a2 b2
  · subst a2
    rcases at' j y hj hy with ⟨b1,b2⟩ | ⟨b1,b2⟩ | ⟨b1,b2⟩
    · lia
    · rw [b2];exact O.rf sp
    · exact O.as x y sp (hS _ _ b2) (h2 (j - 1) y (by lia) (by lia) b2)
  · rcases at' j y hj hy with ⟨b1,b2⟩ | ⟨b1,b2⟩ | ⟨b1,b2⟩
    · lia
    · lia
    · exact h (i - 1) (j - 1) x y (by lia) (by lia) a2 b2
theorem binarySort_spec (O : LtOk M A E s kd S L) {st : SortSt} {lo n ok : Nat} {Q : Bool → SortSt → Prop} (hok : 1 ≤ ok) (hn : ok ≤ n) (hz : lo + n ≤ (arrOf st).size) (hk : kindOf st = kd) (hS : ∀ (k : Nat) x, (arrOf st)[k]? = some x → S x) (hs : Seg L (arrOf st) lo ok)
    (hQ:∀ st',SB kd S st st' lo (lo+n)→Seg L (arrOf st') lo n→Q true st'):wpS M A E s (binarySort' lo n ok) Q st:=by
  rw [binarySort'_eq]
  have em:max ok 1=ok:=by lia
  rw [em]
  refine wpS_bind (wpS_mono (wpS_forRange (I:=fun k c st'=>c=(none,())∧SB kd S st st' lo (lo+n)∧k≤n∧Seg L (arrOf st') lo k)
    (Q:=fun c st'=>c=(none,())∧SB kd S st st' lo (lo+n)∧Seg L (arrOf st') lo n) ?step ?fin ⟨rfl,SB.refl hk hS,hn,hs⟩) ?post)
  case post =>
    rintro c st' ⟨rfl,sb,sg⟩
    exact wpS_pure (hQ st' sb sg)
  case fin =>
    rintro c st' ⟨rfl,sb,hle,sg⟩
    rw [show max ok n=n by lia] at sg
    exact ⟨rfl,sb,sg⟩
  case step =>
    rintro k c st' hk1 hk2 ⟨rfl,sb,hle,sg⟩
    have hz':lo+n≤(arrOf st').size:=by rw [sb.size];exact hz
    obtain ⟨p,hp⟩:=has_at (st:=st') (i:=lo+k) (by lia)
    dsimp only
    refine wpS_bind (wpS_mono (wpS_forRange (I:=fun x c st2=>∃ l r,c=(none,l,r)∧st2=st'∧l≤r∧r≤k∧r - l≤k - x∧(∀ (i:Nat) z,i<l→(arrOf st')[lo+i]?=some z→L p z=false)∧(∀ (i:Nat) z,r≤i→i<k→(arrOf st')[lo+i]?=some z→L p z=true))
      (Q:=fun c st2=>∃ l,c=(none,l,l)∧st2=st'∧l≤k∧(∀ (i:Nat) z,i<l→(arrOf st')[lo+i]?=some z→L p z=false)∧(∀ (i:Nat) z,l≤i→i<k→(arrOf st')[lo+i]?=some z→L p z=true)) ?step2 ?fin2 ⟨0,k,rfl,rfl,Nat.zero_le _,Nat.le_refl _,Nat.le_refl _,(fun i z h=>absurd h (Nat.not_lt_zero _)),(fun i z h1 h2=>absurd h2 (by lia))⟩) ?post2)
    case fin2 =>
      rintro c st2 ⟨l,r,rfl,rfl,h1,h2,h3,h4,h5⟩
      have:l=r:=by lia
      subst this
      exact ⟨l,rfl,rfl,h2,h4,h5⟩
    case step2 =>
      rintro x c st2 _ hx ⟨l,r,rfl,rfl,h1,h2,h3,h4,h5⟩
      dsimp only
      by_cases hlr:l ≥ r
      · rw [if_pos hlr]
        have:l=r:=by lia
        subst this
        exact wpS_pure ⟨l,rfl,rfl,h2,h4,h5⟩
      · rw [if_neg hlr]
        obtain ⟨u,hu⟩:=has_at (st:=st2) (i:=lo+(l+r) / 2) (by lia)
        refine wpS_bind (wpS_at O sb.kind hp hu (sb.all _ _ hp) (sb.all _ _ hu) ?_)
        dsimp only
        by_cases hl:L p u=true
        · rw [if_pos hl]
          refine wpS_pure ⟨l,(l+r) / 2,rfl,rfl,by lia,by lia,by lia,h4,fun i z a1 a2 hz2=>?_⟩
          cases q:L p z with
          | true=>rfl
          | false =>
            have e1:=sg ((l+r) / 2) i u z a1 a2 hu hz2
            have e2:=O.tr u z p (sb.all _ _ hu) (sb.all _ _ hz2) (sb.all _ _ hp) e1 q
            rw [hl] at e2;cases e2
        · rw [if_neg hl]
          have hl':L p u=false:=by simpa using hl
          refine wpS_pure ⟨(l+r) / 2+1,r,rfl,rfl,by lia,by lia,by lia,fun i z a1 hz2=>?_,h5⟩
          have e1:=sg i ((l+r) / 2) z u (by lia) (by lia) hz2 hu
          exact O.tr z u p (sb.all _ _ hz2) (sb.all _ _ hu) (sb.all _ _ hp) e1 hl'
    case post2 =>
      rintro c st2 ⟨l,rfl,rfl,h2,h4,h5⟩
      dsimp only
      rw [moveDown'_eq]
      refine wpS_bind (wpS_modify (wpS_pure ⟨rfl,sb.bub (by lia) (by lia) (by lia) (by lia),by lia,?_⟩))
      exact sg.ins O sb.all h2 (by lia) hp h4 h5
end
end TS
set_option maxHeartbeats 8000000
namespace TS
open PySem PyProof.Rows
def wr (a:Array Keyed) (o:Nat) (l:List Keyed) (k:Nat):Array Keyed:=(l.zipIdx k).foldl (fun a (p:Keyed×Nat)=>a.setIfInBounds (o+p.2) p.1) a
theorem wr_get:∀ (l:List Keyed) (k:Nat) (a:Array Keyed) (o i:Nat),o+k+l.length≤a.size→(wr a o l k)[i]?=if o+k≤i∧i<o+k+l.length then l[i - (o+k)]? else a[i]?
  | [],k,a,o,i,_=>by
    show a[i]?=_
    rw [if_neg (by simp)]
  | x::l,k,a,o,i,hz=>by
    have ih:=wr_get l (k+1) (a.setIfInBounds (o+k) x) o i (by rw [Array.size_setIfInBounds];simp at hz;lia)
    unfold wr at ih ⊢
    rw [List.zipIdx_cons,List.foldl_cons,ih]
    simp only [List.length_cons] at hz ⊢
    by_cases h1:o+(k+1)≤i∧i<o+(k+1)+l.length
    · rw [if_pos h1,if_pos (by lia),show i - (o+k)=(i - (o+(k+1)))+1 by lia]
      rfl
    · rw [if_neg h1]
      by_cases h2:i=o+k
      · subst h2
        rw [if_pos (by lia),Nat.sub_self]
        rw [Array.getElem?_setIfInBounds_self_of_lt (by lia)]
        rfl
      · rw [if_neg (by lia),Array.getElem?_setIfInBounds_ne (Ne.symm h2)]
theorem wr_list {a:Array Keyed} {o:Nat} {l:List Keyed} (hz:o+l.length≤a.size):(wr a o l 0).toList=a.toList.take o++l++a.toList.drop (o+l.length):=by
  apply List.ext_getElem?
  intro i
  rw [Array.getElem?_toList,wr_get l 0 a o i (by simpa using hz)]
  have h1:(a.toList.take o).length=o:=by rw [List.length_take,Array.length_toList];lia
  by_cases c1:i<o
  · rw [if_neg (by lia),List.append_assoc,List.getElem?_append_left (by lia),List.getElem?_take,if_pos c1,Array.getElem?_toList]
  · by_cases c2:i<o+l.length
    · rw [if_pos (by lia),List.append_assoc,List.getElem?_append_right (by lia),List.getElem?_append_left (by lia),h1]
      rfl
    · rw [if_neg (by lia),List.getElem?_append_right (by simp;lia),List.getElem?_drop,← Array.getElem?_toList]
      congr 1
      simp
      lia
section
variable {M:Model} {A:Around} {E:Value→Shared→Prop} {s:Shared} {kd:SortKind} {S:Keyed→Prop} {L:Keyed→Keyed→Bool}
structure SM (kd:SortKind) (S:Keyed→Prop) (L:Keyed→Keyed→Bool) (st0 st:SortSt) (pd:Array (Nat×Nat×Nat)) (lo n:Nat):Prop where
  kind:kindOf st=kd
  pend:pendingOf st=pd
  fail:failedOf st=none
  perm:(arrOf st).Perm (arrOf st0)
  out:∀ k:Nat,k<lo∨lo+n≤k→(arrOf st)[k]?=(arrOf st0)[k]?
  all:∀ (k:Nat) x,(arrOf st)[k]?=some x→S x
  seg:Seg L (arrOf st) lo n
theorem Seg.glue {a:Array Keyed} (O:LtOk M A E s kd S L) {lo n m:Nat} (hS:∀ (k:Nat) x,a[k]?=some x→S x) (h1:Seg L a lo n) (h2:Seg L a (lo+n) m) (h:∀ x y,a[lo+(n - 1)]?=some x→a[lo+n]?=some y→L y x=false) (hn:0<n) (hz:lo+n+m≤a.size):Seg L a lo (n+m):=by
  intro i j x y hij hj hx hy
  rcases Nat.lt_or_ge j n with cj | cj
  · exact h1 i j x y hij cj hx hy
  · rw [show lo+j=lo+n+(j - n) by lia] at hy
    rcases Nat.lt_or_ge i n with ci | ci
    · have e1:a[lo+(n - 1)]?=some a[lo+(n - 1)]:=by rw [Array.getElem?_eq_getElem (by lia)]
      have e2:a[lo+n]?=some a[lo+n]:=by rw [Array.getElem?_eq_getElem (by lia)]
      have q1:=h1 i (n - 1) x _ (by lia) (by lia) hx e1
      have q2:=h _ _ e1 e2
      have q3:=h2 0 (j - n) _ y (Nat.zero_le _) (by lia) e2 hy
      exact O.tr x _ y (hS _ _ hx) (hS _ _ e1) (hS _ _ hy) q1 (O.tr _ _ y (hS _ _ e1) (hS _ _ e2) (hS _ _ hy) q2 q3)
    · rw [show lo+i=lo+n+(i - n) by lia] at hx
      exact h2 (i - n) (j - n) x y (by lia) (by lia) hx hy
theorem wpS_set {x:SortSt} {Q:PUnit→SortSt→Prop} {st:SortSt} (h:Q ⟨⟩ x):wpS M A E s (set x:StateT SortSt Sem PUnit) Q st:=by
  unfold wpS;rw [StateT.run_set];exact wpAny_pure ⟨rfl,h⟩
theorem ext_get {a:Array Keyed} {o n i:Nat} (hz:o+n≤a.size):(a.extract o (o+n))[i]?=if i<n then a[o+i]? else none:=by
  rw [Array.getElem?_extract]
  by_cases h:i<n
  · rw [if_pos h,if_pos (by lia)]
  · rw [if_neg h,if_neg (by lia)]
theorem seg_pair {a:Array Keyed} {o n:Nat} (hz:o+n≤a.size) (h:Seg L a o n):(a.extract o (o+n)).toList.Pairwise (leOf L):=by
  rw [List.pairwise_iff_getElem]
  intro i j hi hj hij
  rw [Array.length_toList,Array.size_extract] at hi hj
  have e1:(a.extract o (o+n))[i]?=some (a.extract o (o+n)).toList[i]:=by rw [← Array.getElem?_toList,List.getElem?_eq_getElem]
  have e2:(a.extract o (o+n))[j]?=some (a.extract o (o+n)).toList[j]:=by rw [← Array.getElem?_toList,List.getElem?_eq_getElem]
  rw [ext_get hz,if_pos (by lia)] at e1 e2
  exact h i j _ _ (by lia) (by lia) e1 e2
theorem ext_mem {a:Array Keyed} {o n:Nat} {x:Keyed} (hz:o+n≤a.size) (h:x∈(a.extract o (o+n)).toList):∃ i,i<n∧a[o+i]?=some x:=by
  obtain ⟨i,hi,e⟩:=List.getElem_of_mem h
  have e1:(a.extract o (o+n))[i]?=some x:=by rw [← Array.getElem?_toList,List.getElem?_eq_getElem hi,e]
  rw [Array.length_toList,Array.size_extract] at hi
  refine ⟨i,by lia,?_⟩
  rw [ext_get hz,if_pos (by lia)] at e1
  exact e1
theorem SM.write (O : LtOk M A E s kd S L) {st0 st : SortSt} {pd : Array (Nat × Nat × Nat)} {sa na nb k m : Nat} {r : Array Keyed} (hna : 1 ≤ na) (hk : k < na) (hm0 : 0 < m) (hm : m ≤ nb) (hz : sa + na + nb ≤ (arrOf st0).size) (hS : ∀ (k : Nat) x, (arrOf st0)[k]? = some x → S x)
    (sA:Seg L (arrOf st0) sa na) (sB:Seg L (arrOf st0) (sa+na) nb) (y0 z0:Keyed) (hy0:(arrOf st0)[sa+na]?=some y0) (hz0:(arrOf st0)[sa+(na - 1)]?=some z0)
    (A1:∀ (i:Nat) x,i<k→(arrOf st0)[sa+i]?=some x→L y0 x=false) (B2:∀ (i:Nat) y,m≤i→i<nb→(arrOf st0)[sa+na+i]?=some y→L y z0=false)
    (hr:Res (leOf L) ((arrOf st0).extract (sa+k) (sa+k+(na - k))).toList ((arrOf st0).extract (sa+na) (sa+na+m)).toList r.toList) (hkd:kindOf st=kd) (hp:pendingOf st=pd) (hf:failedOf st=none) (ha:arrOf st=wr (arrOf st0) (sa+k) r.toList 0) :
    SM kd S L st0 st pd sa (na+nb):=by
  obtain ⟨hperm,hpair⟩:=hr
  have hrl:r.toList.length=(na - k)+m:=by
    rw [hperm.length_eq,List.length_append,Array.length_toList,Array.length_toList,Array.size_extract,Array.size_extract];lia
  have hz2:sa+k+r.toList.length≤(arrOf st0).size:=by lia
  have get':∀ i:Nat,(arrOf st)[i]?=if sa+k≤i∧i<sa+k+r.toList.length then r.toList[i - (sa+k)]? else (arrOf st0)[i]?:=fun i=>by
    rw [ha,wr_get _ _ _ _ _ (by lia)]
    simp only [Nat.add_zero]
  have rmem:∀ x∈r.toList,(∃ i,k≤i∧i<na∧(arrOf st0)[sa+i]?=some x)∨(∃ i,i<m∧(arrOf st0)[sa+na+i]?=some x):=fun x hx=>by
    rcases List.mem_append.mp (hperm.mem_iff.mp hx) with q | q
    · obtain ⟨i,hi,e⟩:=ext_mem (by lia) q
      exact .inl ⟨k+i,by lia,by lia,by rw [show sa+(k+i)=sa+k+i by lia];exact e⟩
    · obtain ⟨i,hi,e⟩:=ext_mem (by lia) q
      exact .inr ⟨i,hi,e⟩
  have y0le:∀ (i:Nat) y,i<nb→(arrOf st0)[sa+na+i]?=some y→L y y0=false:=fun i y hi hy=>sB 0 i y0 y (Nat.zero_le _) hi (by simpa using hy0) hy
  have lez0:∀ (i:Nat) x,i<na→(arrOf st0)[sa+i]?=some x→L z0 x=false:=fun i x hi hx=>sA i (na - 1) x z0 (by lia) (by lia) hx hz0
  refine ⟨hkd,hp,hf,?_,fun i hi=>?_,fun i x hx=>?_,fun i j x y hij hj hx hy=>?_⟩
  · rw [ha]
    refine Array.perm_iff_toList_perm.mpr ?_
    rw [wr_list hz2]
    have e:(arrOf st0).toList=(arrOf st0).toList.take (sa+k)++(((arrOf st0).extract (sa+k) (sa+k+(na - k))).toList++((arrOf st0).extract (sa+na) (sa+na+m)).toList)++(arrOf st0).toList.drop (sa+k+r.toList.length):=by
      rw [toList_cut,toList_cut]
      have d1:=List.take_append_drop (sa+k) (arrOf st0).toList
      have d2:=drop_split (arrOf st0).toList (sa+k) (na - k)
      have d3:=drop_split (arrOf st0).toList (sa+na) m
      rw [show sa+k+(na - k)=sa+na by lia] at d2
      rw [show sa+k+r.toList.length=sa+na+m by lia,List.append_assoc,List.append_assoc,← d3,← d2,d1]
    conv=>rhs;rw [e]
    exact (hperm.append_left _).append_right _
  · rw [get',if_neg (by lia)]
  · rw [get'] at hx
    split at hx
    · rcases rmem x (List.mem_of_getElem? hx) with ⟨_,_,_,e⟩ | ⟨_,_,e⟩
      · exact hS _ _ e
      · exact hS _ _ e
    · exact hS _ _ hx
  · rw [get'] at hx hy
    by_cases ci:sa+k≤sa+i∧sa+i<sa+k+r.toList.length
    · rw [if_pos ci] at hx
      by_cases cj:sa+k≤sa+j∧sa+j<sa+k+r.toList.length
      · rw [if_pos cj] at hy
        rcases Nat.lt_or_ge i j with q | q
        · have h1:sa+i - (sa+k)<r.toList.length:=by lia
          have h2:sa+j - (sa+k)<r.toList.length:=by lia
          rw [List.getElem?_eq_getElem h1] at hx
          rw [List.getElem?_eq_getElem h2] at hy
          have:=List.pairwise_iff_getElem.mp hpair _ _ h1 h2 (by lia)
          rw [Option.some.inj hx,Option.some.inj hy] at this
          exact this
        · have e:i=j:=by lia
          subst e
          rw [hx] at hy;cases hy
          rcases rmem x (List.mem_of_getElem? hx) with ⟨_,_,_,e⟩ | ⟨_,_,e⟩
          · exact O.rf (hS _ _ e)
          · exact O.rf (hS _ _ e)
      · rw [if_neg cj,show sa+j=sa+na+(j - na) by lia] at hy
        have q1:=B2 (j - na) y (by lia) (by lia) hy
        rcases rmem x (List.mem_of_getElem? hx) with ⟨t,_,h2,e⟩ | ⟨t,h2,e⟩
        · exact O.tr x z0 y (hS _ _ e) (hS _ _ hz0) (hS _ _ hy) (lez0 t x h2 e) q1
        · exact sB t (j - na) x y (by lia) (by lia) e hy
    · rw [if_neg ci] at hx
      by_cases cj:sa+k≤sa+j∧sa+j<sa+k+r.toList.length
      · rw [if_pos cj] at hy
        rcases rmem y (List.mem_of_getElem? hy) with ⟨t,h1,h2,e⟩ | ⟨t,h2,e⟩
        · exact sA i t x y (by lia) h2 hx e
        · exact O.tr x y0 y (hS _ _ hx) (hS _ _ hy0) (hS _ _ e) (A1 i x (by lia) hx) (y0le t y (by lia) e)
      · rw [if_neg cj] at hy
        rcases Nat.lt_or_ge i k with ck | ck
        · rcases Nat.lt_or_ge j k with cl | cl
          · exact sA i j x y hij (by lia) hx hy
          · rw [show sa+j=sa+na+(j - na) by lia] at hy
            exact O.tr x y0 y (hS _ _ hx) (hS _ _ hy0) (hS _ _ hy) (A1 i x ck hx) (y0le (j - na) y (by lia) hy)
        · rw [show sa+i=sa+na+(i - na) by lia] at hx
          rw [show sa+j=sa+na+(j - na) by lia] at hy
          exact sB (i - na) (j - na) x y (by lia) (by lia) hx hy
theorem mergeAt_spec (O : LtOk M A E s kd S L) {st : SortSt} {i sa na pw nb pw2 : Nat} {Q : Bool → SortSt → Prop} (h1 : (pendingOf st)[i]? = some (sa, na, pw)) (h2 : (pendingOf st)[i + 1]? = some (sa + na, nb, pw2)) (hna : 1 ≤ na) (hnb : 1 ≤ nb) (hz : sa + na + nb ≤ (arrOf st).size)
    (hk:kindOf st=kd) (hf:failedOf st=none) (hS:∀ (k:Nat) x,(arrOf st)[k]?=some x→S x) (sA:Seg L (arrOf st) sa na) (sB:Seg L (arrOf st) (sa+na) nb)
    (hQ:∀ st',SM kd S L st st' (((pendingOf st).setIfInBounds i (sa,na+nb,pw)).eraseIdxIfInBounds (i+1)) sa (na+nb)→Q true st'):wpS M A E s (mergeAt' i) Q st:=by
  refine wpS_bind (wpS_get ?_)
  rw [h1,h2]
  dsimp only
  refine wpS_bind (wpS_set ?_)
  obtain ⟨y0,hy0⟩:=has_at (st:=st) (i:=sa+na) (by lia)
  obtain ⟨z0,hz0⟩:=has_at (st:=st) (i:=sa+(na - 1)) (by lia)
  refine wpS_bind (wpS_elem hy0 ?_)
  have Sy:=hS _ _ hy0
  refine wpS_bind (gallop_spec O (left:=false) (b:=fun i=>match (arrOf st)[sa+i]? with | some x=>!L y0 x | none=>false) hk Sy (fun i hi=>?_) (fun i j hij hj hb=>?_) (by lia) (fun k hkn kt kf=>?_))
  · obtain ⟨x,hx⟩:=has_at (st:=st) (i:=sa+i) (by lia)
    refine ⟨x,hx,hS _ _ hx,?_⟩
    simp only [hx]
    rfl
  · obtain ⟨x,hx⟩:=has_at (st:=st) (i:=sa+i) (by lia)
    obtain ⟨y,hy⟩:=has_at (st:=st) (i:=sa+j) (by lia)
    simp only [hx,hy] at hb ⊢
    have e1:=sA i j x y hij hj hx hy
    have e2:L y0 y=false:=by simpa using hb
    rw [O.tr x y y0 (hS _ _ hx) (hS _ _ hy) Sy e1 e2];rfl
  have A1:∀ (i:Nat) x,i<k→(arrOf st)[sa+i]?=some x→L y0 x=false:=fun i x hi hx=>by
    have:=kt i hi
    simp only [hx] at this
    simpa using this
  have A2:∀ (i:Nat) x,k≤i→i<na→(arrOf st)[sa+i]?=some x→L y0 x=true:=fun i x h3 h4 hx=>by
    have:=kf i h3 h4
    simp only [hx] at this
    simpa using this
  dsimp only
  by_cases hk0:(na - k == 0)=true
  · rw [if_pos hk0]
    have ek : k = na := by have : na - k = 0 := by simpa using hk0
                           lia
    refine wpS_pure (hQ _ ⟨hk,rfl,hf,Array.Perm.refl _,fun _ _=>rfl,hS,sA.glue O hS sB (fun x y hx hy=>?_) (by lia) hz⟩)
    rw [hy0] at hy;cases hy
    exact A1 (na - 1) x (by lia) hx
  · rw [if_neg hk0]
    have hkl : k < na := by have : na - k ≠ 0 := by simpa using hk0
                            lia
    have hz0':(arrOf st)[sa+k+(na - k) - 1]?=some z0:=by rw [show sa+k+(na - k) - 1=sa+(na - 1) by lia];exact hz0
    refine wpS_bind (wpS_elem hz0' ?_)
    have Sz:=hS _ _ hz0
    refine wpS_bind (gallop_spec O (left:=true) (b:=fun i=>match (arrOf st)[sa+na+i]? with | some x=>L x z0 | none=>false) hk Sz (fun i hi=>?_) (fun i j hij hj hb=>?_) (by lia) (fun m hmn mt mf=>?_))
    · obtain ⟨x,hx⟩:=has_at (st:=st) (i:=sa+na+i) (by lia)
      refine ⟨x,hx,hS _ _ hx,?_⟩
      simp only [hx]
      rfl
    · obtain ⟨x,hx⟩:=has_at (st:=st) (i:=sa+na+i) (by lia)
      obtain ⟨y,hy⟩:=has_at (st:=st) (i:=sa+na+j) (by lia)
      simp only [hx,hy] at hb ⊢
      have e1:=sB i j x y hij hj hx hy
      cases q:L x z0 with
      | true=>rfl
      | false =>
        have:=O.tr z0 x y Sz (hS _ _ hx) (hS _ _ hy) q e1
        rw [hb] at this;cases this
    have B1:∀ (i:Nat) y,i<m→(arrOf st)[sa+na+i]?=some y→L y z0=true:=fun i y hi hy=>by
      have:=mt i hi
      simp only [hy] at this
      exact this
    have B2:∀ (i:Nat) y,m≤i→i<nb→(arrOf st)[sa+na+i]?=some y→L y z0=false:=fun i y h3 h4 hy=>by
      have:=mf i h3 h4
      simp only [hy] at this
      exact this
    dsimp only
    have y0z:L y0 z0=true:=A2 (na - 1) z0 (by lia) (by lia) hz0
    have hm0:0<m:=by
      rcases Nat.eq_zero_or_pos m with q | q
      · have:=B2 0 y0 (by lia) (by lia) (by simpa using hy0)
        rw [y0z] at this;cases this
      · exact q
    rw [if_neg (by simp;lia)]
    have exA:sa+na=sa+k+(na - k):=by lia
    have hX:((arrOf st).extract (sa+k) (sa+na))=(arrOf st).extract (sa+k) (sa+k+(na - k)):=by rw [← exA]
    have sA':Seg L (arrOf st) (sa+k) (na - k):=fun i j x y hij hj hx hy=>sA (k+i) (k+j) x y (by lia) (by lia) (by rw [show sa+(k+i)=sa+k+i by lia];exact hx) (by rw [show sa+(k+j)=sa+k+j by lia];exact hy)
    have sB':Seg L (arrOf st) (sa+na) m:=fun i j x y hij hj hx hy=>sB i j x y hij (by lia) hx hy
    have T:Two S L ((arrOf st).extract (sa+k) (sa+k+(na - k))) ((arrOf st).extract (sa+na) (sa+na+m)):=⟨seg_pair (by lia) sA',seg_pair (by lia) sB',(fun x hx=>by obtain ⟨i,_,e⟩:=ext_mem (by lia) hx;exact hS _ _ e),(fun x hx=>by obtain ⟨i,_,e⟩:=ext_mem (by lia) hx;exact hS _ _ e)⟩
    have zA:0<((arrOf st).extract (sa+k) (sa+k+(na - k))).size:=by rw [Array.size_extract];lia
    have zB:0<((arrOf st).extract (sa+na) (sa+na+m)).size:=by rw [Array.size_extract];lia
    have c0:∀ y,((arrOf st).extract (sa+na) (sa+na+m))[0]?=some y→∀ x∈((arrOf st).extract (sa+k) (sa+k+(na - k))).toList,leOf L y x:=fun y hy x hx=>by
      rw [ext_get (by lia),if_pos hm0] at hy
      rw [Nat.add_zero,hy0] at hy;cases hy
      obtain ⟨i,hi,e⟩:=ext_mem (by lia) hx
      exact O.as y0 x Sy (hS _ _ e) (A2 (k+i) x (by lia) (by lia) (by rw [show sa+(k+i)=sa+k+i by lia];exact e))
    have c1:∀ z,((arrOf st).extract (sa+k) (sa+k+(na - k)))[((arrOf st).extract (sa+k) (sa+k+(na - k))).size - 1]?=some z→∀ x∈((arrOf st).extract (sa+na) (sa+na+m)).toList,leOf L x z:=fun z hz' x hx=>by
      have es:((arrOf st).extract (sa+k) (sa+k+(na - k))).size=na - k:=by rw [Array.size_extract];lia
      rw [es,ext_get (by lia),if_pos (by lia),show sa+k+(na - k - 1)=sa+(na - 1) by lia,hz0] at hz'
      cases hz'
      obtain ⟨i,hi,e⟩:=ext_mem (by lia) hx
      exact O.as x z0 (hS _ _ e) Sz (B1 i x hi e)
    by_cases hle:na - k≤m
    · rw [if_pos hle]
      refine wpS_bind ?_
      show wpS M A E s (mergeLo' ((arrOf st).extract (sa+k) (sa+na)) ((arrOf st).extract (sa+na) (sa+na+m))) _ _
      rw [hX]
      refine mergeLo_spec O T hk zA zB c0 c1 fun r st2 hr hlk=>?_
      refine wpS_bind (wpS_modify (wpS_bind (wpS_get (wpS_pure ?_))))
      have hf2:failedOf st2=none:=by rw [hlk.2.2.2];exact hf
      have:=hQ (setArr st2 (wr (arrOf st) (sa+k) r.toList 0)) (SM.write O hna hkl hm0 hmn hz hS sA sB y0 z0 hy0 hz0 A1 B2 hr (by show kindOf st2=kd;rw [hlk.1];exact hk) (by show pendingOf st2=_;rw [hlk.2.2.1]) hf2 rfl)
      have ea:arrOf st2=arrOf st:=hlk.2.1
      rw [← ea] at this
      show Q (failedOf st2).isNone _
      rw [hf2]
      exact this
    · rw [if_neg hle]
      refine wpS_bind ?_
      show wpS M A E s (mergeHi' ((arrOf st).extract (sa+k) (sa+na)) ((arrOf st).extract (sa+na) (sa+na+m))) _ _
      rw [hX]
      refine mergeHi_spec O T hk zA zB c0 c1 fun r st2 hr hlk=>?_
      refine wpS_bind (wpS_modify (wpS_bind (wpS_get (wpS_pure ?_))))
      have hf2:failedOf st2=none:=by rw [hlk.2.2.2];exact hf
      have:=hQ (setArr st2 (wr (arrOf st) (sa+k) r.toList 0)) (SM.write O hna hkl hm0 hmn hz hS sA sB y0 z0 hy0 hz0 A1 B2 hr (by show kindOf st2=kd;rw [hlk.1];exact hk) (by show pendingOf st2=_;rw [hlk.2.2.1]) hf2 rfl)
      have ea:arrOf st2=arrOf st:=hlk.2.1
      rw [← ea] at this
      show Q (failedOf st2).isNone _
      rw [hf2]
      exact this
end
end TS
set_option maxHeartbeats 8000000
namespace TS
open PySem PyProof.Rows
abbrev Run:=Nat×Nat×Nat
section
variable {M:Model} {A:Around} {E:Value→Shared→Prop} {s:Shared} {kd:SortKind} {S:Keyed→Prop} {L:Keyed→Keyed→Bool}
def Runs (L:Keyed→Keyed→Bool) (a:Array Keyed):List Run→Nat→Nat→Prop
  | [],x,y=>x=y
  | r::l,x,y=>r.1=x∧1≤r.2.1∧Seg L a r.1 r.2.1∧Runs L a l (x+r.2.1) y
theorem Runs.le {a:Array Keyed}:∀ {l:List Run} {x y:Nat},Runs L a l x y→x+l.length≤y
  | [],x,y,h=>by have:x=y:=h;simp;lia
  | r::l,x,y,h=>by
    have:=Runs.le h.2.2.2
    have:=h.2.1
    simp only [List.length_cons];lia
theorem Seg.cong {a b:Array Keyed} {lo n:Nat} (h:Seg L a lo n) (e:∀ k:Nat,lo≤k→k<lo+n→b[k]?=a[k]?):Seg L b lo n:=fun i j x y hij hj hx hy =>
  h i j x y hij hj (by rw [← e _ (by lia) (by lia)];exact hx) (by rw [← e _ (by lia) (by lia)];exact hy)
theorem Runs.cong {a b:Array Keyed}:∀ {l:List Run} {x y:Nat},Runs L a l x y→(∀ k:Nat,x≤k→k<y→b[k]?=a[k]?)→Runs L b l x y
  | [],_,_,h,_=>h
  | r::l,x,y,h,e=>by
    have hl:=h.2.2.2.le
    have h1:=h.1
    exact ⟨h.1,h.2.1,h.2.2.1.cong fun k h2 h3=>e k (by lia) (by lia),Runs.cong h.2.2.2 fun k h2 h3=>e k (by lia) h3⟩
theorem Runs.snoc {a:Array Keyed}:∀ {l:List Run} {x y n pw:Nat},Runs L a l x y→1≤n→Seg L a y n→Runs L a (l++[(y,n,pw)]) x (y+n)
  | [],x,y,n,pw,h,hn,hs=>by
    have:x=y:=h
    subst this
    exact ⟨rfl,hn,hs,rfl⟩
  | r::l,x,y,n,pw,h,hn,hs=>⟨h.1,h.2.1,h.2.2.1,Runs.snoc h.2.2.2 hn hs⟩
theorem Runs.pair {a : Array Keyed} : ∀ {l : List Run} {x y i sa na pw sb nb pw2 : Nat}, Runs L a l x y → l[i]? = some (sa, na, pw) → l[i + 1]? = some (sb, nb, pw2) →
    sb=sa+na∧1≤na∧1≤nb∧x≤sa∧sa+na+nb≤y∧Seg L a sa na∧Seg L a (sa+na) nb ∧
    ∀ b:Array Keyed,(∀ k:Nat,k<sa∨sa+na+nb≤k→b[k]?=a[k]?)→Seg L b sa (na+nb)→Runs L b ((l.set i (sa,na+nb,pw)).eraseIdx (i+1)) x y
  | [],_,_,_,_,_,_,_,_,_,_,h1,_=>by simp at h1
  | [_],_,_,i,_,_,_,_,_,_,_,_,h2=>by simp at h2
  | r::q::l,x,y,0,sa,na,pw,sb,nb,pw2,h,h1,h2=>by
    have e1:r=(sa,na,pw):=Option.some.inj h1
    have e2:q=(sb,nb,pw2):=Option.some.inj h2
    subst e1;subst e2
    obtain ⟨a1,a2,a3,b1,b2,b3,hr⟩:=h
    simp only at a1 a2 a3 b1 b2 b3 hr
    subst a1
    have hl:=hr.le
    refine ⟨b1,a2,b2,Nat.le_refl _,by lia,a3,by rw [← b1];exact b3,fun b hb hs=>⟨rfl,by show 1≤na+nb;lia,hs,?_⟩⟩
    show Runs L b l (sa+(na+nb)) y
    rw [show sa+(na+nb)=sa+na+nb by lia]
    exact hr.cong fun k h3 h4=>hb k (.inr h3)
  | r::q::l,x,y,i+1,sa,na,pw,sb,nb,pw2,h,h1,h2=>by
    obtain ⟨a1,a2,a3,hr⟩:=h
    obtain ⟨c1,c2,c3,c4,c5,c6,c7,c8⟩:=Runs.pair hr (i:=i) (by simpa using h1) (by simpa using h2)
    refine ⟨c1,c2,c3,by lia,c5,c6,c7,fun b hb hs=>⟨a1,a2,a3.cong fun k h3 h4=>hb k (.inl (by lia)),?_⟩⟩
    exact c8 b hb hs
theorem Runs.power {a:Array Keyed}:∀ {l:List Run} {x y:Nat} (f:Run→Run) (i:Nat),(∀ r,(f r).1=r.1∧(f r).2.1=r.2.1)→Runs L a l x y→Runs L a (l.modify i f) x y
  | [],_,_,f,i,_,h=>by cases i <;> exact h
  | r::l,x,y,f,0,hf,h=>by
    refine ⟨by rw [(hf r).1];exact h.1,by rw [(hf r).2];exact h.2.1,by rw [(hf r).1,(hf r).2];exact h.2.2.1,?_⟩
    show Runs L a l (x+(f r).2.1) y
    rw [(hf r).2];exact h.2.2.2
  | r::l,x,y,f,i+1,hf,h=>⟨h.1,h.2.1,h.2.2.1,Runs.power f i hf h.2.2.2⟩
structure PD (kd:SortKind) (S:Keyed→Prop) (L:Keyed→Keyed→Bool) (a0:Array Keyed) (st:SortSt) (lo:Nat):Prop where
  kind:kindOf st=kd
  fail:failedOf st=none
  perm:(arrOf st).Perm a0
  all:∀ (k:Nat) x,(arrOf st)[k]?=some x→S x
  runs:Runs L (arrOf st) (pendingOf st).toList 0 lo
theorem PD.size {a0:Array Keyed} {st:SortSt} {lo:Nat} (h:PD kd S L a0 st lo):(arrOf st).size=a0.size:=h.perm.size_eq
theorem PD.merge (O : LtOk M A E s kd S L) {a0 : Array Keyed} {st : SortSt} {lo i : Nat} {Q : Bool → SortSt → Prop} (h : PD kd S L a0 st lo) (hlo : lo ≤ a0.size) (hi : i + 1 < (pendingOf st).size)
    (hQ:∀ st',PD kd S L a0 st' lo→(pendingOf st').size+1=(pendingOf st).size→(∀ k:Nat,lo≤k→(arrOf st')[k]?=(arrOf st)[k]?)→Q true st'):wpS M A E s (mergeAt' i) Q st:=by
  obtain ⟨⟨sa,na,pw⟩,h1⟩:∃ r,(pendingOf st)[i]?=some r:=⟨_,Array.getElem?_eq_getElem (by lia)⟩
  obtain ⟨⟨sb,nb,pw2⟩,h2⟩:∃ r,(pendingOf st)[i+1]?=some r:=⟨_,Array.getElem?_eq_getElem hi⟩
  obtain ⟨c1,c2,c3,c4,c5,c6,c7,c8⟩:=h.runs.pair (i:=i) (by rw [Array.getElem?_toList];exact h1) (by rw [Array.getElem?_toList];exact h2)
  subst c1
  refine mergeAt_spec O h1 h2 c2 c3 (by rw [h.size];lia) h.kind h.fail h.all c6 c7 fun st' sm=>hQ st' ⟨sm.kind,sm.fail,sm.perm.trans h.perm,sm.all,?_⟩ ?_ fun k hk=>sm.out k (by lia)
  · rw [sm.pend]
    have e:(((pendingOf st).setIfInBounds i (sa,na+nb,pw)).eraseIdxIfInBounds (i+1)).toList=((pendingOf st).toList.set i (sa,na+nb,pw)).eraseIdx (i+1):=by simp
    rw [e]
    exact c8 _ (fun k hk=>sm.out k (by lia)) sm.seg
  · rw [sm.pend]
    have e:(((pendingOf st).setIfInBounds i (sa,na+nb,pw)).eraseIdxIfInBounds (i+1)).toList=((pendingOf st).toList.set i (sa,na+nb,pw)).eraseIdx (i+1):=by simp
    have e2:=congrArg List.length e
    rw [List.length_eraseIdx_of_lt (by rw [List.length_set,Array.length_toList];exact hi),List.length_set,Array.length_toList,Array.length_toList] at e2
    lia
theorem sortRuns_spec (O : LtOk M A E s kd S L) {st : SortSt} {Q : Unit → SortSt → Prop} (h2 : 2 ≤ (arrOf st).size) (hk : kindOf st = kd) (hp : pendingOf st = #[]) (hf : failedOf st = none) (hS : ∀ (k : Nat) x, (arrOf st)[k]? = some x → S x)
    (hQ:∀ st',(arrOf st').Perm (arrOf st)→failedOf st'=none→Seg L (arrOf st') 0 (arrOf st).size→Q () st'):wpS M A E s sortRuns' Q st:=by
  rw [sortRuns'_eq]
  refine wpS_bind (wpS_get ?_)
  dsimp only
  have pd0:PD kd S L (arrOf st) st 0:=⟨hk,hf,Array.Perm.refl _,hS,by rw [hp];rfl⟩
  generalize ha0:arrOf st=a0 at h2 pd0 hQ
  refine wpS_bind (wpS_mono (wpS_forRange (I:=fun x c st'=>∃ lo,c=(none,lo)∧(x≤lo∨a0.size≤lo)∧lo≤a0.size∧PD kd S L a0 st' lo)
    (Q:=fun c st'=>c=(none,a0.size)∧PD kd S L a0 st' a0.size) ?step ?fin ⟨0,rfl,.inl (Nat.le_refl _),Nat.zero_le _,pd0⟩) ?post)
  case fin =>
    rintro c st' ⟨lo,rfl,h3,h4,pd⟩
    have:lo=a0.size:=by lia
    subst this
    exact ⟨rfl,pd⟩
  case step =>
    rintro x c st' _ hx ⟨lo,rfl,h3,h4,pd⟩
    dsimp only
    by_cases hge:lo ≥ a0.size
    · rw [if_pos hge]
      have:lo=a0.size:=by lia
      subst this
      exact wpS_pure ⟨rfl,pd⟩
    · rw [if_neg hge]
      refine wpS_bind (countRun_spec O (by lia) (by rw [pd.size];lia) pd.kind pd.all fun m st1 sb1 hm1 hm2 sg1=>?_)
      dsimp only
      have pd1:PD kd S L a0 st1 lo:=⟨sb1.kind,by rw [sb1.fail];exact pd.fail,sb1.perm.trans pd.perm,sb1.all,by rw [sb1.pend];exact pd.runs.cong fun k _ h5=>sb1.out k (.inl h5)⟩
      by_cases hlt:m<minRun' a0.size a0.size 0
      · rw [if_pos hlt]
        refine wpS_bind (wpS_lift (wpAny_rule ⟨rfl,?_⟩))
        refine wpS_bind (binarySort_spec O hm1 (by lia) (by rw [pd1.size];lia) pd1.kind pd1.all sg1 fun st2 sb2 sg2=>?_)
        try dsimp only
        rw [if_neg (by decide)]
        have pdX:PD kd S L a0 st2 lo:=⟨sb2.kind,by rw [sb2.fail];exact pd1.fail,sb2.perm.trans pd1.perm,sb2.all,by rw [sb2.pend];exact pd1.runs.cong fun k _ h5=>sb2.out k (.inl h5)⟩
        have sgX:=sg2
        refine wpS_bind (wpS_get ?_)
        cases hb:(pendingOf st2).back? with
        | none =>
          try dsimp only
          refine wpS_bind (wpS_modify (wpS_pure ⟨lo+min (a0.size - lo) (minRun' a0.size a0.size 0),rfl,.inl (by lia),by lia,?_⟩))
          refine ⟨pdX.kind,pdX.fail,pdX.perm,pdX.all,?_⟩
          show Runs L (arrOf st2) ((pendingOf st2).push (lo,min (a0.size - lo) (minRun' a0.size a0.size 0),0)).toList 0 (lo+min (a0.size - lo) (minRun' a0.size a0.size 0))
          rw [Array.toList_push]
          exact pdX.runs.snoc (by lia) sgX
        | some r =>
          obtain ⟨s1,n1,p1⟩:=r
          try dsimp only
          refine wpS_bind (wpS_mono (wpS_forRange (I:=fun y c st3=>c=(none,())∧PD kd S L a0 st3 lo∧Seg L (arrOf st3) lo (min (a0.size - lo) (minRun' a0.size a0.size 0))) (Q:=fun c st3=>c=(none,())∧PD kd S L a0 st3 lo∧Seg L (arrOf st3) lo (min (a0.size - lo) (minRun' a0.size a0.size 0))) ?stepI ?finI ⟨rfl,pdX,sgX⟩) ?postI)
          case finI =>
            rintro c st3 hh
            exact hh
          case stepI =>
            rintro y c st3 _ _ ⟨rfl,pd3,sg3⟩
            refine wpS_bind (wpS_get ?_)
            by_cases hsz:(pendingOf st3).size > 1
            · rw [if_pos hsz]
              obtain ⟨⟨u1,u2,older⟩,hu⟩:∃ r,(pendingOf st3)[(pendingOf st3).size - 2]?=some r:=⟨_,Array.getElem?_eq_getElem (by lia)⟩
              rw [hu]
              try dsimp only
              by_cases hol:older≤power' a0.size (2*s1+n1) (2*s1+n1+n1+min (a0.size - lo) (minRun' a0.size a0.size 0)) a0.size
              · rw [if_pos hol]
                exact wpS_pure ⟨rfl,pd3,sg3⟩
              · rw [if_neg hol]
                refine wpS_bind (pd3.merge O (by lia) (by lia) fun st4 pd4 _ ho=>?_)
                try dsimp only
                rw [if_neg (by decide)]
                exact wpS_pure ⟨rfl,pd4,sg3.cong fun k h5 _=>ho k h5⟩
            · rw [if_neg hsz]
              exact wpS_pure ⟨rfl,pd3,sg3⟩
          case postI =>
            rintro c st3 ⟨rfl,pd3,sg3⟩
            try dsimp only
            refine wpS_bind (wpS_modify (wpS_bind (wpS_modify (wpS_pure ⟨lo+min (a0.size - lo) (minRun' a0.size a0.size 0),rfl,.inl (by lia),by lia,?_⟩))))
            refine ⟨pd3.kind,pd3.fail,pd3.perm,pd3.all,?_⟩
            show Runs L (arrOf st3) (((pendingOf st3).modify ((pendingOf st3).size - 1) _).push (lo,min (a0.size - lo) (minRun' a0.size a0.size 0),0)).toList 0 (lo+min (a0.size - lo) (minRun' a0.size a0.size 0))
            rw [Array.toList_push,Array.toList_modify]
            refine Runs.snoc (Runs.power _ _ ?_ pd3.runs) (by lia) sg3
            exact fun r=>⟨rfl,rfl⟩
      · rw [if_neg hlt]
        have pdX:=pd1
        have sgX:=sg1
        refine wpS_bind (wpS_get ?_)
        cases hb:(pendingOf st1).back? with
        | none =>
          try dsimp only
          refine wpS_bind (wpS_modify (wpS_pure ⟨lo+m,rfl,.inl (by lia),by lia,?_⟩))
          refine ⟨pdX.kind,pdX.fail,pdX.perm,pdX.all,?_⟩
          show Runs L (arrOf st1) ((pendingOf st1).push (lo,m,0)).toList 0 (lo+m)
          rw [Array.toList_push]
          exact pdX.runs.snoc (by lia) sgX
        | some r =>
          obtain ⟨s1,n1,p1⟩:=r
          try dsimp only
          refine wpS_bind (wpS_mono (wpS_forRange (I:=fun y c st3=>c=(none,())∧PD kd S L a0 st3 lo∧Seg L (arrOf st3) lo (m)) (Q:=fun c st3=>c=(none,())∧PD kd S L a0 st3 lo∧Seg L (arrOf st3) lo (m)) ?stepI ?finI ⟨rfl,pdX,sgX⟩) ?postI)
          case finI =>
            rintro c st3 hh
            exact hh
          case stepI =>
            rintro y c st3 _ _ ⟨rfl,pd3,sg3⟩
            refine wpS_bind (wpS_get ?_)
            by_cases hsz:(pendingOf st3).size > 1
            · rw [if_pos hsz]
              obtain ⟨⟨u1,u2,older⟩,hu⟩:∃ r,(pendingOf st3)[(pendingOf st3).size - 2]?=some r:=⟨_,Array.getElem?_eq_getElem (by lia)⟩
              rw [hu]
              try dsimp only
              by_cases hol:older≤power' a0.size (2*s1+n1) (2*s1+n1+n1+m) a0.size
              · rw [if_pos hol]
                exact wpS_pure ⟨rfl,pd3,sg3⟩
              · rw [if_neg hol]
                refine wpS_bind (pd3.merge O (by lia) (by lia) fun st4 pd4 _ ho=>?_)
                try dsimp only
                rw [if_neg (by decide)]
                exact wpS_pure ⟨rfl,pd4,sg3.cong fun k h5 _=>ho k h5⟩
            · rw [if_neg hsz]
              exact wpS_pure ⟨rfl,pd3,sg3⟩
          case postI =>
            rintro c st3 ⟨rfl,pd3,sg3⟩
            try dsimp only
            refine wpS_bind (wpS_modify (wpS_bind (wpS_modify (wpS_pure ⟨lo+m,rfl,.inl (by lia),by lia,?_⟩))))
            refine ⟨pd3.kind,pd3.fail,pd3.perm,pd3.all,?_⟩
            show Runs L (arrOf st3) (((pendingOf st3).modify ((pendingOf st3).size - 1) _).push (lo,m,0)).toList 0 (lo+m)
            rw [Array.toList_push,Array.toList_modify]
            refine Runs.snoc (Runs.power _ _ ?_ pd3.runs) (by lia) sg3
            exact fun r=>⟨rfl,rfl⟩
  case post =>
    rintro c st1 ⟨rfl,pd1⟩
    try dsimp only
    have hlen:(pendingOf st1).size≤a0.size:=by
      have:=pd1.runs.le
      rw [Array.length_toList] at this
      lia
    refine wpS_bind (wpS_mono (wpS_forRange (I:=fun x c st2=>c=(none,())∧PD kd S L a0 st2 a0.size∧((pendingOf st2).size+x≤a0.size+1))
      (Q:=fun c st2=>c=(none,())∧PD kd S L a0 st2 a0.size∧(pendingOf st2).size≤1) ?step ?fin ⟨rfl,pd1,by lia⟩) ?post)
    case fin =>
      rintro c st2 ⟨rfl,pd2,h5⟩
      exact ⟨rfl,pd2,by lia⟩
    case step =>
      rintro x c st2 _ hx ⟨rfl,pd2,h5⟩
      refine wpS_bind (wpS_get ?_)
      try dsimp only
      by_cases hle:(pendingOf st2).size≤1
      · rw [if_pos hle]
        exact wpS_pure ⟨rfl,pd2,hle⟩
      · rw [if_neg hle]
        refine wpS_bind (pd2.merge O (Nat.le_refl _) ?_ fun st3 pd3 hs3 _=>?_)
        · have le':∀ (c:Prop) [Decidable c] (p q:Nat),(if c then p else q)≤max p q:=fun c _ p q=>by split <;> lia
          have:=le' (Option.any (fun x=>decide (x<(pendingOf st2)[(pendingOf st2).size - 2+1]?.elim 0 fun x=>x.snd.fst)) (if (pendingOf st2).size - 2 > 0 then Option.map (fun x=>x.snd.fst) (pendingOf st2)[(pendingOf st2).size - 2 - 1]? else none)=true) ((pendingOf st2).size - 2 - 1) ((pendingOf st2).size - 2)
          lia
        · try dsimp only
          rw [if_neg (by decide)]
          exact wpS_pure ⟨rfl,pd3,by lia⟩
    case post =>
      rintro c st2 ⟨rfl,pd2,h5⟩
      refine wpS_pure (hQ st2 pd2.perm pd2.fail ?_)
      have hr:=pd2.runs
      cases hl:(pendingOf st2).toList with
      | nil =>
        rw [hl] at hr
        have:0=a0.size:=hr
        lia
      | cons r l =>
        have hll:(pendingOf st2).toList.length≤1:=by rw [Array.length_toList];exact h5
        rw [hl] at hll hr
        have:l=[]:=List.length_eq_zero_iff.mp (by simp at hll;simpa using hll)
        subst this
        obtain ⟨c1,c2,c3,c4⟩:=hr
        have c4':0+r.2.1=a0.size:=c4
        rw [c1,show r.2.1=a0.size by lia] at c3
        exact c3
end
end TS
namespace L2
open PySem PySem.Spec PyProof.Rows
theorem perm_map_inv {α β:Type} {f:α→β} {xs ys:List β} (p:ys.Perm xs):∀ {l:List α},xs=l.map f→∃ l':List α,l'.Perm l∧ys=l'.map f:=by
  induction p with
  | nil=>intro l h;exact ⟨l,List.Perm.refl _,h⟩
  | cons v _ ih =>
    intro l h
    match l,h with
    | x::l,h =>
      injection h with h1 h2
      obtain ⟨l',p',e⟩:=ih h2
      exact ⟨x::l',p'.cons x,by rw [e,h1];rfl⟩
  | swap a b r =>
    intro l h
    match l,h with
    | x::y::l,h =>
      injection h with h1 h2
      injection h2 with h2 h3
      exact ⟨y::x::l,List.Perm.swap _ _ _,by rw [h1,h2,h3];rfl⟩
  | trans _ _ ih1 ih2 =>
    intro l h
    obtain ⟨l1,p1,h1⟩:=ih2 h
    obtain ⟨l2,p2,h2⟩:=ih1 h1
    exact ⟨l2,p2.trans p1,h2⟩
section
variable {X:Cx} {pins:List (Addr×Obj)} {σ:St} {H:Hp} {s:Shared} {D st:Addr} {e:Nat} {κV:Nat→List V} {ks:List Addr} {E:Value→Shared→Prop}
def Ordd (κ:Nat→List Int) (n:Nat) (p:Array Nat):Prop:=RK.Pm n p∧p.toList.Pairwise fun i j=>HT.lexLt (κ j) (κ i)=false
def keyOfV (κ:Nat→List Int) (ks:List Addr):Value→List Int
  | .ref a=>κ (ks.idxOf a)
  | _=>[]
theorem coreAll {vs : List Value} {κ : Nat → List Int} (K : SK X pins σ H s D st e κV ks) (hl : ks.length = vs.length) (h2 : 2 ≤ vs.length)
    (hcol:∀ i j,i<ks.length→j<ks.length→∃ n m r q rn rm,κV i=.int n::r∧κV j=.int m::q∧VCols r q rn rm∧κ i=n::rn∧κ j=m::rm) :
    CoreOk X (Ordd κ vs.length) (ks.map Value.ref) vs E s:=by
  unfold CoreOk
  obtain ⟨fs,kt,hfl,hfi⟩:=katTups (as:=[]) (vs:=[]) K.inv (ks:=ks) (ns:=(List.range ks.length).map fun i=>((κ i).headD 0)) (fun i a ha=>by
    have hi:i<ks.length:=(List.getElem?_eq_some_iff.mp ha).1
    obtain ⟨n,m,r,q,rn,rm,e1,_,_,e2,_⟩:=hcol i i hi hi
    refine ⟨n,r,?_,?_⟩
    · rw [List.getElem?_map,List.getElem?_range hi,Option.map_some,e2];rfl
    · rw [← e1];exact K.hk i a ha) (by simp)
  refine PySem.W.kat_kind (T:=.type "int") kt (by lia) (fun v hv=>?_) rfl ⟨rfl,?_⟩
  · obtain ⟨n,t,rfl⟩:=hfi v hv
    exact .now
  have hl':(ks.map Value.ref).length=vs.length:=by simp [hl]
  have hsz0:((ks.map Value.ref).toArray.zip vs.toArray).size=vs.length:=by simp [hl]
  generalize hZ:(ks.map Value.ref).toArray.zip vs.toArray=Z at hsz0
  have hsz:Z.size=vs.length:=hsz0
  have kap:∀ i (hi:i<ks.length),keyOfV κ ks (Value.ref ks[i])=κ i:=fun i hi=>by
    have hj:ks.idxOf ks[i]<ks.length:=List.idxOf_lt_length_iff.mpr (List.getElem_mem hi)
    have ej:ks[ks.idxOf ks[i]]=ks[i]:=List.getElem_idxOf hj
    obtain ⟨n,m,r,q,rn,rm,e1,e2,vc,e3,e4⟩:=hcol (ks.idxOf ks[i]) i hj hi
    have k1:=K.hk (ks.idxOf ks[i]) ks[i] (by rw [List.getElem?_eq_getElem hj,ej])
    have k2:=K.hk i ks[i] (List.getElem?_eq_getElem hi)
    have eq:=K.inv.tuple_inj k1 k2
    show κ (ks.idxOf ks[i])=κ i
    rw [e1,e2] at eq
    injection eq with q1 q2
    injection q1 with q1
    subst q1;subst q2
    rw [e3,e4]
    congr 1
    have same:∀ {xs:List V} {as bs:List Int},VCols xs xs as bs→as=bs:=fun {xs}=>by
      induction xs with
      | nil=>intro as bs h;cases h;rfl
      | cons x xs ih =>
        intro as bs h
        cases h with
        | cons c h=>cases c <;> rw [ih h]
    exact same vc
  have itm:∀ i,i<vs.length→PySem.W.kas_item Z i=(Value.ref (ks.getD i 0),vs.getD i Value.none):=fun i hi=>by
    rw [← hZ,PySem.W.kat_item hl']
    have:(ks.map Value.ref).getD i Value.none=Value.ref (ks.getD i 0):=by simp [show i<ks.length by lia]
    rw [this]
  have O:TS.LtOk (model X.prog X.w) X.A.in1.in1 E s (tuples' true) (fun x=>∃ i,i<ks.length∧x.1=Value.ref (ks.getD i 0)) (fun x y=>HT.lexLt (keyOfV κ ks x.1) (keyOfV κ ks y.1)):=by
    refine ⟨fun x y hx hy st' Q hk q=>?_,fun x y z _ _ _ h1 h2=>?_,fun x y _ _ h=>HT.lexLt_asym h⟩
    · obtain ⟨i,hi,ex⟩:=hx
      obtain ⟨j,hj,ey⟩:=hy
      have gi:ks.getD i 0=ks[i]:=by simp [hi]
      have gj:ks.getD j 0=ks[j]:=by simp [hj]
      rw [gi] at ex
      rw [gj] at ey
      rw [ex,ey,kap i hi,kap j hj] at q
      rw [lt'_eq]
      refine wpS_bind (wpS_get ?_)
      rw [hk,ex,ey]
      obtain ⟨n,m,r,q',rn,rm,e1,e2,vc,e3,e4⟩:=hcol i j hi hj
      have k1:=K.hk i ks[i] (List.getElem?_eq_getElem hi)
      have k2:=K.hk j ks[j] (List.getElem?_eq_getElem hj)
      rw [e1] at k1
      rw [e2] at k2
      obtain ⟨its,rv,⟨o,ho,hcl,c,hd⟩,_⟩:=K.inv.tuple k1
      obtain ⟨its2,rv2,⟨o2,ho2,hcl2,c2,hd2⟩,_⟩:=K.inv.tuple k2
      refine wpS_bind (wpS_lift (wpAny_attempt (PySem.W.kat_lt ho hd ho2 hd2 ?_)))
      cases rv with
      | cons rx rr =>
        cases rv2 with
        | cons rx2 rr2 =>
          obtain ⟨t1,rfl⟩:=rx
          obtain ⟨t2,rfl⟩:=rx2
          have cs:=vc.vals rr rr2
          have hlen:∀ {us vs:List Value} {as bs:List Int},RK.Cols us vs as bs→us.length=vs.length:=fun c=>by induction c with
            | nil=>rfl
            | cons _ _ ih=>simp [ih]
          simp only [List.size_toArray,List.length_cons,hlen cs,Nat.lt_irrefl,decide_false]
          refine RK.kat_cols0 cs ?_
          rw [e3,e4] at q
          exact ⟨rfl,wpS_pure q⟩
    · cases q:HT.lexLt (keyOfV κ ks z.1) (keyOfV κ ks x.1) with
      | false=>rfl
      | true =>
        have:=HT.lexLt_of_not_lt_lt h2 q
        rw [h1] at this;cases this
  have run:=TS.sortRuns_spec O (st:=SortSt.mk' (tuples' true) Z #[] 7 none) (Q:=fun _ st'=>failedOf st'=none∧∃ p:Array Nat,Ordd κ vs.length p∧p.size=vs.length∧arrOf st'=p.map (PySem.W.kas_item Z))
    (by show 2≤Z.size;lia) rfl rfl rfl (fun k x hx=>?_) (fun st' hp hf hs=>?_)
  · exact wpAny_mono run (fun r s' h=>⟨h.1,h.2⟩) fun _ _ z=>z
  · have hk':k<vs.length:=by rw [← hsz];exact (Array.getElem?_eq_some_iff.mp hx).1
    have hx':Z[k]?=some x:=hx
    have e1:PySem.W.kas_item Z k=x:=by
      unfold PySem.W.kas_item
      rw [Array.getD_eq_getD_getElem?,hx'];rfl
    rw [itm k hk'] at e1
    exact ⟨k,by lia,by rw [← e1]⟩
  · refine ⟨hf,?_⟩
    have hp':(arrOf st').Perm Z:=hp
    have hrng:=PySem.W.kas_range Z
    rw [hsz] at hrng
    obtain ⟨l,pl,el⟩:=perm_map_inv (Array.perm_iff_toList_perm.mp hp') (l:=List.range vs.length) (f:=PySem.W.kas_item Z) (by have:=congrArg Array.toList hrng;simpa using this.symm)
    have hll:l.length=vs.length:=by rw [pl.length_eq,List.length_range]
    refine ⟨l.toArray,⟨?_,?_⟩,by simpa using hll,?_⟩
    · exact Array.perm_iff_toList_perm.mpr (by simpa using pl)
    · rw [List.pairwise_iff_getElem]
      intro i j hi hj hij
      have hi':i<l.length:=by simpa using hi
      have hj':j<l.length:=by simpa using hj
      have ai:(arrOf st')[i]?=some (PySem.W.kas_item Z l[i]):=by
        rw [← Array.getElem?_toList,el,List.getElem?_map,List.getElem?_eq_getElem hi'];rfl
      have aj:(arrOf st')[j]?=some (PySem.W.kas_item Z l[j]):=by
        rw [← Array.getElem?_toList,el,List.getElem?_map,List.getElem?_eq_getElem hj'];rfl
      have li:l[i]<vs.length:=List.mem_range.mp (pl.mem_iff.mp (List.getElem_mem hi'))
      have lj:l[j]<vs.length:=List.mem_range.mp (pl.mem_iff.mp (List.getElem_mem hj'))
      have:=hs i j _ _ (by lia) (by show j<Z.size;lia) (by rw [Nat.zero_add];exact ai) (by rw [Nat.zero_add];exact aj)
      rw [itm _ li,itm _ lj] at this
      have g1:ks.getD l[i] 0=ks[l[i]]'(by lia):=by simp [show l[i]<ks.length by lia]
      have g2:ks.getD l[j] 0=ks[l[j]]'(by lia):=by simp [show l[j]<ks.length by lia]
      simp only [g1,g2] at this
      rw [kap _ (by lia),kap _ (by lia)] at this
      simpa using this
    · apply Array.toList_inj.mp
      rw [el]
      simp
end
end L2
namespace L2
open PySem PySem.Spec PyProof.Rows
section
variable {X:Cx} {x:Str} {p pos kp kpos:Pos} {e:Expr} {te:TE} {k:Nat} {f:Addr} {fd:FuncData} {ps:List Str} {sp:Sp} {fn:Str}
end
end L2
namespace L2
open PySem PySem.Spec PyProof.Rows
section
variable {prog:Program} {w:World} {A:Around} {R:Result→Shared→Prop} {s:Shared}
end
section
variable {X:Cx} {osc:Scope} {N:List Str} {sc:Scope} {N':List Str} {sel:List (Option Nat)} {pos:Pos} {elt kx vx tg iter tg2 iter2:Expr} {ifs ifs2:List Expr} {wi wi2:TI} {g g2:TG} {tt tt2:TT} {te tk tv:TE}
end
end L2
namespace RP
def mv (i:Nat):Int×Int:=([(1,0),(1,1),(0,1),(-1,1),(-1,0),(-1,-1),(0,-1),(1,-1)]:List (Int×Int)).getD i (0,0)
abbrev Cell:=Int×Int
def go (c:Cell) (i:Nat):Cell:=(c.1+(mv i).1,c.2+(mv i).2)
structure Edge where
  c:Cell
  w:Nat
  deriving DecidableEq
def gap (e:Edge):Cell:=go e.c ((2*e.w+6) % 8)
def stepB (C:Cell→Bool) (e:Edge):Option Nat :=
  if C (go e.c ((2*e.w+7) % 8))=true then some ((2*e.w+7) % 8) else if C (go e.c (2*e.w))=true then some (2*e.w) else none
def slant:Option Nat→Bool
  | none=>false
  | some s=>s % 2 == 1
def edgeB (e:Edge):Option Nat→Edge
  | none=>⟨e.c,(e.w+1) % 4⟩
  | some s=>if s % 2=1 then ⟨go e.c s,(e.w+3) % 4⟩ else ⟨go e.c s,e.w⟩
def nxt (C:Cell→Bool) (e:Edge):Edge:=edgeB e (stepB C e)
def IsE (C:Cell→Bool) (e:Edge):Prop:=e.w<4∧C e.c=true∧C (gap e)=false
def prv (C:Cell→Bool) (f:Edge):Edge :=
  if C (go f.c ((2*f.w+5) % 8))=true then ⟨go f.c ((2*f.w+5) % 8),(f.w+1) % 4⟩
  else if C (go f.c ((2*f.w+4) % 8))=true then ⟨go f.c ((2*f.w+4) % 8),f.w⟩ else ⟨f.c,(f.w+3) % 4⟩
theorem way4 {w:Nat} (h:w<4):w=0∨w=1∨w=2∨w=3:=by lia
def mvAdd (a b d:Nat):Bool:=(mv a).1+(mv b).1 == (mv d).1 && (mv a).2+(mv b).2 == (mv d).2
def mvNil (a b:Nat):Bool:=(mv a).1+(mv b).1 == 0 && (mv a).2+(mv b).2 == 0
theorem go_go {c:Cell} {a b d:Nat} (h:mvAdd a b d=true):go (go c a) b=go c d:=by
  unfold mvAdd at h
  simp only [Bool.and_eq_true,beq_iff_eq] at h
  unfold go
  exact Prod.ext (by show c.1+(mv a).1+(mv b).1=c.1+(mv d).1;lia) (by show c.2+(mv a).2+(mv b).2=c.2+(mv d).2;lia)
theorem go_back {c:Cell} {a b:Nat} (h:mvNil a b=true):go (go c a) b=c:=by
  unfold mvNil at h
  simp only [Bool.and_eq_true,beq_iff_eq] at h
  unfold go
  exact Prod.ext (by show c.1+(mv a).1+(mv b).1=c.1;lia) (by show c.2+(mv a).2+(mv b).2=c.2;lia)
theorem f1:∀ w<4,mvAdd ((2*w+7) % 8) ((2*((w+3) % 4)+6) % 8) ((2*w+6) % 8)=true:=by decide
theorem f2:∀ w<4,mvAdd (2*w) ((2*w+6) % 8) ((2*w+7) % 8)=true:=by decide
theorem f3:∀ w<4,(2*((w+1) % 4)+6) % 8=2*w:=by decide
theorem f4:∀ w<4,mvNil ((2*w+7) % 8) ((2*((w+3) % 4)+5) % 8)=true:=by decide
theorem f5:∀ w<4,mvAdd (2*w) ((2*w+5) % 8) ((2*w+6) % 8)=true:=by decide
theorem f6:∀ w<4,mvNil (2*w) ((2*w+4) % 8)=true:=by decide
theorem f7:∀ w<4,(2*((w+1) % 4)+5) % 8=(2*w+7) % 8:=by decide
theorem f8:∀ w<4,(2*((w+1) % 4)+4) % 8=(2*w+6) % 8:=by decide
theorem odd7 (w:Nat):(2*w+7) % 8 % 2=1:=by lia
theorem nxt_cases {C : Cell → Bool} {e : Edge} (h : IsE C e) :
    (C (go e.c ((2*e.w+7) % 8))=true∧stepB C e=some ((2*e.w+7) % 8)∧nxt C e=⟨go e.c ((2*e.w+7) % 8),(e.w+3) % 4⟩) ∨
    (C (go e.c ((2*e.w+7) % 8))=false∧C (go e.c (2*e.w))=true∧stepB C e=some (2*e.w)∧nxt C e=⟨go e.c (2*e.w),e.w⟩) ∨
    (C (go e.c ((2*e.w+7) % 8))=false∧C (go e.c (2*e.w))=false∧stepB C e=none∧nxt C e=⟨e.c,(e.w+1) % 4⟩):=by
  unfold nxt stepB
  by_cases h1:C (go e.c ((2*e.w+7) % 8))=true
  · left
    rw [if_pos h1]
    exact ⟨h1,rfl,by simp only [edgeB];rw [if_pos (odd7 _)]⟩
  · right
    have h1':C (go e.c ((2*e.w+7) % 8))=false:=by simpa using h1
    rw [if_neg h1]
    by_cases h2:C (go e.c (2*e.w))=true
    · left
      rw [if_pos h2]
      exact ⟨h1',h2,rfl,by simp only [edgeB];rw [if_neg (by lia)]⟩
    · right
      rw [if_neg h2]
      exact ⟨h1',by simpa using h2,rfl,rfl⟩
theorem nxt_ok {C:Cell→Bool} {e:Edge} (h:IsE C e):IsE C (nxt C e):=by
  obtain ⟨hw,hc,hg⟩:=id h
  rcases nxt_cases h with ⟨h1,_,q⟩ | ⟨h1,h2,_,q⟩ | ⟨h1,h2,_,q⟩ <;> rw [q]
  · refine ⟨Nat.mod_lt _ (by decide),h1,?_⟩
    unfold gap
    rw [go_go (f1 _ hw)]
    exact hg
  · refine ⟨hw,h2,?_⟩
    unfold gap
    rw [go_go (f2 _ hw)]
    exact h1
  · refine ⟨Nat.mod_lt _ (by decide),hc,?_⟩
    unfold gap
    simp only
    rw [f3 _ hw]
    exact h2
theorem prv_nxt {C:Cell→Bool} {e:Edge} (h:IsE C e):prv C (nxt C e)=e:=by
  obtain ⟨hw,hc,hg⟩:=id h
  unfold gap at hg
  rcases nxt_cases h with ⟨h1,_,q⟩ | ⟨h1,h2,_,q⟩ | ⟨h1,h2,_,q⟩ <;> rw [q] <;> unfold prv <;> simp only
  · rw [go_back (f4 _ hw),if_pos hc]
    rw [show ((e.w+3) % 4+1) % 4=e.w by lia]
  · rw [go_go (f5 _ hw),hg,if_neg (by decide),go_back (f6 _ hw),if_pos hc]
  · rw [f7 _ hw,h1,if_neg (by decide),f8 _ hw,hg,if_neg (by decide)]
    rw [show ((e.w+1) % 4+3) % 4=e.w by lia]
theorem nxt_inj {C:Cell→Bool} {e f:Edge} (he:IsE C e) (hf:IsE C f) (h:nxt C e=nxt C f):e=f:=by
  rw [← prv_nxt he,← prv_nxt hf,h]
def Chain (C:Cell→Bool) (b:Edge) (es:List Edge):Prop:=es[0]?=some b∧(∀ i e f,es[i]?=some e→es[i+1]?=some f→f=nxt C e)∧(∀ e∈es,IsE C e)∧es.Nodup
theorem Chain.start {C:Cell→Bool} {b:Edge} (h:IsE C b):Chain C b [b] :=
  ⟨rfl,fun i e f _ h2=>by simp at h2,fun e he=>by rw [List.mem_singleton.mp he];exact h,by simp⟩
theorem Chain.more {C:Cell→Bool} {b l:Edge} {es:List Edge} (h:Chain C b (es++[l])) (hn:nxt C l≠b):Chain C b ((es++[l])++[nxt C l]):=by
  obtain ⟨h0,hs,hE,hnd⟩:=h
  have hl:(es++[l])[es.length]?=some l:=by simp
  have lE:=hE l (by simp)
  refine ⟨?_,fun i e f h1 h2=>?_,fun e he=>?_,?_⟩
  · rw [List.getElem?_append_left (by simp)];exact h0
  · rcases Nat.lt_or_ge (i+1) (es++[l]).length with hi | hi
    · rw [List.getElem?_append_left (by lia)] at h1
      rw [List.getElem?_append_left hi] at h2
      exact hs i e f h1 h2
    · have hi2:=(List.getElem?_eq_some_iff.mp h2).1
      simp at hi2 hi
      have hi3:i=es.length:=by lia
      subst hi3
      rw [List.getElem?_append_left (by simp)] at h1
      rw [hl] at h1
      cases h1
      rw [List.getElem?_append_right (by simp)] at h2
      simp at h2
      exact h2.symm
  · rcases List.mem_append.mp he with he | he
    · exact hE e he
    · rw [List.mem_singleton.mp he];exact nxt_ok lE
  · rw [List.nodup_append]
    refine ⟨hnd,by simp,fun x hx y hy=>?_⟩
    rw [List.mem_singleton.mp hy]
    intro e
    subst e
    obtain ⟨i,hi,ei⟩:=List.getElem_of_mem hx
    rcases Nat.eq_zero_or_pos i with rfl | hp
    · rw [List.getElem?_eq_getElem hi,ei] at h0
      exact hn (Option.some.inj h0)
    · have hi':i - 1<(es++[l]).length:=by lia
      have e1:=hs (i - 1) ((es++[l])[i - 1]) (nxt C l) (List.getElem?_eq_getElem hi') (by rw [show i - 1+1=i by lia,List.getElem?_eq_getElem hi,ei])
      have e2:=nxt_inj lE (hE _ (List.getElem_mem hi')) e1
      have e3:es.length=i - 1:=(List.getElem?_inj (by simp) hnd).mp (by rw [hl,List.getElem?_eq_getElem hi',← e2])
      simp at hi
      lia
end RP
namespace RP
theorem length_le_of_nodup {α:Type} [DecidableEq α]:∀ {a b:List α},a.Nodup→(∀ x∈a,x∈b)→a.length≤b.length
  | [],_,_,_=>Nat.zero_le _
  | x::a,b,hn,hs=>by
    have hx:x∈b:=hs x List.mem_cons_self
    have h1:=length_le_of_nodup (a:=a) (b:=b.erase x) (List.nodup_cons.mp hn).2 (fun y hy=>by
      refine (List.mem_erase_of_ne ?_).mpr (hs y (List.mem_cons_of_mem _ hy))
      intro e;subst e;exact (List.nodup_cons.mp hn).1 hy)
    rw [List.length_erase_of_mem hx] at h1
    have:0<b.length:=List.length_pos_of_mem hx
    simp only [List.length_cons]
    lia
def sides (cs:List Cell):List Edge:=cs.flatMap fun c=>(List.range 4).map fun w=>⟨c,w⟩
theorem sides_length (cs:List Cell):(sides cs).length=4*cs.length:=by
  unfold sides
  induction cs with
  | nil=>rfl
  | cons c r ih=>rw [List.flatMap_cons,List.length_append,ih];simp;lia
theorem mem_sides {cs:List Cell} {e:Edge}:e∈sides cs ↔ e.c∈cs∧e.w<4:=by
  unfold sides
  rw [List.mem_flatMap]
  constructor
  · rintro ⟨c,hc,h⟩
    obtain ⟨w,hw,rfl⟩:=List.mem_map.mp h
    exact ⟨hc,List.mem_range.mp hw⟩
  · rintro ⟨hc,hw⟩
    exact ⟨e.c,hc,List.mem_map.mpr ⟨e.w,List.mem_range.mpr hw,rfl⟩⟩
def isIn (cs:List Cell) (c:Cell):Bool:=decide (c∈cs)
theorem Chain.short {cs:List Cell} {b:Edge} {es:List Edge} (h:Chain (isIn cs) b es):es.length≤4*cs.length:=by
  rw [← sides_length]
  exact length_le_of_nodup h.2.2.2 fun e he=>mem_sides.mpr ⟨of_decide_eq_true (h.2.2.1 e he).2.1,(h.2.2.1 e he).1⟩
def allE (cs:List Cell):List Edge:=(sides cs).filter fun e=>!isIn cs (gap e)
theorem mem_allE {cs:List Cell} {e:Edge}:e∈allE cs ↔ IsE (isIn cs) e:=by
  unfold allE
  rw [List.mem_filter,mem_sides]
  unfold IsE isIn
  constructor
  · rintro ⟨⟨h1,h2⟩,h3⟩
    exact ⟨h2,decide_eq_true h1,by simpa using h3⟩
  · rintro ⟨h1,h2,h3⟩
    exact ⟨⟨of_decide_eq_true h2,h1⟩,by simpa using h3⟩
def dx (w:Nat):Int:=if w=0 then 1 else if w=2 then -1 else 0
def dy (w:Nat):Int:=if w=1 then 1 else if w=3 then -1 else 0
def px (e:Edge):Int:=e.c.1+(if e.w=1∨e.w=2 then 1 else 0)
def py (e:Edge):Int:=e.c.2+(if e.w=2∨e.w=3 then 1 else 0)
theorem p_next {C:Cell→Bool} {e:Edge} (h:IsE C e):px (nxt C e)=px e+dx e.w∧py (nxt C e)=py e+dy e.w:=by
  have hw:=h.1
  rcases nxt_cases h with ⟨_,_,q⟩ | ⟨_,_,_,q⟩ | ⟨_,_,_,q⟩ <;> rw [q] <;> obtain ⟨c,w⟩:=e <;> simp only at hw <;>
    rcases way4 hw with rfl | rfl | rfl | rfl <;> simp [px,py,dx,dy,go,mv] <;> lia
theorem w_next {C:Cell→Bool} {e:Edge} (h:IsE C e):(nxt C e).w=(e.w+3) % 4∨(nxt C e).w=e.w∨(nxt C e).w=(e.w+1) % 4:=by
  rcases nxt_cases h with ⟨_,_,q⟩ | ⟨_,_,_,q⟩ | ⟨_,_,_,q⟩ <;> rw [q]
  · exact .inl rfl
  · exact .inr (.inl rfl)
  · exact .inr (.inr rfl)
def Closed (C:Cell→Bool) (b:Edge) (es:List Edge):Prop:=Chain C b es∧∃ l,es[es.length - 1]?=some l∧nxt C l=b
theorem psum {C:Cell→Bool} {b:Edge} {es:List Edge} (h:Chain C b es):∀ i e,es[i]?=some e→px e=px b+((es.take i).map fun e=>dx e.w).sum∧py e=py b+((es.take i).map fun e=>dy e.w).sum
  | 0,e,he=>by
    have h0:=h.1
    rw [he] at h0
    cases h0
    simp
  | i+1,e,he=>by
    have hi:i+1<es.length:=(List.getElem?_eq_some_iff.mp he).1
    have h1:es[i]?=some es[i]:=List.getElem?_eq_getElem (by lia)
    obtain ⟨a,c⟩:=psum h i _ h1
    have hn:=h.2.1 i _ e h1 he
    obtain ⟨p,q⟩:=p_next (h.2.2.1 _ (List.getElem_mem (show i<es.length by lia)))
    rw [← hn] at p q
    rw [List.take_succ,h1]
    simp only [Option.toList_some,List.map_append,List.map_cons,List.map_nil,List.sum_append,List.sum_cons,List.sum_nil]
    lia
theorem Closed.sums {C:Cell→Bool} {b:Edge} {es:List Edge} (h:Closed C b es):(es.map fun e=>dx e.w).sum=0∧(es.map fun e=>dy e.w).sum=0:=by
  obtain ⟨hc,l,hl,hb⟩:=h
  have hlt:=(List.getElem?_eq_some_iff.mp hl).1
  obtain ⟨a,c⟩:=psum hc _ l hl
  have hlm:=(List.getElem?_eq_some_iff.mp hl).2
  obtain ⟨p,q⟩:=p_next (hc.2.2.1 l (by rw [← hlm];exact List.getElem_mem _))
  rw [hb] at p q
  have e:es=es.take (es.length - 1)++[l]:=by
    have:=List.take_succ (l:=es) (i:=es.length - 1)
    rw [hl,show es.length - 1+1=es.length by lia,List.take_length] at this
    simpa using this
  have s1:(es.map fun e=>dx e.w).sum=((es.take (es.length - 1)).map fun e=>dx e.w).sum+dx l.w:=by
    conv=>lhs;rw [e]
    simp
  have s2:(es.map fun e=>dy e.w).sum=((es.take (es.length - 1)).map fun e=>dy e.w).sum+dy l.w:=by
    conv=>lhs;rw [e]
    simp
  lia
theorem sum_nonneg {l:List Int} (h:∀ x∈l,0≤x):0≤l.sum:=by
  induction l with
  | nil=>simp
  | cons a r ih =>
    have:=h a List.mem_cons_self
    have:=ih fun x hx=>h x (List.mem_cons_of_mem _ hx)
    simp only [List.sum_cons];lia
theorem sum_zero {l:List Int} (h:∀ x∈l,0≤x) (hs:l.sum=0):∀ x∈l,x=0:=by
  induction l with
  | nil=>intro x hx;cases hx
  | cons a r ih =>
    have h1:=h a List.mem_cons_self
    have h2:=sum_nonneg fun x hx=>h x (List.mem_cons_of_mem _ hx)
    simp only [List.sum_cons] at hs
    intro x hx
    rcases List.mem_cons.mp hx with rfl | hx
    · lia
    · exact ih (fun x hx=>h x (List.mem_cons_of_mem _ hx)) (by lia) x hx
theorem neg_sum (l:List Int):(l.map fun x=>-x).sum=-l.sum:=by
  induction l with
  | nil=>rfl
  | cons a r ih=>simp only [List.map_cons,List.sum_cons,ih];lia
theorem const_sum (l:List Int) (d:Int) (h:∀ x∈l,x=d):l.sum=d*l.length:=by
  induction l with
  | nil=>simp
  | cons a r ih =>
    have h1:=h a List.mem_cons_self
    have h2:=ih fun x hx=>h x (List.mem_cons_of_mem _ hx)
    simp only [List.sum_cons,List.length_cons,h1,h2]
    rw [Int.natCast_add,Int.mul_add];lia
theorem Closed.has {C:Cell→Bool} {b:Edge} {es:List Edge} (h:Closed C b es) {k:Nat} (hk:k=0∨k=2):∃ e∈es,e.w=k:=by
  apply Classical.byContradiction
  intro hno
  have hno':∀ e∈es,e.w≠k:=fun e he z=>hno ⟨e,he,z⟩
  obtain ⟨s1,s2⟩:=h.sums
  obtain ⟨hc,_⟩:=h
  have hpos:0<es.length:=by
    have:=hc.1
    exact (List.getElem?_eq_some_iff.mp this).1
  have z:∀ e∈es,dx e.w=0:=by
    rcases hk with rfl | rfl
    · have := sum_zero (l := (es.map fun e => dx e.w).map fun x => -x) (fun x hx => by
        obtain ⟨y,hy,rfl⟩:=List.mem_map.mp hx
        obtain ⟨e,he,rfl⟩:=List.mem_map.mp hy
        have:=hno' e he
        unfold dx
        rw [if_neg this]
        split <;> decide) (by rw [neg_sum,s1];rfl)
      intro e he
      have:=this (-(dx e.w)) (List.mem_map.mpr ⟨_,List.mem_map.mpr ⟨e,he,rfl⟩,rfl⟩)
      lia
    · have := sum_zero (l := es.map fun e => dx e.w) (fun x hx => by
        obtain ⟨e,he,rfl⟩:=List.mem_map.mp hx
        have:=hno' e he
        unfold dx
        rw [if_neg this]
        split <;> decide) s1
      intro e he
      exact this _ (List.mem_map.mpr ⟨e,he,rfl⟩)
  have odd:∀ e∈es,e.w=1∨e.w=3:=fun e he=>by
    have h4:=(hc.2.2.1 e he).1
    have hz:=z e he
    rcases way4 h4 with q | q | q | q
    · rw [q] at hz;exact absurd hz (by decide)
    · exact .inl q
    · rw [q] at hz;exact absurd hz (by decide)
    · exact .inr q
  have same:∀ (i:Nat) (e:Edge),es[i]?=some e→e.w=b.w:=by
    intro i
    induction i with
    | zero=>intro e he;have:=hc.1;rw [he] at this;cases this;rfl
    | succ i ih =>
      intro e he
      have hi:i+1<es.length:=(List.getElem?_eq_some_iff.mp he).1
      have h1:es[i]?=some es[i]:=List.getElem?_eq_getElem (by lia)
      have hn:=hc.2.1 i _ e h1 he
      have m1:es[i]∈es:=List.getElem_mem _
      have m2:e∈es:=List.mem_of_getElem? he
      have w1:=ih _ h1
      have o1:=odd _ m1
      have o2:=odd _ m2
      have:=w_next (hc.2.2.1 _ m1)
      rw [← hn] at this
      lia
  have all:∀ x∈es.map (fun e=>dy e.w),x=dy b.w:=fun x hx=>by
    obtain ⟨e,he,rfl⟩:=List.mem_map.mp hx
    obtain ⟨i,hi,ei⟩:=List.getElem_of_mem he
    rw [same i e (by rw [List.getElem?_eq_getElem hi,ei])]
  have t:=const_sum _ _ all
  rw [s2,List.length_map] at t
  have ob:b.w=1∨b.w=3:=by
    have:=hc.1
    exact odd b (List.mem_of_getElem? this)
  have d1:dy b.w=1∨dy b.w=-1:=by
    rcases ob with q | q <;> rw [q] <;> decide
  rcases d1 with q | q <;> rw [q] at t <;> lia
end RP
namespace L2
open PySem PySem.Spec PyProof.Rows
structure Fn (P:Program) (w:World) (K:PySem.W.Frag) (mg:Str→Option Value) (base:Heap) (k:Nat) (x:Str) (ps:List Str) (sp:Sp) where
  f:Addr
  fd:FuncData
  ok:FnOk P w K mg base CX0 k f fd ps sp
  m:mg x=some (.ref f)
  kp:PySem.W.keepIn K (.ref f)=true
  b:Binds K fd ps []
structure Df (K:PySem.W.Frag) (mg:Str→Option Value) (x:Str) (st:Stmt) (ps:List Str) where
  f:Addr
  fd:FuncData
  F:Fun K x x st f fd
  m:mg x=some (.ref f)
  b:Binds K fd ps []
def Df.fn {P:Program} {w:World} {K:PySem.W.Frag} {mg:Str→Option Value} {base:Heap} {k:Nat} {x:Str} {st:Stmt} {ps:List Str} {sp:Sp} (d:Df K mg x st ps) (h:FnOk P w K mg base CX0 k d.f d.fd ps sp):Fn P w K mg base k x ps sp :=
  ⟨d.f,d.fd,h,d.m,d.F.kp,d.b⟩
structure Ways (P:Program) (w:World) (K:PySem.W.Frag) (mg:Str→Option Value):Prop where
  ex:∃ (B:Addr) (t1 t2 t3 t4:Tok) (n:Nat),mg "BEGIN_WAYS" = some (.ref B)∧K.lookup B=some ⟨.type "dict",none,.dict #[⟨PyData.keyHash w.params "rim",.str "rim" t1,.int 0 t2⟩,⟨PyData.keyHash w.params "hole",.str "hole" t3,.int 2 t4⟩] n,#[]⟩
end L2
namespace L2
open PySem PySem.Spec PyProof.Rows
section
variable {X:Cx} {K:PySem.W.Frag}
theorem ix_tupK (hK:X.K=K:=by rfl):IxR X (rIxT K):=by
  subst hK
  exact ix_tup
theorem ix_listK (hK:X.K=K:=by rfl):IxR X (rIxL K):=by
  subst hK
  exact ix_list
theorem pg_tupK {es : List Expr} {k : Nat} {t : TGs} {n : Nat} {pos : Pos} (hc : X.calm = true) (h : PGs X es t)
    (hn:(assignEach es X.env).length=n:=by rfl) (hst:(assignEach es X.env).findIdx? (·.1)=none:=by rfl) (hK:X.K=K:=by rfl):PG X (.Tuple es k pos) (gTup K n t):=by
  subst hK
  exact pg_tup hc h hn hst
end
end L2
namespace L2
open PySem PySem.Spec PyProof.Rows
section
variable {X:Cx}
end
end L2
namespace HT
open PySem PyProof.Rows
variable {prog:Program} {w:World} {A:Around} {E:Value→Shared→Prop} {s:Shared}
end HT
namespace L2
open PySem PySem.Spec PyProof.Rows
section
variable {X:Cx} {K:PySem.W.Frag}
end
end L2
namespace L2
open PySem PySem.Spec PyProof.Rows
section
variable {prog:Program} {w:World} {K:Type} [DecidableEq K] {knd:HeapKind prog w K} {A:Around} {E:Value→Shared→Prop} {s:Shared} {d a:Addr} {xs:List (K×Addr×Value)} {k:K} {dflt:Value}
end
section
variable {X:Cx} {o e f:Expr} {apos cpos:Pos} {td ty tx:TE}
end
end L2
namespace L2
open PySem PySem.Spec PyProof.Rows
structure Two (P:Program) (w:World) (K:PySem.W.Frag) (mg:Str→Option Value) (nm:Str) (a b:Int):Prop where
  ex:∃ (B:Addr) (t1 t2 t3 t4:Tok) (n:Nat),mg nm=some (.ref B)∧K.lookup B=some ⟨.type "dict",none,.dict #[⟨PyData.keyHash w.params "rim",.str "rim" t1,.int a t2⟩,⟨PyData.keyHash w.params "hole",.str "hole" t3,.int b t4⟩] n,#[]⟩
end L2
namespace L2
open PySem PySem.Spec PyProof.Rows
section
variable {X:Cx}
theorem Inv.turned2 {pins : List (Addr × Obj)} {σ : St} {H : Hp} {s : Shared} {h' : Heap} {t' : Nat} {e it : Addr} (I : Inv X pins σ H s) (k : ∀ b o, b ≠ e → b ≠ it → s.heap.get? b = some o → h'.get? b = some o) (fe : FpOk X pins H e) (fi : FpOk X pins H it) :
    Inv X pins σ H { s with heap:=h',toks:=t' }:=by
  obtain ⟨f0,f1,f2,f3,f4,f5⟩:=fe
  obtain ⟨g0,g1,g2,g3,g4,g5⟩:=fi
  have nb:∀ b u,H b=some u→b≠e∧b≠it:=fun b u q=>⟨(fun z=>by rw [z,f0] at q;cases q),(fun z=>by rw [z,g0] at q;cases q)⟩
  have out:∀ b,b ∉ [e,it]→b≠e∧b≠it:=fun b hc=>⟨fun z=>hc (by simp [z]),fun z=>hc (by simp [z])⟩
  refine I.step (g':=s.gens) (d':=s.drawn) (ch:=[e,it]) (fun b hb=>?_) (fun b o _ _ hc q _=>k b o (out b hc).1 (out b hc).2 q) (fun b o _ _ hc q _=>⟨o.slots,k b o (out b hc).1 (out b hc).2 q⟩) (fun _ _ _ _ n=>n)
    (fun b o hc q=>⟨o,k b o (out b hc).1 (out b hc).2 q⟩) (fun _ _ q=>q) (fun _ _ _ q=>q) (fun b ps q=>⟨#[],by rw [q];simp⟩) (fun m hm=>?_) (fun b u q=>?_) I.bare
  · rcases List.mem_cons.mp hb with z | z
    · subst z;exact ⟨f3,f1,f4,f5⟩
    · have z':b=it:=by simpa using z
      subst z';exact ⟨g3,g1,g4,g5⟩
  · obtain ⟨o,es,ep,ho,r⟩:=hm
    exact ⟨o,es,ep,k _ o (Ne.symm f1) (Ne.symm g1) ho,r⟩
  · refine (I.hok b u q).stay (fun c v hc q'=>?_) (fun _ q=>q) fun _ _ q=>q
    rcases hc with z | z
    · rw [z] at q' ⊢;exact k _ _ (nb b u q).1 (nb b u q).2 q'
    · exact k _ _ (nb c _ z).1 (nb c _ z).2 q'
def Ite (K:PySem.W.Frag) (a:Addr):It :=
  ⟨fun i H=>∃ xs x,SqL K H a xs∧xs[i]?=some x,fun i H y H'=>∃ p x,y=.ref p∧H p=none∧H'=upd H p (.tup [.int i,x])∧∀ xs,SqL K H a xs→xs[i]?=some x,fun i H=>∃ xs,SqL K H a xs∧xs.length≤i⟩
theorem turn_enum {P:Program} {w:World} {K:PySem.W.Frag} {es:List Expr} {x1:Nat} {pos:Pos} (a e it:Addr) (hne:e≠it):Turn P w K (.Tuple es x1 pos) (Ite K a) [e,it] e (fun i h=>∃ old,IsEnum h e it ((i:Nat):Int) old∧h.IsListIter it a i) where
  mem:=by simp
  obj:=fun i h st b hb=>by
    obtain ⟨old,h1,o,h2,c,d⟩:=st
    rcases List.mem_cons.mp hb with z | z
    · subst z;exact ⟨_,h1,fun v q=>nomatch q⟩
    · have z':b=it:=by simpa using z
      subst z';exact ⟨o,h2,fun v q=>by rw [d] at q;cases q⟩
  keep:=fun i h h' ⟨old,h1,h2⟩ k=>⟨old,k e (by simp) _ h1,h2.at fun o q=>k it (by simp) o q⟩
  item:=by
    intro X hP hw hK hc i pins s σ H E I hf st hg
    subst hP hw hK
    obtain ⟨old,he,hit⟩:=st
    obtain ⟨xs,x,hq,hx⟩:=hg
    obtain ⟨its,rv,p,hz⟩:=I.list hq
    obtain ⟨u,hu,ru⟩:=rv.get hx
    have fe:=hf e (by simp)
    have fi:=hf it (by simp)
    refine wpAny_pyNext_enum_item he hit p.isList (x:=u) (by simpa using hu) hne fun h1 eo it1 tup sz kk=>⟨_,rfl,?_⟩
    refine wpAny_letOwnedTupleGo_enum (s:={ s with heap:=h1,toks:=s.toks+1 }) eo fun h2 he2 sb=>?_
    have heS:e<s.heap.objs.size:=Heap.lt_size he
    have hiS:it<s.heap.objs.size:=by obtain ⟨o,q,_⟩:=hit;exact Heap.lt_size q
    have fr:H s.heap.objs.size=none:=I.hok.fresh (Nat.le_refl _)
    have I1:Inv X pins σ (upd H s.heap.objs.size (.tup [.int i,x])) { s with heap:=s.heap.push { cls:=.type "tuple",data:=.seq #[.int i s.toks,u] },toks:=s.toks } :=
      I.laid (t':=s.toks) (o:=.tup [.int i,x]) (fun b ob q=>Heap.get?_push_of_some _ q) (Nat.le_refl _) ⟨by show 2≤sizeLine;decide,_,.cons ⟨_,rfl⟩ (.cons ru .nil),IsTup.new _ _⟩
    have up:∀ {b:Addr},b<s.heap.objs.size→∀ o,upd H s.heap.objs.size o b=H b:=fun hb o=>upd_ne (Nat.ne_of_lt hb)
    have fe1:FpOk X pins (upd H s.heap.objs.size (.tup [.int i,x])) e:=⟨by rw [up heS];exact fe.1,fe.2⟩
    have fi1:FpOk X pins (upd H s.heap.objs.size (.tup [.int i,x])) it:=⟨by rw [up hiS];exact fi.1,fi.2⟩
    have I2:Inv X pins σ (upd H s.heap.objs.size (.tup [.int i,x])) { s with heap:=h2,toks:=s.toks+1 }:=I1.turned2 (fun b o hbe hbi q=>by
      refine (sb.2 b hbe).trans ?_
      show h1.get? b=some o
      rcases Heap.get?_push_cases q with ⟨z,rfl⟩ | q
      · rw [z];exact tup
      · exact kk b o hbe hbi q) fe1 fi1
    refine ⟨.ref s.heap.objs.size,_,I2,rfl,⟨_,x,rfl,fr,rfl,fun ys hy=>by rw [I.list_inj hy hq];exact hx⟩,⟨u,?_,?_⟩,fun b hb=>?_⟩
    · exact he2
    · obtain ⟨o,q,c,d⟩:=it1
      exact ⟨o,(sb.2 it (Ne.symm hne)).trans q,c,d⟩
    · rcases List.mem_cons.mp hb with z | z
      · subst z;exact fe1.1
      · have z':b=it:=by simpa using z
        subst z';exact fi1.1
  done:=by
    intro X hP hw hK hc i pins s σ H E I hf st hg
    subst hP hw hK
    obtain ⟨old,he,hit⟩:=st
    obtain ⟨xs,hq,hx⟩:=hg
    obtain ⟨its,rv,p,hz⟩:=I.list hq
    obtain ⟨f0,f1,f2,f3,f4,f5⟩:=hf it (by simp)
    have hl:=rv.length
    exact wpAny_pyNext_enum_end (I.ok.hd hc) he hit p.isList (by simp;lia) fun h' eb=>⟨rfl,I.turned (t':=s.toks) (fun b o hb e=>eb b o hb e) f0 f1 f3 f4 f5⟩
  self:=fun _ _ _ _ _ ⟨_,he,_⟩ h=>wpAny_pyIter_enum he h
def iEnum (K:PySem.W.Frag) (t:TA):TI:=fun σ H R=>t σ H fun vs H1=>∃ a,vs=[.ref a]∧(∃ xs,SqL K H1 a xs)∧R (Ite K a) H1
theorem pi_enum {l : Expr} {t : TA} {es : List Expr} {x1 : Nat} {pos pos' p : Pos} (hg : Gl X "enumerate") (hm : X.mg "enumerate" = none) (ha : PA X [l] t)
    (he:starEach [l] X.env=(false,eval l X.env)::starEach [] X.env:=by rfl) (hpl:(backTo pos' (starEach [] X.env)).any (·.1)=false:=by rfl) :
    PI X (.Tuple es x1 pos) (.Call (.Name "enumerate" p) [l] [] pos') (iEnum X.K t):=by
  intro pins s σ H R I h
  refine wpAny_Call_Name_kw (ld_blt I hg hm (by rfl) ?_ (by decide) (by decide))
  refine PyProof.Rows.callWith_type1 (thn (ha pos' pins s σ H _ I h) fun us s1 ⟨vs,H1,I1,r1,q1⟩=>?_) he hpl
  obtain ⟨a,ex,⟨xs,hq⟩,q⟩:=q1
  subst ex
  obtain ⟨u,rfl,rx⟩:=vals1 r1
  cases rx
  obtain ⟨its,rv,pl,hz⟩:=I1.list hq
  refine call_enumerate_list pl.isList fun h' he hit hsz kp=>?_
  have I2:Inv X pins σ H1 { s1 with heap:=h' }:=I1.kept (t':=s1.toks) kp
  refine wpAny_pyIter_enum he ?_
  refine ⟨s1.heap.objs.size+1,[s1.heap.objs.size+1,s1.heap.objs.size],_,_,H1,rfl,I2,turn_enum a _ _ (Nat.succ_ne_self _),⟨_,he,hit⟩,fun b hb=>?_,q⟩
  rcases List.mem_cons.mp hb with z | z
  · subst z;exact I1.fpOk (Nat.le_succ _) (I1.hok.fresh (Nat.le_succ _))
  · have z':b=s1.heap.objs.size:=by simpa using z
    subst z';exact I1.fpOk (Nat.le_refl _) (I1.hok.fresh (Nat.le_refl _))
theorem for_enum {K : PySem.W.Frag} {a : Addr} {xs : List V} {g : TG} {tb : TS} {D : Ends} {σ : St} {H : Hp} (Pv : Nat → St → Hp → Prop) (h0 : Pv 0 σ H) (hl : ∀ i σ H, i ≤ xs.length → Pv i σ H → SqL K H a xs)
    (hs:∀ i x σ H p,xs[i]?=some x→Pv i σ H→H p=none→g (.ref p) σ (upd H p (.tup [.int i,x])) fun σ2 H2=>tb { D with nx:=Pv (i+1),ct:=Pv (i+1),bk:=D.nx } σ2 H2) (hd:∀ σ H,Pv xs.length σ H→D.nx σ H) :
    ∃ W:Nat→Nat→St→Hp→Prop,(∃ m,W 0 m σ H)∧∀ i m σ H,W i m σ H →
      ((Ite K a).stop i H∧D.nx σ H)∨((Ite K a).go i H∧∃ N:St→Hp→Prop,(∀ σ' H',N σ' H'→∃ m',m'<m∧W (i+1) m' σ' H')∧∀ x H',(Ite K a).yld i H x H'→g x σ H' fun σ2 H2=>tb { D with nx:=N,ct:=N,bk:=D.nx } σ2 H2):=by
  refine ⟨fun i m σ H=>m=xs.length - i∧i≤xs.length∧Pv i σ H,⟨xs.length,by simp,Nat.zero_le _,h0⟩,?_⟩
  rintro i m σ H ⟨rfl,hi,p⟩
  have q:=hl i σ H hi p
  by_cases hlt:i<xs.length
  · refine .inr ⟨⟨xs,xs[i],q,by simp [hlt]⟩,Pv (i+1),fun σ' H' p'=>⟨xs.length - (i+1),by lia,rfl,hlt,p'⟩,fun x H' y=>?_⟩
    obtain ⟨b,z,rfl,hb,rfl,y⟩:=y
    exact hs i z σ H b (y xs q) p hb
  · have e:i=xs.length:=by lia
    subst e
    exact .inl ⟨⟨xs,q,Nat.le_refl _⟩,hd σ H p⟩
end
end L2
namespace HT
open PySem PyProof.Rows PySem.Spec
variable {prog:Program} {w:World} {A:Around} {E:Value→Shared→Prop} {s:Shared}
end HT
namespace L2
open PySem PySem.Spec PyProof.Rows
section
variable {X:Cx} {K:PySem.W.Frag}
end
end L2
namespace HT
open PySem PyProof.Rows PySem.Spec
theorem noFill_tuple_mul:fillsNumberSlot (.type "tuple") "mul" = pure false :=
  PySem.fillsNumberSlot_seq (id:="tuple.__mul__") (r:=some (.builtin "tuple.__rmul__")) F.slot_tuple_mul.lookup (by decide +kernel) F.slot_tuple_rmul.lookup (by decide +kernel)
theorem repeat_tuple:seqRepeat? (.type "tuple")=pure (some (.builtin "tuple.__mul__")):=by
  unfold seqRepeat?
  rw [PySem.seqSlot_of (T:="tuple") (name:="__mul__") (id:="tuple.__mul__") F.slot_tuple_mul.lookup (by decide +kernel),PySem.seqSlot_of (T:="tuple") (name:="__rmul__") (id:="tuple.__rmul__") F.slot_tuple_rmul.lookup (by decide +kernel)]
  rfl
theorem int_rmul_tuple (a : Int) (t : Tok) (l : Addr) (items : Array Value) (n : Nat) (dd : Option Addr) (sl : Array (Option Value)) :
    Meets (Builtin.«int.__rmul__» ⟨[.int a t,.ref l],[]⟩) (fun _ R s=>s.heap.get? l=some { cls:=.type "tuple",dict:=dd,data:=.seq items n,slots:=sl }∧R (.ok (.ret Value.notImplemented)) s) :=
  .of_wp fun prog w A R s h=>by obtain ⟨hp,g,d,tk,os⟩:=s;obtain ⟨hl,h⟩:=h;wp_walk;exact ⟨_,rfl,h⟩
theorem tuple_mul1 (t : Tok) (l : Addr) (x : Value) (n : Nat) (dd : Option Addr) (sl : Array (Option Value)) :
    Meets (Builtin.«tuple.__mul__» ⟨[.ref l,.int 1 t],[]⟩) (fun _ R s=>s.heap.get? l=some { cls:=.type "tuple",dict:=dd,data:=.seq #[x] n,slots:=sl }∧R (.ok (.ret (.ref l))) s) :=
  .of_wp fun prog w A R s h=>by obtain ⟨hp,g,d,tk,os⟩:=s;obtain ⟨hl,h⟩:=h;have f1:=AutoSeq1.idx_int;have f2:=AutoSeq1.sub_tuple_tuple;wp_walk using wpAny_loadPart' hl;exact ⟨_,rfl,h⟩
theorem tuple_mulN (k : Nat) (t : Tok) (l : Addr) (x : Value) (n : Nat) (dd : Option Addr) (sl : Array (Option Value)) (h2 : 2 ≤ k) (hk : k ≤ 1000) (hsz : ((List.replicate (Int.toNat (k : Int)) #[x]).foldl (· ++ ·) #[]).size ≤ sizeLine) :
    Meets (Builtin.«tuple.__mul__» ⟨[.ref l,.int (k:Int) t],[]⟩) (fun _ R s=>s.heap.get? l=some { cls:=.type "tuple",dict:=dd,data:=.seq #[x] n,slots:=sl }∧R (.ok (.ret (.ref s.heap.objs.size))) { s with heap:=s.heap.push { cls:=.type "tuple",data:=.seq ((List.replicate (Int.toNat (k:Int)) #[x]).foldl (·++·) #[]) } }) :=
  .of_wp fun prog w A R s h=>by
    obtain ⟨hp,g,d,tk,os⟩:=s
    obtain ⟨hl,h⟩:=h
    have f1:=AutoSeq1.idx_int
    have f2:=AutoSeq1.sub_tuple_tuple
    have hc0:¬ (decide ((k:Int) < -2 ^ 63) || decide ((k:Int) ≥ 2 ^ 63))=true:=by simp;lia
    have hc1:¬ ((#[x]:Array Value).isEmpty || (k:Int) == 1)=true:=by simp;lia
    have hc2:¬ (decide ((k:Int)≤0) || (#[x]:Array Value).isEmpty)=true:=by simp;lia
    have hc3:¬ (((#[x]:Array Value).size:Int)*(k:Int) > (2 ^ 63 - 1) / 8):=by simp;lia
    have hc4:¬ Builtin.Tuple.tupleTooMany (((#[x]:Array Value).size:Int)*(k:Int))=true:=by
      unfold Builtin.Tuple.tupleTooMany
      have:(1000:Int)≤(sizeLine:Int):=by decide
      simp;lia
    wp_walk using wpAny_loadPart' hl
    rw [if_neg hc0]
    wp_walk using wpAny_loadPart' hl
    rw [if_neg hc1]
    (try dsimp only)
    rw [if_neg hc2]
    (try dsimp only)
    rw [if_neg hc3]
    (try dsimp only)
    rw [if_neg hc4]
    refine wpAny_bind (m:=Builtin.Tuple.tupleExact _) (wpAny_newObj_type (wpAny_pure ?_) hsz)
    exact ⟨_,rfl,h⟩
theorem foldl_one (x:Value):∀ (k:Nat) (acc:List Value),((List.replicate k #[x]).foldl (·++·) acc.toArray)=(acc++List.replicate k x).toArray
  | 0,acc=>by simp
  | k+1,acc=>by
    rw [List.replicate_succ,List.foldl_cons]
    have:acc.toArray++#[x]=(acc++[x]).toArray:=by simp
    rw [this,foldl_one x k (acc++[x]),List.replicate_succ,List.append_assoc];rfl
theorem rep_tup {prog : Program} {w : World} {A : Around} {E : Value → Shared → Prop} {s : Shared} {l : Addr} {x : Value} {k : Nat} {t : Tok} {Q : Value → Shared → Prop} (hl : IsTup s.heap l #[x]) (h1 : 1 ≤ k) (hk : k ≤ 1000)
    (q1:k=1→Q (.ref l) s) (q2:2≤k→Q (.ref s.heap.objs.size) { s with heap:=s.heap.push { cls:=.type "tuple",data:=.seq (List.replicate k x).toArray } }):wpAny (model prog w) A (binaryOp .Mult (.ref l) (.int (k:Int) t)) Q E s:=by
  obtain ⟨⟨cls,dd,data,sl⟩,ho,hc,n,hd⟩:=id hl
  simp only at hc hd
  subst hc hd
  refine wpAny_binaryOp_repeat_ref (T:="tuple") (U:="int") (by decide) ⟨_,ho,rfl⟩ (fun s'=>typeIs_int s' k t) noFill_tuple_mul F.fills_int_mul F.slot_int_rmul repeat_tuple F.slot_int_index.lookup
    (call_meets F.slot_int_rmul (typeIs_int s k t) F.entry_int_rmul (F.args_int_rmul_2 _ _) (int_rmul_tuple k t l #[x] n dd sl) ⟨ho,rfl,⟨_,ho,rfl⟩,?_⟩)
  by_cases hk1:k=1
  · subst hk1
    exact call_meets F.slot_tuple_mul ⟨_,ho,rfl⟩ F.entry_tuple_mul (F.args_tuple_mul_2 _ _) (tuple_mul1 t l x n dd sl) ⟨ho,q1 rfl⟩
  · have e : (List.replicate (Int.toNat (k : Int)) #[x]).foldl (· ++ ·) #[] = (List.replicate k x).toArray := by
      rw [Int.toNat_natCast]
      have:=foldl_one x k []
      rw [List.nil_append] at this
      exact this
    refine call_meets F.slot_tuple_mul ⟨_,ho,rfl⟩ F.entry_tuple_mul (F.args_tuple_mul_2 _ _) (tuple_mulN k t l x n dd sl (by lia) hk ?_) ⟨ho,?_⟩
    · rw [e,List.size_toArray,List.length_replicate];exact Nat.le_of_lt (L2.small1000 hk)
    · rw [e];exact q2 (by lia)
end HT
namespace L2
open PySem PySem.Spec PyProof.Rows
section
variable {X:Cx} {K:PySem.W.Frag}
def rRepT (K:PySem.W.Frag):R2:=fun x y H Q=>∃ a k v,x=.ref a∧y=.int ((k:Nat):Int)∧SqT K H a [v]∧1≤k∧k≤1000∧(k=1→Q (.ref a) H)∧(2≤k→∀ p,H p=none→Q (.ref p) (upd H p (.tup (List.replicate k v))))
theorem Vals.repl {v:V} {u:Value} (r:RelV v u):∀ k:Nat,Vals (List.replicate k v) (List.replicate k u)
  | 0=>.nil
  | k+1=>.cons r (Vals.repl r k)
theorem op_repT:OpR X (binaryOp .Mult) (rRepT X.K):=by
  intro pins s σ H x y v u Q I rx ry h
  obtain ⟨a,k,w,rfl,rfl,ha,h1,hk,q1,q2⟩:=h
  cases rx
  obtain ⟨t,rfl⟩:=ry
  obtain ⟨its,r,p1,_⟩:=I.tuple ha
  cases r with
  | cons rw r =>
  cases r with
  | nil =>
  refine HT.rep_tup p1 h1 hk (fun z=>⟨.ref a,H,I,rfl,q1 z⟩) fun z=>?_
  refine ⟨.ref s.heap.objs.size,_,I.laid (t':=s.toks) (o:=.tup (List.replicate k w)) (fun b ob q=>Heap.get?_push_of_some _ q) (Nat.le_refl _) ?_,rfl,q2 z _ (I.hok.fresh (Nat.le_refl _))⟩
  exact ⟨by rw [List.length_replicate];exact Nat.le_of_lt (small1000 hk),_,Vals.repl rw k,IsTup.new _ _⟩
end
end L2
namespace L2
open PySem PySem.Spec PyProof.Rows
section
variable {X:Cx}
end
section
variable {X:Cx} {e es:Expr} {te ts:TE} {pos p2:Pos}
end
end L2
namespace L2
open PySem PySem.Spec PyProof.Rows
section
variable {X:Cx}
end
section
variable {prog:Program} {w:World} {A:Around} {R:Result→Shared→Prop} {I:Addr} {fp wr:List Addr} {n:Nat} {P:Nat→Value→Prop} {St:Nat→Heap→Prop} {dv:Value}
end
section
variable {X:Cx} {pins:List (Addr×Obj)} {σ:St} {H0:Hp} {s:Shared} {l:Addr} {Q:VK}
end
section
variable {X:Cx} {p pos kpos kp:Pos} {e:Expr} {te:TE} {d:Int} {kj:Nat}
end
end L2
namespace HT
open PySem PyProof.Rows
variable {prog:Program} {w:World} {A:Around} {E:Value→Shared→Prop} {s:Shared}
end HT
namespace L2
open PySem PySem.Spec PyProof.Rows
section
variable {X:Cx} {e es:Expr} {te ts:TE} {pos p2:Pos}
end
end L2
namespace HT
open PySem PyProof.Rows
section
open PySem.SeqAt
open PySem.AutoSeq1 (wpAny_loadPart')
open PySem.MeetsSeq PySem.MeetsSeq2 PySem.MeetsSeq3
end
section
variable {prog:Program} {w:World} {A:Around} {E:Value→Shared→Prop} {s:Shared}
end
end HT
namespace L2
open PySem PySem.Spec PyProof.Rows
section
variable {X:Cx} {pos:Pos}
def rCountN:V→List V→Hp→VK→Prop:=fun x vs H Q=>∃ l,∃ os:List (Option Int),x=.ref l∧vs=[.non]∧H l=some (.lst (os.map fun o=>o.elim V.non V.int))∧Q (.int (os.countP (·.isNone):Nat)) H
theorem mt_countN:MtM X "list.count" rCountN:=by
  intro pins s σ H x vs v us Q I rx rv h
  obtain ⟨l,os,rfl,rfl,hH,q⟩:=h
  cases rx
  obtain ⟨u,rfl,ru⟩:=rv.one
  cases (show u=Value.none from ru)
  obtain ⟨z,its,n,r,hl,e⟩:=I.lstM hH
  have hall:∀ (os:List (Option Int)) (its:List Value),Vals (os.map fun o=>o.elim V.non V.int) its→its.countP (fun y=>y == Value.none)=os.countP (·.isNone)∧∀ y∈its,y=.none∨∃ a t,y=.int a t:=by
    intro os
    induction os with
    | nil=>intro its r;cases r;exact ⟨rfl,by simp⟩
    | cons o os ih =>
      intro its r
      cases r with
      | cons h t =>
        obtain ⟨i1,i2⟩:=ih _ t
        cases o with
        | none =>
          cases (show _=Value.none from h)
          refine ⟨by rw [List.countP_cons,List.countP_cons,i1];rfl,fun y hy=>?_⟩
          rcases List.mem_cons.mp hy with rfl | hy
          · exact .inl rfl
          · exact i2 y hy
        | some a =>
          obtain ⟨tk,rfl⟩:=(show ∃ t,_=Value.int a t from h)
          refine ⟨by rw [List.countP_cons,List.countP_cons,i1];rfl,fun y hy=>?_⟩
          rcases List.mem_cons.mp hy with rfl | hy
          · exact .inr ⟨a,tk,rfl⟩
          · exact i2 y hy
  obtain ⟨c1,c2⟩:=hall os its r
  refine call_meets F.slot_list_count ⟨_,e,rfl⟩ F.entry_list_count (F.args_list_count_2 _ _) (SeqAt.list_countAt l its.toArray n _ _ .none (fun y=>y == Value.none)) ⟨e,fun y hy=>?_,?_⟩
  · have hy':y∈its:=by simpa using hy
    rcases c2 y hy' with rfl | ⟨a,t,rfl⟩
    · exact SeqAt.EqAt.same _
    · exact SeqAt.EqAt.int_none a t
  · refine ⟨.int _,H,I.tok _,⟨_,rfl⟩,?_⟩
    show Q (.int (its.toArray.toList.countP (fun y=>y == Value.none):Nat)) H
    rw [List.toList_toArray,c1]
    exact q
end
end L2
namespace L2
open PySem PySem.Spec PyProof.Rows
section
variable {prog:Program} {w:World} {A:Around} {E:Value→Shared→Prop} {s:Shared} {it d:Addr} {i ep:Nat} {es:Array DictEntry} {od:Obj}
theorem keys_iter {Q : Value → Shared → Prop} (lo : (d == sysModules) = false) (g : s.heap.get? d = some od) (x : od.ExactDict) (dat : od.data = .dict es ep)
    (k:Q (.ref s.heap.objs.size) { s with heap:=s.heap.push { cls:=.type "dict_keyiterator",data:=.fields #[.ref d,.int 0 0,.int es.size 0,.int ep 0] } }):wpAny (model prog w) A (pyIter (.ref d)) Q E s:=by
  have ty:s.TypeIs (.ref d) "dict":=⟨od,g,x.1⟩
  refine wpAny_pyIter_slot ty PySem.F.slot_dict_iter (wpAny_call_entry PySem.F.slot_dict_iter ty PySem.F.entry_dict_iter ?_ (PySem.F.args_dict_iter_1 _))
  unfold Builtin.«dict.__iter__» Builtin.Dict.dictSlotNone
  refine wpAny_bind (wpAny_bind (wpAny_notOrdered_dict ty ?_))
  show wpAny (model prog w) A.in1 (pure (Value.ref d)) _ _ s
  refine wpAny_pure ?_
  show wpAny (model prog w) A.in1 (Builtin.Dict.showsAll d >>= _) _ _ s
  unfold Builtin.Dict.showsAll
  rw [if_neg (show ¬ (d == sysModules)=true by rw [lo];decide)]
  refine wpAny_bind (wpAny_pure (wpAny_bind (wpAny_dictEntries g dat (wpAny_bind (wpAny_dictEpoch g dat (wpAny_bind (wpAny_newObj_type (wpAny_pure ⟨_,rfl,"dict_keyiterator",_,⟨_,Heap.get?_push_size _ rfl,rfl⟩,PySem.F.slot_dict_keyiterator_next.lookup,?_⟩))))))))
  simpa [rawInt] using k
theorem keys_next {e : DictEntry} {Q : Option Value → Shared → Prop} (st : s.heap.IsKeyIter it d i es.size ep) (g : s.heap.get? d = some od) (dat : od.data = .dict es ep) (he : es[i]? = some e)
    (k:∀ h',h'.IsKeyIter it d (i+1) es.size ep→Heap.SameBut it s.heap h'→Q (some e.key) { s with heap:=h' }):wpAny (model prog w) A (pyNext (.ref it)) Q E s:=by
  obtain ⟨o,go,oc,odt⟩:=id st
  unfold pyNext
  refine wpAny_bind (wpAny_attempt (wpAny_callSpecial?_slot (name:=Str.ofString "__next__") st.typeIs PySem.F.slot_dict_keyiterator_next (wpAny_call_entry PySem.F.slot_dict_keyiterator_next st.typeIs PySem.F.entry_dict_keyiterator_next ?_ (PySem.F.args_dict_keyiterator_next_1 _))))
  refine wpAny_bind (wpAny_pure (wpAny_bind (wpAny_bind ?_)))
  refine wpAny_bind (wpAny_typeNameOfWhole_keyiter st.typeIs (wpAny_pure (wpAny_bind (wpAny_fieldsOf go odt ?_))))
  simp only [show Builtin.Dict_items.ownsTuple "dict_keyiterator" = false by decide,Bool.false_eq_true,if_false]
  show wpAny (model prog w) _ (if (Value.ref d == Value.none)=true then _ else _) _ _ s
  rw [if_neg (show ¬ (Value.ref d == Value.none)=true by simp)]
  refine wpAny_bind (wpAny_pure (wpAny_bind (wpAny_dictEntries g dat ?_)))
  rw [if_neg (show ¬ ((es.size:Int) != (es.size:Int))=true by simp)]
  refine wpAny_bind (wpAny_pure (wpAny_bind (wpAny_dictEpoch g dat ?_)))
  rw [if_neg (show ¬ ((ep:Int) != (ep:Int))=true by simp)]
  refine wpAny_pure ?_
  simp only [show ¬ ((i:Int)<0) by lia,if_false,Int.toNat_natCast,he]
  refine wpAny_bind (wpAny_bind (wpAny_typeNameOfWhole_keyiter st.typeIs (wpAny_pure ?_)))
  refine wpAny_bind (wpAny_isOneOf_keyiter st.typeIs ?_)
  show wpAny (model prog w) _ (setField (.ref it) 1 (rawInt ((i:Int)+1)) >>= _) _ _ s
  refine wpAny_bind (wpAny_setField go odt (by simp) ?_)
  have st':(s.heap.update it (Obj.mapFields (·.setIfInBounds 1 (rawInt ((i:Int)+1))))).IsKeyIter it d (i+1) es.size ep:=by
    refine ⟨_,Heap.get?_update_self _ go (Obj.isFreed_of_fields (Obj.data_mapFields odt _)),(Obj.cls_mapFields ..).trans oc,?_⟩
    rw [Obj.data_mapFields odt]
    simp [rawInt]
  refine wpAny_bind (wpAny_holding (wpAny_bind (wpAny_isOneOf_keyiter (s:={ s with heap:=s.heap.update it (Obj.mapFields (·.setIfInBounds 1 (rawInt ((i:Int)+1)))) }) st'.typeIs ?_)))
  show wpAny (model prog w) _ (pure e.key) _ _ _
  exact wpAny_pure (wpAny_pure ⟨_,rfl,wpAny_pure (k _ st' (Heap.SameBut.update ..))⟩)
theorem keys_end {Q : Option Value → Shared → Prop} (hh : A.handled = none) (st : s.heap.IsKeyIter it d i es.size ep) (g : s.heap.get? d = some od) (dat : od.data = .dict es ep) (he : es.size ≤ i)
    (k:∀ h',Heap.ExtBut it s.heap h'→Q none { s with heap:=h' }):wpAny (model prog w) A (pyNext (.ref it)) Q E s:=by
  obtain ⟨o,go,oc,odt⟩:=id st
  unfold pyNext
  refine wpAny_bind (wpAny_attempt (wpAny_callSpecial?_slot (name:=Str.ofString "__next__") st.typeIs PySem.F.slot_dict_keyiterator_next (wpAny_call_entry PySem.F.slot_dict_keyiterator_next st.typeIs PySem.F.entry_dict_keyiterator_next ?_ (PySem.F.args_dict_keyiterator_next_1 _))))
  refine wpAny_bind (wpAny_pure (wpAny_bind (wpAny_bind ?_)))
  refine wpAny_bind (wpAny_typeNameOfWhole_keyiter st.typeIs (wpAny_pure (wpAny_bind (wpAny_fieldsOf go odt ?_))))
  simp only [show Builtin.Dict_items.ownsTuple "dict_keyiterator" = false by decide,Bool.false_eq_true,if_false]
  show wpAny (model prog w) _ (if (Value.ref d == Value.none)=true then _ else _) _ _ s
  rw [if_neg (show ¬ (Value.ref d == Value.none)=true by simp)]
  refine wpAny_bind (wpAny_pure (wpAny_bind (wpAny_dictEntries g dat ?_)))
  rw [if_neg (show ¬ ((es.size:Int) != (es.size:Int))=true by simp)]
  refine wpAny_bind (wpAny_pure (wpAny_bind (wpAny_dictEpoch g dat ?_)))
  rw [if_neg (show ¬ ((ep:Int) != (ep:Int))=true by simp)]
  refine wpAny_pure ?_
  simp only [show ¬ ((i:Int)<0) by lia,if_false,Int.toNat_natCast,Array.getElem?_eq_none he]
  refine wpAny_bind (wpAny_bind (wpAny_typeNameOfWhole_keyiter st.typeIs (wpAny_pure ?_)))
  show wpAny (model prog w) _ (setField (.ref it) 0 .none >>= _) _ _ s
  refine wpAny_bind (wpAny_setField go odt (by simp) ?_)
  show wpAny (model prog w) _ (newExc (.type "StopIteration") [] >>= _) _ _ _
  refine wpAny_bind ?_
  simp only [newExc,newTuple]
  refine wpAny_bind (wpAny_newObj_type ?_ (by size_fits))
  refine wpAny_bind (m:=firstArgMember _ _) (wpAny_of_eq (a:=Value.none) (by first | rfl | (simp only [firstArgMember];rfl)) (wpAny_newObj_type ?_ (by size_fits)))
  simp only [raiseNew]
  refine wpAny_bind (wpAny_handled ?_)
  rw [show A.in1.handled=none from hh]
  refine wpAny_bind (wpAny_pure (wpAny_throw (?_:wpAny _ _ _ _ _ _)))
  exact wpAny_bind (wpAny_isInstance (b:=true) (T:="StopIteration") ⟨_,Heap.get?_push_size _ rfl,rfl⟩ isSubtype_stop (wpAny_pure (k _ (((Heap.SameBut.update ..).extBut.push _).push _))))
end
def Itd (a:Addr) (od:Obj):It :=
  ⟨fun i H=>∃ kvs,H a=some (.frz od (.dT kvs))∧i<kvs.length,fun i H x H'=>H'=H∧∀ kvs,H a=some (.frz od (.dT kvs))→∃ b k v,x=.ref b∧kvs[i]?=some (k,v)∧H b=some (.tup (k.map kV)),fun i H=>∃ kvs,H a=some (.frz od (.dT kvs))∧kvs.length≤i⟩
theorem Paired.at' {α β:Type} {F:α→β→Prop}:∀ {l:List α} {m:List β},Paired F l m→∀ {i:Nat} {x:α},l[i]?=some x→∃ y,m[i]?=some y∧F x y
  | _,_,.cons r t,0,x,h=>by cases h;exact ⟨_,rfl,r⟩
  | _,_,.cons r t,i+1,x,h=>Paired.at' t h
theorem turn_dict {P:Program} {w:World} {K:PySem.W.Frag} {tg:Expr} (a it:Addr) (od:Obj) {es:Array DictEntry} {ep:Nat} (dat:od.data=.dict es ep):Turn P w K tg (Itd a od) [it] it (fun i h=>h.IsKeyIter it a i es.size ep) where
  mem:=by simp
  obj:=fun i h st b hb=>by
    have e:b=it:=by simpa using hb
    subst e
    obtain ⟨o,e,c,d⟩:=st
    exact ⟨o,e,fun v z=>by rw [d] at z;cases z⟩
  keep:=fun i h h' st k=>st.at fun o e=>k it (by simp) o e
  item:=by
    intro X hP hw hK hc i pins s σ H E I hf st hg
    subst hP hw hK
    obtain ⟨kvs,e,hi⟩:=hg
    obtain ⟨g,z,y,xs,r,o,es',ep',h1,h2,h3,h4,h5⟩:=(show ObjOk X.prog X.w H s.heap a (.frz od (.dT kvs)) from I.hok a _ e)
    rw [g] at h1
    cases h1
    rw [dat] at h3
    cases h3
    obtain ⟨q,hq,q1,q2,q3⟩:=Paired.at' r (List.getElem?_eq_getElem hi)
    have he:es[i]?=some (entryOfKey (tupleKind (mixKind X.prog X.w)) q):=by rw [entry_at h4,hq];rfl
    obtain ⟨f0,f1,f2,f3,f4,f5⟩:=hf it (by simp)
    refine keys_next st g dat he fun h' st' sb=>?_
    have I1:Inv X pins σ H { s with heap:=h' }:=I.turned (t':=s.toks) (fun b o hb e=>(sb.2 b hb).trans e) f0 f1 f3 f4 f5
    obtain ⟨o,e',c,dd⟩:=id st'
    refine ⟨_,rfl,go_of (s:={ s with heap:=h' }) e' c dd (by decide) ⟨.ref q.2.1,H,I1,rfl,⟨rfl,fun ks hk=>?_⟩,st',fun b hb=>(hf b hb).1⟩⟩
    rw [e] at hk
    cases hk
    exact ⟨q.2.1,kvs[i].1,kvs[i].2,rfl,List.getElem?_eq_getElem hi,q2⟩
  done:=by
    intro X hP hw hK hc i pins s σ H E I hf st hg
    subst hP hw hK
    obtain ⟨kvs,e,hi⟩:=hg
    obtain ⟨g,z,y,xs,r,o,es',ep',h1,h2,h3,h4,h5⟩:=(show ObjOk X.prog X.w H s.heap a (.frz od (.dT kvs)) from I.hok a _ e)
    rw [g] at h1
    cases h1
    rw [dat] at h3
    cases h3
    obtain ⟨f0,f1,f2,f3,f4,f5⟩:=hf it (by simp)
    exact keys_end (I.ok.hd hc) st g dat (by rw [size_of_entries h4,← Paired.length r];exact hi) fun h' eb=>⟨rfl,I.turned (t':=s.toks) (fun b o hb e=>eb b o hb e) f0 f1 f3 f4 f5⟩
  self:=fun _ _ _ _ _ st h=>wpAny_pyIter_keyiter st h
section
variable {X:Cx} {tg:Expr}
def iDictT (tl:TE):TI:=fun σ H R=>tl σ H fun x H1=>∃ a kvs,x=.ref a∧H1 a=some (.dT kvs)∧∀ od,R (Itd a od) (upd H1 a (.frz od (.dT kvs)))
theorem pi_dictT {l:Expr} {tl:TE} (hl:PE X l tl):PI X tg l (iDictT tl):=by
  intro pins s σ H R I h
  refine thn (hl pins s σ H _ I h) fun v s1 ⟨x,H1,I1,r1,q1⟩=>?_
  obtain ⟨a,kvs,e,hd,q⟩:=q1
  subst e
  cases r1
  obtain ⟨z,y,xs,r,od,es,ep,h1,h2,h3,h4,h5⟩:=(show ObjOk X.prog X.w H1 s1.heap a (.dT kvs) from I1.hok a _ hd)
  have I2:Inv X pins σ (upd H1 a (.frz od (.dT kvs))) s1:=I1.write (h':=s1.heap) (t':=s1.toks) (x:=a) (e:=a) (by rw [hd];exact True.intro) (.inl rfl) (fun b u _ g=>g) ⟨od,h1⟩
    ⟨h1,z,y,xs,KT.keeps r (fun c ys ec=>by rw [upd_ne (ne_of ec hd (fun z=>nomatch z))];exact ec),od,es,ep,h1,h2,h3,h4,h5⟩
  refine keys_iter y h1 h2 h3 ?_
  refine ⟨s1.heap.objs.size,[s1.heap.objs.size],_,_,_,rfl,I2.kept (t':=s1.toks) fun b o e=>Heap.get?_push_of_some _ e,turn_dict a _ od h3,⟨_,Heap.get?_push_size _ rfl,rfl,rfl⟩,fun b hb=>?_,q od⟩
  have e:b=s1.heap.objs.size:=by simpa using hb
  subst e
  exact I2.fpOk (Nat.le_refl _) (I2.hok.fresh (Nat.le_refl _))
end
theorem for_dict {a : Addr} {od : Obj} {kvs : List (List Key × V)} {g : TG} {tb : TS} {D : Ends} {σ : St} {H : Hp} (Pv : Nat → St → Hp → Prop) (h0 : Pv 0 σ H) (hl : ∀ i σ H, i ≤ kvs.length → Pv i σ H → H a = some (.frz od (.dT kvs)))
    (hs:∀ i b k v σ H,kvs[i]?=some (k,v)→H b=some (.tup (k.map kV))→Pv i σ H→g (.ref b) σ H fun σ2 H2=>tb { D with nx:=Pv (i+1),ct:=Pv (i+1),bk:=D.nx } σ2 H2) (hd:∀ σ H,Pv kvs.length σ H→D.nx σ H) :
    ∃ W:Nat→Nat→St→Hp→Prop,(∃ m,W 0 m σ H)∧∀ i m σ H,W i m σ H →
      ((Itd a od).stop i H∧D.nx σ H)∨((Itd a od).go i H∧∃ N:St→Hp→Prop,(∀ σ' H',N σ' H'→∃ m',m'<m∧W (i+1) m' σ' H')∧∀ x H',(Itd a od).yld i H x H'→g x σ H' fun σ2 H2=>tb { D with nx:=N,ct:=N,bk:=D.nx } σ2 H2):=by
  refine ⟨fun i m σ H=>m=kvs.length - i∧i≤kvs.length∧Pv i σ H,⟨kvs.length,by simp,Nat.zero_le _,h0⟩,?_⟩
  rintro i m σ H ⟨rfl,hi,p⟩
  have q:=hl i σ H hi p
  by_cases hlt:i<kvs.length
  · refine .inr ⟨⟨kvs,q,hlt⟩,Pv (i+1),fun σ' H' p'=>⟨kvs.length - (i+1),by lia,rfl,hlt,p'⟩,fun x H' y=>?_⟩
    obtain ⟨e,y⟩:=y
    subst e
    obtain ⟨b,k,v,rfl,h1,h2⟩:=y kvs q
    exact hs i b k v σ _ h1 h2 p
  · have e:i=kvs.length:=by lia
    subst e
    exact .inl ⟨⟨kvs,q,Nat.le_refl _⟩,hd σ H p⟩
section
variable {prog:Program} {w:World} {K:Type} [DecidableEq K] {knd:HeapKind prog w K} {A:Around} {E:Value→Shared→Prop} {s:Shared} {d a:Addr} {xs:List (K×Addr×Value)} {k:K}
end
section
variable {X:Cx} {o e f:Expr} {apos cpos:Pos} {td ty tx:TE}
end
end L2
namespace RP
end RP
namespace L2
open PySem PySem.Spec PyProof.Rows
section
variable {X:Cx}
end
end L2
namespace HT
open PySem PyProof.Rows
variable {prog:Program} {w:World} {A:Around} {E:Value→Shared→Prop} {s:Shared}
end HT
namespace L2
open PySem PySem.Spec PyProof.Rows
section
variable {X:Cx} {e es:Expr} {te ts:TE} {pos p2:Pos}
end
end L2
namespace L2
open PySem PySem.Spec PyProof.Rows
section
variable {prog:Program} {w:World} {A:Around} {E:Value→Shared→Prop} {s:Shared}
end
section
variable {X:Cx}
end
end L2
namespace L2
open PySem PySem.Spec PyProof.Rows
section
variable {X:Cx}
end
end L2
namespace L2
open PySem PySem.Spec PyProof.Rows
section
variable {prog:Program} {w:World} {A:Around} {E:Value→Shared→Prop} {s:Shared}
end
section
variable {X:Cx} {pins:List (Addr×Obj)} {σ:St}
end
section
variable {X:Cx} {l m:Expr} {t:TA} {p p2 pos pos2:Pos}
end
end L2
namespace L2
open PySem PySem.Spec PyProof.Rows
section
variable {X:Cx} {a:Expr} {t:TA} {p p2 pos pos2:Pos}
end
end L2
namespace L2
open PySem PySem.Spec PyProof.Rows
section
variable {X:Cx}
end
end L2
namespace L2
open PySem PySem.Spec PyProof.Rows
section
variable {X:Cx} {tg:Expr}
end
end L2
namespace L2
open PySem PySem.Spec PyProof.Rows
section
variable {X:Cx} {pos:Pos} {kx vx:Expr} {tk tv:TE}
end
end L2
namespace L2
open PySem PySem.Spec PyProof.Rows
open AutoSeq1 (wpAny_loadPart')
section
variable {prog:Program} {w:World} {A:Around} {E:Value→Shared→Prop} {s:Shared} {d:Addr} {ep:Nat} {es:Array DictEntry} {od:Obj}
end
section
variable {X:Cx}
end
end L2
namespace L2
open PySem PySem.Spec PyProof.Rows
section
variable {X:Cx} {es:List Expr} {te:TE} {t:TA} {pos:Pos}
theorem pa_T {l:List Expr} {k:Nat} (ha:PE X (.Tuple l k pos) te) (hr:PA X es t):PA X (.Tuple l k pos::es) (tCons te t):=pa_cons ha hr (by rfl)
theorem pa_C {c:Const} {k:Nat} (ha:PE X (.Constant c k pos) te) (hr:PA X es t):PA X (.Constant c k pos::es) (tCons te t):=pa_cons ha hr (by rfl)
theorem pa_B {a b:Expr} {o:Operator} (ha:PE X (.BinOp a o b pos) te) (hr:PA X es t):PA X (.BinOp a o b pos::es) (tCons te t):=pa_cons ha hr (by rfl)
theorem pa_N {x:Str} (ha:PE X (.Name x pos) te) (hr:PA X es t):PA X (.Name x pos::es) (tCons te t):=pa_cons ha hr (by rfl)
end
theorem gName_eq {i:Nat} {v:V} {σ:St} {H:Hp} {Q:St→Hp→Prop}:gName i v σ H Q=Q (σ.set i (some v)) H:=rfl
theorem tSeq_c {i:Nat} {v:V} {u:TS} {D:Ends} {σ:St} {H:Hp}:tSeq (tAsg (tC v) (gName i)) u D σ H=u D (σ.set i (some v)) H:=rfl
end L2
namespace L2
open PySem PySem.Spec PyProof.Rows
section
variable {X:Cx} {tg:Expr}
end
end L2
namespace L2
open PySem PySem.Spec PyProof.Rows
inductive IsC:Expr→V→Prop where
  | int {n:Int} {k:Nat} {p:Pos}:IsC (.Constant (.int n) k p) (.int n)
  | bl {b:Bool} {k:Nat} {p:Pos}:IsC (.Constant (.bool b) k p) (.bl b)
  | neg {n:Int} {k:Nat} {p q:Pos}:IsC (.UnaryOp .USub (.Constant (.int n) k p) q) (.int (-n))
inductive IsPs:List Expr→List (V×V)→Prop where
  | nil:IsPs [] []
  | cons {a b:Expr} {x y:V} {k:Nat} {p:Pos} {es:List Expr} {l:List (V×V)}:IsC a x→IsC b y→IsPs es l→IsPs (.Tuple [a,b] k p::es) ((x,y)::l)
inductive RetPs:List Stmt→List (V×V)→Prop where
  | mk {es:List Expr} {l:List (V×V)} {p q:Pos}:IsPs es l→RetPs [.Return (some (.List es p)) q] l
section
variable {X:Cx}
end
end L2
namespace L2
open PySem PySem.Spec PyProof.Rows
section
variable {X:Cx}
end
end L2
namespace L2
open PySem PySem.Spec PyProof.Rows
section
variable {prog:Program} {w:World} {A:Around} {E:Value→Shared→Prop} {s:Shared} {T:String} {r d:Addr} {n:Nat} {P:Nat→Value→Prop} {OK:Heap→Prop}
end
section
variable {X:Cx}
end
end L2
namespace L2
open PySem PySem.Spec PyProof.Rows
section
variable {X:Cx} {o e f:Expr} {apos cpos:Pos} {td ty tx:TE}
end
end L2
namespace L2
open PySem PySem.Spec PyProof.Rows
section
variable {X:Cx} {tg:Expr}
end
end L2
namespace L2
open PySem PySem.Spec PyProof.Rows
section
variable {prog:Program} {w:World} {A:Around} {E:Value→Shared→Prop} {s:Shared} {d it v:Addr} {i ep:Nat} {es:Array DictEntry} {od:Obj} {ok ov:Value}
end
section
variable {X:Cx}
end
end L2
namespace RP
def tt (C:Cell→Bool) (e:Edge):Int:=match stepB C e with
  | none=>1
  | some s=>if s % 2=1 then -1 else 0
end RP
namespace RP
end RP
namespace RP
def cr (x1 y1 x2 y2:Int):Int:=if y1=-1∧y2=0∧0<x2 then 1 else if y1=0∧y2=-1∧0<x1 then -1 else 0
end RP
namespace RP
section
variable (U V:Nat→Int)
def hH (i j:Nat):Int:=cr (U j - U i) (V j - V i) (U (j+1) - U i) (V (j+1) - V i)
def gG (i j:Nat):Int:=cr (U j - U i) (V j - V i) (U j - U (i+1)) (V j - V (i+1))
def sE:Nat→Int
  | 0=>0
  | i+1=>sE i+hH U V i (i+1)+gG U V i (i+2)
variable {U V}
variable {n:Nat}
end
end RP
namespace RP
def it (C:Cell→Bool) (b:Edge):Nat→Edge
  | 0=>b
  | k+1=>nxt C (it C b k)
def wW (C:Cell→Bool) (b:Edge):Nat→Int
  | 0=>b.w
  | k+1=>wW C b k+tt C (it C b k)
def th (C:Cell→Bool) (b:Edge) (k:Nat):Int:=2*wW C b k - 1+tt C (it C b k)
end RP
namespace RP
theorem Closed.head {C:Cell→Bool} {b a:Edge} {r:List Edge} (h:Closed C b (a::r)):a=b:=by
  have:=h.1.1
  simpa using this
theorem Closed.rot1 {C:Cell→Bool} {b c:Edge} {r:List Edge} (h:Closed C b (b::r)) (hc:(r++[b])[0]?=some c):Closed C c (r++[b]):=by
  obtain ⟨⟨h0,hs,hE,hn⟩,l,hl,hb⟩:=id h
  refine ⟨⟨hc,fun i e f h1 h2=>?_,fun e he=>hE e (by rcases List.mem_append.mp he with m | m;exact List.mem_cons_of_mem _ m;rw [List.mem_singleton.mp m];exact List.mem_cons_self),?_⟩,?_⟩
  · have hi:=(List.getElem?_eq_some_iff.mp h2).1
    simp only [List.length_append,List.length_cons,List.length_nil] at hi
    rw [List.getElem?_append_left (by lia)] at h1
    rcases Nat.lt_or_ge (i+1) r.length with q | q
    · rw [List.getElem?_append_left q] at h2
      exact hs (i+1) e f (by simpa using h1) (by simpa using h2)
    · have e1:i+1=r.length:=by lia
      rw [List.getElem?_append_right (by lia),e1] at h2
      simp at h2
      have e2:(b::r).length - 1=i+1:=by simp;lia
      rw [e2] at hl
      simp only [List.getElem?_cons_succ] at hl
      rw [hl] at h1
      cases h1
      rw [hb,h2]
  · rw [List.nodup_append]
    have:=List.nodup_cons.mp hn
    exact ⟨this.2,by simp,fun x hx y hy e=>by rw [List.mem_singleton.mp hy] at e;rw [e] at hx;exact this.1 hx⟩
  · refine ⟨b,by simp,?_⟩
    cases r with
    | nil =>
      simp at hl hc
      subst hc
      subst hl
      exact hb
    | cons a r =>
      simp at hc
      have:=hs 0 b a rfl rfl
      rw [← this,hc]
theorem Closed.rot {C:Cell→Bool}:∀ (j:Nat) {b e:Edge} {es:List Edge},Closed C b es→es[j]?=some e→Closed C e (es.drop j++es.take j)
  | 0,b,e,es,h,he=>by
    have:=h.1.1
    rw [he] at this
    cases this
    simpa using h
  | j+1,b,e,[],h,he=>by simp at he
  | j+1,b,e,a::r,h,he=>by
    have:=h.head
    subst this
    simp only [List.getElem?_cons_succ] at he
    have hj:=(List.getElem?_eq_some_iff.mp he).1
    obtain ⟨c,hc⟩:∃ c,(r++[a])[0]?=some c:=⟨_,List.getElem?_eq_getElem (by simp)⟩
    have h1:=h.rot1 hc
    have h2:=Closed.rot j h1 (by rw [List.getElem?_append_left hj];exact he)
    rw [List.drop_append_of_le_length (by lia),List.take_append_of_le_length (by lia)] at h2
    simpa using h2
end RP
namespace RP
end RP
namespace RP
def at1 (a e:Edge):Int:=if e=a then 1 else 0
def wc (c:Cell) (e:Edge):Int:=if e.c.2=c.2∧c.1<px e then dy e.w else 0
def wd (es:List Edge) (c:Cell):Int:=(es.map (wc c)).sum
end RP
namespace RP
inductive Rch (D:Cell→Bool) (S:List Nat) (a:Cell):Cell→Prop where
  | refl:Rch D S a a
  | step {c:Cell} {s:Nat}:Rch D S a c→s∈S→D (go c s)=true→Rch D S a (go c s)
abbrev no (C:Cell→Bool):Cell→Bool:=fun c=>!C c
end RP
namespace RP
end RP
namespace RP
structure BoxOf (P:List Cell) (l lo r hi:Int):Prop where
  all:∀ c∈P,l<c.1∧c.1<r∧lo<c.2∧c.2<hi
  bot:∃ c∈P,c.2=lo+1
def inBox (l lo r hi:Int) (c:Cell):Prop:=l≤c.1∧c.1≤r∧lo≤c.2∧c.2≤hi
structure FreeOf (D:Cell→Bool) (P:List Cell) (l lo r hi:Int):Prop where
  iff:∀ c,D c=true ↔ (inBox l lo r hi c∧c ∉ P)
section
variable {C D:Cell→Bool} {b:Edge} {es:List Edge} {P:List Cell} {l lo r hi:Int}
end
end RP
namespace RP
end RP
namespace RP
end RP
namespace L2
open PySem PySem.Spec PyProof.Rows
def But1 (P:Addr) (H H':Hp):Prop:=∀ b o,b≠P→H b=some o→H' b=some o
theorem But1.trans {P:Addr} {H H1 H2:Hp} (a:But1 P H H1) (b:But1 P H1 H2):But1 P H H2:=fun c o n h=>b c o n (a c o n h)
theorem Same.but1 {P:Addr} {H H':Hp} (h:Same H H'):But1 P H H':=fun b o _ e=>h b o e
abbrev anyO:HO:=.ext fun _=>True
def LamAt (pos:Pos) (qual:Str) (P:Addr) (H:Hp):Prop :=
  ∃ ps,H P=some (.tbl ps)∧(ps=#[]∨∃ c' oc vs t,ps=#[rawInt pos.line,rawInt pos.col,.ref c']∧H c'=some (.frz oc anyO)∧oc.data=.fields vs∧vs[1]?=some (.str qual t))
theorem LamAt.same {pos:Pos} {qual:Str} {P:Addr} {H H':Hp} (h:LamAt pos qual P H) (s:Same H H'):LamAt pos qual P H':=by
  obtain ⟨ps,e,h⟩:=h
  refine ⟨ps,s _ _ e,?_⟩
  rcases h with h | ⟨c',oc,vs,t,e1,e2,e3⟩
  · exact .inl h
  · exact .inr ⟨c',oc,vs,t,e1,s _ _ e2,e3⟩
theorem LamAt.ne {pos:Pos} {qual:Str} {P a:Addr} {H:Hp} {o:HO} (h:LamAt pos qual P H) (e:H a=some o) (n:∀ ps,o≠.tbl ps):a≠P:=by
  rintro rfl
  obtain ⟨ps,e',_⟩:=h
  rw [e] at e'
  exact n ps (Option.some.inj e')
theorem But1.seq {K:PySem.W.Frag} {pos:Pos} {qual:Str} {P a:Addr} {H H':Hp} {xs:List V} (e:But1 P H H') (l:LamAt pos qual P H) (h:SqL K H a xs):SqL K H' a xs:=by
  rcases h with (h | ⟨o,h⟩) | h
  · exact .inl (.inl (e _ _ (l.ne h nofun) h))
  · exact .inl (.inr ⟨o,e _ _ (l.ne h nofun) h⟩)
  · exact .inr h
def Bm (mg:Str→Option Value) (base:Heap):Prop :=
  ∃ bm o,mg "__builtins__" = some (.ref bm)∧bm≠builtinsNs∧bm≠mainGlobals∧base.get? bm=some o∧o.cls=.type "module" ∧ o.dict=some builtinsNs∧o.data=.plain
section
variable {X:Cx} {pins:List (Addr×Obj)} {σ:St} {H:Hp} {s:Shared}
theorem Inv.lamNew {P c' : Addr} {ps more : Array Value} {h1 : Heap} {oc fo : Obj} {tk : Nat} (I : Inv X pins σ H s) (hP : H P = some (.tbl ps)) (hx : Heap.ExtBut P s.heap h1) (hge : s.heap.objs.size ≤ c') (hlt : c' < h1.objs.size)
    (hc:h1.get? c'=some oc) (htb:h1.get? P=some (PySem.W.tabObj (ps++more))) (hfo:fo.isFreed=false) :
    Inv X pins σ (upd (upd (upd H P (.tbl (ps++more))) c' (.frz oc anyO)) h1.objs.size (.frz fo anyO)) { s with heap:=h1.push fo,toks:=tk }:=by
  have hPs:s.heap.get? P=some (PySem.W.tabObj ps):=I.hok P _ hP
  have lP:P<s.heap.objs.size:=Heap.lt_size hPs
  have cP:c'≠P:=Nat.ne_of_gt (Nat.lt_of_lt_of_le lP hge)
  have fP:h1.objs.size≠P:=Nat.ne_of_gt (Nat.lt_trans (Nat.lt_of_lt_of_le lP hge) hlt)
  have fc:h1.objs.size≠c':=Nat.ne_of_gt hlt
  have k1:∀ b o,b≠P→s.heap.get? b=some o→(h1.push fo).get? b=some o:=fun b o n e=>Heap.get?_push_of_some _ (hx b o n e)
  have old:∀ b o,s.heap.get? b=some o→b≠c'∧b≠h1.objs.size:=fun b o e =>
    ⟨Nat.ne_of_lt (Nat.lt_of_lt_of_le (Heap.lt_size e) hge),Nat.ne_of_lt (Nat.lt_of_lt_of_le (Heap.lt_size e) (Nat.le_trans hge (Nat.le_of_lt hlt)))⟩
  have val:∀ b u,b≠P→H b=some u→upd (upd (upd H P (.tbl (ps++more))) c' (.frz oc anyO)) h1.objs.size (.frz fo anyO) b=some u:=fun b u n e=>by
    have lb:=I.hok.lt e
    rw [upd_ne (Nat.ne_of_lt (Nat.lt_of_lt_of_le lb (Nat.le_trans hge (Nat.le_of_lt hlt)))),upd_ne (Nat.ne_of_lt (Nat.lt_of_lt_of_le lb hge)),upd_ne n]
    exact e
  have vP:upd (upd (upd H P (.tbl (ps++more))) c' (.frz oc anyO)) h1.objs.size (.frz fo anyO) P=some (.tbl (ps++more)):=by
    rw [upd_ne fP.symm,upd_ne cP.symm,upd_same]
  have nP:∀ b u,H b=some u→(∀ qs,u≠.tbl qs)→b≠P:=fun b u e n z=>by
    rw [z,hP] at e
    exact n ps (Option.some.inj e).symm
  refine I.un ⟨fun b o e n _ _=>?_,fun b o e n _ _=>?_,fun b o e n _=>?_,fun b o e _=>?_,fun b xs e=>?_,fun b o u e=>?_,fun b qs e=>?_⟩ fun b u e=>?_
  · exact k1 b o (fun z=>by rw [z,hP] at n;cases n) e
  · exact ⟨o.slots,k1 b o (fun z=>by rw [z,hP] at n;cases n) e⟩
  · obtain ⟨n1,n2⟩:=old b o e
    rw [upd_ne n2,upd_ne n1,upd_ne (fun z=>by rw [z,hP] at n;cases n)]
    exact n
  · by_cases z:b=P
    · rw [z]
      exact ⟨_,Heap.get?_push_of_some _ htb⟩
    · exact ⟨o,k1 b o z e⟩
  · exact val b _ (nP b _ e nofun) e
  · exact val b _ (nP b _ e nofun) e
  · by_cases z:b=P
    · rw [z,hP] at e
      cases e
      exact ⟨more,by rw [z];exact vP⟩
    · exact ⟨#[],by rw [val b _ z e];simp⟩
  · by_cases hf:b=h1.objs.size
    · rw [hf,upd_same] at e
      cases e
      rw [hf]
      exact ⟨Heap.get?_push_size _ hfo,trivial,⟨fo,Heap.get?_push_size _ hfo⟩,fun _ _ _ _=>trivial⟩
    · rw [upd_ne hf] at e
      by_cases hb:b=c'
      · rw [hb,upd_same] at e
        cases e
        rw [hb]
        exact ⟨Heap.get?_push_of_some _ hc,trivial,⟨oc,Heap.get?_push_of_some _ hc⟩,fun _ _ _ _=>trivial⟩
      · rw [upd_ne hb] at e
        by_cases hz:b=P
        · rw [hz,upd_same] at e
          cases e
          rw [hz]
          exact Heap.get?_push_of_some _ htb
        · rw [upd_ne hz] at e
          refine (I.hok b u e).stay (fun d v hd q=>k1 d v ?_ q) (fun d q=>val d _ (nP d _ q nofun) q) fun d xs q=>val d _ (nP d _ q nofun) q
          rcases hd with rfl | hd
          · exact hz
          · exact nP d _ hd nofun
def IsLam (qual:Str) (params:Arguments) (body:Expr) (scope:Scope) (f:Addr) (H:Hp):Prop :=
  ∃ c' ctv pm oc vs t,H f=some (.frz (PySem.W.kla_obj "<lambda>" qual params body scope [] pm c' ctv) anyO)∧H c'=some (.frz oc anyO)∧oc.data=.fields vs∧vs[1]?=some (.str qual t)
theorem IsLam.same {qual:Str} {params:Arguments} {body:Expr} {scope:Scope} {f:Addr} {H H':Hp} (h:IsLam qual params body scope f H) (s:Same H H'):IsLam qual params body scope f H' :=
  let ⟨c',ctv,pm,oc,vs,t,e1,e2,r⟩:=h
  ⟨c',ctv,pm,oc,vs,t,s _ _ e1,s _ _ e2,r⟩
def tLam (P:Addr) (pos:Pos) (qual:Str) (params:Arguments) (body:Expr) (scope:Scope):TE:=fun _ H Q =>
  LamAt pos qual P H∧∀ f H',But1 P H H'→LamAt pos qual P H'→H f=none→IsLam qual params body scope f H'→Q (.ref f) H'
theorem tri_ok {pos:Pos} {c:Value}:TriplesOk (#[rawInt pos.line,rawInt pos.col,c]:Array Value).toList:=by
  simp [TriplesOk,rawInt]
theorem tri_among {pos:Pos} {c:Value}:codeAmong pos (#[rawInt pos.line,rawInt pos.col,c]:Array Value).toList=some c:=by
  simp [codeAmong,rawInt]
theorem pe_lam {c P : Addr} {params : Arguments} {body : Expr} {scope : Scope} {pos : Pos} {qual : Str} (hcd : X.env.code = .ref c) (hh : PySem.W.codeHdIn X.K c P = true) (hB : Bm X.mg X.base) (hq : X.env.qual ++ "<lambda>" = qual)
    (hfree:∀ x∈scope.names,x.2≠.free:=by decide) (hdef:defaultsOf params X.env=([],[]):=by rfl):PE X (.Lambda params body scope pos) (tLam P pos qual params body scope):=by
  intro pins s σ H Q I h
  obtain ⟨⟨ps,hP,hps⟩,h⟩:=h
  have hPs:s.heap.get? P=some (PySem.W.tabObj ps):=I.hok P _ hP
  have nb:∀ b o,X.base.get? b=some o→b≠P:=fun b o e z=>by
    have:=(I.bs b o e).2
    rw [z,hP] at this
    cases this
  have hg:s.heap.Ns mainGlobals X.mg:=I.mod.glob.keeps I.bk
  have hgP:mainGlobals≠P:=by
    obtain ⟨o,es,ep,e,_⟩:=I.mod.glob
    exact nb _ o e
  have C:PySem.W.CodeHd s.heap c P:=PySem.W.codeHd_of_K I.kIn hh
  have hb:s.heap.BuiltinsAt X.mg P:=by
    obtain ⟨bm,o,b1,b2,b3,b4,b5⟩:=hB
    exact ⟨bm,o,b1,b2,b3,nb _ o b4,I.bk _ _ b4,b5⟩
  have fr:∀ b,s.heap.objs.size≤b→H b=none:=fun b e=>I.hok.fresh e
  refine PySem.W.kla_eval hdef ?_
  rw [hq]
  rcases hps with rfl | ⟨c',oc,vs,t,rfl,hc',hd,hv⟩
  · refine PySem.W.kla_makeFunction (mg:=X.mg) (clos:=[]) (closureFor_none hfree) I.ok.glob hg hcd C hPs trivial rfl hgP hb fun c' ctv h' tk hx hge hlt hrec htb=>?_
    obtain ⟨c2,oc,vs,t,e2,hoc,hd,hv⟩:=hrec
    cases e2
    have lP:P<s.heap.objs.size:=Heap.lt_size hPs
    have cP:c'≠P:=Nat.ne_of_gt (Nat.lt_of_lt_of_le lP hge)
    have fP:h'.objs.size≠P:=Nat.ne_of_gt (Nat.lt_trans (Nat.lt_of_lt_of_le lP hge) hlt)
    refine ⟨.ref h'.objs.size,_,I.lamNew (more:=#[rawInt pos.line,rawInt pos.col,.ref c']) hP hx hge hlt hoc htb rfl,rfl,h _ _ ?_ ?_ (fr _ (Nat.le_trans hge (Nat.le_of_lt hlt))) ⟨c',ctv,_,oc,vs,t,upd_same,?_,hd,hv⟩⟩
    · intro b o n e
      rw [upd_ne (fun z=>by rw [z,fr _ (Nat.le_trans hge (Nat.le_of_lt hlt))] at e;cases e),upd_ne (fun z=>by rw [z,fr _ hge] at e;cases e),upd_ne n]
      exact e
    · refine ⟨#[]++#[rawInt pos.line,rawInt pos.col,.ref c'],?_,.inr ⟨c',oc,vs,t,by simp,?_,hd,hv⟩⟩
      · rw [upd_ne fP.symm,upd_ne cP.symm,upd_same]
      · rw [upd_ne (Nat.ne_of_lt hlt),upd_same]
    · rw [upd_ne (Nat.ne_of_lt hlt),upd_same]
  · refine PySem.W.kla_makeFunctionHit (mg:=X.mg) (clos:=[]) (cv:=.ref c') (closureFor_none hfree) I.ok.glob hg hcd C hPs tri_ok tri_among hb fun ctv h' tk hk hsz=>?_
    have hf:H h'.objs.size=none:=fr _ hsz
    refine ⟨.ref h'.objs.size,upd H h'.objs.size (.frz (PySem.W.kla_obj "<lambda>" qual params body scope [] ((X.mg "__name__").getD .none) c' ctv) anyO),?_,rfl,h _ _ ?_ ?_ hf ⟨c',ctv,(X.mg "__name__").getD .none,oc,vs,t,upd_same,?_,hd,hv⟩⟩
    · have I1:Inv X pins σ H { s with heap:=h',toks:=tk }:=I.kept (t':=tk) hk
      have I2:=I1.un (h':=h'.push (PySem.W.kla_obj "<lambda>" qual params body scope [] ((X.mg "__name__").getD .none) c' ctv)) (t':=tk) (Un.laid (a:=h'.objs.size) (o:=.frz (PySem.W.kla_obj "<lambda>" qual params body scope [] ((X.mg "__name__").getD .none) c' ctv) anyO) (fun b u e=>Heap.get?_push_of_some _ e) (Nat.le_refl _) hf) (I1.hok.laid (fun b u e=>Heap.get?_push_of_some _ e) (Nat.le_refl _) ⟨Heap.get?_push_size _ rfl,trivial,⟨_,Heap.get?_push_size _ rfl⟩,fun _ _ _ _=>trivial⟩)
      exact I2
    · intro b o n e
      rw [upd_ne (fun z=>by rw [z,hf] at e;cases e)]
      exact e
    · refine ⟨_,by rw [upd_ne (ne_of_none hP hf)];exact hP,.inr ⟨c',oc,vs,t,rfl,?_,hd,hv⟩⟩
      rw [upd_ne (ne_of_none hc' hf)]
      exact hc'
    · rw [upd_ne (ne_of_none hc' hf)]
      exact hc'
end
end L2
namespace L2
open PySem PySem.Spec PyProof.Rows
theorem runLam {P : Program} {w : World} {K : PySem.W.Frag} {mg : Str → Option Value} {base : Heap} {k : Nat} {f c' : Addr} {qual : Str} {params : Arguments} {body : Expr} {scope : Scope} {pm ctv : Value} {oc : Obj} {ws : Array Value} {t : Tok}
    {N ps:List Str} {A:Around} {outer:List Env} {s:Shared} {H:Hp} {us:List Value} {vs:List V} {Q:VK} {te:TE} (hr:Room (k+1) A) (e0:Env0 P w K mg base A outer s H)
    (hf:H f=some (.frz (PySem.W.kla_obj "<lambda>" qual params body scope [] pm c' ctv) anyO)) (hc:H c'=some (.frz oc anyO)) (hd:oc.data=.fields ws) (hv:ws[1]?=some (.str qual t)) (S:FnScope N ps scope)
    (hb:bindArgs (PySem.W.kla_fn "<lambda>" qual params body scope [] pm (.ref c') ctv) ⟨us,[]⟩=pure (ps.zip us)) (hl:vs.length=ps.length) (r:Vals vs us)
    (hbody:PE (cxOf CX0 P w K mg base N qual scope f (.ref c') A outer s H E0).nox body te) (hq:te (start N vs) H Q) :
    codeAny (model P w) A (.call (.ref f) ⟨us,[]⟩) (CR CX0 outer P w H s Q E0) s:=by
  have lim:s.heap.NoLimit:=e0.mod.nolimit.keeps fun b o e=>(e0.bs b o e).1
  have hfo:=(e0.hok f _ hf).1
  have hco:=(e0.hok c' _ hc).1
  have hkind:∀ y∈ps.zip us,scope.names.lookup y.1=some .local∨(scope.names.lookup y.1=some .cell∧((cellsFrom (s.heap.objs.size+1) scope.names []).lookup y.1).isSome=true):=fun ⟨n,v⟩ hy=>by
    rcases S.par n (List.of_mem_zip hy).1 with q | q
    · exact .inl q
    · exact .inr ⟨q,PySem.W.cellsFrom_some _ _ _ (.inl q)⟩
  refine PySem.W.kla_callFunE hr.depth hfo rfl S.co S.gen rfl ⟨c',oc,ws,t,rfl,hco,hd,hv⟩ ?_
  rw [hb]
  refine wpAny_pure ?_
  refine wpAny_newFunctionEnv_cells S.kind hkind fun env he s1 x=>?_
  subst he
  refine ⟨lim.keeps x.toInCall.keep,PySem.W.kla_codeExpr ?_⟩
  have I:Inv (cxOf CX0 P w K mg base N qual scope f (.ref c') A outer s H E0) [] (start N vs) H s1:=inv_start S hr.hd e0 hl r x
  refine wpAny_mono (hbody.nox [] s1 (start N vs) H _ I hq) (fun u s' hs=>?_) fun e s' hs=>hs
  obtain ⟨v,H',J,rv,q⟩:=hs
  exact ⟨v,H',J.os,J.bare,J.base,J.hok,rv,q⟩
section
variable {X:Cx} {f:Addr} {qual:Str} {params:Arguments} {body:Expr} {scope:Scope} {N ps:List Str} {σ:St} {H0:Hp} {k:Nat} {te:TE} {xs:List V} {κV:Nat→List V}
theorem keyLam {x : Str} (L : IsLam qual params body scope f H0) (hr : Room (k + 1 + 1 + 1) X.A) (S : FnScope N [x] scope) (hb : ∀ (pm ctv : Value) (c' : Addr) (u : Value), bindArgs (PySem.W.kla_fn "<lambda>" qual params body scope [] pm (.ref c') ctv) ⟨[u], []⟩ = pure [(x, u)])
    (hbody:∀ (c':Addr) (A:Around) (outer:List Env) (s:Shared) (H:Hp),PE (cxOf CX0 X.prog X.w X.K X.mg X.base N qual scope f (.ref c') A outer s H E0).nox body te)
    (turn:∀ i x H,xs[i]?=some x→Same H0 H→te (start N [x]) H (fun v H'=>Same H H'∧∃ a,v=.ref a∧SqT X.K H' a (κV i))):KeyRun X σ H0 f xs κV:=by
  intro pins i x u H s hx hS I ru
  obtain ⟨c',ctv,pm,oc,ws,t,e1,e2,e3,e4⟩:=L.same hS
  refine wpAny_call (codeAny_mono (runLam (k:=k) (vs:=[x]) (us:=[u]) hr.in1.in1 I.env0.in1.in1 e1 e2 e3 e4 S (hb pm ctv c' u) rfl (.cons ru .nil) (hbody c' _ _ _ _) (turn i x H hx hS)) fun r s' hq=>?_)
  cases r with
  | error e=>exact False.elim hq
  | ok fl =>
    cases fl with
    | ret u=>exact I.after hq
    | next=>exact False.elim hq
    | brk=>exact False.elim hq
    | cont=>exact False.elim hq
end
section
variable {X:Cx} {p pos lpos kpos:Pos} {e body:Expr} {te tb:TE} {k:Nat} {c P:Addr} {params:Arguments} {scope:Scope} {qual x:Str} {N:List Str}
def tSortL (K:PySem.W.Frag) (lpos:Pos) (qual:Str) (P:Addr) (N:List Str) (te tb:TE):TE:=fun σ H Q=>te σ H fun v H1=>∃ l xs,∃ κV:Nat→List V,∃ κ:Nat→List Int,[v]=[V.ref l]∧LamAt lpos qual P H1∧SqL K H1 l xs∧xs.length≤1000 ∧
  (∀ i x H2,xs[i]?=some x→But1 P H1 H2→tb (start N [x]) H2 (fun v H'=>Same H2 H'∧∃ a,v=.ref a∧SqT K H' a (κV i))) ∧
  (∀ i j,i<xs.length→j<xs.length→∃ n m r q rn rm,κV i=.int n::r∧κV j=.int m::q∧VCols r q rn rm∧κ i=n::rn∧κ j=m::rm)∧∀ (p:List Nat) D H',p.Perm (List.range xs.length)→p.Pairwise (fun i j=>HT.lexLt (κ j) (κ i)=false)→H1 D=none→But1 P H1 H'→LamAt lpos qual P H'→H' D=some (.lst (p.map fun i=>xs.getD i .non))→Q (.ref D) H'
theorem pe_sortL (hr : Room (k + 1 + 1 + 1) X.A) (hg : Gl X "sorted") (hm : X.mg "sorted" = none) (hcd : X.env.code = .ref c) (hh : PySem.W.codeHdIn X.K c P = true) (hB : Bm X.mg X.base) (hq : X.env.qual ++ "<lambda>" = qual)
    (S:FnScope N [x] scope) (hb:∀ (pm ctv:Value) (c':Addr) (u:Value),bindArgs (PySem.W.kla_fn "<lambda>" qual params body scope [] pm (.ref c') ctv) ⟨[u],[]⟩=pure [(x,u)]) (he:PE X e te)
    (hbody:∀ (f c':Addr) (A:Around) (outer:List Env) (s:Shared) (H:Hp),PE (cxOf CX0 X.prog X.w X.K X.mg X.base N qual scope f (.ref c') A outer s H E0).nox body tb)
    (hfree:∀ x∈scope.names,x.2≠.free:=by decide) (hdef:defaultsOf params X.env=([],[]):=by rfl)
    (hse:starEach [e] X.env=[(false,eval e X.env)]:=by rfl) (hh':X.calm=true:=by rfl)
    (hall:(backToKw pos (keywordEach [⟨some "key",.Lambda params body scope lpos,kpos⟩] X.env)).all (·.1.isSome)=true:=by rfl) (hkw:(backToKw pos (keywordEach [⟨some "key",.Lambda params body scope lpos,kpos⟩] X.env)).any (·.1.isNone)=false:=by rfl)
    (hks:(backToKw pos (keywordEach [⟨some "key",.Lambda params body scope lpos,kpos⟩] X.env)).filterMap (·.1)=[Str.ofString "key"]:=by rfl) :
    PE X (.Call (.Name "sorted" p) [e] [⟨some "key",.Lambda params body scope lpos,kpos⟩] pos) (tSortL X.K lpos qual P N te tb):=by
  intro pins s σ H Q I h
  refine wpAny_Call_Name_kw (ld_blt I hg hm boot_sorted ?_ (by decide) (by decide))
  refine callWith_kw (thn (pa_cons he pa_nil (hs:=hse) pos pins s σ H (fun vs H1=>∃ l xs,∃ κV:Nat→List V,∃ κ:Nat→List Int,vs=[V.ref l]∧LamAt lpos qual P H1∧SqL X.K H1 l xs∧xs.length≤1000 ∧
  (∀ i x H2,xs[i]?=some x→But1 P H1 H2→tb (start N [x]) H2 (fun v H'=>Same H2 H'∧∃ a,v=.ref a∧SqT X.K H' a (κV i))) ∧
  (∀ i j,i<xs.length→j<xs.length→∃ n m r q rn rm,κV i=.int n::r∧κV j=.int m::q∧VCols r q rn rm∧κ i=n::rn∧κ j=m::rm)∧∀ (p:List Nat) D H',p.Perm (List.range xs.length)→p.Pairwise (fun i j=>HT.lexLt (κ j) (κ i)=false)→H1 D=none→But1 P H1 H'→LamAt lpos qual P H'→H' D=some (.lst (p.map fun i=>xs.getD i .non))→Q (.ref D) H') I ?_) fun us s1 ⟨vs,H1,I1,r,q⟩=>?_) (by rw [hse];rfl) (by rw [hse];rfl) hall hkw
  · show te σ H _
    exact h
  · obtain ⟨l,xs,κV,κ,rfl,hL,hsq,h64,turn,hcol,hQ⟩:=q
    obtain ⟨u,rfl,ru⟩:=Vals.one r
    cases (show u=Value.ref l from ru)
    refine thn (pk_cons (nm:=some "key") (kpos:=kpos) (pe_lam (pos:=lpos) (body:=body) hcd hh hB hq hfree hdef) pk_nil pos pins s1 σ H1 (fun zs H2=>∃ f,zs=[.ref f]∧But1 P H1 H2∧LamAt lpos qual P H2∧IsLam qual params body scope f H2) I1 ⟨hL,fun f H' h1 h2 h3 h4=>⟨f,rfl,h1,h2,h4⟩⟩) fun ws s2 ⟨zs,H2,I2,rz,q2⟩=>?_
    obtain ⟨f,rfl,hbut,hL2,hIL⟩:=q2
    obtain ⟨u2,rfl,ru2⟩:=Vals.one rz
    cases (show u2=Value.ref f from ru2)
    rw [hks]
    refine call_sortK (G:=Ordd κ xs.length) (keyLam hIL hr S hb (fun c' A outer s H=>hbody f c' A outer s H) fun i x H hx hS=>turn i x H hx (hbut.trans hS.but1)) (hbut.seq hL hsq) (fun p hp i hi=>?_) (fun h2=>⟨Array.Perm.refl _,?_⟩) (fun {vs ks H' s' D st e} r' K' hks h2=>?_) (fun p D H' g hp hD hS hH=>hQ p.toList D H' ?_ g.2 ?_ (hbut.trans hS.but1) (hL2.same hS) hH) I2
    · have:=hp.1.mem_iff.mp (show i∈p by simpa using hi)
      simpa using this
    · rw [List.pairwise_iff_getElem]
      intro i j hi hj hij
      simp at hi hj
      lia
    · have hlx:xs.length=vs.length:=r'.length
      rw [hlx]
      exact coreAll K' hks h2 fun i j hi hj=>hcol i j (by lia) (by lia)
    · have:=Array.perm_iff_toList_perm.mp g.1
      simpa using this
    · cases q:H1 D with
      | none=>rfl
      | some o =>
        by_cases hz:D=P
        · obtain ⟨ps,e,_⟩:=hL2
          rw [hz,e] at hD
          cases hD
        · rw [hbut D o hz q] at hD
          cases hD
end
end L2
namespace L2
open PySem PySem.Spec PyProof.Rows
theorem law_callL {P : Program} {w : World} {K : PySem.W.Frag} {mg mb : Str → Option Value} {CX : CXT} {k : Nat} {fa a : Addr} {fd : FuncData} {x : Str} {sp : Sp} {s₁ : Shared} {vs : List Value} {ns : List Int} {ts : List Addr}
    (KX:K.In s₁.heap) (hns:s₁.heap.Ns mainGlobals mg) (hb:s₁.heap.Ns builtinsNs mb) (hbb:∀ x:Str,x ≠ "__name__" → mb x=bootBuiltins x) (hlim:s₁.heap.NoLimit) (hg:s₁.gens=#[])
    (ha:s₁.heap.get? a=some { cls:=.type "list",data:=.seq vs.toArray }) (hi:IntsAre vs ns) (hl:ns.length≤sizeLine) (hr:Room k callerA)
    (hts:∀ P∈ts,s₁.heap.get? P=some (PySem.W.tabObj #[])) (hno:∀ P∈ts,K.lookup P=none) (hcd:∀ P∈ts,∃ c,PySem.W.codeHdIn K c P=true) (hBm:Bm mg s₁.heap)
    (F:∀ base:Heap,K.In base→base.Ns mainGlobals mg→Bm mg base→FnOk P w K mg base CX k fa fd [x] sp) (hbind:∀ (s:Shared) (u:Value),BindsTo s fd ⟨[u],[]⟩ [(x,u)])
    (hsp:∀ H:Hp,(∀ P∈ts,H P=some (.tbl #[]))→SqL K H a (ns.map V.int)→sp [.ref a] H (fun v _=>v=.bl true) fun _ _ _=>False)
    (hCX:∀ H e s',CX [] H s₁ (fun _ _ _=>False) e s'→False) :
    codeAny (model P w) callerA (.call (.ref fa) ⟨[.ref a],[]⟩) (fun r s'=>r=.ok (.ret (.bool true))∧OldK s₁.heap s'.heap∧s'.os=s₁.os∧AllBare s'.gens) s₁:=by
  have rv:=vals_ints hi
  have lenV:=hi.length
  have aT:a ∉ ts:=fun z=>by
    have:=hts a z
    rw [ha] at this
    cases this
  have core : ∀ H : Hp, (∀ b, H b = none ∨ (b ∈ ts ∧ H b = some (.tbl #[])) ∨ (b = a ∧ K.lookup a = none ∧ ∃ o xs, H b = some (.frz o (.lst xs)))) → (∀ P ∈ ts, H P = some (.tbl #[])) → SqL K H a (ns.map V.int) → HOk P w H s₁.heap →
      codeAny (model P w) callerA (.call (.ref fa) ⟨[.ref a],[]⟩) (fun r s'=>r=.ok (.ret (.bool true))∧OldK s₁.heap s'.heap∧s'.os=s₁.os∧AllBare s'.gens) s₁:=by
    intro H hO hT hS hok
    have base_of:∀ {b:Addr} {o:Obj},s₁.heap.get? b=some o→H b=none→(hidT s₁.heap H).get? b=some o:=fun e n=>hidT_get e n
    have noA:∀ {b:Addr} {o:Obj},s₁.heap.get? b=some o→(∀ x n,o.data≠.seq x n)→(∀ x,o.data≠.fields x)→H b=none:=fun {b o} e d1 d2=>by
      rcases hO b with z | ⟨z,_⟩ | ⟨rfl,_⟩
      · exact z
      · rw [hts b z] at e
        cases e
        exact absurd rfl (d2 _)
      · rw [ha] at e
        cases e
        exact absurd rfl (d1 _ _)
    have nsK:∀ {b:Addr} {m:Str→Option Value},s₁.heap.Ns b m→(hidT s₁.heap H).Ns b m:=fun {b m} ⟨o,es,ep,e,d,r⟩=>⟨o,es,ep,base_of e (noA e (fun x n z=>by rw [d] at z;cases z) fun x z=>by rw [d] at z;cases z),d,r⟩
    have hKb:K.In (hidT s₁.heap H):=fun b o e=>base_of (KX b o e) (by
      rcases hO b with z | ⟨z,_⟩ | ⟨rfl,z,_⟩
      · exact z
      · rw [hno b z] at e;cases e
      · rw [z] at e;cases e)
    have hM:Mod K mg (hidT s₁.heap H):=⟨hKb,nsK hns,⟨mb,nsK hb,hbb⟩,let ⟨mc,h1,h2⟩:=hlim;⟨mc,nsK h1,h2⟩⟩
    have hBb:Bm mg (hidT s₁.heap H):=by
      obtain ⟨bm,o,b1,b2,b3,b4,b5,b6,b7⟩:=hBm
      exact ⟨bm,o,b1,b2,b3,base_of b4 (noA b4 (fun x n z=>by rw [b7] at z;cases z) fun x z=>by rw [b7] at z;cases z),b5,b6,b7⟩
    have e0:Env0 P w K mg (hidT s₁.heap H) callerA [] s₁ H:=⟨rfl,hM,fun b o e=>of_hidT e,Nat.le_of_eq (hidT_size _ _),trivial,fun b hb=>absurd (show b∈([]:List Addr) from hb) (by simp),hok,.of_eq hg⟩
    refine codeAny_mono ((F _ hKb (nsK hns) hBb).run callerA [] s₁ H ⟨[.ref a],[]⟩ [.ref a] [.ref a] _ _ hr e0 (hbind s₁ (.ref a)) (.cons rfl .nil) (hsp H hT hS)) fun r s' h=>?_
    cases r with
    | error e=>exact (hCX H e s' h).elim
    | ok fl =>
      cases fl with
      | next=>exact False.elim h
      | brk=>exact False.elim h
      | cont=>exact False.elim h
      | ret u =>
        obtain ⟨v,H',os,bare,un,hok',r',q⟩:=h
        have q':v=.bl true:=q
        subst q'
        obtain rfl:u=Value.bool true:=r'
        refine ⟨rfl,⟨fun b o e=>?_,fun b o e=>un.there b o e (by simp)⟩,os,bare⟩
        rcases hO b with z | ⟨z,z1⟩ | ⟨rfl,_,ob,xs,z⟩
        · exact .inl (un.keep b o e z (by intro z;exact absurd (show b∈([]:List Addr) from z) (by simp)) (by simp))
        · have e':=hts b z
          rw [e] at e'
          cases e'
          obtain ⟨more,z2⟩:=un.tbls b _ z1
          obtain ⟨c,hc⟩:=hcd b z
          obtain ⟨oc,ws,_,_,_,_,_,_,_,c1,c2,c3,c4,_⟩:=PySem.W.codeHd_of_K KX hc
          exact .inr (.inl ⟨⟨c,oc,ws,c1,c2,c3,c4⟩,rfl,#[],more,rfl,hok' b _ z2⟩)
        · have z2:=un.frzs b ob _ z
          obtain ⟨e1,_⟩:=hok b _ z
          obtain ⟨e2,_⟩:=hok' b _ z2
          rw [e] at e1;cases e1
          exact .inl e2
  cases hk:K.lookup a with
  | some o =>
    have e:=KX a o hk
    rw [ha] at e
    cases e
    refine core (fun b=>if b∈ts then some (.tbl #[]) else none) (fun b=>?_) (fun P hP=>if_pos hP) (.inr ⟨_,vs.toArray,_,hk,rfl,rfl,rfl,by rw [List.size_toArray,lenV];exact hl,by simpa using rv⟩) fun b u z=>?_
    · by_cases hb:b∈ts
      · exact .inr (.inl ⟨hb,if_pos hb⟩)
      · exact .inl (if_neg hb)
    · by_cases hb:b∈ts
      · have z':=(if_pos hb).symm.trans z
        cases z'
        exact hts b hb
      · have z':=(if_neg hb).symm.trans z
        cases z'
  | none =>
    refine core (fun b=>if b∈ts then some (.tbl #[]) else if b=a then some (.frz { cls:=.type "list",data:=.seq vs.toArray } (.lst (ns.map V.int))) else none) (fun b=>?_) (fun P hP=>if_pos hP) (.inl (.inr ⟨{ cls:=.type "list",data:=.seq vs.toArray },(if_neg aT).trans (if_pos rfl)⟩)) fun b u z=>?_
    · by_cases hb:b∈ts
      · exact .inr (.inl ⟨hb,if_pos hb⟩)
      · by_cases hb2:b=a
        · exact .inr (.inr ⟨hb2,hk,_,_,(if_neg hb).trans (if_pos hb2)⟩)
        · exact .inl ((if_neg hb).trans (if_neg hb2))
    · by_cases hb:b∈ts
      · have z':=(if_pos hb).symm.trans z
        cases z'
        exact hts b hb
      · have z0:=(if_neg hb).symm.trans z
        by_cases hb2:b=a
        · have z':=(if_pos hb2).symm.trans z0
          cases z'
          subst hb2
          exact ⟨ha,by rw [List.length_map];exact hl,vs,_,rv,ha⟩
        · have z':=(if_neg hb2).symm.trans z0
          cases z'
theorem not_in {K:PySem.W.Frag} {as:List Addr} (e:as=K.map (·.1)) {b:Addr} (h:b ∉ as):K.lookup b=none:=by
  cases q:K.lookup b with
  | none=>rfl
  | some o =>
    subst e
    exact absurd (List.mem_map.mpr ⟨(b,o),PySem.W.mem_of_lookupK q,rfl⟩:b∈List.map (fun x=>x.fst) K) h
theorem km_all {K : Params → PySem.W.Frag} {as : List Addr} {e : ∀ P, as = (K P).map (·.1)} {ts : List Addr} (d : (ts.all fun t => !as.contains t) = true) (w : World) (h : Heap) (Y : (PySem.W.kmHook K as e ts).says w h) :
    (K w.params).In h∧(∀ P∈ts,h.get? P=some (PySem.W.tabObj #[]))∧∀ P∈ts,(K w.params).lookup P=none :=
  ⟨PySem.W.km_in_of Y,PySem.W.km_tabs_of Y,fun P hP=>not_in (e w.params) fun z=>by
    have:=List.all_eq_true.mp d P hP
    simp [z] at this⟩
theorem walk_ofL {l : PySem.W.OpenLaw} {n k : Nat} {q : Program} {loose : List Str} {XP : (Str → Option Value) → Heap → Prop} {YP : World → Heap → Prop} {d : DefRec} {K : Params → PySem.W.Frag} {CX : World → CXT} {sp : World → Sp} {x : Str} {ts : List Addr}
    (hn:l.most=some n) (hn2:n≤sizeLine) (hdf:d.params.defaults=[]) (hr:Room k callerA)
    (hY:∀ (w:World) (h:Heap),YP w h→(K w.params).In h∧(∀ P∈ts,h.get? P=some (PySem.W.tabObj #[]))∧∀ P∈ts,(K w.params).lookup P=none)
    (F:∀ (w:World) (mg:Str→Option Value) (fa:Addr) (h:Heap),(K w.params).In h→h.Ns mainGlobals mg→mg d.name=some (.ref fa) →
      ∃ fd:FuncData,(∀ (s:Shared) (u:Value),BindsTo s fd ⟨[u],[]⟩ [(x,u)])∧(∀ P∈ts,∃ c,PySem.W.codeHdIn (K w.params) c P=true) ∧
        ∀ base:Heap,(K w.params).In base→base.Ns mainGlobals mg→Bm mg base→FnOk l.prog w (K w.params) mg base (CX w) k fa fd [x] (sp w))
    (hsp:∀ (w:World) (H:Hp) (a:Addr) (ns:List Int),ns.length≤n→(∀ P∈ts,H P=some (.tbl #[]))→SqL (K w.params) H a (ns.map V.int)→sp w [.ref a] H (fun v _=>v=.bl true) fun _ _ _=>False)
    (hCX:∀ (w:World) (H:Hp) (s:Shared) (e:Value) (s':Shared),CX w [] H s (fun _ _ _=>False) e s'→False) :
    PySem.W.WalkO q loose XP YP l.row.toRowW d [] (fun f vs=>PySem.call f vs):=by
  refine Att.attach_call hn hdf fun w s₀ s₁ mg mb fa o pm cd doc a vs ns G Y ho hd hcd hmg hobj hints hlen hg=>?_
  obtain ⟨KX,hts,hno⟩:=hY w _ Y
  obtain ⟨fd,hb,hc,hF⟩:=F w mg fa _ KX G.T.g hmg
  have hB:Bm mg s₁.heap:=by
    obtain ⟨bm,ob,b1,b2,b3,b4,b5,b6⟩:=G.T.bmain
    refine ⟨bm,ob,b1,b2,fun q=>?_,b3,b4,b5,b6⟩
    obtain ⟨o,es,ep,e,hd,_⟩:=G.T.g
    rw [q,e] at b3;cases b3;rw [hd] at b6;cases b6
  exact law_callL KX G.T.g G.T.b G.T.builtins G.T.nolimit hg hobj hints (Nat.le_trans hlen hn2) hr hts hno hc hB hF hb (fun H hT hS=>hsp w H a ns hlen hT hS) fun H e s'=>hCX w H s₁ e s'
theorem Fun.okL {P : Program} {w : World} {K : PySem.W.Frag} {mg : Str → Option Value} {base : Heap} {x qual : Str} {st : Stmt} {f c : Addr} {fd : FuncData} {N ps : List Str} {k : Nat} {sp : Sp} (F : Fun K x qual st f fd) (hc : fd.code = .ref c) (S : FnScope N ps (defScope st)) (len : ∀ vs H Q E, sp vs H Q E → vs.length = ps.length)
    (hbody:∀ (A:Around) (outer:List Env) (s:Shared) (H:Hp) (vs:List V) (Q:VK) (E:XK),Room k (A.deeper (envOfC qual (defScope st) s.heap.objs.size f (.ref c)))→sp vs H Q E →
      ∃ t,PSs (cxOf CX0 P w K mg base N qual (defScope st) f (.ref c) A outer s H E).nox (defBody st) t∧t { nx:=fun _ H'=>Q .non H',rt:=Q } (start N vs) H):FnOk P w K mg base CX0 (k+1) f fd ps sp:=by
  obtain ⟨oc,od,kV,doc,pm,an,cdv,ct,osl,rfl,lk,hcd⟩:=F.ex
  cases (show cdv=.ref c from hc)
  refine fn_of lk hcd S len fun A outer s H vs Q E hr hsp=>?_
  obtain ⟨t,h,q⟩:=hbody A outer s H vs Q E hr hsp
  exact ⟨t,h.nox,q⟩
end L2
namespace L2
open PySem PySem.Spec PyProof.Rows
def hdOk (vs : Array Value) (c P : Addr) : Bool := (match (vs[11]? : Option Value) with | some (.ref P') => P' == P | _ => false) &&
      (match vs.getD 18 .none with | .str _ _=>true | _=>false) && (match vs.getD 7 .none with | .int _ _=>true | _=>false) &&
      (match vs.getD 9 .none with | .bool _=>true | _=>false) && (match vs.getD 10 .none with | .int _ _=>true | _=>false) && c != P
theorem hd_of {K:PySem.W.Frag} {c P:Addr} {od:Option Addr} {vs:Array Value} {sl:Array (Option Value)} (l:K.lookup c=some ⟨.type "code",od,.fields vs,sl⟩) (h:hdOk vs c P=true):PySem.W.codeHdIn K c P=true:=by
  unfold PySem.W.codeHdIn
  rw [l]
  exact h
end L2
namespace L2
open PySem PyProof.Rows
section
variable {X:Cx} {a b e v1 v2:Expr} {es rest:List Expr} {te ta tb:TE} {pos:Pos}
theorem str_nil {x:Str} (h:(x.length == 0)=true):x=Str.empty:=by
  have h:=eq_of_beq h
  obtain ⟨c⟩:=x
  have:c.size=0:=h
  have:c=#[]:=Array.eq_empty_of_size_eq_zero this
  rw [this];rfl
theorem op_scat:OpR X (binaryOp .Add) (fun x y H Q=>∃ a b,x=.str a∧y=.str b∧a.length+b.length≤sizeLine∧Q (.str (a++b)) H):=by
  intro pins s σ H x y v u Q I rx ry h
  obtain ⟨a,b,rfl,rfl,hz,q⟩:=h
  obtain ⟨t,rfl⟩:=rx
  obtain ⟨t',rfl⟩:=ry
  refine PySem.P.add_str ?_
  split
  · rename_i h
    rw [str_nil h] at q
    have e:Str.empty++b=b:=by
      obtain ⟨c⟩:=b
      show (⟨#[]++c⟩:Str)=⟨c⟩
      rw [Array.empty_append]
    rw [e] at q
    exact ⟨.str _,H,I,⟨_,rfl⟩,q⟩
  · split
    · rename_i h
      rw [str_nil h] at q
      have e:a++Str.empty=a:=by
        obtain ⟨c⟩:=a
        show (⟨c++#[]⟩:Str)=⟨c⟩
        rw [Array.append_empty]
      rw [e] at q
      exact ⟨.str _,H,I,⟨_,rfl⟩,q⟩
    · refine ⟨?_,.str _,H,I.tok _,⟨_,rfl⟩,q⟩
      have:(a++b).length=a.length+b.length:=by
        obtain ⟨c⟩:=a
        obtain ⟨d⟩:=b
        exact Array.size_append
      lia
theorem strs_are:∀ {ys:List Str} {its:List Value},Vals (ys.map V.str) its→StrsAre its ys
  | [],_,.nil=>.nil
  | y::ys,_,.cons r rs=>by
    obtain ⟨t,rfl⟩:=r
    exact .cons y t (strs_are rs)
def rJoin:V→List V→Hp→VK→Prop:=fun x vs H Q=>∃ (sep:Str) (l:Addr) (ys:List Str),x=.str sep∧vs=[.ref l]∧H l=some (.lst (ys.map V.str))∧(ys.map Str.length).sum+ys.length*sep.length≤16777216∧Q (.str (Txt.join sep ys)) H
theorem mt_join:MtR X "str.join" rJoin:=by
  intro pins s σ H x vs v us Q I rx rv h
  obtain ⟨sep,l,ys,rfl,rfl,hq,hz,q⟩:=h
  obtain ⟨t,rfl⟩:=rx
  obtain ⟨u,rfl,ru⟩:=vals1 rv
  cases ru
  obtain ⟨z,its,n,r,hl,e⟩:=I.lstM hq
  exact join_list ⟨_,e,rfl,n,rfl⟩ (by simpa using strs_are r) hz fun t' k=>⟨.str _,H,I.tok _,⟨_,rfl⟩,q⟩
abbrev TJ:=St→Hp→Str→VK→Prop
def PJ (X:Cx) (es:List Expr) (t:TJ):Prop:=∀ (pins:List (Addr×Obj)) (s:Shared) (σ:St) (H:Hp) (out:Str) (Q:VK),Inv X pins σ H s→t σ H out Q →
  wpAny (model X.prog X.w) X.A (joinParts out (evalEach es X.env)) (EP X pins σ Q) X.xe s
def tJNil:TJ:=fun _ H out Q=>out.length≤sizeLine∧Q (.str out) H
def tJCons (te:TE) (tr:TJ):TJ:=fun σ H out Q=>te σ H fun x H1=>∃ y,x=.str y∧(out++y).length≤sizeLine∧tr σ H1 (out++y) Q
theorem pj_nil:PJ X [] tJNil:=by
  intro pins s σ H out Q I ⟨hz,q⟩
  exact joinParts_nilE (joinParts_nil ⟨.str _,H,I.tok _,⟨_,rfl⟩,q⟩ hz)
theorem pj_cons {tr:TJ} (he:PE X e te) (hr:PJ X es tr):PJ X (e::es) (tJCons te tr):=by
  intro pins s σ H out Q I h
  refine joinParts_consE (joinParts_cons (thn (he pins s σ H _ I h) fun v s1 ⟨x,H1,I1,r1,y,hx,hz,q⟩=>?_))
  subst hx
  obtain ⟨t,rfl⟩:=r1
  exact ⟨hz,hr pins s1 σ H1 _ Q I1 q⟩
theorem pe_fstr {t:TJ} (h:PJ X (v1::v2::rest) t):PE X (.JoinedStr (v1::v2::rest) pos) (fun σ H Q=>t σ H Str.empty Q):=by
  intro pins s σ H Q I q
  exact JoinedStr_many (h pins s σ H _ Q I q)
def tFmt (te:TE):TE:=fun σ H Q=>te σ H fun x H1=>(∃ i,x=.int i∧i.natAbs.log2<1920∧Q (.str (toString i)) H1)∨∃ y,x=.str y∧y.length≤sizeLine∧Q (.str y) H1
theorem pe_fmt (he:PE X e te):PE X (.FormattedValue e (-1) none pos) (tFmt te):=by
  intro pins s σ H Q I h
  refine FormattedValue_plain (thn (he pins s σ H _ I h) fun v s1 ⟨x,H1,I1,r1,q⟩=>?_)
  rcases q with ⟨i,rfl,hz,q⟩ | ⟨y,rfl,hz,q⟩
  · obtain ⟨t,rfl⟩:=r1
    exact formatField_int_small hz ⟨.str _,H1,I1.tok _,⟨_,rfl⟩,q⟩
  · obtain ⟨t,rfl⟩:=r1
    exact formatField_str (fun t' k=>⟨.str _,H1,I1.tok _,⟨_,rfl⟩,q⟩) hz
end
end L2
namespace L2
open PySem
theorem sC {N P : List Str} {sc : Scope} (a : sc.kind = .function := by rfl) (b : sc.isCoroutine = false := by rfl) (c : sc.isGenerator = false := by rfl) (d : N.Nodup := by decide +kernel) (e : N.take P.length = P := by rfl)
    (f:∀ x∈P,sc.names.lookup x=some .local∨sc.names.lookup x=some .cell:=by decide +kernel) (g:∀ y∈sc.names,y.2≠.free:=by decide +kernel):FnScope N P sc:=⟨a,b,c,d,e,f,g⟩
section
variable {X:Cx} {k j:Nat} {x:Str} {ps:List Str} {sp:Sp} {e:Expr} {es:List Expr} {t:TA} {te:TE} {p pos pos':Pos}
theorem pC (g : Fn X.prog X.w X.K X.mg X.base k x ps sp) (hr : Room j X.A) (ha : PA X (e :: es) t) (hj : k ≤ j := by decide) (hg : Gl X x := by rfl) (hdb : (x == ("__debug__" : Str)) = false := by decide)
    (he:starEach (e::es) X.env=(false,eval e X.env)::starEach es X.env:=by rfl) (hpl:(backTo pos (starEach es X.env)).any (·.1)=false:=by rfl):PE X (.Call (.Name x p) (e::es) [] pos) (tCall sp [] E0 t) :=
  pe_call g.ok (hr.mono hj) hg g.m g.kp g.b .nil pass0 ha hdb he hpl
theorem nG (i:Nat) (hN:X.N.Nodup) (hi:X.N[i]?=some x:=by rfl) (hx:Loc X.env.scope x:=by exact Or.inl rfl) (hf:X.fn x=true∨X.env.scope.names.lookup x=some .local:=by first | exact .inl rfl | exact .inr rfl | assumption):PG X (.Name x pos) (gName i) :=
  pg_name hN hi hx hf
theorem sE (i : Nat) (hN : X.N.Nodup) (he : PE X e te) (hi : X.N[i]? = some x := by rfl) (hx : Loc X.env.scope x := by exact Or.inl rfl) (hs : swapsWith e (some (.Name x pos')) pos.line X.env = pure false := by rfl)
    (hf:X.fn x=true∨X.env.scope.names.lookup x=some .local:=by first | exact .inl rfl | exact .inr rfl | assumption):PS X (.Assign [.Name x pos'] e pos) (tAsg te (gName i)) :=
  ps_set hN hi hx he hs hf
end
theorem bO {osc : Scope} {N : List Str} {sc : Scope} {N' : List Str} {sel : List (Option Nat)} (a : sc.kind = .function := by rfl) (b : ∀ y ∈ sc.names, y.2 ≠ .cell := by decide +kernel) (c : ∀ y ∈ sc.names, y.2 = .local → sc.names.lookup y.1 = some .local := by decide +kernel)
    (d:∀ y∈sc.names,y.2=.free→osc.names.lookup y.1=some .cell∨osc.names.lookup y.1=some .free:=by decide +kernel) (e:sel.length=N'.length:=by rfl) (f:∀ p∈sel.zip N',∀ i∈p.1,N[i]?=some p.2∧sc.names.lookup p.2=some .free:=by decide +kernel):BlkOk osc N sc N' sel:=⟨a,b,c,d,e,f⟩
section
variable {K:PySem.W.Frag} {x qual:Str} {st:Stmt} {f:Addr} {fd:FuncData}
theorem Fun.b1 {p0:Str} (F:Fun K x qual st f fd) (h:∀ (kV doc pm:Value) (an:Option Addr) (cdv ct a0:Value),bindArgs (PySem.W.fnOf x qual (defArgs st) (defBody st) (defScope st) .none kV doc pm an cdv ct) ⟨[a0],[]⟩=pure [(p0,a0)]:=by intros;rfl):Binds K fd [p0] [] :=
  F.binds fun kV doc pm an cdv ct us hl=>match us,hl with | [a0],_=>h kV doc pm an cdv ct a0
theorem Fun.b2 {p0 p1:Str} (F:Fun K x qual st f fd) (h:∀ (kV doc pm:Value) (an:Option Addr) (cdv ct a0 a1:Value),bindArgs (PySem.W.fnOf x qual (defArgs st) (defBody st) (defScope st) .none kV doc pm an cdv ct) ⟨[a0,a1],[]⟩=pure [(p0,a0),(p1,a1)]:=by intros;rfl):Binds K fd [p0,p1] [] :=
  F.binds fun kV doc pm an cdv ct us hl=>match us,hl with | [a0,a1],_=>h kV doc pm an cdv ct a0 a1
theorem Fun.b3 {p0 p1 p2:Str} (F:Fun K x qual st f fd) (h:∀ (kV doc pm:Value) (an:Option Addr) (cdv ct a0 a1 a2:Value),bindArgs (PySem.W.fnOf x qual (defArgs st) (defBody st) (defScope st) .none kV doc pm an cdv ct) ⟨[a0,a1,a2],[]⟩=pure [(p0,a0),(p1,a1),(p2,a2)]:=by intros;rfl):Binds K fd [p0,p1,p2] [] :=
  F.binds fun kV doc pm an cdv ct us hl=>match us,hl with | [a0,a1,a2],_=>h kV doc pm an cdv ct a0 a1 a2
end
end L2
namespace RR
open PySem L2
def top (i:Nat):Stmt:=PySem.Challenge.pw_rimsteps_k80_rounds_written.main.body.getD i (.Pass ⟨0,0,0,0⟩)
abbrev s_runs_of:Stmt:=top 1
abbrev N_runs_of:List Str:=["row","runs","step"]
theorem sc_runs_of:FnScope N_runs_of ["row"] (defScope s_runs_of):=sC
abbrev s_by_figures:Stmt:=top 3
abbrev N_by_figures:List Str:=["row"]
theorem sc_by_figures:FnScope N_by_figures ["row"] (defScope s_by_figures):=sC
abbrev s_by_runs:Stmt:=top 4
abbrev N_by_runs:List Str:=["row"]
theorem sc_by_runs:FnScope N_by_runs ["row"] (defScope s_by_runs):=sC
abbrev s_show_row:Stmt:=top 5
abbrev N_show_row:List Str:=["row","runs","figures"]
theorem sc_show_row:FnScope N_show_row ["row"] (defScope s_show_row):=sC
abbrev s_show_round:Stmt:=top 6
abbrev N_show_round:List Str:=["one","sort","x","y","row"]
theorem sc_show_round:FnScope N_show_round ["one"] (defScope s_show_round):=sC
abbrev s_show_rounds:Stmt:=top 7
abbrev N_show_rounds:List Str:=["some"]
theorem sc_show_rounds:FnScope N_show_rounds ["some"] (defScope s_show_rounds):=sC
abbrev s__law_cell_at:Stmt:=top 9
abbrev N__law_cell_at:List Str:=["_law_script","_law_k"]
theorem sc__law_cell_at:FnScope N__law_cell_at ["_law_script","_law_k"] (defScope s__law_cell_at):=sC
abbrev s__law_row:Stmt:=top 10
abbrev N__law_row:List Str:=["_law_cell","_law_many","_law_base","_law_found","_law_left","_law_number","_law_k"]
theorem sc__law_row:FnScope N__law_row ["_law_cell","_law_many","_law_base"] (defScope s__law_row):=sC
abbrev s__law_picture:Stmt:=top 11
abbrev N__law_picture:List Str:=["_law_script","_law_start","_law_wide","_law_high","_law_share","_law_left","_law_low","_law_way","_law_far","_law_found","_law_y","_law_row_here"]
theorem sc__law_picture:FnScope N__law_picture ["_law_script","_law_start"] (defScope s__law_picture):=sC
abbrev s__law_gone:Stmt:=top 12
abbrev N__law_gone:List Str:=["_law_x","_law_y","_law_step","_law_dx","_law_dy"]
theorem sc__law_gone:FnScope N__law_gone ["_law_x","_law_y","_law_step"] (defScope s__law_gone):=sC
abbrev s__law_lot:Stmt:=top 13
abbrev N__law_lot:List Str:=["_law_cells","_law_there","_law_cell"]
theorem sc__law_lot:FnScope N__law_lot ["_law_cells"] (defScope s__law_lot):=sC
abbrev s__law_behind:Stmt:=top 14
abbrev N__law_behind:List Str:=["_law_there","_law_edge","_law_x","_law_y","_law_way","_law_right","_law_ahead"]
theorem sc__law_behind:FnScope N__law_behind ["_law_there","_law_edge"] (defScope s__law_behind):=sC
abbrev s__law_edges:Stmt:=top 15
abbrev N__law_edges:List Str:=["_law_there","_law_found","_law_x","_law_y"]
theorem sc__law_edges:FnScope N__law_edges ["_law_there"] (defScope s__law_edges):=sC
abbrev s__law_walked:Stmt:=top 16
abbrev N__law_walked:List Str:=["_law_there","_law_first","_law_edges_here","_law_steps","_law_step","_law_edge"]
theorem sc__law_walked:FnScope N__law_walked ["_law_there","_law_first"] (defScope s__law_walked):=sC
abbrev s__law_told:Stmt:=top 17
abbrev N__law_told:List Str:=["_law_edges_here","_law_steps","_law_swung","_law_way","_law_at","_law_row_here"]
theorem sc__law_told:FnScope N__law_told ["_law_edges_here","_law_steps"] (defScope s__law_told):=sC
abbrev s__law_traced:Stmt:=top 18
abbrev N__law_traced:List Str:=["_law_cells","_law_there","_law_seen","_law_found","_law_edge","_law_edges_here","_law_steps","_law_one"]
theorem sc__law_traced:FnScope N__law_traced ["_law_cells"] (defScope s__law_traced):=sC
abbrev s__law_written:Stmt:=top 19
abbrev N__law_written:List Str:=["_law_one","_law_sort","_law_x","_law_y","_law_row_here","_law_figures","_law_parts","_law_at","_law_times","_law_runs","_law_word"]
theorem sc__law_written:FnScope N__law_written ["_law_one"] (defScope s__law_written):=sC
abbrev s__law_lines:Stmt:=top 20
abbrev N__law_lines:List Str:=["_law_script","_law_start","_law_found","_law_k","_law_cell","_law_kind","_law_size","_law_x","_law_y","_law_row_here"]
theorem sc__law_lines:FnScope N__law_lines ["_law_script","_law_start"] (defScope s__law_lines):=sC
abbrev s_law:Stmt:=top 21
abbrev N_law:List Str:=["_law_script","_law_some","_law_handed","_law_rows","_law_one","_law_found","_law_far","_law_many"]
theorem sc_law:FnScope N_law ["_law_script"] (defScope s_law):=sC
end RR
namespace RR
open PySem L2 RP
def cellT (c:Cell):List V:=[.int c.1,.int c.2]
def edgeT (e:Edge):List V:=[.int e.c.1,.int e.c.2,.int e.w]
def sv:Option Nat→V
  | none=>.non
  | some s=>.int s
theorem Same.up {H:Hp} {p:Addr} {o:HO} (h:H p=none):Same H (upd H p o):=fun b u e=>by rw [upd_ne (ne_of_none e h)];exact e
structure Txt (P:Program) (w:World) (K:PySem.W.Frag) (mg:Str→Option Value):Prop where
  nrange:mg "range" = none
  nlen:mg "len" = none
  nmin:mg "min" = none
  nsorted:mg "sorted" = none
  ntuple:mg "tuple" = none
  nint:mg "int" = none
  nstr:mg "str" = none
  nisinstance:mg "isinstance" = none
  nlist:mg "list" = none
  nenumerate:mg "enumerate" = none
theorem two:2≤sizeLine:=by decide
theorem three:3≤sizeLine:=by decide
section
variable {P:Program} {w:World} {K:PySem.W.Frag} {mg:Str→Option Value} {base:Heap}
def spGone:Sp:=fun vs H Q _=>∃ (c:Cell) (i:Nat),vs=[.int c.1,.int c.2,.int i]∧i<8∧∀ (p:Addr) (H':Hp),H p=none→Same H H'→H' p=some (.tup (cellT (go c i)))→Q (.ref p) H'
end
end RR
namespace RR
open PySem L2 RP
theorem iteN {b:Bool} {A B:Prop} (h:b=false) (q:B):if b=true then A else B:=by subst h;exact iteF q
theorem iteY {b:Bool} {A B:Prop} (h:b=true) (q:A):if b=true then A else B:=by subst h;exact iteT q
theorem tIfs_nil {tb:TS} {D:Ends} {σ:St} {H:Hp} (h:tb D σ H):tIfs (fun _ H Q=>Q true H) tb D σ H:=by
  show if true=true then tb D σ H else D.nx σ H
  exact iteT h
theorem gN {j:Nat} {v:V} {σ:St} {H:Hp} {tb:TS} {D:Ends} (h:tb D (σ.set j (some v)) H):gName j v σ H fun σ2 H2=>tIfs (fun _ H Q=>Q true H) tb D σ2 H2:=tIfs_nil h
def cR (c:Cell) (v:V) (H:Hp):Prop:=∃ b,v=.ref b∧H b=some (.tup (cellT c))
def eR (e:Edge) (v:V) (H:Hp):Prop:=∃ b,v=.ref b∧H b=some (.tup (edgeT e))
theorem mem_take1 {α:Type} {l:List α} {i:Nat} {x c:α} (h:l[i]?=some x):c∈l.take (i+1) ↔ c∈l.take i∨c=x:=by
  rw [List.take_succ,h,List.mem_append]
  exact ⟨fun z=>z.elim .inl fun z=>.inr (List.mem_singleton.mp z),fun z=>z.elim .inl fun z=>.inr (List.mem_singleton.mpr z)⟩
def InOrd (cs:List Cell):Prop:=∀ (i:Nat) c d,cs[i]?=some c→cs[i+1]?=some d→HT.lexLt [c.2,c.1] [d.2,d.1]=true
section
variable {P:Program} {w:World} {K:PySem.W.Frag} {mg:Str→Option Value} {base:Heap}
def kC (c:Cell):List Key:=[Sum.inl c.1,Sum.inl c.2]
theorem kC_inj {c d:Cell}:kC c=kC d ↔ c=d:=by
  constructor
  · intro h
    unfold kC at h
    injection h with h1 h2
    injection h2 with h2 _
    exact Prod.ext (Sum.inl.inj h1) (Sum.inl.inj h2)
  · rintro rfl;rfl
end
end RR
namespace RR
open PySem L2 RP
def KT (H H':Hp):Prop:=∀ b xs,H b=some (.tup xs)→H' b=some (.tup xs)
theorem KT.refl (H:Hp):KT H H:=fun _ _ h=>h
theorem KT.trans {H H1 H2:Hp} (a:KT H H1) (b:KT H1 H2):KT H H2:=fun c o h=>b c o (a c o h)
theorem KT.of {H H':Hp} (s:Same H H'):KT H H':=fun b xs e=>s b _ e
theorem KT.up {H:Hp} {p:Addr} {o:HO} (h:H p=none):KT H (upd H p o):=KT.of (Same.up h)
theorem KT.lst {H:Hp} {p:Addr} {xs:List V} {o:HO} (h:H p=some (.lst xs)):KT H (upd H p o):=fun b ys e=>by
  rw [upd_ne (ne_of e h (fun z=>nomatch z))];exact e
theorem KT.dct {H:Hp} {p:Addr} {xs:List (List Key×V)} {o:HO} (h:H p=some (.dT xs)):KT H (upd H p o):=fun b ys e=>by
  rw [upd_ne (ne_of e h (fun z=>nomatch z))];exact e
theorem cR.kt {c:Cell} {v:V} {H H':Hp} (h:cR c v H) (s:KT H H'):cR c v H':=let ⟨b,e,q⟩:=h;⟨b,e,s _ _ q⟩
theorem eR.kt {c:Edge} {v:V} {H H':Hp} (h:eR c v H) (s:KT H H'):eR c v H':=let ⟨b,e,q⟩:=h;⟨b,e,s _ _ q⟩
def VR {α:Type} (vs:List V) (l:List α) (R:α→V→Hp→Prop) (H:Hp):Prop:=vs.length=l.length∧∀ (i:Nat) x v,l[i]?=some x→vs[i]?=some v→R x v H
theorem VR.nil {α:Type} {R:α→V→Hp→Prop} {H:Hp}:VR [] ([]:List α) R H:=⟨rfl,fun i x v h=>by simp at h⟩
theorem VR.snoc {α:Type} {vs:List V} {l:List α} {R:α→V→Hp→Prop} {H H':Hp} {x:α} {v:V} (h:VR vs l R H) (m:∀ x v,R x v H→R x v H') (hx:R x v H'):VR (vs++[v]) (l++[x]) R H':=by
  refine ⟨by simp [h.1],fun i y u h1 h2=>?_⟩
  rcases Nat.lt_or_ge i l.length with hi | hi
  · rw [List.getElem?_append_left hi] at h1
    rw [List.getElem?_append_left (by rw [h.1];exact hi)] at h2
    exact m _ _ (h.2 i y u h1 h2)
  · rw [List.getElem?_append_right hi] at h1
    rw [List.getElem?_append_right (by rw [h.1];exact hi)] at h2
    have hz:i - l.length=0:=by
      have:=(List.getElem?_eq_some_iff.mp h1).1
      simp at this;lia
    rw [hz] at h1
    rw [h.1,hz] at h2
    cases h1;cases h2
    exact hx
theorem VR.mono {α:Type} {vs:List V} {l:List α} {R:α→V→Hp→Prop} {H H':Hp} (h:VR vs l R H) (m:∀ x v,R x v H→R x v H'):VR vs l R H':=⟨h.1,fun i x v h1 h2=>m _ _ (h.2 i x v h1 h2)⟩
theorem VR.at {α:Type} {vs:List V} {l:List α} {R:α→V→Hp→Prop} {H:Hp} (h:VR vs l R H) {i:Nat} {v:V} (hv:vs[i]?=some v):∃ x,l[i]?=some x∧R x v H:=by
  have hi:i<l.length:=by rw [← h.1];exact (List.getElem?_eq_some_iff.mp hv).1
  exact ⟨l[i],List.getElem?_eq_getElem hi,h.2 i _ v (List.getElem?_eq_getElem hi) hv⟩
theorem same_lst {H H2:Hp} {p:Addr} {o:HO} (hp:H p=none) (s:Same H H2):Same H (upd H2 p o):=fun z u e=>by rw [upd_ne (ne_of_none e hp)];exact s z u e
theorem sides_snoc (cs:List Cell) (c:Cell):sides (cs++[c])=sides cs++(List.range 4).map fun w=>⟨c,w⟩:=by unfold sides;simp [List.flatMap_append]
theorem take_snoc {α:Type} {l:List α} {i:Nat} {x:α} (h:l[i]?=some x):l.take (i+1)=l.take i++[x]:=by rw [List.take_succ,h];rfl
theorem filter_snoc {α:Type} (p:α→Bool) (l:List α) (x:α):(l++[x]).filter p=l.filter p++(if p x=true then [x] else []):=by
  rw [List.filter_append];congr 1;simp [List.filter_cons]
section
variable {P:Program} {w:World} {K:PySem.W.Frag} {mg:Str→Option Value} {base:Heap}
end
end RR
namespace RR
open PySem L2 RP
def eI (e:Edge):List Int:=[e.c.1,e.c.2,(e.w:Int)]
theorem eI_inj {e f:Edge}:eI e=eI f ↔ e=f:=by
  constructor
  · intro h
    obtain ⟨⟨x,y⟩,w⟩:=e
    obtain ⟨⟨x',y'⟩,w'⟩:=f
    unfold eI at h
    injection h with h1 h2
    injection h2 with h2 h3
    injection h3 with h3 _
    simp only at h1 h2 h3
    have:w=w':=by lia
    subst h1 h2 this
    rfl
  · rintro rfl;rfl
theorem rd_edge {K:PySem.W.Frag} {H:Hp} {b:Addr} {e:Edge} (h:H b=some (.tup (edgeT e))):RD K H (.ref b) (tI (eI e)):=.tup (SqT.of h) (RDs.ints (eI e))
def wk (C:Cell→Bool) (es:List Edge):List (Edge×Option Nat):=es.map fun e=>(e,stepB C e)
def lstLen:Option HO→Nat
  | some (.lst ws)=>ws.length
  | _=>0
section
variable {P:Program} {w:World} {K:PySem.W.Frag} {mg:Str→Option Value} {base:Heap}
end
end RR
namespace RR
open PySem L2 RP
abbrev Wk:=List (Edge×Option Nat)
def nL (W:Wk):Nat:=(W.filter fun q=>q.2.isNone).length
def nS (W:Wk):Nat:=(W.filter fun q=>slant q.2).length
theorem sv_non (o:Option Nat):decide (sv o=V.non)=o.isNone:=by cases o <;> simp [sv]
theorem filter_step {α:Type} {p:α→Bool} {l:List α} {i:Nat} {x:α} (h:l[i]?=some x):((l.take (i+1)).filter p)=(l.take i).filter p++(if p x=true then [x] else []):=by rw [take_snoc h,filter_snoc]
section
variable {P:Program} {w:World} {K:PySem.W.Frag} {mg:Str→Option Value} {base:Heap}
def sortS (W:Wk):Str:=if nS W<nL W then "rim" else "hole"
def kOf (s:Str):Nat:=if s = "rim" then 0 else 2
def IsBegin (W:Wk) (s:Str) (e:Edge):Prop:=e∈W.map (·.1)∧e.w=kOf s∧∀ f∈W.map (·.1),f.w=kOf s→HT.lexLt [f.c.2,f.c.1] [e.c.2,e.c.1]=false
end
end RR
namespace RR
open PySem L2 RP
theorem sIx_nat (n d j:Nat):HT.sIx n d (some (j:Int))=min j n:=by
  show (if (j:Int)<0 then ((j:Int)+(n:Int)).toNat else min (j:Int).toNat n)=min j n
  rw [if_neg (by lia),Int.toNat_natCast]
theorem cut_from (xs:List V) {j:Nat} (h:j≤xs.length):cutV xs (some (j:Int)) none=xs.drop j:=by
  unfold cutV
  rw [sIx_nat,Nat.min_eq_left h]
  exact List.take_of_length_le (by rw [List.length_drop];exact Nat.le_refl _)
theorem cut_to (xs:List V) {j:Nat} (h:j≤xs.length):cutV xs none (some (j:Int))=xs.take j:=by
  unfold cutV
  rw [sIx_nat,Nat.min_eq_left h]
  rfl
structure Rnd where
  so:Str
  x:Int
  y:Int
  row:List Nat
  deriving DecidableEq
def rowV (row:List Nat):List V:=row.map fun n:Nat=>V.int (n:Int)
def rR (r:Rnd) (v:V) (H:Hp):Prop:=∃ a b,v=.ref a∧H a=some (.tup [.str r.so,.int r.x,.int r.y,.ref b])∧H b=some (.tup (rowV r.row))
theorem rR.kt {r:Rnd} {v:V} {H H':Hp} (h:rR r v H) (s:KT H H'):rR r v H':=let ⟨a,b,e,q1,q2⟩:=h;⟨a,b,e,s _ _ q1,s _ _ q2⟩
def IsRnd (W:Wk) (r:Rnd):Prop:=r.so=sortS W∧∃ (j:Nat) (e:Edge),(W.map (·.1))[j]?=some e∧IsBegin W (sortS W) e∧r.x=e.c.1∧r.y=e.c.2∧r.row=(W.drop j++W.take j).filterMap (·.2)
theorem sortS_or (W:Wk):sortS W = "rim" ∨ sortS W = "hole":=by unfold sortS;split <;> simp
section
variable {P:Program} {w:World} {K:PySem.W.Frag} {mg:Str→Option Value} {base:Heap}
def keyV (r:Rnd):List V:=[.int r.y,.int r.x,.bl (decide (V.str r.so=V.str "hole"))]
end
end RR
namespace RR
open PySem L2 RP
theorem VR.cons {α:Type} {v:V} {vs:List V} {x:α} {l:List α} {R:α→V→Hp→Prop} {H:Hp}:VR (v::vs) (x::l) R H ↔ R x v H∧VR vs l R H:=by
  constructor
  · intro h
    exact ⟨h.2 0 x v rfl rfl,by simpa using h.1,fun i y u h1 h2=>h.2 (i+1) y u (by simpa using h1) (by simpa using h2)⟩
  · rintro ⟨h1,h2⟩
    refine ⟨by simp [h2.1],fun i y u e1 e2=>?_⟩
    match i,e1,e2 with
    | 0,e1,e2=>cases e1;cases e2;exact h1
    | i+1,e1,e2=>exact h2.2 i y u (by simpa using e1) (by simpa using e2)
def kE (e:Edge):List Key:=[Sum.inl e.c.1,Sum.inl e.c.2,Sum.inl (e.w:Int)]
theorem kE_inj {e f:Edge}:kE e=kE f ↔ e=f:=by
  constructor
  · intro h
    refine eI_inj.mp ?_
    unfold kE at h
    injection h with h1 h2
    injection h2 with h2 h3
    injection h3 with h3 _
    unfold eI
    rw [Sum.inl.inj h1,Sum.inl.inj h2,Sum.inl.inj h3]
  · rintro rfl;rfl
theorem _root_.RP.Closed.back {C:Cell→Bool} {b x:Edge} {es:List Edge} (h:Closed C b es) (hx:IsE C x) (hm:nxt C x∈es):x∈es:=by
  obtain ⟨⟨h0,hs,hE,hnd⟩,l,hl,hb⟩:=h
  obtain ⟨i,hi,ei⟩:=List.getElem_of_mem hm
  have hlm:l∈es:=List.mem_of_getElem? hl
  rcases Nat.eq_zero_or_pos i with rfl | hp
  · rw [List.getElem?_eq_getElem hi,ei] at h0
    have e:=Option.some.inj h0
    rw [← hb] at e
    rw [nxt_inj hx (hE l hlm) e];exact hlm
  · have hi':i - 1<es.length:=by lia
    have e1:=hs (i - 1) es[i - 1] (nxt C x) (List.getElem?_eq_getElem hi') (by rw [show i - 1+1=i by lia,List.getElem?_eq_getElem hi,ei])
    rw [nxt_inj hx (hE _ (List.getElem_mem hi')) e1]
    exact List.getElem_mem hi'
theorem _root_.RP.Closed.apart {C:Cell→Bool} {b:Edge} {es done:List Edge} (h:Closed C b es) (hd:∀ x,IsE C x→nxt C x∈done→x∈done) (hb:b ∉ done):∀ e∈es,e ∉ done:=by
  obtain ⟨⟨h0,hs,hE,hnd⟩,_⟩:=h
  have key:∀ (i:Nat) e,es[i]?=some e→e ∉ done:=by
    intro i
    induction i with
    | zero=>intro e he;rw [he] at h0;cases h0;exact hb
    | succ i ih =>
      intro e he hm
      have hi:i+1<es.length:=(List.getElem?_eq_some_iff.mp he).1
      have h1:es[i]?=some es[i]:=List.getElem?_eq_getElem (by lia)
      have hn:=hs i _ e h1 he
      rw [hn] at hm
      exact ih _ h1 (hd _ (hE _ (List.getElem_mem _)) hm)
  intro e he
  obtain ⟨i,hi,ei⟩:=List.getElem_of_mem he
  exact key i e (by rw [List.getElem?_eq_getElem hi,ei])
structure Part (C:Cell→Bool) (ESS:List (List Edge)) (R:List Rnd):Prop where
  len:R.length=ESS.length
  each:∀ (i:Nat) es r,ESS[i]?=some es→R[i]?=some r→(∃ b,Closed C b es)∧IsRnd (wk C es) r
  nd:ESS.flatten.Nodup
theorem Part.closed {C:Cell→Bool} {ESS:List (List Edge)} {R:List Rnd} (h:Part C ESS R):∀ es∈ESS,∃ b,Closed C b es:=fun es he=>by
  obtain ⟨i,hi,ei⟩:=List.getElem_of_mem he
  have hr:i<R.length:=by rw [h.len];exact hi
  exact (h.each i es R[i] (by rw [List.getElem?_eq_getElem hi,ei]) (List.getElem?_eq_getElem hr)).1
theorem Part.isE {C:Cell→Bool} {ESS:List (List Edge)} {R:List Rnd} (h:Part C ESS R):∀ e∈ESS.flatten,IsE C e:=fun e he=>by
  obtain ⟨es,h1,h2⟩:=List.mem_flatten.mp he
  obtain ⟨b,hc⟩:=h.closed es h1
  exact hc.1.2.2.1 e h2
theorem Part.back {C:Cell→Bool} {ESS:List (List Edge)} {R:List Rnd} (h:Part C ESS R):∀ x,IsE C x→nxt C x∈ESS.flatten→x∈ESS.flatten:=fun x hx hm=>by
  obtain ⟨es,h1,h2⟩:=List.mem_flatten.mp hm
  obtain ⟨b,hc⟩:=h.closed es h1
  exact List.mem_flatten.mpr ⟨es,h1,hc.back hx h2⟩
theorem Part.nil {C:Cell→Bool}:Part C [] []:=⟨rfl,fun i es r h=>by simp at h,by simp⟩
theorem Part.snoc {C:Cell→Bool} {ESS:List (List Edge)} {R:List Rnd} {b:Edge} {es:List Edge} {r:Rnd} (h:Part C ESS R) (hc:Closed C b es) (hr:IsRnd (wk C es) r) (hb:b ∉ ESS.flatten):Part C (ESS++[es]) (R++[r]):=by
  refine ⟨by simp [h.len],fun i fs q h1 h2=>?_,?_⟩
  · rcases Nat.lt_or_ge i ESS.length with hi | hi
    · rw [List.getElem?_append_left hi] at h1
      rw [List.getElem?_append_left (by rw [h.len];exact hi)] at h2
      exact h.each i fs q h1 h2
    · rw [List.getElem?_append_right hi] at h1
      rw [List.getElem?_append_right (by rw [h.len];exact hi)] at h2
      have hz:i - ESS.length=0:=by
        have:=(List.getElem?_eq_some_iff.mp h1).1
        simp at this;lia
      rw [hz] at h1
      rw [h.len,hz] at h2
      cases h1;cases h2
      exact ⟨⟨b,hc⟩,hr⟩
  · have ap:=hc.apart h.back hb
    rw [List.flatten_append,List.nodup_append]
    refine ⟨h.nd,by simpa using hc.1.2.2.2,fun x hx y hy e=>?_⟩
    subst e
    exact ap x (by simpa using hy) hx
theorem len_flat {p:Edge→Bool}:∀ (ESS:List (List Edge)),(∀ es∈ESS,∃ e∈es,p e=true)→ESS.length≤(ESS.flatten.filter p).length
  | [],_=>Nat.zero_le _
  | es::r,h=>by
    have ih:=len_flat r fun es he=>h es (List.mem_cons_of_mem _ he)
    obtain ⟨e,he,hp⟩:=h es List.mem_cons_self
    rw [List.flatten_cons,List.filter_append,List.length_append,List.length_cons]
    have:0<(es.filter p).length:=List.length_pos_of_mem (List.mem_filter.mpr ⟨he,hp⟩)
    lia
theorem Part.few {cs:List Cell} {ESS:List (List Edge)} {R:List Rnd} (h:Part (isIn cs) ESS R):R.length≤cs.length:=by
  rw [h.len]
  refine Nat.le_trans (len_flat (p:=fun e=>e.w == 0) ESS fun es he=>?_) ?_
  · obtain ⟨b,hc⟩:=h.closed es he
    obtain ⟨e,h1,h2⟩:=hc.has (k:=0) (.inl rfl)
    exact ⟨e,h1,by simpa using h2⟩
  · rw [← List.length_map (f:=fun c:Cell=>(⟨c,0⟩:Edge)) (as:=cs)]
    refine length_le_of_nodup (List.Pairwise.filter _ h.nd) fun e he=>?_
    obtain ⟨h1,h2⟩:=List.mem_filter.mp he
    have hE:=h.isE e h1
    refine List.mem_map.mpr ⟨e.c,of_decide_eq_true hE.2.1,?_⟩
    obtain ⟨c,w⟩:=e
    simp only at h2 ⊢
    have:w=0:=by simpa using h2
    rw [this]
theorem Part.small {cs:List Cell} {ESS:List (List Edge)} {R:List Rnd} (h:Part (isIn cs) ESS R):ESS.flatten.length≤4*cs.length:=by
  rw [← sides_length]
  exact length_le_of_nodup h.nd fun e he=>mem_sides.mpr ⟨of_decide_eq_true (h.isE e he).2.1,(h.isE e he).1⟩
def keyI (r:Rnd):List Int:=[r.y,r.x,PyProof.Rows.b2i (decide (V.str r.so=V.str "hole"))]
def Whole (cs:List Cell) (R:List Rnd):Prop:=∃ ESS,Part (isIn cs) ESS R∧∀ e,e∈ESS.flatten ↔ IsE (isIn cs) e
section
variable {P:Program} {w:World} {K:PySem.W.Frag} {mg:Str→Option Value} {base:Heap}
end
end RR
namespace RR
open PySem L2 RP
theorem rot_perm {α:Type} (l:List α) (j:Nat):(l.drop j++l.take j).Perm l:=by
  have:=List.perm_append_comm (l₁:=l.drop j) (l₂:=l.take j)
  rw [List.take_append_drop] at this
  exact this
theorem wk_map {C:Cell→Bool} (es:List Edge):(wk C es).map (·.1)=es:=by
  unfold wk;rw [List.map_map];exact List.map_id' _
theorem sortS_perm {C:Cell→Bool} {es fs:List Edge} (p:es.Perm fs):sortS (wk C es)=sortS (wk C fs):=by
  have q:(wk C es).Perm (wk C fs):=p.map _
  unfold sortS nL nS
  have a:=(q.filter fun q=>q.2.isNone).length_eq
  have b:=(q.filter fun q=>slant q.2).length_eq
  rw [a,b]
def begE (r:Rnd):Edge:=⟨(r.x,r.y),kOf r.so⟩
theorem IsRnd.beg {C:Cell→Bool} {es:List Edge} {r:Rnd} (h:IsRnd (wk C es) r):begE r∈es∧(r.so = "rim" ∨ r.so = "hole"):=by
  obtain ⟨r0,i,f,rf,⟨rb,rw',_⟩,rx,ry,rr⟩:=h
  rw [wk_map] at rb
  refine ⟨?_,by rw [r0];exact sortS_or _⟩
  have:begE r=f:=by
    obtain ⟨⟨x,y⟩,w⟩:=f
    unfold begE
    rw [rx,ry,r0]
    simp only at rw' ⊢
    rw [rw']
  rw [this];exact rb
theorem Part.got {C:Cell→Bool} {ESS:List (List Edge)} {R:List Rnd} (h:Part C ESS R) {i:Nat} {r:Rnd} (hr:R[i]?=some r):∃ es b,ESS[i]?=some es∧Closed C b es∧IsRnd (wk C es) r:=by
  have hi:=(List.getElem?_eq_some_iff.mp hr).1
  rw [h.len] at hi
  obtain ⟨⟨b,hb⟩,q⟩:=h.each i _ r (List.getElem?_eq_getElem hi) hr
  exact ⟨_,b,List.getElem?_eq_getElem hi,hb,q⟩
theorem Part.so {C:Cell→Bool} {ESS:List (List Edge)} {R:List Rnd} (h:Part C ESS R) {r:Rnd} (hr:r∈R):r.so = "rim" ∨ r.so = "hole":=by
  obtain ⟨i,hi,ei⟩:=List.getElem_of_mem hr
  obtain ⟨es,b,h1,h2,h3⟩:=h.got (by rw [List.getElem?_eq_getElem hi,ei])
  exact h3.beg.2
end RR
namespace RR
open PySem L2 RP
section
variable {P:Program} {w:World} {K:PySem.W.Frag} {mg:Str→Option Value} {base:Heap}
end
end RR
namespace RR
open PySem L2 RP
section
variable {P:Program} {w:World} {K:PySem.W.Frag} {mg:Str→Option Value} {base:Heap}
end
end RR
namespace RR
open PySem L2 RP
section
variable {P:Program} {w:World} {K:PySem.W.Frag} {mg:Str→Option Value} {base:Heap}
theorem atI_last {α:Type} {xs:List α} (h:0<xs.length):atI xs (-1)=xs[xs.length - 1]?:=by
  unfold atI ixN
  rw [if_neg (by decide),if_pos (by lia)]
  show xs[((-1:Int)+xs.length).toNat]?=_
  rw [show ((-1:Int)+xs.length).toNat=xs.length - 1 by lia]
theorem nL_wk (C:Cell→Bool) (es:List Edge):nL (wk C es)=(es.filter fun e=>(stepB C e).isNone).length:=by
  unfold nL wk;rw [List.filter_map,List.length_map];rfl
theorem nS_wk (C:Cell→Bool) (es:List Edge):nS (wk C es)=(es.filter fun e=>slant (stepB C e)).length:=by
  unfold nS wk;rw [List.filter_map,List.length_map];rfl
theorem IsRnd.walk {C : Cell → Bool} {b : Edge} {es : List Edge} {r : Rnd} (h : Closed C b es) (k : IsRnd (wk C es) r) :
    ∃ es',Closed C (begE r) es'∧es'.Perm es∧r.row=(es'.map (stepB C)).filterMap id∧IsBegin (wk C es') r.so (begE r)∧r.so=sortS (wk C es')∧IsRnd (wk C es') r:=by
  obtain ⟨r0,j,f,rf,⟨rb,rw',rl⟩,rx,ry,rr⟩:=id k
  rw [wk_map] at rf rb rl
  have ef:begE r=f:=by
    obtain ⟨⟨x,y⟩,w⟩:=f
    unfold begE
    rw [rx,ry,r0]
    simp only at rw' ⊢
    rw [rw']
  have h1:=h.rot j rf
  have pm:=rot_perm es j
  have ss:=sortS_perm (C:=C) pm
  have hrow:r.row=((es.drop j++es.take j).map (stepB C)).filterMap id:=by
    rw [rr]
    unfold wk
    rw [← List.map_drop,← List.map_take,← List.map_append,List.filterMap_map,List.filterMap_map]
    rfl
  have hb:IsBegin (wk C (es.drop j++es.take j)) r.so f:=⟨by rw [wk_map];exact pm.mem_iff.mpr rb,by rw [rw',r0],fun g hg hw=>by
    rw [wk_map] at hg
    exact rl g (pm.mem_iff.mp hg) (by rw [hw,r0])⟩
  rw [ef]
  refine ⟨_,h1,pm,hrow,hb,by rw [r0,ss],by rw [r0,ss],0,f,by rw [wk_map];exact h1.1.1,by rw [ss,← r0];exact hb,rx,ry,?_⟩
  rw [hrow,List.drop_zero,List.take_zero,List.append_nil]
  unfold wk
  rw [List.filterMap_map,List.filterMap_map]
  rfl
end
end RR
namespace RR
open PySem L2 RP
def rowI (row:List Nat):List Int:=row.map fun n:Nat=>(n:Int)
def dR (r:Rnd):PyData:=.tuple [.str r.so,.int r.x,.int r.y,tI (rowI r.row)]
theorem rowV_I (row:List Nat):rowV row=(rowI row).map V.int:=by unfold rowV rowI;rw [List.map_map];rfl
theorem rowI_inj {a b:List Nat} (h:rowI a=rowI b):a=b:=by
  unfold rowI at h
  exact List.map_inj_right (f:=fun n:Nat=>(n:Int)) (fun x y e=>by lia) |>.mp h
theorem rd_round {K:PySem.W.Frag} {H:Hp} {r:Rnd} {v:V} (h:rR r v H):RD K H v (dR r):=by
  obtain ⟨a,b,rfl,q1,q2⟩:=h
  refine .tup (SqT.of q1) (.cons (.str _) (.cons (.int _) (.cons (.int _) (.cons (.tup (SqT.of q2) ?_) .nil))))
  rw [rowV_I]
  exact RDs.ints _
theorem eqv_dR (r q:Rnd):PyData.eqv (dR r) (dR q)=decide (r=q):=by
  show ((r.so == q.so) && ((r.x == q.x) && ((r.y == q.y) && (PyData.eqv (tI (rowI r.row)) (tI (rowI q.row)) && true))))=_
  rw [eqv_tI,Bool.and_true]
  obtain ⟨a,b,c,d⟩:=r
  obtain ⟨a',b',c',d'⟩:=q
  simp only
  by_cases h1:a=a'
  · by_cases h2:b=b'
    · by_cases h3:c=c'
      · by_cases h4:d=d'
        · subst h1 h2 h3 h4;simp
        · have:¬ rowI d=rowI d':=fun z=>h4 (rowI_inj z)
          simp [h4,this]
      · simp [h3]
    · simp [h2]
  · have:(a == a')=false:=by rw [beq_eq_false_iff_ne];exact h1
    rw [this];simp [h1]
abbrev SoOk (r:Rnd):Prop:=r.so = "rim" ∨ r.so = "hole"
theorem canLay_dR {r:Rnd} (h:SoOk r):PyData.canLay0 (dR r)=true:=by
  have:=shaped_tI (rowI r.row)
  unfold SeqAt.shaped at this
  rw [Bool.and_eq_true] at this
  show (PyData.strOk r.so && (true && (true && (PyData.canLay0 (tI (rowI r.row)) && true))))=true
  rw [this.1]
  rcases h with h | h <;> rw [h] <;> decide +kernel
theorem depth_tI (ns:List Int):PyData.depth (tI ns)=1:=by unfold tI;rw [PyData.depth,depthAll_ints]
theorem depth_dR (r:Rnd):PyData.depth (dR r)=2:=by
  show PyData.depth (.tuple [.str r.so,.int r.x,.int r.y,tI (rowI r.row)])=2
  rw [PyData.depth]
  show max 0 (max 0 (max 0 (max (PyData.depth (tI (rowI r.row))) 0)))+1=2
  rw [depth_tI];rfl
def lR (R:List Rnd):PyData:=.list (R.map dR)
theorem eqvAll_dR:∀ R S:List Rnd,PyData.eqvAll (R.map dR) (S.map dR)=decide (R=S)
  | [],[]=>rfl
  | [],_::_=>rfl
  | _::_,[]=>rfl
  | r::R,q::S=>by
    show (PyData.eqv (dR r) (dR q) && PyData.eqvAll (R.map dR) (S.map dR))=_
    rw [eqvAll_dR R S,eqv_dR]
    by_cases e:r=q
    · subst e;by_cases e2:R=S <;> simp [e2]
    · simp [e]
theorem eqv_lR (R S:List Rnd):PyData.eqv (lR R) (lR S)=decide (R=S):=eqvAll_dR R S
theorem canLayAll_dR:∀ R:List Rnd,(∀ r∈R,SoOk r)→PyData.canLayAll0 (R.map dR)=true
  | [],_=>rfl
  | r::R,h=>by show (PyData.canLay0 (dR r) && PyData.canLayAll0 (R.map dR))=true;rw [canLay_dR (h r List.mem_cons_self),canLayAll_dR R fun q hq=>h q (List.mem_cons_of_mem _ hq)];rfl
theorem depthAll_dR:∀ R:List Rnd,PyData.depthAll (R.map dR)≤2
  | []=>Nat.zero_le _
  | r::R=>by show max (PyData.depth (dR r)) (PyData.depthAll (R.map dR))≤2;rw [depth_dR];have:=depthAll_dR R;lia
theorem shaped_lR {R:List Rnd} (h:∀ r∈R,SoOk r):SeqAt.shaped (lR R)=true:=by
  unfold SeqAt.shaped lR
  rw [PyData.canLay0,canLayAll_dR R h,PyData.depth]
  have:=depthAll_dR R
  simp only [Bool.true_and,decide_eq_true_eq]
  lia
theorem rds_rounds {K:PySem.W.Frag} {H:Hp}:∀ {vs:List V} {R:List Rnd},VR vs R rR H→RDs K H vs (R.map dR)
  | [],[],_=>.nil
  | [],_::_,h=>by have:=h.1;cases this
  | _::_,[],h=>by have:=h.1;cases this
  | v::vs,r::R,h=>by
    obtain ⟨h1,h2⟩:=VR.cons.mp h
    exact .cons (rd_round h1) (rds_rounds h2)
theorem rd_rounds {K:PySem.W.Frag} {H:Hp} {a:Addr} {vs:List V} {R:List Rnd} (e:SqL K H a vs) (h:VR vs R rR H):RD K H (.ref a) (lR R):=.lst e (rds_rounds h)
theorem Whole.so {cs:List Cell} {R:List Rnd} (h:Whole cs R):∀ r∈R,SoOk r:=fun r hr=>let ⟨_,hP,_⟩:=h;hP.so hr
theorem four:4≤sizeLine:=by decide
end RR
namespace RR
open PySem L2 RP
structure Can (C:Cell→Bool) (es:List Edge) (r:Rnd):Prop where
  cl:Closed C (begE r) es
  row:r.row=(es.map (stepB C)).filterMap id
  bg:IsBegin (wk C es) r.so (begE r)
  so:r.so=sortS (wk C es)
inductive Al {α β:Type} (P:α→β→Prop):List α→List β→Prop where
  | nil:Al P [] []
  | cons {a:α} {b:β} {l:List α} {m:List β}:P a b→Al P l m→Al P (a::l) (b::m)
theorem Al.of {α β:Type} {P:α→β→Prop}:∀ {l:List α} {m:List β},l.length=m.length→(∀ (i:Nat) a b,m[i]?=some b→l[i]?=some a→P a b)→Al P l m
  | [],[],_,_=>.nil
  | [],_::_,h,_=>by cases h
  | _::_,[],h,_=>by cases h
  | a::l,b::m,h,q=>.cons (q 0 a b rfl rfl) (Al.of (by simpa using h) fun i x y h1 h2=>q (i+1) x y (by simpa using h1) (by simpa using h2))
theorem Al.length {α β:Type} {P:α→β→Prop} {l:List α} {m:List β} (h:Al P l m):l.length=m.length:=by
  induction h with
  | nil=>rfl
  | cons _ _ ih=>simp [ih]
theorem Al.at {α β:Type} {P:α→β→Prop} {l:List α} {m:List β} (h:Al P l m):∀ {i:Nat} {a:α} {b:β},m[i]?=some b→l[i]?=some a→P a b:=by
  induction h with
  | nil=>intro i a b h1;simp at h1
  | cons p _ ih =>
    intro i a b h1 h2
    cases i with
    | zero=>simp at h1 h2;subst h1 h2;exact p
    | succ i=>exact ih (by simpa using h1) (by simpa using h2)
theorem Al.perm {α β:Type} {P:α→β→Prop} {l' l:List α} (p:l'.Perm l):∀ {m:List β},Al P l m→∃ m',m'.Perm m∧Al P l' m':=by
  induction p with
  | nil=>intro m h;exact ⟨m,.refl _,h⟩
  | cons a _ ih =>
    intro m h
    cases h with
    | cons p t =>
      obtain ⟨m',q,r⟩:=ih t
      exact ⟨_::m',q.cons _,.cons p r⟩
  | swap a b l =>
    intro m h
    cases h with
    | cons p t =>
      cases t with
      | cons p2 t2=>exact ⟨_::_::_,.swap _ _ _,.cons p2 (.cons p t2)⟩
  | trans _ _ ih1 ih2 =>
    intro m h
    obtain ⟨m1,q1,r1⟩:=ih2 h
    obtain ⟨m2,q2,r2⟩:=ih1 r1
    exact ⟨m2,q2.trans q1,r2⟩
theorem Al.bind {α γ:Type} {P Q:α→List γ→Prop} (f:∀ a b,P a b→∃ c,Q a c∧c.Perm b) {l:List α} {m:List (List γ)} (h:Al P l m):∃ m',Al Q l m'∧m'.flatten.Perm m.flatten:=by
  induction h with
  | nil=>exact ⟨[],.nil,.refl _⟩
  | cons p _ ih =>
    obtain ⟨c,q1,q2⟩:=f _ _ p
    obtain ⟨m',r1,r2⟩:=ih
    exact ⟨c::m',.cons q1 r1,by rw [List.flatten_cons,List.flatten_cons];exact q2.append r2⟩
theorem flatten_perm {γ:Type} {a b:List (List γ)} (p:a.Perm b):a.flatten.Perm b.flatten:=by
  induction p with
  | nil=>exact .refl _
  | cons x _ ih=>rw [List.flatten_cons,List.flatten_cons];exact ih.append_left _
  | swap x y l =>
    simp only [List.flatten_cons]
    rw [← List.append_assoc,← List.append_assoc]
    exact List.perm_append_comm.append_right _
  | trans _ _ i1 i2=>exact i1.trans i2
structure Cans (C:Cell→Bool) (ESS:List (List Edge)) (R:List Rnd):Prop where
  al:Al (fun r es=>Can C es r) R ESS
  nd:ESS.flatten.Nodup
  all:∀ e,e∈ESS.flatten ↔ IsE C e
theorem Whole.cans {cs:List Cell} {R R0:List Rnd} (p:R.Perm R0) (h:Whole cs R0):∃ ESS,Cans (isIn cs) ESS R:=by
  obtain ⟨E,h1,h2⟩:=h
  have a1:Al (fun r es=>(∃ b,Closed (isIn cs) b es)∧IsRnd (wk (isIn cs) es) r) R0 E:=Al.of h1.len fun i r es e1 e2=>h1.each i es r e1 e2
  obtain ⟨F,q1,a2⟩:=a1.perm p
  obtain ⟨G,a3,q2⟩:=Al.bind (Q:=fun r es=>Can (isIn cs) es r) (fun r es ⟨⟨b,hb⟩,hr⟩=>by
    obtain ⟨es',k1,k2,k3,k4,k5,_⟩:=IsRnd.walk hb hr
    exact ⟨es',⟨k1,k3,k4,k5⟩,k2⟩) a2
  have pm:=q2.trans (flatten_perm q1)
  exact ⟨G,a3,pm.nodup_iff.mpr h1.nd,fun e=>by rw [pm.mem_iff];exact h2 e⟩
theorem Cans.so {C:Cell→Bool} {ESS:List (List Edge)} {R:List Rnd} (h:Cans C ESS R) {i:Nat} {r:Rnd} (hr:R[i]?=some r):∃ es,ESS[i]?=some es∧Can C es r:=by
  have hi:=(List.getElem?_eq_some_iff.mp hr).1
  rw [h.al.length] at hi
  exact ⟨_,List.getElem?_eq_getElem hi,h.al.at (List.getElem?_eq_getElem hi) hr⟩
inductive Lnk (C:Cell→Bool):Edge→List Edge→Prop where
  | one (e:Edge):Lnk C e []
  | more {e:Edge} {es:List Edge}:Lnk C (nxt C e) es→Lnk C e (nxt C e::es)
structure Box where
  (a b c d:Int)
theorem VR.app {α:Type} {vs ws:List V} {l m:List α} {R:α→V→Hp→Prop} {H:Hp} (h:VR vs l R H) (k:VR ws m R H):VR (vs++ws) (l++m) R H:=by
  refine ⟨by rw [List.length_append,List.length_append,h.1,k.1],fun i x v h1 h2=>?_⟩
  by_cases hi:i<l.length
  · rw [List.getElem?_append_left hi] at h1
    rw [List.getElem?_append_left (by rw [h.1];exact hi)] at h2
    exact h.2 i x v h1 h2
  · rw [List.getElem?_append_right (by lia)] at h1
    rw [List.getElem?_append_right (by rw [h.1];lia),h.1] at h2
    exact k.2 _ x v h1 h2
abbrev Bfr (a b:Cell):Prop:=HT.lexLt [a.2,a.1] [b.2,b.1]=true
end RR
namespace RR
open PySem L2 RP
section
variable {P:Program} {w:World} {K:PySem.W.Frag} {mg:Str→Option Value} {base:Heap}
end
end RR
namespace RR
open PySem L2 RP
theorem cpow {i j:Int} (h:0≤j∧j≤1000000∧i.natAbs<2 ^ 64):CPow i j:=h
theorem small_log {b:Int} (h0:0<b) (h:b≤6000):b.natAbs.log2<9000:=by
  refine (Nat.log2_lt (by lia)).mpr (Nat.lt_of_lt_of_le (show b.natAbs<2 ^ 13 by lia) (Nat.pow_le_pow_right (by decide) (by decide)))
theorem ord_of {cs:List Cell} (h:cs.Pairwise Bfr):InOrd cs:=by
  intro i c d h1 h2
  have hi:=(List.getElem?_eq_some_iff.mp h1).1
  have hj:=(List.getElem?_eq_some_iff.mp h2).1
  have e1:=(List.getElem?_eq_some_iff.mp h1).2
  have e2:=(List.getElem?_eq_some_iff.mp h2).2
  have a:=List.pairwise_iff_getElem.mp h i (i+1) hi hj (by lia)
  rw [e1,e2] at a
  exact a
theorem bfr_row {a b y:Int} (h:a<b):Bfr (a,y) (b,y):=by
  show HT.lexLt [y,a] [y,b]=true
  rw [HT.lexLt_cons,if_pos rfl,HT.lexLt_cons,if_neg (by lia)];exact decide_eq_true h
theorem bfr_up {a b:Cell} (h:a.2<b.2):Bfr a b:=by
  show HT.lexLt [a.2,a.1] [b.2,b.1]=true
  rw [HT.lexLt_cons,if_neg (by lia)];exact decide_eq_true h
section
variable {P:Program} {w:World} {K:PySem.W.Frag} {mg:Str→Option Value} {base:Heap}
def spCellAt (K:PySem.W.Frag):Sp:=fun vs H Q _=>∃ (a:Addr) (ns:List Int) (k:Nat),vs=[.ref a,.int k]∧SqL K H a (ns.map V.int)∧∀ n,Q (.int n) H
theorem ok_law_cell_at (T:Txt P w K mg) (d:Df K mg "_law_cell_at" s__law_cell_at ["_law_script","_law_k"]):FnOk P w K mg base CX0 1 d.f d.fd ["_law_script","_law_k"] (spCellAt K):=by
  refine d.F.ok sc__law_cell_at (fun vs H Q E h=>?_) (fun cdv A outer s H vs Q E hr h=>?_)
  · obtain ⟨a,ns,k,rfl,_⟩:=h
    rfl
  · obtain ⟨a,ns,i,rfl,hq,k⟩:=h
    refine ⟨_,(pss_cons (ps_if (pt_cmpR op_lt (pv 1) (pe_callB call_len_seq (by rfl) T.nlen (by rfl) (pa_N (pv 0) pa_nil)) (nomark _))
      (pss_one (ps_ret (pe_ix ix_list (pv 0) (pv 1) (fun _ _=>rfl))))
      pss_nil)
      (pss_one (ps_ret pe_int))),?_⟩
    refine ⟨_,rfl,_,rfl,a,_,rfl,.inl hq,_,_,rfl,rfl,_,rfl,?_⟩
    refine ite2 (fun hy=>?_) (fun hn=>k 0)
    have hlt:i<ns.length:=by
      have:=of_decide_eq_true hy
      rw [List.length_map] at this
      lia
    exact ⟨_,rfl,_,rfl,a,_,_,_,rfl,rfl,hq,atI_nat (v:=.int ns[i]) (by simp [hlt]),k _⟩
def spRow:Sp:=fun vs H Q _=>∃ (c b:Int) (m:Nat),vs=[.int c,.int m,.int b]∧m≤60∧0<b∧b≤6000∧∀ p H' (ns:List Int),H p=none→Same H H'→H' p=some (.lst (ns.map V.int))→ns.length=m→(∀ n∈ns,0≤n∧n<b)→Q (.ref p) H'
theorem ok_law_row (T:Txt P w K mg) (d:Df K mg "_law_row" s__law_row ["_law_cell","_law_many","_law_base"]):FnOk P w K mg base CX0 1 d.f d.fd ["_law_cell","_law_many","_law_base"] spRow:=by
  refine d.F.ok sc__law_row (fun vs H Q E h=>?_) (fun cdv A outer s H vs Q E hr h=>?_)
  · obtain ⟨c,b,m,rfl,_⟩:=h
    rfl
  · obtain ⟨c,b,m,rfl,hm,hb,hb2,k⟩:=h
    refine ⟨_,(pss_cons (sE 3 sc__law_row.nd (pe_lst pa_nil))
      (pss_cons (sE 4 sc__law_row.nd (pe_op op_sub (pv 0) (pe_op op_pow pe_int pe_int)))
      (pss_cons (sE 5 sc__law_row.nd (pe_op op_mod (pv 0) pe_int))
      (pss_cons (ps_for PassesOwn.never rfl (pi_range1 (by rfl) T.nrange (pa_N (pv 1) pa_nil)) (nG 6 sc__law_row.nd)
      (pss_one (ps_if (pt_cmpR op_ge (pv 0) (pe_op op_pow pe_int pe_int) (nomark _))
      (pss_cons (ps_expr (pe_bm PySem.F.plainAttrs_list PySem.F.slot_list_append PySem.F.type_list_append mt_append (pv 3) (pa_B (pe_op op_mod (pv 4) (pv 2)) pa_nil)))
      (pss_one (sE 4 sc__law_row.nd (pe_op op_fdivB (pv 4) (pv 2)))))
      (pss_cons (sE 5 sc__law_row.nd (pe_op op_mod (pe_op op_add (pe_op op_add (pe_op op_mul (pv 5) pe_int) (pe_op op_mul (pe_op op_mul (pv 6) (pv 6)) pe_int)) pe_int) pe_int))
      (pss_one (ps_expr (pe_bm PySem.F.plainAttrs_list PySem.F.slot_list_append PySem.F.type_list_append mt_append (pv 3) (pa_B (pe_op op_mod (pe_op op_fdiv (pe_op op_mod (pe_op op_mul (pv 5) (pv 5)) pe_int) pe_int) (pv 2)) pa_nil))))))))
      (pss_one (ps_ret (pv 3))))))),?_⟩
    have hmod:∀ z:Int,0≤z % b∧z % b<b:=fun z=>⟨Int.emod_nonneg _ (by lia),Int.emod_lt_of_pos _ hb⟩
    have hnum:∀ z:Int,0≤z % 2147483629∧z % 2147483629<2147483629:=fun z=>⟨Int.emod_nonneg _ (by decide),Int.emod_lt_of_pos _ (by decide)⟩
    refine ⟨(by show 0≤sizeLine;decide),fun p hp=>?_⟩
    have s1:Same H (upd H p (.lst [])):=Same.up hp
    have e1:upd H p (.lst []) p=some (.lst []):=upd_same
    generalize upd H p (.lst [])=H1 at s1 e1
    refine ⟨_,rfl,_,_,rfl,rfl,(by refine cpow ?_;decide),_,_,rfl,rfl,?_⟩
    refine ⟨_,rfl,_,_,rfl,rfl,(by show (0:Int)<2147483629;decide),?_⟩
    refine ⟨_,rfl,_,rfl,(by lia),(by lia),?_⟩
    refine for_range (lo:=0) (n:=m) (fun i σ H2=>∃ (l q:Int) (o:Option V) (ns:List Int),σ=[some (.int c),some (.int m),some (.int b),some (.ref p),some (.int l),some (.int q),o]∧0≤q∧q<2147483629∧Same H H2∧H2 p=some (.lst (ns.map V.int))∧ns.length=i∧∀ n∈ns,0≤n∧n<b)
      ⟨_,_,_,[],rfl,(hnum c).1,(hnum c).2,s1,e1,rfl,by simp⟩ ?_ ?_
    · rintro i σ H2 hi ⟨l,q,o,ns,rfl,q0,q1,s2,e2,hl,hall⟩
      have snoc:∀ z:Int,0≤z→z<b→(ns++[z]).length=i+1∧∀ n∈ns++[z],0≤n∧n<b:=fun z z0 z1=>⟨by rw [List.length_append,hl];rfl,fun n hn=>by
        rcases List.mem_append.mp hn with h | h
        · exact hall n h
        · rw [List.mem_singleton.mp h];exact ⟨z0,z1⟩⟩
      refine ⟨_,rfl,_,_,rfl,rfl,(by refine cpow ?_;decide),_,_,rfl,rfl,_,rfl,?_⟩
      refine ite2 (fun _=>?_) (fun _=>?_)
      · refine ⟨_,rfl,.inl ⟨rfl,_,SqL.of e2⟩,_,rfl,_,rfl,_,_,rfl,rfl,hb,p,_,_,rfl,rfl,e2,small1000 (by rw [List.length_map];lia),?_⟩
        refine ⟨_,rfl,_,rfl,_,_,rfl,rfl,⟨hb,small_log hb hb2⟩,?_⟩
        obtain ⟨z1,z2⟩:=snoc (l % b) (hmod l).1 (hmod l).2
        exact ⟨_,q,_,ns++[l % b],rfl,q0,q1,same_lst hp s2,by rw [upd_same,List.map_append];rfl,z1,z2⟩
      · refine ⟨_,rfl,_,_,rfl,rfl,.inr ⟨by decide,by decide⟩,_,rfl,_,rfl,_,_,rfl,rfl,.inl ⟨by lia,by lia⟩,_,_,rfl,rfl,.inr ⟨by decide,by decide⟩,_,_,rfl,rfl,_,_,rfl,rfl,_,_,rfl,rfl,(by show (0:Int)<2147483629;decide),?_⟩
        obtain ⟨n0,n1⟩:=hnum (q*48271+(0+(i:Int))*(0+(i:Int))*69621+11)
        refine ⟨_,rfl,.inl ⟨rfl,_,SqL.of e2⟩,_,rfl,_,rfl,_,_,rfl,rfl,.inl ⟨by lia,by lia⟩,_,_,rfl,rfl,(by show (0:Int)<2147483647;decide),_,_,rfl,rfl,⟨by decide,by decide⟩,_,rfl,_,_,rfl,rfl,hb,p,_,_,rfl,rfl,e2,small1000 (by rw [List.length_map];lia),?_⟩
        obtain ⟨z1,z2⟩:=snoc (((q*48271+(0+(i:Int))*(0+(i:Int))*69621+11) % 2147483629)*((q*48271+(0+(i:Int))*(0+(i:Int))*69621+11) % 2147483629) % 2147483647 / 64 % b) (hmod _).1 (hmod _).2
        exact ⟨l,((q*48271+(0+(i:Int))*(0+(i:Int))*69621+11) % 2147483629),_,ns++[((q*48271+(0+(i:Int))*(0+(i:Int))*69621+11) % 2147483629)*((q*48271+(0+(i:Int))*(0+(i:Int))*69621+11) % 2147483629) % 2147483647 / 64 % b],rfl,n0,n1,same_lst hp s2,by rw [upd_same,List.map_append];rfl,z1,z2⟩
    · rintro σ H2 ⟨l,q,o,ns,rfl,q0,q1,s2,e2,hl,hall⟩
      exact ⟨_,rfl,k p H2 ns hp s2 e2 hl hall⟩
end
end RR
namespace RR
open PySem L2 RP
def rowX (ns:List Int) (sh dx y:Int) (n:Nat):List Cell:=((List.range n).filter fun x=>decide (ns.getD x 0≤sh)).map fun x:Nat=>((x:Int)+dx,y)
theorem rowX_succ (ns:List Int) (sh dx y:Int) (n:Nat):rowX ns sh dx y (n+1)=rowX ns sh dx y n++(if ns.getD n 0≤sh then [((n:Int)+dx,y)] else []):=by
  unfold rowX
  rw [List.range_succ,List.filter_append,List.map_append]
  congr 1
  by_cases h:ns.getD n 0≤sh
  · rw [if_pos h]
    have e:(List.filter (fun x=>decide (ns.getD x 0≤sh)) [n])=[n]:=by
      show (match decide (ns.getD n 0≤sh) with | true=>[n] | false=>[])=[n]
      rw [decide_eq_true h]
    rw [e];rfl
  · rw [if_neg h]
    have e:(List.filter (fun x=>decide (ns.getD x 0≤sh)) [n])=[]:=by
      show (match decide (ns.getD n 0≤sh) with | true=>[n] | false=>[])=[]
      rw [decide_eq_false h]
    rw [e];rfl
theorem rowX_length (ns:List Int) (sh dx y:Int) (n:Nat):(rowX ns sh dx y n).length≤n:=by
  unfold rowX
  rw [List.length_map]
  refine Nat.le_trans (List.length_filter_le _ _) ?_
  rw [List.length_range];exact Nat.le_refl _
theorem rowX_pw (ns:List Int) (sh dx y:Int) (n:Nat):(rowX ns sh dx y n).Pairwise Bfr:=by
  unfold rowX
  rw [List.pairwise_map]
  refine (List.pairwise_lt_range.filter _).imp fun {a b} h=>bfr_row (by lia)
theorem rowX_y {ns:List Int} {sh dx y:Int} {n:Nat} {c:Cell} (h:c∈rowX ns sh dx y n):c.2=y:=by
  obtain ⟨x,_,rfl⟩:=List.mem_map.mp h
  rfl
theorem rowX_x {ns:List Int} {sh dx y:Int} {n:Nat} {c:Cell} (h:c∈rowX ns sh dx y n):dx≤c.1∧c.1<dx+n:=by
  obtain ⟨x,hx,rfl⟩:=List.mem_map.mp h
  have:=List.mem_range.mp (List.mem_filter.mp hx).1
  show dx≤(x:Int)+dx∧(x:Int)+dx<dx+n
  lia
section
variable {P:Program} {w:World} {K:PySem.W.Frag} {mg:Str→Option Value} {base:Heap}
def CellN (c:Cell):Prop:=(-(10 ^ 30)<c.1∧c.1<10 ^ 30)∧-(10 ^ 30)<c.2∧c.2<10 ^ 30
def spPict (K:PySem.W.Frag):Sp:=fun vs H Q _=>∃ (a:Addr) (ns:List Int) (st:Nat),vs=[.ref a,.int st]∧SqL K H a (ns.map V.int)∧∀ p H' vs cs,H p=none→Same H H'→H' p=some (.lst vs)→VR vs cs cR H'→cs.Pairwise Bfr→cs.length≤120→(∀ c∈cs,CellN c)→Q (.ref p) H'
theorem six {α:Type} {l:List α} (h:l.length=6):∃ a b c d e f,l=[a,b,c,d,e,f]:=by
  match l,h with
  | [a,b,c,d,e,f],_=>exact ⟨a,b,c,d,e,f,rfl⟩
theorem ok_law_picture (T : Txt P w K mg) (g__law_cell_at : Fn P w K mg base 1 "_law_cell_at" ["_law_script", "_law_k"] (spCellAt K)) (g__law_row : Fn P w K mg base 1 "_law_row" ["_law_cell", "_law_many", "_law_base"] spRow)
    (d:Df K mg "_law_picture" s__law_picture ["_law_script","_law_start"]):FnOk P w K mg base CX0 2 d.f d.fd ["_law_script","_law_start"] (spPict K):=by
  refine d.F.ok sc__law_picture (fun vs H Q E h=>?_) (fun cdv A outer s H vs Q E hr h=>?_)
  · obtain ⟨a,ns,st,rfl,_⟩:=h
    rfl
  · obtain ⟨a,ns,st,rfl,hS,k⟩:=h
    have nb0:(["_law_x","_law_y","_law_far","_law_row_here","_law_share","_law_left","_law_low"]:List Str).Nodup:=by decide +kernel
    refine ⟨_,(pss_cons (ps_asg (pC g__law_row hr (pa_cons (pC g__law_cell_at hr (pa_N (pv 0) (pa_N (pv 1) pa_nil))) (pa_C pe_int (pa_C pe_int pa_nil)))) (pg_lst (by rfl) (pgs_cons (nG 2 sc__law_picture.nd) (pgs_cons (nG 3 sc__law_picture.nd) (pgs_cons (pg_name (i:=4) sc__law_picture.nd (by rfl) (Or.inr rfl)) (pgs_cons (pg_name (i:=5) sc__law_picture.nd (by rfl) (Or.inr rfl)) (pgs_cons (pg_name (i:=6) sc__law_picture.nd (by rfl) (Or.inr rfl)) (pgs_cons (nG 7 sc__law_picture.nd) pgs_nil))))))))
      (pss_cons (ps_set (i:=8) sc__law_picture.nd (by rfl) (Or.inr rfl) (pe_ix ix_list (pe_lst (pa_C pe_int (pa_B (pe_op op_pow pe_int pe_int) pa_nil))) (pe_op op_fdiv (pv 7) pe_int) (fun _ _=>rfl)))
      (pss_cons (sE 9 sc__law_picture.nd (pe_lst pa_nil))
      (pss_cons (ps_for PassesOwn.never rfl (pi_range1 (by rfl) T.nrange (pa_B (pe_op op_add pe_int (pe_op op_mod (pv 3) pe_int)) pa_nil)) (pg_name (i:=10) sc__law_picture.nd (by rfl) (Or.inr rfl))
      (pss_cons (ps_set (i:=11) sc__law_picture.nd (by rfl) (Or.inr rfl) (pC g__law_row hr (pa_B (pe_op op_add (pC g__law_cell_at hr (pa_N (pv 0) (pa_B (pe_op op_add (pe_op op_add (pv 1) pe_int) (pv 10)) pa_nil))) (pv 10)) (pa_B (pe_op op_add pe_int (pe_op op_mod (pv 2) pe_int)) (pa_C pe_int pa_nil)))))
      (pss_one (ps_expr (pe_bm PySem.F.plainAttrs_list PySem.F.slot_list_extend PySem.F.type_list_extend mt_extend (pv 9) (pa_cons (pe_compL (osc:=defScope s__law_picture) (N:=N__law_picture) (N':=["_law_x","_law_y","_law_far","_law_row_here","_law_share","_law_left","_law_low"]) (sel:=[none,some 10,some 8,some 11,some 4,some 5,some 6]) bO (pi_range1 (by rfl) T.nrange (pa_cons (pe_callB call_len_seq (by rfl) T.nlen (by rfl) (pa_N (pv 11) pa_nil)) pa_nil)) (fun _ _ _ _ _=>(nG 0 nb0)) (fun _ _ _ _ _=>pts_one (pt_cmpR op_le (pe_ix (ix_listK (K:=K)) (pv 3) (pv 0) (fun _ _=>rfl)) (pe_op op_mod (pv 4) pe_int) (nomark _))) (fun _ _ _ _ _=>(pe_tup (pa_B (pe_op op_add (pv 0) (pe_op op_mul (pe_op op_sub (pv 5) pe_int) (pv 2))) (pa_B (pe_op op_add (pv 1) (pe_op op_mul (pe_op op_sub (pv 6) pe_int) (pv 2))) pa_nil))))) pa_nil))))))
      (pss_one (ps_ret (pv 9))))))),?_⟩
    refine ⟨_,rfl,_,rfl,a,ns,st,rfl,hS,fun c0=>⟨c0,60,6,rfl,by decide,by decide,by decide,fun p1 H1 ms hp1 s1 e1 hl1 hb1=>?_⟩⟩
    obtain ⟨wd,hg,sh,lf,lw,wy,rfl⟩:=six hl1
    have bw:=hb1 wd (by simp)
    have bh:=hb1 hg (by simp)
    have bl:=hb1 lf (by simp)
    have bo:=hb1 lw (by simp)
    have by':=hb1 wy (by simp)
    refine ⟨p1,_,rfl,SqL.of e1,rfl,_,_,rfl,_,_,rfl,_,_,rfl,_,_,rfl,_,_,rfl,_,_,rfl,rfl,?_⟩
    refine ⟨_,_,rfl,rfl,(by refine cpow ?_;decide),two,fun l2 hl2=>?_⟩
    have s2:Same H1 (upd H1 l2 (.lst [.int 1,.int (10 ^ (28:Int).toNat)])):=Same.up hl2
    have e2:upd H1 l2 (.lst [.int 1,.int (10 ^ (28:Int).toNat)]) l2=some (.lst [.int 1,.int (10 ^ (28:Int).toNat)]):=upd_same
    generalize upd H1 l2 (.lst [.int 1,.int (10 ^ (28:Int).toNat)])=H2 at s2 e2
    obtain ⟨far,hfar,hf2⟩:∃ far:Int,atI [V.int 1,V.int (10 ^ (28:Int).toNat)] (wy / 50)=some (.int far)∧(far=1∨far=10 ^ (28:Int).toNat):=by
      have:wy / 50=0∨wy / 50=1:=by lia
      rcases this with z | z <;> rw [z]
      · exact ⟨_,rfl,.inl rfl⟩
      · exact ⟨_,rfl,.inr rfl⟩
    refine ⟨_,rfl,_,_,rfl,rfl,⟨by decide,by decide⟩,l2,_,_,_,rfl,rfl,SqL.of e2,hfar,?_⟩
    refine ⟨(by show 0≤sizeLine;decide),fun f hf=>?_⟩
    have s3:Same H2 (upd H2 f (.lst [])):=Same.up hf
    have e3:upd H2 f (.lst []) f=some (.lst []):=upd_same
    generalize upd H2 f (.lst [])=H3 at s3 e3
    have s02:=s1.trans s2
    have hf0:H f=none:=s02.free hf
    have s03:=s02.trans s3
    have hh0:=Int.emod_nonneg hg (show (10:Int)≠0 by decide)
    have hh1:=Int.emod_lt_of_pos hg (show (0:Int)<10 by decide)
    have hw0:=Int.emod_nonneg wd (show (12:Int)≠0 by decide)
    have hw1:=Int.emod_lt_of_pos wd (show (0:Int)<12 by decide)
    refine ⟨_,rfl,_,_,rfl,rfl,(by show (0:Int)<10;decide),_,_,rfl,rfl,_,rfl,(by show -(2 ^ 62)≤1+hg % 10;lia),(by show 1+hg % 10<2 ^ 62;lia),?_⟩
    refine for_range (lo := 0) (n := (1 + hg % 10).toNat) (fun i σ H4 => ∃ o10 o11, σ = [some (.ref a), some (.int st), some (.int wd), some (.int hg), some (.int sh), some (.int lf), some (.int lw), some (.int wy), some (.int far), some (.ref f), o10, o11] ∧ Same H H4 ∧
        ∃ vs cs,H4 f=some (.lst vs)∧VR vs cs cR H4∧cs.Pairwise Bfr∧(∀ c∈cs,c.2<(i:Int)+(lw - 30)*far∧(lw - 30)*far≤c.2∧(lf - 30)*far≤c.1∧c.1<(lf - 30)*far+12)∧cs.length≤12*i)
      ⟨_,_,rfl,s03,[],[],e3,VR.nil,.nil,by simp,Nat.zero_le _⟩ ?_ ?_
    · rintro i σ H4 hi ⟨o10,o11,rfl,s4,vs,cs,e4,hv4,hpw,hup,hcl⟩
      have hi10:i<10:=by lia
      refine ⟨_,rfl,_,rfl,_,_,rfl,rfl,_,rfl,_,_,rfl,rfl,a,ns,st+1+i,(by rw [Int.zero_add];rfl),s4.seq hS,fun c1=>⟨_,rfl,_,_,rfl,rfl,?_⟩⟩
      refine ⟨_,rfl,_,_,rfl,rfl,(by show (0:Int)<12;decide),_,_,rfl,rfl,_,4,(1+wd % 12).toNat,(by rw [Int.toNat_of_nonneg (by lia)];rfl),by lia,by decide,by decide,fun p5 H5 rs hp5 s5 e5 hl5 _=>?_⟩
      have e45:=s5 _ _ e4
      refine ⟨_,rfl,.inl ⟨rfl,_,SqL.of e45⟩,_,rfl,p5,_,rfl,.inl (SqL.of e5),_,rfl,(by rw [List.length_map];lia),(by rw [List.length_map];lia),fun g hg5=>?_⟩
      rw [show ((((rs.map V.int).length:Nat):Int)).toNat=rs.length by rw [List.length_map];rfl]
      have hrl:rs.length≤12:=by lia
      refine for_range (lo:=0) (n:=rs.length) (fun j σ H6=>∃ o0,σ=[o0,some (.int (0+(i:Int))),some (.int far),some (.ref p5),some (.int sh),some (.int lf),some (.int lw)]∧Same H5 H6∧∃ zs,H6 g=some (.lst zs)∧VR zs (rowX rs (sh % 3) ((lf - 30)*far) ((i:Int)+(lw - 30)*far) j) cR H6)
        ⟨_,rfl,Same.up hg5,[],upd_same,VR.nil⟩ ?_ ?_
      · rintro j σ H6 hj ⟨o0,rfl,s6,zs,e6,hz6⟩
        have hzl:zs.length≤12:=by rw [hz6.1];have:=rowX_length rs (sh % 3) ((lf - 30)*far) ((i:Int)+(lw - 30)*far) j;lia
        have hget:(rs.map V.int)[j]?=some (.int (rs.getD j 0)):=by
          rw [List.getElem?_map,List.getD_eq_getElem?_getD,List.getElem?_eq_getElem hj];rfl
        refine ⟨_,rfl,_,rfl,p5,_,_,_,rfl,rfl,SqL.of (s6 _ _ e5),(by rw [Int.zero_add];exact atI_nat hget),_,rfl,_,_,rfl,rfl,(by show (0:Int)<3;decide),_,_,rfl,rfl,_,rfl,?_⟩
        rw [rowX_succ]
        refine ite2 (fun hy=>?_) (fun hn=>?_)
        · rw [if_pos (of_decide_eq_true hy)]
          refine ⟨_,rfl,_,rfl,_,_,rfl,rfl,_,rfl,_,_,rfl,rfl,.inl ⟨by lia,by lia⟩,_,_,rfl,rfl,?_⟩
          refine ⟨_,rfl,_,rfl,_,_,rfl,rfl,_,rfl,_,_,rfl,rfl,.inl ⟨by lia,by lia⟩,_,_,rfl,rfl,two,fun t ht=>?_⟩
          have s7:Same H6 (upd H6 t (.tup [.int (0+(j:Int)+(lf - 30)*far),.int (0+(i:Int)+(lw - 30)*far)])):=Same.up ht
          have r7:cR ((j:Int)+(lf - 30)*far,(i:Int)+(lw - 30)*far) (.ref t) (upd H6 t (.tup [.int (0+(j:Int)+(lf - 30)*far),.int (0+(i:Int)+(lw - 30)*far)])):=⟨t,rfl,by rw [upd_same,Int.zero_add,Int.zero_add];rfl⟩
          generalize upd H6 t (.tup [.int (0+(j:Int)+(lf - 30)*far),.int (0+(i:Int)+(lw - 30)*far)])=H7 at s7 r7
          have e7:=s7 _ _ e6
          refine ⟨zs,e7,small1000 (by lia),_,rfl,same_lst hg5 (s6.trans s7),_,upd_same,?_⟩
          exact hz6.snoc (fun x v h=>(h.kt (KT.of s7)).kt (KT.lst e7)) (r7.kt (KT.lst e7))
        · rw [if_neg (by simpa using hn)]
          exact ⟨_,rfl,s6,zs,e6,by rw [List.append_nil];exact hz6⟩
      · rintro σ H6 ⟨o0,rfl,s6,zs,e6,hz6⟩
        have hrx:=rowX_length rs (sh % 3) ((lf - 30)*far) ((i:Int)+(lw - 30)*far) rs.length
        have hzl:zs.length≤12:=by rw [hz6.1];lia
        have hvl:vs.length≤120:=by rw [hv4.1];lia
        have e46:=s6 _ _ e45
        refine ⟨f,g,_,_,rfl,rfl,e46,e6,Nat.le_of_lt (small1000 (by lia)),?_⟩
        have k7:KT H6 (upd H6 f (.lst (vs++zs))):=KT.lst e46
        refine ⟨_,_,rfl,same_lst hf0 (s4.trans (s5.trans s6)),_,_,upd_same,(hv4.mono fun x v h=>(h.kt (KT.of (s5.trans s6))).kt k7).app (hz6.mono fun x v h=>h.kt k7),?_,?_,?_⟩
        · refine List.pairwise_append.mpr ⟨hpw,rowX_pw _ _ _ _ _,fun x hx y hy=>bfr_up ?_⟩
          have:=(hup x hx).1
          rw [rowX_y hy];exact this
        · intro c hc
          rcases List.mem_append.mp hc with h | h
          · have:=hup c h;lia
          · have e1:=rowX_y h
            have e2:=rowX_x h
            lia
        · rw [List.length_append];lia
    · rintro σ H4 ⟨o10,o11,rfl,s4,vs,cs,e4,hv4,hpw,hup,hcl⟩
      refine ⟨_,rfl,k f H4 vs cs hf0 s4 e4 hv4 hpw (by lia) fun c hc=>?_⟩
      have hu:=hup c hc
      have hi:((1+hg % 10).toNat:Int)≤10:=by lia
      have e28:((10:Int) ^ (28:Int).toNat)=10000000000000000000000000000:=rfl
      have e30:((10:Int) ^ 30)=1000000000000000000000000000000:=rfl
      unfold CellN
      rw [e30]
      rcases hf2 with rfl | rfl
      · refine ⟨⟨?_,?_⟩,?_,?_⟩ <;> lia
      · rw [e28] at hu
        refine ⟨⟨?_,?_⟩,?_,?_⟩ <;> lia
end
end RR
namespace RR
open PySem L2 RP
section
variable {P:Program} {w:World} {K:PySem.W.Frag} {mg:Str→Option Value} {base:Heap}
def keyR (k:List Key) (v:V) (H:Hp):Prop:=∃ b,v=.ref b∧H b=some (.tup (k.map kV))
def tru (ks:List (List Key)):List (List Key×V):=ks.map fun k=>(k,V.bl true)
theorem putK_new {ks:List (List Key)} {k:List Key} (h:k ∉ ks):putK (tru ks) k (.bl true)=tru (ks++[k]):=by
  unfold putK tru
  rw [if_neg (fun z=>?_),List.map_append]
  · rfl
  · obtain ⟨x,hx,e⟩:=List.any_eq_true.mp z
    obtain ⟨y,hy,rfl⟩:=List.mem_map.mp hx
    exact h (by rw [← of_decide_eq_true e];exact hy)
theorem tru_out:∀ {ks:List (List Key)} {k:List Key},k ∉ ks→valV (tru ks) k=none
  | [],_,_=>rfl
  | x::xs,k,h=>by
    show valV ((x,V.bl true)::tru xs) k=none
    rw [valV_neg (fun e=>h (by rw [← e];exact List.mem_cons_self))]
    exact tru_out fun m=>h (List.mem_cons_of_mem _ m)
theorem tru_in:∀ {ks:List (List Key)} {k:List Key},k∈ks→valV (tru ks) k=some (.bl true)
  | x::xs,k,h=>by
    show valV ((x,V.bl true)::tru xs) k=some (V.bl true)
    by_cases e:x=k
    · rw [valV_pos e]
    · rw [valV_neg e]
      exact tru_in ((List.mem_cons.mp h).resolve_left fun z=>e z.symm)
def spLot (K:PySem.W.Frag):Sp:=fun vs H Q _=>∃ (a:Addr) (us:List V) (ks:List (List Key)),vs=[.ref a]∧SqL K H a us∧VR us ks keyR H∧ks.Nodup∧ks.length≤1000∧∀ t H',H t=none→Same H H'→H' t=some (.dT (tru ks))→Q (.ref t) H'
theorem ok_law_lot (d:Df K mg "_law_lot" s__law_lot ["_law_cells"]):FnOk P w K mg base CX0 1 d.f d.fd ["_law_cells"] (spLot K):=by
  refine d.F.ok sc__law_lot (fun vs H Q E h=>?_) (fun cdv A outer s H vs Q E hr h=>?_)
  · obtain ⟨a,us,ks,rfl,_⟩:=h
    rfl
  · obtain ⟨a,us,ks,rfl,hq,hv,hnd,hlen,k⟩:=h
    have hu1:=hu_of hr
    refine ⟨_,(pss_cons (sE 1 sc__law_lot.nd pe_dnewT)
      (pss_cons (ps_for PassesOwn.never rfl (pi_list (pv 0)) (nG 2 sc__law_lot.nd)
      (pss_one (ps_dput hu1 (pv 1) (pv 2) pe_bl rfl)))
      (pss_one (ps_ret (pv 1))))),?_⟩
    refine fun p hp=>?_
    refine ⟨_,rfl,a,rfl,⟨_,(Same.up hp).seq hq⟩,?_⟩
    refine for_list (K:=K) (a:=a) (xs:=us) (fun i σ H2=>∃ o,σ=[some (.ref a),some (.ref p),o]∧Same H H2∧H2 p=some (.dT (tru (ks.take i))))
      ⟨_,rfl,Same.up hp,upd_same⟩ (fun i σ H2 _ ⟨_,_,s2,_⟩=>s2.seq hq) ?_ ?_
    · rintro i v σ H2 hi ⟨o,rfl,s2,e2⟩
      obtain ⟨x,hx,b,rfl,q⟩:=hv.at hi
      have hil:i<ks.length:=(List.getElem?_eq_some_iff.mp hx).1
      have hn:x ∉ ks.take i:=fun hm=>by
        obtain ⟨j,hj,ej⟩:=List.getElem_of_mem hm
        rw [List.length_take] at hj
        have h1:ks[j]?=some x:=by rw [← ej,List.getElem_take];exact List.getElem?_eq_getElem (by lia)
        have:=(List.getElem?_inj (i:=j) (j:=i) (by lia) hnd).mp (by rw [h1,hx])
        lia
      refine ⟨_,rfl,_,rfl,p,_,rfl,.inr ⟨tru (ks.take i),x,b,e2,rfl,s2 _ _ q,small1000 (by unfold tru;rw [List.length_map,List.length_take];lia),rfl⟩,?_⟩
      refine ⟨_,rfl,fun z o e=>?_,?_⟩
      · rw [upd_ne (ne_of_none e hp)];exact s2 z o e
      · rw [upd_same,putK_new hn,take_snoc hx]
    · rintro σ H2 ⟨o,rfl,s2,e2⟩
      rw [hv.1,List.take_length] at e2
      exact ⟨_,rfl,k p H2 hp s2 e2⟩
def TabR (H:Hp) (t:Addr) (C:Cell→Bool):Prop:=∃ kvs:List (List Key×V),Rd H t (.dT kvs)∧∀ c:Cell,(valV kvs [Sum.inl c.1,Sum.inl c.2]).isSome=C c
theorem Same.rd {H H':Hp} {a:Addr} {o:HO} (s:Same H H') (h:Rd H a o):Rd H' a o:=h.elim (fun e=>.inl (s _ _ e)) fun ⟨x,e⟩=>.inr ⟨x,s _ _ e⟩
theorem TabR.same {H H':Hp} {t:Addr} {C:Cell→Bool} (h:TabR H t C) (s:Same H H'):TabR H' t C:=let ⟨kvs,e,q⟩:=h;⟨kvs,Same.rd s e,q⟩
theorem tru_isIn (cs:List Cell) (c:Cell):(valV (tru (cs.map kC)) (kC c)).isSome=isIn cs c:=by
  show _=decide (c∈cs)
  by_cases m:c∈cs
  · rw [tru_in (List.mem_map.mpr ⟨c,m,rfl⟩),decide_eq_true m];rfl
  · rw [tru_out (fun z=>by obtain ⟨x,hx,e⟩:=List.mem_map.mp z;exact m ((kC_inj.mp e) ▸ hx)),decide_eq_false m];rfl
theorem TabR.of {H:Hp} {t:Addr} {cs:List Cell} (h:Rd H t (.dT (tru (cs.map kC)))):TabR H t (isIn cs):=⟨_,h,tru_isIn cs⟩
def spBehind (K:PySem.W.Frag):Sp:=fun vs H Q _=>∃ (t a:Addr) (C:Cell→Bool) (e:Edge),vs=[.ref t,.ref a]∧TabR H t C∧SqT K H a (edgeT e)∧e.w<4∧∀ p q H',Same H H'→H' p=some (.tup [sv (stepB C e),.ref q])→H' q=some (.tup (edgeT (nxt C e)))→Q (.ref p) H'
theorem ok_law_behind (g__law_gone:Fn P w K mg base 1 "_law_gone" ["_law_x","_law_y","_law_step"] spGone) (d:Df K mg "_law_behind" s__law_behind ["_law_there","_law_edge"]):FnOk P w K mg base CX0 2 d.f d.fd ["_law_there","_law_edge"] (spBehind K):=by
  refine d.F.ok sc__law_behind (fun vs H Q E h=>?_) (fun cdv A outer s H vs Q E hr h=>?_)
  · obtain ⟨t,a,C,e,rfl,_⟩:=h
    rfl
  · obtain ⟨t,a,C,e,rfl,tab,hq,hw,k⟩:=h
    have hu1:=hu_of hr
    refine ⟨_,(pss_cons (ps_asg (pv 1) (pg_tup (by rfl) (pgs_cons (nG 2 sc__law_behind.nd) (pgs_cons (nG 3 sc__law_behind.nd) (pgs_cons (nG 4 sc__law_behind.nd) pgs_nil)))))
      (pss_cons (sE 5 sc__law_behind.nd (pC g__law_gone hr (pa_N (pv 2) (pa_N (pv 3) (pa_B (pe_op op_mod (pe_op op_add (pe_op op_mul pe_int (pv 4)) pe_int) pe_int) pa_nil)))))
      (pss_cons (sE 6 sc__law_behind.nd (pC g__law_gone hr (pa_N (pv 2) (pa_N (pv 3) (pa_B (pe_op op_mul pe_int (pv 4)) pa_nil)))))
      (pss_cons (ps_if (pt_cmp (pc_din hu1 (pv 5) (pv 0)))
      (pss_one (ps_ret (pe_tup (pa_B (pe_op op_mod (pe_op op_add (pe_op op_mul pe_int (pv 4)) pe_int) pe_int) (pa_B (pe_op op_catT (pv 5) (pe_tup (pa_B (pe_op op_mod (pe_op op_add (pv 4) pe_int) pe_int) pa_nil))) pa_nil)))))
      pss_nil)
      (pss_cons (ps_if (pt_cmp (pc_din hu1 (pv 6) (pv 0)))
      (pss_one (ps_ret (pe_tup (pa_B (pe_op op_mul pe_int (pv 4)) (pa_B (pe_op op_catT (pv 6) (pe_tup (pa_N (pv 4) pa_nil))) pa_nil)))))
      pss_nil)
      (pss_one (ps_ret (pe_tup (pa_C pe_non (pa_T (pe_tup (pa_N (pv 2) (pa_N (pv 3) (pa_B (pe_op op_mod (pe_op op_add (pv 4) pe_int) pe_int) pa_nil)))) pa_nil)))))))))),?_⟩
    refine ⟨_,rfl,a,_,rfl,hq,rfl,_,_,rfl,_,_,rfl,_,_,rfl,rfl,?_⟩
    have m7:(2*(e.w:Int)+7) % 8=(((2*e.w+7) % 8:Nat):Int):=by lia
    have m2:2*(e.w:Int)=((2*e.w:Nat):Int):=by lia
    refine ⟨_,rfl,_,rfl,_,rfl,_,_,rfl,rfl,.inl ⟨by decide,by decide⟩,_,_,rfl,rfl,_,_,rfl,rfl,(by show (0:Int)<8;decide),e.c,(2*e.w+7) % 8,(by rw [← m7];rfl),Nat.mod_lt _ (by decide),fun p1 H1 hp1 s1 e1=>?_⟩
    refine ⟨_,rfl,_,rfl,_,rfl,_,_,rfl,rfl,.inl ⟨by decide,by decide⟩,e.c,2*e.w,(by rw [← m2];rfl),by lia,fun p2 H2 hp2 s2 e2=>?_⟩
    have s12:=s1.trans s2
    obtain ⟨kvs,et,hC⟩:=tab
    have e12:=s2 _ _ e1
    refine ⟨_,rfl,_,rfl,t,_,rfl,.inr ⟨kvs,kC (go e.c ((2*e.w+7) % 8)),p1,(Same.rd s12 et),rfl,e12,rfl⟩,_,rfl,?_⟩
    have hc1:=hC (go e.c ((2*e.w+7) % 8))
    change (valV kvs (kC (go e.c ((2*e.w+7) % 8)))).isSome=_ at hc1
    rw [hc1]
    cases c1:C (go e.c ((2*e.w+7) % 8)) with
    | true =>
      refine iteT ?_
      have hs:stepB C e=some ((2*e.w+7) % 8):=by unfold stepB;rw [c1,if_pos rfl]
      refine ⟨_,rfl,_,_,rfl,rfl,.inl ⟨by decide,by decide⟩,_,_,rfl,rfl,_,_,rfl,rfl,(by show (0:Int)<8;decide),?_⟩
      refine ⟨_,rfl,_,rfl,_,_,rfl,rfl,_,_,rfl,rfl,(by show (0:Int)<4;decide),(by show 1≤sizeLine;decide),fun t3 h3=>?_⟩
      have s3:=Same.up (o:=.tup [.int (((e.w:Int)+3) % 4)]) h3
      have f3:upd H2 t3 (.tup [.int (((e.w:Int)+3) % 4)]) t3=some (.tup [.int (((e.w:Int)+3) % 4)]):=upd_same
      generalize upd H2 t3 (.tup [.int (((e.w:Int)+3) % 4)])=H3 at s3 f3
      refine ⟨p1,t3,_,_,rfl,rfl,SqT.of (s3 _ _ e12),SqT.of f3,(by simp [cellT]),three,(fun z=>by cases z),fun _ q hq'=>?_⟩
      have s4:=Same.up (o:=.tup (cellT (go e.c ((2*e.w+7) % 8))++[.int (((e.w:Int)+3) % 4)])) hq'
      have f4:upd H3 q (.tup (cellT (go e.c ((2*e.w+7) % 8))++[.int (((e.w:Int)+3) % 4)])) q=some (.tup (cellT (go e.c ((2*e.w+7) % 8))++[.int (((e.w:Int)+3) % 4)])):=upd_same
      generalize upd H3 q (.tup (cellT (go e.c ((2*e.w+7) % 8))++[.int (((e.w:Int)+3) % 4)]))=H4 at s4 f4
      refine ⟨two,fun p5 h5=>?_⟩
      refine k p5 q _ (s12.trans (s3.trans (s4.trans (Same.up h5)))) ?_ ?_
      · rw [upd_same,hs]
        show some (HO.tup [.int ((2*(e.w:Int)+7) % 8),.ref q])=some (HO.tup [.int (((2*e.w+7) % 8:Nat):Int),.ref q])
        rw [m7]
      · rw [Same.up h5 _ _ f4]
        unfold nxt
        rw [hs]
        show _=some (HO.tup (edgeT (if (2*e.w+7) % 8 % 2=1 then ⟨go e.c ((2*e.w+7) % 8),(e.w+3) % 4⟩ else ⟨go e.c ((2*e.w+7) % 8),e.w⟩)))
        rw [if_pos (by lia)]
        show some (HO.tup [.int _,.int _,.int (((e.w:Int)+3) % 4)])=some (HO.tup [.int _,.int _,.int (((e.w+3) % 4:Nat):Int)])
        rw [show ((e.w:Int)+3) % 4=(((e.w+3) % 4:Nat):Int) by lia]
    | false =>
      refine iteF ?_
      refine ⟨_,rfl,_,rfl,t,_,rfl,.inr ⟨kvs,kC (go e.c (2*e.w)),p2,(Same.rd s12 et),rfl,e2,rfl⟩,_,rfl,?_⟩
      have hc2:=hC (go e.c (2*e.w))
      change (valV kvs (kC (go e.c (2*e.w)))).isSome=_ at hc2
      rw [hc2]
      cases c2:C (go e.c (2*e.w)) with
      | true =>
        refine iteT ?_
        have hs:stepB C e=some (2*e.w):=by unfold stepB;rw [c1,if_neg (by simp),c2,if_pos rfl]
        refine ⟨_,rfl,_,_,rfl,rfl,.inl ⟨by decide,by decide⟩,?_⟩
        refine ⟨_,rfl,_,rfl,(by show 1≤sizeLine;decide),fun t3 h3=>?_⟩
        have s3:=Same.up (o:=.tup [.int (e.w:Int)]) h3
        have f3:upd H2 t3 (.tup [.int (e.w:Int)]) t3=some (.tup [.int (e.w:Int)]):=upd_same
        generalize upd H2 t3 (.tup [.int (e.w:Int)])=H3 at s3 f3
        refine ⟨p2,t3,_,_,rfl,rfl,SqT.of (s3 _ _ e2),SqT.of f3,(by simp [cellT]),three,(fun z=>by cases z),fun _ q hq'=>?_⟩
        have s4:=Same.up (o:=.tup (cellT (go e.c (2*e.w))++[.int (e.w:Int)])) hq'
        have f4:upd H3 q (.tup (cellT (go e.c (2*e.w))++[.int (e.w:Int)])) q=some (.tup (cellT (go e.c (2*e.w))++[.int (e.w:Int)])):=upd_same
        generalize upd H3 q (.tup (cellT (go e.c (2*e.w))++[.int (e.w:Int)]))=H4 at s4 f4
        refine ⟨two,fun p5 h5=>?_⟩
        refine k p5 q _ (s12.trans (s3.trans (s4.trans (Same.up h5)))) ?_ ?_
        · rw [upd_same,hs]
          show some (HO.tup [.int (2*(e.w:Int)),.ref q])=some (HO.tup [.int ((2*e.w:Nat):Int),.ref q])
          rw [m2]
        · rw [Same.up h5 _ _ f4]
          unfold nxt
          rw [hs]
          show _=some (HO.tup (edgeT (if 2*e.w % 2=1 then ⟨go e.c (2*e.w),(e.w+3) % 4⟩ else ⟨go e.c (2*e.w),e.w⟩)))
          rw [if_neg (by lia)]
          rfl
      | false =>
        refine iteF ?_
        have hs:stepB C e=none:=by unfold stepB;rw [c1,if_neg (by simp),c2,if_neg (by simp)]
        refine ⟨_,rfl,_,rfl,_,rfl,_,_,rfl,rfl,_,_,rfl,rfl,(by show (0:Int)<4;decide),three,fun q hq'=>?_⟩
        have s4:=Same.up (o:=.tup [.int e.c.1,.int e.c.2,.int (((e.w:Int)+1) % 4)]) hq'
        have f4:upd H2 q (.tup [.int e.c.1,.int e.c.2,.int (((e.w:Int)+1) % 4)]) q=some (.tup [.int e.c.1,.int e.c.2,.int (((e.w:Int)+1) % 4)]):=upd_same
        generalize upd H2 q (.tup [.int e.c.1,.int e.c.2,.int (((e.w:Int)+1) % 4)])=H4 at s4 f4
        refine ⟨two,fun p5 h5=>?_⟩
        refine k p5 q _ (s12.trans (s4.trans (Same.up h5))) ?_ ?_
        · rw [upd_same,hs];rfl
        · rw [Same.up h5 _ _ f4]
          unfold nxt
          rw [hs]
          show some (HO.tup [.int _,.int _,.int (((e.w:Int)+1) % 4)])=some (HO.tup [.int _,.int _,.int (((e.w+1) % 4:Nat):Int)])
          rw [show ((e.w:Int)+1) % 4=(((e.w+1) % 4:Nat):Int) by lia]
          rfl
end
end RR
namespace RR
open PySem L2 RP
section
variable {P:Program} {w:World} {K:PySem.W.Frag} {mg:Str→Option Value} {base:Heap}
def spWalked (K:PySem.W.Frag):Sp:=fun vs H Q _=>∃ (t a:Addr) (cs:List Cell) (b:Edge),vs=[.ref t,.ref a]∧TabR H t (isIn cs)∧H a=some (.tup (edgeT b))∧IsE (isIn cs) b∧cs.length≤120 ∧
  ∀ p pe pq H' us es,Same H H'→H' p=some (.tup [.ref pe,.ref pq])→H' pe=some (.lst us)→VR us es eR H'→H' pq=some (.lst ((es.map (stepB (isIn cs))).map sv))→Closed (isIn cs) b es→Q (.ref p) H'
theorem ok_law_walked (g__law_behind:Fn P w K mg base 2 "_law_behind" ["_law_there","_law_edge"] (spBehind K)) (d:Df K mg "_law_walked" s__law_walked ["_law_there","_law_first"]):FnOk P w K mg base CX0 3 d.f d.fd ["_law_there","_law_first"] (spWalked K):=by
  refine d.F.ok sc__law_walked (fun vs H Q E h=>?_) (fun cdv A outer s H vs Q E hr h=>?_)
  · obtain ⟨t,a,cs,b,rfl,_⟩:=h
    rfl
  · obtain ⟨t,a,cs,b,rfl,tab,ha,hb,hlen,k⟩:=h
    have hu64:=hr.units
    refine ⟨_,(pss_cons (sE 2 sc__law_walked.nd (pe_lst (pa_N (pv 1) pa_nil)))
      (pss_cons (sE 3 sc__law_walked.nd (pe_lst pa_nil))
      (pss_cons (ps_asg (pC g__law_behind hr (pa_N (pv 0) (pa_N (pv 1) pa_nil))) (pg_tup (by rfl) (pgs_cons (nG 4 sc__law_walked.nd) (pgs_cons (nG 5 sc__law_walked.nd) pgs_nil))))
      (pss_cons (ps_while PassesOwn.never (pt_cmpR (op_neD hu64) (pv 5) (pv 1) (nomark _))
      (pss_cons (ps_expr (pe_bm PySem.F.plainAttrs_list PySem.F.slot_list_append PySem.F.type_list_append mt_append (pv 2) (pa_N (pv 5) pa_nil)))
      (pss_cons (ps_expr (pe_bm PySem.F.plainAttrs_list PySem.F.slot_list_append PySem.F.type_list_append mt_append (pv 3) (pa_N (pv 4) pa_nil)))
      (pss_one (ps_asg (pC g__law_behind hr (pa_N (pv 0) (pa_N (pv 5) pa_nil))) (pg_tup (by rfl) (pgs_cons (nG 4 sc__law_walked.nd) (pgs_cons (nG 5 sc__law_walked.nd) pgs_nil))))))))
      (pss_one (ps_ret (pe_tup (pa_N (pv 2) (pa_B (pe_op op_cat (pv 3) (pe_lst (pa_N (pv 4) pa_nil))) pa_nil))))))))),?_⟩
    refine ⟨_,rfl,(by show 1≤sizeLine;decide),fun pe hpe=>?_⟩
    have s1:=Same.up (o:=.lst [.ref a]) hpe
    have e1:upd H pe (.lst [.ref a]) pe=some (.lst [.ref a]):=upd_same
    generalize upd H pe (.lst [.ref a])=H1 at s1 e1
    refine ⟨(by show 0≤sizeLine;decide),fun ps hps=>?_⟩
    have s2:=Same.up (o:=.lst []) hps
    have e2:upd H1 ps (.lst []) ps=some (.lst []):=upd_same
    generalize upd H1 ps (.lst [])=H2 at s2 e2
    have s02:=s1.trans s2
    have hps0:H ps=none:=s1.free hps
    have hne:pe≠ps:=ne_of_none e1 hps
    refine ⟨_,rfl,_,rfl,t,a,isIn cs,b,rfl,tab.same s02,SqT.of (s02 _ _ ha),hb.1,fun p3 q3 H3 s3 f3 g3=>?_⟩
    refine ⟨p3,_,rfl,SqT.of f3,rfl,_,_,rfl,_,_,rfl,rfl,?_⟩
    have s03:=s02.trans s3
    refine while_by (fun σ H4=>∃ us es l re,σ=[some (.ref t),some (.ref a),some (.ref pe),some (.ref ps),some (sv (stepB (isIn cs) l)),some (.ref re)]∧Same H H4∧H4 pe=some (.lst us)∧VR us (es++[l]) eR H4∧H4 ps=some (.lst ((es.map (stepB (isIn cs))).map sv))∧Chain (isIn cs) b (es++[l])∧H4 re=some (.tup (edgeT (nxt (isIn cs) l))))
      (fun _ H4=>4*cs.length+1 - lstLen (H4 pe)) ?_ ?_ ?_
    · refine ⟨[.ref a],[],b,q3,rfl,s03,(s2.trans s3) _ _ e1,⟨rfl,fun i x v h1 h2=>?_⟩,s3 _ _ e2,Chain.start hb,g3⟩
      match i,h1,h2 with
      | 0,h1,h2 =>
        cases h1;cases h2
        exact ⟨a,rfl,s03 _ _ ha⟩
      | i+1,h1,h2=>simp at h2
    · rintro σ H4 ⟨us,es,l,re,rfl,s4,e4,hv,q4,hch,er⟩
      have hw4:(nxt (isIn cs) l).w<4:=(nxt_ok (hch.2.2.1 l (by simp))).1
      have hl4:us.length=(es++[l]).length:=hv.1
      have hsh0:=hch.short
      refine ⟨_,rfl,_,rfl,_,_,rd_edge er,rd_edge (s4 _ _ ha),shaped_tI _,shaped_tI _,_,rfl,?_⟩
      rw [eqv_tI]
      by_cases hnb:nxt (isIn cs) l=b
      · rw [decide_eq_true (eI_inj.mpr hnb)]
        refine iteF ?_
        refine ⟨_,rfl,_,rfl,_,rfl,(by show 1≤sizeLine;decide),fun l5 h5=>?_⟩
        have s5:=Same.up (o:=.lst [sv (stepB (isIn cs) l)]) h5
        have e5:upd H4 l5 (.lst [sv (stepB (isIn cs) l)]) l5=some (.lst [sv (stepB (isIn cs) l)]):=upd_same
        generalize upd H4 l5 (.lst [sv (stepB (isIn cs) l)])=H5 at s5 e5
        rw [List.length_append,List.length_singleton] at hsh0
        refine ⟨ps,l5,_,_,rfl,rfl,s5 _ _ q4,e5,Nat.le_of_lt (small1000 (by simp;lia)),fun l6 h6=>?_⟩
        have em:(es.map (stepB (isIn cs))).map sv++[sv (stepB (isIn cs) l)]=((es++[l]).map (stepB (isIn cs))).map sv:=by rw [List.map_append,List.map_append];rfl
        rw [em]
        have s6:=Same.up (o:=.lst (((es++[l]).map (stepB (isIn cs))).map sv)) h6
        have e6:upd H5 l6 (.lst (((es++[l]).map (stepB (isIn cs))).map sv)) l6=some (.lst (((es++[l]).map (stepB (isIn cs))).map sv)):=upd_same
        generalize upd H5 l6 (.lst (((es++[l]).map (stepB (isIn cs))).map sv))=H6 at s6 e6
        refine ⟨two,fun p7 h7=>?_⟩
        have s7:=Same.up (o:=.tup [.ref pe,.ref l6]) h7
        have s47:=s5.trans (s6.trans s7)
        exact k p7 pe l6 _ us (es++[l]) (s4.trans s47) upd_same (s47 _ _ e4) (hv.mono fun x v h=>h.kt (KT.of s47)) (s7 _ _ e6) ⟨hch,l,by simp,hnb⟩
      · rw [decide_eq_false (fun z=>hnb (eI_inj.mp z))]
        refine iteT ?_
        have hch2:=hch.more hnb
        have hsh:=hch2.short
        have hl5:us.length+1≤4*cs.length:=by rw [hl4];rw [List.length_append,List.length_singleton] at hsh;exact hsh
        refine ⟨_,rfl,.inl ⟨rfl,_,SqL.of e4⟩,_,rfl,pe,us,_,rfl,rfl,e4,small1000 (by lia),?_⟩
        have k5:KT H4 (upd H4 pe (.lst (us++[.ref re]))):=KT.lst e4
        have e5:upd H4 pe (.lst (us++[.ref re])) pe=some (.lst (us++[.ref re])):=upd_same
        have s5:Same H (upd H4 pe (.lst (us++[.ref re]))):=same_lst hpe s4
        have q5:upd H4 pe (.lst (us++[.ref re])) ps=some (.lst ((es.map (stepB (isIn cs))).map sv)):=by rw [upd_ne (Ne.symm hne)];exact q4
        generalize upd H4 pe (.lst (us++[.ref re]))=H5 at k5 e5 s5 q5
        have hel:es.length≤480:=by rw [List.length_append,List.length_append] at hsh;lia
        refine ⟨_,rfl,.inl ⟨rfl,_,SqL.of q5⟩,_,rfl,ps,_,_,rfl,rfl,q5,small1000 (by simp;lia),?_⟩
        have em:(es.map (stepB (isIn cs))).map sv++[sv (stepB (isIn cs) l)]=((es++[l]).map (stepB (isIn cs))).map sv:=by rw [List.map_append,List.map_append];rfl
        rw [em]
        have k6:KT H5 (upd H5 ps (.lst (((es++[l]).map (stepB (isIn cs))).map sv))):=KT.lst q5
        have q6:upd H5 ps (.lst (((es++[l]).map (stepB (isIn cs))).map sv)) ps=some (.lst (((es++[l]).map (stepB (isIn cs))).map sv)):=upd_same
        have s6:Same H (upd H5 ps (.lst (((es++[l]).map (stepB (isIn cs))).map sv))):=same_lst hps0 s5
        have e6:upd H5 ps (.lst (((es++[l]).map (stepB (isIn cs))).map sv)) pe=some (.lst (us++[.ref re])):=by rw [upd_ne hne];exact e5
        generalize upd H5 ps (.lst (((es++[l]).map (stepB (isIn cs))).map sv))=H6 at k6 q6 s6 e6
        have kt:=k5.trans k6
        have r6:=kt _ _ er
        refine ⟨_,rfl,_,rfl,t,re,isIn cs,nxt (isIn cs) l,rfl,tab.same s6,SqT.of r6,hw4,fun p7 q7 H7 s7 f7 g7=>?_⟩
        refine ⟨p7,_,rfl,SqT.of f7,rfl,_,_,rfl,_,_,rfl,rfl,?_⟩
        have e7:=s7 _ _ e6
        refine ⟨⟨us++[.ref re],es++[l],nxt (isIn cs) l,q7,rfl,s6.trans s7,e7,?_,s7 _ _ q6,hch2,g7⟩,?_⟩
        · exact hv.snoc (fun x v hx=>(hx.kt kt).kt (KT.of s7)) ⟨re,rfl,s7 _ _ r6⟩
        · show 4*cs.length+1 - lstLen (H7 pe)<4*cs.length+1 - lstLen (H4 pe)
          rw [e7,e4]
          show 4*cs.length+1 - (us++[V.ref re]).length<4*cs.length+1 - us.length
          rw [List.length_append,List.length_singleton]
          lia
    · rintro σ H4 Q1 Q2 hQ ⟨v,h1,v2,h2,dd,ee,r1,r2,x1,x2,kk,h3,q⟩
      exact ⟨v,h1,v2,h2,dd,ee,r1,r2,x1,x2,kk,h3,hQ _ _ q⟩
end
end RR
namespace RR
open PySem L2 RP
def Frz (t:Addr) (kvs:List (List Key×V)) (H H':Hp):Prop:=(∀ b o,b≠t→H b=some o→H' b=some o)∧∃ od,H' t=some (.frz od (.dT kvs))
section
variable {P:Program} {w:World} {K:PySem.W.Frag} {mg:Str→Option Value} {base:Heap}
def spEdges (K:PySem.W.Frag):Sp:=fun vs H Q _=>∃ (t:Addr) (cs:List Cell),vs=[.ref t]∧H t=some (.dT (tru (cs.map kC)))∧cs.length≤120∧∀ p H' us,H p=none→Frz t (tru (cs.map kC)) H H'→H' p=some (.lst us)→VR us (allE cs) eR H'→Q (.ref p) H'
theorem ok_law_edges (T:Txt P w K mg) (g__law_gone:Fn P w K mg base 1 "_law_gone" ["_law_x","_law_y","_law_step"] spGone) (d:Df K mg "_law_edges" s__law_edges ["_law_there"]):FnOk P w K mg base CX0 2 d.f d.fd ["_law_there"] (spEdges K):=by
  refine d.F.ok sc__law_edges (fun vs H Q E h=>?_) (fun cdv A outer s H vs Q E hr h=>?_)
  · obtain ⟨t,cs,rfl,_⟩:=h
    rfl
  · obtain ⟨t,cs,rfl,ht,hlen,k⟩:=h
    have hu1:=hu_of hr
    have nb0:(["_law_way","_law_x","_law_y","_law_there"]:List Str).Nodup:=by decide +kernel
    refine ⟨_,(pss_cons (sE 1 sc__law_edges.nd (pe_lst pa_nil))
      (pss_cons (ps_for PassesOwn.never rfl (pi_dictT (pv 0)) (pg_tup (by rfl) (pgs_cons (pg_name (i:=2) sc__law_edges.nd (by rfl) (Or.inr rfl)) (pgs_cons (pg_name (i:=3) sc__law_edges.nd (by rfl) (Or.inr rfl)) pgs_nil)))
      (pss_one (ps_expr (pe_bm PySem.F.plainAttrs_list PySem.F.slot_list_extend PySem.F.type_list_extend mt_extend (pv 1) (pa_cons (pe_compL (osc:=defScope s__law_edges) (N:=N__law_edges) (N':=["_law_way","_law_x","_law_y","_law_there"]) (sel:=[none,some 2,some 3,some 0]) bO (pi_range1 (by rfl) T.nrange (pa_C pe_int pa_nil)) (fun _ _ _ _ _=>(nG 0 nb0)) (fun _ _ _ _ _=>pts_one (pt_cmp (pc_dnotin hu1 (pC g__law_gone hr (pa_N (pv 1) (pa_N (pv 2) (pa_B (pe_op op_mod (pe_op op_add (pe_op op_mul pe_int (pv 0)) pe_int) pe_int) pa_nil)))) (pv 3)))) (fun _ _ _ _ _=>(pe_tup (pa_N (pv 1) (pa_N (pv 2) (pa_N (pv 0) pa_nil)))))) pa_nil)))))
      (pss_one (ps_ret (pv 1))))),?_⟩
    refine ⟨(by show 0≤sizeLine;decide),fun p hp=>?_⟩
    have s1:=Same.up (o:=.lst []) hp
    have e1:upd H p (.lst []) p=some (.lst []):=upd_same
    generalize upd H p (.lst [])=H1 at s1 e1
    have ht1:=s1 _ _ ht
    have hpt:p≠t:=ne_of e1 ht1 (fun z=>nomatch z)
    refine ⟨_,rfl,t,_,rfl,ht1,fun od=>?_⟩
    have kt2:KT H1 (upd H1 t (.frz od (.dT (tru (cs.map kC))))):=KT.dct ht1
    have sb2:∀ b o,b≠t→H1 b=some o→upd H1 t (.frz od (.dT (tru (cs.map kC)))) b=some o:=fun b o hb e=>by rw [upd_ne hb];exact e
    have e2:upd H1 t (.frz od (.dT (tru (cs.map kC)))) t=some (.frz od (.dT (tru (cs.map kC)))):=upd_same
    have hp2:upd H1 t (.frz od (.dT (tru (cs.map kC)))) p=some (.lst []):=by rw [upd_ne hpt];exact e1
    generalize upd H1 t (.frz od (.dT (tru (cs.map kC))))=H2 at kt2 sb2 e2 hp2
    refine for_dict (a:=t) (od:=od) (kvs:=tru (cs.map kC)) (fun i σ H3=>∃ o2 o3,σ=[some (.ref t),some (.ref p),o2,o3]∧(∀ b o,b≠p→H2 b=some o→H3 b=some o)∧∃ us,H3 p=some (.lst us)∧VR us ((sides (cs.take i)).filter fun e=>!isIn cs (gap e)) eR H3)
      ⟨_,_,rfl,fun _ _ _ e=>e,[],hp2,VR.nil⟩ (fun i σ H3 _ ⟨_,_,_,s3,_⟩=>s3 _ _ (Ne.symm hpt) e2) ?_ ?_
    · rintro i b kk v σ H3 hi hb ⟨o2,o3,rfl,s3,us,e3,hv3⟩
      have hil:i<cs.length:=by have:=(List.getElem?_eq_some_iff.mp hi).1;unfold tru at this;simpa using this
      have ci:cs[i]?=some cs[i]:=List.getElem?_eq_getElem hil
      have hk:kk=kC cs[i]:=by
        unfold tru at hi
        rw [List.getElem?_map,List.getElem?_map,ci] at hi
        cases hi;rfl
      subst hk
      have t3:=s3 _ _ (Ne.symm hpt) e2
      refine ⟨b,_,rfl,SqT.of hb,rfl,_,_,rfl,_,_,rfl,rfl,?_⟩
      refine ⟨_,rfl,.inl ⟨rfl,_,SqL.of e3⟩,4,rfl,by decide,by decide,fun g hg=>?_⟩
      refine for_range (lo:=0) (n:=4) (fun j σ H4=>∃ o,σ=[o,some (.int cs[i].1),some (.int cs[i].2),some (.ref t)]∧Same H3 H4∧∃ zs,H4 g=some (.lst zs)∧VR zs (((List.range j).map fun w=>(⟨cs[i],w⟩:Edge)).filter fun e=>!isIn cs (gap e)) eR H4)
        ⟨_,rfl,Same.up hg,[],upd_same,VR.nil⟩ ?_ ?_
      · rintro j σ H4 hj ⟨o,rfl,s4,zs,e4,hz⟩
        have m6:(2*(0+(j:Int))+6) % 8=(((2*j+6) % 8:Nat):Int):=by lia
        have hzl:zs.length≤4:=by
          rw [hz.1]
          have:=List.length_filter_le (fun e=>!isIn cs (gap e)) ((List.range j).map fun w=>(⟨cs[i],w⟩:Edge))
          rw [List.length_map,List.length_range] at this
          lia
        refine ⟨_,rfl,_,rfl,_,rfl,_,_,rfl,rfl,.inl ⟨by decide,by decide⟩,_,_,rfl,rfl,_,_,rfl,rfl,(by show (0:Int)<8;decide),cs[i],(2*j+6) % 8,(by rw [← m6];rfl),Nat.mod_lt _ (by decide),fun p5 H5 hp5 s5 e5=>?_⟩
        have t5:=(s4.trans s5) _ _ t3
        refine ⟨_,rfl,t,_,rfl,.inr ⟨tru (cs.map kC),kC (gap ⟨cs[i],j⟩),p5,.inr ⟨od,t5⟩,rfl,e5,rfl⟩,_,rfl,?_⟩
        rw [tru_isIn,List.range_succ,List.map_append,List.map_singleton,filter_snoc]
        refine ite2 (fun hy=>?_) (fun hn'=>?_)
        · rw [if_pos hy]
          refine ⟨_,rfl,_,rfl,_,rfl,three,fun q hq'=>?_⟩
          have s6:=Same.up (o:=.tup [.int cs[i].1,.int cs[i].2,.int (0+(j:Int))]) hq'
          have r6:eR ⟨cs[i],j⟩ (.ref q) (upd H5 q (.tup [.int cs[i].1,.int cs[i].2,.int (0+(j:Int))])):=⟨q,rfl,by rw [upd_same,Int.zero_add];rfl⟩
          generalize upd H5 q (.tup [.int cs[i].1,.int cs[i].2,.int (0+(j:Int))])=H6 at s6 r6
          have e6:=(s5.trans s6) _ _ e4
          refine ⟨zs,e6,small1000 (by lia),_,rfl,same_lst hg (s4.trans (s5.trans s6)),_,upd_same,?_⟩
          exact hz.snoc (fun x v h=>(h.kt (KT.of (s5.trans s6))).kt (KT.lst e6)) (r6.kt (KT.lst e6))
        · rw [if_neg hn',List.append_nil]
          exact ⟨_,rfl,s4.trans s5,zs,s5 _ _ e4,hz.mono fun x v h=>h.kt (KT.of s5)⟩
      · rintro σ H4 ⟨o,rfl,s4,zs,e4,hz⟩
        have hzl:zs.length≤4:=by
          rw [hz.1]
          have:=List.length_filter_le (fun e=>!isIn cs (gap e)) ((List.range 4).map fun w=>(⟨cs[i],w⟩:Edge))
          rw [List.length_map,List.length_range] at this
          exact this
        have hul:us.length≤480:=by
          rw [hv3.1]
          have:=List.length_filter_le (fun e=>!isIn cs (gap e)) (sides (cs.take i))
          rw [sides_length,List.length_take] at this
          lia
        have e34:=s4 _ _ e3
        refine ⟨p,g,_,_,rfl,rfl,e34,e4,Nat.le_of_lt (small1000 (by lia)),?_⟩
        have k7:KT H4 (upd H4 p (.lst (us++zs))):=KT.lst e34
        refine ⟨_,_,rfl,fun b o hb e=>?_,_,upd_same,?_⟩
        · rw [upd_ne hb];exact s4 _ _ (s3 _ _ hb e)
        · rw [take_snoc ci,sides_snoc,List.filter_append]
          exact (hv3.mono fun x v h=>(h.kt (KT.of s4)).kt k7).app (hz.mono fun x v h=>h.kt k7)
    · rintro σ H3 ⟨o2,o3,rfl,s3,us,e3,hv3⟩
      rw [show (tru (cs.map kC)).length=cs.length by unfold tru;rw [List.length_map,List.length_map],List.take_length] at hv3
      refine ⟨_,rfl,k p H3 us hp ⟨fun b o hb e=>?_,od,s3 _ _ (Ne.symm hpt) e2⟩ e3 hv3⟩
      exact s3 _ _ (ne_of_none e hp) (sb2 _ _ hb (s1 _ _ e))
end
end RR
namespace RR
open PySem L2 RP
def stI (o:Option Nat):Option Int:=o.map fun n:Nat=>(n:Int)
theorem sv_stI (o:Option Nat):(stI o).elim V.non V.int=sv o:=by cases o <;> rfl
theorem count_none (C:Cell→Bool) (es:List Edge):((es.map (stepB C)).map stI).countP (·.isNone)=nL (wk C es):=by
  rw [nL_wk,List.countP_map,List.countP_map,List.countP_eq_length_filter]
  congr 1
  apply List.filter_congr
  intro e _
  show (stI (stepB C e)).isNone=(stepB C e).isNone
  cases stepB C e <;> rfl
def plR (es:List Edge) (k:Nat) (v:V) (H:Hp):Prop:=∃ e p,es[k]?=some e∧v=.ref p∧H p=some (.tup [.int e.c.2,.int e.c.1,.int (k:Int)])
theorem plR.kt {es:List Edge} {k:Nat} {v:V} {H H':Hp} (h:plR es k v H) (s:KT H H'):plR es k v H':=let ⟨e,p,a,b,c⟩:=h;⟨e,p,a,b,s _ _ c⟩
def keyP (es:List Edge) (k:Nat):List Int:=match es[k]? with | some e=>[e.c.2,e.c.1,(k:Int)] | none=>[]
theorem lex3 {a b c d x y:Int} (h:HT.lexLt [a,b] [c,d]=true):HT.lexLt [a,b,x] [c,d,y]=true:=by
  simp only [HT.lexLt] at h ⊢
  by_cases e:a=c
  · rw [if_pos e] at h ⊢
    by_cases f:b=d
    · rw [if_pos f] at h;cases h
    · rw [if_neg f] at h ⊢;exact h
  · rw [if_neg e] at h ⊢;exact h
section
variable {P:Program} {w:World} {K:PySem.W.Frag} {mg:Str→Option Value} {base:Heap}
def spToldW (K:PySem.W.Frag):Sp:=fun vs H Q _=>∃ (pe pq:Addr) (us:List V) (C:Cell→Bool) (es:List Edge),vs=[.ref pe,.ref pq]∧H pe=some (.lst us)∧VR us es eR H∧H pq=some (.lst ((es.map (stepB C)).map sv))∧es.length≤480 ∧
  (∃ e∈es,e.w=0)∧(∃ e∈es,e.w=2)∧∀ v H' r,Same H H'→rR r v H'→IsRnd (wk C es) r→Q v H'
theorem ok_law_told (T:Txt P w K mg) (d:Df K mg "_law_told" s__law_told ["_law_edges_here","_law_steps"]):FnOk P w K mg base CX0 2 d.f d.fd ["_law_edges_here","_law_steps"] (spToldW K):=by
  refine d.F.ok sc__law_told (fun vs H Q E h=>?_) (fun cdv A outer s H vs Q E hr h=>?_)
  · obtain ⟨pe,pq,us,C,es,rfl,_⟩:=h
    rfl
  · obtain ⟨pe,pq,us,C,es,rfl,e10,hv10,q10,hel,hw0,hw2,k⟩:=h
    have hu1:=hu_of hr
    have nb0:(["_law_step"]:List Str).Nodup:=by decide +kernel
    have nb1:(["_law_k","_law_x","_law_y","_law_here","_law_way"]:List Str).Nodup:=by decide +kernel
    have nb2:(["_law_step"]:List Str).Nodup:=by decide +kernel
    refine ⟨_,(pss_cons (sE 2 sc__law_told.nd (pe_op op_sub (pe_bm PySem.F.plainAttrs_list PySem.F.slot_list_count PySem.F.type_list_count mt_countN (pv 1) (pa_C pe_non pa_nil)) (pe_callB call_len_seq (by rfl) T.nlen (by rfl) (pa_cons (pe_compL (osc:=defScope s__law_told) (N:=N__law_told) (N':=["_law_step"]) (sel:=[none]) bO (pi_list (pv 1)) (fun _ _ _ _ _=>(nG 0 nb0)) (fun _ _ _ _ _=>pts_one (pw_and (pt_cmpR op_notN (pv 0) pe_non (nomark _)) (pw_and1 (pt_cmpR op_eq (pe_op op_mod (pv 0) pe_int) pe_int (nomark _)))).pt) (fun _ _ _ _ _=>(pv 0))) pa_nil))))
      (pss_cons (ps_set (i:=3) sc__law_told.nd (by rfl) (Or.inr rfl) (pe_ix ix_list (pe_lst (pa_C pe_int (pa_C pe_int pa_nil))) (pe_callTy call_int1 (by rfl) T.nint (by rfl) (pa_cons (pe_cmpR op_gt (pv 2) pe_int (nomark _)) pa_nil)) (fun _ _=>rfl)))
      (pss_cons (sE 4 sc__law_told.nd (pe_ix ix_tup (pe_callB (call_minL hu1 rfl) (by rfl) T.nmin (by rfl) (pa_cons (pe_compL (osc:=defScope s__law_told) (N:=N__law_told) (N':=["_law_k","_law_x","_law_y","_law_here","_law_way"]) (sel:=[none,none,none,none,some 3]) bO (pi_enum (by rfl) T.nenumerate (pa_N (pv 0) pa_nil)) (fun _ _ _ _ _=>(pg_tupK (K:=K) (n:=2) (by rfl) (pgs_cons (nG 0 nb1) (pgs_cons (pg_tupK (K:=K) (n:=3) (by rfl) (pgs_cons (nG 1 nb1) (pgs_cons (nG 2 nb1) (pgs_cons (nG 3 nb1) pgs_nil)))) pgs_nil)))) (fun _ _ _ _ _=>pts_one (pt_cmpR op_eq (pv 3) (pv 4) (nomark _))) (fun _ _ _ _ _=>(pe_tup (pa_N (pv 2) (pa_N (pv 1) (pa_N (pv 0) pa_nil)))))) pa_nil)) pe_int (fun _ _=>rfl)))
      (pss_cons (sE 5 sc__law_told.nd (pe_callTy call_tuple_of (by rfl) T.ntuple (by rfl) (pa_cons (pe_compL (osc:=defScope s__law_told) (N:=N__law_told) (N':=["_law_step"]) (sel:=[none]) bO (pi_list (pe_op op_cat (pe_slice sl_list (pv 1) (po_some (pv 4)) po_none) (pe_slice sl_list (pv 1) po_none (po_some (pv 4))))) (fun _ _ _ _ _=>(nG 0 nb2)) (fun _ _ _ _ _=>pts_one (pt_cmpR op_notN (pv 0) pe_non (nomark _))) (fun _ _ _ _ _=>(pv 0))) pa_nil)))
      (pss_one (ps_ret (pe_tup (pa_cons (pe_ix ix_list (pe_lst (pa_C pe_str (pa_C pe_str pa_nil))) (pe_callTy call_int1 (by rfl) T.nint (by rfl) (pa_cons (pe_cmpR op_gt (pv 2) pe_int (nomark _)) pa_nil)) (fun _ _=>rfl)) (pa_cons (pe_ix ix_tup (pe_ix ix_list (pv 0) (pv 4) (fun _ _=>rfl)) pe_int (fun _ _=>rfl)) (pa_cons (pe_ix ix_tup (pe_ix ix_list (pv 0) (pv 4) (fun _ _=>rfl)) pe_int (fun _ _=>rfl)) (pa_N (pv 5) pa_nil))))))))))),?_⟩
    have qs:H pq=some (.lst (((es.map (stepB C)).map stI).map fun o=>o.elim V.non V.int)):=by
      rw [q10]
      congr 2
      simp only [List.map_map]
      apply List.map_congr_left
      intro o _
      exact (sv_stI _).symm
    refine ⟨_,rfl,.inl ⟨rfl,_,SqL.of q10⟩,pq,_,rfl,rfl,qs,?_⟩
    rw [count_none]
    refine ⟨_,rfl,pq,rfl,⟨_,SqL.of q10⟩,fun g hg=>?_⟩
    refine for_list (K:=K) (a:=pq) (xs:=(es.map (stepB C)).map sv) (fun i σ H1=>∃ o,σ=[o]∧Same H H1∧∃ zs:List V,H1 g=some (.lst zs)∧zs.length=((es.take i).filter fun e=>slant (stepB C e)).length)
      ⟨_,rfl,Same.up hg,[],upd_same,rfl⟩ (fun i σ H1 _ ⟨_,_,s1,_⟩=>SqL.of (s1 _ _ q10)) ?_ ?_
    · rintro i u σ H1 hi ⟨o,rfl,s1,zs,e1,hz⟩
      rw [List.getElem?_map,List.getElem?_map] at hi
      obtain ⟨so,hso',rfl⟩:=Option.map_eq_some_iff.mp hi
      obtain ⟨f,hf,rfl⟩:=Option.map_eq_some_iff.mp hso'
      have hil:i<es.length:=(List.getElem?_eq_some_iff.mp hf).1
      have hzl:zs.length≤480:=by
        have:=List.length_filter_le (fun e=>slant (stepB C e)) (es.take i)
        rw [List.length_take] at this;lia
      rw [filter_step hf]
      cases hst:stepB C f with
      | none=>exact ⟨_,rfl,rfl,_,rfl,iteF ⟨_,rfl,s1,zs,e1,by rw [if_neg (by decide),List.append_nil];exact hz⟩⟩
      | some n =>
        have hd:decide (V.int ((n:Int) % 2)=V.int 1)=slant (some n):=by
          show _=(n % 2 == 1)
          by_cases q:n % 2=1
          · rw [decide_eq_true (by rw [show (n:Int) % 2=1 by lia]),q];rfl
          · rw [decide_eq_false (fun z=>q (by injection z with z;lia))];simp [q]
        refine ⟨_,rfl,rfl,_,rfl,iteT ⟨_,rfl,_,_,rfl,rfl,(by show (0:Int)<2;decide),rfl,_,rfl,?_⟩⟩
        rw [hd]
        refine ite2 (fun hy=>?_) (fun hn=>?_)
        · refine ⟨_,rfl,zs,e1,small1000 (by lia),_,rfl,same_lst hg s1,_,upd_same,?_⟩
          rw [if_pos hy,List.length_append,List.length_append,hz];rfl
        · exact ⟨_,rfl,s1,zs,e1,by rw [if_neg hn,List.append_nil];exact hz⟩
    · rintro σ H1 ⟨o,rfl,s1,zs,e1,hz⟩
      rw [List.take_of_length_le (by rw [List.length_map,List.length_map];exact Nat.le_refl _),← nS_wk] at hz
      refine ⟨g,zs,rfl,.inl (SqL.of e1),?_⟩
      rw [hz]
      obtain ⟨kk,hkk⟩:∃ kk:Nat,kk=kOf (sortS (wk C es)):=⟨_,rfl⟩
      have hgt:decide ((0:Int)<(nL (wk C es):Int) - (nS (wk C es):Int))=decide (nS (wk C es)<nL (wk C es)):=decide_eq_decide.mpr (by lia)
      have way:atI [V.int 2,V.int 0] (if decide (nS (wk C es)<nL (wk C es))=true then 1 else 0)=some (.int (kk:Int)):=by
        rw [hkk]
        unfold kOf sortS
        by_cases z:nS (wk C es)<nL (wk C es)
        · rw [if_pos z,decide_eq_true z];rfl
        · rw [if_neg z,decide_eq_false z];rfl
      have sor:atI [V.str "hole",V.str "rim"] (if decide (nS (wk C es)<nL (wk C es))=true then 1 else 0)=some (.str (sortS (wk C es))):=by
        unfold sortS
        by_cases z:nS (wk C es)<nL (wk C es)
        · rw [if_pos z,decide_eq_true z];rfl
        · rw [if_neg z,decide_eq_false z];rfl
      refine ⟨_,_,rfl,rfl,two,fun l2 h2=>?_⟩
      have s2:=Same.up (o:=.lst [.int 2,.int 0]) h2
      have e2:upd H1 l2 (.lst [.int 2,.int 0]) l2=some (.lst [.int 2,.int 0]):=upd_same
      generalize upd H1 l2 (.lst [.int 2,.int 0])=H2 at s2 e2
      refine ⟨_,rfl,_,_,rfl,rfl,.inr ⟨_,rfl,l2,_,_,_,rfl,rfl,SqL.of e2,(by rw [hgt];exact way),?_⟩⟩
      have s12:=s1.trans s2
      have pe2:=s12 _ _ e10
      have pq2:=s12 _ _ q10
      have hv2:=hv10.mono fun x v h=>h.kt (KT.of s12)
      have hul:us.length=es.length:=hv10.1
      refine ⟨_,rfl,pe,rfl,⟨_,SqL.of pe2⟩,fun g2 hg2=>?_⟩
      refine for_enum (K:=K) (a:=pe) (xs:=us) (fun i σ H3=>∃ o0 o1 o2 o3,σ=[o0,o1,o2,o3,some (.int (kk:Int))]∧Same H2 H3∧∃ zs,H3 g2=some (.lst zs)∧VR zs ((List.range i).filter fun k=>(es[k]?).any (·.w == kk)) (plR es) H3)
        ⟨_,_,_,_,rfl,Same.up hg2,[],upd_same,VR.nil⟩ (fun i σ H3 _ ⟨_,_,_,_,_,s3,_⟩=>SqL.of (s3 _ _ pe2)) ?_ ?_
      · rintro i u σ H3 p hi ⟨o0,o1,o2,o3,rfl,s3,zs3,e3,hz3⟩ hp
        obtain ⟨f,hf,bf,rfl,qf⟩:=hv2.at hi
        have s4:=Same.up (o:=.tup [.int i,.ref bf]) hp
        have e4:upd H3 p (.tup [.int i,.ref bf]) p=some (.tup [.int i,.ref bf]):=upd_same
        generalize upd H3 p (.tup [.int i,.ref bf])=H4 at s4 e4
        have qf4:=(s3.trans s4) _ _ qf
        have hil:i<es.length:=(List.getElem?_eq_some_iff.mp hf).1
        have hzl:zs3.length≤480:=by
          rw [hz3.1]
          have:=List.length_filter_le (fun k=>(es[k]?).any (·.w == kk)) (List.range i)
          rw [List.length_range] at this
          lia
        have hd:decide (V.int (f.w:Int)=V.int (kk:Int))=(es[i]?).any (·.w == kk):=by
          rw [hf]
          show _=(f.w == kk)
          by_cases q:f.w=kk
          · rw [q];simp
          · rw [decide_eq_false (fun z=>q (by injection z with z;lia))];simp [q]
        refine ⟨p,_,rfl,SqT.of e4,rfl,_,_,rfl,_,_,rfl,bf,_,rfl,SqT.of qf4,rfl,_,_,rfl,_,_,rfl,_,_,rfl,rfl,rfl,_,rfl,_,rfl,rfl,_,rfl,?_⟩
        rw [hd,List.range_succ,filter_snoc]
        refine ite2 (fun hy=>?_) (fun hn=>?_)
        · rw [if_pos hy]
          refine ⟨_,rfl,_,rfl,_,rfl,three,fun q hq=>?_⟩
          have s5:=Same.up (o:=.tup [.int f.c.2,.int f.c.1,.int (i:Int)]) hq
          have r5:plR es i (.ref q) (upd H4 q (.tup [.int f.c.2,.int f.c.1,.int (i:Int)])):=⟨f,q,hf,rfl,upd_same⟩
          generalize upd H4 q (.tup [.int f.c.2,.int f.c.1,.int (i:Int)])=H5 at s5 r5
          have e5:=(s4.trans s5) _ _ e3
          refine ⟨zs3,e5,small1000 (by lia),_,_,_,_,rfl,same_lst hg2 (s3.trans (s4.trans s5)),_,upd_same,?_⟩
          exact hz3.snoc (fun x v h=>(h.kt (KT.of (s4.trans s5))).kt (KT.lst e5)) (r5.kt (KT.lst e5))
        · rw [if_neg hn,List.append_nil]
          exact ⟨_,_,_,_,rfl,s3.trans s4,zs3,s4 _ _ e3,hz3.mono fun x v h=>h.kt (KT.of s4)⟩
      · rintro σ H3 ⟨o0,o1,o2,o3,rfl,s3,zs3,e3,hz3⟩
        rw [hul] at hz3
        obtain ⟨L,hL⟩:∃ L,L=(List.range es.length).filter fun k=>(es[k]?).any (·.w == kk):=⟨_,rfl⟩
        rw [← hL] at hz3
        have memL:∀ j,j∈L ↔ ∃ e,es[j]?=some e∧e.w=kk:=fun j=>by
          rw [hL,List.mem_filter,List.mem_range]
          constructor
          · rintro ⟨h1,h2⟩
            rw [List.getElem?_eq_getElem h1] at h2
            exact ⟨es[j],List.getElem?_eq_getElem h1,by simpa using h2⟩
          · rintro ⟨e,h1,h2⟩
            exact ⟨(List.getElem?_eq_some_iff.mp h1).1,by rw [h1];simpa using h2⟩
        have hex:∃ e∈es,e.w=kk:=by
          rw [hkk]
          rcases sortS_or (wk C es) with z | z <;> rw [z]
          · exact hw0
          · exact hw2
        have hpos:0<zs3.length:=by
          obtain ⟨e,h1,h2⟩:=hex
          obtain ⟨j,hj,ej⟩:=List.getElem_of_mem h1
          rw [hz3.1]
          exact List.length_pos_of_mem ((memL j).mpr ⟨e,by rw [List.getElem?_eq_getElem hj,ej],h2⟩)
        refine ⟨g2,zs3,fun i=>keyP es (L.getD i 0),rfl,SqL.of e3,hpos,fun i x hx=>?_,fun i x H4 hx hle s4=>?_⟩
        · obtain ⟨j,hj,e,p,he,rfl,q⟩:=hz3.at hx
          refine ⟨p,rfl,SqT.of ?_⟩
          show H3 p=some (HO.tup ((keyP es (L.getD i 0)).map V.int))
          rw [List.getD_eq_getElem?_getD,hj,Option.getD_some]
          unfold keyP
          rw [he,q];rfl
        · obtain ⟨j,hj,e,p,he,rfl,q⟩:=hz3.at hx
          have q4:=s4 _ _ q
          have hjl:j<es.length:=(List.getElem?_eq_some_iff.mp he).1
          have hwj:e.w=kk:=by
            obtain ⟨e',h1,h2⟩:=(memL j).mp (List.mem_of_getElem? hj)
            rw [he] at h1;cases h1;exact h2
          obtain ⟨ws,hws⟩:∃ ws,ws=(es.map (stepB C)).map sv:=⟨_,rfl⟩
          have hwl:ws.length=es.length:=by rw [hws,List.length_map,List.length_map]
          have pq4:=(s3.trans s4) _ _ pq2
          have pe4:=(s3.trans s4) _ _ pe2
          rw [← hws] at pq4
          refine ⟨p,_,_,_,rfl,rfl,SqT.of q4,atI_nat (j:=2) rfl,?_⟩
          refine ⟨_,rfl,_,rfl,_,rfl,pq,ws,rfl,SqL.of pq4,fun p5 hp5=>?_⟩
          rw [cut_from ws (by lia:j≤ws.length)]
          have s5:=Same.up (o:=.lst (ws.drop j)) hp5
          refine ⟨_,rfl,_,rfl,_,rfl,pq,ws,rfl,SqL.of (s5 _ _ pq4),fun p6 hp6=>?_⟩
          rw [cut_to ws (by lia:j≤ws.length)]
          have s6:=Same.up (o:=.lst (ws.take j)) hp6
          refine ⟨p5,p6,_,_,rfl,rfl,s6 _ _ upd_same,upd_same,Nat.le_of_lt (small1000 (by simp;lia)),fun p7 hp7=>?_⟩
          have s7:=Same.up (o:=.lst (ws.drop j++ws.take j)) hp7
          have s47:=s5.trans (s6.trans s7)
          have e7:upd (upd (upd H4 p5 (.lst (ws.drop j))) p6 (.lst (ws.take j))) p7 (.lst (ws.drop j++ws.take j)) p7=some (.lst (ws.drop j++ws.take j)):=upd_same
          generalize upd (upd (upd H4 p5 (.lst (ws.drop j))) p6 (.lst (ws.take j))) p7 (.lst (ws.drop j++ws.take j))=H7 at s47 e7 ⊢
          obtain ⟨os,hos⟩:∃ os:List (Option Nat),os=(es.map (stepB C)).drop j++(es.map (stepB C)).take j:=⟨_,rfl⟩
          have hwo:ws.drop j++ws.take j=os.map sv:=by rw [hws,hos,List.map_append,List.map_drop,List.map_take]
          have hol:os.length≤480:=by rw [hos];simp;lia
          rw [hwo] at e7
          refine ⟨p7,rfl,⟨_,SqL.of e7⟩,fun g8 hg8=>?_⟩
          refine for_list (K:=K) (a:=p7) (xs:=os.map sv) (fun i σ H8=>∃ o,σ=[o]∧Same H7 H8∧H8 g8=some (.lst (rowV ((os.take i).filterMap id))))
            ⟨_,rfl,Same.up hg8,upd_same⟩ (fun i σ H8 _ ⟨_,_,s8,_⟩=>SqL.of (s8 _ _ e7)) ?_ ?_
          · rintro i u σ H8 hi ⟨o,rfl,s8,e8⟩
            rw [List.getElem?_map] at hi
            obtain ⟨so,hso,rfl⟩:=Option.map_eq_some_iff.mp hi
            have hl2:(rowV ((os.take i).filterMap id)).length≤1000:=by
              unfold rowV
              rw [List.length_map]
              have:=List.length_filterMap_le id (os.take i)
              rw [List.length_take] at this
              lia
            refine ⟨_,rfl,rfl,_,rfl,?_⟩
            rw [sv_non,take_snoc hso,List.filterMap_append]
            cases so with
            | none=>exact iteF ⟨_,rfl,s8,by simpa using e8⟩
            | some n =>
              refine iteT ⟨_,rfl,_,e8,small1000 hl2,_,rfl,same_lst hg8 s8,?_⟩
              rw [upd_same]
              simp [rowV,sv]
          · rintro σ H8 ⟨o,rfl,s8,e8⟩
            rw [List.length_map,List.take_length] at e8
            refine ⟨g8,_,rfl,.inl ⟨SqL.of e8,fun p9 hp9=>?_⟩⟩
            have s9:=Same.up (o:=.tup (rowV (os.filterMap id))) hp9
            have e9:upd H8 p9 (.tup (rowV (os.filterMap id))) p9=some (.tup (rowV (os.filterMap id))):=upd_same
            generalize upd H8 p9 (.tup (rowV (os.filterMap id)))=H9 at s9 e9
            refine ⟨two,fun l10 h10=>?_⟩
            have s10:=Same.up (o:=.lst [.str "hole",.str "rim"]) h10
            have e10':upd H9 l10 (.lst [.str "hole",.str "rim"]) l10=some (.lst [.str "hole",.str "rim"]):=upd_same
            generalize upd H9 l10 (.lst [.str "hole",.str "rim"])=H10 at s10 e10'
            have s210:=(s3.trans s4).trans (s47.trans (s8.trans (s9.trans s10)))
            have pe10:=s210 _ _ pe2
            have huj:us[j]?=some us[j]:=List.getElem?_eq_getElem (by lia)
            obtain ⟨e',he',bf,ebf,qf⟩:=hv2.at huj
            rw [he] at he'
            cases he'
            have qf10:=s210 _ _ qf
            have hat:atI us (j:Int)=some (.ref bf):=atI_nat (by rw [huj,ebf])
            refine ⟨_,rfl,_,_,rfl,rfl,.inr ⟨_,rfl,l10,_,_,_,rfl,rfl,SqL.of e10',(by rw [hgt];exact sor),?_⟩⟩
            refine ⟨_,rfl,_,rfl,pe,_,_,_,rfl,rfl,SqL.of pe10,hat,bf,_,_,_,rfl,rfl,SqT.of qf10,atI_nat (j:=0) rfl,?_⟩
            refine ⟨_,rfl,_,rfl,pe,_,_,_,rfl,rfl,SqL.of pe10,hat,bf,_,_,_,rfl,rfl,SqT.of qf10,atI_nat (j:=1) rfl,?_⟩
            refine ⟨_,rfl,(by show 4≤sizeLine;decide),fun p11 hp11=>?_⟩
            refine k _ _ ⟨sortS (wk C es),e.c.1,e.c.2,os.filterMap id⟩ (s12.trans (s210.trans (Same.up hp11))) ⟨p11,p9,rfl,upd_same,Same.up hp11 _ _ (s10 _ _ e9)⟩ ⟨rfl,j,e,?_,⟨?_,?_,fun f h1 h2=>?_⟩,rfl,rfl,?_⟩
            · rw [wk_map];exact he
            · rw [wk_map];exact List.mem_of_getElem? he
            · rw [hwj,hkk]
            · rw [wk_map] at h1
              obtain ⟨m,hm,em⟩:=List.getElem_of_mem h1
              have hmL:=(memL m).mpr ⟨f,by rw [List.getElem?_eq_getElem hm,em],by rw [h2,hkk]⟩
              obtain ⟨n,hn,en⟩:=List.getElem_of_mem hmL
              have hnl:n<zs3.length:=by rw [hz3.1];exact hn
              have:=(hle n hnl).1
              have kn:keyP es (L.getD n 0)=[f.c.2,f.c.1,(m:Int)]:=by
                rw [List.getD_eq_getElem?_getD,List.getElem?_eq_getElem hn,en,Option.getD_some]
                unfold keyP
                rw [List.getElem?_eq_getElem hm,em]
              have ki:keyP es (L.getD i 0)=[e.c.2,e.c.1,(j:Int)]:=by
                rw [List.getD_eq_getElem?_getD,hj,Option.getD_some]
                unfold keyP
                rw [he]
              simp only [kn,ki] at this
              cases q':HT.lexLt [f.c.2,f.c.1] [e.c.2,e.c.1] with
              | false=>rfl
              | true=>rw [lex3 q'] at this;cases this
            · rw [hos]
              unfold wk
              rw [← List.map_drop,← List.map_take,← List.map_append,← List.map_drop,← List.map_take,← List.map_append,List.filterMap_map,List.filterMap_map]
              rfl
end
end RR
namespace RR
open PySem L2 RP
theorem InOrd.pw {cs:List Cell} (h:InOrd cs):cs.Pairwise fun a b=>HT.lexLt [a.2,a.1] [b.2,b.1]=true:=by
  induction cs with
  | nil=>exact .nil
  | cons a r ih =>
    have ih':=ih fun i c d h1 h2=>h (i+1) c d (by simpa using h1) (by simpa using h2)
    refine List.pairwise_cons.mpr ⟨fun b hb=>?_,ih'⟩
    cases r with
    | nil=>cases hb
    | cons c r =>
      have h0:HT.lexLt [a.2,a.1] [c.2,c.1]=true:=h 0 a c rfl rfl
      rcases List.mem_cons.mp hb with rfl | hb
      · exact h0
      · exact HT.lexLt_trans h0 ((List.pairwise_cons.mp ih').1 b hb)
theorem InOrd.nodup {cs:List Cell} (h:InOrd cs):cs.Nodup:=h.pw.imp fun {a b} q e=>by
  subst e
  rw [HT.lexLt_irrefl] at q;cases q
theorem cR.key {c:Cell} {v:V} {H:Hp} (h:cR c v H):keyR (kC c) v H:=let ⟨b,e1,q⟩:=h;⟨b,e1,q⟩
theorem VR.keys {α:Type} {vs:List V} {l:List α} {R:α→V→Hp→Prop} {H:Hp} {f:α→List Key} (h:VR vs l R H) (m:∀ x v,R x v H→keyR (f x) v H):VR vs (l.map f) keyR H:=by
  refine ⟨by rw [List.length_map];exact h.1,fun i x v h1 h2=>?_⟩
  rw [List.getElem?_map] at h1
  obtain ⟨y,hy,rfl⟩:=Option.map_eq_some_iff.mp h1
  exact m y v (h.2 i y v hy h2)
theorem _root_.L2.But1.kt {pos:Pos} {qual:Str} {P:Addr} {H H':Hp} (b:But1 P H H') (l:LamAt pos qual P H):KT H H':=fun z xs e=>b z _ (l.ne e nofun) e
def lamQ (f:Str):Str:=f ++ ".<locals>." ++ "<lambda>"
abbrev lpT:Pos:=(⟨96,34,96,100⟩:Pos)
abbrev LamT (P:Addr) (H:Hp):Prop:=LamAt lpT (lamQ "_law_traced") P H
section
variable {P:Program} {w:World} {K:PySem.W.Frag} {mg:Str→Option Value} {base:Heap}
def spTraced (K:PySem.W.Frag) (L:Addr):Sp:=fun vs H Q _=>∃ (a:Addr) (us:List V) (cs:List Cell),vs=[.ref a]∧H a=some (.lst us)∧VR us cs cR H∧InOrd cs∧cs.length≤120∧LamT L H ∧
  ∀ p H' rs R R0,H p=none→But1 L H H'→LamT L H'→H' p=some (.lst rs)→VR rs R rR H'→R.Perm R0→R.Pairwise (fun r q=>HT.lexLt (keyI q) (keyI r)=false)→Whole cs R0→Q (.ref p) H'
theorem ok_law_traced {L c : Addr} (T : Txt P w K mg) (hB : Bm mg base) (hh : PySem.W.codeHdIn K c L = true) (g__law_lot : Fn P w K mg base 1 "_law_lot" ["_law_cells"] (spLot K)) (g__law_edges : Fn P w K mg base 2 "_law_edges" ["_law_there"] (spEdges K))
    (g__law_walked:Fn P w K mg base 3 "_law_walked" ["_law_there","_law_first"] (spWalked K)) (g__law_told:Fn P w K mg base 2 "_law_told" ["_law_edges_here","_law_steps"] (spToldW K))
    (d:Df K mg "_law_traced" s__law_traced ["_law_cells"]) (hc:d.fd.code=.ref c):FnOk P w K mg base CX0 5 d.f d.fd ["_law_cells"] (spTraced K L):=by
  refine d.F.okL hc sc__law_traced (fun vs H Q E h=>?_) (fun A outer s H vs Q E hr h=>?_)
  · obtain ⟨a,us,cs,rfl,_⟩:=h
    rfl
  · obtain ⟨a,us,cs,rfl,ea,hva,hord,hlen,hlam,k⟩:=h
    have hu1:=hu_of hr
    refine ⟨_,(pss_cons (sE 1 sc__law_traced.nd (pC g__law_lot hr (pa_N (pv 0) pa_nil)))
      (pss_cons (sE 2 sc__law_traced.nd pe_dnewT)
      (pss_cons (sE 3 sc__law_traced.nd (pe_lst pa_nil))
      (pss_cons (ps_for PassesOwn.never rfl (pi_list (pC g__law_edges hr (pa_N (pv 1) pa_nil))) (nG 4 sc__law_traced.nd)
      (pss_one (ps_if (pt_cmp (pc_dnotin hu1 (pv 4) (pv 2)))
      (pss_cons (ps_asg (pC g__law_walked hr (pa_N (pv 1) (pa_N (pv 4) pa_nil))) (pg_tup (by rfl) (pgs_cons (nG 5 sc__law_traced.nd) (pgs_cons (nG 6 sc__law_traced.nd) pgs_nil))))
      (pss_cons (ps_for PassesOwn.never rfl (pi_list (pv 5)) (nG 7 sc__law_traced.nd)
      (pss_one (ps_dput hu1 (pv 2) (pv 7) pe_bl rfl)))
      (pss_one (ps_expr (pe_bm PySem.F.plainAttrs_list PySem.F.slot_list_append PySem.F.type_list_append mt_append (pv 3) (pa_cons (pC g__law_told hr (pa_N (pv 5) (pa_N (pv 6) pa_nil))) pa_nil))))))
      pss_nil)))
      (pss_one (ps_ret (pe_sortL (k:=0) (N:=["_law_one"]) (hr.mono (by decide)) (by rfl) T.nsorted rfl hh hB (by rfl) ⟨rfl,rfl,rfl,by decide +kernel,rfl,by decide +kernel,by decide +kernel⟩ (fun _ _ _ _=>rfl) (pv 3) (fun _ _ _ _ _ _=>(pe_tup (pa_cons (pe_ix (ix_tupK (K:=K)) (pv 0) pe_int (fun _ _=>rfl)) (pa_cons (pe_ix (ix_tupK (K:=K)) (pv 0) pe_int (fun _ _=>rfl)) (pa_cons (pe_cmpR op_eq (pe_ix (ix_tupK (K:=K)) (pv 0) pe_int (fun _ _=>rfl)) pe_str (nomark _)) pa_nil)))))))))))),?_⟩
    have hnd:=hord.nodup
    have hcn:(cs.map kC).Nodup:=List.Pairwise.map _ (fun a b hab e=>hab (kC_inj.mp e)) hnd
    refine ⟨_,rfl,a,us,cs.map kC,rfl,SqL.of ea,hva.keys (f:=kC) fun x v h=>h.key,hcn,by rw [List.length_map];lia,fun t H1 ht s1 e1=>?_⟩
    refine fun dd hdd=>⟨(by show 0≤sizeLine;decide),fun p hp=>?_⟩
    have hpd:p≠dd:=fun z=>by subst z;rw [upd_same] at hp;cases hp
    have s4:Same H1 (upd (upd H1 dd (.dT [])) p (.lst [])):=(Same.up hdd).trans (Same.up hp)
    have d4:upd (upd H1 dd (.dT [])) p (.lst []) dd=some (.dT []):=by rw [upd_ne (Ne.symm hpd),upd_same]
    have p4:upd (upd H1 dd (.dT [])) p (.lst []) p=some (.lst []):=upd_same
    have n2:H1 dd=none:=hdd
    have n2p:H1 p=none:=by rw [upd_ne hpd] at hp;exact hp
    generalize upd (upd H1 dd (.dT [])) p (.lst [])=H4 at s4 d4 p4
    have t4:=s4 _ _ e1
    have a4:=(s1.trans s4) _ _ ea
    have s14:=s1.trans s4
    refine ⟨_,rfl,t,cs,rfl,t4,hlen,fun pe H5 es hpe f5 e5 hvE=>?_⟩
    obtain ⟨f5,od,t5⟩:=f5
    have kt5:KT H4 H5:=fun b xs e=>f5 b _ (ne_of e t4 (fun z=>nomatch z)) e
    have s15:Same H H5:=fun b o e=>f5 b o (ne_of_none e ht) (s14 _ _ e)
    have d5:H5 dd=some (.dT []):=f5 _ _ (ne_of_none e1 n2).symm d4
    have p5:H5 p=some (.lst []):=f5 _ _ (ne_of_none e1 n2p).symm p4
    have hped:pe≠dd:=(ne_of_none d4 hpe).symm
    have hpep:pe≠p:=(ne_of_none p4 hpe).symm
    have htd:t≠dd:=ne_of_none e1 n2
    have htp:t≠p:=ne_of_none e1 n2p
    have nHd:H dd=none:=s1.free n2
    have nHp:H p=none:=s1.free n2p
    refine ⟨pe,rfl,⟨_,SqL.of e5⟩,?_⟩
    refine for_list (K := K) (a := pe) (xs := es) (fun i σ H6 => ∃ o4 o5 o6 o7, σ = [some (.ref a), some (.ref t), some (.ref dd), some (.ref p), o4, o5, o6, o7] ∧ Same H H6 ∧ H6 t = some (.frz od (.dT (tru (cs.map kC)))) ∧ H6 pe = some (.lst es) ∧ KT H5 H6 ∧
        ∃ kvs rs ESS R,H6 dd=some (.dT kvs)∧H6 p=some (.lst rs)∧VR rs R rR H6∧Part (isIn cs) ESS R∧(∀ e,(valV kvs (kE e)).isSome=decide (e∈ESS.flatten))∧kvs.length≤ESS.flatten.length∧∀ e∈(allE cs).take i,e∈ESS.flatten)
      ⟨_,_,_,_,rfl,s15,t5,e5,KT.refl _,[],[],[],[],d5,p5,VR.nil,Part.nil,(fun e=>by simp [valV]),Nat.le_refl _,(fun e he=>by simp at he)⟩ (fun i σ H6 _ ⟨_,_,_,_,_,_,_,e6,_⟩=>SqL.of e6) ?_ ?_
    · rintro i v σ H6 hi ⟨o4,o5,o6,o7,rfl,s6,t6,e6,kt6,kvs,rs,ESS,R,d6,p6,hR,hP,hkv,hkl,hall⟩
      obtain ⟨e,he,b,rfl,qb⟩:=hvE.at hi
      have hE:IsE (isIn cs) e:=mem_allE.mp (List.mem_of_getElem? he)
      have qb6:=kt6 _ _ qb
      refine ⟨_,rfl,_,rfl,dd,_,rfl,.inr ⟨kvs,kE e,b,Rd.of d6,rfl,qb6,rfl⟩,_,rfl,?_⟩
      rw [hkv]
      by_cases hin:e∈ESS.flatten
      · rw [decide_eq_true hin]
        refine iteF ⟨_,_,_,_,rfl,s6,t6,e6,kt6,kvs,rs,ESS,R,d6,p6,hR,hP,hkv,hkl,fun f hf=>?_⟩
        rcases (mem_take1 he).mp hf with z | z
        · exact hall f z
        · rw [z];exact hin
      · rw [decide_eq_false hin]
        refine iteT ?_
        have tab6:TabR H6 t (isIn cs):=TabR.of (.inr ⟨od,t6⟩)
        refine ⟨_,rfl,_,rfl,t,b,cs,e,rfl,tab6,qb6,hE,hlen,fun pw pu pq H7 ws fs s7 f7 e7 hv7 q7 hcl=>?_⟩
        have hfs:fs.length≤4*cs.length:=hcl.1.short
        have hap:=hcl.apart hP.back hin
        have d7:=s7 _ _ d6
        have hud:pu≠dd:=ne_of e7 d7 (fun z=>nomatch z)
        have hws:ws.length=fs.length:=hv7.1
        refine ⟨pw,_,rfl,SqT.of f7,rfl,_,_,rfl,_,_,rfl,rfl,?_⟩
        refine ⟨_,rfl,pu,rfl,⟨_,SqL.of e7⟩,?_⟩
        refine for_list (K := K) (a := pu) (xs := ws) (fun j σ H8 => ∃ o7, σ = [some (.ref a), some (.ref t), some (.ref dd), some (.ref p), some (.ref b), some (.ref pu), some (.ref pq), o7] ∧ (∀ z o, z ≠ dd → H7 z = some o → H8 z = some o) ∧
            ∃ kv8,H8 dd=some (.dT kv8)∧(∀ f,(valV kv8 (kE f)).isSome=decide (f∈ESS.flatten∨f∈fs.take j))∧kv8.length≤ESS.flatten.length+j)
          ⟨_,rfl,(fun z o _ h=>h),kvs,d7,(fun f=>by rw [hkv];simp),by lia⟩ (fun j σ H8 _ ⟨_,_,k8,_⟩=>SqL.of (k8 _ _ hud e7)) ?_ ?_
        · rintro j u σ H8 hj ⟨o7,rfl,k8,kv8,d8,hk8,hl8⟩
          obtain ⟨f,hf',bb,rfl,q2⟩:=hv7.at hj
          have nb:bb≠dd:=ne_of q2 d7 (fun z=>nomatch z)
          have hjl:j<fs.length:=by rw [← hws];exact (List.getElem?_eq_some_iff.mp hj).1
          have hsm:=hP.small
          refine ⟨_,rfl,_,rfl,dd,_,rfl,.inr ⟨kv8,kE f,bb,d8,rfl,k8 _ _ nb q2,small1000 (by lia),rfl⟩,?_⟩
          refine ⟨_,rfl,(fun z o hz h=>by rw [upd_ne hz];exact k8 z o hz h),_,upd_same,(fun g=>?_),Nat.le_trans (length_putK _ _ _) (by lia)⟩
          rw [valV_put]
          by_cases eg:g=f
          · rw [if_pos (kE_inj.mpr eg),decide_eq_true (.inr ((mem_take1 hf').mpr (.inr eg)))];rfl
          · rw [if_neg (fun z=>eg (kE_inj.mp z)),hk8]
            refine decide_eq_decide.mpr ⟨fun z=>z.imp id fun q=>(mem_take1 hf').mpr (.inl q),fun z=>z.imp id fun q=>((mem_take1 hf').mp q).resolve_right eg⟩
        · rintro σ H8 ⟨o7,rfl,k8,kv8,d8,hk8,hl8⟩
          rw [hws,List.take_length] at hk8
          have p8:=k8 _ _ hpd (s7 _ _ p6)
          have kt8:KT H7 H8:=fun z xs h=>k8 z _ (ne_of h d7 (fun q=>nomatch q)) h
          have u8:H8 pu=some (.lst ws):=k8 _ _ hud e7
          have q8:H8 pq=some (.lst ((fs.map (stepB (isIn cs))).map sv)):=k8 _ _ (ne_of q7 d7 (fun z=>nomatch z)) q7
          have hrl:rs.length≤120:=by rw [hR.1];exact Nat.le_trans hP.few hlen
          refine ⟨_,rfl,.inl ⟨rfl,_,SqL.of p8⟩,_,rfl,_,rfl,pu,pq,ws,isIn cs,fs,rfl,u8,hv7.mono (fun x v hx=>hx.kt kt8),q8,by lia,hcl.has (.inl rfl),hcl.has (.inr rfl),fun vr H9 r s9 hr9 hrn=>?_⟩
          have p9:=s9 _ _ p8
          refine ⟨p,rs,_,rfl,rfl,p9,small1000 (by lia),?_⟩
          have kt9:KT H9 (upd H9 p (.lst (rs++[vr]))):=KT.lst p9
          have ktA:KT H6 (upd H9 p (.lst (rs++[vr]))):=(KT.of s7).trans (kt8.trans ((KT.of s9).trans kt9))
          refine ⟨_,_,_,_,rfl,(fun z o h=>?_),?_,?_,kt6.trans ktA,kv8,rs++[vr],ESS++[fs],R++[r],?_,upd_same,hR.snoc (fun x v hx=>hx.kt ktA) (hr9.kt kt9),hP.snoc hcl hrn hin,(fun f=>?_),?_,(fun f hf=>?_)⟩
          · rw [upd_ne (ne_of_none h nHp)]
            exact s9 _ _ (k8 _ _ (ne_of_none h nHd) (s7 _ _ (s6 _ _ h)))
          · rw [upd_ne htp]
            exact s9 _ _ (k8 _ _ htd (s7 _ _ t6))
          · rw [upd_ne hpep]
            exact s9 _ _ (k8 _ _ hped (s7 _ _ e6))
          · rw [upd_ne (Ne.symm hpd)];exact s9 _ _ d8
          · rw [hk8]
            refine decide_eq_decide.mpr ?_
            rw [List.flatten_append,List.mem_append]
            simp
          · rw [List.flatten_append,List.length_append,show [fs].flatten=fs by simp]
            lia
          · rw [List.flatten_append,List.mem_append]
            rcases (mem_take1 he).mp hf with z | z
            · exact .inl (hall f z)
            · rw [z]
              refine .inr ?_
              have:=hcl.1.1
              simpa using List.mem_of_getElem? this
    · rintro σ H6 ⟨o4,o5,o6,o7,rfl,s6,t6,e6,kt6,kvs,rs,ESS,R,d6,p6,hR,hP,hkv,hkl,hall⟩
      rw [hvE.1,List.take_length] at hall
      have hrl:rs.length≤120:=by rw [hR.1];exact Nat.le_trans hP.few hlen
      have ge:∀ (i:Nat) r,R[i]?=some r→R.getD i ⟨"",0,0,[]⟩=r:=fun i r h=>by simp only [List.getD_eq_getElem?_getD,h,Option.getD_some]
      have lam6:LamT L H6:=hlam.same s6
      refine ⟨_,rfl,p,rs,fun i=>keyV (R.getD i ⟨"",0,0,[]⟩),fun i=>keyI (R.getD i ⟨"",0,0,[]⟩),rfl,lam6,SqL.of p6,by lia,fun i x H7 hx b7=>?_,
        fun i j hi hj=>⟨_,_,_,_,_,_,rfl,rfl,.cons (.int _ _) (.cons (.bl _ _) .nil),rfl,rfl⟩,fun pp D H7 hpm hpo hD b7 l7 f7=>?_⟩
      · obtain ⟨r,hr',x1,x2,rfl,q1,q2⟩:=hR.at hx
        have q7:=b7.kt lam6 _ _ q1
        refine ⟨_,rfl,x1,_,_,_,rfl,rfl,SqT.of q7,atI_nat (j:=2) rfl,_,rfl,x1,_,_,_,rfl,rfl,SqT.of q7,atI_nat (j:=1) rfl,_,rfl,x1,_,_,_,rfl,rfl,SqT.of q7,atI_nat (j:=0) rfl,rfl,three,fun q hq=>⟨Same.up hq,q,rfl,SqT.of ?_⟩⟩
        show upd H7 q _ q=some (HO.tup (keyV (R.getD i ⟨"",0,0,[]⟩)))
        rw [ge i r hr',upd_same]
        rfl
      · have kt7:=b7.kt lam6
        have hpl:pp.length=R.length:=by rw [hpm.length_eq,List.length_range,hR.1]
        have hlt:∀ i∈pp,i<R.length:=fun i hi=>by
          have:=List.mem_range.mp (hpm.mem_iff.mp hi)
          rw [hR.1] at this;exact this
        have hRR:(pp.map fun i=>R.getD i ⟨"",0,0,[]⟩).Perm R:=by
          have h1:=hpm.map fun i=>R.getD i (⟨"",0,0,[]⟩:Rnd)
          rw [hR.1] at h1
          have h2:((List.range R.length).map fun i=>R.getD i (⟨"",0,0,[]⟩:Rnd))=R:=by
            apply List.ext_getElem
            · simp
            · intro i a b
              simp [show i<R.length by simpa using a]
          rw [h2] at h1
          exact h1
        have vR:VR (pp.map fun i=>rs.getD i V.non) (pp.map fun i=>R.getD i ⟨"",0,0,[]⟩) rR H7:=by
          refine ⟨by simp,fun i r v h1 h2=>?_⟩
          rw [List.getElem?_map] at h1 h2
          obtain ⟨a,ha,rfl⟩:=Option.map_eq_some_iff.mp h1
          rw [ha] at h2
          cases h2
          have hal:=hlt a (List.mem_of_getElem? ha)
          have hal2:a<rs.length:=by rw [hR.1];exact hal
          have e1:R.getD a ⟨"",0,0,[]⟩=R[a]:=by simp [hal]
          have e2:rs.getD a V.non=rs[a]:=by simp [hal2]
          rw [e1]
          show rR R[a] (rs.getD a V.non) H7
          rw [e2]
          exact (hR.2 a _ _ (List.getElem?_eq_getElem hal) (List.getElem?_eq_getElem hal2)).kt kt7
        refine k D H7 _ _ R (s6.free hD) (s6.but1.trans b7) l7 f7 vR hRR ?_ ⟨ESS,hP,fun e=>⟨hP.isE e,fun h=>hall e (mem_allE.mpr h)⟩⟩
        rw [List.pairwise_map]
        exact hpo
end
end RR
namespace RR
open PySem L2 RP
abbrev Run:=Int×Nat
def flatR (rs:List Run):List Int:=rs.flatMap fun p=>List.replicate p.2 p.1
theorem flatR_snoc (rs:List Run) (p:Run):flatR (rs++[p])=flatR rs++List.replicate p.2 p.1:=by unfold flatR;simp
def addR (rs:List Run) (s:Int):List Run :=
  match rs.getLast? with
  | some p=>if p.1=s then rs.dropLast++[(s,p.2+1)] else rs++[(s,1)]
  | none=>rs++[(s,1)]
theorem addR_nil (s:Int):addR [] s=[(s,1)]:=rfl
theorem addR_same (l:List Run) (p:Run) (s:Int) (h:p.1=s):addR (l++[p]) s=l++[(s,p.2+1)]:=by
  unfold addR;simp [h]
theorem addR_new (l:List Run) (p:Run) (s:Int) (h:¬ p.1=s):addR (l++[p]) s=(l++[p])++[(s,1)]:=by
  unfold addR;simp [h]
def runsL (ns:List Int):List Run:=ns.foldl addR []
structure Good (rs:List Run) (ns:List Int):Prop where
  flat:flatR rs=ns
  pos:∀ p∈rs,1≤p.2
  alt:∀ (i:Nat) p q,rs[i]?=some p→rs[i+1]?=some q→p.1≠q.1
theorem Good.nil:Good [] []:=⟨rfl,(fun p h=>by cases h),(fun i p q h=>by simp at h)⟩
theorem alt_snoc {l:List Run} {p:Run} (h:∀ (i:Nat) p q,l[i]?=some p→l[i+1]?=some q→p.1≠q.1) (hp:∀ q,l.getLast?=some q→q.1≠p.1):∀ (i:Nat) a b,(l++[p])[i]?=some a→(l++[p])[i+1]?=some b→a.1≠b.1:=by
  intro i a b h1 h2
  rcases Nat.lt_trichotomy (i+1) l.length with hi | hi | hi
  · rw [List.getElem?_append_left (by lia)] at h1
    rw [List.getElem?_append_left hi] at h2
    exact h i a b h1 h2
  · rw [List.getElem?_append_left (by lia)] at h1
    rw [List.getElem?_append_right (by lia),hi] at h2
    have e:b=p:=by simpa using h2.symm
    subst e
    refine hp a ?_
    rw [List.getLast?_eq_getElem?,← hi];simpa using h1
  · rw [List.getElem?_append_right (by lia)] at h2
    have:i+1 - l.length<1:=(List.getElem?_eq_some_iff.mp h2).1
    lia
theorem Good.add {rs:List Run} {ns:List Int} (h:Good rs ns) (s:Int):Good (addR rs s) (ns++[s]):=by
  rcases List.eq_nil_or_concat rs with rfl | ⟨l,p,e⟩
  · rw [addR_nil]
    refine ⟨by rw [← h.flat];rfl,fun p hp=>?_,fun i p q _ h2=>?_⟩
    · have:p=(s,1):=by simpa using hp
      rw [this];exact Nat.le_refl _
    · have:=(List.getElem?_eq_some_iff.mp h2).1
      simp at this
  · rw [List.concat_eq_append] at e
    subst e
    by_cases hs:p.1=s
    · rw [addR_same l p s hs]
      refine ⟨?_,fun q hq=>?_,?_⟩
      · rw [flatR_snoc,← h.flat,flatR_snoc,List.replicate_succ',← List.append_assoc,hs]
      · rcases List.mem_append.mp hq with z | z
        · exact h.pos q (List.mem_append_left _ z)
        · have:q=(s,p.2+1):=by simpa using z
          rw [this];exact Nat.le_add_left _ _
      · refine alt_snoc (fun i a b h1 h2=>h.alt i a b (by rw [List.getElem?_append_left (List.getElem?_eq_some_iff.mp h1).1];exact h1) (by rw [List.getElem?_append_left (List.getElem?_eq_some_iff.mp h2).1];exact h2)) fun q hq=>?_
        show q.1≠s
        rw [← hs]
        have hl:0<l.length:=by
          cases l with
          | nil=>cases hq
          | cons a r=>simp
        rw [List.getLast?_eq_getElem?] at hq
        refine h.alt (l.length - 1) q p ?_ ?_
        · rw [List.getElem?_append_left (by lia)];exact hq
        · rw [show l.length - 1+1=l.length by lia,List.getElem?_append_right (Nat.le_refl _)];simp
    · rw [addR_new l p s hs]
      refine ⟨?_,fun q hq=>?_,?_⟩
      · rw [flatR_snoc,h.flat];rfl
      · rcases List.mem_append.mp hq with z | z
        · exact h.pos q z
        · have:q=(s,1):=by simpa using z
          rw [this];exact Nat.le_refl _
      · refine alt_snoc h.alt fun q hq=>?_
        have:q=p:=by simpa using hq.symm
        rw [this];exact hs
theorem len_flatR:∀ (rs:List Run),(∀ p∈rs,1≤p.2)→rs.length≤(flatR rs).length
  | [],_=>Nat.zero_le _
  | p::r,h=>by
    have ih:=len_flatR r fun q hq=>h q (List.mem_cons_of_mem _ hq)
    have:=h p List.mem_cons_self
    have e:flatR (p::r)=List.replicate p.2 p.1++flatR r:=by unfold flatR;simp
    rw [e,List.length_append,List.length_replicate,List.length_cons]
    lia
theorem Good.few {rs:List Run} {ns:List Int} (h:Good rs ns):rs.length≤ns.length:=by rw [← h.flat];exact len_flatR rs h.pos
theorem flat_take_succ {rs:List Run} {i:Nat} {p:Run} (h:rs[i]?=some p):flatR (rs.take (i+1))=flatR (rs.take i)++List.replicate p.2 p.1:=by
  rw [List.take_add_one,h]
  exact flatR_snoc _ _
def runR (p:Run) (v:V) (H:Hp):Prop:=∃ b,v=.ref b∧H b=some (.tup [.int p.1,.int (p.2:Int)])
theorem runR.kt {p:Run} {v:V} {H H':Hp} (h:runR p v H) (k:KT H H'):runR p v H':=let ⟨b,e,q⟩:=h;⟨b,e,k _ _ q⟩
theorem VR.unsnoc {α:Type} {vs:List V} {l:List α} {x:α} {R:α→V→Hp→Prop} {H:Hp} (h:VR vs (l++[x]) R H):∃ ws v,vs=ws++[v]∧VR ws l R H∧R x v H:=by
  have hl:vs.length=l.length+1:=by rw [h.1];simp
  rcases List.eq_nil_or_concat vs with e | ⟨ws,v,e⟩
  · rw [e] at hl;simp at hl
  · rw [List.concat_eq_append] at e
    subst e
    have hw:ws.length=l.length:=by simpa using hl
    refine ⟨ws,v,rfl,⟨hw,fun i y u h1 h2=>?_⟩,?_⟩
    · refine h.2 i y u ?_ ?_
      · rw [List.getElem?_append_left (List.getElem?_eq_some_iff.mp h1).1];exact h1
      · rw [List.getElem?_append_left (List.getElem?_eq_some_iff.mp h2).1];exact h2
    · refine h.2 l.length x v ?_ ?_
      · rw [List.getElem?_append_right (Nat.le_refl _)];simp
      · rw [← hw,List.getElem?_append_right (Nat.le_refl _)];simp
section
variable {P:Program} {w:World} {K:PySem.W.Frag} {mg:Str→Option Value} {base:Heap}
def spRuns (K:PySem.W.Frag):Sp:=fun vs H Q _=>∃ (a:Addr) (ns:List Int),vs=[.ref a]∧SqT K H a (ns.map V.int)∧ns.length≤500 ∧
  ∀ (q:Addr) (us:List V) (H':Hp),H q=none→Same H H'→H' q=some (.lst us)→VR us (runsL ns) runR H'→Good (runsL ns) ns→Q (.ref q) H'
theorem ok_runs_of (d:Df K mg "runs_of" s_runs_of ["row"]):FnOk P w K mg base CX0 1 d.f d.fd ["row"] (spRuns K):=by
  refine d.F.ok sc_runs_of (fun vs H Q E h=>?_) (fun cdv A outer s H vs Q E hr h=>?_)
  · obtain ⟨a,ns,rfl,_⟩:=h
    rfl
  · obtain ⟨a,ns,rfl,hq,hlen,k⟩:=h
    refine ⟨_,(pss_cons (sE 1 sc_runs_of.nd (pe_lst pa_nil))
      (pss_cons (ps_for PassesOwn.never rfl (pi_tup (pv 0)) (nG 2 sc_runs_of.nd)
      (pss_one (ps_if (pw_and (pt_truth (pv 1) (fun _=>rfl)) (pw_and1 (pt_cmpR op_eq (pe_ix ix_tup (pe_ix ix_list (pv 1) (pe_un un_neg pe_int) (fun _ _=>rfl)) pe_int (fun _ _=>rfl)) (pv 2) (nomark _)))).pt
      (pss_one (ps_asg (pe_tup (pa_N (pv 2) (pa_B (pe_op op_add (pe_ix ix_tup (pe_ix ix_list (pv 1) (pe_un un_neg pe_int) (fun _ _=>rfl)) pe_int (fun _ _=>rfl)) pe_int) pa_nil))) (pg_sub (pv 1) (pe_un un_neg pe_int) set_list)))
      (pss_one (ps_expr (pe_bm PySem.F.plainAttrs_list PySem.F.slot_list_append PySem.F.type_list_append mt_append (pv 1) (pa_T (pe_tup (pa_N (pv 2) (pa_C pe_int pa_nil))) pa_nil)))))))
      (pss_one (ps_ret (pv 1))))),?_⟩
    refine ⟨(by show 0≤sizeLine;decide),fun q hq0=>?_⟩
    have s1:=Same.up (o:=.lst []) hq0
    have q1:upd H q (.lst []) q=some (.lst []):=upd_same
    generalize upd H q (.lst [])=H1 at s1 q1
    refine ⟨_,rfl,a,rfl,⟨_,s1.seqT hq⟩,?_⟩
    refine for_tup (K:=K) (a:=a) (xs:=ns.map V.int) (fun i σ H2=>∃ o us,σ=[some (.ref a),some (.ref q),o]∧Same H H2∧H2 q=some (.lst us)∧VR us (runsL (ns.take i)) runR H2∧Good (runsL (ns.take i)) (ns.take i))
      ⟨_,[],rfl,s1,q1,VR.nil,Good.nil⟩ (fun i σ H2 _ ⟨_,_,_,s2,_⟩=>s2.seqT hq) ?_ ?_
    · rintro i v σ H2 hi ⟨o,us,rfl,s2,e2,hv,hg⟩
      have hil:i<ns.length:=by
        have:=(List.getElem?_eq_some_iff.mp hi).1
        simpa using this
      have ev:v=.int ns[i]:=by
        rw [List.getElem?_map,List.getElem?_eq_getElem hil] at hi
        exact (Option.some.inj hi).symm
      subst ev
      have tk:ns.take (i+1)=ns.take i++[ns[i]]:=by rw [List.take_add_one,List.getElem?_eq_getElem hil];rfl
      have rk:runsL (ns.take (i+1))=addR (runsL (ns.take i)) ns[i]:=by unfold runsL;rw [tk,List.foldl_append];rfl
      have gk:=hg.add ns[i]
      rw [← rk,← tk] at gk
      have hul:us.length≤500:=by
        rw [hv.1]
        have:=hg.few
        rw [List.length_take] at this
        lia
      have nw : ∀ (H3 : Hp) (t : Addr), H3 t = none → Same H H3 → H3 q = some (.lst us) → VR us (runsL (ns.take i)) runR H3 → runsL (ns.take (i + 1)) = runsL (ns.take i) ++ [(ns[i], 1)] →
          Same H (upd (upd H3 t (.tup [.int ns[i],.int 1])) q (.lst (us++[.ref t])))∧VR (us++[.ref t]) (runsL (ns.take (i+1))) runR (upd (upd H3 t (.tup [.int ns[i],.int 1])) q (.lst (us++[.ref t]))):=by
        intro H3 t ht s3 e3 hv3 er
        have hqt:q≠t:=ne_of_none e3 ht
        have k2:KT (upd H3 t (.tup [.int ns[i],.int 1])) (upd (upd H3 t (.tup [.int ns[i],.int 1])) q (.lst (us++[.ref t]))):=KT.lst (xs:=us) (by rw [upd_ne hqt];exact e3)
        refine ⟨same_lst hq0 (s3.trans (Same.up ht)),?_⟩
        rw [er]
        exact hv3.snoc (fun x v hx=>hx.kt ((KT.up ht).trans k2)) ⟨t,rfl,k2 _ _ upd_same⟩
      rcases List.eq_nil_or_concat (runsL (ns.take i)) with er | ⟨l,p,er⟩
      · have hus : us = [] := by
          have:=hv.1
          rw [er] at this
          exact List.length_eq_zero_iff.mp this
        subst hus
        refine ⟨_,rfl,_,.inl ⟨_,SqL.of e2,rfl⟩,iteF ?_⟩
        refine ⟨_,rfl,.inl ⟨rfl,_,SqL.of e2⟩,_,rfl,two,fun t ht=>?_⟩
        have hqt:q≠t:=ne_of_none e2 ht
        obtain ⟨n1,n2⟩:=nw H2 t ht s2 e2 hv (by rw [rk,er];rfl)
        exact ⟨q,_,_,rfl,rfl,by rw [upd_ne hqt];exact e2,small1000 (by simp),_,_,rfl,n1,upd_same,n2,gk⟩
      · rw [List.concat_eq_append] at er
        have hv':=hv
        rw [er] at hv'
        obtain ⟨ws,u,rfl,hw,b,rfl,qb⟩:=hv'.unsnoc
        have at1:atI (ws++[V.ref b]) (-1)=some (.ref b):=by rw [atI_last (by simp)];simp
        refine ⟨_,rfl,_,.inl ⟨_,SqL.of e2,rfl⟩,iteY (by simp) ?_⟩
        refine ⟨_,rfl,_,rfl,q,_,_,_,rfl,rfl,SqL.of e2,at1,b,_,_,_,rfl,rfl,SqT.of qb,atI_nat (j:=0) rfl,_,rfl,rfl,_,rfl,?_⟩
        by_cases hs:p.1=ns[i]
        · refine iteY (decide_eq_true (by rw [hs])) ?_
          refine ⟨_,rfl,_,rfl,_,rfl,q,_,_,_,rfl,rfl,SqL.of e2,at1,b,_,_,_,rfl,rfl,SqT.of qb,atI_nat (j:=1) rfl,_,_,rfl,rfl,two,fun t ht=>?_⟩
          have hqt:q≠t:=ne_of_none e2 ht
          have e3:upd H2 t (.tup [.int ns[i],.int ((p.2:Int)+1)]) q=some (.lst (ws++[.ref b])):=by rw [upd_ne hqt];exact e2
          have ix:ixN (ws++[V.ref b]).length (-1)=some ws.length:=by
            unfold ixN
            rw [if_neg (by lia),if_pos (by simp;lia)]
            congr 1;simp;lia
          refine ⟨_,rfl,_,rfl,q,_,_,_,rfl,rfl,e3,ix,?_⟩
          have hset:(ws++[V.ref b]).set ws.length (.ref t)=ws++[.ref t]:=by rw [List.set_append_right _ _ (Nat.le_refl _)];simp
          rw [hset]
          have k2:KT (upd H2 t (.tup [.int ns[i],.int ((p.2:Int)+1)])) (upd (upd H2 t (.tup [.int ns[i],.int ((p.2:Int)+1)])) q (.lst (ws++[.ref t]))):=KT.lst e3
          refine ⟨_,_,rfl,same_lst hq0 (s2.trans (Same.up ht)),upd_same,?_,gk⟩
          rw [rk,er,addR_same l p _ hs]
          refine hw.snoc (fun x v hx=>hx.kt ((KT.up ht).trans k2)) ⟨t,rfl,k2 _ _ ?_⟩
          rw [upd_same]
          show some (HO.tup [.int ns[i],.int ((p.2:Int)+1)])=some (HO.tup [.int ns[i],.int ((p.2+1:Nat):Int)])
          rw [Int.natCast_add];rfl
        · refine iteN (decide_eq_false (fun z=>hs (by injection z))) ?_
          refine ⟨_,rfl,.inl ⟨rfl,_,SqL.of e2⟩,_,rfl,two,fun t ht=>?_⟩
          have hqt:q≠t:=ne_of_none e2 ht
          obtain ⟨n1,n2⟩:=nw H2 t ht s2 e2 hv (by rw [rk,er,addR_new l p _ hs])
          exact ⟨q,_,_,rfl,rfl,by rw [upd_ne hqt];exact e2,small1000 (by lia),_,_,rfl,n1,upd_same,n2,gk⟩
    · rintro σ H2 ⟨o,us,rfl,s2,e2,hv,hg⟩
      rw [List.length_map,List.take_length] at hv hg
      exact ⟨_,rfl,k q us H2 hq0 s2 e2 hv hg⟩
end
end RR
namespace RR
open PySem L2 RP
abbrev tS (i:Int):Str:=Str.ofString (toString i)
def prt (p:Run):Str:=if 1<(p.2:Int) then Str.empty++tS p.1 ++ "x" ++ tS p.2 else tS p.1
def figS (ns:List Int):Str:=if ns=[] then "-" else Txt.join "" (ns.map tS)
def runS (ns:List Int):Str:="*" ++ Txt.join "." ((runsL ns).map prt)
def rowS (ns:List Int):Str:=if (runS ns).length<(figS ns).length then runS ns else figS ns
def rndS (r:Rnd):Str:=Str.empty++r.so ++ " " ++ tS r.x ++ " " ++ tS r.y ++ " " ++ rowS (rowI r.row)
def Stp (ns:List Int):Prop:=ns.length≤500∧∀ n∈ns,0≤n∧n<8
def NearI (x:Int):Prop:=-(10 ^ 31)<x∧x<10 ^ 31
def ROk (r:Rnd):Prop:=(r.so = "rim" ∨ r.so = "hole")∧NearI r.x∧NearI r.y∧Stp (rowI r.row)
theorem len_app (a b:Str):(a++b).length=a.length+b.length:=by
  obtain ⟨c⟩:=a
  obtain ⟨d⟩:=b
  exact Array.size_append
theorem len_tS {x:Int} (h:NearI x):(tS x).length≤32:=by
  obtain ⟨h1,h2⟩:=h
  by_cases hx:0≤x
  · exact Nat.le_trans (PyProof.Rows.toString_length_le hx (k:=31) (by decide) h2) (by decide)
  · have e:tS x=Str.ofString ("-" ++ toString (0 - x)):=by unfold tS;rw [PyProof.Rows.toString_neg (by lia)]
    have hl:=PyProof.Rows.toString_length_le (v:=0 - x) (by lia) (k:=31) (by decide) (by lia)
    rw [e,PyProof.Rows.ofString_length,String.toList_append,List.length_append]
    rw [PyProof.Rows.ofString_length] at hl
    have:("-" : String).toList.length=1:=by decide
    lia
theorem log_near {x:Int} (h:NearI x):x.natAbs.log2<1920:=by
  obtain ⟨h1,h2⟩:=h
  by_cases h0:x.natAbs=0
  · rw [h0];decide
  · refine (Nat.log2_lt h0).mpr (Nat.lt_of_lt_of_le (show x.natAbs<10 ^ 31 by lia) (by decide +kernel))
theorem near_small {x:Int} (h0:-1000000<x) (h1:x<1000000):NearI x:=by
  have e:((10:Int) ^ 31)=10000000000000000000000000000000:=rfl
  unfold NearI;rw [e];lia
theorem len_step {s:Int} (h0:0≤s) (h1:s<8):(tS s).length≤1:=PyProof.Rows.toString_length_le h0 (k:=1) (by decide) (by lia)
theorem len_mult {m:Nat} (h:m≤500):(tS (m:Int)).length≤3:=PyProof.Rows.toString_length_le (by lia) (k:=3) (by decide) (by lia)
theorem sum_le {ys:List Str} {B:Nat} (h:∀ y∈ys,y.length≤B):(ys.map Str.length).sum≤B*ys.length:=by
  induction ys with
  | nil=>simp
  | cons y r ih =>
    have:=ih fun z hz=>h z (List.mem_cons_of_mem _ hz)
    have:=h y List.mem_cons_self
    rw [List.map_cons,List.sum_cons,List.length_cons,Nat.mul_add]
    lia
theorem len_join (sep:Str) (ys:List Str):(Txt.join sep ys).length≤(ys.map Str.length).sum+ys.length*sep.length:=by
  show (Builtin.Str.glued sep ys).length≤_
  rw [size_glued]
  have:=Nat.mul_le_mul_right sep.length (show ys.length - 1≤ys.length by lia)
  have e:(ys.map fun x=>Str.length x)=ys.map Str.length:=rfl
  rw [e]
  lia
theorem run_le {rs:List Run} {p:Run} (h:p∈rs):p.2≤(flatR rs).length∧(1≤p.2→p.1∈flatR rs):=by
  induction rs with
  | nil=>cases h
  | cons q r ih =>
    have e:flatR (q::r)=List.replicate q.2 q.1++flatR r:=by unfold flatR;simp
    rw [e,List.length_append,List.length_replicate]
    rcases List.mem_cons.mp h with rfl | h
    · refine ⟨by lia,fun z=>List.mem_append_left _ (List.mem_replicate.mpr ⟨by lia,rfl⟩)⟩
    · obtain ⟨a,b⟩:=ih h
      exact ⟨by lia,fun z=>List.mem_append_right _ (b z)⟩
theorem runs_ok {ns:List Int} (h:Stp ns) (g:Good (runsL ns) ns) {p:Run} (hp:p∈runsL ns):1≤p.2∧p.2≤500∧0≤p.1∧p.1<8:=by
  obtain ⟨a,b⟩:=run_le hp
  rw [g.flat] at a b
  have c:=g.pos p hp
  have d:=h.2 _ (b c)
  have:=h.1
  exact ⟨c,by lia,d.1,d.2⟩
theorem len_prt {p:Run} (h:p.2≤500∧0≤p.1∧p.1<8):(prt p).length≤5:=by
  have a:=len_step h.2.1 h.2.2
  have b:=len_mult h.1
  have e:Str.empty.length=0:=rfl
  have x:("x" : Str).length=1:=by decide
  unfold prt
  split
  · rw [len_app,len_app,len_app,e,x];lia
  · lia
theorem len_one:("*" : Str).length=1:=by decide
theorem runs_good (ns:List Int):Good (runsL ns) ns:=by
  have:∀ (l:List Int) (rs:List Run) (ms:List Int),Good rs ms→Good (l.foldl addR rs) (ms++l):=by
    intro l
    induction l with
    | nil=>intro rs ms h;rw [List.append_nil];exact h
    | cons a r ih=>intro rs ms h;have:=ih _ _ (h.add a);rw [List.append_assoc] at this;exact this
  exact this ns [] [] Good.nil
theorem len_parts {ns:List Int} (h:Stp ns):(((runsL ns).map prt).map Str.length).sum≤2500∧((runsL ns).map prt).length≤500:=by
  have g:=runs_good ns
  have f:=g.few
  have l:=h.1
  have s:=sum_le (ys:=(runsL ns).map prt) (B:=5) fun y hy=>by
    obtain ⟨p,hp,rfl⟩:=List.mem_map.mp hy
    exact len_prt (runs_ok h g hp).2
  rw [List.length_map] at s ⊢
  lia
theorem len_runS {ns:List Int} (h:Stp ns):(runS ns).length≤3001:=by
  unfold runS
  obtain ⟨a,b⟩:=len_parts h
  have j:=len_join "." ((runsL ns).map prt)
  have d:("." : Str).length=1:=by decide
  rw [d] at j
  rw [len_app,len_one]
  lia
theorem len_figs {ns:List Int} (h:Stp ns):((ns.map tS).map Str.length).sum≤500∧(ns.map tS).length≤500:=by
  have s:=sum_le (ys:=ns.map tS) (B:=1) fun y hy=>by
    obtain ⟨n,hn,rfl⟩:=List.mem_map.mp hy
    exact len_step (h.2 n hn).1 (h.2 n hn).2
  have:=h.1
  rw [List.length_map] at s ⊢
  lia
theorem len_figS {ns:List Int} (h:Stp ns):(figS ns).length≤500:=by
  unfold figS
  split
  · decide
  · have j:=len_join "" (ns.map tS)
    have d:("" : Str).length=0:=by decide
    have:=(len_figs h).1
    rw [d] at j
    lia
theorem len_rowS {ns:List Int} (h:Stp ns):(rowS ns).length≤3001:=by
  have:=len_runS h
  have:=len_figS h
  unfold rowS
  split <;> lia
theorem len_so {r:Rnd} (h:ROk r):r.so.length≤4:=by
  rcases h.1 with e | e <;> rw [e] <;> decide
theorem len_rndS {r:Rnd} (h:ROk r):(rndS r).length≤3100:=by
  have a:=len_so h
  have b:=len_tS h.2.1
  have c:=len_tS h.2.2.1
  have d:=len_rowS h.2.2.2
  have e:Str.empty.length=0:=rfl
  have f:(" " : Str).length=1:=by decide
  unfold rndS
  simp only [len_app,e,f]
  lia
theorem big_ok {n:Nat} (h:n≤1000000):n≤sizeLine:=Nat.le_trans h (by decide)
section
variable {P:Program} {w:World} {K:PySem.W.Frag} {mg:Str→Option Value} {base:Heap}
def spFig (K:PySem.W.Frag) (f:List Int→Str):Sp:=fun vs H Q _=>∃ (a:Addr) (ns:List Int),vs=[.ref a]∧SqT K H a (ns.map V.int)∧Stp ns∧∀ H',Same H H'→Q (.str (f ns)) H'
theorem ok_by_figures (T:Txt P w K mg) (d:Df K mg "by_figures" s_by_figures ["row"]):FnOk P w K mg base CX0 1 d.f d.fd ["row"] (spFig K figS):=by
  refine d.F.ok sc_by_figures (fun vs H Q E h=>?_) (fun cdv A outer s H vs Q E hr h=>?_)
  · obtain ⟨a,ns,rfl,_⟩:=h
    rfl
  · obtain ⟨a,ns,rfl,hq,hok,k⟩:=h
    have nb0:(["step"]:List Str).Nodup:=by decide +kernel
    refine ⟨_,(pss_one (ps_ret (pe_ifExp (pt_truth (pv 0) (fun _=>rfl)) (pe_bm PySem.F.plainAttrs_str PySem.F.slot_str_join PySem.F.type_str_join mt_join pe_str (pa_cons (pe_compL (osc:=defScope s_by_figures) (N:=N_by_figures) (N':=["step"]) (sel:=[none]) bO (pi_tup (pv 0)) (fun _ _ _ _ _=>(nG 0 nb0)) (fun _ _ _ _ _=>pts_nil) (fun _ _ _ _ _=>(pe_callTy call_str_int (by rfl) T.nstr (by rfl) (pa_N (pv 0) pa_nil)))) pa_nil)) pe_str))),?_⟩
    have hl:=hok.1
    by_cases hn:ns=[]
    · subst hn
      refine ⟨_,rfl,false,.inr (.inl ⟨_,hq,rfl⟩),iteF ?_⟩
      exact k H (Same.refl _)
    · refine ⟨_,rfl,true,.inr (.inl ⟨_,hq,by cases ns with | nil=>exact absurd rfl hn | cons _ _=>rfl⟩),iteT ?_⟩
      refine ⟨rfl,_,rfl,a,rfl,⟨_,hq⟩,fun g hg=>?_⟩
      refine for_tup (K:=K) (a:=a) (xs:=ns.map V.int) (fun j σ H2=>∃ o0,σ=[o0]∧Same H H2∧H2 g=some (.lst (((ns.take j).map tS).map V.str)))
        ⟨_,rfl,Same.up hg,upd_same⟩ (fun j σ H2 _ ⟨_,_,s2,_⟩=>s2.seqT hq) ?_ ?_
      · rintro j x σ H2 hj ⟨o0,rfl,s2,e2⟩
        have hjl:j<ns.length:=by simpa using (List.getElem?_eq_some_iff.mp hj).1
        rw [List.getElem?_map] at hj
        obtain ⟨n,hn',rfl⟩:=Option.map_eq_some_iff.mp hj
        have hb:=hok.2 n (List.mem_of_getElem? hn')
        refine gN ?_
        refine ⟨_,rfl,n,rfl,log_near (near_small (by lia) (by lia)),_,e2,small1000 (by rw [List.length_map,List.length_map,List.length_take];lia),_,rfl,same_lst hg s2,?_⟩
        rw [upd_same,take_snoc hn',List.map_append,List.map_append];rfl
      · rintro σ H2 ⟨o0,rfl,s2,e2⟩
        rw [List.length_map,List.take_length] at e2
        refine ⟨_,g,ns.map tS,rfl,rfl,e2,?_,?_⟩
        · obtain ⟨a1,a2⟩:=len_figs hok
          have d0:("" : Str).length=0:=by decide
          show _+_*("" : Str).length≤_
          rw [d0];lia
        · have:=k H2 s2
          unfold figS at this
          rw [if_neg hn] at this
          exact this
theorem ok_by_runs (T:Txt P w K mg) (g_runs_of:Fn P w K mg base 1 "runs_of" ["row"] (spRuns K)) (d:Df K mg "by_runs" s_by_runs ["row"]):FnOk P w K mg base CX0 2 d.f d.fd ["row"] (spFig K runS):=by
  refine d.F.ok sc_by_runs (fun vs H Q E h=>?_) (fun cdv A outer s H vs Q E hr h=>?_)
  · obtain ⟨a,ns,rfl,_⟩:=h
    rfl
  · obtain ⟨a,ns,rfl,hq,hok,k⟩:=h
    have nb0:(["step","times"]:List Str).Nodup:=by decide +kernel
    refine ⟨_,(pss_one (ps_ret (pe_op op_scat pe_str (pe_bm PySem.F.plainAttrs_str PySem.F.slot_str_join PySem.F.type_str_join mt_join pe_str (pa_cons (pe_compL (osc:=defScope s_by_runs) (N:=N_by_runs) (N':=["step","times"]) (sel:=[none,none]) bO (pi_list (pC g_runs_of hr (pa_N (pv 0) pa_nil))) (fun _ _ _ _ _=>(pg_tupK (K:=K) (n:=2) (by rfl) (pgs_cons (nG 0 nb0) (pgs_cons (nG 1 nb0) pgs_nil)))) (fun _ _ _ _ _=>pts_nil) (fun _ _ _ _ _=>(pe_ifExp (pt_cmpR op_gt (pv 1) pe_int (nomark _)) (pe_fstr (pj_cons (pe_fmt (pv 0)) (pj_cons pe_str (pj_cons (pe_fmt (pv 1)) pj_nil)))) (pe_callTy call_str_int (by rfl) T.nstr (by rfl) (pa_N (pv 0) pa_nil))))) pa_nil))))),?_⟩
    have hl:=hok.1
    refine ⟨rfl,_,rfl,a,ns,rfl,hq,hl,fun q us H1 hq0 s1 e1 v1 g1=>?_⟩
    refine ⟨q,rfl,⟨_,SqL.of e1⟩,fun g hg=>?_⟩
    have hfew:=g1.few
    refine for_list (K:=K) (a:=q) (xs:=us) (fun j σ H2=>∃ o0 o1,σ=[o0,o1]∧Same H1 H2∧H2 g=some (.lst ((((runsL ns).take j).map prt).map V.str)))
      ⟨_,_,rfl,Same.up hg,upd_same⟩ (fun j σ H2 _ ⟨_,_,_,s2,_⟩=>SqL.of (s2 _ _ e1)) ?_ ?_
    · rintro j x σ H2 hj ⟨o0,o1,rfl,s2,e2⟩
      have hjl:j<us.length:=(List.getElem?_eq_some_iff.mp hj).1
      rw [v1.1] at hjl
      obtain ⟨p,hp,b,rfl,qb⟩:=v1.at hj
      obtain ⟨p1,p2,p3,p4⟩:=runs_ok hok g1 (List.mem_of_getElem? hp)
      have n1:NearI p.1:=near_small (by lia) (by lia)
      have n2:NearI (p.2:Int):=near_small (by lia) (by lia)
      have l1:(Str.ofString (toString p.1)).length≤1:=len_step p3 p4
      have l2:(Str.ofString (toString (p.2:Int))).length≤3:=len_mult p2
      have x1:("x" : Str).length=1:=by decide
      have x0:Str.empty.length=0:=rfl
      refine ⟨b,_,rfl,SqT.of (s2 _ _ qb),rfl,_,_,rfl,_,_,rfl,rfl,?_⟩
      refine tIfs_nil ?_
      have fin:∀ y:Str,y=prt p→∃ xs,H2 g=some (.lst xs)∧xs.length<sizeLine∧(∃ o0 o1,[some (V.int p.1),some (V.int (p.2:Int))]=[o0,o1]∧Same H1 (upd H2 g (.lst (xs++[V.str y])))∧upd H2 g (.lst (xs++[V.str y])) g=some (.lst ((((runsL ns).take (j+1)).map prt).map V.str))):=fun y hy=>by
        refine ⟨_,e2,small1000 (by rw [List.length_map,List.length_map,List.length_take];lia),_,_,rfl,same_lst hg s2,?_⟩
        rw [upd_same,take_snoc hp,List.map_append,List.map_append,hy];rfl
      refine ⟨_,rfl,_,_,rfl,rfl,_,rfl,?_⟩
      refine ite2 (fun hy=>?_) (fun hn=>?_)
      · have h1:=of_decide_eq_true hy
        refine ⟨_,rfl,.inl ⟨_,rfl,log_near n1,_,rfl,big_ok (by rw [len_app,x0];lia),_,rfl,big_ok (by rw [len_app,len_app,x0,x1];lia),_,rfl,.inl ⟨_,rfl,log_near n2,_,rfl,big_ok (by rw [len_app,len_app,len_app,x0,x1];lia),big_ok (by rw [len_app,len_app,len_app,x0,x1];lia),?_⟩⟩⟩
        exact fin _ (by unfold prt;rw [if_pos h1])
      · have h1:¬ (1:Int)<p.2:=by simpa using hn
        refine ⟨_,rfl,_,rfl,log_near n1,?_⟩
        exact fin _ (by unfold prt;rw [if_neg h1])
    · rintro σ H2 ⟨o0,o1,rfl,s2,e2⟩
      rw [v1.1,List.take_length] at e2
      obtain ⟨a1,a2⟩:=len_parts hok
      have d1:("." : Str).length=1:=by decide
      refine ⟨_,g,(runsL ns).map prt,rfl,rfl,e2,?_,_,_,rfl,rfl,?_,?_⟩
      · show _+_*("." : Str).length≤_
        rw [d1];lia
      · have:=len_runS hok
        unfold runS at this
        rw [len_app] at this
        exact big_ok (by lia)
      · exact k H2 (s1.trans s2)
theorem ok_show_row (T:Txt P w K mg) (g_by_runs:Fn P w K mg base 2 "by_runs" ["row"] (spFig K runS)) (g_by_figures:Fn P w K mg base 1 "by_figures" ["row"] (spFig K figS)) (d:Df K mg "show_row" s_show_row ["row"]):FnOk P w K mg base CX0 3 d.f d.fd ["row"] (spFig K rowS):=by
  refine d.F.ok sc_show_row (fun vs H Q E h=>?_) (fun cdv A outer s H vs Q E hr h=>?_)
  · obtain ⟨a,ns,rfl,_⟩:=h
    rfl
  · obtain ⟨a,ns,rfl,hq,hok,k⟩:=h
    refine ⟨_,(pss_cons (sE 1 sc_show_row.nd (pC g_by_runs hr (pa_N (pv 0) pa_nil)))
      (pss_cons (sE 2 sc_show_row.nd (pC g_by_figures hr (pa_N (pv 0) pa_nil)))
      (pss_one (ps_ret (pe_ifExp (pt_cmpR op_lt (pe_callB call_len_str (by rfl) T.nlen (by rfl) (pa_N (pv 1) pa_nil)) (pe_callB call_len_str (by rfl) T.nlen (by rfl) (pa_N (pv 2) pa_nil)) (nomark _)) (pv 1) (pv 2)))))),?_⟩
    have l1:=len_runS hok
    have l2:=len_figS hok
    refine ⟨_,rfl,a,ns,rfl,hq,hok,fun H1 s1=>?_⟩
    refine ⟨_,rfl,a,ns,rfl,s1.seqT hq,hok,fun H2 s2=>?_⟩
    refine ⟨_,rfl,_,rfl,big_ok (by lia),_,rfl,_,rfl,big_ok (by lia),_,_,rfl,rfl,_,rfl,?_⟩
    have kk:=k H2 (s1.trans s2)
    unfold rowS at kk
    refine ite2 (fun hy=>?_) (fun hn=>?_)
    · have h1:=of_decide_eq_true hy
      rw [if_pos (by lia)] at kk
      exact ⟨_,rfl,kk⟩
    · have h1:¬ ((runS ns).length:Int)<((figS ns).length:Int):=by simpa using hn
      rw [if_neg (by lia)] at kk
      exact ⟨_,rfl,kk⟩
def spSRnd:Sp:=fun vs H Q _=>∃ (v:V) (r:Rnd),vs=[v]∧rR r v H∧ROk r∧∀ H',Same H H'→Q (.str (rndS r)) H'
theorem ok_show_round (T:Txt P w K mg) (g_show_row:Fn P w K mg base 3 "show_row" ["row"] (spFig K rowS)) (d:Df K mg "show_round" s_show_round ["one"]):FnOk P w K mg base CX0 4 d.f d.fd ["one"] spSRnd:=by
  refine d.F.ok sc_show_round (fun vs H Q E h=>?_) (fun cdv A outer s H vs Q E hr h=>?_)
  · obtain ⟨v,r,rfl,_⟩:=h
    rfl
  · obtain ⟨v,r,rfl,hr',hok,k⟩:=h
    obtain ⟨a,b,rfl,ea,eb⟩:=hr'
    refine ⟨_,(pss_cons (ps_asg (pv 0) (pg_tup (by rfl) (pgs_cons (nG 1 sc_show_round.nd) (pgs_cons (nG 2 sc_show_round.nd) (pgs_cons (nG 3 sc_show_round.nd) (pgs_cons (nG 4 sc_show_round.nd) pgs_nil))))))
      (pss_one (ps_ret (pe_fstr (pj_cons (pe_fmt (pv 1)) (pj_cons pe_str (pj_cons (pe_fmt (pv 2)) (pj_cons pe_str (pj_cons (pe_fmt (pv 3)) (pj_cons pe_str (pj_cons (pe_fmt (pC g_show_row hr (pa_N (pv 4) pa_nil))) pj_nil))))))))))),?_⟩
    refine ⟨_,rfl,a,_,rfl,SqT.of ea,rfl,_,_,rfl,_,_,rfl,_,_,rfl,_,_,rfl,rfl,?_⟩
    have l0:=len_so hok
    have l1:(Str.ofString (toString r.x)).length≤32:=len_tS hok.2.1
    have l2:(Str.ofString (toString r.y)).length≤32:=len_tS hok.2.2.1
    have l3:=len_rowS hok.2.2.2
    have e0:Str.empty.length=0:=rfl
    have e1:(Str.ofString " ").length=1:=by decide
    rw [rowV_I] at eb
    refine ⟨_,rfl,.inr ⟨_,rfl,big_ok (by lia),_,rfl,big_ok (by simp only [len_app,e0];lia),_,rfl,big_ok (by simp only [len_app,e0,e1];lia),?_⟩⟩
    refine ⟨_,rfl,.inl ⟨_,rfl,log_near hok.2.1,_,rfl,big_ok (by simp only [len_app,e0,e1];lia),_,rfl,big_ok (by simp only [len_app,e0,e1];lia),?_⟩⟩
    refine ⟨_,rfl,.inl ⟨_,rfl,log_near hok.2.2.1,_,rfl,big_ok (by simp only [len_app,e0,e1];lia),_,rfl,big_ok (by simp only [len_app,e0,e1];lia),?_⟩⟩
    refine ⟨_,rfl,b,_,rfl,SqT.of eb,hok.2.2.2,fun H1 s1=>.inr ⟨_,rfl,big_ok (by lia),_,rfl,big_ok (by simp only [len_app,e0,e1];lia),big_ok (by simp only [len_app,e0,e1];lia),?_⟩⟩
    exact k H1 s1
def spSRnds (K:PySem.W.Frag):Sp:=fun vs H Q _=>∃ (a:Addr) (us:List V) (R:List Rnd),vs=[.ref a]∧H a=some (.lst us)∧VR us R rR H∧R.length≤130∧(∀ r∈R,ROk r)∧∀ H',Same H H'→Q (.str (Txt.join "\n" (R.map rndS))) H'
theorem len_rnds {R:List Rnd} (h:∀ r∈R,ROk r):((R.map rndS).map Str.length).sum≤3100*R.length:=by
  have:=sum_le (ys:=R.map rndS) (B:=3100) fun y hy=>by
    obtain ⟨r,hr,rfl⟩:=List.mem_map.mp hy
    exact len_rndS (h r hr)
  rw [List.length_map] at this
  exact this
theorem ok_show_rounds (T:Txt P w K mg) (g_show_round:Fn P w K mg base 4 "show_round" ["one"] spSRnd) (d:Df K mg "show_rounds" s_show_rounds ["some"]):FnOk P w K mg base CX0 5 d.f d.fd ["some"] (spSRnds K):=by
  refine d.F.ok sc_show_rounds (fun vs H Q E h=>?_) (fun cdv A outer s H vs Q E hr h=>?_)
  · obtain ⟨a,us,R,rfl,_⟩:=h
    rfl
  · obtain ⟨a,us,R,rfl,ea,hv,hl,hok,k⟩:=h
    have nb0:(["one"]:List Str).Nodup:=by decide +kernel
    refine ⟨_,(pss_one (ps_ret (pe_bm PySem.F.plainAttrs_str PySem.F.slot_str_join PySem.F.type_str_join mt_join pe_str (pa_cons (pe_compL (osc:=defScope s_show_rounds) (N:=N_show_rounds) (N':=["one"]) (sel:=[none]) bO (pi_list (pv 0)) (fun _ _ _ _ _=>(nG 0 nb0)) (fun _ _ _ _ _=>pts_nil) (fun _ _ _ _ _=>(pC g_show_round hr (pa_N (pv 0) pa_nil)))) pa_nil)))),?_⟩
    refine ⟨rfl,_,rfl,a,rfl,⟨_,SqL.of ea⟩,fun g hg=>?_⟩
    refine for_list (K:=K) (a:=a) (xs:=us) (fun j σ H2=>∃ o0,σ=[o0]∧Same H H2∧H2 g=some (.lst (((R.take j).map rndS).map V.str)))
      ⟨_,rfl,Same.up hg,upd_same⟩ (fun j σ H2 _ ⟨_,_,s2,_⟩=>SqL.of (s2 _ _ ea)) ?_ ?_
    · rintro j x σ H2 hj ⟨o0,rfl,s2,e2⟩
      have hjl:j<us.length:=(List.getElem?_eq_some_iff.mp hj).1
      rw [hv.1] at hjl
      obtain ⟨r,hr',qr⟩:=hv.at hj
      refine gN ?_
      refine ⟨_,rfl,x,r,rfl,rR.kt qr (KT.of s2),hok r (List.mem_of_getElem? hr'),fun H3 s3=>?_⟩
      refine ⟨_,s3 _ _ e2,small1000 (by rw [List.length_map,List.length_map,List.length_take];lia),_,rfl,same_lst hg (s2.trans s3),?_⟩
      rw [upd_same,take_snoc hr',List.map_append,List.map_append];rfl
    · rintro σ H2 ⟨o0,rfl,s2,e2⟩
      rw [hv.1,List.take_length] at e2
      refine ⟨_,g,R.map rndS,rfl,rfl,e2,?_,?_⟩
      · have:=len_rnds hok
        have d1:(Str.ofString "\n").length=1:=by decide
        rw [d1,List.length_map];lia
      · exact k H2 s2
end
end RR
namespace RR
open PySem L2 RP
theorem fig8 {n:Int} (h0:0≤n) (h1:n<8):∃ c,atI (Str.ofString "01234567").cps.toList n=some c∧(⟨#[c]⟩:Str)=tS n:=by
  have:n=0∨n=1∨n=2∨n=3∨n=4∨n=5∨n=6∨n=7:=by lia
  rcases this with rfl | rfl | rfl | rfl | rfl | rfl | rfl | rfl
  all_goals exact ⟨_,rfl,by decide⟩
theorem fig_len:(Str.ofString "01234567").length≤sizeLine:=by decide
def figL (ns:List Int):Str:=Txt.join "" (ns.map tS)
theorem run_at {rs : List Run} {ns : List Int} (g : Good rs ns) {k : Nat} {p : Run} (hk : rs[k]? = some p) : (∀ t, t < p.2 → ns[(flatR (rs.take k)).length + t]? = some p.1) ∧ (flatR (rs.take (k + 1))).length = (flatR (rs.take k)).length + p.2 ∧
    (∀ q,ns[(flatR (rs.take k)).length+p.2]?=some q→q≠p.1):=by
  have hkl:k<rs.length:=(List.getElem?_eq_some_iff.mp hk).1
  have e1:=flat_take_succ hk
  have e2:ns=flatR (rs.take (k+1))++flatR (rs.drop (k+1)):=by
    rw [← g.flat];unfold flatR;rw [← List.flatMap_append,List.take_append_drop]
  have e3:(flatR (rs.take (k+1))).length=(flatR (rs.take k)).length+p.2:=by rw [e1,List.length_append,List.length_replicate]
  refine ⟨fun t ht=>?_,e3,fun q hq=>?_⟩
  · rw [e2,List.getElem?_append_left (by lia),e1,List.getElem?_append_right (by lia),List.getElem?_replicate,if_pos (by lia)]
  · rw [e2,List.getElem?_append_right (by lia),e3,Nat.sub_self] at hq
    cases hd:rs.drop (k+1) with
    | nil=>rw [hd] at hq;cases hq
    | cons y l =>
      have hy:rs[k+1]?=some y:=by
        have:=congrArg (fun z=>z[0]?) hd
        simpa using this
      have hpos:=g.pos y (List.mem_of_getElem? hy)
      have e4:flatR (y::l)=List.replicate y.2 y.1++flatR l:=by unfold flatR;simp
      rw [hd,e4,List.getElem?_append_left (by rw [List.length_replicate];lia),List.getElem?_replicate,if_pos (by lia)] at hq
      cases hq
      exact fun z=>g.alt k p y hk hy z.symm
theorem run_end {rs:List Run} {ns:List Int} (g:Good rs ns):(flatR (rs.take rs.length)).length=ns.length:=by rw [List.take_length,g.flat]
theorem prt_of {p:Run}:tS p.1++(if 1<(p.2:Int) then Str.ofString "x" ++ tS (p.2:Int) else Str.ofString "")=prt p:=by
  unfold prt
  have e0:∀ a:Str,Str.empty++a=a:=fun a=>by obtain ⟨c⟩:=a;show (⟨#[]++c⟩:Str)=⟨c⟩;rw [Array.empty_append]
  split
  · rw [e0,Str.append_assoc]
  · obtain ⟨c⟩:=tS p.1
    show (⟨c++#[]⟩:Str)=⟨c⟩
    rw [Array.append_empty]
def wrdS (ns:List Int):Str:=if (runS ns).length<(figL ns).length then runS ns else figL ns
theorem row_of (ns:List Int):(if ns=[] then Str.ofString "-" else wrdS ns)=rowS ns:=by
  unfold rowS wrdS
  by_cases h:ns=[]
  · subst h
    have e1:(runS []).length=1:=by decide
    have e2:(figS []).length=1:=by decide
    rw [if_pos rfl,if_neg (by rw [e1,e2];lia)];rfl
  · have e:figS ns=figL ns:=by unfold figS figL;rw [if_neg h]
    rw [if_neg h,e]
theorem empty_app (a:Str):Str.empty++a=a:=by obtain ⟨c⟩:=a;show (⟨#[]++c⟩:Str)=⟨c⟩;rw [Array.empty_append]
theorem ints_rd {K:PySem.W.Frag} {H:Hp}:∀ ns:List Int,RDs K H (ns.map V.int) (ns.map PyData.int)
  | []=>.nil
  | n::r=>.cons (.int n) (ints_rd r)
section
variable {P:Program} {w:World} {K:PySem.W.Frag} {mg:Str→Option Value} {base:Heap}
theorem ok_law_written (T:Txt P w K mg) (d:Df K mg "_law_written" s__law_written ["_law_one"]):FnOk P w K mg base CX0 1 d.f d.fd ["_law_one"] spSRnd:=by
  refine d.F.ok sc__law_written (fun vs H Q E h=>?_) (fun cdv A outer s H vs Q E hr h=>?_)
  · obtain ⟨v,r,rfl,_⟩:=h
    rfl
  · obtain ⟨v,r,rfl,hr',hok,k⟩:=h
    obtain ⟨a,b,rfl,ea,eb⟩:=hr'
    have hu64:=hr.units
    have nb0:(["_law_step"]:List Str).Nodup:=by decide +kernel
    refine ⟨_,(pss_cons (ps_asg (pv 0) (pg_tup (by rfl) (pgs_cons (nG 1 sc__law_written.nd) (pgs_cons (nG 2 sc__law_written.nd) (pgs_cons (nG 3 sc__law_written.nd) (pgs_cons (nG 4 sc__law_written.nd) pgs_nil))))))
      (pss_cons (sE 5 sc__law_written.nd (pe_bm PySem.F.plainAttrs_str PySem.F.slot_str_join PySem.F.type_str_join mt_join pe_str (pa_cons (pe_compL (osc:=defScope s__law_written) (N:=N__law_written) (N':=["_law_step"]) (sel:=[none]) bO (pi_tup (pv 4)) (fun _ _ _ _ _=>(nG 0 nb0)) (fun _ _ _ _ _=>pts_nil) (fun _ _ _ _ _=>(pe_ix ix_str pe_str (pv 0) (fun _ _=>rfl)))) pa_nil)))
      (pss_cons (sE 6 sc__law_written.nd (pe_lst pa_nil))
      (pss_cons (sE 7 sc__law_written.nd pe_int)
      (pss_cons (ps_while PassesOwn.never (pt_cmpR op_lt (pv 7) (pe_callB call_len_seq (by rfl) T.nlen (by rfl) (pa_N (pv 4) pa_nil)) (nomark _))
      (pss_cons (sE 8 sc__law_written.nd pe_int)
      (pss_cons (ps_while PassesOwn.never (pw_and (pt_cmpR op_lt (pe_op op_add (pv 7) (pv 8)) (pe_callB call_len_seq (by rfl) T.nlen (by rfl) (pa_N (pv 4) pa_nil)) (nomark _)) (pw_and1 (pt_cmpR op_eq (pe_ix ix_tup (pv 4) (pe_op op_add (pv 7) (pv 8)) (fun _ _=>rfl)) (pe_ix ix_tup (pv 4) (pv 7) (fun _ _=>rfl)) (nomark _)))).pt
      (pss_one (sE 8 sc__law_written.nd (pe_op op_add (pv 8) pe_int))))
      (pss_cons (ps_expr (pe_bm PySem.F.plainAttrs_list PySem.F.slot_list_append PySem.F.type_list_append mt_append (pv 6) (pa_B (pe_op op_scat (pe_ix ix_str pe_str (pe_ix ix_tup (pv 4) (pv 7) (fun _ _=>rfl)) (fun _ _=>rfl)) (pe_ix ix_list (pe_lst (pa_C pe_str (pa_B (pe_op op_scat pe_str (pe_callTy call_str_int (by rfl) T.nstr (by rfl) (pa_N (pv 8) pa_nil))) pa_nil))) (pe_callTy call_int1 (by rfl) T.nint (by rfl) (pa_cons (pe_cmpR op_gt (pv 8) pe_int (nomark _)) pa_nil)) (fun _ _=>rfl))) pa_nil)))
      (pss_one (sE 7 sc__law_written.nd (pe_op op_add (pv 7) (pv 8))))))))
      (pss_cons (sE 9 sc__law_written.nd (pe_op op_scat pe_str (pe_bm PySem.F.plainAttrs_str PySem.F.slot_str_join PySem.F.type_str_join mt_join pe_str (pa_N (pv 6) pa_nil))))
      (pss_cons (sE 10 sc__law_written.nd (pe_ix ix_list (pe_lst (pa_N (pv 5) (pa_N (pv 9) pa_nil))) (pe_callTy call_int1 (by rfl) T.nint (by rfl) (pa_cons (pe_cmpR op_lt (pe_callB call_len_str (by rfl) T.nlen (by rfl) (pa_N (pv 9) pa_nil)) (pe_callB call_len_str (by rfl) T.nlen (by rfl) (pa_N (pv 5) pa_nil)) (nomark _)) pa_nil)) (fun _ _=>rfl)))
      (pss_one (ps_ret (pe_op op_scat (pe_op op_scat (pe_op op_scat (pe_op op_scat (pe_op op_scat (pe_op op_scat (pv 1) pe_str) (pe_callTy call_str_int (by rfl) T.nstr (by rfl) (pa_N (pv 2) pa_nil))) pe_str) (pe_callTy call_str_int (by rfl) T.nstr (by rfl) (pa_N (pv 3) pa_nil))) pe_str) (pe_ix ix_list (pe_lst (pa_N (pv 10) (pa_C pe_str pa_nil))) (pe_callTy call_int1 (by rfl) T.nint (by rfl) (pa_cons (pe_cmpR (op_eqD hu64) (pv 4) (pe_tup pa_nil) (nomark _)) pa_nil)) (fun _ _=>rfl)))))))))))),?_⟩
    refine ⟨_,rfl,a,_,rfl,SqT.of ea,rfl,_,_,rfl,_,_,rfl,_,_,rfl,_,_,rfl,rfl,?_⟩
    have hσ:L2.start N__law_written [V.ref a]=[some (.ref a),none,none,none,none,none,none,none,none,none,none]:=rfl
    rw [hσ]
    simp only [gName_eq,List.set_cons_succ,List.set_cons_zero]
    have hst:=hok.2.2.2
    have hl:=hst.1
    rw [rowV_I] at eb
    generalize hns:rowI r.row=ns at hst hl eb
    have lf:(figL ns).length≤500:=by
      have j:=len_join "" (ns.map tS)
      have d0:("" : Str).length=0:=by decide
      have:=(len_figs hst).1
      rw [d0] at j
      show (Txt.join "" (ns.map tS)).length≤500
      lia
    refine ⟨rfl,_,rfl,b,rfl,⟨_,SqT.of eb⟩,fun g hg=>?_⟩
    refine for_tup (K:=K) (a:=b) (xs:=ns.map V.int) (fun j σ H2=>∃ o0,σ=[o0]∧Same H H2∧H2 g=some (.lst (((ns.take j).map tS).map V.str)))
      ⟨_,rfl,Same.up hg,upd_same⟩ (fun j σ H2 _ ⟨_,_,s2,_⟩=>SqT.of (s2 _ _ eb)) ?_ ?_
    · rintro j x σ H2 hj ⟨o0,rfl,s2,e2⟩
      have hjl:j<ns.length:=by simpa using (List.getElem?_eq_some_iff.mp hj).1
      rw [List.getElem?_map] at hj
      obtain ⟨n,hn',rfl⟩:=Option.map_eq_some_iff.mp hj
      have hb:=hst.2 n (List.mem_of_getElem? hn')
      obtain ⟨c,hc,hc'⟩:=fig8 hb.1 hb.2
      refine gN ?_
      refine ⟨_,rfl,_,n,c,rfl,rfl,fig_len,hc,_,e2,small1000 (by rw [List.length_map,List.length_map,List.length_take];lia),_,rfl,same_lst hg s2,?_⟩
      rw [upd_same,take_snoc hn',List.map_append,List.map_append,hc'];rfl
    · rintro σ H2 ⟨o0,rfl,s2,e2⟩
      rw [List.length_map,List.take_length] at e2
      refine ⟨_,g,ns.map tS,rfl,rfl,e2,?_,?_⟩
      · obtain ⟨a1,a2⟩:=len_figs hst
        have d0:(Str.ofString "").length=0:=by decide
        rw [d0];lia
      clear e2
      simp only [gName_eq,List.set_cons_succ,List.set_cons_zero]
      refine ⟨Nat.zero_le _,fun pt hpt=>?_⟩
      have hpt0:H pt=none:=s2.free hpt
      have s3:=s2.trans (Same.up (o:=.lst []) hpt)
      have e3:upd H2 pt (.lst []) pt=some (.lst []):=upd_same
      generalize upd H2 pt (.lst [])=H3 at s3 e3
      simp only [gName_eq,List.set_cons_succ,List.set_cons_zero]
      have g1:=runs_good ns
      have hfew:=g1.few
      have ebt:∀ {H':Hp},Same H H'→SqT K H' b (ns.map V.int):=fun s'=>SqT.of (s' _ _ eb)
      have at_ns:∀ {i:Nat} {n:Int},ns[i]?=some n→atI (ns.map V.int) (i:Int)=some (.int n):=fun {i n} h=>atI_nat (by rw [List.getElem?_map,h];rfl)
      refine ⟨fun m σ H4=>∃ j o8 o9 o10,m=(runsL ns).length - j∧j≤(runsL ns).length∧σ=[some (V.ref a),some (V.str r.so),some (V.int r.x),some (V.int r.y),some (V.ref b),some (V.str (figL ns)),some (V.ref pt),some (V.int (((flatR ((runsL ns).take j)).length:Nat):Int)),o8,o9,o10]∧Same H H4∧H4 pt=some (.lst ((((runsL ns).take j).map prt).map V.str)),
        ⟨_,0,_,_,_,rfl,Nat.zero_le _,rfl,s3,e3⟩,?_⟩
      rintro m σ H4 ⟨j,o8,o9,o10,rfl,hj,rfl,s4,e4⟩
      refine ⟨_,rfl,_,rfl,b,_,rfl,.inr (ebt s4),_,_,rfl,rfl,_,rfl,?_⟩
      rw [List.length_map]
      by_cases hjl:j=(runsL ns).length
      · refine iteN (decide_eq_false ?_) ?_
        · rw [hjl,run_end g1];lia
        subst hjl
        rw [List.take_length] at e4
        obtain ⟨a1,a2⟩:=len_parts hst
        have lr:=len_runS hst
        have d1:(Str.ofString ".").length=1:=by decide
        have d2:(Str.ofString "*").length=1:=by decide
        have d3:(Str.ofString " ").length=1:=by decide
        have hrun:Str.ofString "*" ++ Txt.join (Str.ofString ".") ((runsL ns).map prt)=runS ns:=rfl
        refine ⟨rfl,_,rfl,_,pt,(runsL ns).map prt,rfl,rfl,e4,(by rw [d1];lia),_,_,rfl,rfl,?_,?_⟩
        · have:(runS ns).length=(Str.ofString "*").length+(Txt.join (Str.ofString ".") ((runsL ns).map prt)).length:=by rw [← hrun,len_app]
          exact big_ok (by lia)
        rw [hrun]
        simp only [gName_eq,List.set_cons_succ,List.set_cons_zero]
        refine ⟨_,rfl,_,rfl,two,fun l5 hl5=>?_⟩
        refine ⟨_,rfl,_,rfl,big_ok (by lia),_,rfl,_,rfl,big_ok (by lia),_,_,rfl,rfl,.inr ⟨_,rfl,?_⟩⟩
        have hw:atI [V.str (figL ns),V.str (runS ns)] (if decide (((runS ns).length:Int)<((figL ns).length:Int))=true then 1 else 0)=some (.str (wrdS ns)):=by
          unfold wrdS
          by_cases z:(runS ns).length<(figL ns).length
          · rw [if_pos z,if_pos (decide_eq_true (by lia))];rfl
          · rw [if_neg z,if_neg (by rw [decide_eq_true_iff];lia)];rfl
        refine ⟨l5,_,_,_,rfl,rfl,SqL.of upd_same,hw,?_⟩
        have lw:(wrdS ns).length≤3001:=by unfold wrdS;split <;> lia
        have s5:=s4.trans (Same.up (o:=.lst [V.str (figL ns),V.str (runS ns)]) hl5)
        generalize upd H4 l5 (.lst [V.str (figL ns),V.str (runS ns)])=H5 at s5
        simp only [gName_eq,List.set_cons_succ,List.set_cons_zero]
        have l0:=len_so hok
        have l1:(Str.ofString (toString r.x)).length≤32:=len_tS hok.2.1
        have l2:(Str.ofString (toString r.y)).length≤32:=len_tS hok.2.2.1
        refine ⟨_,rfl,_,_,rfl,rfl,big_ok (by lia),_,rfl,_,rfl,log_near hok.2.1,_,_,rfl,rfl,big_ok (by simp only [len_app,d3];lia),_,_,rfl,rfl,big_ok (by simp only [len_app,d3];lia),?_⟩
        refine ⟨_,rfl,_,rfl,log_near hok.2.2.1,_,_,rfl,rfl,big_ok (by simp only [len_app,d3];lia),_,_,rfl,rfl,big_ok (by simp only [len_app,d3];lia),?_⟩
        refine ⟨_,rfl,two,fun l6 hl6=>?_⟩
        refine ⟨_,rfl,Nat.zero_le _,fun t6 ht6=>?_⟩
        have s7:=(Same.up (o:=.lst [V.str (wrdS ns),V.str (Str.ofString "-")]) hl6).trans (Same.up (o:=.tup []) ht6)
        have e7:upd (upd H5 l6 (.lst [V.str (wrdS ns),V.str (Str.ofString "-")])) t6 (.tup []) l6=some (.lst [V.str (wrdS ns),V.str (Str.ofString "-")]):=Same.up ht6 _ _ upd_same
        have f7:upd (upd H5 l6 (.lst [V.str (wrdS ns),V.str (Str.ofString "-")])) t6 (.tup []) t6=some (.tup []):=upd_same
        generalize upd (upd H5 l6 (.lst [V.str (wrdS ns),V.str (Str.ofString "-")])) t6 (.tup [])=H7 at s7 e7 f7
        refine ⟨tI ns,tI [],.tup (ebt (s5.trans s7)) (ints_rd ns),.tup (SqT.of f7) .nil,shaped_tI _,shaped_tI _,.inr ⟨_,rfl,?_⟩⟩
        have hz:atI [V.str (wrdS ns),V.str (Str.ofString "-")] (if PyData.eqv (tI ns) (tI [])=true then 1 else 0)=some (.str (rowS ns)):=by
          rw [eqv_tI,← row_of]
          by_cases z:ns=[]
          · rw [if_pos z,if_pos (decide_eq_true z)];rfl
          · rw [if_neg z,if_neg (by rw [decide_eq_true_iff];exact z)];rfl
        have lr2:=len_rowS hst
        refine ⟨l6,_,_,_,rfl,rfl,SqL.of e7,hz,_,_,rfl,rfl,big_ok (by simp only [len_app,d3];lia),?_⟩
        have kk:=k H7 (s5.trans s7)
        unfold rndS at kk
        rw [empty_app,hns] at kk
        exact kk
      · have hj':j<(runsL ns).length:=by lia
        obtain ⟨p,hp⟩:∃ p,(runsL ns)[j]?=some p:=⟨_,List.getElem?_eq_getElem hj'⟩
        obtain ⟨r1,r2,r3⟩:=run_at g1 hp
        obtain ⟨p1,p2,p3,p4⟩:=runs_ok hst g1 (List.mem_of_getElem? hp)
        generalize hat:(flatR ((runsL ns).take j)).length=at' at r1 r2 r3
        have h0:=r1 0 (by lia)
        have hlt:at'<ns.length:=by simpa using (List.getElem?_eq_some_iff.mp h0).1
        refine iteY (decide_eq_true (by lia)) ?_
        refine ⟨fun σ' H'=>∃ o8 o9 o10,σ'=[some (V.ref a),some (V.str r.so),some (V.int r.x),some (V.int r.y),some (V.ref b),some (V.str (figL ns)),some (V.ref pt),some (V.int (((flatR ((runsL ns).take (j+1))).length:Nat):Int)),o8,o9,o10]∧Same H H'∧H' pt=some (.lst ((((runsL ns).take (j+1)).map prt).map V.str)),
          fun σ' H' ⟨o8,o9,o10,h1,h2,h3⟩=>⟨(runsL ns).length - (j+1),by lia,j+1,o8,o9,o10,rfl,by lia,h1,h2,h3⟩,?_⟩
        simp only [gName_eq,List.set_cons_succ,List.set_cons_zero]
        refine ⟨fun m σ H5=>∃ t:Nat,m=p.2 - t∧1≤t∧t≤p.2∧H4=H5∧σ=[some (V.ref a),some (V.str r.so),some (V.int r.x),some (V.int r.y),some (V.ref b),some (V.str (figL ns)),some (V.ref pt),some (V.int (at':Int)),some (V.int (t:Int)),o9,o10],
          ⟨_,1,rfl,Nat.le_refl _,p1,rfl,rfl⟩,?_⟩
        rintro m σ H5 ⟨t,rfl,t1,t2,rfl,rfl⟩
        refine ⟨_,rfl,_,rfl,_,_,rfl,rfl,_,rfl,b,_,rfl,.inr (ebt s4),_,_,rfl,rfl,_,rfl,?_⟩
        rw [List.length_map]
        have h0':atI (ns.map V.int) (at':Int)=some (.int p.1):=at_ns h0
        by_cases ht:t<p.2
        · have h1:=r1 t ht
          have hlt1:at'+t<ns.length:=by simpa using (List.getElem?_eq_some_iff.mp h1).1
          refine iteY (decide_eq_true (by lia)) ?_
          refine ⟨_,rfl,_,rfl,_,rfl,_,_,rfl,rfl,b,_,_,_,rfl,rfl,ebt s4,(by rw [show ((at':Int)+(t:Int))=((at'+t:Nat):Int) by lia];exact at_ns h1),_,rfl,_,rfl,b,_,_,_,rfl,rfl,ebt s4,h0',rfl,_,rfl,?_⟩
          refine iteY (decide_eq_true rfl) ?_
          refine ⟨fun σ' H'=>H4=H'∧σ'=[some (V.ref a),some (V.str r.so),some (V.int r.x),some (V.int r.y),some (V.ref b),some (V.str (figL ns)),some (V.ref pt),some (V.int (at':Int)),some (V.int ((t+1:Nat):Int)),o9,o10],
            fun σ' H' ⟨z1,z2⟩=>⟨p.2 - (t+1),by lia,t+1,rfl,by lia,by lia,z1,z2⟩,?_⟩
          exact ⟨_,rfl,_,_,rfl,rfl,rfl,rfl⟩
        · have et:t=p.2:=by lia
          subst et
          obtain ⟨cc,hcc,hcc'⟩:=fig8 p3 p4
          have n2:NearI (p.2:Int):=near_small (by lia) (by lia)
          have lx:(Str.ofString "x").length=1:=by decide
          have l3:(Str.ofString (toString (p.2:Int))).length≤3:=len_mult p2
          have lp1:(tS p.1).length≤1:=len_step p3 p4
          have lp2:(if 1<(p.2:Int) then Str.ofString "x" ++ tS (p.2:Int) else Str.ofString "").length≤4:=by
            split
            · rw [len_app,lx];show 1+(Str.ofString (toString (p.2:Int))).length≤4;lia
            · decide
          have hx:atI [V.str (Str.ofString ""),V.str (Str.ofString "x" ++ Str.ofString (toString (p.2:Int)))] (if decide (1<(p.2:Int))=true then 1 else 0)=some (.str (if 1<(p.2:Int) then Str.ofString "x" ++ tS (p.2:Int) else Str.ofString "")):=by
            by_cases z:1<(p.2:Int)
            · rw [if_pos z,if_pos (decide_eq_true z)];rfl
            · rw [if_neg z,if_neg (by rw [decide_eq_true_iff];exact z)];rfl
          by_cases hz:at'+p.2<ns.length
          · obtain ⟨q,hq⟩:∃ q,ns[at'+p.2]?=some q:=⟨_,List.getElem?_eq_getElem hz⟩
            refine iteY (decide_eq_true (by lia)) ?_
            refine ⟨_,rfl,_,rfl,_,rfl,_,_,rfl,rfl,b,_,_,_,rfl,rfl,ebt s4,(by rw [show ((at':Int)+(p.2:Int))=((at'+p.2:Nat):Int) by lia];exact at_ns hq),_,rfl,_,rfl,b,_,_,_,rfl,rfl,ebt s4,h0',rfl,_,rfl,?_⟩
            refine iteN (decide_eq_false (fun z=>r3 q hq (by injection z))) ?_
            refine ⟨_,rfl,.inl ⟨rfl,_,SqL.of e4⟩,?_⟩
            refine ⟨_,rfl,_,rfl,b,_,_,_,rfl,rfl,ebt s4,h0',_,p.1,cc,rfl,rfl,fig_len,hcc,?_⟩
            refine ⟨_,rfl,(p.2:Int),rfl,log_near n2,_,_,rfl,rfl,big_ok (by lia),two,fun l7 hl7=>?_⟩
            have hlp:pt≠l7:=ne_of_none e4 hl7
            refine ⟨_,rfl,_,_,rfl,rfl,.inr ⟨_,rfl,?_⟩⟩
            refine ⟨l7,_,_,_,rfl,rfl,SqL.of upd_same,hx,_,_,rfl,rfl,big_ok (by rw [hcc'];exact Nat.le_trans (Nat.add_le_add lp1 lp2) (by lia)),?_⟩
            rw [hcc',prt_of]
            refine ⟨pt,_,_,rfl,rfl,(by rw [upd_ne hlp];exact e4),small1000 (by rw [List.length_map,List.length_map,List.length_take];lia),?_⟩
            refine ⟨_,rfl,_,rfl,_,_,rfl,rfl,?_⟩
            refine ⟨_,_,_,(by rw [r2,Int.natCast_add];rfl),same_lst hpt0 (s4.trans (Same.up hl7)),?_⟩
            rw [upd_same,take_snoc hp,List.map_append,List.map_append];rfl
          · refine iteN (decide_eq_false (by lia)) ?_
            refine ⟨_,rfl,.inl ⟨rfl,_,SqL.of e4⟩,?_⟩
            refine ⟨_,rfl,_,rfl,b,_,_,_,rfl,rfl,ebt s4,h0',_,p.1,cc,rfl,rfl,fig_len,hcc,?_⟩
            refine ⟨_,rfl,(p.2:Int),rfl,log_near n2,_,_,rfl,rfl,big_ok (by lia),two,fun l7 hl7=>?_⟩
            have hlp:pt≠l7:=ne_of_none e4 hl7
            refine ⟨_,rfl,_,_,rfl,rfl,.inr ⟨_,rfl,?_⟩⟩
            refine ⟨l7,_,_,_,rfl,rfl,SqL.of upd_same,hx,_,_,rfl,rfl,big_ok (by rw [hcc'];exact Nat.le_trans (Nat.add_le_add lp1 lp2) (by lia)),?_⟩
            rw [hcc',prt_of]
            refine ⟨pt,_,_,rfl,rfl,(by rw [upd_ne hlp];exact e4),small1000 (by rw [List.length_map,List.length_map,List.length_take];lia),?_⟩
            refine ⟨_,rfl,_,rfl,_,_,rfl,rfl,?_⟩
            refine ⟨_,_,_,(by rw [r2,Int.natCast_add];rfl),same_lst hpt0 (s4.trans (Same.up hl7)),?_⟩
            rw [upd_same,take_snoc hp,List.map_append,List.map_append];rfl
end
end RR
namespace RR
open PySem L2 RP
def Gives (t:TE) (σ:St) (H:Hp) (xs:List V):Prop:=∀ H1 (Q:VK),Same H H1→(∀ q H',Same H1 H'→H' q=some (.tup xs)→Q (.ref q) H')→t σ H1 Q
theorem rep_gives {K:PySem.W.Frag} {σ:St} {H:Hp} {n:Int} {k:Nat} (hv:σ[6]?=some (some (.int (k:Int)))) (h1:1≤k) (h2:k≤1000):Gives (tOp (rRepT K) (tTup (tCons (tC (.int n)) tNil)) (tVar 6)) σ H (List.replicate k (V.int n)):=by
  intro H1 Q s1 kk
  refine ⟨(by show 1≤sizeLine;decide),fun t ht=>⟨_,hv,t,k,.int n,rfl,rfl,SqT.of upd_same,h1,h2,fun e=>kk t _ (Same.up ht) (by rw [upd_same,e];rfl),fun _ p hp=>kk p _ ((Same.up ht).trans (Same.up hp)) upd_same⟩⟩
theorem cat_gives {K:PySem.W.Frag} {σ:St} {H:Hp} {t1 t2:TE} {xs ys:List V} (r1:Gives t1 σ H xs) (r2:Gives t2 σ H ys) (hx:xs≠[]) (hy:ys≠[]) (hl:xs.length+ys.length≤sizeLine):Gives (tOp (rCatT K) t1 t2) σ H (xs++ys):=by
  intro H1 Q s1 kk
  refine r1 H1 _ s1 fun q H2 s2 e2=>?_
  refine r2 H2 _ (s1.trans s2) fun p H3 s3 e3=>?_
  exact ⟨q,p,xs,ys,rfl,rfl,SqT.of (s3 _ _ e2),SqT.of e3,hx,hl,fun z=>absurd z hy,fun _ l hl'=>kk l _ (s2.trans (s3.trans (Same.up hl'))) upd_same⟩
theorem nil_gives {σ:St} {H:Hp}:Gives (tTup tNil) σ H []:=fun H1 Q s1 kk=>⟨Nat.zero_le _,fun p hp=>kk p _ (Same.up hp) upd_same⟩
theorem seq_list3 {K : PySem.W.Frag} {σ : St} {H : Hp} {A B C : TE} {xs ys zs : List V} (gA : Gives A σ H xs) (gB : Gives B σ H ys) (gC : Gives C σ H zs) {idx : TE} {gg : TG} {u : TS} {D : Ends}
    (k:∀ l qa qb qc H',Same H H'→H' l=some (.lst [.ref qa,.ref qb,.ref qc])→H' qa=some (.tup xs)→H' qb=some (.tup ys)→H' qc=some (.tup zs)→idx σ H' fun y H2=>rIxL K (.ref l) y H2 fun z H3=>gg z σ H3 (u D)) :
    tSeq (tAsg (tOp (rIxL K) (tLst (tCons A (tCons B (tCons C tNil)))) idx) gg) u D σ H:=by
  refine gA H _ (Same.refl _) fun qa H1 s1 e1=>?_
  refine gB H1 _ s1 fun qb H2 s2 e2=>?_
  refine gC H2 _ (s1.trans s2) fun qc H3 s3 e3=>?_
  refine ⟨(by show 3≤sizeLine;decide),fun l hl=>?_⟩
  exact k l qa qb qc _ (s1.trans (s2.trans (s3.trans (Same.up hl)))) upd_same ((s2.trans (s3.trans (Same.up hl))) _ _ e1) ((s3.trans (Same.up hl)) _ _ e2) (Same.up hl _ _ e3)
theorem repl_row (k:Nat) (n:Nat):List.replicate k (V.int (n:Int))=rowV (List.replicate k n):=by unfold rowV;rw [List.map_replicate]
theorem rowV_app (a b:List Nat):rowV (a++b)=rowV a++rowV b:=by unfold rowV;rw [List.map_append]
theorem stp_of {row:List Nat} (h1:row.length≤500) (h2:∀ n∈row,n<8):Stp (rowI row):=by
  refine ⟨by unfold rowI;rw [List.length_map];exact h1,fun n hn=>?_⟩
  obtain ⟨m,hm,rfl⟩:=List.mem_map.mp hn
  have:=h2 m hm
  lia
section
variable {P:Program} {w:World} {K:PySem.W.Frag} {mg:Str→Option Value} {base:Heap}
def spLines (K:PySem.W.Frag):Sp:=fun vs H Q _=>∃ (a:Addr) (ns:List Int) (st:Nat),vs=[.ref a,.int st]∧SqL K H a (ns.map V.int)∧st≤100∧∀ p H' us R,H p=none→Same H H'→H' p=some (.lst us)→VR us R rR H'→R.length≤3→(∀ r∈R,ROk r)→Q (.ref p) H'
theorem ok_law_lines (T:Txt P w K mg) (g__law_row:Fn P w K mg base 1 "_law_row" ["_law_cell","_law_many","_law_base"] spRow) (d:Df K mg "_law_lines" s__law_lines ["_law_script","_law_start"]):FnOk P w K mg base CX0 2 d.f d.fd ["_law_script","_law_start"] (spLines K):=by
  refine d.F.ok sc__law_lines (fun vs H Q E h=>?_) (fun cdv A outer s H vs Q E hr h=>?_)
  · obtain ⟨a,ns,st,rfl,_⟩:=h
    rfl
  · obtain ⟨a,ns,st,rfl,hS,hst,k⟩:=h
    refine ⟨_,(pss_cons (sE 2 sc__law_lines.nd (pe_lst pa_nil))
      (pss_cons (ps_for PassesOwn.never rfl (pi_enum (by rfl) T.nenumerate (pa_cons (pe_slice sl_list (pv 0) (po_some (pv 1)) (po_some (pe_op op_add (pv 1) pe_int))) pa_nil)) (pg_tup (by rfl) (pgs_cons (nG 3 sc__law_lines.nd) (pgs_cons (nG 4 sc__law_lines.nd) pgs_nil)))
      (pss_cons (ps_asg (pC g__law_row hr (pa_N (pv 4) (pa_C pe_int (pa_C pe_int pa_nil)))) (pg_lst (by rfl) (pgs_cons (nG 5 sc__law_lines.nd) (pgs_cons (nG 6 sc__law_lines.nd) (pgs_cons (nG 7 sc__law_lines.nd) (pgs_cons (nG 8 sc__law_lines.nd) pgs_nil))))))
      (pss_cons (sE 6 sc__law_lines.nd (pe_op op_add pe_int (pe_op op_mod (pv 6) pe_int)))
      (pss_cons (sE 9 sc__law_lines.nd (pe_ix ix_list (pe_lst (pa_B (pe_op op_catT (pe_op op_repT (pe_tup (pa_C pe_int pa_nil)) (pv 6)) (pe_op op_repT (pe_tup (pa_C pe_int pa_nil)) (pv 6))) (pa_B (pe_op op_catT (pe_op op_catT (pe_op op_catT (pe_op op_repT (pe_tup (pa_C pe_int pa_nil)) (pv 6)) (pe_op op_repT (pe_tup (pa_C pe_int pa_nil)) (pv 6))) (pe_op op_repT (pe_tup (pa_C pe_int pa_nil)) (pv 6))) (pe_op op_repT (pe_tup (pa_C pe_int pa_nil)) (pv 6))) (pa_T (pe_tup pa_nil) pa_nil)))) (pe_op op_mod (pv 5) pe_int) (fun _ _=>rfl)))
      (pss_one (ps_expr (pe_bm PySem.F.plainAttrs_list PySem.F.slot_list_append PySem.F.type_list_append mt_append (pv 2) (pa_T (pe_tup (pa_C pe_str (pa_B (pe_op op_add (pv 7) (pe_op op_mul pe_int (pv 3))) (pa_B (pe_op op_sub (pe_op op_mod (pv 8) pe_int) (pe_op op_mul pe_int (pv 3))) (pa_N (pv 9) pa_nil))))) pa_nil))))))))
      (pss_one (ps_ret (pv 2))))),?_⟩
    have hσ:L2.start N__law_lines [V.ref a,V.int st]=[some (.ref a),some (.int st),none,none,none,none,none,none,none,none]:=rfl
    rw [hσ]
    refine ⟨Nat.zero_le _,fun f hf=>?_⟩
    have s1:=Same.up (o:=.lst []) hf
    have e1:upd H f (.lst []) f=some (.lst []):=upd_same
    generalize upd H f (.lst [])=H1 at s1 e1
    simp only [gName_eq,List.set_cons_succ,List.set_cons_zero]
    refine ⟨_,rfl,_,rfl,_,rfl,_,rfl,_,_,rfl,rfl,_,rfl,a,_,rfl,s1.seq hS,fun g hg=>?_⟩
    obtain ⟨ms,hms,hml⟩:∃ ms:List Int,cutV (ns.map V.int) (some (st:Int)) (some ((st:Int)+3))=ms.map V.int∧ms.length≤3:=by
      refine ⟨(ns.drop (HT.sIx (ns.map V.int).length 0 (some (st:Int)))).take (HT.sIx (ns.map V.int).length (ns.map V.int).length (some ((st:Int)+3)) - HT.sIx (ns.map V.int).length 0 (some (st:Int))),?_,?_⟩
      · unfold cutV;rw [List.map_take,List.map_drop]
      · have e3:((st:Int)+3)=((st+3:Nat):Int):=by lia
        rw [List.length_take,e3,HT.sIx_nat,HT.sIx_nat];lia
    rw [hms]
    have s2:=s1.trans (Same.up (o:=.lst (ms.map V.int)) hg)
    have e2:=Same.up (o:=.lst (ms.map V.int)) hg _ _ e1
    have g2:upd H1 g (.lst (ms.map V.int)) g=some (.lst (ms.map V.int)):=upd_same
    generalize upd H1 g (.lst (ms.map V.int))=H2 at s2 e2 g2
    refine ⟨g,rfl,⟨_,SqL.of g2⟩,?_⟩
    refine for_enum (K:=K) (a:=g) (xs:=ms.map V.int) (fun i σ H3=>∃ o3 o4 o5 o6 o7 o8 o9 us R,σ=[some (.ref a),some (.int st),some (.ref f),o3,o4,o5,o6,o7,o8,o9]∧Same H H3∧H3 g=some (.lst (ms.map V.int))∧H3 f=some (.lst us)∧VR us R rR H3∧R.length=i∧∀ r∈R,ROk r)
      ⟨_,_,_,_,_,_,_,[],[],rfl,s2,g2,e2,VR.nil,rfl,fun r h=>by cases h⟩ (fun i σ H3 _ ⟨_,_,_,_,_,_,_,_,_,_,_,g3,_⟩=>SqL.of g3) ?_ ?_
    · rintro i x σ H3 p hi ⟨o3,o4,o5,o6,o7,o8,o9,us,R,rfl,s3,g3,f3,v3,hl3,hR3⟩ hp
      have hil:i<(ms.map V.int).length:=(List.getElem?_eq_some_iff.mp hi).1
      rw [List.length_map] at hil
      rw [List.getElem?_map] at hi
      obtain ⟨c,hc,rfl⟩:=Option.map_eq_some_iff.mp hi
      have s4:=Same.up (o:=.tup [V.int (i:Int),V.int c]) hp
      have p4:upd H3 p (.tup [V.int (i:Int),V.int c]) p=some (.tup [V.int (i:Int),V.int c]):=upd_same
      generalize upd H3 p (.tup [V.int (i:Int),V.int c])=H4 at s4 p4
      refine ⟨p,_,rfl,SqT.of p4,rfl,_,_,rfl,_,_,rfl,rfl,?_⟩
      simp only [gName_eq,List.set_cons_succ,List.set_cons_zero]
      refine ⟨_,rfl,c,5040,4,rfl,by decide,by decide,by decide,fun q H5 ks hq s5 e5 hkl hkb=>?_⟩
      obtain ⟨kd,sz,x0,y0,rfl⟩:∃ a b c d,ks=[a,b,c,d]:=by
        match ks,hkl with
        | [a,b,c,d],_=>exact ⟨a,b,c,d,rfl⟩
      have bk:=hkb kd (by simp)
      have bs:=hkb sz (by simp)
      have bx:=hkb x0 (by simp)
      have by0:=hkb y0 (by simp)
      refine ⟨q,_,rfl,SqL.of e5,rfl,_,_,rfl,_,_,rfl,_,_,rfl,_,_,rfl,rfl,?_⟩
      simp only [gName_eq,List.set_cons_succ,List.set_cons_zero]
      refine ⟨_,rfl,_,_,rfl,rfl,(by show (0:Int)<60;decide),_,_,rfl,rfl,?_⟩
      have z0:=Int.emod_nonneg sz (show (60:Int)≠0 by decide)
      have z1:=Int.emod_lt_of_pos sz (show (0:Int)<60 by decide)
      obtain ⟨k6,hk6⟩:∃ k6:Nat,1+sz % 60=(k6:Int):=⟨(1+sz % 60).toNat,by lia⟩
      simp only [gName_eq,List.set_cons_succ,List.set_cons_zero]
      rw [hk6]
      have k61:1≤k6:=by lia
      have k62:k6≤60:=by lia
      have rn:∀ n:Int,List.replicate k6 (V.int n)≠[]:=fun n z=>by have:=congrArg List.length z;simp at this;lia
      refine seq_list3 (xs:=rowV (List.replicate k6 0++List.replicate k6 4)) (ys:=rowV (List.replicate k6 1++List.replicate k6 3++List.replicate k6 5++List.replicate k6 7)) (zs:=[]) ?_ ?_ nil_gives fun l qa qb qc H6 s6 el ea' eb' ec'=>?_
      · rw [rowV_app,← repl_row,← repl_row]
        exact cat_gives (rep_gives rfl k61 (by lia)) (rep_gives rfl k61 (by lia)) (rn _) (rn _) (big_ok (by simp;lia))
      · rw [rowV_app,rowV_app,rowV_app,← repl_row,← repl_row,← repl_row,← repl_row]
        exact cat_gives (cat_gives (cat_gives (rep_gives rfl k61 (by lia)) (rep_gives rfl k61 (by lia)) (rn _) (rn _) (big_ok (by simp;lia))) (rep_gives rfl k61 (by lia)) (by simp;lia) (rn _) (big_ok (by simp;lia))) (rep_gives rfl k61 (by lia)) (by simp;lia) (rn _) (big_ok (by simp;lia))
      obtain ⟨row,qr,hix,hrow,hrl,hr8⟩:∃ (row:List Nat) (qr:Addr),atI [V.ref qa,V.ref qb,V.ref qc] (kd % 3)=some (.ref qr)∧H6 qr=some (.tup (rowV row))∧row.length≤240∧∀ n∈row,n<8:=by
        have:kd % 3=0∨kd % 3=1∨kd % 3=2:=by lia
        rcases this with z | z | z <;> rw [z]
        · refine ⟨_,qa,rfl,ea',by simp;lia,fun n hn=>?_⟩
          rcases List.mem_append.mp hn with h | h <;> rw [(List.mem_replicate.mp h).2] <;> decide
        · refine ⟨_,qb,rfl,eb',by simp;lia,fun n hn=>?_⟩
          rcases List.mem_append.mp hn with h | h
          · rcases List.mem_append.mp h with h | h
            · rcases List.mem_append.mp h with h | h <;> rw [(List.mem_replicate.mp h).2] <;> decide
            · rw [(List.mem_replicate.mp h).2];decide
          · rw [(List.mem_replicate.mp h).2];decide
        · exact ⟨[],qc,rfl,ec',by decide,by simp⟩
      refine ⟨_,rfl,_,_,rfl,rfl,(by show (0:Int)<3;decide),l,_,_,_,rfl,rfl,SqL.of el,hix,?_⟩
      simp only [gName_eq,List.set_cons_succ,List.set_cons_zero]
      have s36:=s4.trans (s5.trans s6)
      have f6:=s36 _ _ f3
      have g6:=s36 _ _ g3
      refine ⟨_,rfl,.inl ⟨rfl,_,SqL.of f6⟩,_,rfl,_,rfl,_,_,rfl,rfl,.inl ⟨by decide,by decide⟩,_,_,rfl,rfl,?_⟩
      refine ⟨_,rfl,_,_,rfl,rfl,(by show (0:Int)<7;decide),_,rfl,_,_,rfl,rfl,.inl ⟨by decide,by decide⟩,_,_,rfl,rfl,?_⟩
      refine ⟨_,rfl,(by show 4≤sizeLine;decide),fun t7 ht7=>?_⟩
      have s7:=Same.up (o:=.tup [V.str (Str.ofString "rim"),V.int (x0+5040*(i:Int)),V.int (y0 % 7 - 10*(i:Int)),V.ref qr]) ht7
      have t7':upd H6 t7 (.tup [V.str (Str.ofString "rim"),V.int (x0+5040*(i:Int)),V.int (y0 % 7 - 10*(i:Int)),V.ref qr]) t7=some (.tup [V.str (Str.ofString "rim"),V.int (x0+5040*(i:Int)),V.int (y0 % 7 - 10*(i:Int)),V.ref qr]):=upd_same
      have hfg:f≠g:=fun z=>by rw [z] at e1;rw [hg] at e1;cases e1
      dsimp only
      generalize upd H6 t7 (.tup [V.str (Str.ofString "rim"),V.int (x0+5040*(i:Int)),V.int (y0 % 7 - 10*(i:Int)),V.ref qr])=H7 at s7 t7'
      have f7:=s7 _ _ f6
      have hR:rR ⟨"rim",x0+5040*(i:Int),y0 % 7 - 10*(i:Int),row⟩ (.ref t7) H7:=⟨t7,qr,rfl,t7',s7 _ _ hrow⟩
      have k8:KT H7 (upd H7 f (.lst (us++[.ref t7]))):=KT.lst f7
      refine ⟨f,_,_,rfl,rfl,f7,small1000 (by rw [v3.1];lia),?_⟩
      refine ⟨_,_,_,_,_,_,_,us++[.ref t7],R++[⟨"rim",x0+5040*(i:Int),y0 % 7 - 10*(i:Int),row⟩],rfl,same_lst hf (s3.trans (s36.trans s7)),by rw [upd_ne (Ne.symm hfg)];exact s7 _ _ g6,upd_same,?_,by rw [List.length_append,hl3];rfl,fun r hr'=>?_⟩
      · exact v3.snoc (fun x v h=>rR.kt h ((KT.of (s36.trans s7)).trans k8)) (rR.kt hR k8)
      · rcases List.mem_append.mp hr' with h | h
        · exact hR3 r h
        · rw [List.mem_singleton.mp h]
          exact ⟨.inl rfl,near_small (by show -1000000<x0+5040*(i:Int);lia) (by show x0+5040*(i:Int)<1000000;lia),near_small (by show -1000000<y0 % 7 - 10*(i:Int);lia) (by show y0 % 7 - 10*(i:Int)<1000000;lia),stp_of (by show row.length≤500;lia) hr8⟩
    · rintro σ H3 ⟨o3,o4,o5,o6,o7,o8,o9,us,R,rfl,s3,g3,f3,v3,hl3,hR3⟩
      rw [List.length_map] at hl3
      exact ⟨_,rfl,k f H3 us R hf s3 f3 v3 (by lia) hR3⟩
end
end RR
namespace RR
open PySem L2 RP
theorem mv8 {i : Nat} (h : i < 8) {t0 t1 t2 t3 t4 t5 t6 t7 : Addr} {H : Hp} (f0 : H t0 = some (.tup [.int 1, .int 0])) (f1 : H t1 = some (.tup [.int 1, .int 1])) (f2 : H t2 = some (.tup [.int 0, .int 1])) (f3 : H t3 = some (.tup [.int (-1), .int 1]))
    (f4:H t4=some (.tup [.int (-1),.int 0])) (f5:H t5=some (.tup [.int (-1),.int (-1)])) (f6:H t6=some (.tup [.int 0,.int (-1)])) (f7:H t7=some (.tup [.int 1,.int (-1)])) :
    ∃ t,([V.ref t0,.ref t1,.ref t2,.ref t3,.ref t4,.ref t5,.ref t6,.ref t7]:List V)[i]?=some (.ref t)∧H t=some (.tup [.int (mv i).1,.int (mv i).2]):=by
  have:i=0∨i=1∨i=2∨i=3∨i=4∨i=5∨i=6∨i=7:=by lia
  rcases this with rfl | rfl | rfl | rfl | rfl | rfl | rfl | rfl
  · exact ⟨_,rfl,f0⟩
  · exact ⟨_,rfl,f1⟩
  · exact ⟨_,rfl,f2⟩
  · exact ⟨_,rfl,f3⟩
  · exact ⟨_,rfl,f4⟩
  · exact ⟨_,rfl,f5⟩
  · exact ⟨_,rfl,f6⟩
  · exact ⟨_,rfl,f7⟩
section
variable {P:Program} {w:World} {K:PySem.W.Frag} {mg:Str→Option Value} {base:Heap}
theorem ok_law_gone (d:Df K mg "_law_gone" s__law_gone ["_law_x","_law_y","_law_step"]):FnOk P w K mg base CX0 1 d.f d.fd ["_law_x","_law_y","_law_step"] spGone:=by
  refine d.F.ok sc__law_gone (fun vs H Q E h=>?_) (fun cdv A outer s H vs Q E hr h=>?_)
  · obtain ⟨c,i,rfl,_⟩:=h
    rfl
  · obtain ⟨c,i,rfl,hi,k⟩:=h
    refine ⟨_,(pss_cons (ps_asg (pe_ix ix_list (pe_lst (pa_cons (pe_tup (pa_cons pe_int (pa_cons pe_int pa_nil))) (pa_cons (pe_tup (pa_cons pe_int (pa_cons pe_int pa_nil))) (pa_cons (pe_tup (pa_cons pe_int (pa_cons pe_int pa_nil))) (pa_cons (pe_tup (pa_cons (pe_un un_neg pe_int) (pa_cons pe_int pa_nil))) (pa_cons (pe_tup (pa_cons (pe_un un_neg pe_int) (pa_cons pe_int pa_nil))) (pa_cons (pe_tup (pa_cons (pe_un un_neg pe_int) (pa_cons (pe_un un_neg pe_int) pa_nil))) (pa_cons (pe_tup (pa_cons pe_int (pa_cons (pe_un un_neg pe_int) pa_nil))) (pa_cons (pe_tup (pa_cons pe_int (pa_cons (pe_un un_neg pe_int) pa_nil))) pa_nil))))))))) (pv 2) (fun _ _=>rfl)) (pg_tup (by rfl) (pgs_cons (nG 3 sc__law_gone.nd) (pgs_cons (nG 4 sc__law_gone.nd) pgs_nil))))
      (pss_one (ps_ret (pe_tup (pa_cons (pe_op op_add (pv 0) (pv 3)) (pa_cons (pe_op op_add (pv 1) (pv 4)) pa_nil)))))),?_⟩
    refine ⟨two,fun t0 h0=>?_⟩
    have s0:=Same.up (o:=.tup [.int 1,.int 0]) h0
    have f0:upd H t0 (.tup [.int 1,.int 0]) t0=some (.tup [.int 1,.int 0]):=upd_same
    generalize upd H t0 (.tup [.int 1,.int 0])=H0 at s0 f0
    refine ⟨two,fun t1 h1=>?_⟩
    have s1:=Same.up (o:=.tup [.int 1,.int 1]) h1
    have f1:upd H0 t1 (.tup [.int 1,.int 1]) t1=some (.tup [.int 1,.int 1]):=upd_same
    generalize upd H0 t1 (.tup [.int 1,.int 1])=H1 at s1 f1
    refine ⟨two,fun t2 h2=>?_⟩
    have s2:=Same.up (o:=.tup [.int 0,.int 1]) h2
    have f2:upd H1 t2 (.tup [.int 0,.int 1]) t2=some (.tup [.int 0,.int 1]):=upd_same
    generalize upd H1 t2 (.tup [.int 0,.int 1])=H2 at s2 f2
    refine ⟨_,rfl,two,fun t3 h3=>?_⟩
    have s3:=Same.up (o:=.tup [.int (-1),.int 1]) h3
    have f3:upd H2 t3 (.tup [.int (-1),.int 1]) t3=some (.tup [.int (-1),.int 1]):=upd_same
    generalize upd H2 t3 (.tup [.int (-1),.int 1])=H3 at s3 f3
    refine ⟨_,rfl,two,fun t4 h4=>?_⟩
    have s4:=Same.up (o:=.tup [.int (-1),.int 0]) h4
    have f4:upd H3 t4 (.tup [.int (-1),.int 0]) t4=some (.tup [.int (-1),.int 0]):=upd_same
    generalize upd H3 t4 (.tup [.int (-1),.int 0])=H4 at s4 f4
    refine ⟨_,rfl,_,rfl,two,fun t5 h5=>?_⟩
    have s5:=Same.up (o:=.tup [.int (-1),.int (-1)]) h5
    have f5:upd H4 t5 (.tup [.int (-1),.int (-1)]) t5=some (.tup [.int (-1),.int (-1)]):=upd_same
    generalize upd H4 t5 (.tup [.int (-1),.int (-1)])=H5 at s5 f5
    refine ⟨_,rfl,two,fun t6 h6=>?_⟩
    have s6:=Same.up (o:=.tup [.int 0,.int (-1)]) h6
    have f6:upd H5 t6 (.tup [.int 0,.int (-1)]) t6=some (.tup [.int 0,.int (-1)]):=upd_same
    generalize upd H5 t6 (.tup [.int 0,.int (-1)])=H6 at s6 f6
    refine ⟨_,rfl,two,fun t7 h7=>?_⟩
    have s7:=Same.up (o:=.tup [.int 1,.int (-1)]) h7
    have f7:upd H6 t7 (.tup [.int 1,.int (-1)]) t7=some (.tup [.int 1,.int (-1)]):=upd_same
    generalize upd H6 t7 (.tup [.int 1,.int (-1)])=H7 at s7 f7
    refine ⟨(by show 8≤sizeLine;decide),fun l hl=>?_⟩
    have s8:=Same.up (o:=.lst [.ref t0,.ref t1,.ref t2,.ref t3,.ref t4,.ref t5,.ref t6,.ref t7]) hl
    have f8:upd H7 l (.lst [.ref t0,.ref t1,.ref t2,.ref t3,.ref t4,.ref t5,.ref t6,.ref t7]) l=some (.lst [.ref t0,.ref t1,.ref t2,.ref t3,.ref t4,.ref t5,.ref t6,.ref t7]):=upd_same
    generalize upd H7 l (.lst [.ref t0,.ref t1,.ref t2,.ref t3,.ref t4,.ref t5,.ref t6,.ref t7])=H8 at s8 f8
    have s67:=s7.trans s8
    have s57:=s6.trans s67
    have s47:=s5.trans s57
    have s37:=s4.trans s47
    have s27:=s3.trans s37
    have s17:=s2.trans s27
    have s07:=s1.trans s17
    obtain ⟨t,ht,ft⟩:=mv8 hi (s07 _ _ f0) (s17 _ _ f1) (s27 _ _ f2) (s37 _ _ f3) (s47 _ _ f4) (s57 _ _ f5) (s67 _ _ f6) (s8 _ _ f7)
    refine ⟨_,rfl,l,_,_,_,rfl,rfl,SqL.of f8,atI_nat ht,t,_,rfl,SqT.of ft,rfl,_,_,rfl,_,_,rfl,rfl,?_⟩
    refine ⟨_,rfl,_,rfl,_,_,rfl,rfl,_,rfl,_,rfl,_,_,rfl,rfl,two,fun p hp=>?_⟩
    have s08:=s0.trans s07
    exact k p _ (s08.free hp) (s08.trans (Same.up hp)) upd_same
end
end RR
namespace RR
open PySem L2 RP
theorem VR.takeS {α:Type} {vs:List V} {l:List α} {R:α→V→Hp→Prop} {H:Hp} (h:VR vs l R H) (j:Nat):VR (vs.take j) (l.take j) R H:=by
  refine ⟨by rw [List.length_take,List.length_take,h.1],fun i x v h1 h2=>?_⟩
  rw [List.getElem?_take] at h1 h2
  split at h1
  · rw [if_pos (by assumption)] at h2;exact h.2 _ x v h1 h2
  · cases h1
theorem cut_takeS (us:List V) (k:Nat):cutV us none (some (k:Int))=us.take k:=by
  have e:cutV us none (some (k:Int))=us.take (min k us.length):=by
    unfold cutV
    rw [HT.sIx_nat,HT.sIx_none,List.drop_zero,Nat.sub_zero]
  rw [e]
  rcases Nat.le_total k us.length with h | h
  · rw [Nat.min_eq_left h]
  · rw [Nat.min_eq_right h,List.take_length,List.take_of_length_le h]
theorem step_lt {C:Cell→Bool} {e:Edge} (hw:e.w<4) {n:Nat} (h:stepB C e=some n):n<8:=by
  unfold stepB at h
  split at h
  · injection h with h;lia
  · split at h
    · injection h with h;lia
    · cases h
theorem near_of {x:Int} (h:-(10 ^ 30)<x∧x<10 ^ 30):NearI x:=by
  have e:((10:Int) ^ 31)=10000000000000000000000000000000:=rfl
  have e':((10:Int) ^ 30)=1000000000000000000000000000000:=rfl
  unfold NearI;rw [e];rw [e'] at h;lia
theorem can_ok {cs:List Cell} {es:List Edge} {r:Rnd} (h:Can (isIn cs) es r) (hl:cs.length≤120) (hn:∀ c∈cs,CellN c) (hs:SoOk r):ROk r:=by
  have hel:es.length≤480:=by have:=h.cl.1.short;lia
  have hE:=h.cl.1.2.2.1
  have hb:IsE (isIn cs) (begE r):=hE _ (List.mem_of_getElem? h.cl.1.1)
  have hc:(r.x,r.y)∈cs:=of_decide_eq_true hb.2.1
  have hcn:=hn _ hc
  refine ⟨hs,near_of hcn.1,near_of hcn.2,stp_of ?_ fun n hn'=>?_⟩
  · rw [h.row]
    have:=List.length_filterMap_le id (es.map (stepB (isIn cs)))
    rw [List.length_map] at this
    lia
  · rw [h.row] at hn'
    obtain ⟨o,ho,e⟩:=List.mem_filterMap.mp hn'
    obtain ⟨ed,hed,rfl⟩:=List.mem_map.mp ho
    exact step_lt (hE ed hed).1 e
theorem join1 {l:List Str} (h:l.length≤1) (s t:Str):Txt.join s l=Txt.join t l:=by
  match l,h with
  | [],_=>rfl
  | [x],_=>rfl
def lone (f0 f1:Int) (k:Nat):Rnd:=⟨"rim",2*(0+(k:Int)) - f0,f1,[]⟩
section
variable {P:Program} {w:World} {K:PySem.W.Frag} {mg:Str→Option Value} {base:Heap}
def spLaw (K:PySem.W.Frag) (L:Addr):Sp:=fun vs H Q _=>∃ (a:Addr) (ns:List Int),vs=[.ref a]∧SqL K H a (ns.map V.int)∧ns.length≤63∧LamT L H∧∀ H',Q (.bl true) H'
theorem ok_law {L : Addr} (T : Txt P w K mg) (g__law_picture : Fn P w K mg base 2 "_law_picture" ["_law_script", "_law_start"] (spPict K)) (g__law_traced : Fn P w K mg base 5 "_law_traced" ["_law_cells"] (spTraced K L)) (g__law_lines : Fn P w K mg base 2 "_law_lines" ["_law_script", "_law_start"] (spLines K))
    (g_show_round:Fn P w K mg base 4 "show_round" ["one"] spSRnd) (g_show_rounds:Fn P w K mg base 5 "show_rounds" ["some"] (spSRnds K)) (g__law_written:Fn P w K mg base 1 "_law_written" ["_law_one"] spSRnd) (g__law_row:Fn P w K mg base 1 "_law_row" ["_law_cell","_law_many","_law_base"] spRow)
    (g__law_cell_at:Fn P w K mg base 1 "_law_cell_at" ["_law_script","_law_k"] (spCellAt K)) (d:Df K mg "law" s_law ["_law_script"]):FnOk P w K mg base CX0 8 d.f d.fd ["_law_script"] (spLaw K L):=by
  refine d.F.ok sc_law (fun vs H Q E h=>?_) (fun cdv A outer s H vs Q E hr h=>?_)
  · obtain ⟨a,ns,rfl,_⟩:=h
    rfl
  · obtain ⟨a,ns,rfl,hS,hnl,hlam,k⟩:=h
    have hu64:=hr.units
    have nb0:(["_law_k","_law_far"]:List Str).Nodup:=by decide +kernel
    have nb1:(["_law_one"]:List Str).Nodup:=by decide +kernel
    refine ⟨_,(pss_cons (sE 1 sc_law.nd (pe_op op_cat (pe_slice sl_list (pC g__law_traced hr (pa_cons (pC g__law_picture hr (pa_N (pv 0) (pa_C pe_int pa_nil))) pa_nil)) po_none (po_some pe_int)) (pC g__law_lines hr (pa_N (pv 0) (pa_C pe_int pa_nil)))))
      (pss_cons (sE 2 sc_law.nd (pe_callTy call_list_of (by rfl) T.nlist (by rfl) (pa_N (pv 1) pa_nil)))
      (pss_cons (sE 3 sc_law.nd (pe_lst pa_nil))
      (pss_cons (ps_for PassesOwn.never rfl (pi_list (pv 1)) (nG 4 sc_law.nd)
      (pss_cons (sE 5 sc_law.nd (pC g_show_round hr (pa_N (pv 4) pa_nil)))
      (pss_cons (ps_if (pw_or (pt_not (pt_val (pe_callB call_isi (by rfl) T.nisinstance (by rfl) (pa_N (pv 5) (pa_N (pe_bltn (v:=.ty "str") (by rfl) T.nstr (by rfl) rfl) pa_nil))))) (pw_or1 (pt_cmpR op_ne (pv 5) (pC g__law_written hr (pa_N (pv 4) pa_nil)) (nomark _)))).pt
      (pss_one (ps_ret pe_bl))
      pss_nil)
      (pss_one (ps_expr (pe_bm PySem.F.plainAttrs_list PySem.F.slot_list_append PySem.F.type_list_append mt_append (pv 3) (pa_N (pv 5) pa_nil)))))))
      (pss_cons (sE 5 sc_law.nd (pC g_show_rounds hr (pa_N (pv 2) pa_nil)))
      (pss_cons (ps_if (pw_or (pt_not (pt_val (pe_callB call_isi (by rfl) T.nisinstance (by rfl) (pa_N (pv 5) (pa_N (pe_bltn (v:=.ty "str") (by rfl) T.nstr (by rfl) rfl) pa_nil))))) (pw_or (pt_cmpR op_ne (pv 5) (pe_bm PySem.F.plainAttrs_str PySem.F.slot_str_join PySem.F.type_str_join mt_join pe_str (pa_N (pv 3) pa_nil)) (nomark _)) (pw_or1 (pt_cmpR (op_neD hu64) (pv 2) (pv 1) (nomark _))))).pt
      (pss_one (ps_ret pe_bl))
      pss_nil)
      (pss_cons (ps_set (i:=6) sc_law.nd (by rfl) (Or.inr rfl) (pC g__law_row hr (pa_cons (pC g__law_cell_at hr (pa_N (pv 0) (pa_C pe_int pa_nil))) (pa_C pe_int (pa_C pe_int pa_nil)))))
      (pss_cons (ps_compL (i:=7) (osc:=defScope s_law) (N:=N_law) (N':=["_law_k","_law_far"]) (sel:=[none,some 6]) bO sc_law.nd (by rfl) (Or.inl rfl) (pi_range1 (by rfl) T.nrange (pa_C pe_int pa_nil)) (fun _ _ _ _ _=>(nG 0 nb0)) (fun _ _ _ _ _=>pts_nil) (fun _ _ _ _ _=>(pe_tup (pa_C pe_str (pa_B (pe_op op_sub (pe_op op_mul pe_int (pv 0)) (pe_ix (ix_listK (K:=K)) (pv 1) pe_int (fun _ _=>rfl))) (pa_cons (pe_ix (ix_listK (K:=K)) (pv 1) pe_int (fun _ _=>rfl)) (pa_T (pe_tup pa_nil) pa_nil)))))))
      (pss_cons (ps_if (pt_cmpR op_ne (pC g_show_rounds hr (pa_N (pv 7) pa_nil)) (pe_bm PySem.F.plainAttrs_str PySem.F.slot_str_join PySem.F.type_str_join mt_join pe_str (pa_cons (pe_compL (osc:=defScope s_law) (N:=N_law) (N':=["_law_one"]) (sel:=[none]) bO (pi_list (pv 7)) (fun _ _ _ _ _=>(nG 0 nb1)) (fun _ _ _ _ _=>pts_nil) (fun _ _ _ _ _=>(pC g__law_written hr (pa_N (pv 0) pa_nil)))) pa_nil)) (nomark _))
      (pss_one (ps_ret pe_bl))
      pss_nil)
      (pss_one (ps_ret (pe_and (pe_cmpR op_eq (pC g_show_rounds hr (pa_cons (pe_lst pa_nil) pa_nil)) pe_str (nomark _)) (pe_one (pe_cmpR op_eq (pC g_show_rounds hr (pa_cons (pe_slice sl_list (pv 1) po_none (po_some pe_int)) pa_nil)) (pe_bm PySem.F.plainAttrs_str PySem.F.slot_str_join PySem.F.type_str_join mt_join pe_str (pa_cons (pe_slice sl_list (pv 3) po_none (po_some pe_int)) pa_nil)) (nomark _))))))))))))))),?_⟩
    have hσ:L2.start N_law [V.ref a]=[some (.ref a),none,none,none,none,none,none,none]:=rfl
    rw [hσ]
    refine ⟨_,rfl,a,ns,0,rfl,hS,fun pc H1 cvs cs hpc s1 e1 hv1 hbf hcl hnear=>?_⟩
    have lam1:LamT L H1:=hlam.same s1
    refine ⟨pc,cvs,cs,rfl,e1,hv1,ord_of hbf,hcl,lam1,fun pr H3 rv R R0 hpr b3 lam3 e3 hvr hpm _ hwh=>?_⟩
    obtain ⟨ESS,hcans⟩:=hwh.cans hpm
    have hRok:∀ r∈R,ROk r:=fun r hr'=>by
      obtain ⟨i,hi⟩:=List.getElem?_of_mem hr'
      obtain ⟨es,_,hcan⟩:=hcans.so hi
      exact can_ok hcan hcl hnear (hwh.so r (hpm.mem_iff.mp hr'))
    have hS3:=b3.seq lam1 (s1.seq hS)
    refine ⟨_,rfl,pr,rv,rfl,SqL.of e3,fun sl hsl=>?_⟩
    rw [show cutV rv none (some 40)=rv.take 40 from cut_takeS rv 40]
    have s4:=Same.up (o:=.lst (rv.take 40)) hsl
    have e4:upd H3 sl (.lst (rv.take 40)) sl=some (.lst (rv.take 40)):=upd_same
    generalize upd H3 sl (.lst (rv.take 40))=H4 at s4 e4
    have v4:=(hvr.takeS 40).mono fun x v h=>rR.kt h (KT.of s4)
    refine ⟨_,rfl,a,ns,11,rfl,s4.seq hS3,by decide,fun pl H5 us R2 hpl s5 e5 v5 hl2 hR2=>?_⟩
    have hl40:(R.take 40).length≤40:=by rw [List.length_take];lia
    refine ⟨sl,pl,_,_,rfl,rfl,s5 _ _ e4,e5,big_ok (by rw [(hvr.takeS 40).1,v5.1];lia),fun z hz=>?_⟩
    have s6:=Same.up (o:=.lst (rv.take 40++us)) hz
    have e6:upd H5 z (.lst (rv.take 40++us)) z=some (.lst (rv.take 40++us)):=upd_same
    generalize upd H5 z (.lst (rv.take 40++us))=H6 at s6 e6
    have v6:VR (rv.take 40++us) (R.take 40++R2) rR H6:=(v4.mono fun x v h=>rR.kt h (KT.of (s5.trans s6))).app (v5.mono fun x v h=>rR.kt h (KT.of s6))
    have hS6:=(s4.trans (s5.trans s6)).seq hS3
    have hok6:∀ r∈R.take 40++R2,ROk r:=fun r hr'=>by
      rcases List.mem_append.mp hr' with h | h
      · exact hRok r (List.mem_of_mem_take h)
      · exact hR2 r h
    have hl6:(R.take 40++R2).length≤43:=by rw [List.length_append];lia
    generalize rv.take 40++us=ws at e6 v6
    generalize R.take 40++R2=RR' at v6 hok6 hl6
    clear e4 e5 v4 v5 hvr hcans hwh hpm b3 lam3 s4 s5 s6
    simp only [gName_eq,List.set_cons_succ,List.set_cons_zero]
    refine ⟨_,rfl,z,ws,rfl,.inl (SqL.of e6),fun hd hhd=>?_⟩
    have s7:=Same.up (o:=.lst ws) hhd
    have e7:upd H6 hd (.lst ws) hd=some (.lst ws):=upd_same
    generalize upd H6 hd (.lst ws)=H7 at s7 e7
    simp only [gName_eq,List.set_cons_succ,List.set_cons_zero]
    refine ⟨Nat.zero_le _,fun ro hro=>?_⟩
    have s8:=Same.up (o:=.lst []) hro
    have e8:upd H7 ro (.lst []) ro=some (.lst []):=upd_same
    generalize upd H7 ro (.lst [])=H8 at s8 e8
    have s78:=s7.trans s8
    simp only [gName_eq,List.set_cons_succ,List.set_cons_zero]
    refine ⟨_,rfl,z,rfl,⟨_,SqL.of (s78 _ _ e6)⟩,?_⟩
    refine for_list (K:=K) (a:=z) (xs:=ws) (fun j σ H9=>∃ o4 o5,σ=[some (.ref a),some (.ref z),some (.ref hd),some (.ref ro),o4,o5,none,none]∧Same H7 H9∧H9 ro=some (.lst (((RR'.take j).map rndS).map V.str)))
      ⟨_,_,rfl,s8,e8⟩ (fun j σ H9 _ ⟨_,_,_,s9,_⟩=>SqL.of ((s7.trans s9) _ _ e6)) ?_ ?_
    · rintro j x σ H9 hj ⟨o4,o5,rfl,s9,e9⟩
      have hjl:j<ws.length:=(List.getElem?_eq_some_iff.mp hj).1
      rw [v6.1] at hjl
      obtain ⟨r,hr',qr⟩:=v6.at hj
      have rok:=hok6 r (List.mem_of_getElem? hr')
      refine ⟨_,rfl,x,r,rfl,rR.kt qr (KT.of (s7.trans s9)),rok,fun H10 s10=>?_⟩
      simp only [gName_eq,List.set_cons_succ,List.set_cons_zero]
      refine ⟨_,rfl,_,_,_,_,rfl,.str _,kit_same _ _,_,rfl,iteF ?_⟩
      refine ⟨_,rfl,_,rfl,x,r,rfl,rR.kt qr (KT.of (s7.trans (s9.trans s10))),rok,fun H11 s11=>?_⟩
      refine ⟨rfl,_,rfl,iteN (by rw [decide_eq_true (rfl:V.str (rndS r)=V.str (rndS r))];rfl) ?_⟩
      have s711:=s9.trans (s10.trans s11)
      have e11:=(s10.trans s11) _ _ e9
      refine ⟨_,rfl,.inl ⟨rfl,_,SqL.of e11⟩,_,rfl,ro,_,_,rfl,rfl,e11,small1000 (by rw [List.length_map,List.length_map,List.length_take];lia),?_⟩
      refine ⟨_,_,rfl,same_lst hro s711,?_⟩
      rw [upd_same,take_snoc hr',List.map_append,List.map_append];rfl
    · rintro σ H9 ⟨o4,o5,rfl,s9,e9⟩
      rw [v6.1,List.take_length] at e9
      have s69:=s7.trans s9
      have v9:=v6.mono fun x v h=>rR.kt h (KT.of s69)
      have e9':=s9 _ _ e7
      refine ⟨_,rfl,hd,ws,RR',rfl,e9',v9,by lia,hok6,fun H10 s10=>?_⟩
      simp only [gName_eq,List.set_cons_succ,List.set_cons_zero]
      refine ⟨_,rfl,_,_,_,_,rfl,.str _,kit_same _ _,_,rfl,iteF ?_⟩
      have e10:=s10 _ _ e9
      have nl:(Str.ofString "\n").length=1:=by decide
      have lrs:=len_rnds hok6
      refine ⟨_,rfl,rfl,_,rfl,_,ro,RR'.map rndS,rfl,rfl,e10,(by rw [nl,List.length_map];lia),rfl,_,rfl,iteN (by rw [decide_eq_true (rfl:V.str (Txt.join (Str.ofString "\n") (RR'.map rndS))=_)];rfl) ?_⟩
      have s610:=s69.trans s10
      have soOk:∀ r∈RR',SoOk r:=fun r h=>(hok6 r h).1
      refine ⟨_,rfl,_,rfl,lR RR',lR RR',rd_rounds (SqL.of (s10 _ _ e9')) (v9.mono fun x v h=>rR.kt h (KT.of s10)),rd_rounds (SqL.of (s610 _ _ e6)) (v6.mono fun x v h=>rR.kt h (KT.of s610)),shaped_lR soOk,shaped_lR soOk,_,rfl,iteN (by rw [eqv_lR,decide_eq_true rfl];rfl) ?_⟩
      refine ⟨_,rfl,a,ns,0,rfl,s610.seq hS6,fun c0=>⟨c0,1000,2,rfl,by decide,by decide,by decide,fun fa H11 fs hfa s11 e11 hfl hfb=>?_⟩⟩
      obtain ⟨f0,f1,rfl⟩:∃ a b,fs=[a,b]:=by
        match fs,hfl with
        | [a,b],_=>exact ⟨a,b,rfl⟩
      have b0:=hfb f0 (by simp)
      have b1:=hfb f1 (by simp)
      simp only [gName_eq,List.set_cons_succ,List.set_cons_zero]
      refine ⟨120,rfl,by decide,by decide,fun g hg=>?_⟩
      refine for_range (lo:=0) (n:=120) (fun j σ H12=>∃ o0,σ=[o0,some (.ref fa)]∧Same H11 H12∧∃ zs,H12 g=some (.lst zs)∧VR zs ((List.range j).map (lone f0 f1)) rR H12)
        ⟨_,rfl,Same.up hg,[],upd_same,VR.nil⟩ ?_ ?_
      · rintro j σ H12 hj ⟨o0,rfl,s12,zs,e12,v12⟩
        have hzl:zs.length=j:=by rw [v12.1,List.length_map,List.length_range]
        have f12:SqL K H12 fa [V.int f0,V.int f1]:=SqL.of (s12 _ _ e11)
        refine gN ?_
        refine ⟨_,rfl,_,_,rfl,rfl,.inl ⟨by decide,by decide⟩,_,rfl,fa,_,_,_,rfl,rfl,f12,atI_nat (j:=0) rfl,_,_,rfl,rfl,?_⟩
        refine ⟨_,rfl,fa,_,_,_,rfl,rfl,f12,atI_nat (j:=1) rfl,Nat.zero_le _,fun tn htn=>⟨four,fun t4 ht4=>?_⟩⟩
        have s13:=(Same.up (o:=.tup []) htn).trans (Same.up (o:=.tup [V.str (Str.ofString "rim"),V.int (2*(0+(j:Int)) - f0),V.int f1,V.ref tn]) ht4)
        have t13:upd (upd H12 tn (.tup [])) t4 (.tup [V.str (Str.ofString "rim"),V.int (2*(0+(j:Int)) - f0),V.int f1,V.ref tn]) t4=some (.tup [V.str (Str.ofString "rim"),V.int (2*(0+(j:Int)) - f0),V.int f1,V.ref tn]):=upd_same
        have n13:upd (upd H12 tn (.tup [])) t4 (.tup [V.str (Str.ofString "rim"),V.int (2*(0+(j:Int)) - f0),V.int f1,V.ref tn]) tn=some (.tup []):=Same.up ht4 _ _ upd_same
        dsimp only
        generalize upd (upd H12 tn (.tup [])) t4 (.tup [V.str (Str.ofString "rim"),V.int (2*(0+(j:Int)) - f0),V.int f1,V.ref tn])=H13 at s13 t13 n13
        have e13:=s13 _ _ e12
        have k14:KT H13 (upd H13 g (.lst (zs++[.ref t4]))):=KT.lst e13
        refine ⟨zs,e13,small1000 (by lia),_,rfl,same_lst hg (s12.trans s13),_,upd_same,?_⟩
        rw [List.range_succ,List.map_append]
        exact v12.snoc (fun x v h=>rR.kt h ((KT.of s13).trans k14)) (rR.kt (⟨t4,tn,rfl,t13,n13⟩:rR (lone f0 f1 j) (.ref t4) H13) k14)
      · rintro σ H12 ⟨o0,rfl,s12,zs,e12,v12⟩
        have hmo:∀ r∈(List.range 120).map (lone f0 f1),ROk r:=fun r hr'=>by
          obtain ⟨j,hj,rfl⟩:=List.mem_map.mp hr'
          have:=List.mem_range.mp hj
          exact ⟨.inl rfl,near_small (by show -1000000<2*(0+(j:Int)) - f0;lia) (by show 2*(0+(j:Int)) - f0<1000000;lia),near_small (by show -1000000<f1;lia) (by show f1<1000000;lia),stp_of (by show 0≤500;decide) (fun n hn=>by cases hn)⟩
        have hml:((List.range 120).map (lone f0 f1)).length=120:=by rw [List.length_map,List.length_range]
        generalize (List.range 120).map (lone f0 f1)=MM at v12 hmo hml
        simp only [gName_eq,List.set_cons_succ,List.set_cons_zero]
        refine ⟨_,rfl,g,zs,MM,rfl,e12,v12,by lia,hmo,fun H13 s13=>?_⟩
        have e13:=s13 _ _ e12
        have v13:=v12.mono fun x v h=>rR.kt h (KT.of s13)
        refine ⟨rfl,_,rfl,g,rfl,⟨_,SqL.of e13⟩,fun g2 hg2=>?_⟩
        refine for_list (K:=K) (a:=g) (xs:=zs) (fun j σ H14=>∃ o0,σ=[o0]∧Same H13 H14∧H14 g2=some (.lst (((MM.take j).map rndS).map V.str)))
          ⟨_,rfl,Same.up hg2,upd_same⟩ (fun j σ H14 _ ⟨_,_,s14,_⟩=>SqL.of (s14 _ _ e13)) ?_ ?_
        · rintro j x σ H14 hj ⟨o0,rfl,s14,e14⟩
          have hjl:j<zs.length:=(List.getElem?_eq_some_iff.mp hj).1
          rw [v13.1] at hjl
          obtain ⟨r,hr',qr⟩:=v13.at hj
          refine gN ?_
          refine ⟨_,rfl,x,r,rfl,rR.kt qr (KT.of s14),hmo r (List.mem_of_getElem? hr'),fun H15 s15=>?_⟩
          refine ⟨_,s15 _ _ e14,small1000 (by rw [List.length_map,List.length_map,List.length_take];lia),_,rfl,same_lst hg2 (s14.trans s15),?_⟩
          rw [upd_same,take_snoc hr',List.map_append,List.map_append];rfl
        · rintro σ H14 ⟨o0,rfl,s14,e14⟩
          rw [v13.1,List.take_length] at e14
          have lrm:=len_rnds hmo
          refine ⟨_,g2,MM.map rndS,rfl,rfl,e14,(by rw [nl,List.length_map];lia),rfl,_,rfl,iteN (by rw [decide_eq_true (rfl:V.str (Txt.join (Str.ofString "\n") (MM.map rndS))=_)];rfl) ?_⟩
          have s1014:=s11.trans (s12.trans (s13.trans s14))
          refine ⟨Nat.zero_le _,fun q0 hq0=>?_⟩
          refine ⟨q0,[],[],rfl,upd_same,VR.nil,by decide,(fun r h=>by cases h),fun H15 s15=>?_⟩
          have en:Txt.join (Str.ofString "\n") (([]:List Rnd).map rndS)=Str.ofString "":=by decide
          refine ⟨rfl,_,rfl,iteY (decide_eq_true (by rw [en])) ?_⟩
          have s1015:=s1014.trans ((Same.up (o:=.lst []) hq0).trans s15)
          have s615:=s610.trans s1015
          refine ⟨_,rfl,_,rfl,z,ws,rfl,SqL.of (s615 _ _ e6),fun q1 hq1=>?_⟩
          rw [show cutV ws none (some 1)=ws.take 1 from cut_takeS ws 1]
          have s16:=Same.up (o:=.lst (ws.take 1)) hq1
          have e16:upd H15 q1 (.lst (ws.take 1)) q1=some (.lst (ws.take 1)):=upd_same
          generalize upd H15 q1 (.lst (ws.take 1))=H16 at s16 e16
          have v16:=(v6.takeS 1).mono fun x v h=>rR.kt h (KT.of (s615.trans s16))
          refine ⟨q1,ws.take 1,RR'.take 1,rfl,e16,v16,by rw [List.length_take];lia,(fun r h=>hok6 r (List.mem_of_mem_take h)),fun H17 s17=>?_⟩
          have e17:=(s1015.trans (s16.trans s17)) _ _ e10
          refine ⟨rfl,_,rfl,_,rfl,ro,_,rfl,SqL.of e17,fun q2 hq2=>?_⟩
          rw [show cutV ((RR'.map rndS).map V.str) none (some 1)=((RR'.map rndS).map V.str).take 1 from cut_takeS _ 1,← List.map_take]
          have d0:(Str.ofString "").length=0:=by decide
          have l1:=sum_le (ys:=(RR'.map rndS).take 1) (B:=3100) fun y hy=>by
            obtain ⟨r,hr',rfl⟩:=List.mem_map.mp (List.mem_of_mem_take hy)
            exact len_rndS (hok6 r hr')
          have l2:((RR'.map rndS).take 1).length≤1:=by rw [List.length_take];lia
          refine ⟨_,q2,(RR'.map rndS).take 1,rfl,rfl,upd_same,(by rw [d0];lia),rfl,?_⟩
          have ej:Txt.join (Str.ofString "\n") ((RR'.take 1).map rndS)=Txt.join (Str.ofString "") ((RR'.map rndS).take 1):=by
            rw [List.map_take];exact join1 l2 _ _
          rw [ej,decide_eq_true rfl]
          exact k _
end
end RR
namespace RR
open PySem L2 RP
theorem all_mk {L0 : Addr} {l : PySem.W.OpenLaw} {w : World} {K : PySem.W.Frag} {h : Heap} {mg : Str → Option Value} {fa : Addr} (X : K.In h) (G : h.Ns mainGlobals mg) (hfa : mg "law" = some (.ref fa)) {fx0 fx1 fx2 fx3 fx4 fx5 fx6 fx7 fx8 fx9 fx10 fx11 fx12 fx13 fx14 fx15 fx16 fx17 fx18 : Addr} {od0 an0 od1 an1 od2 an2 od3 an3 od4 an4 od5 an5 od6 an6 od7 an7 od8 an8 od9 an9 od10 an10 od11 an11 od12 an12 od13 an13 od14 an14 od15 an15 od16 an16 od17 an17 od18 an18 : Option Addr} {sl0 sl1 sl2 sl3 sl4 sl5 sl6 sl7 sl8 sl9 sl10 sl11 sl12 sl13 sl14 sl15 sl16 sl17 sl18 : Array (Option Value)} {oc0 kV0 dc0 pm0 ct0 cd0 oc1 kV1 dc1 pm1 ct1 cd1 oc2 kV2 dc2 pm2 ct2 cd2 oc3 kV3 dc3 pm3 ct3 cd3 oc4 kV4 dc4 pm4 ct4 cd4 oc5 kV5 dc5 pm5 ct5 cd5 oc6 kV6 dc6 pm6 ct6 cd6 oc7 kV7 dc7 pm7 ct7 cd7 oc8 kV8 dc8 pm8 ct8 cd8 oc9 kV9 dc9 pm9 ct9 cd9 oc10 kV10 dc10 pm10 ct10 cd10 oc11 kV11 dc11 pm11 ct11 cd11 oc12 kV12 dc12 pm12 ct12 cd12 oc13 kV13 dc13 pm13 ct13 cd13 oc14 kV14 dc14 pm14 ct14 cd14 oc15 kV15 dc15 pm15 ct15 oc16 kV16 dc16 pm16 ct16 cd16 oc17 kV17 dc17 pm17 ct17 cd17 oc18 kV18 dc18 pm18 ct18 cd18 : Value} {cc0 : Addr} {hd0 : Option Addr} {hv0 : Array Value} {hs0 : Array (Option Value)}
    (a0:PySem.W.nsIn K mainGlobals "runs_of" = some (some (.ref fx0))) (l0:K.lookup fx0=some ⟨oc0,od0,.func (PySem.W.fnOf "runs_of" "runs_of" (defArgs s_runs_of) (defBody s_runs_of) (defScope s_runs_of) .none kV0 dc0 pm0 an0 cd0 ct0),sl0⟩) (c0:PySem.W.codeIn K cd0 "runs_of" = true) (k0:PySem.W.keepIn K (.ref fx0)=true)
    (a1:PySem.W.nsIn K mainGlobals "by_figures" = some (some (.ref fx1))) (l1:K.lookup fx1=some ⟨oc1,od1,.func (PySem.W.fnOf "by_figures" "by_figures" (defArgs s_by_figures) (defBody s_by_figures) (defScope s_by_figures) .none kV1 dc1 pm1 an1 cd1 ct1),sl1⟩) (c1:PySem.W.codeIn K cd1 "by_figures" = true) (k1:PySem.W.keepIn K (.ref fx1)=true)
    (a2:PySem.W.nsIn K mainGlobals "by_runs" = some (some (.ref fx2))) (l2:K.lookup fx2=some ⟨oc2,od2,.func (PySem.W.fnOf "by_runs" "by_runs" (defArgs s_by_runs) (defBody s_by_runs) (defScope s_by_runs) .none kV2 dc2 pm2 an2 cd2 ct2),sl2⟩) (c2:PySem.W.codeIn K cd2 "by_runs" = true) (k2:PySem.W.keepIn K (.ref fx2)=true)
    (a3:PySem.W.nsIn K mainGlobals "show_row" = some (some (.ref fx3))) (l3:K.lookup fx3=some ⟨oc3,od3,.func (PySem.W.fnOf "show_row" "show_row" (defArgs s_show_row) (defBody s_show_row) (defScope s_show_row) .none kV3 dc3 pm3 an3 cd3 ct3),sl3⟩) (c3:PySem.W.codeIn K cd3 "show_row" = true) (k3:PySem.W.keepIn K (.ref fx3)=true)
    (a4:PySem.W.nsIn K mainGlobals "show_round" = some (some (.ref fx4))) (l4:K.lookup fx4=some ⟨oc4,od4,.func (PySem.W.fnOf "show_round" "show_round" (defArgs s_show_round) (defBody s_show_round) (defScope s_show_round) .none kV4 dc4 pm4 an4 cd4 ct4),sl4⟩) (c4:PySem.W.codeIn K cd4 "show_round" = true) (k4:PySem.W.keepIn K (.ref fx4)=true)
    (a5:PySem.W.nsIn K mainGlobals "show_rounds" = some (some (.ref fx5))) (l5:K.lookup fx5=some ⟨oc5,od5,.func (PySem.W.fnOf "show_rounds" "show_rounds" (defArgs s_show_rounds) (defBody s_show_rounds) (defScope s_show_rounds) .none kV5 dc5 pm5 an5 cd5 ct5),sl5⟩) (c5:PySem.W.codeIn K cd5 "show_rounds" = true) (k5:PySem.W.keepIn K (.ref fx5)=true)
    (a6:PySem.W.nsIn K mainGlobals "_law_cell_at" = some (some (.ref fx6))) (l6:K.lookup fx6=some ⟨oc6,od6,.func (PySem.W.fnOf "_law_cell_at" "_law_cell_at" (defArgs s__law_cell_at) (defBody s__law_cell_at) (defScope s__law_cell_at) .none kV6 dc6 pm6 an6 cd6 ct6),sl6⟩) (c6:PySem.W.codeIn K cd6 "_law_cell_at" = true) (k6:PySem.W.keepIn K (.ref fx6)=true)
    (a7:PySem.W.nsIn K mainGlobals "_law_row" = some (some (.ref fx7))) (l7:K.lookup fx7=some ⟨oc7,od7,.func (PySem.W.fnOf "_law_row" "_law_row" (defArgs s__law_row) (defBody s__law_row) (defScope s__law_row) .none kV7 dc7 pm7 an7 cd7 ct7),sl7⟩) (c7:PySem.W.codeIn K cd7 "_law_row" = true) (k7:PySem.W.keepIn K (.ref fx7)=true)
    (a8:PySem.W.nsIn K mainGlobals "_law_picture" = some (some (.ref fx8))) (l8:K.lookup fx8=some ⟨oc8,od8,.func (PySem.W.fnOf "_law_picture" "_law_picture" (defArgs s__law_picture) (defBody s__law_picture) (defScope s__law_picture) .none kV8 dc8 pm8 an8 cd8 ct8),sl8⟩) (c8:PySem.W.codeIn K cd8 "_law_picture" = true) (k8:PySem.W.keepIn K (.ref fx8)=true)
    (a9:PySem.W.nsIn K mainGlobals "_law_gone" = some (some (.ref fx9))) (l9:K.lookup fx9=some ⟨oc9,od9,.func (PySem.W.fnOf "_law_gone" "_law_gone" (defArgs s__law_gone) (defBody s__law_gone) (defScope s__law_gone) .none kV9 dc9 pm9 an9 cd9 ct9),sl9⟩) (c9:PySem.W.codeIn K cd9 "_law_gone" = true) (k9:PySem.W.keepIn K (.ref fx9)=true)
    (a10:PySem.W.nsIn K mainGlobals "_law_lot" = some (some (.ref fx10))) (l10:K.lookup fx10=some ⟨oc10,od10,.func (PySem.W.fnOf "_law_lot" "_law_lot" (defArgs s__law_lot) (defBody s__law_lot) (defScope s__law_lot) .none kV10 dc10 pm10 an10 cd10 ct10),sl10⟩) (c10:PySem.W.codeIn K cd10 "_law_lot" = true) (k10:PySem.W.keepIn K (.ref fx10)=true)
    (a11:PySem.W.nsIn K mainGlobals "_law_behind" = some (some (.ref fx11))) (l11:K.lookup fx11=some ⟨oc11,od11,.func (PySem.W.fnOf "_law_behind" "_law_behind" (defArgs s__law_behind) (defBody s__law_behind) (defScope s__law_behind) .none kV11 dc11 pm11 an11 cd11 ct11),sl11⟩) (c11:PySem.W.codeIn K cd11 "_law_behind" = true) (k11:PySem.W.keepIn K (.ref fx11)=true)
    (a12:PySem.W.nsIn K mainGlobals "_law_edges" = some (some (.ref fx12))) (l12:K.lookup fx12=some ⟨oc12,od12,.func (PySem.W.fnOf "_law_edges" "_law_edges" (defArgs s__law_edges) (defBody s__law_edges) (defScope s__law_edges) .none kV12 dc12 pm12 an12 cd12 ct12),sl12⟩) (c12:PySem.W.codeIn K cd12 "_law_edges" = true) (k12:PySem.W.keepIn K (.ref fx12)=true)
    (a13:PySem.W.nsIn K mainGlobals "_law_walked" = some (some (.ref fx13))) (l13:K.lookup fx13=some ⟨oc13,od13,.func (PySem.W.fnOf "_law_walked" "_law_walked" (defArgs s__law_walked) (defBody s__law_walked) (defScope s__law_walked) .none kV13 dc13 pm13 an13 cd13 ct13),sl13⟩) (c13:PySem.W.codeIn K cd13 "_law_walked" = true) (k13:PySem.W.keepIn K (.ref fx13)=true)
    (a14:PySem.W.nsIn K mainGlobals "_law_told" = some (some (.ref fx14))) (l14:K.lookup fx14=some ⟨oc14,od14,.func (PySem.W.fnOf "_law_told" "_law_told" (defArgs s__law_told) (defBody s__law_told) (defScope s__law_told) .none kV14 dc14 pm14 an14 cd14 ct14),sl14⟩) (c14:PySem.W.codeIn K cd14 "_law_told" = true) (k14:PySem.W.keepIn K (.ref fx14)=true)
    (a15:PySem.W.nsIn K mainGlobals "_law_traced" = some (some (.ref fx15))) (l15:K.lookup fx15=some ⟨oc15,od15,.func (PySem.W.fnOf "_law_traced" "_law_traced" (defArgs s__law_traced) (defBody s__law_traced) (defScope s__law_traced) .none kV15 dc15 pm15 an15 (.ref cc0) ct15),sl15⟩) (c15:PySem.W.codeIn K (.ref cc0) "_law_traced" = true) (k15:PySem.W.keepIn K (.ref fx15)=true)
    (lc0:K.lookup cc0=some ⟨.type "code",hd0,.fields hv0,hs0⟩) (lh0:hdOk hv0 cc0 L0=true)
    (a16:PySem.W.nsIn K mainGlobals "_law_written" = some (some (.ref fx16))) (l16:K.lookup fx16=some ⟨oc16,od16,.func (PySem.W.fnOf "_law_written" "_law_written" (defArgs s__law_written) (defBody s__law_written) (defScope s__law_written) .none kV16 dc16 pm16 an16 cd16 ct16),sl16⟩) (c16:PySem.W.codeIn K cd16 "_law_written" = true) (k16:PySem.W.keepIn K (.ref fx16)=true)
    (a17:PySem.W.nsIn K mainGlobals "_law_lines" = some (some (.ref fx17))) (l17:K.lookup fx17=some ⟨oc17,od17,.func (PySem.W.fnOf "_law_lines" "_law_lines" (defArgs s__law_lines) (defBody s__law_lines) (defScope s__law_lines) .none kV17 dc17 pm17 an17 cd17 ct17),sl17⟩) (c17:PySem.W.codeIn K cd17 "_law_lines" = true) (k17:PySem.W.keepIn K (.ref fx17)=true)
    (a18:PySem.W.nsIn K mainGlobals "law" = some (some (.ref fx18))) (l18:K.lookup fx18=some ⟨oc18,od18,.func (PySem.W.fnOf "law" "law" (defArgs s_law) (defBody s_law) (defScope s_law) .none kV18 dc18 pm18 an18 cd18 ct18),sl18⟩) (c18:PySem.W.codeIn K cd18 "law" = true) (k18:PySem.W.keepIn K (.ref fx18)=true)
    (z_range:PySem.W.nsIn K mainGlobals "range" = some none)
    (z_len:PySem.W.nsIn K mainGlobals "len" = some none)
    (z_min:PySem.W.nsIn K mainGlobals "min" = some none)
    (z_sorted:PySem.W.nsIn K mainGlobals "sorted" = some none)
    (z_tuple:PySem.W.nsIn K mainGlobals "tuple" = some none)
    (z_int:PySem.W.nsIn K mainGlobals "int" = some none)
    (z_str:PySem.W.nsIn K mainGlobals "str" = some none)
    (z_isinstance:PySem.W.nsIn K mainGlobals "isinstance" = some none)
    (z_list:PySem.W.nsIn K mainGlobals "list" = some none)
    (z_enumerate:PySem.W.nsIn K mainGlobals "enumerate" = some none) :
    ∃ fd:FuncData,(∀ (s:Shared) (v:Value),BindsTo s fd ⟨[v],[]⟩ [("_law_script",v)])∧(∀ P∈[L0],∃ c,PySem.W.codeHdIn K c P=true)∧∀ base:Heap,K.In base→base.Ns mainGlobals mg→Bm mg base→FnOk l.prog w K mg base CX0 8 fa fd ["_law_script"] (spLaw K L0):=by
  have e:=hfa.symm.trans (PySem.W.mg_of X G a18)
  cases e
  have T:Txt l.prog w K mg:={ nrange:=PySem.W.mg_none_of X G z_range,nlen:=PySem.W.mg_none_of X G z_len,nmin:=PySem.W.mg_none_of X G z_min,nsorted:=PySem.W.mg_none_of X G z_sorted,ntuple:=PySem.W.mg_none_of X G z_tuple,nint:=PySem.W.mg_none_of X G z_int,nstr:=PySem.W.mg_none_of X G z_str,nisinstance:=PySem.W.mg_none_of X G z_isinstance,nlist:=PySem.W.mg_none_of X G z_list,nenumerate:=PySem.W.mg_none_of X G z_enumerate }
  have F0:=fun_mk (st:=s_runs_of) l0 c0 k0
  have b0:=F0.b1 (p0:="row")
  have d_runs_of:Df K mg "runs_of" s_runs_of ["row"]:=⟨fx0,_,F0,PySem.W.mg_of X G a0,b0⟩
  have F1:=fun_mk (st:=s_by_figures) l1 c1 k1
  have b1:=F1.b1 (p0:="row")
  have d_by_figures:Df K mg "by_figures" s_by_figures ["row"]:=⟨fx1,_,F1,PySem.W.mg_of X G a1,b1⟩
  have F2:=fun_mk (st:=s_by_runs) l2 c2 k2
  have b2:=F2.b1 (p0:="row")
  have d_by_runs:Df K mg "by_runs" s_by_runs ["row"]:=⟨fx2,_,F2,PySem.W.mg_of X G a2,b2⟩
  have F3:=fun_mk (st:=s_show_row) l3 c3 k3
  have b3:=F3.b1 (p0:="row")
  have d_show_row:Df K mg "show_row" s_show_row ["row"]:=⟨fx3,_,F3,PySem.W.mg_of X G a3,b3⟩
  have F4:=fun_mk (st:=s_show_round) l4 c4 k4
  have b4:=F4.b1 (p0:="one")
  have d_show_round:Df K mg "show_round" s_show_round ["one"]:=⟨fx4,_,F4,PySem.W.mg_of X G a4,b4⟩
  have F5:=fun_mk (st:=s_show_rounds) l5 c5 k5
  have b5:=F5.b1 (p0:="some")
  have d_show_rounds:Df K mg "show_rounds" s_show_rounds ["some"]:=⟨fx5,_,F5,PySem.W.mg_of X G a5,b5⟩
  have F6:=fun_mk (st:=s__law_cell_at) l6 c6 k6
  have b6:=F6.b2 (p0:="_law_script") (p1:="_law_k")
  have d__law_cell_at:Df K mg "_law_cell_at" s__law_cell_at ["_law_script","_law_k"]:=⟨fx6,_,F6,PySem.W.mg_of X G a6,b6⟩
  have F7:=fun_mk (st:=s__law_row) l7 c7 k7
  have b7:=F7.b3 (p0:="_law_cell") (p1:="_law_many") (p2:="_law_base")
  have d__law_row:Df K mg "_law_row" s__law_row ["_law_cell","_law_many","_law_base"]:=⟨fx7,_,F7,PySem.W.mg_of X G a7,b7⟩
  have F8:=fun_mk (st:=s__law_picture) l8 c8 k8
  have b8:=F8.b2 (p0:="_law_script") (p1:="_law_start")
  have d__law_picture:Df K mg "_law_picture" s__law_picture ["_law_script","_law_start"]:=⟨fx8,_,F8,PySem.W.mg_of X G a8,b8⟩
  have F9:=fun_mk (st:=s__law_gone) l9 c9 k9
  have b9:=F9.b3 (p0:="_law_x") (p1:="_law_y") (p2:="_law_step")
  have d__law_gone:Df K mg "_law_gone" s__law_gone ["_law_x","_law_y","_law_step"]:=⟨fx9,_,F9,PySem.W.mg_of X G a9,b9⟩
  have F10:=fun_mk (st:=s__law_lot) l10 c10 k10
  have b10:=F10.b1 (p0:="_law_cells")
  have d__law_lot:Df K mg "_law_lot" s__law_lot ["_law_cells"]:=⟨fx10,_,F10,PySem.W.mg_of X G a10,b10⟩
  have F11:=fun_mk (st:=s__law_behind) l11 c11 k11
  have b11:=F11.b2 (p0:="_law_there") (p1:="_law_edge")
  have d__law_behind:Df K mg "_law_behind" s__law_behind ["_law_there","_law_edge"]:=⟨fx11,_,F11,PySem.W.mg_of X G a11,b11⟩
  have F12:=fun_mk (st:=s__law_edges) l12 c12 k12
  have b12:=F12.b1 (p0:="_law_there")
  have d__law_edges:Df K mg "_law_edges" s__law_edges ["_law_there"]:=⟨fx12,_,F12,PySem.W.mg_of X G a12,b12⟩
  have F13:=fun_mk (st:=s__law_walked) l13 c13 k13
  have b13:=F13.b2 (p0:="_law_there") (p1:="_law_first")
  have d__law_walked:Df K mg "_law_walked" s__law_walked ["_law_there","_law_first"]:=⟨fx13,_,F13,PySem.W.mg_of X G a13,b13⟩
  have F14:=fun_mk (st:=s__law_told) l14 c14 k14
  have b14:=F14.b2 (p0:="_law_edges_here") (p1:="_law_steps")
  have d__law_told:Df K mg "_law_told" s__law_told ["_law_edges_here","_law_steps"]:=⟨fx14,_,F14,PySem.W.mg_of X G a14,b14⟩
  have F15:=fun_mk (st:=s__law_traced) l15 c15 k15
  have b15:=F15.b1 (p0:="_law_cells")
  obtain ⟨d__law_traced,hc_0⟩:∃ d:Df K mg "_law_traced" s__law_traced ["_law_cells"],d.fd.code=.ref cc0:=⟨⟨fx15,_,F15,PySem.W.mg_of X G a15,b15⟩,rfl⟩
  have F16:=fun_mk (st:=s__law_written) l16 c16 k16
  have b16:=F16.b1 (p0:="_law_one")
  have d__law_written:Df K mg "_law_written" s__law_written ["_law_one"]:=⟨fx16,_,F16,PySem.W.mg_of X G a16,b16⟩
  have F17:=fun_mk (st:=s__law_lines) l17 c17 k17
  have b17:=F17.b2 (p0:="_law_script") (p1:="_law_start")
  have d__law_lines:Df K mg "_law_lines" s__law_lines ["_law_script","_law_start"]:=⟨fx17,_,F17,PySem.W.mg_of X G a17,b17⟩
  have F18:=fun_mk (st:=s_law) l18 c18 k18
  have b18:=F18.b1 (p0:="_law_script")
  have hh_0:PySem.W.codeHdIn K cc0 L0=true:=hd_of lc0 lh0
  refine ⟨PySem.W.fnOf "law" "law" (defArgs s_law) (defBody s_law) (defScope s_law) .none kV18 dc18 pm18 an18 cd18 ct18,fun s v=>.of_eq rfl,List.forall_mem_cons.mpr ⟨⟨cc0,hh_0⟩,fun _ z=>nomatch z⟩,fun base _ _ hB=>?_⟩
  have fn:∀ {k:Nat} {x:Str} {s:Stmt} {ps:List Str} {sp:Sp} (d:Df K mg x s ps),FnOk l.prog w K mg base CX0 k d.f d.fd ps sp→Fn l.prog w K mg base k x ps sp:=fun d h=>d.fn h
  have g__law_cell_at:=fn d__law_cell_at (ok_law_cell_at T d__law_cell_at)
  have g__law_row:=fn d__law_row (ok_law_row T d__law_row)
  have g__law_picture:=fn d__law_picture (ok_law_picture T g__law_cell_at g__law_row d__law_picture)
  have g__law_gone:=fn d__law_gone (ok_law_gone d__law_gone)
  have g__law_lot:=fn d__law_lot (ok_law_lot d__law_lot)
  have g__law_behind:=fn d__law_behind (ok_law_behind g__law_gone d__law_behind)
  have g__law_walked:=fn d__law_walked (ok_law_walked g__law_behind d__law_walked)
  have g__law_edges:=fn d__law_edges (ok_law_edges T g__law_gone d__law_edges)
  have g__law_told:=fn d__law_told (ok_law_told T d__law_told)
  have g__law_traced:=fn d__law_traced (ok_law_traced T hB hh_0 g__law_lot g__law_edges g__law_walked g__law_told d__law_traced hc_0)
  have g_runs_of:=fn d_runs_of (ok_runs_of d_runs_of)
  have g_by_figures:=fn d_by_figures (ok_by_figures T d_by_figures)
  have g_by_runs:=fn d_by_runs (ok_by_runs T g_runs_of d_by_runs)
  have g_show_row:=fn d_show_row (ok_show_row T g_by_runs g_by_figures d_show_row)
  have g_show_round:=fn d_show_round (ok_show_round T g_show_row d_show_round)
  have g_show_rounds:=fn d_show_rounds (ok_show_rounds T g_show_round d_show_rounds)
  have g__law_written:=fn d__law_written (ok_law_written T d__law_written)
  have g__law_lines:=fn d__law_lines (ok_law_lines T g__law_row d__law_lines)
  exact ok_law T g__law_picture g__law_traced g__law_lines g_show_round g_show_rounds g__law_written g__law_row g__law_cell_at ⟨_,_,F18,PySem.W.mg_of X G a18,b18⟩
theorem walk {L0 : Addr} {l : PySem.W.OpenLaw} {q : Program} {loose : List Str} {XP : (Str → Option Value) → Heap → Prop} {YP : World → Heap → Prop} {d : DefRec} {K : Params → PySem.W.Frag} (hn : l.most = some 63) (hdf : d.params.defaults = [])
    (hY:∀ (w:World) (h:Heap),YP w h→(K w.params).In h∧(∀ P∈[L0],h.get? P=some (PySem.W.tabObj #[]))∧∀ P∈[L0],(K w.params).lookup P=none)
    (F:∀ (w:World) (mg:Str→Option Value) (fa:Addr) (h:Heap),(K w.params).In h→h.Ns mainGlobals mg→mg d.name=some (.ref fa) →
      ∃ fd:FuncData,(∀ (s:Shared) (u:Value),BindsTo s fd ⟨[u],[]⟩ [("_law_script",u)])∧(∀ P∈[L0],∃ c,PySem.W.codeHdIn (K w.params) c P=true)∧∀ base:Heap,(K w.params).In base→base.Ns mainGlobals mg→Bm mg base→FnOk l.prog w (K w.params) mg base CX0 8 fa fd ["_law_script"] (spLaw (K w.params) L0)) :
    PySem.W.WalkO q loose XP YP l.row.toRowW d [] (fun f vs=>PySem.call f vs) :=
  L2.walk_ofL (n:=63) (k:=8) (x:="_law_script") (CX:=fun _=>CX0) (sp:=fun w=>spLaw (K w.params) L0) (ts:=[L0]) hn (by decide) hdf ⟨rfl,by decide,by decide⟩ hY F (fun _ _ a ns hl hT hS=>⟨a,ns,rfl,hS,hl,⟨#[],hT L0 (by simp),.inl rfl⟩,fun _=>rfl⟩) fun _ _ _ _ _ z=>z
end RR
namespace PySem.W.Fast
def tw10954525004712401940:=()
def tw9253597610042147260:=()
def tw1926672741395186735:=()
def tw4540805825214026784:=()
def tw7445243822189099328:=()
def tw5392084857028484149:=()
def tw11873556950221880744:=()
def tw18192619430535472991:=()
def tw11797123185319621798:=()
def tw9833205988147952400:=()
def tw16545666403365114872:=()
def tw7815958506314109139:=()
def tw14708058273337291376:=()
def tw7646993403545077807:=()
def tw3318271297559857428:=()
def tw146824360507680326:=()
def tw18433816085133602840:=()
def tw17483824070863400541:=()
def tw9695189309641605361:=()
def tw9172598862384304600:=()
def tw15050410911786139381:=()
def tw10898384187989925093:=()
def tw9882588544962747897:=()
def tw15148262482021920617:=()
def tw3604551898298608854:=()
def tw10293852401190483269:=()
def tw8725422729226489822:=()
def tw13151898106545983770:=()
def tw12559141341543732345:=()
def tw10912468113332147177:=()
def tw11985746418906816133:=()
def tw17035375742100209321:=()
def tw13883562021356238893:=()
def tw10059600771507999614:=()
def tw11997262315380331624:=()
def tw14103850456051002474:=()
def tw13413085955011689617:=()
def tw1009163242057766167:=()
def tw11274421741071638229:=()
def tw9478191972510882826:=()
def tw303437083725465339:=()
def tw9905964878911723039:=()
def tw2386555370942820037:=()
def tw8146114926438466496:=()
def tw11738301544378076380:=()
def tw14432013524679099677:=()
def tw13806739762349427621:=()
def tw4639978751031637316:=()
def tw16330842288899983:=()
def tw4029891116656966685:=()
def tw14432665704376902303:=()
def tw4704891782191393883:=()
def tw4246714771378336587:=()
def tw7283727809240812650:=()
def tw10259323073865440064:=()
def tw4021473817936850315:=()
def tw116507004380841700:=()
def tw14669207548333297286:=()
def tw1502246499742103450:=()
def tw16244382770082000588:=()
def tw17348726960521525924:=()
def tw12411514420639628764:=()
def tw14136357455992836237:=()
def tw3513236317723029743:=()
def tw4578374010456826204:=()
def tw4567361343751101450:=()
def tw5409912486233779510:=()
def tw1153337124037730635:=()
def tw9659188048286893075:=()
def tw8808464771622102883:=()
def tw15136759546086125079:=()
def tw4678483776915431448:=()
def tw9722357035376922195:=()
def tw4499758924045702189:=()
def tw6077340053436355809:=()
def tw6206558059923099193:=()
end PySem.W.Fast
open PySem PySem.W PyProof.Rows
set_option maxRecDepth 100000 in
set_option maxHeartbeats 0 in
theorem PySem.Challenge.cw_rimsteps_k80_rounds_written_holds : PySem.Challenge.rw_rimsteps_k80_rounds_written.Holds := by
  w_on;o_law;k_head;(case hw=>w_witness2)
  k_fill
  refine RR.walk (l:=PySem.Challenge.rw_rimsteps_k80_rounds_written) rfl rfl (L2.km_all (by decide)) ?F
  case F =>
    intro w mg fa h KX G hmg
    refine' RR.all_mk KX G hmg ?a0 ?l0 ?c0 ?k0 ?a1 ?l1 ?c1 ?k1 ?a2 ?l2 ?c2 ?k2 ?a3 ?l3 ?c3 ?k3 ?a4 ?l4 ?c4 ?k4 ?a5 ?l5 ?c5 ?k5 ?a6 ?l6 ?c6 ?k6 ?a7 ?l7 ?c7 ?k7 ?a8 ?l8 ?c8 ?k8 ?a9 ?l9 ?c9 ?k9 ?a10 ?l10 ?c10 ?k10 ?a11 ?l11 ?c11 ?k11 ?a12 ?l12 ?c12 ?k12 ?a13 ?l13 ?c13 ?k13 ?a14 ?l14 ?c14 ?k14 ?a15 ?l15 ?c15 ?k15 ?lc0 ?lh0 ?a16 ?l16 ?c16 ?k16 ?a17 ?l17 ?c17 ?k17 ?a18 ?l18 ?c18 ?k18 ?z_range ?z_len ?z_min ?z_sorted ?z_tuple ?z_int ?z_str ?z_isinstance ?z_list ?z_enumerate
    (case a0=>k_is)
    (case l0=>k_is)
    (case c0=>k_is)
    (case k0=>k_is)
    (case a1=>k_is)
    (case l1=>k_is)
    (case c1=>k_is)
    (case k1=>k_is)
    (case a2=>k_is)
    (case l2=>k_is)
    (case c2=>k_is)
    (case k2=>k_is)
    (case a3=>k_is)
    (case l3=>k_is)
    (case c3=>k_is)
    (case k3=>k_is)
    (case a4=>k_is)
    (case l4=>k_is)
    (case c4=>k_is)
    (case k4=>k_is)
    (case a5=>k_is)
    (case l5=>k_is)
    (case c5=>k_is)
    (case k5=>k_is)
    (case a6=>k_is)
    (case l6=>k_is)
    (case c6=>k_is)
    (case k6=>k_is)
    (case a7=>k_is)
    (case l7=>k_is)
    (case c7=>k_is)
    (case k7=>k_is)
    (case a8=>k_is)
    (case l8=>k_is)
    (case c8=>k_is)
    (case k8=>k_is)
    (case a9=>k_is)
    (case l9=>k_is)
    (case c9=>k_is)
    (case k9=>k_is)
    (case a10=>k_is)
    (case l10=>k_is)
    (case c10=>k_is)
    (case k10=>k_is)
    (case a11=>k_is)
    (case l11=>k_is)
    (case c11=>k_is)
    (case k11=>k_is)
    (case a12=>k_is)
    (case l12=>k_is)
    (case c12=>k_is)
    (case k12=>k_is)
    (case a13=>k_is)
    (case l13=>k_is)
    (case c13=>k_is)
    (case k13=>k_is)
    (case a14=>k_is)
    (case l14=>k_is)
    (case c14=>k_is)
    (case k14=>k_is)
    (case a15=>k_is)
    (case l15=>k_is)
    (case c15=>k_is)
    (case k15=>k_is)
    (case lc0=>k_is)
    (case lh0=>exact rfl)
    (case a16=>k_is)
    (case l16=>k_is)
    (case c16=>k_is)
    (case k16=>k_is)
    (case a17=>k_is)
    (case l17=>k_is)
    (case c17=>k_is)
    (case k17=>k_is)
    (case a18=>k_is)
    (case l18=>k_is)
    (case c18=>k_is)
    (case k18=>k_is)
    (case z_range=>k_is)
    (case z_len=>k_is)
    (case z_min=>k_is)
    (case z_sorted=>k_is)
    (case z_tuple=>k_is)
    (case z_int=>k_is)
    (case z_str=>k_is)
    (case z_isinstance=>k_is)
    (case z_list=>k_is)
    (case z_enumerate=>k_is)

import PyProof.Rows.All
import Wide.All
import OpenK.AllK
import Wide.FinOn
import Lean
import PyProof.EqAt
import PyProof.EqKinds
import PyProof.TupleCall
import PySem.Challenge.RW_rimsteps_k41_whole_sums_of_pictures
set_option Elab.async false
set_option linter.all false
set_option maxRecDepth 100000
namespace L2
open PySem PySem.Spec PyProof.Rows
abbrev Key:=Sum Int Str
def keyIs:Key→Value→Bool
 | .inl k,v=>Value.isInt k v
 | .inr x,v=>Value.isStrOf x v
def keyH (w:World):Key→Int
 | .inl k=>hashInt k
 | .inr x=>hashStr w x
theorem zbg:∀ {k:Key}{v:Value},keyIs k v=true→(∃ i t,k=Sum.inl i∧v=Value.int i t)∨(∃ x t,k=Sum.inr x∧v=Value.str x t)
 | .inl i,v,h=>by
  obtain⟨t,e⟩:=Value.isInt_shape (k:=i) (v:=v) h
  exact .inl ⟨i,t,rfl,e⟩
 | .inr x,v,h=>by
  obtain⟨t,e⟩:=Value.isStrOf_shape (x:=x) (v:=v) h
  exact .inr ⟨x,t,rfl,e⟩
theorem zjI (i:Int) (t:Tok):keyIs (.inl i) (.int i t)=true:=by simp[keyIs,Value.isInt]
theorem zjH (x:Str) (t:Tok):keyIs (.inr x) (.str x t)=true:=by simp[keyIs,Value.isStrOf]
theorem zmy (a b:Int):decide ((Sum.inl a:Key)=Sum.inl b)=(a == b):=by
 by_cases e:a=b
 ·subst e;simp
 ·have h:¬ (Sum.inl a:Key)=Sum.inl b:=fun q=>e (Sum.inl.inj q)
  rw[decide_eq_false h]
  exact (beq_eq_false_iff_ne.mpr e).symm
theorem zmv (a b:Str):decide ((Sum.inr a:Key)=Sum.inr b)=decide (a=b):=by
 by_cases e:a=b
 ·subst e;simp
 ·have h:¬ (Sum.inr a:Key)=Sum.inr b:=fun q=>e (Sum.inr.inj q)
  rw[decide_eq_false h,decide_eq_false e]
theorem zmx (a:Int) (b:Str):decide ((Sum.inl a:Key)=Sum.inr b)=false:=decide_eq_false (fun q=>nomatch q)
theorem zmw (a:Str) (b:Int):decide ((Sum.inr a:Key)=Sum.inl b)=false:=decide_eq_false (fun q=>nomatch q)
def zaS (prog:Program) (w:World):PySem.KeyKind prog w Key where
 is:=keyIs
 hash:=keyH w
 inj:=fun v a b ha hb=>by
  rcases zbg ha with⟨i,t,rfl,rfl⟩ | ⟨x,t,rfl,rfl⟩
  ·rcases zbg hb with⟨j,u,rfl,e⟩ | ⟨y,u,rfl,e⟩
   ·injection e with e1 _;rw[e1]
   ·exact nomatch e
  ·rcases zbg hb with⟨j,u,rfl,e⟩ | ⟨y,u,rfl,e⟩
   ·exact nomatch e
   ·injection e with e1 _;rw[e1]
 byValue:=fun k v h=>by
  rcases zbg h with⟨i,t,rfl,rfl⟩ | ⟨x,t,rfl,rfl⟩ <;> rfl
 pyHash:=fun hv h=>by
  rcases zbg hv with⟨i,t,rfl,rfl⟩ | ⟨x,t,rfl,rfl⟩
  ·exact wpAny_pyHash_int h
  ·exact wpAny_pyHash_str h
 eqBool:=fun hu hv h=>by
  rcases zbg hu with⟨i,t,rfl,rfl⟩ | ⟨x,t,rfl,rfl⟩
  ·rcases zbg hv with⟨j,u,rfl,rfl⟩ | ⟨y,u,rfl,rfl⟩
   ·rw[zmy] at h;exact wpAny_eqBool_int h
   ·rw[zmx] at h;exact SeqAt.EqAt.int_str i t y u _ _ _ _ h
  ·rcases zbg hv with⟨j,u,rfl,rfl⟩ | ⟨y,u,rfl,rfl⟩
   ·rw[zmw] at h;exact SeqAt.EqAt.str_int x t j u _ _ _ _ h
   ·rw[zmv] at h;exact wpAny_eqBool_str h
 «strs»:=fun k x t v h=>by
  rcases zbg h with⟨i,u,rfl,e⟩ | ⟨y,u,rfl,e⟩
  ·exact nomatch e
  ·injection e with e1 _
   subst e1
   cases v <;> rfl
theorem zhh (prog:Program) (w:World) (i:Int) (t:Tok):(zaS prog w).is (.inl i) (.int i t)=true:=zjI i t
theorem zck (prog:Program) (w:World) (x:Str) (t:Tok):(zaS prog w).is (.inr x) (.str x t)=true:=zjH x t
inductive V where
 | non | bl (b:Bool) | int (i:Int) | str (x:Str) | byt (b:Array UInt8) | flt (b:UInt64) | ref (a:Addr) | ty (n:String)
 deriving DecidableEq
def RelV:V→Value→Prop
 | .non,u=>u=Value.none
 | .bl b,u=>u=Value.bool b
 | .int i,u=>∃ t,u=Value.int i t
 | .str x,u=>∃ t,u=Value.str x t
 | .byt b,u=>∃ t,u=Value.bytes b t
 | .flt b,u=>∃ t,u=Value.float b t
 | .ref a,u=>u=Value.ref a
 | .ty n,u=>u=Value.type n
abbrev Vals:List V→List Value→Prop:=Paired RelV
theorem Vals.length {xs:List V}{us:List Value}(r:Vals xs us):xs.length=us.length:=Paired.length r
theorem Vals.get:∀ {xs:List V}{us:List Value}{i:Nat}{x:V},Vals xs us→xs[i]?=some x→∃ u,us[i]?=some u∧RelV x u
 | _,_,_,_,.nil,e=>by simp at e
 | _,_,0,_,.cons r _,e=>by simp at e;subst e;exact⟨_,rfl,r⟩
 | _,_,i+1,x,.cons _ t,e=>by
  obtain⟨u,h1,h2⟩:=Vals.get (i:=i) (x:=x) t (by simpa using e)
  exact⟨u,by simpa using h1,h2⟩
theorem Vals.set {x:V}{u:Value}(r:RelV x u):∀ {xs:List V}{us:List Value}(i:Nat),Vals xs us→Vals (xs.set i x) (us.set i u)
 | _,_,_,.nil=>.nil
 | _,_,0,.cons _ t=>.cons r t
 | _,_,i+1,.cons q t=>.cons q (Vals.set r i t)
theorem Vals.append:∀ {xs ys:List V}{us ws:List Value},Vals xs us→Vals ys ws→Vals (xs++ys) (us++ws)
 | _,_,_,_,.nil,s=>s
 | _,_,_,_,.cons r t,s=>.cons r (Vals.append t s)
theorem Vals.take:∀ {xs:List V}{us:List Value}(n:Nat),Vals xs us→Vals (xs.take n) (us.take n)
 | _,_,0,_=>.nil
 | _,_,_+1,.nil=>.nil
 | _,_,n+1,.cons r t=>.cons r (Vals.take n t)
theorem Vals.drop:∀ {xs:List V}{us:List Value}(n:Nat),Vals xs us→Vals (xs.drop n) (us.drop n)
 | _,_,0,r=>r
 | _,_,_+1,.nil=>.nil
 | _,_,n+1,.cons _ t=>Vals.drop n t
def RelO:Option V→Option Value→Prop
 | some v,some u=>RelV v u
 | none,none=>True
 | _,_=>False
def KV {κ:Type}:List (κ×V)→List (κ×Value)→Prop:=Paired fun (p:κ×V) (q:κ×Value)=>p.1=q.1∧RelV p.2 q.2
def kV:Key→V
 | .inl i=>.int i
 | .inr x=>.str x
inductive HO where
 /-- a list -/
 | lst (xs:List V)
 /-- a tuple (never changes) -/
 | tup (xs:List V)
 /-- a dict whose keys are ints and texts;one whose keys are tuples of ints and texts (the empty one is both) -/
 | dK (kvs:List (Key×V)) | dT (kvs:List (List Key×V))
 /-- a set of ints: its members,its size -/
 | set (S:Int→Bool) (n:Nat)
 /-- an instance of the class at C,its dict at dx,its attributes -/
 | ins (C dx:Addr) (fs:List (Str×V))
 /-- the dict of the instance at x -/
 | own (x:Addr)
 /-- the dict of an exception -/
 | xd (fs:List (Str×V))
 /-- a bound method,f of x -/
 | met (f x:Addr)
 /-- a range object lo,lo+1,.. below hi -/
 | rng (lo hi:Int)
 /-- a thing that is known to the object (the script;a dict while a loop walks it): read,never written while it is so -/
 | frz (o:Obj) (u:HO)
 /-- a code object's table -/
 | tbl (ps:Array Value)
 /-- any other thing,by what is true of its one object (a def of one's own: SetO a S n:=HO.ext fun h=>..) -/
 | ext (φ:Heap→Prop)
abbrev Hp:=Addr→Option HO
def upd (H:Hp) (a:Addr) (o:HO):Hp:=fun b=>if b=a then some o else H b
theorem zaa {H:Hp}{a:Addr}{o:HO}:upd H a o a=some o:=by unfold upd;rw[if_pos rfl]
theorem zam {H:Hp}{a b:Addr}{o:HO}(h:b≠a):upd H a o b=H b:=by unfold upd;rw[if_neg h]
theorem ziR {H:Hp}{a:Addr}{o u:HO}:upd (upd H a o) a u=upd H a u:=by
 funext b;unfold upd;split <;> rfl
theorem ne_of {H:Hp}{a b:Addr}{o u:HO}(h:H a=some o) (h':H b=some u) (d:o≠u):a≠b:=by
 intro e;subst e;rw[h] at h';exact d (Option.some.inj h')
theorem zaq {H:Hp}{a b:Addr}{o:HO}(h:H a=some o) (h':H b=none):a≠b:=by
 intro e;subst e;rw[h] at h';cases h'
section
variable (P:Program) (w:World)
def ObjOk (H:Hp) (h:Heap) (a:Addr):HO→Prop
  | .lst xs=>xs.length≤sizeLine∧∃ (its:List Value) (n:Nat),Vals xs its∧h.get? a=some { cls:=.type "list",data:=.seq its.toArray n }
  | .tup xs=>xs.length≤sizeLine∧∃ its:List Value,Vals xs its∧IsTup h a its.toArray
  | .dK kvs=>kvs.length≤sizeLine∧(a == sysModules)=false∧∃ vs,KV kvs vs∧h.DictOf (zaS P w) a vs
  | .dT kvs => kvs.length ≤ sizeLine ∧ (a == sysModules) = false ∧ ∃ xs : List (List Key × Addr × Value),
      Paired (fun (p:List Key×V) (q:List Key×Addr×Value)=>p.1=q.1∧H q.2.1=some (.tup (p.1.map kV))∧RelV p.2 q.2.2) kvs xs ∧
      ∃ o es ep,h.get? a=some o∧o.ExactDict∧o.data=.dict es ep∧es.toList=xs.map (entryOfKey (tupleKind (zaS P w)))∧(xs.map (·.1)).Nodup
  | .set S n=>h.SetOf (intKind P w) a S n
  | .ins C dx fs => H dx = some (.own a) ∧ fs.length ≤ 1000 ∧ dx ≠ a ∧ h.get? a = some (W.instObj C dx) ∧
      ∃ mA,h.Ns1 dx mA∧(∀ f,RelO (fs.lookup f) (mA f))∧PySem.Within mA (fs.map (·.1))
  | .own _=>∃ o,h.get? a=some o
  | .xd fs=>∃ mA,h.Ns1 a mA∧∀ f,RelO (fs.lookup f) (mA f)
  | .rng lo hi=>∃ t u v,h.get? a=some { cls:=.type "range",data:=.fields #[.int lo t,.int hi u,.int 1 v] }
  | .frz o u=>h.get? a=some o∧ObjOk H h a u
  | .tbl ps=>h.get? a=some { cls:=.none,data:=.fields ps }
  | .met f x=>h.get? a=some (W.methodObj (.ref f) (.ref x))
  | .ext φ=>φ h∧(∃ o,h.get? a=some o)∧∀ h1 h2:Heap,φ h1→(∀ o,h1.get? a=some o→h2.get? a=some o)→φ h2
def HOk (H:Hp) (h:Heap):Prop:=∀ a o,H a=some o→ObjOk P w H h a o
end
section
variable {P:Program}{w:World}{H H':Hp}{h h':Heap}{a:Addr}{o:HO}
theorem ObjOk.lt (x:ObjOk P w H h a o):a<h.objs.size:=by
 cases o with
 | lst xs=>obtain⟨_,_,_,_,e⟩:=x;exact Heap.lt_size e
 | tup xs=>obtain⟨_,_,_,p⟩:=x;exact p.lt
 | dK kvs=>obtain⟨_,_,_,_,o,_,_,e,_⟩:=x;exact Heap.lt_size e
 | dT kvs=>obtain⟨_,_,_,_,o,_,_,e,_⟩:=x;exact Heap.lt_size e
 | set S n=>obtain⟨o,_,_,_,e,_⟩:=x;exact Heap.lt_size e
 | ins C dx fs=>obtain⟨_,_,_,e,_⟩:=x;exact Heap.lt_size e
 | own y=>obtain⟨_,e⟩:=x;exact Heap.lt_size e
 | xd fs=>obtain⟨_,⟨_,_,_,e,_⟩,_⟩:=x;exact Heap.lt_size e
 | rng lo hi=>obtain⟨_,_,_,e⟩:=x;exact Heap.lt_size e
 | frz ob u=>obtain⟨e,_⟩:=x;exact Heap.lt_size e
 | tbl ps=>exact Heap.lt_size (show h.get? a=some _ from x)
 | met f y=>exact Heap.lt_size (show h.get? a=some _ from x)
 | ext φ=>obtain⟨_,⟨_,e⟩,_⟩:=x;exact Heap.lt_size e
theorem Paired.mapP {α β:Type}{F G:α→β→Prop}:∀ {l₁:List α}{l₂:List β},Paired F l₁ l₂→(∀ a b,F a b→G a b)→Paired G l₁ l₂
 | _,_,.nil,_=>.nil
 | _,_,.cons r t,f=>.cons (f _ _ r) (Paired.mapP t f)
theorem ObjOk.stay (x : ObjOk P w H h a o) (k : ∀ b u, (b = a ∨ H b = some (.own a)) → h.get? b = some u → h'.get? b = some u)
  (ho:∀ b,H b=some (.own a)→H' b=some (.own a)) (ht:∀ b xs,H b=some (.tup xs)→H' b=some (.tup xs)):ObjOk P w H' h' a o:=by
 induction o with
 | lst xs=>obtain⟨z,its,n,r,e⟩:=x;exact⟨z,its,n,r,k _ _ (.inl rfl) e⟩
 | tup xs=>obtain⟨z,its,r,ob,e,c⟩:=x;exact⟨z,its,r,ob,k _ _ (.inl rfl) e,c⟩
 | dK kvs=>obtain⟨z,y,vs,r,ob,es,ep,e,c⟩:=x;exact⟨z,y,vs,r,ob,es,ep,k _ _ (.inl rfl) e,c⟩
 | dT kvs =>
  obtain⟨z,y,xs,r,ob,es,ep,e,c⟩:=x
  exact⟨z,y,xs,Paired.mapP r fun p q z=>⟨z.1,ht _ _ z.2.1,z.2.2⟩,ob,es,ep,k _ _ (.inl rfl) e,c⟩
 | set S n=>obtain⟨ob,es,ep,t,e,c⟩:=x;exact⟨ob,es,ep,t,k _ _ (.inl rfl) e,c⟩
 | ins C dx fs =>
  obtain⟨d,z,ne,e,mA,⟨od,es,ep,e2,c⟩,r⟩:=x
  exact⟨ho _ d,z,ne,k _ _ (.inl rfl) e,mA,⟨od,es,ep,k _ _ (.inr d) e2,c⟩,r⟩
 | own y=>obtain⟨ob,e⟩:=x;exact⟨ob,k _ _ (.inl rfl) e⟩
 | xd fs=>obtain⟨mA,⟨od,es,ep,e,c⟩,r⟩:=x;exact⟨mA,⟨od,es,ep,k _ _ (.inl rfl) e,c⟩,r⟩
 | rng lo hi=>obtain⟨t,u,v,e⟩:=x;exact⟨t,u,v,k _ _ (.inl rfl) e⟩
 | frz ob u ih=>obtain⟨e,q⟩:=x;exact⟨k _ _ (.inl rfl) e,ih q⟩
 | tbl ps =>
  have e:h.get? a=some { cls:=.none,data:=.fields ps }:=x
  show h'.get? a=some { cls:=.none,data:=.fields ps }
  exact k a _ (.inl rfl) e
 | met f y =>
  have e:h.get? a=some (W.methodObj (.ref f) (.ref y)):=x
  show h'.get? a=some (W.methodObj (.ref f) (.ref y))
  exact k a _ (.inl rfl) e
 | ext φ=>obtain⟨p,⟨o,e⟩,st⟩:=x;exact⟨st _ _ p fun o q=>k _ _ (.inl rfl) q,⟨o,k _ _ (.inl rfl) e⟩,st⟩
theorem HOk.lt (x:HOk P w H h) (e:H a=some o):a<h.objs.size:=(x a o e).lt
theorem HOk.fresh (x:HOk P w H h) (e:h.objs.size≤a):H a=none:=by
 cases q:H a with
 | none=>rfl
 | some u=>exact absurd (Nat.lt_of_lt_of_le (x.lt q) e) (Nat.lt_irrefl _)
theorem HOk.kept (x:HOk P w H h) (k:∀ b u,h.get? b=some u→h'.get? b=some u):HOk P w H h':=fun a o e =>
 (x a o e).stay (fun b u _ q=>k b u q) (fun _ q=>q) fun _ _ q=>q
theorem HOk.laid (x:HOk P w H h) (k:∀ b u,h.get? b=some u→h'.get? b=some u) (hp:h.objs.size≤a) (new:ObjOk P w (upd H a o) h' a o):HOk P w (upd H a o) h':=fun b u e=>by
 have hn:=x.fresh hp
 by_cases hb:b=a
 ·subst hb;rw[zaa] at e;cases e;exact new
 ·rw[zam hb] at e
  exact (x b u e).stay (fun c v _ q=>k c v q) (fun c q=>by rw[zam (zaq q hn)];exact q) fun c xs q=>by rw[zam (zaq q hn)];exact q
end
def Rd (H:Hp) (a:Addr) (u:HO):Prop:=H a=some u∨∃ o,H a=some (.frz o u)
theorem Rd.of {H:Hp}{a:Addr}{u:HO}(h:H a=some u):Rd H a u:=.inl h
theorem Rd.ok {P:Program}{w:World}{H:Hp}{h:Heap}{a:Addr}{u:HO}(r:Rd H a u) (x:HOk P w H h):ObjOk P w H h a u:=by
 rcases r with r | ⟨o,r⟩
 ·exact x a u r
 ·obtain⟨_,q⟩:=x a _ r
  exact q
def Mut:Option HO→Prop
 | some (.lst _)=>True
 | some (.dK _)=>True
 | some (.dT _)=>True
 | some (.set _ _)=>True
 | some (.ins _ _ _)=>True
 | some (.ext _)=>True
 | _=>False
section
variable {P:Program}{w:World}{H:Hp}{h h':Heap}{x e:Addr}{o':HO}
theorem HOk.write (ok : HOk P w H h) (mu : Mut (H x)) (he : e = x ∨ H e = some (.own x)) (k : ∀ b u, b ≠ e → h.get? b = some u → h'.get? b = some u) (heo : ∃ u, h'.get? e = some u)
  (new:ObjOk P w (upd H x o') h' x o'):HOk P w (upd H x o') h':=fun b u q=>by
 have nown:∀ c y,H c=some (.own y)→c≠x:=fun c y r z=>by subst z;rw[r] at mu;exact mu
 have ntup:∀ c xs,H c=some (.tup xs)→c≠x:=fun c xs r z=>by subst z;rw[r] at mu;exact mu
 by_cases hb:b=x
 ·subst hb;rw[zaa] at q;cases q;exact new
 ·rw[zam hb] at q
  by_cases hbe:b=e
  ·have q' : H b = some (.own x) := by
    rcases he with z | z
    ·exact absurd (hbe.trans z) hb
    ·rw[hbe];exact z
   rw[q] at q';cases q'
   obtain⟨v,hv⟩:=heo
   exact⟨v,by rw[hbe];exact hv⟩
  ·refine (ok b u q).stay (fun c v hc r=>k c v ?_ r) (fun c r=>by rw[zam (nown c b r)];exact r) fun c xs r=>by rw[zam (ntup c xs r)];exact r
   rcases hc with rfl | hc
   ·exact hbe
   ·rintro rfl
    rcases he with z | z
    ·exact nown c b hc z
    ·rw[hc] at z;cases z;exact hb rfl
end
structure Un (fs ex:List Addr) (H H':Hp) (h h':Heap):Prop where
 keep:∀ b o,h.get? b=some o→H b=none→b ∉ fs→b ∉ ex→h'.get? b=some o
 slot:∀ b o,h.get? b=some o→H b=none→b∈fs→b ∉ ex→∃ sl,h'.get? b=some { o with slots:=sl }
 free:∀ b o,h.get? b=some o→H b=none→b ∉ ex→H' b=none
 there:∀ b o,h.get? b=some o→b ∉ ex→∃ o',h'.get? b=some o'
 tups:∀ b xs,H b=some (.tup xs)→H' b=some (.tup xs)
 frzs:∀ b o u,H b=some (.frz o u)→H' b=some (.frz o u)
 tbls:∀ b ps,H b=some (.tbl ps)→∃ more,H' b=some (.tbl (ps++more))
section
variable {fs fs' ex ex':List Addr}{H H1 H2:Hp}{h h1 h2 h':Heap}{a x e:Addr}{o:HO}
theorem Un.any (u:Un fs ex H H1 h h1){b:Addr}{ob:Obj}(q:h.get? b=some ob) (n:H b=none) (hx:b ∉ ex):∃ sl,h1.get? b=some { ob with slots:=sl }:=by
 by_cases hb:b∈fs
 ·exact u.slot b ob q n hb hx
 ·exact⟨ob.slots,u.keep b ob q n hb hx⟩
theorem Un.kept (k:∀ b u,h.get? b=some u→h'.get? b=some u):Un fs ex H H h h' :=
 ⟨fun b ob q _ _ _=>k b ob q,fun b ob q _ _ _=>⟨ob.slots,k b ob q⟩,fun _ _ _ n _=>n,fun b ob q _=>⟨ob,k b ob q⟩,fun _ _ q=>q,fun _ _ _ q=>q,fun _ ps q=>⟨#[],by rw[q];simp⟩⟩
theorem Un.refl:Un fs ex H H h h:=Un.kept fun _ _ q=>q
theorem Un.laid (k:∀ b u,h.get? b=some u→h'.get? b=some u) (hp:h.objs.size≤a) (hn:H a=none):Un fs ex H (upd H a o) h h' where
 keep:=fun b u q _ _ _=>k b u q
 slot:=fun b u q _ _ _=>⟨u.slots,k b u q⟩
 free:=fun b u q n _=>by rw[zam (Nat.ne_of_lt (Nat.lt_of_lt_of_le (Heap.lt_size q) hp))];exact n
 there:=fun b u q _=>⟨u,k b u q⟩
 tups:=fun b xs q=>by rw[zam (zaq q hn)];exact q
 frzs:=fun b u xs q=>by rw[zam (zaq q hn)];exact q
 tbls:=fun b ps q=>⟨#[],by rw[zam (zaq q hn),q];simp⟩
theorem Un.write (mu:Mut (H x)) (he:e=x∨H e=some (.own x)) (k:∀ b u,b≠e→h.get? b=some u→h'.get? b=some u) (heo:∃ u,h'.get? e=some u):Un fs ex H (upd H x o) h h':=by
 have hx:∀ b,H b=none→b≠x:=fun b n z=>by subst z;rw[n] at mu;exact mu
 have hb:∀ b,H b=none→b≠e:=fun b n z=>by
  subst z
  rcases he with r | r
  ·exact hx b n r
  ·rw[n] at r;cases r
 have hm:∀ b u,H b=some u→¬ Mut (some u)→b≠x:=fun b u q nm z=>by subst z;rw[q] at mu;exact nm mu
 refine⟨fun b u q n _ _=>k b u (hb b n) q,fun b u q n _ _=>⟨u.slots,k b u (hb b n) q⟩,fun b u q n _=>by rw[zam (hx b n)];exact n,fun b u q _=>?_,
  fun b xs q=>by rw[zam (hm b _ q fun z=>z)];exact q,fun b u xs q=>by rw[zam (hm b _ q fun z=>z)];exact q,fun b ps q=>⟨#[],by rw[zam (hm b _ q fun z=>z),q];simp⟩⟩
 by_cases hbe:b=e
 ·subst hbe;exact heo
 ·exact⟨u,k b u hbe q⟩
end
def trk (h:Heap) (H:Hp):List Addr:=(List.range h.objs.size).filter fun a=>(H a).isSome
def hidT (h:Heap) (H:Hp):Heap:=W.hideAll h (trk h H)
theorem zjR (h:Heap) (H:Hp):(hidT h H).objs.size=h.objs.size:=W.hideAll_size _ _
theorem zkR {h:Heap}{H:Hp}{b:Addr}{o:Obj}(e:h.get? b=some o) (n:H b=none):(hidT h H).get? b=some o :=
 W.hideAll_get _ e fun hm=>by
  have q:(H b).isSome=true:=(List.mem_filter.mp hm).2
  rw[n] at q;simp at q
theorem zlR {h:Heap}{H:Hp}{b:Addr}{o:Obj}(e:(hidT h H).get? b=some o):h.get? b=some o∧H b=none:=by
 have e':h.get? b=some o:=W.of_hideAll (trk h H) e
 refine⟨e',?_⟩
 cases q:H b with
 | none=>rfl
 | some x =>
  have hm:b∈trk h H:=List.mem_filter.mpr ⟨List.mem_range.mpr (Heap.lt_size e'),by simp[q]⟩
  have z:(hidT h H).get? b=none:=W.hideAll_none (trk h H) hm
  rw[z] at e;cases e
def zl3 (g h:Heap) (L:Addr):List (Addr×Obj):=(List.range h.objs.size).filterMap fun a=>if a=L∨(g.get? a).isSome=true then none else (h.get? a).map fun o=>(a,o)
def rest (g h:Heap) (L d:Addr):List (Addr×Obj):=(zl3 g h L).filter fun p=>decide (p.1≠d)
structure Mod (K:W.Frag) (mg:Str→Option Value) (base:Heap):Prop where
 kin:K.In base
 glob:base.Ns mainGlobals mg
 blt:∃ mb,base.Ns builtinsNs mb∧∀ x:Str,x ≠ "__name__" → mb x=bootBuiltins x
 nolimit:base.NoLimit
structure Cx where
 prog:Program
 w:World
 K:W.Frag
 mg:Str→Option Value
 base:Heap
 A:Around
 N:List Str
 s₀:Shared
 H₀:Hp
 env:Env
 outer:List Env
 stack:List Env
 ex:List Addr
 fn:Str→Bool
 calm:Bool
 pn:List (Addr×Obj)
 xe:Value→Shared→Prop
def frs (l:List Env):List Addr:=l.filterMap (·.frame)
abbrev Cx.fs (X:Cx):List Addr:=frs X.outer
def Vis (sc:Scope) (x:Str):Prop:=sc.names.lookup x=some .local∨sc.names.lookup x=some .cell∨sc.names.lookup x=some .free
def Loc (sc:Scope) (x:Str):Prop:=sc.names.lookup x=some .local∨sc.names.lookup x=some .cell
def Look (env:Env) (h:Heap) (m:Str→Option Value) (x:Str) (u:Value):Prop :=
 (env.kindOf x=some .local∧m x=some u)∨((env.kindOf x=some .cell∨env.kindOf x=some .free)∧∃ c,env.cells.lookup x=some c∧h.IsCell c (some u))
structure Cx.Ok (X:Cx):Prop where
 mod:Mod X.K X.mg X.base
 kind:X.env.scope.kind=.function
 glob:X.env.globals=mainGlobals
 blt:X.env.builtins=builtinsNs
 above:X.s₀.heap.objs.size≤X.env.locals
 inj:∀ x y c,X.env.cells.lookup x=some c→X.env.cells.lookup y=some c→x=y
 has:∀ x,(X.env.kindOf x=some .cell∨X.env.kindOf x=some .free)→∃ c,X.env.cells.lookup x=some c
 cab:∀ x c,X.fn x=true→X.env.cells.lookup x=some c→X.s₀.heap.objs.size≤c
 hd:X.calm=true→X.A.handled=none
 frames:X.A.frames=some X.stack
 stk:X.stack=X.outer∨(X.stack=X.env::X.outer∧X.env.frame=some X.env.locals)
 exf:∀ b∈X.ex,b≠X.env.locals∧∀ x c,X.env.cells.lookup x=some c→c≠b
 bs:∀ b o,X.base.get? b=some o→X.s₀.heap.get? b=some o∧X.H₀ b=none
 bsz:X.base.objs.size≤X.s₀.heap.objs.size
 noex:∀ b o,X.base.get? b=some o→b ∉ X.ex
 exfs:∀ b∈X.ex,b ∉ X.fs
 funs:X.s₀.heap.FunFrames X.base X.outer
 frf:∀ b∈X.fs,X.H₀ b=none
structure Inv (X:Cx) (pins:List (Addr×Obj)) (σ:List (Option V)) (H:Hp) (s:Shared):Prop where
 ok:X.Ok
 os:s.os=X.s₀.os
 bare:AllBare s.gens
 base:Un X.fs X.ex X.H₀ H X.s₀.heap s.heap
 loc:∃ m,s.heap.Ns X.env.locals m∧∀ (i:Nat) (x:Str) (v:V),X.N[i]?=some x→σ[i]?=some (some v)→Vis X.env.scope x→∃ u,RelV v u∧Look X.env s.heap m x u
 cell:∀ x c,X.env.cells.lookup x=some c→∃ v,s.heap.IsCell c v
 free:H X.env.locals=none
 freeC:∀ x c,X.env.cells.lookup x=some c→H c=none
 pin:∀ p∈X.pn++pins,s.heap.get? p.1=some p.2∧H p.1=none∧p.1≠X.env.locals∧p.1 ∉ X.fs∧∀ v,p.2.data≠.cell v
 hok:HOk X.prog X.w H s.heap
 len:σ.length=X.N.length
section
variable {X:Cx}{pins:List (Addr×Obj)}{σ:List (Option V)}{H H':Hp}{s:Shared}{h':Heap}
theorem Cx.Ok.nofr (ok:X.Ok){b:Addr}{o:Obj}(e:X.base.get? b=some o):b ∉ X.fs:=fun hb=>by
 have:=(ok.funs.mem hb).1
 rw[e] at this;cases this
theorem Inv.bs (I:Inv X pins σ H s):∀ b o,X.base.get? b=some o→s.heap.get? b=some o∧H b=none:=fun b o e =>
 ⟨I.base.keep b o (I.ok.bs b o e).1 (I.ok.bs b o e).2 (I.ok.nofr e) (I.ok.noex b o e),I.base.free b o (I.ok.bs b o e).1 (I.ok.bs b o e).2 (I.ok.noex b o e)⟩
theorem Inv.bk (I:Inv X pins σ H s):∀ b o,X.base.get? b=some o→s.heap.get? b=some o:=fun b o e=>(I.bs b o e).1
theorem Inv.mod (I:Inv X pins σ H s):Mod X.K X.mg X.base:=I.ok.mod
theorem Inv.kIn (I:Inv X pins σ H s):X.K.In s.heap:=I.ok.mod.kin.keeps I.bk
theorem Inv.lt (I:Inv X pins σ H s):X.env.locals<s.heap.objs.size:=let ⟨_,hn,_⟩:=I.loc;hn.lt
theorem Inv.sz (I:Inv X pins σ H s):X.s₀.heap.objs.size≤s.heap.objs.size:=Nat.le_trans I.ok.above (Nat.le_of_lt I.lt)
theorem Inv.nofs (I:Inv X pins σ H s){a:Addr}(h:s.heap.objs.size≤a):a ∉ X.fs:=fun hb=>by
 obtain⟨_,o,ho,_⟩:=I.ok.funs.mem hb
 exact absurd (Nat.lt_of_lt_of_le (Heap.lt_size ho) (Nat.le_trans I.sz h)) (Nat.lt_irrefl _)
theorem Inv.cne (I:Inv X pins σ H s):∀ x c,X.env.cells.lookup x=some c→c≠X.env.locals:=fun x c e z=>by
 obtain⟨v,o,ho,hd⟩:=I.cell x c e
 obtain⟨m,⟨o',es,ep,ho',hd',_⟩,_⟩:=I.loc
 rw[z,ho'] at ho;cases ho;rw[hd'] at hd;cases hd
theorem Inv.funs (I:Inv X pins σ H s):s.heap.FunFrames X.base X.outer:=by
 have all:∀ (l:List Env),(∀ b∈frs l,b∈X.fs)→X.s₀.heap.FunFrames X.base l→s.heap.FunFrames X.base l:=by
  intro l
  induction l with
  | nil=>intro _ _;trivial
  | cons env r ih =>
   intro hs hl
   obtain⟨hk,⟨L,o,hf,hn,ho,hd⟩,hr⟩:=hl
   have hL:L∈X.fs:=hs L (by unfold frs;rw[List.filterMap_cons,hf];exact List.mem_cons_self)
   obtain⟨sl,e⟩:=I.base.slot L o ho (I.ok.frf L hL) hL fun z=>I.ok.exfs L z hL
   exact⟨hk,⟨L,_,hf,hn,e,hd⟩,ih (fun b hb=>hs b (by unfold frs;rw[List.filterMap_cons,hf];exact List.mem_cons_of_mem _ hb)) hr⟩
 exact all X.outer (fun _ hb=>hb) I.ok.funs
theorem Inv.stack (I:Inv X pins σ H s):s.heap.FunFrames X.base X.stack:=by
 rcases I.ok.stk with e | ⟨e,hf⟩
 ·rw[e];exact I.funs
 ·rw[e]
  obtain⟨m,hn,_⟩:=I.loc
  refine .cons (by rw[I.ok.kind];decide) hf hn ?_ I.funs
  exact Heap.get?_none_of_le (Nat.le_trans I.ok.bsz I.ok.above)
theorem Inv.stkSub (I:Inv X pins σ H s):∀ b∈frs X.stack,b∈X.env.locals::X.fs:=fun b hb=>by
 rcases I.ok.stk with e | ⟨e,hf⟩
 ·rw[e] at hb;exact List.mem_cons_of_mem _ hb
 ·rw[e] at hb
  unfold frs at hb
  rw[List.filterMap_cons,hf] at hb
  exact hb
theorem Inv.stkFree (I:Inv X pins σ H s):∀ b∈frs X.stack,H b=none:=fun b hb=>by
 rcases List.mem_cons.mp (I.stkSub b hb) with e | hb
 ·rw[e];exact I.free
 ·obtain⟨_,o,ho,_⟩:=I.ok.funs.mem hb
  exact I.base.free b o ho (I.ok.frf b hb) fun z=>I.ok.exfs b z hb
theorem Inv.step {g' : Array GenState}{t' : Nat}{d' : Drawn}{ch : List Addr}(I : Inv X pins σ H s)
  (hch:∀ b∈ch,(b∈X.ex∨X.s₀.heap.objs.size≤b)∧b≠X.env.locals∧(∀ x c,X.env.cells.lookup x=some c→c≠b)∧∀ p∈X.pn++pins,p.1≠b)
  (keep:∀ b o,b≠X.env.locals→b ∉ X.fs→b ∉ ch→s.heap.get? b=some o→H b=none→h'.get? b=some o)
  (slot:∀ b o,b≠X.env.locals→b∈X.fs→b ∉ ch→s.heap.get? b=some o→H b=none→∃ sl,h'.get? b=some { o with slots:=sl }) (free:∀ b o,b ∉ ch→s.heap.get? b=some o→H b=none→H' b=none)
  (there:∀ b o,b ∉ ch→s.heap.get? b=some o→∃ o',h'.get? b=some o')
  (tups:∀ b xs,H b=some (.tup xs)→H' b=some (.tup xs)) (frzs:∀ b o u,H b=some (.frz o u)→H' b=some (.frz o u)) (tbls:∀ b ps,H b=some (.tbl ps)→∃ more,H' b=some (.tbl (ps++more)))
  (ns:∀ m,s.heap.Ns X.env.locals m→h'.Ns X.env.locals m) (hok:HOk X.prog X.w H' h') (hg:AllBare g') :
  Inv X pins σ H' { s with heap:=h',gens:=g',drawn:=d',toks:=t' }:=by
 have neL:∀ b o,X.s₀.heap.get? b=some o→b≠X.env.locals:=fun b o e=>Nat.ne_of_lt (Nat.lt_of_lt_of_le (Heap.lt_size e) I.ok.above)
 have neC:∀ b o,X.s₀.heap.get? b=some o→b ∉ X.ex→b ∉ ch:=fun b o e hx hb=>by
  rcases (hch b hb).1 with z | z
  ·exact hx z
  ·exact absurd (Nat.lt_of_lt_of_le (Heap.lt_size e) z) (Nat.lt_irrefl _)
 have cellK:∀ x c,X.env.cells.lookup x=some c→∀ v,s.heap.IsCell c v→h'.IsCell c v:=fun x c e v ⟨o,ho,hd⟩=>by
  have nch:c ∉ ch:=fun z=>(hch c z).2.2.1 x c e rfl
  by_cases hc:c∈X.fs
  ·obtain⟨sl,q⟩:=slot c o (I.cne x c e) hc nch ho (I.freeC x c e)
   exact⟨_,q,hd⟩
  ·exact⟨o,keep c o (I.cne x c e) hc nch ho (I.freeC x c e),hd⟩
 refine⟨I.ok,I.os,hg,⟨fun b o e n hb hx=>?_,fun b o e n hb hx=>?_,fun b o e n hx=>?_,fun b o e hx=>?_,fun b xs e=>tups b xs (I.base.tups b xs e),fun b o xs e=>frzs b o xs (I.base.frzs b o xs e),fun b ps e=>?_⟩,?_,fun x c e=>?_,?_,fun x c e=>?_,fun p hp=>?_,hok,I.len⟩
 ·exact keep b o (neL b o e) hb (neC b o e hx) (I.base.keep b o e n hb hx) (I.base.free b o e n hx)
 ·obtain⟨sl,e1⟩:=I.base.slot b o e n hb hx
  obtain⟨sl',e2⟩:=slot b _ (neL b o e) hb (neC b o e hx) e1 (I.base.free b o e n hx)
  exact⟨sl',e2⟩
 ·obtain⟨o',e1⟩:=I.base.there b o e hx
  exact free b o' (neC b o e hx) e1 (I.base.free b o e n hx)
 ·obtain⟨o',e1⟩:=I.base.there b o e hx
  exact there b o' (neC b o e hx) e1
 ·obtain⟨m1,e1⟩:=I.base.tbls b ps e
  obtain⟨m2,e2⟩:=tbls b _ e1
  exact⟨m1++m2,by rw[e2,Array.append_assoc]⟩
 ·obtain⟨m,hn,hl⟩:=I.loc
  refine⟨m,ns m hn,fun i x v e1 e2 e3=>?_⟩
  obtain⟨u,r,l⟩:=hl i x v e1 e2 e3
  refine⟨u,r,?_⟩
  rcases l with l | ⟨k,c,e,z⟩
  ·exact .inl l
  ·exact .inr ⟨k,c,e,cellK x c e _ z⟩
 ·obtain⟨v,z⟩:=I.cell x c e
  exact⟨v,cellK x c e v z⟩
 ·obtain⟨m,⟨o,_,_,ho,_⟩,_⟩:=I.loc
  exact free _ o (fun z=>(hch _ z).2.1 rfl) ho I.free
 ·obtain⟨v,o,ho,hd⟩:=I.cell x c e
  exact free c o (fun z=>(hch c z).2.2.1 x c e rfl) ho (I.freeC x c e)
 ·obtain⟨e,n,ne,nf,d⟩:=I.pin p hp
  have nch:p.1 ∉ ch:=fun z=>(hch p.1 z).2.2.2 p hp rfl
  exact⟨keep p.1 p.2 ne nf nch e n,free p.1 p.2 nch e n,ne,nf,d⟩
theorem Inv.un {t':Nat}(I:Inv X pins σ H s) (u:Un X.fs [] H H' s.heap h') (hok:HOk X.prog X.w H' h'):Inv X pins σ H' { s with heap:=h',toks:=t' }:=by
 obtain⟨m,⟨o,es,ep,ho,r⟩,_⟩:=id I.loc
 obtain⟨sl,hL⟩:=u.any ho I.free (by simp)
 exact I.step (g':=s.gens) (d':=s.drawn) (ch:=[]) (fun _ z=>nomatch z) (fun b o _ hb _ e n=>u.keep b o e n hb (by simp)) (fun b o _ hb _ e n=>u.slot b o e n hb (by simp)) (fun b o _ e n=>u.free b o e n (by simp)) (fun b o _ e=>u.there b o e (by simp)) u.tups u.frzs u.tbls (fun m' hm=>by
  obtain⟨o',es',ep',ho',r'⟩:=hm
  rw[ho] at ho';cases ho'
  exact⟨_,es',ep',hL,r'⟩) hok I.bare
theorem Inv.call {g' : Array GenState}{t' : Nat}{d' : Drawn}{ch : List Addr}(I : Inv X pins σ H s) (u : Un (frs X.stack) ch H H' s.heap h') (hok : HOk X.prog X.w H' h') (hg : AllBare g')
  (hch:∀ b∈ch,(b∈X.ex∨X.s₀.heap.objs.size≤b)∧b≠X.env.locals∧(∀ x c,X.env.cells.lookup x=some c→c≠b)∧∀ p∈X.pn++pins,p.1≠b) :
  Inv X pins σ H' { s with heap:=h',gens:=g',drawn:=d',toks:=t' }:=by
 obtain⟨m,⟨o,es,ep,ho,r⟩,_⟩:=id I.loc
 obtain⟨sl,hL⟩:=u.any ho I.free fun z=>(hch _ z).2.1 rfl
 exact I.step (ch:=ch) hch (fun b o hL hb hc e n=>u.keep b o e n (fun z=>(List.mem_cons.mp (I.stkSub b z)).elim hL hb) hc) (fun b o _ _ hc e n=>u.any e n hc) (fun b o hc e n=>u.free b o e n hc) (fun b o hc e=>u.there b o e hc) u.tups u.frzs u.tbls (fun m' hm=>by
  obtain⟨o',es',ep',ho',r'⟩:=hm
  rw[ho] at ho';cases ho'
  exact⟨_,es',ep',hL,r'⟩) hok hg
theorem Inv.turned {t' : Nat}{it : Addr}(I : Inv X pins σ H s) (k : ∀ b o, b ≠ it → s.heap.get? b = some o → h'.get? b = some o) (hn : H it = none) (hL : it ≠ X.env.locals)
  (h1:it∈X.ex∨X.s₀.heap.objs.size≤it) (h2:∀ x c,X.env.cells.lookup x=some c→c≠it) (h3:∀ p∈X.pn++pins,p.1≠it):Inv X pins σ H { s with heap:=h',toks:=t' }:=by
 have nit:∀ b u,H b=some u→b≠it:=fun b u e z=>by rw[z,hn] at e;cases e
 refine I.step (g':=s.gens) (d':=s.drawn) (ch:=[it]) (fun b hb=>?_) (fun b o _ _ hc e _=>k b o (fun z=>hc (by simp[z])) e) (fun b o _ _ hc e _=>⟨o.slots,k b o (fun z=>hc (by simp[z])) e⟩) (fun _ _ _ _ n=>n)
  (fun b o hc e=>⟨o,k b o (fun z=>hc (by simp[z])) e⟩) (fun _ _ e=>e) (fun _ _ _ e=>e) (fun b ps e=>⟨#[],by rw[e];simp⟩) (fun m hm=>?_) (fun b u e=>?_) I.bare
 ·have e:b=it:=by simpa using hb
  subst e
  exact⟨h1,hL,h2,h3⟩
 ·obtain⟨o,es,ep,ho,r⟩:=hm
  exact⟨o,es,ep,k _ o (Ne.symm hL) ho,r⟩
 ·refine (I.hok b u e).stay (fun c v hc q=>k c v ?_ q) (fun _ q=>q) fun _ _ q=>q
  rcases hc with z | z
  ·rw[z];exact nit b u e
  ·exact nit c _ z
theorem Inv.tok (I:Inv X pins σ H s) (t:Nat):Inv X pins σ H { s with toks:=t }:=I.un (h':=s.heap) (t':=t) Un.refl I.hok
theorem Inv.kept {t':Nat}(I:Inv X pins σ H s) (k:∀ b u,s.heap.get? b=some u→h'.get? b=some u):Inv X pins σ H { s with heap:=h',toks:=t' }:=I.un (Un.kept k) (I.hok.kept k)
theorem Inv.laid {a : Addr}{o : HO}{t' : Nat}(I : Inv X pins σ H s) (k : ∀ b u, s.heap.get? b = some u → h'.get? b = some u) (hp : s.heap.objs.size ≤ a) (new : ObjOk X.prog X.w (upd H a o) h' a o) :
  Inv X pins σ (upd H a o) { s with heap:=h',toks:=t' }:=I.un (Un.laid k hp (I.hok.fresh hp)) (I.hok.laid k hp new)
theorem Inv.write {x e : Addr}{o : HO}{t' : Nat}(I : Inv X pins σ H s) (mu : Mut (H x)) (he : e = x ∨ H e = some (.own x)) (k : ∀ b u, b ≠ e → s.heap.get? b = some u → h'.get? b = some u) (heo : ∃ u, h'.get? e = some u)
  (new:ObjOk X.prog X.w (upd H x o) h' x o):Inv X pins σ (upd H x o) { s with heap:=h',toks:=t' }:=I.un (Un.write mu he k heo) (I.hok.write mu he k heo new)
theorem Inv.pins_of {pins':List (Addr×Obj)}(I:Inv X pins σ H s) (h:∀ p∈pins',s.heap.get? p.1=some p.2∧H p.1=none∧p.1≠X.env.locals∧p.1 ∉ X.fs∧∀ v,p.2.data≠.cell v):Inv X pins' σ H s :=
 ⟨I.ok,I.os,I.bare,I.base,I.loc,I.cell,I.free,I.freeC,fun p hp=>(List.mem_append.mp hp).elim (fun z=>I.pin p (List.mem_append_left _ z)) (h p),I.hok,I.len⟩
theorem zhU {N:List Str}(hN:N.Nodup){i j:Nat}{x:Str}(a:N[i]?=some x) (b:N[j]?=some x):i=j:=by
 obtain⟨h1,e1⟩:=List.getElem?_eq_some_iff.mp a
 obtain⟨h2,e2⟩:=List.getElem?_eq_some_iff.mp b
 exact (List.getElem_inj hN).mp (e1.trans e2.symm)
theorem zfY {M : Model}{A : Around}{E : Value → Shared → Prop}{i : Nat}{x : Str}{v : V}{u : Value}{Q : Unit → Shared → Prop}(I : Inv X pins σ H s) (hN : X.N.Nodup) (hi : X.N[i]? = some x) (hx : Loc X.env.scope x) (r : RelV v u)
  (h:∀ s',Inv X pins (σ.set i (some v)) H s'→(∃ a,Heap.SameBut a s.heap s'.heap∧(a=X.env.locals∨X.env.cells.lookup x=some a))→Q () s') (hf:X.fn x=true∨X.env.scope.names.lookup x=some .local:=by first | exact .inl rfl | exact .inr rfl | assumption):wpAny M A (storeName X.env x u) Q E s:=by
 obtain⟨m,hn,hl⟩:=id I.loc
 have hcls:(X.env.scope.kind == .class || (X.env.scope.kind == .module && X.env.locals != X.env.globals))=false:=by rw[I.ok.kind];rfl
 have hiσ:i<σ.length:=by rw[I.len];exact (List.getElem?_eq_some_iff.mp hi).1
 have cne:=I.cne
 have tracked:∀ {a:Addr} {h':Heap},(∃ o,s.heap.get? a=some o∧H a=none)→Heap.SameBut a s.heap h'→HOk X.prog X.w H h':=fun {a h'} ha hs b ob e=>by
  obtain⟨_,_,hfree⟩:=ha
  refine (I.hok b ob e).stay (fun c w' hc q=>(hs.2 c ?_).trans q) (fun _ q=>q) fun _ _ q=>q
  rintro rfl
  rcases hc with rfl | hc
  ·rw[hfree] at e;cases e
  ·rw[hfree] at hc;cases hc
 rcases hx with hk | hk
 ·refine wpAny_storeName_local hk hn (fun h' hn' hs=>?_) hcls
  obtain⟨oL,_,_,hoL,_⟩:=id hn
  refine h _ ⟨I.ok,I.os,I.bare,⟨fun b o e n hb hx=>?_,fun b o e n hb hx=>?_,I.base.free,fun b o e hx=>?_,I.base.tups,I.base.frzs,I.base.tbls⟩,⟨_,hn',fun j y v' e1 e2 e3=>?_⟩,fun y c e=>?_,I.free,I.freeC,fun p hp=>?_,tracked ⟨oL,hoL,I.free⟩ hs,by simpa using I.len⟩ ⟨_,hs,.inl rfl⟩
  ·exact (hs.2 b (Nat.ne_of_lt (Nat.lt_of_lt_of_le (Heap.lt_size e) I.ok.above))).trans (I.base.keep b o e n hb hx)
  ·obtain⟨sl,e1⟩:=I.base.slot b o e n hb hx
   exact⟨sl,(hs.2 b (Nat.ne_of_lt (Nat.lt_of_lt_of_le (Heap.lt_size e) I.ok.above))).trans e1⟩
  ·obtain⟨o',e1⟩:=I.base.there b o e hx
   exact⟨o',(hs.2 b (Nat.ne_of_lt (Nat.lt_of_lt_of_le (Heap.lt_size e) I.ok.above))).trans e1⟩
  ·by_cases hj:j=i
   ·subst hj
    rw[hi] at e1;cases e1
    rw[List.getElem?_set_self hiσ] at e2
    cases e2
    exact⟨u,r,.inl ⟨hk,by simp⟩⟩
   ·rw[List.getElem?_set_ne (Ne.symm hj)] at e2
    obtain⟨u',r',q⟩:=hl j y v' e1 e2 e3
    refine⟨u',r',?_⟩
    rcases q with⟨k,e⟩ | ⟨k,c,e,z⟩
    ·refine .inl ⟨k,?_⟩
     have:y≠x:=fun e=>hj (zhU hN e1 (e ▸ hi))
     simp[this,e]
    ·exact .inr ⟨k,c,e,z.sameBut hs (cne y c e)⟩
  ·obtain⟨w',z⟩:=I.cell y c e
   exact⟨w',z.sameBut hs (cne y c e)⟩
  ·obtain⟨e,n,ne,nf,d⟩:=I.pin p hp
   exact⟨(hs.2 p.1 ne).trans e,n,ne,nf,d⟩
 ·have hfn : X.fn x = true := by
   rcases hf with z | z
   ·exact z
   ·rw[z] at hk;cases hk
  obtain⟨c,hc⟩:=I.ok.has x (.inl hk)
  obtain⟨w',z⟩:=I.cell x c hc
  refine wpAny_storeName_cell I.ok.kind hk hc z (fun h' hc' hs=>?_)
  obtain⟨oc,hoc,hocd⟩:=id z
  refine h { s with heap:=h' } ⟨I.ok,I.os,I.bare,⟨fun b o e n hb hx=>?_,fun b o e n hb hx=>?_,I.base.free,fun b o e hx=>?_,I.base.tups,I.base.frzs,I.base.tbls⟩,⟨m,hn.sameBut hs (Ne.symm (cne x c hc)),fun j y v' e1 e2 e3=>?_⟩,fun y c' e=>?_,I.free,I.freeC,fun p hp=>?_,tracked ⟨oc,hoc,I.freeC x c hc⟩ hs,by simpa using I.len⟩ ⟨c,hs,.inr hc⟩
  ·exact (hs.2 b (Nat.ne_of_lt (Nat.lt_of_lt_of_le (Heap.lt_size e) (I.ok.cab x c hfn hc)))).trans (I.base.keep b o e n hb hx)
  ·obtain⟨sl,e1⟩:=I.base.slot b o e n hb hx
   exact⟨sl,(hs.2 b (Nat.ne_of_lt (Nat.lt_of_lt_of_le (Heap.lt_size e) (I.ok.cab x c hfn hc)))).trans e1⟩
  ·obtain⟨o',e1⟩:=I.base.there b o e hx
   exact⟨o',(hs.2 b (Nat.ne_of_lt (Nat.lt_of_lt_of_le (Heap.lt_size e) (I.ok.cab x c hfn hc)))).trans e1⟩
  ·by_cases hj:j=i
   ·subst hj
    rw[hi] at e1;cases e1
    rw[List.getElem?_set_self hiσ] at e2
    cases e2
    exact⟨u,r,.inr ⟨.inl hk,c,hc,hc'⟩⟩
   ·rw[List.getElem?_set_ne (Ne.symm hj)] at e2
    obtain⟨u',r',q⟩:=hl j y v' e1 e2 e3
    refine⟨u',r',?_⟩
    rcases q with q | ⟨k,c',e,z'⟩
    ·exact .inl q
    ·refine .inr ⟨k,c',e,z'.sameBut hs ?_⟩
     rintro rfl
     exact hj (zhU hN e1 (I.ok.inj _ _ _ e hc ▸ hi))
  ·by_cases hcc:c'=c
   ·subst hcc;exact⟨_,hc'⟩
   ·obtain⟨w2,z2⟩:=I.cell y c' e
    exact⟨w2,z2.sameBut hs hcc⟩
  ·obtain⟨e,n,ne,nf,d⟩:=I.pin p hp
   refine⟨(hs.2 p.1 ?_).trans e,n,ne,nf,d⟩
   intro q
   rw[q,hoc] at e
   have q':oc=p.2:=Option.some.inj e
   exact d w' (by rw[← q'];exact hocd)
theorem zfc {M : Model}{A : Around}{E : Value → Shared → Prop}{i : Nat}{x : Str}{v : V}{u : Value}{Q : Unit → Shared → Prop}(I : Inv X pins σ H s) (hN : X.N.Nodup) (hi : X.N[i]? = some x) (hx : Loc X.env.scope x) (r : RelV v u)
  (h:∀ s',Inv X pins (σ.set i (some v)) H s'→Q () s') (hf:X.fn x=true∨X.env.scope.names.lookup x=some .local:=by first | exact .inl rfl | exact .inr rfl | assumption):wpAny M A (storeName X.env x u) Q E s :=
 zfY I hN hi hx r (fun s' I' _=>h s' I') hf
theorem Inv.call' {s' : Shared}{ch : List Addr}(I : Inv X pins σ H s) (ho : s'.os = s.os) (u : Un (frs X.stack) ch H H' s.heap s'.heap) (hok : HOk X.prog X.w H' s'.heap) (hg : AllBare s'.gens)
  (hch:∀ b∈ch,(b∈X.ex∨X.s₀.heap.objs.size≤b)∧b≠X.env.locals∧(∀ x c,X.env.cells.lookup x=some c→c≠b)∧∀ p∈X.pn++pins,p.1≠b):Inv X pins σ H' s':=by
 obtain⟨h',g',d',t',o'⟩:=s'
 have e:o'=s.os:=ho
 subst e
 exact I.call (g':=g') (t':=t') (d':=d') u hok hg hch
end
abbrev XK:=Value→Option Addr→Hp→Prop
abbrev St:=List (Option V)
abbrev VK:=V→Hp→Prop
abbrev TE:=St→Hp→VK→Prop
abbrev TT:=St→Hp→(Bool→Hp→Prop)→Prop
abbrev TA:=St→Hp→(List V→Hp→Prop)→Prop
structure Ends where
 nx:St→Hp→Prop
 rt:VK
 bk:St→Hp→Prop:=fun _ _=>False
 ct:St→Hp→Prop:=fun _ _=>False
abbrev TS:=Ends→St→Hp→Prop
def EP (X:Cx) (pins:List (Addr×Obj)) (σ:St) (Q:VK) (u:Value) (s':Shared):Prop:=∃ v H',Inv X pins σ H' s'∧RelV v u∧Q v H'
def TP (X:Cx) (pins:List (Addr×Obj)) (σ:St) (Q:Bool→Hp→Prop) (b:Bool) (s':Shared):Prop:=∃ H',Inv X pins σ H' s'∧Q b H'
def AP (X:Cx) (pins:List (Addr×Obj)) (σ:St) (Q:List V→Hp→Prop) (us:List Value) (s':Shared):Prop:=∃ vs H',Inv X pins σ H' s'∧Vals vs us∧Q vs H'
def SP (X:Cx) (pins:List (Addr×Obj)) (D:Ends) (f:Flow) (s':Shared):Prop :=
 match f with
 | .next=>∃ σ' H',Inv X pins σ' H' s'∧D.nx σ' H'
 | .brk=>∃ σ' H',Inv X pins σ' H' s'∧D.bk σ' H'
 | .cont=>∃ σ' H',Inv X pins σ' H' s'∧D.ct σ' H'
 | .ret u=>∃ v σ' H',Inv X pins σ' H' s'∧RelV v u∧D.rt v H'
def PE (X:Cx) (e:Expr) (t:TE):Prop :=
 ∀ (pins:List (Addr×Obj)) (s:Shared) (σ:St) (H:Hp) (Q:VK),Inv X pins σ H s→t σ H Q→wpAny (model X.prog X.w) X.A (eval e X.env) (EP X pins σ Q) X.xe s
def PT (X:Cx) (e:Expr) (t:TT):Prop :=
 ∀ (pins:List (Addr×Obj)) (s:Shared) (σ:St) (H:Hp) (Q:Bool→Hp→Prop),Inv X pins σ H s→t σ H Q→wpAny (model X.prog X.w) X.A (isTrue e X.env (eval e X.env)) (TP X pins σ Q) X.xe s
def PW (X:Cx) (e:Expr) (t:TT):Prop :=
 ∀ (whole:Sem Value) (pins:List (Addr×Obj)) (s:Shared) (σ:St) (H:Hp) (Q:Bool→Hp→Prop),Inv X pins σ H s→t σ H Q→wpAny (model X.prog X.w) X.A (isTrue e X.env whole) (TP X pins σ Q) X.xe s
theorem PW.pt {X:Cx}{e:Expr}{t:TT}(h:PW X e t):PT X e t:=h _
def PA (X:Cx) (es:List Expr) (t:TA):Prop :=
 ∀ (pos:Pos) (pins:List (Addr×Obj)) (s:Shared) (σ:St) (H:Hp) (Q:List V→Hp→Prop),Inv X pins σ H s→t σ H Q→wpAny (model X.prog X.w) X.A (spliced (backTo pos (starEach es X.env))) (AP X pins σ Q) X.xe s
def PS (X:Cx) (st:Stmt) (t:TS):Prop :=
 ∀ (pins:List (Addr×Obj)) (s:Shared) (σ:St) (H:Hp) (D:Ends),Inv X pins σ H s→t D σ H→wpAny (model X.prog X.w) X.A (exec st X.env) (SP X pins D) X.xe s
def PSs (X:Cx) (st:List Stmt) (t:TS):Prop :=
 ∀ (pins:List (Addr×Obj)) (s:Shared) (σ:St) (H:Hp) (D:Ends),Inv X pins σ H s→t D σ H→wpAny (model X.prog X.w) X.A (execs st X.env) (SP X pins D) X.xe s
theorem thn {α:Type}{t:Sem α}{Q Q':α→Shared→Prop}{M:Model}{A:Around}{E:Value→Shared→Prop}{s:Shared}(h:wpAny M A t Q E s) (hQ:∀ a s,Q a s→Q' a s):wpAny M A t Q' E s:=wpAny_mono h hQ fun _ _ x=>x
section
variable {X:Cx}
def tVar (i:Nat):TE:=fun σ H Q=>∃ v,σ[i]?=some (some v)∧Q v H
def tC (v:V):TE:=fun _ H Q=>Q v H
theorem zmm {i:Nat}{x:Str}{pos:Pos}(hN:X.N[i]?=some x) (hv:Vis X.env.scope x) (hd:(x == ("__debug__" : Str))=false:=by decide) (hcd:(x == ("__classdict__" : Str))=false:=by decide):PE X (.Name x pos) (tVar i):=by
 intro pins s σ H Q I h
 obtain⟨v,e,h⟩:=h
 obtain⟨m,hn,hl⟩:=I.loc
 obtain⟨u,r,l⟩:=hl i x v hN e hv
 have fin:EP X pins σ Q u s:=⟨v,H,I,r,h⟩
 rcases l with⟨hk,hm⟩ | ⟨hk,c,hc,hcell⟩
 ·exact wpAny_Name (wpAny_loadName_local I.ok.kind hk hn hm fin) hd
 ·rcases hk with hk | hk
  ·exact wpAny_Name (wpAny_loadName_cell I.ok.kind hk hc hcell fin) hd
  ·exact wpAny_Name (wpAny_loadName_free I.ok.kind hk hc hcell fin hcd) hd
theorem zae {i j pos}:PE X (.Constant (.int i) j pos) (tC (.int i)):=fun _ _ _ H _ I h=>wpAny_Constant_int ⟨.int i,H,I.tok _,⟨_,rfl⟩,h⟩
theorem pe_bl {b j pos}:PE X (.Constant (.bool b) j pos) (tC (.bl b)):=fun _ _ _ H _ I h=>Constant_bool ⟨.bl b,H,I,rfl,h⟩
theorem zcJ {j pos}:PE X (.Constant .none j pos) (tC .non):=fun _ _ _ H _ I h=>Constant_none ⟨.non,H,I,rfl,h⟩
theorem zd4 {x j pos}:PE X (.Constant (.str x) j pos) (tC (.str x)):=fun _ _ _ H _ I h=>Calls.Constant_str ⟨.str x,H,I.tok _,⟨_,rfl⟩,h⟩
def Gl (X:Cx) (x:Str):Prop:=X.env.kindOf x=some .globalImplicit
theorem zhi {E : Value → Shared → Prop}{pins : List (Addr × Obj)}{s : Shared}{σ : St}{H : Hp}{x : Str}{u : Value}{pos : Pos}{Q : Value → Shared → Prop}(I : Inv X pins σ H s) (hg : Gl X x) (hm : X.mg x = some u) (h : Q u s)
  (hd:(x == ("__debug__" : Str))=false:=by decide):wpAny (model X.prog X.w) X.A (eval (.Name x pos) X.env) Q E s :=
 Calls.Name_function_global I.ok.kind hg (Calls.loadGlobal_global (by rw[I.ok.glob];exact I.mod.glob.keeps I.bk) hm h) hd
theorem zcV {E : Value → Shared → Prop}{pins : List (Addr × Obj)}{s : Shared}{σ : St}{H : Hp}{x : Str}{u : Value}{pos : Pos}{Q : Value → Shared → Prop}(I : Inv X pins σ H s) (hg : Gl X x) (hm : X.mg x = none) (hv : bootBuiltins x = some u) (h : Q u s)
  (hn:x ≠ "__name__":=by decide) (hd:(x == ("__debug__" : Str))=false:=by decide):wpAny (model X.prog X.w) X.A (eval (.Name x pos) X.env) Q E s:=by
 obtain⟨mb,h1,h2⟩:=I.mod.blt
 exact Calls.Name_function_global I.ok.kind hg (Calls.loadGlobal_builtin (by rw[I.ok.glob];exact I.mod.glob.keeps I.bk) hm (by rw[I.ok.blt];exact h1.keeps I.bk) ((h2 x hn).trans hv) h) hd
theorem zcY {x:Str}{v:V}{u:Value}{pos:Pos}(hg:Gl X x) (hm:X.mg x=some u) (r:RelV v u) (hd:(x == ("__debug__" : Str))=false:=by decide):PE X (.Name x pos) (tC v) :=
 fun _ _ _ H _ I h=>zhi I hg hm ⟨v,H,I,r,h⟩ hd
theorem zg7 {x:Str}{v:V}{u:Value}{pos:Pos}(hg:Gl X x) (hm:X.mg x=none) (hv:bootBuiltins x=some u) (r:RelV v u) (hn:x ≠ "__name__":=by decide) (hd:(x == ("__debug__" : Str))=false:=by decide):PE X (.Name x pos) (tC v) :=
 fun _ _ _ H _ I h=>zcV I hg hm hv ⟨v,H,I,r,h⟩ hn hd
variable {a b:Expr}{ta tb:TE}{pos:Pos}
def PC (X:Cx) (op:CmpOp) (a b:Expr) (t:TE):Prop :=
 ∀ (pins:List (Addr×Obj)) (s:Shared) (σ:St) (H:Hp) (Q:VK),Inv X pins σ H s→t σ H Q →
  wpAny (model X.prog X.w) X.A (eval a X.env) (fun v s₁=>wpAny (model X.prog X.w) X.A (eval b X.env) (fun u s₂=>wpAny (model X.prog X.w) X.A (compareOp op v u) (EP X pins σ Q) X.xe s₂) X.xe s₁) X.xe s
def tB (t:TE):TT:=fun σ H Q=>t σ H fun x H1=>∃ c,x=.bl c∧Q c H1
theorem zd3 {op:CmpOp}{t:TE}(h:PC X op a b t) (h1:behindInMarks op b=false:=by first | exact nobehind _ (by decide) (by decide) | rfl):PT X (.Compare a [op] [b] pos) (tB t):=by
 intro pins s σ H Q I hw
 refine wpAny_isTrue_Compare1 (thn (h pins s σ H _ I hw) fun v s1 h1=>thn h1 fun u s2 h2=>thn h2 fun c s3 ⟨x,H1,I1,r1,q1⟩=>?_) h1
 obtain⟨d,rfl,q⟩:=q1
 cases r1
 exact wpAny_truthy_bool ⟨H1,I1,q⟩
theorem zdx {e:Expr}{t:TE}(h:PE X e t) (he:∀ whole,isTrue e X.env whole=(do let v ← whole;standAt e.pos;holding [v] (truthy v)):=by intro _;rfl):PT X e (tB t):=by
 intro pins s σ H Q I hw
 refine isTrue_plain (thn (h pins s σ H _ I hw) fun v s1 ⟨x,H1,I1,r1,q1⟩=>?_) (he _)
 obtain⟨d,rfl,q⟩:=q1
 cases r1
 exact wpAny_truthy_bool ⟨H1,I1,q⟩
variable {tA tB':TT}{rest:List Expr}
def tAnd (t u:TT):TT:=fun σ H Q=>t σ H fun c H1=>if c=true then u σ H1 Q else Q false H1
def tOr (t u:TT):TT:=fun σ H Q=>t σ H fun c H1=>if c=true then Q true H1 else u σ H1 Q
def tNot (t:TT):TT:=fun σ H Q=>t σ H fun c H1=>Q (!c) H1
theorem zlM (ha:PT X a tA):PW X (.BoolOp .And [a] pos) tA:=by
 intro wh pins s σ H Q I h
 refine isTrue_and (thn (ha pins s σ H Q I h) fun c s1 e=>?_)
 cases c with
 | true=>exact isTrue_and_nil e
 | false=>exact e
theorem zjh (ha:PT X a tA):PW X (.BoolOp .Or [a] pos) tA:=by
 intro wh pins s σ H Q I h
 refine isTrue_or (thn (ha pins s σ H Q I h) fun c s1 e=>?_)
 cases c with
 | false=>exact isTrue_or_nil e
 | true=>exact e
theorem zmk (ha:PT X a tA) (hb:PW X (.BoolOp .And (b::rest) pos) tB'):PW X (.BoolOp .And (a::b::rest) pos) (tAnd tA tB'):=by
 intro wh pins s σ H Q I h
 refine isTrue_and (thn (ha pins s σ H _ I h) fun c s1 ⟨H1,I1,q1⟩=>?_)
 cases c with
 | true=>exact hb wh pins s1 σ H1 Q I1 q1
 | false=>exact⟨H1,I1,q1⟩
theorem pw_or (ha:PT X a tA) (hb:PW X (.BoolOp .Or (b::rest) pos) tB'):PW X (.BoolOp .Or (a::b::rest) pos) (tOr tA tB'):=by
 intro wh pins s σ H Q I h
 refine isTrue_or (thn (ha pins s σ H _ I h) fun c s1 ⟨H1,I1,q1⟩=>?_)
 cases c with
 | true=>exact⟨H1,I1,q1⟩
 | false=>exact hb wh pins s1 σ H1 Q I1 q1
theorem zge (ha:PT X a tA):PT X (.UnaryOp .Not a pos) (tNot tA):=by
 intro pins s σ H Q I h
 exact isTrue_not (ha pins s σ H (fun c H1=>Q (!c) H1) I h)
def tAndV (ta tb:TE):TE:=fun σ H Q=>ta σ H fun x H1=>∃ c,x=.bl c∧if c=true then tb σ H1 Q else Q (.bl false) H1
def tOrV (ta tb:TE):TE:=fun σ H Q=>ta σ H fun x H1=>∃ c,x=.bl c∧if c=true then Q (.bl true) H1 else tb σ H1 Q
def tNotV (ta:TE):TE:=fun σ H Q=>ta σ H fun x H1=>∃ c,x=.bl c∧Q (.bl (!c)) H1
theorem zhP {op}{t:TE}(h:PE X a t):PE X (.BoolOp op [a] pos) t:=fun pins s σ H Q I hw=>BoolOp_one (h pins s σ H Q I hw)
theorem zjs (ha:PE X a ta) (hb:PE X (.BoolOp .And (b::rest) pos) tb):PE X (.BoolOp .And (a::b::rest) pos) (tAndV ta tb):=by
 intro pins s σ H Q I h
 refine BoolOp_and (thn (ha pins s σ H _ I h) fun v s1 ⟨x,H1,I1,r1,q1⟩=>?_)
 obtain⟨c,rfl,q1⟩:=q1
 cases r1
 refine wpAny_truthy_bool ?_
 cases c with
 | true=>exact hb pins s1 σ H1 Q I1 q1
 | false=>exact⟨.bl false,H1,I1,rfl,q1⟩
theorem pe_or (ha:PE X a ta) (hb:PE X (.BoolOp .Or (b::rest) pos) tb):PE X (.BoolOp .Or (a::b::rest) pos) (tOrV ta tb):=by
 intro pins s σ H Q I h
 refine BoolOp_or (thn (ha pins s σ H _ I h) fun v s1 ⟨x,H1,I1,r1,q1⟩=>?_)
 obtain⟨c,rfl,q1⟩:=q1
 cases r1
 refine wpAny_truthy_bool ?_
 cases c with
 | false=>exact hb pins s1 σ H1 Q I1 q1
 | true=>exact⟨.bl true,H1,I1,rfl,q1⟩
theorem zmo (ha:PE X a ta):PE X (.UnaryOp .Not a pos) (tNotV ta):=by
 intro pins s σ H Q I h
 refine UnaryOp_ (thn (ha pins s σ H _ I h) fun v s1 ⟨x,H1,I1,r1,q1⟩=>?_)
 obtain⟨c,rfl,q1⟩:=q1
 cases r1
 exact not_of (wpAny_truthy_bool ⟨.bl (!c),H1,I1,rfl,q1⟩)
def tIf (t:TT) (ta tb:TE):TE:=fun σ H Q=>t σ H fun c H1=>if c=true then ta σ H1 Q else tb σ H1 Q
theorem zfn {c:Expr}(hc:PT X c tA) (ha:PE X a ta) (hb:PE X b tb):PE X (.IfExp c a b pos) (tIf tA ta tb):=by
 intro pins s σ H Q I h
 refine wpAny_IfExp (thn (hc pins s σ H _ I h) fun d s1 ⟨H1,I1,q1⟩=>?_)
 cases d with
 | true=>exact ha pins s1 σ H1 Q I1 q1
 | false=>exact hb pins s1 σ H1 Q I1 q1
end
def SqL (K:W.Frag) (H:Hp) (a:Addr) (xs:List V):Prop :=
 Rd H a (.lst xs) ∨
  ∃ (o:Obj) (its:Array Value) (n:Nat),K.lookup a=some o∧o.cls=.type "list" ∧ o.dict=none∧o.data=.seq its n∧its.size≤sizeLine∧Vals xs its.toList
def SqT (K:W.Frag) (H:Hp) (a:Addr) (xs:List V):Prop :=
 Rd H a (.tup xs) ∨
  ∃ (o:Obj) (its:Array Value) (n:Nat),K.lookup a=some o∧o.cls=.type "tuple" ∧ o.data=.seq its n∧its.size≤sizeLine∧Vals xs its.toList
def absV:Value→Option V
 | .none=>some .non
 | .bool b=>some (.bl b)
 | .int i _=>some (.int i)
 | .str x _=>some (.str x)
 | .bytes b _=>some (.byt b)
 | .float b _=>some (.flt b)
 | .ref a=>some (.ref a)
 | .type n=>some (.ty n)
 | _=>none
theorem RelV.abs {x:V}{u:Value}(r:RelV x u):absV u=some x:=by
 cases x with
 | non=>cases r;rfl
 | bl _=>cases r;rfl
 | int _=>obtain⟨t,rfl⟩:=r;rfl
 | str _=>obtain⟨t,rfl⟩:=r;rfl
 | byt _=>obtain⟨t,rfl⟩:=r;rfl
 | flt _=>obtain⟨t,rfl⟩:=r;rfl
 | ref _=>cases r;rfl
 | ty _=>cases r;rfl
theorem RelV.inj {x y:V}{u:Value}(r:RelV x u) (q:RelV y u):x=y:=Option.some.inj (r.abs.symm.trans q.abs)
theorem Vals.inj:∀ {xs ys:List V}{us:List Value},Vals xs us→Vals ys us→xs=ys
 | _,_,_,.nil,.nil=>rfl
 | _,_,_,.cons r t,.cons r' t'=>by rw[r.inj r',Vals.inj t t']
section
variable {X:Cx}{pins:List (Addr×Obj)}{σ:St}{H:Hp}{s:Shared}{a:Addr}{xs ys:List V}
theorem SqL.of {K:W.Frag}(h:H a=some (.lst xs)):SqL K H a xs:=.inl (.inl h)
theorem SqT.of {K:W.Frag}(h:H a=some (.tup xs)):SqT K H a xs:=.inl (.inl h)
theorem Inv.list (I:Inv X pins σ H s) (h:SqL X.K H a xs):∃ its:List Value,Vals xs its∧PlainL s.heap a its.toArray∧xs.length≤sizeLine:=by
 rcases h with h | ⟨o,its,n,hk,hc,hd,hs,hz,r⟩
 ·obtain⟨z,its,n,r,e⟩:=h.ok I.hok
  exact⟨its,r,⟨_,n,e,rfl,rfl,rfl⟩,z⟩
 ·refine⟨its.toList,r,⟨o,n,I.kIn a o hk,hc,hd,by simpa using hs⟩,?_⟩
  have e:=r.length
  simp only[Array.length_toList] at e
  lia
theorem Inv.tuple (I:Inv X pins σ H s) (h:SqT X.K H a xs):∃ its:List Value,Vals xs its∧IsTup s.heap a its.toArray∧xs.length≤sizeLine:=by
 rcases h with h | ⟨o,its,n,hk,hc,hs,hz,r⟩
 ·obtain⟨z,its,r,p⟩:=h.ok I.hok
  exact⟨its,r,p,z⟩
 ·refine⟨its.toList,r,⟨o,I.kIn a o hk,hc,n,by simpa using hs⟩,?_⟩
  have e:=r.length
  simp only[Array.length_toList] at e
  lia
theorem Inv.list_inj (I:Inv X pins σ H s) (h:SqL X.K H a xs) (h':SqL X.K H a ys):xs=ys:=by
 obtain⟨its,r,⟨o,n,e,_,_,d⟩,_⟩:=I.list h
 obtain⟨its',r',⟨o',n',e',_,_,d'⟩,_⟩:=I.list h'
 rw[e] at e';cases e'
 rw[d] at d'
 injection d' with d1 _
 have:its=its':=by simpa using congrArg Array.toList d1
 subst this
 exact r.inj r'
theorem Inv.tuple_inj (I:Inv X pins σ H s) (h:SqT X.K H a xs) (h':SqT X.K H a ys):xs=ys:=by
 obtain⟨its,r,⟨o,e,_,n,d⟩,_⟩:=I.tuple h
 obtain⟨its',r',⟨o',e',_,n',d'⟩,_⟩:=I.tuple h'
 rw[e] at e';cases e'
 rw[d] at d'
 injection d' with d1 _
 have:its=its':=by simpa using congrArg Array.toList d1
 subst this
 exact r.inj r'
end
abbrev Cx.wish (X:Cx) (E:Value→Shared→Prop):Cx:={ X with xe:=E }
abbrev Cx.nox (X:Cx):Cx:=X.wish fun _ _=>False
theorem Cx.Ok.wish {X:Cx}(ok:X.Ok) (E:Value→Shared→Prop):(X.wish E).Ok :=
 ⟨ok.mod,ok.kind,ok.glob,ok.blt,ok.above,ok.inj,ok.has,ok.cab,ok.hd,ok.frames,ok.stk,ok.exf,ok.bs,ok.bsz,ok.noex,ok.exfs,ok.funs,ok.frf⟩
theorem Cx.Ok.unwish {X:Cx}{E:Value→Shared→Prop}(ok:(X.wish E).Ok):X.Ok :=
 ⟨ok.mod,ok.kind,ok.glob,ok.blt,ok.above,ok.inj,ok.has,ok.cab,ok.hd,ok.frames,ok.stk,ok.exf,ok.bs,ok.bsz,ok.noex,ok.exfs,ok.funs,ok.frf⟩
section
variable {X:Cx}{pins:List (Addr×Obj)}{σ:St}{H:Hp}{s:Shared}{E:Value→Shared→Prop}
theorem Inv.wish (I:Inv X pins σ H s) (E:Value→Shared→Prop):Inv (X.wish E) pins σ H s:=⟨I.ok.wish E,I.os,I.bare,I.base,I.loc,I.cell,I.free,I.freeC,I.pin,I.hok,I.len⟩
theorem Inv.unwish (I:Inv (X.wish E) pins σ H s):Inv X pins σ H s:=⟨I.ok.unwish,I.os,I.bare,I.base,I.loc,I.cell,I.free,I.freeC,I.pin,I.hok,I.len⟩
theorem SP.unwish {D:Ends}{f:Flow}{s':Shared}(h:SP (X.wish E) pins D f s'):SP X pins D f s':=by
 cases f with
 | next=>obtain⟨σ',H',I,q⟩:=h;exact⟨σ',H',I.unwish,q⟩
 | brk=>obtain⟨σ',H',I,q⟩:=h;exact⟨σ',H',I.unwish,q⟩
 | cont=>obtain⟨σ',H',I,q⟩:=h;exact⟨σ',H',I.unwish,q⟩
 | ret u=>obtain⟨v,σ',H',I,r,q⟩:=h;exact⟨v,σ',H',I.unwish,r,q⟩
theorem PSs.nox {st:List Stmt}{t:TS}(h:PSs X.nox st t):PSs X st t:=fun pins s σ H D I hw =>
 wpAny_mono (h pins s σ H D (I.wish _) hw) (fun _ _ q=>q.unwish) fun _ _ z=>False.elim z
end
section
variable {X:Cx}{st:Stmt}{rest:List Stmt}{t u:TS}{e:Expr}{te:TE}{pos:Pos}
def tNext:TS:=fun D σ H=>D.nx σ H
def tSeq (t u:TS):TS:=fun D σ H=>t { D with nx:=u D } σ H
theorem zaH:PSs X [] tNext:=fun _ _ σ H _ I h=>wpAny_execs_nil ⟨σ,H,I,h⟩
theorem zad (h1:PS X st t) (h2:PSs X rest u):PSs X (st::rest) (tSeq t u):=by
 intro pins s σ H D I h
 refine wpAny_execs_cons (thn (h1 pins s σ H { D with nx:=u D } I h) fun f s1 q=>?_)
 cases f with
 | next =>
  obtain⟨σ',H',I',q⟩:=q
  exact h2 pins s1 σ' H' D I' q
 | ret v=>exact q
 | brk=>exact q
 | cont=>exact q
theorem zaf (h1:PS X st t):PSs X [st] t:=by
 intro pins s σ H D I h
 refine wpAny_execs_cons (thn (h1 pins s σ H D I h) fun f s1 q=>?_)
 cases f with
 | next=>exact wpAny_execs_nil q
 | ret v=>exact q
 | brk=>exact q
 | cont=>exact q
theorem Inv.quiet {pins:List (Addr×Obj)}{σ:St}{H:Hp}{s:Shared}(I:Inv X pins σ H s):interactive X.env=false:=by simp[interactive,I.ok.kind]
def tDrop (te:TE):TS:=fun D σ H=>te σ H fun _ H1=>D.nx σ H1
theorem zco (he:PE X e te) (hs:swapsWith e none pos.line X.env=pure false:=by rfl):PS X (.Expr e pos) (tDrop te):=by
 intro pins s σ H D I h
 exact wpAny_Expr_any (thn (he pins s σ H _ I h) fun v s1 ⟨x,H1,I1,r1,q1⟩=>⟨σ,H1,I1,q1⟩) I.quiet hs
def tRet (te:TE):TS:=fun D σ H=>te σ H D.rt
theorem zan (he:PE X e te):PS X (.Return (some e) pos) (tRet te):=by
 intro pins s σ H D I h
 exact wpAny_Return_some (thn (he pins s σ H _ I h) fun v s1 ⟨x,H1,I1,r1,q1⟩=>⟨x,σ,H1,I1,r1,q1⟩)
def tIfS (c:TT) (t u:TS):TS:=fun D σ H=>c σ H fun b H1=>if b=true then t D σ H1 else u D σ H1
theorem ps_if {c:Expr}{a b:List Stmt}{tc:TT}(hc:PT X c tc) (ha:PSs X a t) (hb:PSs X b u):PS X (.If c a b pos) (tIfS tc t u):=by
 intro pins s σ H D I h
 refine wpAny_If (thn (hc pins s σ H _ I h) fun d s1 ⟨H1,I1,q1⟩=>?_)
 cases d with
 | true=>exact ha pins s1 σ H1 D I1 q1
 | false=>exact hb pins s1 σ H1 D I1 q1
def zl7:TS:=fun _ _ _=>False
theorem zfl:PS X st zl7:=fun _ _ _ _ _ _ h=>h.elim
end
abbrev TG:=V→St→Hp→(St→Hp→Prop)→Prop
abbrev TGs:=List V→St→Hp→(St→Hp→Prop)→Prop
def PG (X:Cx) (target:Expr) (t:TG):Prop :=
 ∀ (pins:List (Addr×Obj)) (s:Shared) (σ:St) (H:Hp) (v:V) (u:Value) (Q:St→Hp→Prop),Inv X pins σ H s→RelV v u→t v σ H Q →
  wpAny (model X.prog X.w) X.A (assign target X.env u) (fun _ s'=>∃ σ' H',Inv X pins σ' H' s'∧Q σ' H') X.xe s
def PGs (X:Cx) (ts:List Expr) (t:TGs):Prop :=
 ∀ (pins:List (Addr×Obj)) (s:Shared) (σ:St) (H:Hp) (vs:List V) (us:List Value) (Q:St→Hp→Prop),Inv X pins σ H s→Vals vs us→t vs σ H Q →
  wpAny (model X.prog X.w) X.A (assignInOrder ((assignEach ts X.env).map (·.2)) us) (fun _ s'=>∃ σ' H',Inv X pins σ' H' s'∧Q σ' H') X.xe s
abbrev TSet:=V→V→V→Hp→(Hp→Prop)→Prop
def PSet (X:Cx) (t:TSet):Prop :=
 ∀ (pins:List (Addr×Obj)) (s:Shared) (σ:St) (H:Hp) (o i v:V) (ov iv u:Value) (Q:Hp→Prop),Inv X pins σ H s→RelV o ov→RelV i iv→RelV v u→t o i v H Q →
  wpAny (model X.prog X.w) X.A (setItem ov iv u) (fun _ s'=>∃ H',Inv X pins σ H' s'∧Q H') X.xe s
abbrev TIp:=V→V→Hp→VK→Prop
def PIp (X:Cx) (op:Operator) (t:TIp):Prop :=
 ∀ (pins:List (Addr×Obj)) (s:Shared) (σ:St) (H:Hp) (x y:V) (v u:Value) (Q:VK),Inv X pins σ H s→RelV x v→RelV y u→t x y H Q →
  wpAny (model X.prog X.w) X.A (inplaceOp op v u) (EP X pins σ Q) X.xe s
section
variable {X:Cx}{pos:Pos}
def gName (i:Nat):TG:=fun v σ H Q=>Q (σ.set i (some v)) H
theorem zag {i:Nat}{x:Str}(hN:X.N.Nodup) (hi:X.N[i]?=some x) (hx:Loc X.env.scope x) (hf:X.fn x=true∨X.env.scope.names.lookup x=some .local:=by first | exact .inl rfl | exact .inr rfl | assumption):PG X (.Name x pos) (gName i):=by
 intro pins s σ H v u Q I r h
 exact wpAny_assign_Name (zfc I hN hi hx r (fun s' I'=>⟨_,H,I',h⟩) hf)
def gNil:TGs:=fun vs σ H Q=>vs=[]∧Q σ H
def gCons (t:TG) (u:TGs):TGs:=fun vs σ H Q=>∃ v r,vs=v::r∧t v σ H fun σ' H'=>u r σ' H' Q
theorem zaA:PGs X [] gNil:=by
 intro pins s σ H vs us Q I r h
 obtain⟨e,h⟩:=h
 subst e
 cases r
 exact assignInOrder_nil ⟨σ,H,I,h⟩
theorem zah {e : Expr}{es : List Expr}{t : TG}{u : TGs}(h1 : PG X e t) (h2 : PGs X es u)
  (hs:(assignEach (e::es) X.env).map (·.2)=assign e X.env::(assignEach es X.env).map (·.2):=by rfl):PGs X (e::es) (gCons t u):=by
 intro pins s σ H vs us Q I r h
 obtain⟨v,vr,e1,h⟩:=h
 subst e1
 cases r with
 | cons r rr =>
  rw[hs]
  refine assignInOrder_cons (thn (h1 pins s σ H _ _ _ I r h) fun _ s1 ⟨σ1,H1,I1,q1⟩=>?_)
  exact h2 pins s1 σ1 H1 _ _ Q I1 rr q1
def gTup (K:W.Frag) (n:Nat) (t:TGs):TG:=fun v σ H Q=>∃ a xs,v=.ref a∧SqT K H a xs∧xs.length=n∧t xs σ H Q
theorem zbz {es : List Expr}{k : Nat}{t : TGs}{n : Nat}(hc : X.calm = true) (h : PGs X es t)
  (hn:(assignEach es X.env).length=n:=by rfl) (hst:(assignEach es X.env).findIdx? (·.1)=none:=by rfl):PG X (.Tuple es k pos) (gTup X.K n t):=by
 intro pins s σ H v u Q I r hw
 obtain⟨a,xs,e1,hq,hl,hw⟩:=hw
 subst e1
 cases r
 obtain⟨its,rv,ht,hz⟩:=I.tuple hq
 refine assign_Tuple_tuple (I.ok.hd hc) ht (by simp[hn,← hl,rv.length]) hst fun h' hx=>?_
 have I1:Inv X pins σ H { s with heap:=h' }:=I.kept (t':=s.toks) fun b o e=>hx b o (Nat.ne_of_lt (Heap.lt_size e)) e
 exact h pins _ σ H xs _ Q I1 (by simpa using rv) hw
def gSub (to ti:TE) (t:TSet):TG:=fun v σ H Q=>to σ H fun o H1=>ti σ H1 fun i H2=>t o i v H2 fun H3=>Q σ H3
theorem zhN {o i : Expr}{to ti : TE}{t : TSet}(ho : PE X o to) (hi : PE X i ti) (hs : PSet X t)
  (ha:∀ v,assign (.Subscript o i pos) X.env v=(do
   let ov ← holding [v] (eval o X.env)
   let iv ← holding [v,ov] (eval i X.env)
   standAt pos
   holding [v,ov,iv] (setItem ov iv v)
   release [v,ov,iv] []):=by intro _;rfl):PG X (.Subscript o i pos) (gSub to ti t):=by
 intro pins s σ H v u Q I r h
 rw[ha]
 refine wpAny_bind (wpAny_holding (thn (ho pins s σ H _ I h) fun ov s1 ⟨x,H1,I1,r1,q1⟩=>?_))
 refine wpAny_bind (wpAny_holding (thn (hi pins s1 σ H1 _ I1 q1) fun iv s2 ⟨y,H2,I2,r2,q2⟩=>?_))
 refine wpAny_bind (wpAny_standAt (wpAny_bind (wpAny_holding (thn (hs pins s2 σ H2 x y v ov iv u _ I2 r1 r2 r q2) fun _ s3 ⟨H3,I3,q3⟩=>?_))))
 exact wpAny_release ⟨σ,H3,I3,q3⟩
def tAsg (te:TE) (g:TG):TS:=fun D σ H=>te σ H fun x H1=>g x σ H1 D.nx
theorem zcb {tg e : Expr}{te : TE}{g : TG}(he : PE X e te) (hg : PG X tg g) (hs : swapsWithSole [tg] e pos.line X.env = pure false := by rfl) (hw : swappedStores [tg] e X.env = pure none := by rfl)
  (h1:(assignEach [tg] X.env).map (·.2)=[assign tg X.env]:=by rfl):PS X (.Assign [tg] e pos) (tAsg te g):=by
 intro pins s σ H D I h
 refine wpAny_Assign_stores (thn (he pins s σ H _ I h) fun v s1 ⟨x,H1,I1,r1,q1⟩=>?_) hs hw
 rw[h1]
 exact thn (hg pins s1 σ H1 x v _ I1 r1 q1) fun _ s2 q=>q
theorem zao {i : Nat}{x : Str}{e : Expr}{te : TE}{pos' : Pos}(hN : X.N.Nodup) (hi : X.N[i]? = some x) (hx : Loc X.env.scope x) (he : PE X e te) (hs : swapsWith e (some (.Name x pos')) pos.line X.env = pure false := by rfl) (hf : X.fn x = true ∨ X.env.scope.names.lookup x = some .local := by first | exact .inl rfl | exact .inr rfl | assumption) :
  PS X (.Assign [.Name x pos'] e pos) (tAsg te (gName i)):=by
 intro pins s σ H D I h
 refine wpAny_Assign_Name (thn (he pins s σ H _ I h) fun v s1 ⟨y,H1,I1,r1,q1⟩=>?_) hs
 exact zfc I1 hN hi hx r1 (fun s2 I2=>⟨_,H1,I2,q1⟩) hf
def tAug (i:Nat) (te:TE) (ti:TIp):TS:=fun D σ H=>∃ x,σ[i]?=some (some x)∧te σ H fun y H1=>ti x y H1 fun z H2=>D.nx (σ.set i (some z)) H2
theorem zml {i : Nat}{x : Str}{e : Expr}{te : TE}{op : Operator}{ti : TIp}{pos' : Pos}(hN : X.N.Nodup) (hi : X.N[i]? = some x) (hx : Loc X.env.scope x) (he : PE X e te) (ho : PIp X op ti) (hf : X.fn x = true ∨ X.env.scope.names.lookup x = some .local := by first | exact .inl rfl | exact .inr rfl | assumption) :
  PS X (.AugAssign (.Name x pos') op e pos) (tAug i te ti):=by
 intro pins s σ H D I h
 obtain⟨v,e1,h⟩:=h
 obtain⟨m,hn,hl⟩:=I.loc
 have vis:Vis X.env.scope x:=by rcases hx with k | k;exact .inl k;exact .inr (.inl k)
 obtain⟨u,r,l⟩:=hl i x v hi e1 vis
 refine wpAny_AugAssign_Name ?_
 have go:wpAny (model X.prog X.w) X.A (eval e X.env) (fun w s₂=>wpAny (model X.prog X.w) X.A (inplaceOp op u w) (fun r s₃=>wpAny (model X.prog X.w) X.A (storeName X.env x r) (fun _=>SP X pins D .next) X.xe s₃) X.xe s₂) X.xe s:=by
  refine thn (he pins s σ H _ I h) fun w s1 ⟨y,H1,I1,r1,q1⟩=>?_
  refine thn (ho pins s1 σ H1 v y u w _ I1 r r1 q1) fun z s2 ⟨zv,H2,I2,r2,q2⟩=>?_
  exact zfc I2 hN hi hx r2 (fun s3 I3=>⟨_,H2,I3,q2⟩) hf
 rcases l with⟨hk,hm⟩ | ⟨hk,c,hc,hcell⟩
 ·exact wpAny_loadName_local I.ok.kind hk hn hm go
 ·rcases hk with hk | hk
  ·exact wpAny_loadName_cell I.ok.kind hk hc hcell go
  ·rcases hx with k | k
   ·have:X.env.scope.names.lookup x=some .free:=hk
    rw[k] at this;cases this
   ·have:X.env.scope.names.lookup x=some .free:=hk
    rw[k] at this;cases this
def ipI (f:Int→Int→Int):TIp:=fun x y H Q=>∃ i j,x=.int i∧y=.int j∧Q (.int (f i j)) H
theorem zmA:PIp X .Add (ipI fun i j=>i+j):=by
 intro pins s σ H x y v u Q I r1 r2 h
 obtain⟨i,j,e1,e2,q⟩:=h
 subst e1;subst e2
 obtain⟨t,rfl⟩:=r1
 obtain⟨t',rfl⟩:=r2
 exact iadd_int ⟨.int _,H,I.tok _,⟨_,rfl⟩,q⟩
end
section
variable {X:Cx}{pos:Pos}
def zk5 (c:TT) (tb:TS):TS:=fun D σ H=>∃ W:Nat→St→Hp→Prop,(∃ m,W m σ H)∧∀ m σ H,W m σ H →
 c σ H fun b H1=>if b=true then ∃ N:St→Hp→Prop,(∀ σ' H',N σ' H'→∃ m',m'<m∧W m' σ' H')∧tb { D with nx:=N,ct:=N,bk:=D.nx } σ H1 else D.nx σ H1
theorem zhM {c:Expr}{body:List Stmt}{tc:TT}{tb:TS}(hp:PassesOwn (model X.prog X.w) X.A X.env X.xe) (hc:PT X c tc) (hb:PSs X body tb):PS X (.While c body [] pos) (zk5 tc tb):=by
 intro pins s σ H D I h
 obtain⟨W,⟨m0,w0⟩,turn⟩:=h
 refine wpAny_While (codeAny_whileLoop (fun n s'=>∃ σ' H',Inv X pins σ' H' s'∧W n σ' H') ?_ m0 ⟨σ,H,I,w0⟩)
 rintro n s1 ⟨σ1,H1,I1,w1⟩
 refine wpAny_passesOwn hp (thn (hc pins s1 σ1 H1 _ I1 (turn n σ1 H1 w1)) fun b s2 ⟨H2,I2,q2⟩=>?_)
 cases b with
 | true =>
  obtain⟨N,hN,q2⟩:=q2
  rw[if_pos rfl]
  refine wpAny_passesOwn hp (thn (hb pins s2 σ1 H2 _ I2 q2) fun f s3 q3=>?_)
  cases f with
  | next =>
   obtain⟨σ3,H3,I3,n3⟩:=q3
   obtain⟨m',hm,w3⟩:=hN σ3 H3 n3
   exact⟨m',hm,σ3,H3,I3,w3⟩
  | cont =>
   obtain⟨σ3,H3,I3,n3⟩:=q3
   obtain⟨m',hm,w3⟩:=hN σ3 H3 n3
   exact⟨m',hm,σ3,H3,I3,w3⟩
  | brk=>exact q3
  | ret v=>exact q3
 | false =>
  rw[if_neg Bool.false_ne_true]
  exact wpAny_execs_nil ⟨σ1,H2,I2,q2⟩
end
structure It where
 go:Nat→Hp→Prop
 yld:Nat→Hp→V→Hp→Prop
 stop:Nat→Hp→Prop
def FpOk (X:Cx) (pins:List (Addr×Obj)) (H:Hp) (b:Addr):Prop :=
 H b=none∧b≠X.env.locals∧b ∉ X.fs∧(b∈X.ex∨X.s₀.heap.objs.size≤b)∧(∀ x c,X.env.cells.lookup x=some c→c≠b)∧∀ p∈X.pn++pins,p.1≠b
theorem Inv.fpOk {X:Cx}{pins:List (Addr×Obj)}{σ:St}{H H':Hp}{s:Shared}{b:Addr}(I:Inv X pins σ H s) (hb:s.heap.objs.size≤b) (hn:H' b=none):FpOk X pins H' b:=by
 refine⟨hn,Nat.ne_of_gt (Nat.lt_of_lt_of_le I.lt hb),I.nofs hb,.inr (Nat.le_trans I.sz hb),fun x c e z=>?_,fun p hp z=>?_⟩
 ·obtain⟨v,q⟩:=I.cell x c e
  exact absurd (Nat.lt_of_lt_of_le q.lt (by rw[z];exact hb)) (Nat.lt_irrefl _)
 ·exact absurd (Nat.lt_of_lt_of_le (Heap.lt_size (I.pin p hp).1) (by rw[z];exact hb)) (Nat.lt_irrefl _)
structure Turn (P:Program) (w:World) (K:W.Frag) (tg:Expr) (J:It) (fp:List Addr) (it:Addr) (tn:Nat→Heap→Prop):Prop where
 mem:it∈fp
 obj:∀ i h,tn i h→∀ b∈fp,∃ o,h.get? b=some o∧∀ v,o.data≠.cell v
 keep:∀ i h h',tn i h→(∀ b∈fp,∀ o,h.get? b=some o→h'.get? b=some o)→tn i h'
 item:∀ (X:Cx),X.prog=P→X.w=w→X.K=K→X.calm=true→∀ (i:Nat) (pins:List (Addr×Obj)) (s:Shared) (σ:St) (H:Hp) (E:Value→Shared→Prop),Inv X pins σ H s→(∀ b∈fp,FpOk X pins H b)→tn i s.heap→J.go i H →
  wpAny (model P w) X.A (pyNext (.ref it)) (fun r s1=>∃ u,r=some u ∧
   wpAny (model P w) X.A (letOwnedTupleGo tg (.ref it) u) (fun _ s2=>∃ x H',Inv X pins σ H' s2∧RelV x u∧J.yld i H x H'∧tn (i+1) s2.heap∧∀ b∈fp,H' b=none) E s1) E s
 done:∀ (X:Cx),X.prog=P→X.w=w→X.K=K→X.calm=true→∀ (i:Nat) (pins:List (Addr×Obj)) (s:Shared) (σ:St) (H:Hp) (E:Value→Shared→Prop),Inv X pins σ H s→(∀ b∈fp,FpOk X pins H b)→tn i s.heap→J.stop i H →
  wpAny (model P w) X.A (pyNext (.ref it)) (fun r s1=>r=none∧Inv X pins σ H s1) E s
 self:∀ (A:Around) (i:Nat) (s:Shared) (Q:Value→Shared→Prop) (E:Value→Shared→Prop),tn i s.heap→Q (.ref it) s→wpAny (model P w) A (pyIter (.ref it)) Q E s
abbrev TI:=St→Hp→(It→Hp→Prop)→Prop
def PIE (X:Cx) (pins:List (Addr×Obj)) (σ:St) (tg:Expr) (R:It→Hp→Prop) (itv:Value) (s2:Shared):Prop :=
 ∃ (it:Addr) (fp:List Addr) (tn:Nat→Heap→Prop) (J:It) (H':Hp),itv=.ref it∧Inv X pins σ H' s2∧Turn X.prog X.w X.K tg J fp it tn∧tn 0 s2.heap∧(∀ b∈fp,FpOk X pins H' b)∧R J H'
def PI (X:Cx) (tg iter:Expr) (wi:TI):Prop :=
 ∀ (pins:List (Addr×Obj)) (s:Shared) (σ:St) (H:Hp) (R:It→Hp→Prop),Inv X pins σ H s→wi σ H R →
  wpAny (model X.prog X.w) X.A (eval iter X.env) (fun v s1=>wpAny (model X.prog X.w) X.A (pyIter v) (PIE X pins σ tg R) X.xe s1) X.xe s
theorem go_of {M : Model}{A : Around}{E : Value → Shared → Prop}{s : Shared}{tg : Expr}{it : Addr}{u : Value}{o : Obj}{n : String}{vs : Array Value}{Q : Unit → Shared → Prop}(ho : s.heap.get? it = some o) (hc : o.cls = .type n) (hd : o.data = .fields vs)
    (hn:["enumerate","zip","dict_itemiterator","dict_reverseitemiterator","odict_iterator","itertools.zip_longest","itertools.pairwise"].contains n=false) (hQ:Q () s):wpAny M A (letOwnedTupleGo tg (.ref it) u) Q E s:=by
  unfold letOwnedTupleGo
  cases tg <;> first
    | exact wpAny_pure hQ
    | (cases u <;> first
        | exact wpAny_pure hQ
        | (refine wpAny_bind (wpAny_load ho ?_)
           rw[hc,hd]
           show wpAny M A (if (["enumerate","zip","dict_itemiterator","dict_reverseitemiterator","odict_iterator","itertools.zip_longest","itertools.pairwise"].contains n && vs[0]? == some (rawInt _))=true then _ else _) Q E s
           rw[if_neg (by intro h;rw[hn,Bool.false_and] at h;cases h)]
           exact wpAny_pure hQ))
def Itl (K:W.Frag) (a:Addr):It :=
 ⟨fun i H=>∃ xs x,SqL K H a xs∧xs[i]?=some x,fun i H x H'=>H'=H∧∀ xs,SqL K H a xs→xs[i]?=some x,fun i H=>∃ xs,SqL K H a xs∧xs.length≤i⟩
def Itt (K:W.Frag) (a:Addr):It :=
 ⟨fun i H=>∃ xs x,SqT K H a xs∧xs[i]?=some x,fun i H x H'=>H'=H∧∀ xs,SqT K H a xs→xs[i]?=some x,fun i H=>∃ xs,SqT K H a xs∧xs.length≤i⟩
def Itr (lo:Int) (n:Nat):It:=⟨fun i _=>i<n,fun i H x H'=>H'=H∧x=.int (lo+i),fun i _=>n≤i⟩
theorem ziV {P:Program}{w:World}{K:W.Frag}{tg:Expr}(a it:Addr):Turn P w K tg (Itl K a) [it] it (fun i h=>h.IsListIter it a i) where
 mem:=by simp
 obj:=fun i h st b hb=>by
  have e:b=it:=by simpa using hb
  subst e
  obtain⟨o,e,c,d⟩:=st
  exact⟨o,e,fun v z=>by rw[d] at z;cases z⟩
 keep:=fun i h h' st k=>st.at fun o e=>k it (by simp) o e
 item:=by
  intro X hP hw hK hc i pins s σ H E I hf st hg
  subst hP hw hK
  obtain⟨xs,x,hq,hx⟩:=hg
  obtain⟨its,rv,p,hz⟩:=I.list hq
  obtain⟨u,hu,ru⟩:=rv.get hx
  obtain⟨f0,f1,f2,f3,f4,f5⟩:=hf it (by simp)
  refine wpAny_pyNext_list_item st p.isList (x:=u) (by simpa using hu) fun h' st' sb=>?_
  have I1:Inv X pins σ H { s with heap:=h' }:=I.turned (t':=s.toks) (fun b o hb e=>(sb.2 b hb).trans e) f0 f1 f3 f4 f5
  obtain⟨o,e,c,d⟩:=id st'
  exact⟨u,rfl,go_of (s:={ s with heap:=h' }) e c d (by decide) ⟨x,H,I1,ru,⟨rfl,fun ys hy=>by rw[I.list_inj hy hq];exact hx⟩,st',fun b hb=>(hf b hb).1⟩⟩
 done:=by
  intro X hP hw hK hc i pins s σ H E I hf st hg
  subst hP hw hK
  obtain⟨xs,hq,hx⟩:=hg
  obtain⟨its,rv,p,hz⟩:=I.list hq
  obtain⟨f0,f1,f2,f3,f4,f5⟩:=hf it (by simp)
  have hl:=rv.length
  exact wpAny_pyNext_list_end (I.ok.hd hc) st p.isList (by simp;lia) fun h' eb=>⟨rfl,I.turned (t':=s.toks) (fun b o hb e=>eb b o hb e) f0 f1 f3 f4 f5⟩
 self:=fun _ _ _ _ _ st h=>wpAny_pyIter_listiter st h
theorem zij {P:Program}{w:World}{K:W.Frag}{tg:Expr}(a it:Addr):Turn P w K tg (Itt K a) [it] it (fun i h=>h.IsTupleIter it a i) where
 mem:=by simp
 obj:=fun i h st b hb=>by
  have e:b=it:=by simpa using hb
  subst e
  obtain⟨o,e,c,d⟩:=st
  exact⟨o,e,fun v z=>by rw[d] at z;cases z⟩
 keep:=fun i h h' st k=>st.at fun o e=>k it (by simp) o e
 item:=by
  intro X hP hw hK hc i pins s σ H E I hf st hg
  subst hP hw hK
  obtain⟨xs,x,hq,hx⟩:=hg
  obtain⟨its,rv,p,hz⟩:=I.tuple hq
  obtain⟨u,hu,ru⟩:=rv.get hx
  obtain⟨f0,f1,f2,f3,f4,f5⟩:=hf it (by simp)
  refine wpAny_pyNext_tuple_item st (show s.heap.IsTuple a its.toArray from p) (x:=u) (by simpa using hu) fun h' st' sb=>?_
  have I1:Inv X pins σ H { s with heap:=h' }:=I.turned (t':=s.toks) (fun b o hb e=>(sb.2 b hb).trans e) f0 f1 f3 f4 f5
  obtain⟨o,e,c,d⟩:=id st'
  exact⟨u,rfl,go_of (s:={ s with heap:=h' }) e c d (by decide) ⟨x,H,I1,ru,⟨rfl,fun ys hy=>by rw[I.tuple_inj hy hq];exact hx⟩,st',fun b hb=>(hf b hb).1⟩⟩
 done:=by
  intro X hP hw hK hc i pins s σ H E I hf st hg
  subst hP hw hK
  obtain⟨xs,hq,hx⟩:=hg
  obtain⟨its,rv,p,hz⟩:=I.tuple hq
  obtain⟨f0,f1,f2,f3,f4,f5⟩:=hf it (by simp)
  have hl:=rv.length
  exact wpAny_pyNext_tuple_end (I.ok.hd hc) st (show s.heap.IsTuple a its.toArray from p) (by simp;lia) fun h' eb=>⟨rfl,I.turned (t':=s.toks) (fun b o hb e=>eb b o hb e) f0 f1 f3 f4 f5⟩
 self:=fun _ _ _ _ _ st h=>wpAny_pyIter_tupleiter st h
theorem zeI {P:Program}{w:World}{K:W.Frag}{tg:Expr}(it:Addr) (lo:Int) (n:Nat):Turn P w K tg (Itr lo n) [it] it (fun i h=>IsRangeIter h it (lo+(i:Nat)*1) ((n:Int) - (i:Nat)) 1) where
 mem:=by simp
 obj:=fun i h st b hb=>by
  have e:b=it:=by simpa using hb
  subst e
  exact⟨_,st,fun v z=>by
   have z':Data.fields _=Data.cell v:=z
   cases z'⟩
 keep:=fun i h h' st k=>k it (by simp) _ st
 item:=by
  intro X hP hw hK hc i pins s σ H E I hf st hg
  subst hP hw hK
  obtain⟨f0,f1,f2,f3,f4,f5⟩:=hf it (by simp)
  have W:=Walks.range (prog:=X.prog) (w:=X.w) (I.ok.hd hc) it lo 1 n
  refine W.item i s _ _ hg st fun v h' tk hv st' kk=>?_
  obtain⟨t,rfl⟩:=hv
  have I1:Inv X pins σ H { s with heap:=h',toks:=tk }:=I.turned (fun b o hb e=>kk b o (by simpa using hb) e) f0 f1 f3 f4 f5
  refine⟨_,rfl,go_of (s:={ s with heap:=h',toks:=tk }) (n:="range_iterator") st' rfl rfl (by decide) ⟨.int (lo+i),H,I1,⟨t,?_⟩,⟨rfl,rfl⟩,st',fun b hb=>(hf b hb).1⟩⟩
  rw[Int.mul_one]
 done:=by
  intro X hP hw hK hc i pins s σ H E I hf st hg
  subst hP hw hK
  obtain⟨f0,f1,f2,f3,f4,f5⟩:=hf it (by simp)
  exact wpAny_pyNext_range_end (I.ok.hd hc) st (by have:n≤i:=hg;lia) fun h' eb=>⟨rfl,I.turned (t':=s.toks) (fun b o hb e=>eb b o hb e) f0 f1 f3 f4 f5⟩
 self:=fun _ _ _ _ _ st h=>wpAny_pyIter_rangeiter st h
section
variable {X:Cx}{tg:Expr}
def iList (K:W.Frag) (tl:TE):TI:=fun σ H R=>tl σ H fun x H1=>∃ a,x=.ref a∧(∃ xs,SqL K H1 a xs)∧R (Itl K a) H1
def iTup (K:W.Frag) (tl:TE):TI:=fun σ H R=>tl σ H fun x H1=>∃ a,x=.ref a∧(∃ xs,SqT K H1 a xs)∧R (Itt K a) H1
theorem zaJ {l:Expr}{tl:TE}(hl:PE X l tl):PI X tg l (iList X.K tl):=by
 intro pins s σ H R I h
 refine thn (hl pins s σ H _ I h) fun v s1 ⟨x,H1,I1,r1,q1⟩=>?_
 obtain⟨a,e,⟨xs,hq⟩,q⟩:=q1
 subst e
 cases r1
 obtain⟨its,rv,p,hz⟩:=I1.list hq
 refine wpAny_pyIter_list p.isList ?_
 refine⟨s1.heap.objs.size,[s1.heap.objs.size],_,_,H1,rfl,I1.kept (t':=s1.toks) fun b o e=>Heap.get?_push_of_some _ e,ziV a _,⟨_,Heap.get?_push_size _ rfl,rfl,rfl⟩,fun b hb=>?_,q⟩
 have e:b=s1.heap.objs.size:=by simpa using hb
 subst e
 exact I1.fpOk (Nat.le_refl _) (I1.hok.fresh (Nat.le_refl _))
theorem zjn {l:Expr}{tl:TE}(hl:PE X l tl):PI X tg l (iTup X.K tl):=by
 intro pins s σ H R I h
 refine thn (hl pins s σ H _ I h) fun v s1 ⟨x,H1,I1,r1,q1⟩=>?_
 obtain⟨a,e,⟨xs,hq⟩,q⟩:=q1
 subst e
 cases r1
 obtain⟨its,rv,p,hz⟩:=I1.tuple hq
 refine wpAny_pyIter_tuple (show s1.heap.IsTuple a its.toArray from p) ?_
 refine⟨s1.heap.objs.size,[s1.heap.objs.size],_,_,H1,rfl,I1.kept (t':=s1.toks) fun b o e=>Heap.get?_push_of_some _ e,zij a _,⟨_,Heap.get?_push_size _ rfl,rfl,rfl⟩,fun b hb=>?_,q⟩
 have e:b=s1.heap.objs.size:=by simpa using hb
 subst e
 exact I1.fpOk (Nat.le_refl _) (I1.hok.fresh (Nat.le_refl _))
theorem zhK {pins : List (Addr × Obj)}{σ : St}{H : Hp}{s : Shared}{R : It → Hp → Prop}{E : Value → Shared → Prop}{lo hi : Int}{t u v : Tok}{tk : Nat}(I : Inv X pins σ H s) (h1 : -(2 ^ 62) ≤ lo) (h2 : lo < 2 ^ 62) (h3 : -(2 ^ 62) ≤ hi) (h4 : hi < 2 ^ 62)
  (q:R (Itr lo (hi - lo).toNat) H):wpAny (model X.prog X.w) X.A (pyIter (.ref s.heap.objs.size)) (PIE X pins σ tg R) E { s with heap:=s.heap.push { cls:=.type "range",data:=.fields #[.int lo t,.int hi u,.int 1 v] },toks:=tk }:=by
 refine wpAny_pyIter_range (IsRange.new ..) (small_one h1 h2 h3 h4) ?_
 have I1:Inv X pins σ H { s with heap:=s.heap.push { cls:=.type "range",data:=.fields #[.int lo t,.int hi u,.int 1 v] },toks:=tk }:=I.kept fun b o e=>Heap.get?_push_of_some _ e
 refine⟨(s.heap.push { cls:=.type "range",data:=.fields #[.int lo t,.int hi u,.int 1 v] }).objs.size,[(s.heap.push { cls:=.type "range",data:=.fields #[.int lo t,.int hi u,.int 1 v] }).objs.size],_,_,H,rfl,
  I1.kept (t':=tk) fun b o e=>Heap.get?_push_of_some _ e,zeI _ lo (hi - lo).toNat,?_,fun b hb=>?_,q⟩
 ·have e1:lo+((0:Nat):Int)*1=lo:=by simp
  have e2:(((hi - lo).toNat:Nat):Int) - ((0:Nat):Int)=Builtin.Range.rangeSize lo hi 1:=by rw[rangeSize_one];split <;> lia
  show IsRangeIter _ _ (lo+((0:Nat):Int)*1) ((((hi - lo).toNat:Nat):Int) - ((0:Nat):Int)) 1
  rw[e1,e2]
  exact Heap.get?_push_size _ rfl
 ·have e:b=(s.heap.push { cls:=.type "range",data:=.fields #[.int lo t,.int hi u,.int 1 v] }).objs.size:=by simpa using hb
  subst e
  exact I1.fpOk (Nat.le_refl _) (I1.hok.fresh (Nat.le_refl _))
def iRng1 (ta:TA):TI:=fun σ H R=>ta σ H fun vs H1=>∃ j:Int,vs=[.int j]∧-(2 ^ 62)≤j∧j<2 ^ 62∧R (Itr 0 j.toNat) H1
def iRng2 (ta:TA):TI:=fun σ H R=>ta σ H fun vs H1=>∃ i j:Int,vs=[.int i,.int j]∧(-(2 ^ 62)≤i∧i<2 ^ 62∧-(2 ^ 62)≤j∧j<2 ^ 62)∧R (Itr i (j - i).toNat) H1
theorem zda {a:Expr}{ta:TA}{p pos:Pos}(hg:Gl X "range") (hm:X.mg "range" = none) (ha:PA X [a] ta) (hs:starEach [a] X.env=[(false,eval a X.env)]:=by rfl):PI X tg (.Call (.Name "range" p) [a] [] pos) (iRng1 ta):=by
 intro pins s σ H R I h
 refine Call_ (zcV I hg hm boot_range (PyProof.Rows.callWith_type1 (thn (ha pos pins s σ H _ I h) fun us s1 ⟨vs,H1,I1,r1,q1⟩=>?_) hs rfl))
 obtain⟨j,e,q1,q2,q⟩:=q1
 subst e
 cases r1 with
 | cons r rr =>
  cases rr
  obtain⟨t,rfl⟩:=r
  exact call_range_1 (zhK I1 (by lia) (by lia) q1 q2 (by simpa using q))
theorem zjo {a b : Expr}{ta : TA}{p pos : Pos}(hg : Gl X "range") (hm : X.mg "range" = none) (ha : PA X [a, b] ta) (hs : starEach [a, b] X.env = [(false, eval a X.env), (false, eval b X.env)] := by rfl) (hs2 : starEach [b] X.env = [(false, eval b X.env)] := by rfl) :
  PI X tg (.Call (.Name "range" p) [a,b] [] pos) (iRng2 ta):=by
 intro pins s σ H R I h
 refine Call_ (zcV I hg hm boot_range (PyProof.Rows.callWith_type1 (thn (ha pos pins s σ H _ I h) fun us s1 ⟨vs,H1,I1,r1,q1⟩=>?_) (by rw[hs,hs2]) (by rw[hs2];rfl)))
 obtain⟨i,j,e,⟨q1,q2,q3,q4⟩,q⟩:=q1
 subst e
 cases r1 with
 | cons r rr =>
  cases rr with
  | cons r' rr =>
   cases rr
   obtain⟨t,rfl⟩:=r
   obtain⟨t',rfl⟩:=r'
   exact call_range_2 (zhK I1 q1 q2 q3 q4 q)
def tFor (wi:TI) (g:TG) (tb:TS):TS:=fun D σ H=>wi σ H fun J H1=>∃ W:Nat→Nat→St→Hp→Prop,(∃ m,W 0 m σ H1)∧∀ i m σ H,W i m σ H →
 (J.stop i H∧D.nx σ H)∨(J.go i H∧∃ N:St→Hp→Prop,(∀ σ' H',N σ' H'→∃ m',m'<m∧W (i+1) m' σ' H')∧∀ x H',J.yld i H x H'→g x σ H' fun σ2 H2=>tb { D with nx:=N,ct:=N,bk:=D.nx } σ2 H2)
def zdz (fp:List Addr) (h:Heap):List (Addr×Obj):=fp.filterMap fun b=>(h.get? b).map fun o=>(b,o)
theorem zbl {fp:List Addr}{h:Heap}{b:Addr}{o:Obj}(hb:b∈fp) (e:h.get? b=some o):(b,o)∈zdz fp h:=List.mem_filterMap.mpr ⟨b,hb,by rw[e];rfl⟩
theorem zjx {fp:List Addr}{h:Heap}{p:Addr×Obj}(hp:p∈zdz fp h):p.1∈fp∧h.get? p.1=some p.2:=by
 obtain⟨b,hb,e⟩:=List.mem_filterMap.mp hp
 cases q:h.get? b with
 | none=>rw[q] at e;cases e
 | some o =>
  rw[q] at e
  have e':(b,o)=p:=Option.some.inj e
  subst e'
  exact⟨hb,q⟩
theorem Inv.pinned {pins:List (Addr×Obj)}{σ:St}{H:Hp}{s:Shared}{fp:List Addr}(I:Inv X pins σ H s) (hf:∀ b∈fp,FpOk X pins H b) (ho:∀ b∈fp,∃ o,s.heap.get? b=some o∧∀ v,o.data≠.cell v):Inv X (pins++zdz fp s.heap) σ H s :=
 I.pins_of fun p hp=>(List.mem_append.mp hp).elim (fun z=>I.pin p (List.mem_append_right _ z)) fun z=>by
  obtain⟨hb,e⟩:=zjx z
  obtain⟨f0,f1,f2,_⟩:=hf p.1 hb
  obtain⟨o,e',d⟩:=ho p.1 hb
  rw[e] at e';cases e'
  exact⟨e,f0,f1,f2,d⟩
theorem Inv.unpinned {pins pl:List (Addr×Obj)}{σ:St}{H:Hp}{s:Shared}(I:Inv X (pins++pl) σ H s):Inv X pins σ H s:=I.pins_of fun p hp=>I.pin p (List.mem_append_right _ (List.mem_append_left _ hp))
theorem zbw {iter : Expr}{body : List Stmt}{wi : TI}{g : TG}{tb : TS}{pos : Pos}(hp : PassesOwn (model X.prog X.w) X.A X.env X.xe) (hc : X.calm = true) (hi : PI X tg iter wi) (hg : PG X tg g) (hb : PSs X body tb)
  (hs:∀ x,foldedSetIterable iter X.env x=pure x:=by intro _;rfl):PS X (.For tg iter body [] pos) (tFor wi g tb):=by
 intro pins s σ H D I h
 refine wpAny_For (thn (hi pins s σ H _ I h) fun v s1 h1=>thn h1 fun itv s2 h2=>?_) hs
 obtain⟨it,fp,tn,J,H2,e,I2,T,st2,f2,W,⟨m0,w0⟩,turn⟩:=h2
 subst e
 have stat:∀ {H':Hp},(∀ b∈fp,H' b=none)→∀ b∈fp,FpOk X pins H' b:=fun hn b hb=>⟨hn b hb,(f2 b hb).2⟩
 refine codeAny_forLoop_any (fun n s'=>∃ i σ' H',Inv X pins σ' H' s'∧tn i s'.heap∧(∀ b∈fp,H' b=none)∧W i n σ' H') ?_ m0 ⟨0,σ,H2,I2,st2,fun b hb=>(f2 b hb).1,w0⟩
 rintro n s3 ⟨i,σ3,H3,I3,st3,fr3,w3⟩
 rcases turn i n σ3 H3 w3 with⟨stop,qn⟩ | ⟨go,N,hN,step⟩
 ·refine wpAny_passesOwn hp (thn (T.done X rfl rfl rfl hc i pins s3 σ3 H3 X.xe I3 (stat fr3) st3 stop) fun r s4 ⟨hr,I4⟩=>?_)
  subst hr
  exact wpAny_execs_nil ⟨σ3,H3,I4,qn⟩
 ·refine wpAny_passesOwn hp (thn (T.item X rfl rfl rfl hc i pins s3 σ3 H3 X.xe I3 (stat fr3) st3 go) fun r s4 ⟨u,hr,h4⟩=>?_)
  subst hr
  refine wpAny_passesOwn hp (thn h4 fun _ s5 ⟨x,H5,I5,r5,y5,st5,fr5⟩=>?_)
  have I5':=I5.pinned (stat fr5) (T.obj _ _ st5)
  refine wpAny_passesOwn hp (thn (hg _ s5 σ3 H5 x u _ I5' r5 (step x H5 y5)) fun _ s6 ⟨σ6,H6,I6,q6⟩=>?_)
  refine wpAny_passesOwn hp (thn (hb _ s6 σ6 H6 _ I6 q6) fun f s7 q7=>?_)
  have again:∀ {σ7:St} {H7:Hp},Inv X (pins++zdz fp s5.heap) σ7 H7 s7→N σ7 H7→∃ m,m<n∧∃ i σ' H',Inv X pins σ' H' s7∧tn i s7.heap∧(∀ b∈fp,H' b=none)∧W i m σ' H':=fun {σ7 H7} I7 n7=>by
   obtain⟨m',hm,w7⟩:=hN σ7 H7 n7
   refine⟨m',hm,i+1,σ7,H7,I7.unpinned,T.keep _ _ _ st5 fun b hb o e=>(I7.pin (b,o) (List.mem_append_right _ (List.mem_append_right _ (zbl hb e)))).1,fun b hb=>?_,w7⟩
   obtain⟨o,e,d⟩:=T.obj _ _ st5 b hb
   exact (I7.pin (b,o) (List.mem_append_right _ (List.mem_append_right _ (zbl hb e)))).2.1
  cases f with
  | next=>obtain⟨σ7,H7,I7,n7⟩:=q7;exact again I7 n7
  | cont=>obtain⟨σ7,H7,I7,n7⟩:=q7;exact again I7 n7
  | brk=>obtain⟨σ7,H7,I7,q7⟩:=q7;exact⟨σ7,H7,I7.unpinned,q7⟩
  | ret v=>obtain⟨x7,σ7,H7,I7,r7,q7⟩:=q7;exact⟨x7,σ7,H7,I7.unpinned,r7,q7⟩
end
theorem zaD {K : W.Frag}{a : Addr}{xs : List V}{g : TG}{tb : TS}{D : Ends}{σ : St}{H : Hp}(Pv : Nat → St → Hp → Prop) (h0 : Pv 0 σ H) (hl : ∀ i σ H, i ≤ xs.length → Pv i σ H → SqL K H a xs)
  (hs:∀ i x σ H,xs[i]?=some x→Pv i σ H→g x σ H fun σ2 H2=>tb { D with nx:=Pv (i+1),ct:=Pv (i+1),bk:=D.nx } σ2 H2) (hd:∀ σ H,Pv xs.length σ H→D.nx σ H) :
  ∃ W:Nat→Nat→St→Hp→Prop,(∃ m,W 0 m σ H)∧∀ i m σ H,W i m σ H →
   ((Itl K a).stop i H∧D.nx σ H)∨((Itl K a).go i H∧∃ N:St→Hp→Prop,(∀ σ' H',N σ' H'→∃ m',m'<m∧W (i+1) m' σ' H')∧∀ x H',(Itl K a).yld i H x H'→g x σ H' fun σ2 H2=>tb { D with nx:=N,ct:=N,bk:=D.nx } σ2 H2):=by
 refine⟨fun i m σ H=>m=xs.length - i∧i≤xs.length∧Pv i σ H,⟨xs.length,by simp,Nat.zero_le _,h0⟩,?_⟩
 rintro i m σ H ⟨rfl,hi,p⟩
 have q:=hl i σ H hi p
 by_cases hlt:i<xs.length
 ·refine .inr ⟨⟨xs,xs[i],q,by simp[hlt]⟩,Pv (i+1),fun σ' H' p'=>⟨xs.length - (i+1),by lia,rfl,hlt,p'⟩,fun x H' y=>?_⟩
  obtain⟨e,y⟩:=y
  subst e
  exact hs i x σ _ (y xs q) p
 ·have e:i=xs.length:=by lia
  subst e
  exact .inl ⟨⟨xs,q,Nat.le_refl _⟩,hd σ H p⟩
theorem zhl {K : W.Frag}{a : Addr}{xs : List V}{g : TG}{tb : TS}{D : Ends}{σ : St}{H : Hp}(Pv : Nat → St → Hp → Prop) (h0 : Pv 0 σ H) (hl : ∀ i σ H, i ≤ xs.length → Pv i σ H → SqT K H a xs)
  (hs:∀ i x σ H,xs[i]?=some x→Pv i σ H→g x σ H fun σ2 H2=>tb { D with nx:=Pv (i+1),ct:=Pv (i+1),bk:=D.nx } σ2 H2) (hd:∀ σ H,Pv xs.length σ H→D.nx σ H) :
  ∃ W:Nat→Nat→St→Hp→Prop,(∃ m,W 0 m σ H)∧∀ i m σ H,W i m σ H →
   ((Itt K a).stop i H∧D.nx σ H)∨((Itt K a).go i H∧∃ N:St→Hp→Prop,(∀ σ' H',N σ' H'→∃ m',m'<m∧W (i+1) m' σ' H')∧∀ x H',(Itt K a).yld i H x H'→g x σ H' fun σ2 H2=>tb { D with nx:=N,ct:=N,bk:=D.nx } σ2 H2):=by
 refine⟨fun i m σ H=>m=xs.length - i∧i≤xs.length∧Pv i σ H,⟨xs.length,by simp,Nat.zero_le _,h0⟩,?_⟩
 rintro i m σ H ⟨rfl,hi,p⟩
 have q:=hl i σ H hi p
 by_cases hlt:i<xs.length
 ·refine .inr ⟨⟨xs,xs[i],q,by simp[hlt]⟩,Pv (i+1),fun σ' H' p'=>⟨xs.length - (i+1),by lia,rfl,hlt,p'⟩,fun x H' y=>?_⟩
  obtain⟨e,y⟩:=y
  subst e
  exact hs i x σ _ (y xs q) p
 ·have e:i=xs.length:=by lia
  subst e
  exact .inl ⟨⟨xs,q,Nat.le_refl _⟩,hd σ H p⟩
theorem zcm {lo : Int}{n : Nat}{g : TG}{tb : TS}{D : Ends}{σ : St}{H : Hp}(Pv : Nat → St → Hp → Prop) (h0 : Pv 0 σ H)
  (hs:∀ i σ H,i<n→Pv i σ H→g (.int (lo+i)) σ H fun σ2 H2=>tb { D with nx:=Pv (i+1),ct:=Pv (i+1),bk:=D.nx } σ2 H2) (hd:∀ σ H,Pv n σ H→D.nx σ H) :
  ∃ W:Nat→Nat→St→Hp→Prop,(∃ m,W 0 m σ H)∧∀ i m σ H,W i m σ H →
   ((Itr lo n).stop i H∧D.nx σ H)∨((Itr lo n).go i H∧∃ N:St→Hp→Prop,(∀ σ' H',N σ' H'→∃ m',m'<m∧W (i+1) m' σ' H')∧∀ x H',(Itr lo n).yld i H x H'→g x σ H' fun σ2 H2=>tb { D with nx:=N,ct:=N,bk:=D.nx } σ2 H2):=by
 refine⟨fun i m σ H=>m=n - i∧i≤n∧Pv i σ H,⟨n,by simp,Nat.zero_le _,h0⟩,?_⟩
 rintro i m σ H ⟨rfl,hi,p⟩
 by_cases hlt:i<n
 ·refine .inr ⟨hlt,Pv (i+1),fun σ' H' p'=>⟨n - (i+1),by lia,rfl,hlt,p'⟩,fun x H' y=>?_⟩
  obtain⟨e,y⟩:=y
  subst e y
  exact hs i σ _ hlt p
 ·have e:i=n:=by lia
  subst e
  exact .inl ⟨Nat.le_refl _,hd σ H p⟩
theorem zko {c : TT}{tb : TS}{D : Ends}{σ : St}{H : Hp}(Pv : St → Hp → Prop) (μ : St → Hp → Nat) (h0 : Pv σ H)
  (hs:∀ σ H,Pv σ H→c σ H fun b H1=>if b=true then tb { D with nx:=fun σ' H'=>Pv σ' H'∧μ σ' H'<μ σ H,ct:=fun σ' H'=>Pv σ' H'∧μ σ' H'<μ σ H,bk:=D.nx } σ H1 else D.nx σ H1)
  (mono:∀ σ H Q Q',(∀ b H1,Q b H1→Q' b H1)→c σ H Q→c σ H Q'):zk5 c tb D σ H:=by
 refine⟨fun m σ H=>m=μ σ H∧Pv σ H,⟨_,rfl,h0⟩,?_⟩
 rintro m σ H ⟨rfl,p⟩
 refine mono σ H _ _ (fun b H1 q=>?_) (hs σ H p)
 cases b with
 | true=>exact⟨_,fun σ' H' ⟨p',l⟩=>⟨_,l,rfl,p'⟩,q⟩
 | false=>exact q
abbrev R2:=V→V→Hp→VK→Prop
def OpR (X:Cx) (f:Value→Value→Sem Value) (r:R2):Prop :=
 ∀ (pins:List (Addr×Obj)) (s:Shared) (σ:St) (H:Hp) (x y:V) (v u:Value) (Q:VK),Inv X pins σ H s→RelV x v→RelV y u→r x y H Q →
  wpAny (model X.prog X.w) X.A (f v u) (EP X pins σ Q) X.xe s
def UnR (X:Cx) (f:Value→Sem Value) (r:V→Hp→VK→Prop):Prop :=
 ∀ (pins:List (Addr×Obj)) (s:Shared) (σ:St) (H:Hp) (x:V) (v:Value) (Q:VK),Inv X pins σ H s→RelV x v→r x H Q →
  wpAny (model X.prog X.w) X.A (f v) (EP X pins σ Q) X.xe s
def CallR (X:Cx) (f:Value) (r:List V→Hp→VK→Prop):Prop :=
 ∀ (pins:List (Addr×Obj)) (s:Shared) (σ:St) (H:Hp) (xs:List V) (us:List Value) (Q:VK),Inv X pins σ H s→Vals xs us→r xs H Q →
  wpAny (model X.prog X.w) X.A (call f us) (EP X pins σ Q) X.xe s
def TruR (X:Cx) (r:V→Hp→(Bool→Hp→Prop)→Prop):Prop :=
 ∀ (pins:List (Addr×Obj)) (s:Shared) (σ:St) (H:Hp) (x:V) (v:Value) (Q:Bool→Hp→Prop),Inv X pins σ H s→RelV x v→r x H Q →
  wpAny (model X.prog X.w) X.A (truthy v) (TP X pins σ Q) X.xe s
def tOp (r:R2) (ta tb:TE):TE:=fun σ H Q=>ta σ H fun x H1=>tb σ H1 fun y H2=>r x y H2 Q
def tUn (r:V→Hp→VK→Prop) (ta:TE):TE:=fun σ H Q=>ta σ H fun x H1=>r x H1 Q
def rI (C:Int→Int→Prop) (g:Int→Int→V):R2:=fun x y H Q=>∃ i j,x=.int i∧y=.int j∧C i j∧Q (g i j) H
def rI0 (g:Int→Int→V):R2:=fun x y H Q=>∃ i j,x=.int i∧y=.int j∧Q (g i j) H
def rU (g:Int→V):V→Hp→VK→Prop:=fun x H Q=>∃ i,x=.int i∧Q (g i) H
section
variable {X:Cx}{a b c:Expr}{ta tb tc:TE}{pos:Pos}
theorem binT (ha : PE X a ta) (hb : PE X b tb){pins : List (Addr × Obj)}{s : Shared}{σ : St}{H : Hp}{R : V → V → Hp → Prop}(I : Inv X pins σ H s)
  (h:ta σ H fun x H1=>tb σ H1 fun y H2=>R x y H2) {Q:Value→Shared→Prop} {f:Value→Value→Sem Value}
  (hf:∀ v u s2 x y H2,Inv X pins σ H2 s2→RelV x v→RelV y u→R x y H2→wpAny (model X.prog X.w) X.A (f v u) Q X.xe s2) :
  wpAny (model X.prog X.w) X.A (eval a X.env) (fun v s₁=>wpAny (model X.prog X.w) X.A (eval b X.env) (fun u s₂=>wpAny (model X.prog X.w) X.A (f v u) Q X.xe s₂) X.xe s₁) X.xe s:=by
 refine thn (ha pins s σ H _ I h) fun v s1 ⟨x,H1,I1,r1,q1⟩=>?_
 refine thn (hb pins s1 σ H1 _ I1 q1) fun u s2 ⟨y,H2,I2,r2,q2⟩=>?_
 exact hf v u s2 x y H2 I2 r1 r2 q2
theorem pe_op {op:Operator}{r:R2}(ho:OpR X (binaryOp op) r) (ha:PE X a ta) (hb:PE X b tb):PE X (.BinOp a op b pos) (tOp r ta tb):=by
 intro pins s σ H Q I h
 exact wpAny_BinOp (binT ha hb I h fun v u s2 x y H2 I2 rx ry q=>ho pins s2 σ H2 x y v u Q I2 rx ry q)
theorem pe_un {op:UnaryOp}{r:V→Hp→VK→Prop}(ho:UnR X (unaryOp op) r) (ha:PE X a ta):PE X (.UnaryOp op a pos) (tUn r ta):=by
 intro pins s σ H Q I h
 exact UnaryOp_ (thn (ha pins s σ H _ I h) fun v s1 ⟨x,H1,I1,r1,q1⟩=>ho pins s1 σ H1 x v Q I1 r1 q1)
theorem opI {f : Value → Value → Sem Value}{C : Int → Int → Prop}{g : Int → Int → Int}
  (rule:∀ (i j:Int) (t u:Tok) (s:Shared) (Q:Value→Shared→Prop) (E:Value→Shared→Prop),C i j→Q (.int (g i j) s.toks) { s with toks:=s.toks+1 }→wpAny (model X.prog X.w) X.A (f (.int i t) (.int j u)) Q E s) :
  OpR X f (rI C fun i j=>.int (g i j)):=by
 intro pins s σ H x y v u Q I rx ry h
 obtain⟨i,j,rfl,rfl,hc,q⟩:=h
 obtain⟨t,rfl⟩:=rx
 obtain⟨t',rfl⟩:=ry
 exact rule i j t t' s _ _ hc ⟨.int (g i j),H,I.tok _,⟨_,rfl⟩,q⟩
theorem opI0 {f : Value → Value → Sem Value}{g : Int → Int → Int}
  (rule:∀ (i j:Int) (t u:Tok) (s:Shared) (Q:Value→Shared→Prop) (E:Value→Shared→Prop),Q (.int (g i j) s.toks) { s with toks:=s.toks+1 }→wpAny (model X.prog X.w) X.A (f (.int i t) (.int j u)) Q E s) :
  OpR X f (rI0 fun i j=>.int (g i j)):=by
 intro pins s σ H x y v u Q I rx ry h
 obtain⟨i,j,rfl,rfl,q⟩:=h
 obtain⟨t,rfl⟩:=rx
 obtain⟨t',rfl⟩:=ry
 exact rule i j t t' s _ _ ⟨.int (g i j),H,I.tok _,⟨_,rfl⟩,q⟩
theorem opB0 {f : Value → Value → Sem Value}{g : Int → Int → Bool}
  (rule:∀ (i j:Int) (t u:Tok) (s:Shared) (Q:Value→Shared→Prop) (E:Value→Shared→Prop),Q (.bool (g i j)) s→wpAny (model X.prog X.w) X.A (f (.int i t) (.int j u)) Q E s) :
  OpR X f (rI0 fun i j=>.bl (g i j)):=by
 intro pins s σ H x y v u Q I rx ry h
 obtain⟨i,j,rfl,rfl,q⟩:=h
 obtain⟨t,rfl⟩:=rx
 obtain⟨t',rfl⟩:=ry
 exact rule i j t t' s _ _ ⟨.bl (g i j),H,I,rfl,q⟩
def CDiv (i j:Int):Prop:=0<j∧j<1073741824
def CPow (i j:Int):Prop:=0≤j∧j≤1000000∧i.natAbs<2 ^ 64
def CMul (i j:Int):Prop:=(-(2 ^ 64)<i∧i<2 ^ 64)∨(-(2 ^ 64)<j∧j<2 ^ 64)
theorem CMul.ok {i j:Int}(h:CMul i j):IntMulOk i j:=by
 rcases h with⟨h1,h2⟩ | ⟨h1,h2⟩
 ·exact .of_left (intBits_le_64 h1 h2)
 ·exact .of_right (intBits_le_64 h1 h2)
theorem zaG:OpR X (binaryOp .Add) (rI0 fun i j=>.int (i+j)):=opI0 fun _ _ _ _ _ _ _ q=>add_int q
theorem zbS:OpR X (binaryOp .Sub) (rI0 fun i j=>.int (i - j)):=opI0 fun _ _ _ _ _ _ _ q=>sub_int q
theorem zcU:OpR X (binaryOp .Mult) (rI CMul fun i j=>.int (i*j)):=opI fun _ _ _ _ _ _ _ hc q=>mul_int q hc.ok
theorem zfq:OpR X (binaryOp .FloorDiv) (rI CDiv fun i j=>.int (i / j)):=opI fun i j _ _ _ _ _ hc q=>by
 have h1:(0:Int)<j:=hc.1
 have h2:j<1073741824:=hc.2
 exact floordiv_int (by lia) (by rw[Int.fdiv_eq_ediv_of_nonneg i (by lia)];exact q) (.inl (PyProof.noPylong_small (by lia)))
theorem zb7:OpR X (binaryOp .Mod) (rI (fun _ j=>0<j) fun i j=>.int (i % j)):=opI fun i j _ _ _ _ _ hc q=>by
 have h1:(0:Int)<j:=hc
 exact mod_int' (by lia) (by rw[Int.fmod_eq_emod_of_nonneg i (by lia)];exact q)
theorem zgh:OpR X (binaryOp .Pow) (rI CPow fun i j=>.int (i ^ j.toNat)):=opI fun _ _ _ _ _ _ _ hc q=>pow_int_small hc.1 hc.2.1 hc.2.2 q
theorem unI {f : Value → Sem Value}{g : Int → Int}
  (rule:∀ (i:Int) (t:Tok) (s:Shared) (Q:Value→Shared→Prop) (E:Value→Shared→Prop),Q (.int (g i) s.toks) { s with toks:=s.toks+1 }→wpAny (model X.prog X.w) X.A (f (.int i t)) Q E s) :
  UnR X f (rU fun i=>.int (g i)):=by
 intro pins s σ H x v Q I rx h
 obtain⟨i,rfl,q⟩:=h
 obtain⟨t,rfl⟩:=rx
 exact rule i t s _ _ ⟨.int (g i),H,I.tok _,⟨_,rfl⟩,q⟩
theorem zfV:UnR X (unaryOp .USub) (rU fun i=>.int (-i)):=unI fun _ _ _ _ _ q=>neg_int q
end
def scal:V→V→Bool
 | .non,.non=>true | .non,.int _=>true | .int _,.non=>true | .non,.bl _=>true | .bl _,.non=>true | .non,.str _=>true | .str _,.non=>true
 | .int _,.int _=>true | .bl _,.bl _=>true | .str _,.str _=>true | .byt _,.byt _=>true
 | .int _,.str _=>true | .str _,.int _=>true | .bl _,.str _=>true | .str _,.bl _=>true
 | _,_=>false
def rEq:R2:=fun x y H Q=>scal x y=true∧Q (.bl (decide (x=y))) H
def rNe:R2:=fun x y H Q=>scal x y=true∧Q (.bl (!decide (x=y))) H
theorem zjV {i j:Int}:decide (V.int i=V.int j)=(i == j):=by
 rw[Bool.eq_iff_iff]
 simp
theorem zlr {i j:Bool}:decide (V.bl i=V.bl j)=(i == j):=by
 rw[Bool.eq_iff_iff]
 simp
theorem zjU {i j:Str}:decide (V.str i=V.str j)=(i == j):=by
 rw[Bool.eq_iff_iff]
 simp
theorem zjW {i j:Array UInt8}:decide (V.byt i=V.byt j)=(i.toList == j.toList):=by
 rw[Bool.eq_iff_iff]
 cases i
 cases j
 simp
section
variable {X:Cx}{a b c:Expr}{ta tb tc:TE}{pos:Pos}
theorem zaN {pins:List (Addr×Obj)}{σ:St}{H:Hp}{s:Shared}{Q:VK}{k k':Bool}(I:Inv X pins σ H s) (q:Q (.bl k) H) (e:k=k'):EP X pins σ Q (.bool k') s:=by
 subst e
 exact⟨.bl k,H,I,rfl,q⟩
theorem op_eq:OpR X (compareOp .Eq) rEq:=by
 intro pins s σ H x y v u Q I rx ry h
 obtain⟨hs,q⟩:=h
 cases x with
 | non =>
  cases rx
  cases y with
  | non=>cases ry;exact PySem.EqNone.eq_none_none (zaN I q (by simp))
  | bl j=>cases ry;exact PySem.EqNone.eq_none_bool (zaN I q (by simp))
  | int j=>obtain⟨t',rfl⟩:=ry;exact PySem.EqNone.eq_none_int (zaN I q (by simp))
  | str j=>obtain⟨t',rfl⟩:=ry;exact PySem.EqNone.eq_none_str (zaN I q (by simp))
  | _=>exact absurd (show false=true from hs) Bool.false_ne_true
 | bl i =>
  cases rx
  cases y with
  | non=>cases ry;exact PySem.EqNone.eq_bool_none (zaN I q (by simp))
  | bl j=>cases ry;exact eq_bool (zaN I q zlr)
  | str j=>obtain⟨t',rfl⟩:=ry;exact PySem.EqMixed.eq_bool_str (zaN I q (by simp))
  | _=>exact absurd (show false=true from hs) Bool.false_ne_true
 | int i =>
  obtain⟨t,rfl⟩:=rx
  cases y with
  | non=>cases ry;exact PySem.EqNone.eq_int_none (zaN I q (by simp))
  | int j=>obtain⟨t',rfl⟩:=ry;exact eq_int (zaN I q zjV)
  | str j=>obtain⟨t',rfl⟩:=ry;exact PySem.EqMixed.eq_int_str (zaN I q (by simp))
  | _=>exact absurd (show false=true from hs) Bool.false_ne_true
 | str i =>
  obtain⟨t,rfl⟩:=rx
  cases y with
  | non=>cases ry;exact PySem.EqNone.eq_str_none (zaN I q (by simp))
  | bl j=>cases ry;exact PySem.EqMixed.eq_str_bool (zaN I q (by simp))
  | int j=>obtain⟨t',rfl⟩:=ry;exact PySem.EqMixed.eq_str_int (zaN I q (by simp))
  | str j=>obtain⟨t',rfl⟩:=ry;exact eq_str (zaN I q zjU)
  | _=>exact absurd (show false=true from hs) Bool.false_ne_true
 | byt i =>
  obtain⟨t,rfl⟩:=rx
  cases y with
  | byt j=>obtain⟨t',rfl⟩:=ry;exact W.eq_bytes (zaN I q zjW)
  | _=>exact absurd (show false=true from hs) Bool.false_ne_true
 | _=>cases y <;> exact absurd (show false=true from hs) Bool.false_ne_true
theorem op_ne:OpR X (compareOp .NotEq) rNe:=by
 intro pins s σ H x y v u Q I rx ry h
 obtain⟨hs,q⟩:=h
 cases x with
 | non =>
  cases rx
  cases y with
  | non=>cases ry;exact PySem.EqNone.ne_none_none (zaN I q (by simp))
  | bl j=>cases ry;exact PySem.EqNone.ne_none_bool (zaN I q (by simp))
  | int j=>obtain⟨t',rfl⟩:=ry;exact PySem.EqNone.ne_none_int (zaN I q (by simp))
  | str j=>obtain⟨t',rfl⟩:=ry;exact PySem.EqNone.ne_none_str (zaN I q (by simp))
  | _=>exact absurd (show false=true from hs) Bool.false_ne_true
 | bl i =>
  cases rx
  cases y with
  | non=>cases ry;exact PySem.EqNone.ne_bool_none (zaN I q (by simp))
  | bl j=>cases ry;exact ne_bool (zaN I q (congrArg not zlr))
  | str j=>obtain⟨t',rfl⟩:=ry;exact PySem.EqMixed.ne_bool_str (zaN I q (by simp))
  | _=>exact absurd (show false=true from hs) Bool.false_ne_true
 | int i =>
  obtain⟨t,rfl⟩:=rx
  cases y with
  | non=>cases ry;exact PySem.EqNone.ne_int_none (zaN I q (by simp))
  | int j=>obtain⟨t',rfl⟩:=ry;exact ne_int (zaN I q (congrArg not zjV))
  | str j=>obtain⟨t',rfl⟩:=ry;exact PySem.EqMixed.ne_int_str (zaN I q (by simp))
  | _=>exact absurd (show false=true from hs) Bool.false_ne_true
 | str i =>
  obtain⟨t,rfl⟩:=rx
  cases y with
  | non=>cases ry;exact PySem.EqNone.ne_str_none (zaN I q (by simp))
  | bl j=>cases ry;exact PySem.EqMixed.ne_str_bool (zaN I q (by simp))
  | int j=>obtain⟨t',rfl⟩:=ry;exact PySem.EqMixed.ne_str_int (zaN I q (by simp))
  | str j=>obtain⟨t',rfl⟩:=ry;exact ne_str (zaN I q (congrArg not zjU))
  | _=>exact absurd (show false=true from hs) Bool.false_ne_true
 | byt i =>
  obtain⟨t,rfl⟩:=rx
  cases y with
  | byt j=>obtain⟨t',rfl⟩:=ry;exact W.ne_bytes (zaN I q (congrArg not zjW))
  | _=>exact absurd (show false=true from hs) Bool.false_ne_true
 | _=>cases y <;> exact absurd (show false=true from hs) Bool.false_ne_true
theorem op_lt:OpR X (compareOp .Lt) (rI0 fun i j=>.bl (decide (i<j))):=opB0 fun _ _ _ _ _ _ _ q=>lt_int q
theorem op_gt:OpR X (compareOp .Gt) (rI0 fun i j=>.bl (decide (j<i))):=opB0 fun _ _ _ _ _ _ _ q=>gt_int q
theorem op_ge:OpR X (compareOp .GtE) (rI0 fun i j=>.bl (decide (j≤i))):=opB0 fun _ _ _ _ _ _ _ q=>ge_int q
theorem zju:OpR X (compareOp .Is) (fun x y H Q=>y=.non∧Q (.bl (decide (x=.non))) H):=by
 intro pins s σ H x y v u Q I rx ry h
 obtain⟨rfl,q⟩:=h
 cases ry
 refine is_none_gen (zaN I q ?_)
 cases x <;> first
  | (cases rx;rfl)
  | (obtain⟨t,rfl⟩:=rx;rfl)
theorem zfp:OpR X (compareOp .IsNot) (fun x y H Q=>y=.non∧Q (.bl (!decide (x=.non))) H):=by
 intro pins s σ H x y v u Q I rx ry h
 obtain⟨rfl,q⟩:=h
 cases ry
 refine isnot_none_gen (zaN I q ?_)
 cases x <;> first
  | (cases rx;rfl)
  | (obtain⟨t,rfl⟩:=rx;rfl)
theorem zaw (b:Expr){op:CmpOp}(h:op≠.In:=by decide) (h2:op≠.NotIn:=by decide):behindInMarks op b=false:=by
 have e1:(op == CmpOp.In)=false:=by cases op <;> first | rfl | exact absurd rfl h
 have e2:(op == CmpOp.NotIn)=false:=by cases op <;> first | rfl | exact absurd rfl h2
 cases b <;> simp[behindInMarks,e1,e2]
theorem zca {op:CmpOp}{r:R2}(ho:OpR X (compareOp op) r) (ha:PE X a ta) (hb:PE X b tb) (hm:behindInMarks op b=false):PE X (.Compare a [op] [b] pos) (tOp r ta tb):=by
 intro pins s σ H Q I h
 exact wpAny_Compare1 (binT ha hb I h fun v u s2 x y H2 I2 rx ry q=>ho pins s2 σ H2 x y v u Q I2 rx ry q) hm
def tTest (t:TE):TT:=fun σ H Q=>t σ H fun x H'=>∃ k,x=.bl k∧Q k H'
theorem zaz {op:CmpOp}{r:R2}(ho:OpR X (compareOp op) r) (ha:PE X a ta) (hb:PE X b tb) (hm:behindInMarks op b=false):PT X (.Compare a [op] [b] pos) (tTest (tOp r ta tb)):=by
 intro pins s σ H Q I h
 refine wpAny_isTrue_Compare1 (thn (ha pins s σ H _ I h) fun v s1 ⟨x,H1,I1,r1,q1⟩=>thn (hb pins s1 σ H1 _ I1 q1) fun u s2 ⟨y,H2,I2,r2,q2⟩ =>
  thn (ho pins s2 σ H2 x y v u _ I2 r1 r2 q2) fun c s3 ⟨z,H3,I3,r3,k,e,q3⟩=>?_) hm
 subst e
 cases r3
 exact wpAny_truthy_bool ⟨H3,I3,q3⟩
def TruV (K:W.Frag) (x:V) (H:Hp) (k:Bool):Prop :=
 match x with
 | .non=>k=false
 | .bl b=>k=b
 | .int i=>k=(i != 0)
 | .str y=>y.length≤sizeLine∧k=((y.length:Int) != 0)
 | .byt y=>y.size≤sizeLine∧k=((y.size:Int) != 0)
 | .ref p=>(∃ xs,SqL K H p xs∧k=!xs.isEmpty)∨(∃ xs,SqT K H p xs∧k=!xs.isEmpty)∨∃ kvs,H p=some (.dK kvs)∧k=!kvs.isEmpty
 | _=>False
theorem ziC {κ:Type}{kvs:List (κ×V)}{vs:List (κ×Value)}(r:KV kvs vs):(!vs.isEmpty)=!kvs.isEmpty:=by
 cases r <;> rfl
theorem zeT {xs:List V}{its:List Value}(r:Vals xs its):(!its.toArray.isEmpty)=!xs.isEmpty:=by
 cases r <;> simp
theorem zgo:(sizeLine:Nat)<2 ^ 63:=by rw[sizeLine_eq];decide
theorem zl5:TruR X (fun x H Q=>∃ k,TruV X.K x H k∧Q k H):=by
 intro pins s σ H x v Q I rx h
 obtain⟨k,e,q⟩:=h
 have hl:=zgo
 have hs:sizeLine=16777216:=sizeLine_eq
 cases x with
 | non =>
  cases rx
  have e':k=false:=e
  subst e'
  exact truthy_none ⟨H,I,q⟩
 | bl b =>
  cases rx
  have e':k=b:=e
  subst e'
  exact wpAny_truthy_bool ⟨H,I,q⟩
 | int i =>
  obtain⟨t,rfl⟩:=rx
  have e':k=(i != 0):=e
  subst e'
  exact PySem.P.truthy_int ⟨H,I,q⟩
 | str y =>
  obtain⟨t,rfl⟩:=rx
  obtain⟨hy,e'⟩:y.length≤sizeLine∧k=((y.length:Int) != 0):=e
  subst e'
  exact PySem.P.truthy_str (by lia) ⟨H,I.tok _,q⟩
 | byt y =>
  obtain⟨t,rfl⟩:=rx
  obtain⟨hy,e'⟩:y.size≤sizeLine∧k=((y.size:Int) != 0):=e
  subst e'
  exact W.truthy_bytes (by lia) ⟨H,I.tok _,q⟩
 | ref p =>
  cases rx
  have e':(∃ xs,SqL X.K H p xs∧k=!xs.isEmpty)∨(∃ xs,SqT X.K H p xs∧k=!xs.isEmpty)∨∃ kvs,H p=some (.dK kvs)∧k=!kvs.isEmpty:=e
  rcases e' with⟨xs,hx,e'⟩ | ⟨xs,hx,e'⟩ | ⟨kvs,hx,e'⟩
  ·subst e'
   obtain⟨its,r,pl,hz⟩:=I.list hx
   have hlen:=r.length
   exact wpAny_truthy_list pl.isList (by simp only[List.size_toArray];lia) ⟨H,I.tok _,by rw[zeT r];exact q⟩
  ·subst e'
   obtain⟨its,r,pl,hz⟩:=I.tuple hx
   have hlen:=r.length
   exact truthy_tuple pl (by simp only[List.size_toArray];lia) ⟨H,I.tok _,by rw[zeT r];exact q⟩
  ·subst e'
   obtain⟨hz,hS,vs,r,m⟩:kvs.length≤sizeLine∧(p == sysModules)=false∧∃ vs,KV kvs vs∧s.heap.DictOf (zaS X.prog X.w) p vs:=I.hok p _ hx
   have hlen:kvs.length=vs.length:=Paired.length r
   exact wpAny_truthy_dict hS m (by lia) ⟨H,I.tok _,by rw[ziC r];exact q⟩
 | _=>exact (show False from e).elim
theorem zkD (ha : PE X a ta) (he : ∀ whole, isTrue a X.env whole = (do let v ← whole; standAt a.pos; holding [v] (truthy v))) :
  PT X a (fun σ H Q=>ta σ H fun x H'=>∃ k,TruV X.K x H' k∧Q k H'):=by
 intro pins s σ H Q I h
 exact isTrue_plain (thn (ha pins s σ H _ I h) fun v s1 ⟨x,H1,I1,r1,q1⟩=>zl5 pins s1 σ H1 x v Q I1 r1 q1) (he _)
theorem vals1 {x:V}{us:List Value}(r:Vals [x] us):∃ u,us=[u]∧RelV x u:=by
 cases r with
 | cons r1 r2=>cases r2;exact⟨_,rfl,r1⟩
theorem vals2 {x y:V}{us:List Value}(r:Vals [x,y] us):∃ u w',us=[u,w']∧RelV x u∧RelV y w':=by
 cases r with
 | cons r1 r2 =>
  cases r2 with
  | cons r3 r4=>cases r4;exact⟨_,_,rfl,r1,r3⟩
theorem zie:CallR X (.builtin "abs") (fun xs H Q=>∃ i,xs=[.int i]∧Q (.int (if i<0 then -i else i)) H):=by
 intro pins s σ H xs us Q I r h
 obtain⟨i,rfl,q⟩:=h
 obtain⟨u,rfl,t,rfl⟩:=vals1 r
 exact call_abs_int fun u tk=>⟨.int (if i<0 then -i else i),H,I.tok _,⟨_,rfl⟩,q⟩
theorem zj5 (hc:X.calm=true):CallR X (.builtin "max") (fun xs H Q=>∃ i j,xs=[.int i,.int j]∧Q (.int (if j > i then j else i)) H):=by
 intro pins s σ H xs us Q I r h
 obtain⟨i,j,rfl,q⟩:=h
 obtain⟨u,w',rfl,⟨t,rfl⟩,⟨t',rfl⟩⟩:=vals2 r
 refine max_two_ints (I.ok.hd hc) fun h' tk k=>⟨_,H,I.kept k,?_,q⟩
 by_cases hj:j > i
 ·rw[if_pos hj,if_pos hj];exact⟨_,rfl⟩
 ·rw[if_neg hj,if_neg hj];exact⟨_,rfl⟩
theorem zj4 (hc:X.calm=true):CallR X (.builtin "min") (fun xs H Q=>∃ i j,xs=[.int i,.int j]∧Q (.int (if j<i then j else i)) H):=by
 intro pins s σ H xs us Q I r h
 obtain⟨i,j,rfl,q⟩:=h
 obtain⟨u,w',rfl,⟨t,rfl⟩,⟨t',rfl⟩⟩:=vals2 r
 refine min_two_ints (I.ok.hd hc) fun h' tk k=>⟨_,H,I.kept k,?_,q⟩
 by_cases hj:j<i
 ·rw[if_pos hj,if_pos hj];exact⟨_,rfl⟩
 ·rw[if_neg hj,if_neg hj];exact⟨_,rfl⟩
theorem zel:CallR X (.type "int") (fun xs H Q=>(∃ i,xs=[.int i]∧Q (.int i) H)∨∃ k,xs=[.bl k]∧Q (.int (if k then 1 else 0)) H):=by
 intro pins s σ H xs us Q I r h
 rcases h with⟨i,rfl,q⟩ | ⟨k,rfl,q⟩
 ·obtain⟨u,rfl,t,rfl⟩:=vals1 r
  exact call_int_int ⟨.int i,H,I,⟨_,rfl⟩,q⟩
 ·obtain⟨u,rfl,r1⟩:=vals1 r
  cases r1
  exact call_int_bool ⟨.int (if k then 1 else 0),H,I.tok _,⟨_,rfl⟩,q⟩
end
structure ObjM (h:Heap) (x dx C:Addr) (mA:Str→Option Value):Prop where
 obj:h.get? x=some (W.instObj C dx)
 ns:h.Ns1 dx mA
 ne:dx≠x
theorem zjG {h:Heap}{dx:Addr}{mA:Str→Option Value}(n:h.Ns1 dx mA):∃ od,h.get? dx=some od∧∀ name,W.lookIn name od=some (mA name):=by
 obtain⟨o,es,ep,ho,hd,hk,_,hm⟩:=n
 refine⟨o,ho,fun name=>?_⟩
 have e:=hm name
 unfold nsFind findBy at e
 rw[← Array.find?_toList] at e
 unfold W.lookIn
 rw[hd]
 dsimp only
 split
 ·rename_i y q
  rw[q] at e
  exact congrArg some e
 ·rename_i q
  rw[q] at e
  have a:es.toList.any (·.refKey)=false:=by
   rw[List.any_eq_false]
   intro y hy
   obtain⟨z,t,hkey⟩:=hk y (Array.mem_toList_iff.mp hy)
   simp[DictEntry.refKey,hkey]
  have a':¬ es.toList.any (·.refKey)=true:=by rw[a];exact Bool.false_ne_true
  rw[if_neg a']
  exact congrArg some e
theorem ObjM.look {h:Heap}{x dx C:Addr}{mA:Str→Option Value}(I:ObjM h x dx C mA):∃ od,W.InstAt h x (W.instObj C dx) C (some od)∧∀ name,W.lookIn name od=some (mA name) :=
 let ⟨od,ho,hl⟩:=zjG I.ns
 ⟨od,⟨I.obj,rfl,rfl,ho⟩,hl⟩
section
variable {prog:Program}{w:World}{A:Around}{E:Value→Shared→Prop}{s:Shared}{K:W.Frag}{x dx C f:Addr}{mA:Str→Option Value}{name:Str}{v:Value}
end
section
variable {P:Program}{w:World}{H H':Hp}{h h':Heap}{a C dx:Addr}{fs fs':List (Str×V)}
theorem zlZ (hok:HOk P w H h) (e:H a=some (.ins C dx fs)):∃ mA,ObjM h a dx C mA∧(∀ f,RelO (fs.lookup f) (mA f))∧PySem.Within mA (fs.map (·.1))∧fs.length≤1000∧H dx=some (.own a):=by
 obtain⟨d,z,ne,ob,mA,n,r,q⟩:=(show ObjOk P w H h a (.ins C dx fs) from hok a _ e)
 exact⟨mA,⟨ob,n,ne⟩,r,q,z,d⟩
end
structure Cls (K:W.Frag) (C:Addr):Prop where
 pg:W.plainGet K C Str.empty=true
 hd:W.hasDictIn K C=true
 po:W.plainOver K C=true
 sa:W.findIn K (.ref C) "__setattr__" = some (some (.builtin "object.__setattr__"))
theorem Cls.get {K:W.Frag}{C:Addr}(c:Cls K C) (f:Str):W.plainGet K C f=true:=c.pg
structure Con (K:W.Frag) (C:Addr) (f:Str) (v:V) (u:Value):Prop where
 at_:W.findIn K (.ref C) f=some (some u)
 rel:RelV v u
 get:W.specialIn K u "__get__" = some none
 cp:W.copiedNames.contains f=false
structure Meth (K:W.Frag) (C:Addr) (m:Str) (f:Addr):Prop where
 at_:W.findIn K (.ref C) m=some (some (.ref f))
 fn:W.isFn K (.ref f)=true
 kp:W.keepIn K (.ref f)=true
section
variable {X:Cx}{pins:List (Addr×Obj)}{σ:St}{H:Hp}{s:Shared}{a C dx:Addr}{fs:List (Str×V)}{f:Str}{v:V}{A:Around}{E:Value→Shared→Prop}
end
section
variable {X:Cx}{o e value:Expr}{f:Str}{pos pos' tpos:Pos}{ta tv:TE}
end
section
variable {X:Cx}{pins:List (Addr×Obj)}{σ:St}{H:Hp}{s:Shared}{A:Around}{E:Value→Shared→Prop}{Q:Value→Shared→Prop}{c:Value}{b:Bool}
inductive TyOf (K:W.Frag) (H:Hp):V→Value→Prop where
  | non:TyOf K H .non (.type "NoneType")
  | bl (x:Bool):TyOf K H (.bl x) (.type "bool")
  | int (i:Int):TyOf K H (.int i) (.type "int")
  | str (x:Str):TyOf K H (.str x) (.type "str")
  | flt (x:UInt64):TyOf K H (.flt x) (.type "float")
  | lst {a:Addr} {xs:List V} (e:H a=some (.lst xs)):TyOf K H (.ref a) (.type "list")
  | frz {a:Addr} {o:Obj} {xs:List V} (e:H a=some (.frz o (.lst xs))):TyOf K H (.ref a) (.type "list")
  | tup {a:Addr} {xs:List V} (e:H a=some (.tup xs)):TyOf K H (.ref a) (.type "tuple")
  | dK {a:Addr} {kvs:List (Key×V)} (e:H a=some (.dK kvs)):TyOf K H (.ref a) (.type "dict")
  | dT {a:Addr} {kvs:List (List Key×V)} (e:H a=some (.dT kvs)):TyOf K H (.ref a) (.type "dict")
  | ins {a C dx : Addr} {fs : List (Str × V)} (e : H a = some (.ins C dx fs)) (cl : Cls K C) (ha : W.findIn K (.ref C) "__class__" = some (some (.builtin "object.__class__")))
      (hn:W.specialIn K (.builtin "object.__class__") "__get__" = some (some (.builtin "getset_descriptor.__get__"))) (htk:W.takesIn K (.builtin "object.__class__")=some true)
      (hm:W.mroIn K C (.type "object")=some true):TyOf K H (.ref a) (.ref C)
theorem zjL {x : V}{u t : Value}(I : Inv X pins σ H s) (rx : RelV x u) (ty : TyOf X.K H x t) (e : W.kitOne X.K t c = some b) (h : ∀ tk, Q (.bool b) { s with toks := tk }) :
  wpAny (model X.prog X.w) A (call (.builtin "isinstance") [u,c]) Q E s:=by
 cases ty with
 | non=>cases (show u=Value.none from rx);exact W.kia_one W.kitx_none I.kIn True.intro e (fun z=>nomatch z) h
 | bl y=>cases (show u=Value.bool y from rx);exact W.kia_one W.kitx_bool I.kIn True.intro e (fun z=>nomatch z) h
 | int i=>obtain⟨t,q⟩:=(show ∃ t,u=Value.int i t from rx);cases q;exact W.kia_one W.kitx_int I.kIn True.intro e (fun z=>nomatch z) h
 | str y=>obtain⟨t,q⟩:=(show ∃ t,u=Value.str y t from rx);cases q;exact W.kia_one W.kitx_str I.kIn True.intro e (fun z=>nomatch z) h
 | flt y=>obtain⟨t,q⟩:=(show ∃ t,u=Value.float y t from rx);cases q;exact W.kia_one W.kitx_float I.kIn True.intro e (fun z=>nomatch z) h
 | @lst a xs ea =>
  cases (show u=Value.ref a from rx)
  obtain⟨_,_,n,_,h1⟩:=(show ObjOk X.prog X.w H s.heap a (.lst xs) from I.hok a _ ea)
  exact W.kia_one W.kitx_list I.kIn ⟨_,h1,rfl⟩ e (fun z=>nomatch z) h
 | @frz a ob xs ea =>
  cases (show u=Value.ref a from rx)
  obtain⟨_,_,_,n,_,h1⟩:=(show ObjOk X.prog X.w H s.heap a (.frz ob (.lst xs)) from I.hok a _ ea)
  exact W.kia_one W.kitx_list I.kIn ⟨_,h1,rfl⟩ e (fun z=>nomatch z) h
 | @tup a xs ea =>
  cases (show u=Value.ref a from rx)
  obtain⟨_,_,_,p⟩:=(show ObjOk X.prog X.w H s.heap a (.tup xs) from I.hok a _ ea)
  obtain⟨o,h1,h2,_⟩:=p
  exact W.kia_one W.kitx_tuple I.kIn ⟨o,h1,h2⟩ e (fun z=>nomatch z) h
 | @dK a kvs ea =>
  cases (show u=Value.ref a from rx)
  obtain⟨_,_,vs,_,p⟩:=(show ObjOk X.prog X.w H s.heap a (.dK kvs) from I.hok a _ ea)
  obtain⟨o,es,ep,h1,h2,_⟩:=p
  exact W.kia_one W.kitx_dict I.kIn ⟨o,h1,h2.1⟩ e (fun z=>nomatch z) h
 | @dT a kvs ea =>
  cases (show u=Value.ref a from rx)
  obtain⟨_,_,xs,_,o,es,ep,h1,h2,_⟩:=(show ObjOk X.prog X.w H s.heap a (.dT kvs) from I.hok a _ ea)
  exact W.kia_one W.kitx_dict I.kIn ⟨o,h1,h2.1⟩ e (fun z=>nomatch z) h
 | @ins a C dx fs ea cl ha hn htk hm =>
  cases (show u=Value.ref a from rx)
  obtain⟨mA,O,_⟩:=zlZ I.hok ea
  obtain⟨od,J,_⟩:=O.look
  exact W.kia_one (W.kitx_own (cl.get _) cl.hd ha hn htk hm) I.kIn J e (fun z=>nomatch z) h
end
structure Room (k:Nat) (A:Around):Prop where
 hd:A.handled=none
 dp:A.depth+3*k+5<recursionLimit
 un:A.units+16*k+200<cLine
theorem Room.mono {j k:Nat}{A:Around}(r:Room k A) (h:j≤k):Room j A:=⟨r.hd,by have:=r.dp;lia,by have:=r.un;lia⟩
theorem Room.deeper {k:Nat}{A:Around}(r:Room (k+1) A) (env:Env):Room k (A.deeper env) :=
 ⟨r.hd,by have:=r.dp;show A.depth+1+3*k+5<_;lia,by have:=r.un;show A.units+3+16*k+200<_;lia⟩
theorem Room.in1 {k:Nat}{A:Around}(r:Room (k+1) A):Room k A.in1 :=
 ⟨r.hd,by have:=r.dp;show A.depth+3*k+5<_;lia,by have:=r.un;show A.units+1+16*k+200<_;lia⟩
theorem Room.depth {k:Nat}{A:Around}(r:Room k A):A.depth<recursionLimit:=by have:=r.dp;lia
theorem Room.units {k:Nat}{A:Around}(r:Room k A):A.units+64<cLine:=by have:=r.un;lia
theorem Room.units0 {k:Nat}{A:Around}(r:Room k A):A.units<cLine:=by have:=r.un;lia
def tNil:TA:=fun _ H Q=>Q [] H
def tCons (ta:TE) (tr:TA):TA:=fun σ H Q=>ta σ H fun x H1=>tr σ H1 fun xs H2=>Q (x::xs) H2
section
variable {X:Cx}{e:Expr}{es:List Expr}{te:TE}{t:TA}{pos:Pos}
theorem zac:PA X [] tNil:=fun _ _ _ _ H Q I h=>Calls.spliced_nil ⟨[],H,I,.nil,h⟩
theorem zaj (ha:PE X e te) (hr:PA X es t) (hs:starEach (e::es) X.env=(false,eval e X.env)::starEach es X.env:=by rfl):PA X (e::es) (tCons te t):=by
 intro pos pins s σ H Q I h
 rw[hs]
 show wpAny _ _ (spliced ((false,eval e X.env)::backTo pos (starEach es X.env))) _ _ s
 refine Calls.spliced_cons (thn (ha pins s σ H _ I h) fun u s1 ⟨x,H1,I1,r1,q1⟩=>?_)
 exact thn (hr pos pins s1 σ H1 _ I1 q1) fun us s2 ⟨xs,H2,I2,r2,q2⟩=>⟨x::xs,H2,I2,.cons r1 r2,q2⟩
def tTup (t:TA):TE:=fun σ H Q=>t σ H fun xs H1=>xs.length≤sizeLine∧∀ p,H1 p=none→Q (.ref p) (upd H1 p (.tup xs))
def tLst (t:TA):TE:=fun σ H Q=>t σ H fun xs H1=>xs.length≤sizeLine∧∀ p,H1 p=none→Q (.ref p) (upd H1 p (.lst xs))
theorem zaI {x1}(h:PA X es t):PE X (.Tuple es x1 pos) (tTup t):=by
 intro pins s σ H Q I hq
 refine wpAny_Tuple_spliced (thn (h pos pins s σ H _ I hq) fun us s1 ⟨xs,H1,I1,r,z,q⟩=>⟨by rw[← r.length];exact z,?_⟩)
 have hf:H1 s1.heap.objs.size=none:=I1.hok.fresh (Nat.le_refl _)
 refine⟨.ref s1.heap.objs.size,upd H1 s1.heap.objs.size (.tup xs),I1.laid (t':=s1.toks) (fun b u e=>Heap.get?_push_of_some _ e) (Nat.le_refl _) ?_,rfl,q _ hf⟩
 exact⟨z,us,r,⟨_,Heap.get?_push_size _ rfl,rfl,_,rfl⟩⟩
theorem zbm (h:PA X es t):PE X (.List es pos) (tLst t):=by
 intro pins s σ H Q I hq
 refine wpAny_List_spliced (thn (h pos pins s σ H _ I hq) fun us s1 ⟨xs,H1,I1,r,z,q⟩=>⟨by rw[← r.length];exact z,?_⟩)
 have hf:H1 s1.heap.objs.size=none:=I1.hok.fresh (Nat.le_refl _)
 refine⟨.ref s1.heap.objs.size,upd H1 s1.heap.objs.size (.lst xs),I1.laid (t':=s1.toks) (fun b u e=>Heap.get?_push_of_some _ e) (Nat.le_refl _) ?_,rfl,q _ hf⟩
 exact⟨z,us,0,r,Heap.get?_push_size _ rfl⟩
end
abbrev Sp:=List V→Hp→VK→XK→Prop
abbrev CXT:=List Env→Hp→Shared→XK→Value→Shared→Prop
structure Env0 (P:Program) (w:World) (K:W.Frag) (mg:Str→Option Value) (base:Heap) (A:Around) (outer:List Env) (s:Shared) (H:Hp):Prop where
 frames:A.frames=some outer
 mod:Mod K mg base
 bs:∀ b o,base.get? b=some o→s.heap.get? b=some o∧H b=none
 bsz:base.objs.size≤s.heap.objs.size
 funs:s.heap.FunFrames base outer
 frf:∀ b∈frs outer,H b=none
 hok:HOk P w H s.heap
 bare:AllBare s.gens
def CE (outer:List Env) (P:Program) (w:World) (H:Hp) (s:Shared) (Q:VK) (u:Value) (s':Shared):Prop :=
 ∃ v H',s'.os=s.os∧AllBare s'.gens∧Un (frs outer) [] H H' s.heap s'.heap∧HOk P w H' s'.heap∧RelV v u∧Q v H'
def CR (CX:CXT) (outer:List Env) (P:Program) (w:World) (H:Hp) (s:Shared) (Q:VK) (E:XK) (r:Result) (s':Shared):Prop :=
 match r with
 | .ok (.ret u)=>CE outer P w H s Q u s'
 | .ok _=>False
 | .error e=>CX outer H s E e s'
structure FnOk (P:Program) (w:World) (K:W.Frag) (mg:Str→Option Value) (base:Heap) (CX:CXT) (k:Nat) (f:Addr) (fd:FuncData) (ps:List Str) (sp:Sp):Prop where
 len:∀ vs H Q E,sp vs H Q E→vs.length=ps.length
 run:∀ (A:Around) (outer:List Env) (s:Shared) (H:Hp) (args:Args) (us:List Value) (vs:List V) (Q:VK) (E:XK),Room k A→Env0 P w K mg base A outer s H→BindsTo s fd args (ps.zip us)→Vals vs us→sp vs H Q E →
  codeAny (model P w) A (.call (.ref f) args) (CR CX outer P w H s Q E) s
theorem FnOk.imp {P : Program}{w : World}{K : W.Frag}{mg : Str → Option Value}{base : Heap}{CX : CXT}{k : Nat}{f : Addr}{fd : FuncData}{ps : List Str}{sp sp' : Sp}(F : FnOk P w K mg base CX k f fd ps sp)
  (h:∀ vs H Q E,sp' vs H Q E→sp vs H Q E):FnOk P w K mg base CX k f fd ps sp' :=
 ⟨fun vs H Q E q=>F.len vs H Q E (h _ _ _ _ q),fun A outer s H args us vs Q E hr he hb hv hs=>F.run A outer s H args us vs Q E hr he hb hv (h _ _ _ _ hs)⟩
theorem Env0.in1 {P : Program}{w : World}{K : W.Frag}{mg : Str → Option Value}{base : Heap}{A : Around}{outer : List Env}{s : Shared}{H : Hp}(e : Env0 P w K mg base A outer s H) :
  Env0 P w K mg base A.in1 outer s H:=⟨e.frames,e.mod,e.bs,e.bsz,e.funs,e.frf,e.hok,e.bare⟩
section
variable {X:Cx}{pins:List (Addr×Obj)}{σ:St}{H:Hp}{s s':Shared}
theorem Inv.env0 (I:Inv X pins σ H s):Env0 X.prog X.w X.K X.mg X.base X.A X.stack s H :=
 ⟨I.ok.frames,I.ok.mod,I.bs,Nat.le_trans I.ok.bsz I.sz,I.stack,I.stkFree,I.hok,I.bare⟩
theorem Inv.after {Q:VK}{u:Value}(I:Inv X pins σ H s) (h:CE X.stack X.prog X.w H s Q u s'):EP X pins σ Q u s':=by
 obtain⟨v,H',os,bare,un,hok,r,q⟩:=h
 obtain⟨hh,g,d,t,os'⟩:=s'
 obtain rfl:os'=s.os:=os
 exact⟨v,H',I.call (h':=hh) (g':=g) (d':=d) (t':=t) (ch:=[]) un hok bare (fun b z=>absurd z (by simp)),r,q⟩
end
def tCall (sp:Sp) (dvs:List V) (E:XK) (t:TA):TE:=fun σ H Q=>t σ H fun vs H1=>sp (vs++dvs) H1 Q E
def Binds (K:W.Frag) (fd:FuncData) (ps:List Str) (ds:List Value):Prop :=
 ∀ (s:Shared) (us:List Value),K.In s.heap→(us++ds).length=ps.length→BindsTo s fd ⟨us,[]⟩ (ps.zip (us++ds))
theorem Binds.all {K:W.Frag}{fd:FuncData}{ps:List Str}(h:∀ us:List Value,us.length=ps.length→bindArgs fd ⟨us,[]⟩=pure (ps.zip us)):Binds K fd ps []:=fun s us _ hl=>by
 rw[List.append_nil] at hl ⊢
 exact .of_eq (h us hl)
def zig (CX:CXT) (X:Cx) (E:XK):Prop:=∀ (pins:List (Addr×Obj)) (σ:St) (H:Hp) (s:Shared) (e:Value) (s':Shared),Inv X pins σ H s→CX X.stack H s E e s'→X.xe e s'
section
variable {X:Cx}{CX:CXT}{k:Nat}{f C:Addr}{fd:FuncData}{ps:List Str}{sp:Sp}{dvs:List V}{ds:List Value}{E:XK}{x m:Str}{p pos apos:Pos}{e o:Expr}{es:List Expr}{ta:TE}{t:TA}
theorem zlh {pins : List (Addr × Obj)}{σ : St}{H : Hp}{s : Shared}{Q : VK}{us : List Value}{vs : List V}(F : FnOk X.prog X.w X.K X.mg X.base CX k f fd ps sp) (hr : Room k X.A) (hb : Binds X.K fd ps ds) (hd : Vals dvs ds) (hx : zig CX X E)
  (I:Inv X pins σ H s) (r:Vals vs us) (h:sp (vs++dvs) H Q E):wpAny (model X.prog X.w) X.A (call (.ref f) us) (EP X pins σ Q) X.xe s:=by
 have r2:Vals (vs++dvs) (us++ds):=r.append hd
 have hl:(us++ds).length=ps.length:=by rw[← r2.length];exact F.len _ _ _ _ h
 refine wpAny_call (codeAny_mono (F.run X.A X.stack s H ⟨us,[]⟩ (us++ds) (vs++dvs) Q E hr I.env0 (hb s us I.kIn hl) r2 h) fun r s' hq=>?_)
 cases r with
 | error e=>exact hx pins σ H s e s' I hq
 | ok fl =>
  cases fl with
  | ret u=>exact I.after hq
  | next=>exact False.elim hq
  | brk=>exact False.elim hq
  | cont=>exact False.elim hq
theorem zai (F : FnOk X.prog X.w X.K X.mg X.base CX k f fd ps sp) (hr : Room k X.A) (hg : Gl X x) (hm : X.mg x = some (.ref f)) (hk : W.keepIn X.K (.ref f) = true) (hb : Binds X.K fd ps ds) (hd : Vals dvs ds) (hx : zig CX X E)
  (ha:PA X (e::es) t) (hdb:(x == ("__debug__" : Str))=false:=by decide) (he:starEach (e::es) X.env=(false,eval e X.env)::starEach es X.env:=by rfl) (hpl:(backTo pos (starEach es X.env)).any (·.1)=false:=by rfl) :
  PE X (.Call (.Name x p) (e::es) [] pos) (tCall sp dvs E t):=by
 intro pins s σ H Q I h
 refine wpAny_Call_Name_kw (zhi I hg hm ?_ hdb)
 refine W.callWith_K (h₀:=X.base) I.ok.mod.kin hk (thn (ha pos pins s σ H _ I h) fun us s1 ⟨vs,H1,I1,r,q⟩=>⟨I1.kIn,?_⟩) he hpl
 exact zlh F hr hb hd hx I1 r q
theorem zfo (F : FnOk X.prog X.w X.K X.mg X.base CX k f fd ps sp) (hr : Room k X.A) (hg : Gl X x) (hm : X.mg x = some (.ref f)) (hk : W.keepIn X.K (.ref f) = true) (hb : Binds X.K fd ps ds) (hd : Vals dvs ds) (hx : zig CX X E)
  (hdb:(x == ("__debug__" : Str))=false:=by decide):PE X (.Call (.Name x p) [] [] pos) (tCall sp dvs E tNil):=by
 intro pins s σ H Q I h
 refine wpAny_Call_Name_kw (zhi I hg hm ?_ hdb)
 exact W.callWith_K0 I.kIn hk (zlh (us:=[]) F hr hb hd hx I .nil h)
structure Mk (K:W.Frag) (C f:Addr):Prop where
 makes:W.makesIn K C=true
 init:W.findIn K (.ref C) "__init__" = some (some (.ref f))
 fn:W.isFn K (.ref f)=true
 kp:W.keepIn K (.ref C)=true
end
def PK (X:Cx) (kws:List Keyword) (t:TA):Prop :=
 ∀ (pos:Pos) (pins:List (Addr×Obj)) (s:Shared) (σ:St) (H:Hp) (Q:List V→Hp→Prop),Inv X pins σ H s→t σ H Q→wpAny (model X.prog X.w) X.A (evalAll ((backToKw pos (keywordEach kws X.env)).map (·.2))) (AP X pins σ Q) X.xe s
section
variable {X:Cx}{CX:CXT}{k:Nat}{f C:Addr}{fd:FuncData}{ps ks:List Str}{sp:Sp}{E:XK}{x m:Str}{p pos apos kpos:Pos}{e o:Expr}{es:List Expr}{kws:List Keyword}{te ta:TE}{t tk:TA}{nm:Option Str}
theorem zli:PK X [] tNil:=fun _ _ _ _ H Q I h=>wpAny_evalAll_nil ⟨[],H,I,.nil,h⟩
theorem zjl (ha:PE X e te) (hr:PK X kws t):PK X (⟨nm,e,kpos⟩::kws) (tCons te t):=by
 intro pos pins s σ H Q I h
 show wpAny _ _ (evalAll ((do let v ← eval e X.env;standAt pos;pure v)::(backToKw pos (keywordEach kws X.env)).map (·.2))) _ _ s
 refine wpAny_evalAll_cons (wpAny_bind (thn (ha pins s σ H _ I h) fun u s1 ⟨x,H1,I1,r1,q1⟩=>wpAny_bind (wpAny_standAt (wpAny_pure ?_))))
 exact thn (hr pos pins s1 σ H1 _ I1 q1) fun us s2 ⟨xs,H2,I2,r2,q2⟩=>⟨x::xs,H2,I2,.cons r1 r2,q2⟩
structure KBinds (K:W.Frag) (fd:FuncData) (ps ks:List Str) (g:List Value→List Value→List Value) (gV:List V→List V→List V):Prop where
 to:∀ (s:Shared) (us ws:List Value),K.In s.heap→(g us ws).length=ps.length→BindsTo s fd ⟨us,ks.zip ws⟩ (ps.zip (g us ws))
 rel:∀ {vs:List V} {us:List Value} {zs:List V} {ws:List Value},Vals vs us→Vals zs ws→Vals (gV vs zs) (g us ws)
variable {g:List Value→List Value→List Value}{gV:List V→List V→List V}
end
structure FnScope (N P:List Str) (sc:Scope):Prop where
 kind:sc.kind=.function
 co:sc.isCoroutine=false
 gen:sc.isGenerator=false
 nd:N.Nodup
 pre:N.take P.length=P
 par:∀ x∈P,sc.names.lookup x=some .local∨sc.names.lookup x=some .cell
 nofree:∀ y∈sc.names,y.2≠.free
theorem zgF {kindOf:Str→Option NameKind}{x:Str}:∀ {binds:List (Str×Value)}{m:Str→Option Value},(∀ v,(x,v) ∉ binds)→bindL kindOf binds m x=m x
 | [],_,_=>rfl
 | (n,v)::r,m,h=>by
  unfold bindL
  rw[zgF fun w hw=>h w (List.mem_cons_of_mem _ hw)]
  split
  ·have:x≠n:=by rintro rfl;exact h v List.mem_cons_self
   simp[this]
  ·rfl
theorem zgH {kindOf:Str→Option NameKind}{x:Str}:∀ {binds:List (Str×Value)}{m:Str→Option Value},(∀ v,(x,v) ∉ binds)→bindC kindOf binds m x=m x
 | [],_,_=>rfl
 | (n,v)::r,m,h=>by
  unfold bindC
  rw[zgH fun w hw=>h w (List.mem_cons_of_mem _ hw)]
  split
  ·rfl
  ·have:x≠n:=by rintro rfl;exact h v List.mem_cons_self
   simp[this]
theorem zgG {kindOf : Str → Option NameKind}{x : Str}{v : Value} : ∀ {P : List Str}{vs : List Value}{i : Nat}{m : Str → Option Value}, P.Nodup → P[i]? = some x → vs[i]? = some v → kindOf x = some .local →
  bindL kindOf (P.zip vs) m x=some v
 | [],_,_,_,_,h,_,_=>by simp at h
 | _::_,[],_,_,_,_,h,_=>by simp at h
 | p::P,w::vs,0,m,nd,h1,h2,hk=>by
  simp at h1 h2;subst h1;subst h2
  show bindL kindOf ((p,w)::P.zip vs) m p=_
  unfold bindL
  rw[zgF fun v hv=>(List.nodup_cons.mp nd).1 (List.of_mem_zip hv).1,if_pos hk]
  simp
 | p::P,w::vs,i+1,m,nd,h1,h2,hk=>by
  show bindL kindOf ((p,w)::P.zip vs) m x=_
  unfold bindL
  exact zgG (i:=i) (List.nodup_cons.mp nd).2 (by simpa using h1) (by simpa using h2) hk
theorem zgI {kindOf : Str → Option NameKind}{x : Str}{v : Value} : ∀ {P : List Str}{vs : List Value}{i : Nat}{m : Str → Option Value}, P.Nodup → P[i]? = some x → vs[i]? = some v → kindOf x ≠ some .local →
  bindC kindOf (P.zip vs) m x=some v
 | [],_,_,_,_,h,_,_=>by simp at h
 | _::_,[],_,_,_,_,h,_=>by simp at h
 | p::P,w::vs,0,m,nd,h1,h2,hk=>by
  simp at h1 h2;subst h1;subst h2
  show bindC kindOf ((p,w)::P.zip vs) m p=_
  unfold bindC
  rw[zgH fun v hv=>(List.nodup_cons.mp nd).1 (List.of_mem_zip hv).1,if_neg hk]
  simp
 | p::P,w::vs,i+1,m,nd,h1,h2,hk=>by
  show bindC kindOf ((p,w)::P.zip vs) m x=_
  unfold bindC
  exact zgI (i:=i) (List.nodup_cons.mp nd).2 (by simpa using h1) (by simpa using h2) hk
def start (N:List Str) (vs:List V):St:=vs.map some++List.replicate (N.length - vs.length) none
def cxOf (CX:CXT) (P:Program) (w:World) (K:W.Frag) (mg:Str→Option Value) (base:Heap) (N:List Str) (qual:Str) (scope:Scope) (f:Addr) (cd:Value) (A:Around) (outer:List Env) (s:Shared) (H:Hp) (E:XK):Cx where
 prog:=P
 w:=w
 K:=K
 mg:=mg
 base:=base
 A:=A.deeper (envOfC qual scope s.heap.objs.size f cd)
 N:=N
 s₀:=s
 H₀:=H
 env:=envOfC qual scope s.heap.objs.size f cd
 outer:=outer
 stack:=envOfC qual scope s.heap.objs.size f cd::outer
 ex:=[]
 calm:=true
 fn:=fun _=>true
 pn:=[]
 xe:=fun e s'=>wpAny (model P w) (A.deeper (envOfC qual scope s.heap.objs.size f cd)) (leaving (envOfC qual scope s.heap.objs.size f cd) e) (fun _ s''=>CX outer H s E e s'') (fun e' s''=>CX outer H s E e' s'') s'
theorem zid {sc:Scope}{n:Nat}{x:Str}(h:sc.names.lookup x=some .cell):∃ c,(cellsFrom n sc.names []).lookup x=some c:=by
 have q:=W.cellsFrom_some sc.names n [] (.inl h)
 exact Option.isSome_iff_exists.mp q
theorem zjM {CX : CXT}{P : Program}{w : World}{K : W.Frag}{mg : Str → Option Value}{base : Heap}{N ps : List Str}{qual : Str}{scope : Scope}{f : Addr}{cd : Value}{A : Around}{outer : List Env}{s s1 : Shared}{H : Hp}{E : XK}{us : List Value}{vs : List V}
  (S:FnScope N ps scope) (hd:A.handled=none) (e0:Env0 P w K mg base A outer s H) (hl:vs.length=ps.length) (r:Vals vs us)
  (x:InCallC s s.heap.objs.size (bindL (envOfC qual scope s.heap.objs.size f cd).kindOf (ps.zip us) fun _=>none) (cellsFrom (s.heap.objs.size+1) scope.names []) (bindC (envOfC qual scope s.heap.objs.size f cd).kindOf (ps.zip us) fun _=>none) s1) :
  Inv (cxOf CX P w K mg base N qual scope f cd A outer s H E) [] (start N vs) H s1:=by
 have hpl:ps.length≤N.length:=by have:=congrArg List.length S.pre;rw[List.length_take] at this;lia
 obtain⟨h1,tk,rfl,hk⟩:=x.done
 have noA:∀ b:Addr,b ∉ (cxOf CX P w K mg base N qual scope f cd A outer s H E).ex:=fun b z=>absurd (show b∈([]:List Addr) from z) (by simp)
 refine⟨⟨e0.mod,S.kind,rfl,rfl,Nat.le_refl _,fun y z c h1 h2=>?_,fun y hy=>?_,fun y c _ h=>?_,fun _=>hd,Around.frames_deeper e0.frames,.inr ⟨rfl,rfl⟩,fun b z=>absurd z (noA b),e0.bs,e0.bsz,fun b _ _=>noA b,fun b z=>absurd z (noA b),e0.funs,e0.frf⟩,
  rfl,e0.bare,Un.kept hk,⟨_,x.toInCall.ns,fun i y v h1 h2 h3=>?_⟩,fun y c h=>⟨_,x.cell y c h⟩,e0.hok.fresh (Nat.le_refl _),fun y c h=>?_,fun p hp=>absurd (show p∈([]:List (Addr×Obj)) from hp) (by simp),e0.hok.kept hk,?_⟩
 ·exact name_of_addr x.apart (PySem.mem_of_lookup h1) (PySem.mem_of_lookup h2)
 ·have hy:scope.names.lookup y=some .cell∨scope.names.lookup y=some .free:=hy
  rcases hy with hy | hy
  ·exact zid hy
  ·exact absurd rfl (S.nofree _ (PySem.mem_of_lookup hy))
 ·exact Nat.le_of_lt (x.above y c (PySem.mem_of_lookup h))
 ·have hi : i < vs.length := by
   unfold start at h2
   by_cases hi:i<vs.length
   ·exact hi
   ·rw[List.getElem?_append_right (by simpa using hi)] at h2
    rw[List.getElem?_replicate] at h2
    split at h2 <;> cases h2
  have ha:vs[i]?=some v:=by
   unfold start at h2
   rw[List.getElem?_append_left (by simpa using hi),List.getElem?_map] at h2
   cases e:vs[i]? with
   | none=>rw[e] at h2;cases h2
   | some a=>rw[e] at h2;cases h2;rfl
  obtain⟨u,hu,rv⟩:=r.get ha
  have hp:ps[i]?=some y:=by
   rw[← S.pre,List.getElem?_take_of_lt (by lia)];exact h1
  have ndP:ps.Nodup:=by rw[← S.pre];exact S.nd.sublist (List.take_sublist _ _)
  refine⟨u,rv,?_⟩
  rcases S.par y (List.mem_of_getElem? hp) with k | k
  ·exact .inl ⟨k,zgG ndP hp hu k⟩
  ·obtain⟨c,e⟩:=zid (n:=s.heap.objs.size+1) k
   refine .inr ⟨.inl k,c,e,?_⟩
   have q:=x.cell y c e
   rw[zgI ndP hp hu (by show scope.names.lookup y≠_;rw[k];decide)] at q
   exact q
 ·exact e0.hok.fresh (Nat.le_of_lt (x.above y c (PySem.mem_of_lookup h)))
 ·unfold start
  show _=N.length
  rw[List.length_append,List.length_map,List.length_replicate]
  lia
theorem fn_of {CX : CXT}{P : Program}{w : World}{K : W.Frag}{mg : Str → Option Value}{base : Heap}{k : Nat}{f : Addr}{name qual : Str}{params : Arguments}{body : List Stmt}{scope : Scope}{dV kV doc pm cdv ct oc : Value}{an od : Option Addr}
  {osl:Array (Option Value)} {N ps:List Str} {sp:Sp} (lk:K.lookup f=some ⟨oc,od,.func (W.fnOf name qual params body scope dV kV doc pm an cdv ct),osl⟩) (hcd:W.codeIn K cdv qual=true) (S:FnScope N ps scope)
  (len:∀ vs H Q E,sp vs H Q E→vs.length=ps.length)
  (hbody:∀ (A:Around) (outer:List Env) (s:Shared) (H:Hp) (vs:List V) (Q:VK) (E:XK),Room k (A.deeper (envOfC qual scope s.heap.objs.size f cdv))→sp vs H Q E →
   ∃ t,PSs (cxOf CX P w K mg base N qual scope f cdv A outer s H E) body t∧t { nx:=fun _ H'=>Q .non H',rt:=Q } (start N vs) H) :
  FnOk P w K mg base CX (k+1) f (W.fnOf name qual params body scope dV kV doc pm an cdv ct) ps sp:=by
 refine⟨len,fun A outer s H args us vs Q E hr e0 hb r hsp=>?_⟩
 have hl:=len _ _ _ _ hsp
 have KX:K.In s.heap:=e0.mod.kin.keeps fun b o e=>(e0.bs b o e).1
 have lim:s.heap.NoLimit:=e0.mod.nolimit.keeps fun b o e=>(e0.bs b o e).1
 have hkind:∀ y∈ps.zip us,scope.names.lookup y.1=some .local∨(scope.names.lookup y.1=some .cell∧((cellsFrom (s.heap.objs.size+1) scope.names []).lookup y.1).isSome=true):=fun⟨n,v⟩ hy=>by
  rcases S.par n (List.of_mem_zip hy).1 with q | q
  ·exact .inl q
  ·exact .inr ⟨q,W.cellsFrom_some _ _ _ (.inl q)⟩
 refine codeAny_call_function hr.depth (KX _ _ lk) rfl S.co S.gen rfl (W.codeRec_of KX hcd) (hb _ _ _ _ ?_)
 refine wpAny_newFunctionEnv_cells S.kind hkind fun env he s1 x=>?_
 subst he
 refine⟨lim.keeps x.toInCall.keep,codeAny_func ?_⟩
 obtain⟨t,ht,hq⟩:=hbody A outer s H vs Q E (hr.deeper _) hsp
 have I:Inv (cxOf CX P w K mg base N qual scope f cdv A outer s H E) [] (start N vs) H s1:=zjM S hr.hd e0 hl r x
 refine wpAny_mono (ht [] s1 (start N vs) H _ I hq) (fun fl s' hs=>?_) fun e s' hs=>hs
 have fin:∀ {σ':St} {H':Hp} {v:V} {u:Value},Inv (cxOf CX P w K mg base N qual scope f cdv A outer s H E) [] σ' H' s'→RelV v u→Q v H'→CE outer P w H s Q u s' :=
  fun {σ' H' v u} J rv q=>⟨v,H',J.os,J.bare,J.base,J.hok,rv,q⟩
 cases fl with
 | ret u =>
  obtain⟨v,σ',H',J,rv,q⟩:=hs
  exact fin J rv q
 | next =>
  obtain⟨σ',H',J,q⟩:=hs
  exact fin (v:=V.non) (u:=Value.none) J rfl q
 | brk =>
  obtain⟨_,_,_,q⟩:=hs
  exact False.elim q
 | cont =>
  obtain⟨_,_,_,q⟩:=hs
  exact False.elim q
section
variable {X:Cx}{x:Str}{p pos:Pos}{e:Expr}{es:List Expr}{t:TA}{id T:String}{r:List V→Hp→VK→Prop}
def tCB (r:List V→Hp→VK→Prop) (t:TA):TE:=fun σ H Q=>t σ H fun vs H1=>r vs H1 Q
theorem zaK (hc : CallR X (.builtin id) r) (hg : Gl X x) (hm : X.mg x = none) (hv : bootBuiltins x = some (.builtin id)) (ha : PA X (e :: es) t) (hn : x ≠ "__name__" := by decide) (hdb : (x == ("__debug__" : Str)) = false := by decide)
  (he:starEach (e::es) X.env=(false,eval e X.env)::starEach es X.env:=by rfl) (hpl:(backTo pos (starEach es X.env)).any (·.1)=false:=by rfl):PE X (.Call (.Name x p) (e::es) [] pos) (tCB r t):=by
 intro pins s σ H Q I h
 refine wpAny_Call_Name_kw (zcV I hg hm hv ?_ hn hdb)
 exact PyProof.Rows.callWith_builtin1 (thn (ha pos pins s σ H _ I h) fun us s1 ⟨vs,H1,I1,r1,q1⟩=>hc pins s1 σ H1 vs us Q I1 r1 q1) he hpl
theorem zbx (hc : CallR X (.type T) r) (hg : Gl X x) (hm : X.mg x = none) (hv : bootBuiltins x = some (.type T)) (ha : PA X (e :: es) t) (hn : x ≠ "__name__" := by decide) (hdb : (x == ("__debug__" : Str)) = false := by decide)
  (he:starEach (e::es) X.env=(false,eval e X.env)::starEach es X.env:=by rfl) (hpl:(backTo pos (starEach es X.env)).any (·.1)=false:=by rfl):PE X (.Call (.Name x p) (e::es) [] pos) (tCB r t):=by
 intro pins s σ H Q I h
 refine wpAny_Call_Name_kw (zcV I hg hm hv ?_ hn hdb)
 exact PyProof.Rows.callWith_type1 (thn (ha pos pins s σ H _ I h) fun us s1 ⟨vs,H1,I1,r1,q1⟩=>hc pins s1 σ H1 vs us Q I1 r1 q1) he hpl
end
section
variable {κ:Type} [DecidableEq κ]
def valV (kvs:List (κ×V)) (k:κ):Option V:=(kvs.find? fun kv=>decide (kv.1=k)).map (·.2)
def putK (kvs:List (κ×V)) (k:κ) (v:V):List (κ×V) :=
 if (kvs.any fun kv=>decide (kv.1=k))=true then kvs.map (fun kv=>if kv.1=k then (kv.1,v) else kv) else kvs++[(k,v)]
theorem zbU {p:κ×V}{r:List (κ×V)}{k:κ}(e:p.1=k):valV (p::r) k=some p.2:=by simp[valV,List.find?_cons,e]
theorem zbV {p:κ×V}{r:List (κ×V)}{k:κ}(e:¬ p.1=k):valV (p::r) k=valV r k:=by simp[valV,List.find?_cons,e]
theorem zc6 (k:κ):∀ kvs:List (κ×V),(kvs.any fun kv=>decide (kv.1=k))=(valV kvs k).isSome
 | []=>rfl
 | p::r=>by
  rw[List.any_cons]
  by_cases e:p.1=k
  ·simp only[zbU e,decide_eq_true e,Bool.true_or,Option.isSome_some]
  ·rw[zbV e,decide_eq_false e,Bool.false_or];exact zc6 k r
theorem zhw (k j:κ) (y:V):∀ kvs:List (κ×V),valV (kvs.map fun kv=>if kv.1=k then (kv.1,y) else kv) j=(valV kvs j).map fun x=>if j=k then y else x
 | []=>rfl
 | p::r=>by
  have ih:=zhw k j y r
  rw[List.map_cons]
  by_cases h:p.1=k
  ·rw[if_pos h]
   by_cases e:p.1=j
   ·rw[zbU (p:=(p.1,y)) e,zbU e,Option.map_some,if_pos (e.symm.trans h)]
   ·rw[zbV (p:=(p.1,y)) e,zbV e,ih]
  ·rw[if_neg h]
   by_cases e:p.1=j
   ·rw[zbU (p:=p) e,zbU e,Option.map_some,if_neg (fun z=>h (e.trans z))]
   ·rw[zbV (p:=p) e,zbV e,ih]
theorem zfU (k j:κ) (y:V):∀ kvs:List (κ×V),valV kvs k=none→valV (kvs++[(k,y)]) j=if j=k then some y else valV kvs j
 | [],_=>by
  by_cases e:k=j
  ·rw[if_pos e.symm];exact zbU (p:=(k,y)) e
  ·rw[if_neg (fun z=>e z.symm)];exact zbV (p:=(k,y)) e
 | p::r,hn=>by
  rw[List.cons_append]
  have hk:¬ p.1=k:=fun z=>by rw[zbU z] at hn;cases hn
  rw[zbV hk] at hn
  have ih:=zfU k j y r hn
  by_cases e:p.1=j
  ·rw[zbU e,zbU e,if_neg (fun z=>hk (e.trans z))]
  ·rw[zbV e,zbV e,ih]
theorem ze5 (kvs:List (κ×V)) (k j:κ) (y:V):valV (putK kvs k y) j=if j=k then some y else valV kvs j:=by
 unfold putK
 by_cases a:(kvs.any fun kv=>decide (kv.1=k))=true
 ·rw[if_pos a,zhw]
  rw[zc6] at a
  by_cases e:j=k
  ·obtain⟨x,hx⟩:=Option.isSome_iff_exists.mp a
   rw[if_pos e,e,hx,Option.map_some,if_pos rfl]
  ·rw[if_neg e]
   cases valV kvs j with
   | none=>rfl
   | some x=>rw[Option.map_some,if_neg e]
 ·rw[if_neg a]
  refine zfU k j y kvs ?_
  rw[zc6] at a
  cases q:valV kvs k with
  | none=>rfl
  | some x=>rw[q] at a;exact (a rfl).elim
theorem zby (kvs:List (κ×V)) (k:κ) (v:V):(putK kvs k v).length≤kvs.length+1:=by
 unfold putK
 split
 ·rw[List.length_map];lia
 ·rw[List.length_append,List.length_cons,List.length_nil];lia
theorem zkC {kvs:List (κ×V)}{k:κ}(v:V) (h:valV kvs k=none):putK kvs k v=kvs++[(k,v)]:=by
 unfold putK
 rw[zc6,h]
 exact if_neg (by decide)
theorem RelO.isSome_eq {o:Option V}{u:Option Value}(r:RelO o u):o.isSome=u.isSome:=by
 cases o with
 | none=>cases u with
  | none=>rfl
  | some _=>exact (show False from r).elim
 | some _=>cases u with
  | none=>exact (show False from r).elim
  | some _=>rfl
theorem KV.val {kvs:List (κ×V)}{vs:List (κ×Value)}(r:KV kvs vs) (k:κ):RelO (valV kvs k) (valueAt vs k):=by
 unfold KV at r
 induction r with
 | nil=>exact True.intro
 | @cons p q ps qs h t ih =>
  obtain⟨h1,h2⟩:=h
  by_cases e:p.1=k
  ·have e':q.1=k:=h1.symm.trans e
   have b:valueAt (q::qs) k=some q.2:=by simp[valueAt,List.find?_cons,e']
   rw[zbU e,b];exact h2
  ·have e':¬ q.1=k:=fun z=>e (h1.trans z)
   have b:valueAt (q::qs) k=valueAt qs k:=by simp[valueAt,List.find?_cons,e']
   rw[zbV e,b];exact ih
theorem KV.any {kvs:List (κ×V)}{vs:List (κ×Value)}(r:KV kvs vs) (k:κ):(kvs.any fun kv=>decide (kv.1=k))=vs.any fun kv=>decide (kv.1=k):=by
 unfold KV at r
 induction r with
 | nil=>rfl
 | cons h t ih=>rw[List.any_cons,List.any_cons,ih,h.1]
theorem KV.repl {kvs : List (κ × V)}{vs : List (κ × Value)}(r : KV kvs vs) (k : κ){y : V}{u : Value}(ry : RelV y u) :
  KV (kvs.map fun kv=>if kv.1=k then (kv.1,y) else kv) (vs.map fun kv=>if kv.1=k then (kv.1,u) else kv):=by
 unfold KV at r ⊢
 induction r with
 | nil=>exact .nil
 | @cons p q ps qs h t ih =>
  rw[List.map_cons,List.map_cons]
  refine .cons ?_ ih
  obtain⟨h1,h2⟩:=h
  by_cases e:p.1=k
  ·rw[if_pos e,if_pos (h1.symm.trans e)];exact⟨h1,ry⟩
  ·rw[if_neg e,if_neg (fun z=>e (h1.trans z))];exact⟨h1,h2⟩
theorem KV.put {kvs:List (κ×V)}{vs:List (κ×Value)}(r:KV kvs vs) (k:κ){y:V}{u:Value}(ry:RelV y u):KV (putK kvs k y) (stored vs k u):=by
 unfold putK stored
 rw[r.any k]
 by_cases e:(vs.any fun kv=>decide (kv.1=k))=true
 ·rw[if_pos e,if_pos e];exact r.repl k ry
 ·rw[if_neg e,if_neg e];exact Paired.snoc r ⟨rfl,ry⟩
theorem KV.length {kvs:List (κ×V)}{vs:List (κ×Value)}(r:KV kvs vs):kvs.length=vs.length:=Paired.length r
end
theorem kV_is {P:Program}{w:World}{k:Key}{u:Value}(r:RelV (kV k) u):(zaS P w).is k u=true:=by
 cases k with
 | inl i=>obtain⟨t,e⟩:=(show ∃ t,u=Value.int i t from r);subst e;exact zhh P w i t
 | inr x=>obtain⟨t,e⟩:=(show ∃ t,u=Value.str x t from r);subst e;exact zck P w x t
theorem zgr {P:Program}{w:World}:∀ {ks:List Key}{us:List Value},Vals (ks.map kV) us→ItemsAre (zaS P w) ks us
 | [],_,r=>by rw[List.map_nil] at r;cases r;exact .nil
 | k::ks,_,r=>by
  rw[List.map_cons] at r
  cases r with
  | cons h t=>exact .cons (kV_is h) (zgr t)
abbrev KT (H:Hp):List (List Key×V)→List (List Key×Addr×Value)→Prop:=Paired fun p q=>p.1=q.1∧H q.2.1=some (.tup (p.1.map kV))∧RelV p.2 q.2.2
theorem KT.val {H:Hp}{kvs:List (List Key×V)}{xs:List (List Key×Addr×Value)}(r:KT H kvs xs) (k:List Key):RelO (valV kvs k) ((atKey xs k).map (·.2)):=by
 induction r with
 | nil=>exact True.intro
 | @cons p q ps qs h t ih =>
  obtain⟨h1,_,h2⟩:=h
  by_cases e:p.1=k
  ·have e':q.1=k:=h1.symm.trans e
   have b:atKey (q::qs) k=some q.2:=by simp[atKey,List.find?_cons,e']
   rw[zbU e,b];exact h2
  ·have e':¬ q.1=k:=fun z=>e (h1.trans z)
   have b:atKey (q::qs) k=atKey qs k:=by simp[atKey,List.find?_cons,e']
   rw[zbV e,b];exact ih
theorem KT.repl {H : Hp}{kvs : List (List Key × V)}{xs : List (List Key × Addr × Value)}(r : KT H kvs xs) (k : List Key){y : V}{u : Value}(ry : RelV y u) :
  KT H (kvs.map fun kv=>if kv.1=k then (kv.1,y) else kv) (xs.map (putAt k u)):=by
 induction r with
 | nil=>exact .nil
 | @cons p q ps qs h t ih =>
  rw[List.map_cons,List.map_cons]
  refine .cons ?_ ih
  obtain⟨h1,h2,h3⟩:=h
  unfold putAt
  by_cases e:p.1=k
  ·rw[if_pos e,if_pos (h1.symm.trans e)];exact⟨h1,h2,ry⟩
  ·rw[if_neg e,if_neg (fun z=>e (h1.trans z))];exact⟨h1,h2,h3⟩
theorem KT.put {H : Hp}{kvs : List (List Key × V)}{xs : List (List Key × Addr × Value)}(r : KT H kvs xs) (k : List Key){b : Addr}{y : V}{u : Value}(hb : H b = some (.tup (k.map kV))) (ry : RelV y u) :
  KT H (putK kvs k y) (storedH xs k b u):=by
 have e:(kvs.any fun kv=>decide (kv.1=k))=(atKey xs k).isSome:=by
  rw[zc6,(r.val k).isSome_eq,Option.isSome_map]
 unfold putK storedH
 rw[e]
 by_cases q:(atKey xs k).isSome=true
 ·rw[if_pos q,if_pos q];exact r.repl k ry
 ·rw[if_neg q,if_neg q];exact Paired.snoc r ⟨rfl,hb,ry⟩
theorem KT.keeps {H H':Hp}{kvs:List (List Key×V)}{xs:List (List Key×Addr×Value)}(r:KT H kvs xs) (ht:∀ b ys,H b=some (.tup ys)→H' b=some (.tup ys)):KT H' kvs xs :=
 Paired.mapP r fun _ _ z=>⟨z.1,ht _ _ z.2.1,z.2.2⟩
section
variable {P:Program}{w:World}{H:Hp}{h:Heap}{a:Addr}
theorem rd_of {u:HO}(ok:HOk P w H h) (e:Rd H a u):ObjOk P w H h a u:=e.ok ok
theorem dk_rd {kvs:List (Key×V)}(ok:HOk P w H h) (e:Rd H a (.dK kvs)):kvs.length≤sizeLine∧(a == sysModules)=false∧∃ vs,KV kvs vs∧h.DictOf (zaS P w) a vs :=
 show ObjOk P w H h a (.dK kvs) from rd_of ok e
theorem dk_of {kvs:List (Key×V)}(ok:HOk P w H h) (e:H a=some (.dK kvs)):kvs.length≤sizeLine∧(a == sysModules)=false∧∃ vs,KV kvs vs∧h.DictOf (zaS P w) a vs:=dk_rd ok (.inl e)
theorem zeS {ks:List Key}(ok:HOk P w H h) (e:H a=some (.tup (ks.map kV))):(tupleKind (zaS P w)).is h ks a:=by
 obtain⟨_,its,r,o,h1,h2,n,h3⟩:=(show ObjOk P w H h a (.tup (ks.map kV)) from ok a _ e)
 exact⟨o,its.toArray,n,h1,h2,h3,by simpa using zgr r⟩
theorem dt_rd {kvs : List (List Key × V)}(ok : HOk P w H h) (e : Rd H a (.dT kvs)) : kvs.length ≤ sizeLine ∧ (a == sysModules) = false ∧
  ∃ xs,KT H kvs xs∧h.DictOfH (tupleKind (zaS P w)) a xs:=by
 obtain⟨z,y,xs,r,o,es,ep,h1,h2,h3,h4,h5⟩:=(show ObjOk P w H h a (.dT kvs) from rd_of ok e)
 refine⟨z,y,xs,r,o,es,ep,h1,h2,h3,h4,fun x hx=>?_,h5⟩
 have all:∀ {l:List (List Key×V)} {m:List (List Key×Addr×Value)},KT H l m→∀ x∈m,(tupleKind (zaS P w)).is h x.1 x.2.1:=by
  intro l m q
  induction q with
  | nil=>intro x hx;exact nomatch hx
  | @cons p q ps qs hq t ih =>
   intro x hx
   rcases List.mem_cons.mp hx with e | hx
   ·subst e
    exact zeS ok (by rw[← hq.1];exact hq.2.1)
   ·exact ih x hx
 exact all r x hx
theorem dt_of {kvs : List (List Key × V)}(ok : HOk P w H h) (e : H a = some (.dT kvs)) : kvs.length ≤ sizeLine ∧ (a == sysModules) = false ∧
  ∃ xs,KT H kvs xs∧h.DictOfH (tupleKind (zaS P w)) a xs:=dt_rd ok (.inl e)
end
def DGet (H:Hp) (a:Addr) (y:V) (r:Option V):Prop :=
 (∃ kvs k,Rd H a (.dK kvs)∧y=kV k∧r=valV kvs k)∨∃ kvs k b,Rd H a (.dT kvs)∧y=.ref b∧H b=some (.tup (k.map kV))∧r=valV kvs k
def DPut (H:Hp) (a:Addr) (y v:V) (H':Hp):Prop :=
 (∃ kvs k,H a=some (.dK kvs)∧y=kV k∧kvs.length<sizeLine∧H'=upd H a (.dK (putK kvs k v))) ∨
 ∃ kvs k b,H a=some (.dT kvs)∧y=.ref b∧H b=some (.tup (k.map kV))∧kvs.length<sizeLine∧H'=upd H a (.dT (putK kvs k v))
section
variable {X:Cx}{pins:List (Addr×Obj)}{σ:St}{H:Hp}{s:Shared}{a:Addr}{y v:V}{u r:Value}{o:Option V}{A:Around}{E:Value→Shared→Prop}
theorem Inv.big (I:Inv X pins σ H s):sysModules<s.heap.objs.size:=by
 have h:mainGlobals<s.heap.objs.size:=(I.mod.glob.keeps I.bk).lt
 exact Nat.lt_trans (by decide) h
theorem d_in {Q : Value → Shared → Prop}(hu : A.units + 1 < cLine) (I : Inv X pins σ H s) (g : DGet H a y o) (ry : RelV y u) (h : ∀ s', Inv X pins σ H s' → Q (.bool o.isSome) s') :
  wpAny (model X.prog X.w) A (compareOp .In u (.ref a)) Q E s:=by
 rcases g with⟨kvs,k,e,ey,l⟩ | ⟨kvs,k,b,e,ey,eb,l⟩
 ·subst ey
  obtain⟨z,hd,vs,rel,dd⟩:=dk_rd I.hok e
  refine wpAny_in_of (kV_is ry) hd dd.mapOf ?_
  rw[← (rel.val k).isSome_eq,← l]
  exact h _ (I.tok _)
 ·subst ey
  cases (show u=Value.ref b from ry)
  obtain⟨z,hd,xs,rel,dd⟩:=dt_rd I.hok e
  refine wpAny_in_heap (tupleKind_room_in1 hu) (zeS I.hok eb) hd dd ?_
  have q:=(rel.val k).isSome_eq
  rw[Option.isSome_map] at q
  rw[← q,← l]
  exact h _ (I.tok _)
theorem zl1 {Q : Value → Shared → Prop}(hu : A.units + 1 < cLine) (I : Inv X pins σ H s) (g : DGet H a y o) (ry : RelV y u) (h : ∀ s', Inv X pins σ H s' → Q (.bool (!o.isSome)) s') :
  wpAny (model X.prog X.w) A (compareOp .NotIn u (.ref a)) Q E s:=by
 rcases g with⟨kvs,k,e,ey,l⟩ | ⟨kvs,k,b,e,ey,eb,l⟩
 ·subst ey
  obtain⟨z,hd,vs,rel,dd⟩:=dk_rd I.hok e
  refine wpAny_notIn_of (kV_is ry) hd dd.mapOf ?_
  rw[← (rel.val k).isSome_eq,← l]
  exact h _ (I.tok _)
 ·subst ey
  cases (show u=Value.ref b from ry)
  obtain⟨z,hd,xs,rel,dd⟩:=dt_rd I.hok e
  refine wpAny_notIn_heap (tupleKind_room_in1 hu) (zeS I.hok eb) hd dd ?_
  have q:=(rel.val k).isSome_eq
  rw[Option.isSome_map] at q
  rw[← q,← l]
  exact h _ (I.tok _)
theorem zei {h' : Heap}{t' : Nat}{ob : HO}(I : Inv X pins σ H s) (mu : Mut (H a)) (hs : Heap.SameBut a s.heap h') (he : ∃ q, h'.get? a = some q) (new : ObjOk X.prog X.w (upd H a ob) h' a ob) :
  Inv X pins σ (upd H a ob) { s with heap:=h',toks:=t' } :=
 I.write (x:=a) (e:=a) mu (.inl rfl) (fun b q hb z=>(hs.2 b hb).trans z) he new
theorem zlq {P : Program}{w : World}{H' : Hp}{h' : Heap}{kvs : List (Key × V)}{vs : List (Key × Value)}(z : kvs.length ≤ sizeLine) (hd : (a == sysModules) = false) (rel : KV kvs vs) (dd : h'.DictOf (zaS P w) a vs) :
  ObjOk P w H' h' a (.dK kvs):=⟨z,hd,vs,rel,dd⟩
theorem zjX {H' : Hp}{Q : Unit → Shared → Prop}(hu : A.units + 1 < cLine) (I : Inv X pins σ H s) (g : DPut H a y v H') (ry : RelV y u) (rv : RelV v r) (h : ∀ s', Inv X pins σ H' s' → Q () s') :
  wpAny (model X.prog X.w) A (setItem (.ref a) u r) Q E s:=by
 rcases g with⟨kvs,k,e,ey,l,eH⟩ | ⟨kvs,k,b,e,ey,eb,l,eH⟩
 ·subst ey eH
  obtain⟨z,hd,vs,rel,dd⟩:=dk_of I.hok e
  have hz:vs.length≤sizeLine:=by rw[← rel.length];exact z
  have hl:(putK kvs k v).length≤sizeLine:=by have:=zby kvs k v;lia
  refine wpAny_setItem_pairs (hsz:=hz) (kV_is ry) dd fun h' dd' hs=>h _ ?_
  have he:∃ q,h'.get? a=some q:=let ⟨q,_,_,hq,_⟩:=dd';⟨q,hq⟩
  exact zei I (by rw[e];exact True.intro) hs he (zlq hl hd (rel.put k rv) dd')
 ·subst ey eH
  cases (show u=Value.ref b from ry)
  obtain⟨z,hd,xs,rel,dd⟩:=dt_of I.hok e
  have hz:xs.length≤sizeLine:=by rw[← Paired.length rel];exact z
  have hl:(putK kvs k v).length≤sizeLine:=by have:=zby kvs k v;lia
  refine wpAny_setItem_heap (hsz:=hz) (tupleKind_room_in1 hu) (zeS I.hok eb) dd fun h' dd' hs=>h _ ?_
  obtain⟨q,es,ep,hq,h2,h3,h4,_,h5⟩:=dd'
  refine zei I (by rw[e];exact True.intro) hs ⟨q,hq⟩ ⟨hl,hd,_,(rel.put k eb rv).keeps fun c ys ec=>?_,q,es,ep,hq,h2,h3,h4,h5⟩
  rw[zam (ne_of ec e (fun z=>nomatch z))]
  exact ec
end
section
variable {X:Cx}{pins:List (Addr×Obj)}{σ:St}{H:Hp}{s:Shared}{a:Addr}{kvs:List (Key×V)}{k:Key}{u:Value}{A:Around}{E:Value→Shared→Prop}
end
def NoSl (i:Expr):Prop:=∀ ov iv,subscripted i false ov iv=operate [ov,iv] (getItem ov iv)
theorem zi0 {prog : Program}{w : World}{A : Around}{E : Value → Shared → Prop}{s : Shared}{env : Env}{value slice : Expr}{pos : Pos}{T id : String}{Q : Value → Shared → Prop}
  (hl:typeLookup (.type T) "__getitem__" = pure (some (.builtin id))) (hs:NoSl slice)
  (h:wpAny (model prog w) A (eval value env) (fun o s₁=>wpAny (model prog w) A (eval slice env) (fun i s₂=>s₂.TypeIs o T∧wpAny (model prog w) A (getItem o i) Q E s₂) E s₁) E s) :
  wpAny (model prog w) A (eval (.Subscript value slice pos) env) Q E s:=by
 refine Subscript_ (wpAny_mono h (fun o s₁ h₁=>wpAny_mono h₁ (fun i s₂ h₂=>?_) fun _ _ x=>x) fun _ _ x=>x)
 obtain⟨hT,h₂⟩:=h₂
 unfold subscriptTail
 refine wpAny_bind ?_
 rw[getitemInPython_of_ne hT.not_modules]
 refine wpAny_bind (wpAny_specialOf hT hl ?_)
 have fin:wpAny (model prog w) A (subscripted slice false o i) (fun r s₃=>wpAny (model prog w) A (letTemporaryGo value o r >>= fun _=>pure r) Q E s₃) E s₂:=by
  rw[hs o i]
  exact wpAny_operating (wpAny_mono h₂ (fun r s₃ h₃=>wpAny_bind (wpAny_letTemporaryGo (wpAny_pure h₃))) fun _ _ x=>x)
 first
  | exact wpAny_pure (wpAny_bind fin)
  | exact wpAny_bind (wpAny_pure (wpAny_bind fin))
  | exact wpAny_bind fin
def tDIn (ty td:TE):TE:=fun σ H Q=>ty σ H fun y H1=>td σ H1 fun x H2=>∃ a o,x=.ref a∧DGet H2 a y o∧Q (.bl o.isSome) H2
def zgT (ty td:TE):TE:=fun σ H Q=>ty σ H fun y H1=>td σ H1 fun x H2=>∃ a o,x=.ref a∧DGet H2 a y o∧Q (.bl (!o.isSome)) H2
def sDPut (td ty tv:TE):TS:=fun D σ H=>tv σ H fun v H1=>td σ H1 fun x H2=>ty σ H2 fun y H3=>∃ a H4,x=.ref a∧DPut H3 a y v H4∧D.nx σ H4
section
variable {X:Cx}{o i e value:Expr}{pos pos' tpos:Pos}{td ty tv:TE}
theorem zlj (hu:X.A.units+1<cLine) (hi:PE X i ty) (ho:PE X o td):PC X .In i o (tDIn ty td):=by
 intro pins s σ H Q I h
 refine thn (hi pins s σ H _ I h) fun iv s1 ⟨y,H1,I1,ry,q1⟩=>thn (ho pins s1 σ H1 _ I1 q1) fun u s2 ⟨x,H2,I2,rx,a,ov,ex,g,q2⟩=>?_
 subst ex
 obtain rfl:u=Value.ref a:=rx
 exact d_in hu I2 g ry fun s3 I3=>⟨.bl ov.isSome,H2,I3,rfl,q2⟩
theorem zcK (hu:X.A.units+1<cLine) (hi:PE X i ty) (ho:PE X o td):PC X .NotIn i o (zgT ty td):=by
 intro pins s σ H Q I h
 refine thn (hi pins s σ H _ I h) fun iv s1 ⟨y,H1,I1,ry,q1⟩=>thn (ho pins s1 σ H1 _ I1 q1) fun u s2 ⟨x,H2,I2,rx,a,ov,ex,g,q2⟩=>?_
 subst ex
 obtain rfl:u=Value.ref a:=rx
 exact zl1 hu I2 g ry fun s3 I3=>⟨.bl (!ov.isSome),H2,I3,rfl,q2⟩
theorem zfm (hu : X.A.units + 1 < cLine) (ho : PE X o td) (hi : PE X i ty) (hv : PE X value tv) (hs : swapsWith value (some (.Subscript o i pos')) pos.line X.env = pure false) :
  PS X (.Assign [.Subscript o i pos'] value pos) (sDPut td ty tv):=by
 intro pins s σ H D I h
 refine wpAny_Assign_Subscript (thn (hv pins s σ H _ I h) fun r s1 ⟨v,H1,I1,rv,q1⟩=>thn (ho pins s1 σ H1 _ I1 q1) fun u s2 ⟨x,H2,I2,rx,q2⟩=>thn (hi pins s2 σ H2 _ I2 q2) fun iv s3 ⟨y,H3,I3,ry,a,H4,ex,g,q3⟩=>?_) hs
 subst ex
 obtain rfl:u=Value.ref a:=rx
 exact zjX hu I3 g ry rv fun s4 I4=>⟨σ,H4,I4,q3⟩
end
theorem zfF {P:Program}{w:World}{H:Hp}(h:Heap) (hb:sysModules<h.objs.size):ObjOk P w H (h.push { cls:=.type "dict",data:=.dict #[] }) h.objs.size (.dT []) :=
 ⟨Nat.zero_le _,beq_eq_false_iff_ne.mpr (Ne.symm (Nat.ne_of_lt hb)),[],.nil,_,#[],0,Heap.get?_push_size _ rfl,⟨rfl,rfl,rfl⟩,rfl,rfl,List.nodup_nil⟩
def zma:TE:=fun _ H Q=>∀ p,H p=none→Q (.ref p) (upd H p (.dT []))
section
variable {X:Cx}{pos:Pos}
theorem zdP:PE X (.Dict [] [] pos) zma:=fun pins s σ H Q I h =>
 wpAny_Dict_empty ⟨.ref s.heap.objs.size,_,I.laid (a:=s.heap.objs.size) (o:=.dT []) (t':=s.toks) (fun _ _ q=>Heap.get?_push_of_some _ q) (Nat.le_refl _) (zfF s.heap I.big),rfl,h _ (I.hok.fresh (Nat.le_refl _))⟩
end
structure M1 (X:Cx) (o:Expr) (m:Str) (apos:Pos) (e:Expr) (cpos:Pos):Prop where
 base:attributeBase o m X.env (eval o X.env)=eval o X.env
 few:((backTo cpos (starEach [e] X.env)).all (fun x=>!x.1) && (backToKw cpos (keywordEach [] X.env)).all (fun x=>x.1.isSome)
  && decide (([e]:List Expr).length+([]:List Keyword).length+(if ([]:List Keyword).isEmpty then 0 else 1)<30))=true
 line:(apos.endLine == cpos.line)=true
 trees:backTo cpos (starEach [e] X.env)=[(false,eval e X.env)]
structure M2 (X:Cx) (o:Expr) (m:Str) (apos:Pos) (e f:Expr) (cpos:Pos):Prop where
 base:attributeBase o m X.env (eval o X.env)=eval o X.env
 few:((backTo cpos (starEach [e,f] X.env)).all (fun x=>!x.1) && (backToKw cpos (keywordEach [] X.env)).all (fun x=>x.1.isSome)
  && decide (([e,f]:List Expr).length+([]:List Keyword).length+(if ([]:List Keyword).isEmpty then 0 else 1)<30))=true
 line:(apos.endLine == cpos.line)=true
 trees:backTo cpos (starEach [e,f] X.env)=[(false,eval e X.env),(false,eval f X.env)]
def IsD (H:Hp) (a:Addr):Prop:=(∃ kvs,Rd H a (.dK kvs))∨∃ kvs,Rd H a (.dT kvs)
theorem zmz {X : Cx}{pins : List (Addr × Obj)}{σ : St}{H : Hp}{s : Shared}{a : Addr}(I : Inv X pins σ H s) (d : IsD H a) :
  s.TypeIs (.ref a) "dict" ∧ (∀ b,Value.ref a=.ref b→∃ ob,s.heap.get? b=some ob∧ob.dict=none)∧(a == sysModules)=false:=by
 rcases d with⟨kvs,e⟩ | ⟨kvs,e⟩
 ·obtain⟨_,hd,vs,_,dd⟩:=dk_rd I.hok e
  refine⟨dd.typeIs,fun b q=>?_,hd⟩
  cases q
  obtain⟨ob,_,_,h1,h2,_⟩:=dd
  exact⟨ob,h1,h2.2.1⟩
 ·obtain⟨_,hd,xs,_,dd⟩:=dt_rd I.hok e
  refine⟨dd.typeIs,fun b q=>?_,hd⟩
  cases q
  obtain⟨ob,_,_,h1,h2,_⟩:=dd
  exact⟨ob,h1,h2.2.1⟩
section
variable {X:Cx}{pins:List (Addr×Obj)}{σ:St}{H:Hp}{s:Shared}{a:Addr}{y d:V}{u r:Value}{o:Option V}{A:Around}{E:Value→Shared→Prop}
end
section
variable {X:Cx}{o e f:Expr}{apos cpos:Pos}{td ty tx:TE}
end
section
variable {X:Cx}{pins:List (Addr×Obj)}{σ:St}{H:Hp}{s:Shared}{a:Addr}{kvs:List (Key×V)}{A:Around}{E:Value→Shared→Prop}
end
section
variable {X:Cx}{pins:List (Addr×Obj)}{σ:St}{H:Hp}{s:Shared}{a:Addr}{y:V}{u:Value}{A:Around}{E:Value→Shared→Prop}
end
end L2
namespace HT
open PySem PyProof.Rows
def lexLt:List Int→List Int→Bool
 | [],[]=>false
 | [],_::_=>true
 | _::_,[]=>false
 | x::xs,y::ys=>if x=y then lexLt xs ys else decide (x<y)
theorem lexLt_cons (x y:Int) (xs ys:List Int):lexLt (x::xs) (y::ys)=if x=y then lexLt xs ys else decide (x<y):=rfl
theorem zfB:lexLt [] []=false:=rfl
theorem zey (y:Int) (ys:List Int):lexLt [] (y::ys)=true:=rfl
theorem zez (x:Int) (xs:List Int):lexLt (x::xs) []=false:=rfl
theorem zh8 (A:Around) (s:Shared) (a:Int) (t:Tok) (c:Int) (u:Tok):∃ e,SeqAt.EqAt A s (.int a t) (.int c u) e∧(e=true ↔ a=c) :=
 ⟨(a == c),SeqAt.EqAt.int_int a t c u,by simp⟩
theorem zkA (A : Around) (s : Shared) (a : Int) (t : Tok) (c : Int) (u : Tok) (prog : Program) (w : World) (E : Value → Shared → Prop) (Q : Value → Shared → Prop) (h : Q (.bool (decide (a < c))) s) :
  wpAny (model prog w) A (richCompare .Lt (.int a t) (.int c u)) Q E s :=
 (PyProof.Rows.lt_int h:wpAny (model prog w) A (compareOp .Lt (.int a t) (.int c u)) Q E s)
section
open PySem.SeqAt
open PySem.AutoSeq1 (wpAny_loadPart')
open PySem.MeetsSeq PySem.MeetsSeq2 PySem.MeetsSeq3
theorem ze6 (l b : Addr) (items items2 : Array Value) (n n2 : Nat) (dd dd2 : Option Addr) (sl sl2 : Array (Option Value)) (ns ms : List Int) (hi : IntsAre items.toList ns) (hj : IntsAre items2.toList ms) :
  Meets (Builtin.«tuple.__lt__» ⟨[.ref l,.ref b],[]⟩)
   (fun _ R s=>s.heap.get? l=some { cls:=.type "tuple",dict:=dd,data:=.seq items n,slots:=sl }∧s.heap.get? b=some { cls:=.type "tuple",dict:=dd2,data:=.seq items2 n2,slots:=sl2 } ∧
    R (.ok (.ret (.bool (lexLt ns ms)))) s) :=
 .of_wp fun prog w A R s h=>by
  obtain⟨hp,g,d,tk,os⟩:=s;obtain⟨hl,hb,h⟩:=h
  have f2:=AutoSeq1.sub_tuple_tuple
  have z1:items.size=ns.length:=by rw[← hi.length];simp
  have z2:items2.size=ms.length:=by rw[← hj.length];simp
  wp_walk using wpAny_loadPart' hl,wpAny_loadPart' hb,wpAny_forIn_list _ (fun rest b s'=>b.1=none∧s'=⟨hp,g,d,tk,os⟩∧∃ (vs ws:List Value) (ns' ms':List Int),rest=vs.zip ws ∧
   IntsAre vs ns'∧IntsAre ws ms'∧ns'.length+items2.size=ms'.length+items.size∧R (.ok (.ret (.bool (lexLt ns' ms')))) ⟨hp,g,d,tk,os⟩) _
  case turn =>
   rintro⟨y,x⟩ rest b s' ⟨hb',rfl,vs,ws,ns',ms',hz,hvi,hwi,hlen,hR⟩
   cases hvi with
   | nil=>rw[List.zip_nil_left] at hz;cases hz
   | cons a t hvi' =>
    cases hwi with
    | nil=>rw[List.zip_nil_right] at hz;cases hz
    | cons c u hwi' =>
     rw[List.zip_cons_cons] at hz
     injection hz with hyx hrest
     injection hyx with hy hx
     subst hy hx
     rw[lexLt_cons] at hR
     simp only[List.length_cons] at hlen
     obtain⟨e,he,hiff⟩:=zh8 A.in1 ⟨hp,g,d,tk,os⟩ a t c u
     refine wpAny_bind (he prog w _ _ ?_)
     cases e with
     | true =>
      rw[if_pos (hiff.mp rfl)] at hR
      wp_walk
      exact⟨rfl,rfl,_,_,_,_,hrest,hvi',hwi',by lia,hR⟩
     | false =>
      rw[if_neg (fun q=>absurd (hiff.mpr q) Bool.false_ne_true)] at hR
      have hri:=zkA A.in1 ⟨hp,g,d,tk,os⟩ a t c u prog w
      wp_walk using hri
      exact⟨_,rfl,by simpa using hR⟩
  case fin =>
   rintro⟨b1,b2⟩ s' ⟨hb',rfl,vs,ws,ns',ms',hz,hvi,hwi,hlen,hR⟩
   simp only at hb'
   subst hb'
   have hv:lexLt ns' ms'=decide (items.size<items2.size):=by
    cases hvi with
    | nil =>
     cases hwi with
     | nil =>
      simp only[List.length_nil] at hlen
      rw[zfB]
      exact (decide_eq_false (by lia)).symm
     | cons c u hw =>
      simp only[List.length_nil,List.length_cons] at hlen
      rw[zey]
      exact (decide_eq_true (by lia)).symm
    | cons a t hv =>
     cases hwi with
     | nil =>
      simp only[List.length_nil,List.length_cons] at hlen
      rw[zez]
      exact (decide_eq_false (by lia)).symm
     | cons c u hw =>
      rw[List.zip_cons_cons] at hz
      cases hz
   rw[hv] at hR
   wp_walk
   exact⟨_,rfl,by simpa[Builtin.Tuple.tupleCompareSizes] using hR⟩
  case h =>
   exact⟨rfl,rfl,items.toList,items2.toList,ns,ms,rfl,hi,hj,by lia,h⟩
end
section
variable {prog:Program}{w:World}{A:Around}{E:Value→Shared→Prop}{s:Shared}
theorem lt_tupInts {l b : Addr}{items items2 : Array Value}{ns ms : List Int}{Q : Value → Shared → Prop}(hl : IsTup s.heap l items) (hb : IsTup s.heap b items2) (hi : IntsAre items.toList ns) (hj : IntsAre items2.toList ms)
  (hu:A.units<cLine) (h:Q (.bool (lexLt ns ms)) s):wpAny (model prog w) A (compareOp .Lt (.ref l) (.ref b)) Q E s:=by
 obtain⟨⟨cls,dd,data,sl⟩,ho,hc,n,hd⟩:=id hl
 obtain⟨⟨cls2,dd2,data2,sl2⟩,ho2,hc2,n2,hd2⟩:=id hb
 simp only at hc hd hc2 hd2
 subst hc hd hc2 hd2
 exact richCompare_meets_room (op:=.Lt) ⟨_,ho,rfl⟩ ⟨_,ho2,rfl⟩ PySem.F.slot_tuple_lt PySem.F.entry_tuple_lt (PySem.F.args_tuple_lt_2 _ _) (ze6 l b items items2 n n2 dd dd2 sl sl2 ns ms hi hj)
  ⟨ho,ho2,show Value.bool (lexLt ns ms)≠Value.notImplemented∧Q (.bool (lexLt ns ms)) s from ⟨(fun x=>nomatch x),h⟩⟩ hu
def sIx (n d:Nat):Option Int→Nat
 | none=>d
 | some v=>if v<0 then (v+(n:Int)).toNat else min v.toNat n
theorem zmi (n d:Nat) (hd:d≤n) (o:Option Int):sIx n d o≤n:=by
 cases o with
 | none=>exact hd
 | some v =>
  show (if v<0 then (v+(n:Int)).toNat else min v.toNat n)≤n
  by_cases hv:v<0
  ·rw[if_pos hv];lia
  ·rw[if_neg hv];exact Nat.min_le_right _ _
theorem zj0 (v:Int) (n d:Nat):(if v<0 then max (v+(n:Int)) 0 else min v (n:Int))=((sIx n d (some v):Nat):Int):=by
 show (if v<0 then max (v+(n:Int)) 0 else min v (n:Int))=(((if v<0 then (v+(n:Int)).toNat else min v.toNat n):Nat):Int)
 by_cases hv:v<0
 ·simp only[if_pos hv];lia
 ·simp only[if_neg hv];lia
theorem ziJ (lo hi:Option Int) (n:Nat):Builtin.Slice.sliceAdjust lo hi 1 (n:Int)=(((sIx n 0 lo:Nat):Int),((sIx n n hi:Nat):Int)):=by
 have h1:¬ ((1:Int)<0):=by lia
 unfold Builtin.Slice.sliceAdjust
 simp only[h1,if_false]
 refine Prod.ext ?_ ?_
 ·cases lo with
  | none=>rfl
  | some v=>exact zj0 v n 0
 ·cases hi with
  | none=>rfl
  | some v=>exact zj0 v n n
theorem ziq (i j:Nat):Builtin.Slice.slicePlaces (i:Int) (j:Int) 1=j - i:=by
 unfold Builtin.Slice.slicePlaces
 have h1:(1:Int) > 0:=by lia
 simp only[h1,if_true,Int.ediv_one]
 split <;> lia
theorem zeO {v:Value}{o:Option Int}{Q:Option Int→Shared→Prop}(p:IsPart v o) (h:Q o s):wpAny (model prog w) A (Builtin.Slice.slicePartIndex v) Q E s:=by
 cases p with
 | none=>exact slicePart_none h
 | int i t=>exact slicePart_int h
theorem zcA {sl : Addr}{vl vu : Value}{lo hi : Option Int}{n : Nat}{Q : Int × Int × Nat → Shared → Prop}(hs : s.heap.IsSliceOf sl vl vu .none) (pl : IsPart vl lo) (pu : IsPart vu hi)
  (h:Q (((sIx n 0 lo:Nat):Int),1,sIx n n hi - sIx n 0 lo) s):wpAny (model prog w) A (Builtin.Slice.sliceApplied (.ref sl) (pure (n:Int))) Q E s:=by
 obtain⟨os,hos,hcs,hds⟩:=id hs
 unfold Builtin.Slice.sliceApplied Builtin.Slice.sliceFields
 refine wpAny_bind (wpAny_bind (wpAny_field hos hds (x:=vl) rfl (wpAny_bind (wpAny_field hos hds (x:=vu) rfl (wpAny_bind (wpAny_field hos hds (x:=.none) rfl (wpAny_pure ?_)))))))
 refine wpAny_bind (slicePart_none ?_)
 show wpAny _ _ (if ((1:Int) == 0)=true then _ else _) _ _ s
 rw[if_neg (by decide)]
 refine wpAny_bind (zeO pl (wpAny_bind (zeO pu (wpAny_bind (wpAny_pure ?_)))))
 show wpAny _ _ (match Builtin.Slice.sliceAdjust lo hi 1 (n:Int) with | (lo,hi)=>pure (lo,(1:Int),Builtin.Slice.slicePlaces lo hi 1)) _ _ s
 rw[ziJ lo hi n]
 show wpAny _ _ (pure (((sIx n 0 lo:Nat):Int),(1:Int),Builtin.Slice.slicePlaces ((sIx n 0 lo:Nat):Int) ((sIx n n hi:Nat):Int) 1)) _ _ s
 rw[ziq]
 exact wpAny_pure h
theorem zkE (xs:Array Value) (i k:Nat):((List.range k).filterMap fun (m:Nat)=>xs[((i:Int)+(m:Int)*1).toNat]?).toArray=((xs.toList.drop i).take k).toArray:=by
 have e:(fun (m:Nat)=>xs[((i:Int)+(m:Int)*1).toNat]?)=fun m=>xs[i+m]?:=by
  funext m
  have:((i:Int)+(m:Int)*1).toNat=i+m:=by lia
  rw[this]
 rw[e]
 have:=pick_run xs i k
 rw[List.filterMap_map] at this
 have e2:((fun x=>xs[x]?) ∘ fun x=>i+x)=fun m=>xs[i+m]?:=rfl
 rw[e2] at this
 rw[this]
theorem getItem_tuple_cut {t sl : Addr}{items : Array Value}{vl vu : Value}{lo hi : Option Int}{Q : Value → Shared → Prop}(ht : IsTup s.heap t items) (hs : s.heap.IsSliceOf sl vl vu .none) (pl : IsPart vl lo) (pu : IsPart vu hi)
  (hw:¬ (sIx items.size 0 lo=0∧sIx items.size items.size hi=items.size))
  (h:Q (.ref s.heap.objs.size) { s with heap:=s.heap.push { cls:=.type "tuple",data:=.seq ((items.toList.drop (sIx items.size 0 lo)).take (sIx items.size items.size hi - sIx items.size 0 lo)).toArray } })
  (hsz:items.size≤sizeLine):wpAny (model prog w) A (getItem (.ref t) (.ref sl)) Q E s:=by
 have htake:sizeOk (.seq ((items.toList.drop (sIx items.size 0 lo)).take (sIx items.size items.size hi - sIx items.size 0 lo)).toArray):=by
  show ((items.toList.drop (sIx items.size 0 lo)).take (sIx items.size items.size hi - sIx items.size 0 lo)).toArray.size≤sizeLine
  rw[List.size_toArray,List.length_take,List.length_drop,Array.length_toList]
  lia
 have hj:sIx items.size items.size hi≤items.size:=zmi _ _ (Nat.le_refl _) hi
 obtain⟨os,hos,hcs,hds⟩:=id hs
 have hTs:s.TypeIs (.ref sl) "slice":=⟨os,hos,hcs⟩
 unfold getItem
 try with_reducible refine wpAny_holding ?_
 first | refine wpAny_bind (wpAny_pure ?_) | skip
 refine wpAny_bind (wpAny_sequenceKey ht.typeIs (by decide) ?_)
 refine wpAny_bind (wpAny_callSpecial?_slot (name:=Str.ofString "__getitem__") ht.typeIs PyProof.Rows.slot_tuple_getitem
  (wpAny_call_entry PyProof.Rows.slot_tuple_getitem ht.typeIs entry_tuple_getitem ?_ (args_tuple_getitem _ _)))
 show wpAny _ _ (Builtin.Tuple.tupleItemsOf (.ref t) >>= _) _ _ s
 refine wpAny_bind (tupleItemsOf_ ht ?_)
 refine wpAny_bind (wpAny_typeOf hTs ?_)
 rw[if_pos (by decide)]
 refine wpAny_bind (zcA hs pl pu ?_)
 have hno:¬ ((((sIx items.size 0 lo:Nat):Int) == 0 && (1:Int) == 1 && (sIx items.size items.size hi - sIx items.size 0 lo) == items.size)=true):=by
  intro q
  rw[Bool.and_eq_true,Bool.and_eq_true] at q
  have q1:((sIx items.size 0 lo:Nat):Int)=0:=eq_of_beq q.1.1
  have q2:sIx items.size items.size hi - sIx items.size 0 lo=items.size:=eq_of_beq q.2
  exact hw ⟨by lia,by lia⟩
 show wpAny _ _ (if (((sIx items.size 0 lo:Nat):Int) == 0 && (1:Int) == 1 && (sIx items.size items.size hi - sIx items.size 0 lo) == items.size)=true then _ else _) _ _ s
 rw[if_neg hno,zkE]
 first
  | exact wpAny_bind (m:=Builtin.Tuple.tupleExact _) (wpAny_newObj_type (wpAny_pure ⟨_,rfl,wpAny_pure h⟩) htake)
  | exact wpAny_bind (m:=Builtin.Tuple.tupleExact _) (wpAny_newObj_type (wpAny_bind (wpAny_pure (wpAny_pure ⟨_,rfl,wpAny_pure h⟩))) htake)
  | exact wpAny_bind (wpAny_bind (m:=Builtin.Tuple.tupleExact _) (wpAny_newObj_type (wpAny_pure (wpAny_pure ⟨_,rfl,wpAny_pure h⟩)) htake))
  | exact wpAny_bind (wpAny_bind (m:=Builtin.Tuple.tupleExact _) (wpAny_newObj_type (wpAny_pure ⟨_,rfl,wpAny_pure h⟩) htake))
end
end HT
namespace L2
open PySem PySem.Spec PyProof.Rows
abbrev TO:=St→Hp→(Option Int→Hp→Prop)→Prop
def PO (X:Cx) (e:Option Expr) (t:TO):Prop :=
 ∀ (pins:List (Addr×Obj)) (s:Shared) (σ:St) (H:Hp) (Q:Option Int→Hp→Prop),Inv X pins σ H s→t σ H Q →
  wpAny (model X.prog X.w) X.A (evalPart e X.env) (fun u s'=>∃ o H',Inv X pins σ H' s'∧IsPart u o∧Q o H') X.xe s
def zlA:TO:=fun _ H Q=>Q none H
def tPart (t:TE):TO:=fun σ H Q=>t σ H fun x H1=>∃ i,x=.int i∧Q (some i) H1
theorem zcR {ns:List Int}:∀ {us:List Value},Vals (ns.map V.int) us→IntsAre us ns:=by
 induction ns with
 | nil=>intro us r;rw[List.map_nil] at r;cases r;exact .nil
 | cons n ns ih =>
  intro us r
  rw[List.map_cons] at r
  cases r with
  | cons r1 r2 =>
   obtain⟨t,e⟩:=r1
   subst e
   exact .cons n t (ih r2)
section
variable {X:Cx}{e:Expr}{te:TE}{lo hi:Option Expr}{tl th:TO}{pos p2:Pos}
theorem zdn:PO X none zlA:=by
 intro pins s σ H Q I h
 rw[evalPart_none]
 exact wpAny_pure ⟨none,H,I,.none,h⟩
theorem zdm (h:PE X e te):PO X (some e) (tPart te):=by
 intro pins s σ H Q I hw
 rw[evalPart_some]
 refine thn (h pins s σ H _ I hw) fun u s1 ⟨x,H1,I1,r1,q1⟩=>?_
 obtain⟨i,rfl,q⟩:=q1
 obtain⟨t,rfl⟩:=r1
 exact⟨some i,H1,I1,.int i t,q⟩
def SlR (X:Cx) (r:V→Option Int→Option Int→Hp→VK→Prop):Prop :=
 ∀ (pins:List (Addr×Obj)) (s:Shared) (σ:St) (H:Hp) (x:V) (v vl vu:Value) (lo hi:Option Int) (sl:Addr) (Q:VK),Inv X pins σ H s→RelV x v→s.heap.IsSliceOf sl vl vu .none→IsPart vl lo→IsPart vu hi→r x lo hi H Q →
  ∃ T id,typeLookup (.type T) "__getitem__" = pure (some (.builtin id))∧s.TypeIs v T∧wpAny (model X.prog X.w) X.A (getItem v (.ref sl)) (EP X pins σ Q) X.xe s
def tSl (r:V→Option Int→Option Int→Hp→VK→Prop) (te:TE) (tl th:TO):TE:=fun σ H Q=>te σ H fun x H1=>tl σ H1 fun l H2=>th σ H2 fun u H3=>r x l u H3 Q
theorem zcP {r:V→Option Int→Option Int→Hp→VK→Prop}(hr:SlR X r) (he:PE X e te) (hl:PO X lo tl) (hu:PO X hi th):PE X (.Subscript e (.Slice lo hi none p2) pos) (tSl r te tl th):=by
 intro pins s σ H Q I h
 refine Subscript_ (thn (he pins s σ H _ I h) fun v s1 ⟨x,H1,I1,r1,q1⟩=>?_)
 refine wpAny_Slice (thn (hl pins s1 σ H1 _ I1 q1) fun vl s2 ⟨l,H2,I2,pl,q2⟩=>thn (hu pins s2 σ H2 _ I2 q2) fun vu s3 ⟨u,H3,I3,pu,q3⟩=>?_)
 rw[evalPart_none]
 refine wpAny_pure ?_
 have I4:Inv X pins σ H3 { s3 with heap:=s3.heap.push { cls:=.type "slice",data:=.fields #[vl,vu,.none] } }:=I3.kept (t':=s3.toks) fun b ob q=>Heap.get?_push_of_some _ q
 obtain⟨T,id,hT,ht,hg⟩:=hr pins { s3 with heap:=s3.heap.push { cls:=.type "slice",data:=.fields #[vl,vu,.none] } } σ H3 x v vl vu l u s3.heap.objs.size Q I4 r1 (Heap.IsSliceOf.new ..) pl pu q3
 show wpAny (model X.prog X.w) X.A (subscriptTail e (.Slice lo hi none p2) v (.ref s3.heap.objs.size)) (EP X pins σ Q) X.xe { s3 with heap:=s3.heap.push { cls:=.type "slice",data:=.fields #[vl,vu,.none] } }
 exact tail_any (ops:=[.ref s3.heap.objs.size,v]) ht hT hg (by with_unfolding_all rfl)
def cutV (xs:List V) (lo hi:Option Int):List V:=(xs.drop (HT.sIx xs.length 0 lo)).take (HT.sIx xs.length xs.length hi - HT.sIx xs.length 0 lo)
theorem zej (xs:List V) (lo hi:Option Int):(cutV xs lo hi).length≤xs.length:=by
 unfold cutV
 rw[List.length_take,List.length_drop]
 lia
def rSlT (K:W.Frag):V→Option Int→Option Int→Hp→VK→Prop:=fun x lo hi H Q=>∃ a xs,x=.ref a∧SqT K H a xs ∧
 ¬ (HT.sIx xs.length 0 lo=0∧HT.sIx xs.length xs.length hi=xs.length)∧∀ p,H p=none→Q (.ref p) (upd H p (.tup (cutV xs lo hi)))
theorem zmc:SlR X (rSlT X.K):=by
 intro pins s σ H x v vl vu lo hi sl Q I rx hs pl pu h
 obtain⟨a,xs,rfl,hx,hw,q⟩:=h
 cases rx
 obtain⟨its,r,ht,hz⟩:=I.tuple hx
 have hlen:its.toArray.size=xs.length:=by rw[List.size_toArray];exact r.length.symm
 refine⟨"tuple",_,PyProof.Rows.slot_tuple_getitem.lookup,ht.typeIs,?_⟩
 refine HT.getItem_tuple_cut ht hs pl pu (by rw[hlen];exact hw) ?_ (by rw[hlen];exact hz)
 rw[hlen]
 refine⟨.ref s.heap.objs.size,_,I.laid (t':=s.toks) (o:=.tup (cutV xs lo hi)) (fun b ob q=>Heap.get?_push_of_some _ q) (Nat.le_refl _) ?_,rfl,q _ (I.hok.fresh (Nat.le_refl _))⟩
 exact⟨Nat.le_trans (zej xs lo hi) hz,_,(r.drop (HT.sIx xs.length 0 lo)).take (HT.sIx xs.length xs.length hi - HT.sIx xs.length 0 lo),IsTup.new _ _⟩
end
def ixN (n:Nat) (i:Int):Option Nat:=if 0≤i then (if i<n then some i.toNat else none) else if -(n:Int)≤i then some (i+n).toNat else none
def atI {α:Type}(xs:List α) (i:Int):Option α:=(ixN xs.length i).bind fun j=>xs[j]?
theorem zjK {n:Nat}{i:Int}{j:Nat}(h:ixN n i=some j):seqIndex? i n=some j∧j<n∧-(n:Int)≤i∧i<n:=by
 unfold ixN at h
 by_cases h0:0≤i
 ·rw[if_pos h0] at h
  by_cases h1:i<n
  ·rw[if_pos h1] at h
   have e:i.toNat=j:=Option.some.inj h
   exact⟨by rw[seqIndex_of h0 h1,e],by lia,by lia,h1⟩
  ·rw[if_neg h1] at h;cases h
 ·rw[if_neg h0] at h
  by_cases h1:-(n:Int)≤i
  ·rw[if_pos h1] at h
   have e:(i+n).toNat=j:=Option.some.inj h
   exact⟨by rw[seqIndex_neg (by lia) h1,e],by lia,h1,by lia⟩
  ·rw[if_neg h1] at h;cases h
theorem zkb {α:Type}{xs:List α}{i:Int}{v:α}(h:atI xs i=some v):∃ j,seqIndex? i xs.length=some j∧xs[j]?=some v∧j<xs.length∧-(xs.length:Int)≤i∧i<xs.length:=by
 unfold atI at h
 cases e:ixN xs.length i with
 | none=>rw[e] at h;cases h
 | some j =>
  rw[e] at h
  obtain⟨h1,h2,h3,h4⟩:=zjK e
  exact⟨j,h1,h,h2,h3,h4⟩
theorem zap {α:Type}{xs:List α}{j:Nat}{v:α}(h:xs[j]?=some v):atI xs (j:Int)=some v:=by
 have hj:j<xs.length:=(List.getElem?_eq_some_iff.mp h).1
 have e:ixN xs.length (j:Int)=some j:=by
  unfold ixN
  rw[if_pos (by lia),if_pos (by lia)];simp
 unfold atI;rw[e];exact h
def zl4 (b:Expr):Prop:=∀ o i,subscripted b false o i=operate [o,i] (getItem o i)
def IxR (X:Cx) (r:R2):Prop :=
 ∀ (value slice:Expr) (pins:List (Addr×Obj)) (s:Shared) (σ:St) (H:Hp) (x y:V) (v u:Value) (Q:VK),Inv X pins σ H s→RelV x v→RelV y u→r x y H Q →
  subscripted slice false v u=operate [v,u] (getItem v u)→wpAny (model X.prog X.w) X.A (subscriptTail value slice v u) (EP X pins σ Q) X.xe s
def MtR (X:Cx) (id:String) (r:V→List V→Hp→VK→Prop):Prop :=
 ∀ (pins:List (Addr×Obj)) (s:Shared) (σ:St) (H:Hp) (x:V) (xs:List V) (v:Value) (us:List Value) (Q:VK),Inv X pins σ H s→RelV x v→Vals xs us→r x xs H Q →
  wpAny (model X.prog X.w) X.A (call (.builtin id) (v::us)) (EP X pins σ Q) X.xe s
section
variable {X:Cx}{a b:Expr}{ta tb:TE}{pos:Pos}
theorem pe_ix {r:R2}(hr:IxR X r) (ha:PE X a ta) (hb:PE X b tb) (hs:zl4 b):PE X (.Subscript a b pos) (tOp r ta tb):=by
 intro pins s σ H Q I h
 exact Subscript_ (binT ha hb I h fun v u s2 x y H2 I2 rx ry q=>hr a b pins s2 σ H2 x y v u Q I2 rx ry q (hs _ _))
def rIxL (K:W.Frag):R2:=fun x y H Q=>∃ p xs i v,x=.ref p∧y=.int i∧SqL K H p xs∧atI xs i=some v∧Q v H
def rIxT (K:W.Frag):R2:=fun x y H Q=>∃ p xs i v,x=.ref p∧y=.int i∧SqT K H p xs∧atI xs i=some v∧Q v H
theorem za2:IxR X (rIxL X.K):=by
 intro value slice pins s σ H x y v u Q I rx ry h hs
 obtain⟨p,xs,i,z,rfl,rfl,hq,he,q⟩:=h
 cases rx
 obtain⟨t,rfl⟩:=ry
 obtain⟨its,r,pl,hz⟩:=I.list hq
 obtain⟨j,h1,h2,h3,h4,h5⟩:=zkb he
 obtain⟨w,ew,rw'⟩:=r.get h2
 have hl:=r.length
 have hn:=zgo
 have fin:EP X pins σ Q w s:=⟨z,H,I,rw',q⟩
 by_cases h0:0≤i
 ·have hj : i.toNat = j := by
   rw[seqIndex_of h0 h5] at h1
   exact Option.some.inj h1
  exact item_listR pl.isList h0 (by lia) (by rw[hj];simpa using ew) fin hs
 ·have hj : (i + (its.toArray.size : Int)).toNat = j := by
   rw[seqIndex_neg (by lia) h4] at h1
   rw[List.size_toArray,← hl]
   exact Option.some.inj h1
  exact subscriptTail_builtinR (x:=w) pl.isList.typeIs slot_list_getitem.lookup
   (wpAny_getItem_list_neg (Q:=fun r s'=>r=w∧EP X pins σ Q r s') pl.isList (by lia) (by rw[List.size_toArray] <;> lia) (by lia) (by rw[hj];simpa using ew) ⟨rfl,fin⟩) hs
theorem zcB:IxR X (rIxT X.K):=by
 intro value slice pins s σ H x y v u Q I rx ry h hs
 obtain⟨p,xs,i,z,rfl,rfl,hq,he,q⟩:=h
 cases rx
 obtain⟨t,rfl⟩:=ry
 obtain⟨its,r,pl,hz⟩:=I.tuple hq
 obtain⟨j,h1,h2,h3,h4,h5⟩:=zkb he
 obtain⟨w,ew,rw'⟩:=r.get h2
 have hl:=r.length
 have hn:=zgo
 have fin:EP X pins σ Q w s:=⟨z,H,I,rw',q⟩
 exact subscriptTail_builtinR (x:=w) pl.typeIs slot_tuple_getitem.lookup
  (getItem_tuple (j:=j) (Q:=fun r s'=>r=w∧EP X pins σ Q r s') pl (by lia) (by lia) (by rw[List.size_toArray,← hl];exact h1) (by simpa using ew) ⟨rfl,fin⟩) hs
theorem ziA (its:List Value) (n j:Nat) (u:Value):Obj.mapSeq (·.setIfInBounds j u) { cls:=.type "list",data:=.seq its.toArray n }={ cls:=.type "list",data:=.seq (its.set j u).toArray n }:=by
 simp[Obj.mapSeq]
theorem Inv.lst {pins : List (Addr × Obj)}{σ : St}{H : Hp}{s : Shared}{p : Addr}{xs : List V}(I : Inv X pins σ H s) (h : H p = some (.lst xs)) :
  ∃ (its:List Value) (n:Nat),Vals xs its∧s.heap.get? p=some { cls:=.type "list",data:=.seq its.toArray n }∧xs.length≤sizeLine:=by
 obtain⟨z,its,n,r,e⟩:=I.hok p _ h
 exact⟨its,n,r,e,z⟩
theorem Inv.lstUpd {pins : List (Addr × Obj)}{σ : St}{H : Hp}{s : Shared}{p : Addr}{xs ys : List V}{its its' : List Value}{n n' : Nat}{f : Obj → Obj}(I : Inv X pins σ H s) (h : H p = some (.lst xs))
  (ho:s.heap.get? p=some { cls:=.type "list",data:=.seq its.toArray n }) (hf:f { cls:=.type "list",data:=.seq its.toArray n }={ cls:=.type "list",data:=.seq its'.toArray n' }) (r:Vals ys its') (hz:ys.length≤sizeLine) (t:Nat) :
  Inv X pins σ (upd H p (.lst ys)) { s with heap:=s.heap.update p f,toks:=t }:=by
 have e:(s.heap.update p f).get? p=some { cls:=.type "list",data:=.seq its'.toArray n' }:=by
  rw[Heap.get?_update_self f ho (by rw[hf] <;> rfl),hf]
 refine I.write (x:=p) (e:=p) (by rw[h];trivial) (.inl rfl) (fun b u hb q=>(Heap.get?_update_other _ _ (Ne.symm hb)).trans q) ⟨_,e⟩ ?_
 exact⟨hz,its',n',r,e⟩
def rSetL:V→V→V→Hp→(Hp→Prop)→Prop:=fun o i v H Q=>∃ p xs k j,o=.ref p∧i=.int k∧H p=some (.lst xs)∧ixN xs.length k=some j∧Q (upd H p (.lst (xs.set j v)))
theorem zdO:PSet X rSetL:=by
 intro pins s σ H o i v ov iv u Q I ro ri rv h
 obtain⟨p,xs,k,j,rfl,rfl,hp,hj,q⟩:=h
 cases ro
 obtain⟨t,rfl⟩:=ri
 obtain⟨its,n,r,ho,hz⟩:=I.lst hp
 obtain⟨h1,h2,h3,h4⟩:=zjK hj
 have hl:=r.length
 have hn:=zgo
 have I':Inv X pins σ (upd H p (.lst (xs.set j v))) { s with heap:=s.heap.update p (Obj.mapSeq (·.setIfInBounds j u)) } :=
  I.lstUpd hp ho (ziA its n j u) (r.set rv j) (by rw[List.length_set];exact hz) s.toks
 by_cases h0:0≤k
 ·have hk : k.toNat = j := by
   rw[seqIndex_of h0 h4] at h1
   exact Option.some.inj h1
  exact W.ki_setAt ho h0 (by lia) (by rw[List.size_toArray,← hl];exact h4) (by rw[hk];exact⟨_,I',q⟩)
 ·have hk : (k + (its.toArray.size : Int)).toNat = j := by
   rw[seqIndex_neg (by lia) h3] at h1
   rw[List.size_toArray,← hl]
   exact Option.some.inj h1
  exact W.ki_setBack ho (by lia) (by rw[List.size_toArray,← hl];exact h3) (by lia) (by rw[hk];exact⟨_,I',q⟩)
theorem zf4 (lo hi:Option Int) (n:Nat):(sliceBounds lo hi none n).1=((HT.sIx n 0 lo:Nat):Int)∧(sliceBounds lo hi none n).2.1=((HT.sIx n n hi:Nat):Int)∧(sliceBounds lo hi none n).2.2=1:=by
 refine⟨?_,?_,rfl⟩
 ·cases lo with
  | none=>simp[sliceBounds,HT.sIx]
  | some i =>
   simp only[sliceBounds,HT.sIx,Option.getD_none,show (1:Int) > 0 by decide,if_true]
   by_cases h:i<0
   ·simp only[h,if_true] <;> lia
   ·simp only[h,if_false] <;> lia
 ·cases hi with
  | none=>simp[sliceBounds,HT.sIx]
  | some i =>
   simp only[sliceBounds,HT.sIx,Option.getD_none,show (1:Int) > 0 by decide,if_true]
   by_cases h:i<0
   ·simp only[h,if_true] <;> lia
   ·simp only[h,if_false] <;> lia
theorem zff (its:List Value) (lo hi:Option Int):slicePick its.toArray lo hi none=((its.drop (HT.sIx its.length 0 lo)).take (HT.sIx its.length its.length hi - HT.sIx its.length 0 lo)).toArray:=by
 obtain⟨h1,h2,h3⟩:=zf4 lo hi its.toArray.size
 unfold slicePick
 rw[h1,h2,h3]
 simp only[sliceRange_one,pick_run,List.size_toArray] <;> rfl
def rSlL (K:W.Frag):V→Option Int→Option Int→Hp→VK→Prop:=fun x lo hi H Q=>∃ a xs,x=.ref a∧SqL K H a xs∧∀ p,H p=none→Q (.ref p) (upd H p (.lst (cutV xs lo hi)))
theorem zdW:SlR X (rSlL X.K):=by
 intro pins s σ H x v vl vu lo hi sl Q I rx hs pl pu h
 obtain⟨a,xs,rfl,hx,q⟩:=h
 cases rx
 obtain⟨its,r,ht,hz⟩:=I.list hx
 have hlen:=r.length
 refine⟨"list",_,slot_list_getitem.lookup,ht.isList.typeIs,?_⟩
 refine wpAny_getItem_list_slice ht.isList hs pl pu .none (by simp) ?_ (by rw[List.size_toArray] <;> lia)
 rw[zff,← hlen]
 refine⟨.ref s.heap.objs.size,_,I.laid (t':=s.toks) (o:=.lst (cutV xs lo hi)) (fun b ob q=>Heap.get?_push_of_some _ q) (Nat.le_refl _) ?_,rfl,q _ (I.hok.fresh (Nat.le_refl _))⟩
 exact⟨Nat.le_trans (zej xs lo hi) hz,_,0,(r.drop (HT.sIx xs.length 0 lo)).take (HT.sIx xs.length xs.length hi - HT.sIx xs.length 0 lo),Heap.get?_push_size _ rfl⟩
theorem zbT:CallR X (.builtin "len") (fun xs H Q=>∃ p ys,xs=[.ref p]∧(SqL X.K H p ys∨SqT X.K H p ys)∧Q (.int ys.length) H):=by
 intro pins s σ H xs us Q I r h
 obtain⟨p,ys,rfl,hq,q⟩:=h
 obtain⟨u,rfl,rx⟩:=vals1 r
 cases rx
 have hn:=zgo
 rcases hq with hq | hq
 ·obtain⟨its,r',pl,hz⟩:=I.list hq
  have hlen:=r'.length
  exact Calls.call_len_list pl.isList (by simp only[List.size_toArray] <;> lia) ⟨.int ys.length,H,I.tok _,⟨s.toks+1,by rw[List.size_toArray,hlen]⟩,q⟩
 ·obtain⟨its,r',pl,hz⟩:=I.tuple hq
  have hlen:=r'.length
  exact len_tuple pl (by simp only[List.size_toArray] <;> lia) ⟨.int ys.length,H,I.tok _,⟨s.toks+1,by rw[List.size_toArray,hlen]⟩,q⟩
theorem zgD:CallR X (.type "list") (fun xs H Q=>∃ p ys,xs=[.ref p]∧(SqL X.K H p ys∨SqT X.K H p ys)∧∀ l,H l=none→Q (.ref l) (upd H l (.lst ys))):=by
  intro pins s σ H xs us Q I r h
  obtain⟨p,ys,rfl,hq,q⟩:=h
  obtain⟨u,rfl,rx⟩:=vals1 r
  cases rx
  have fin : ∀ (its : List Value), Vals ys its → ys.length ≤ sizeLine → ∀ (h' : Heap) (c' : Nat), (∀ b o', s.heap.get? b = some o' → h'.get? b = some o') →
      h'.get? s.heap.objs.size=some { cls:=.type "list",dict:=none,data:=.seq its.toArray c',slots:=#[] }→EP X pins σ Q (.ref s.heap.objs.size) { s with heap:=h' }:=fun its r' hz h' c' kp e =>
    ⟨.ref s.heap.objs.size,_,I.laid (t':=s.toks) kp (Nat.le_refl _) (show ObjOk X.prog X.w _ h' _ (.lst ys) from ⟨hz,its,c',r',e⟩),rfl,q _ (I.hok.fresh (Nat.le_refl _))⟩
  rcases hq with hq | hq
  · obtain⟨its,r',pl,hz⟩:=I.list hq
    have hlen:=r'.length
    obtain⟨o,ho,hc,n,hd⟩:=pl.isList
    exact call_list_seq p (.inl rfl) ho hc hd (fun h' c' kp e=>fin its r' hz h' c' kp e) (by simp only[List.size_toArray] <;> lia)
  · obtain⟨its,r',pl,hz⟩:=I.tuple hq
    have hlen:=r'.length
    obtain⟨o,ho,hc,n,hd⟩:=pl
    exact call_list_seq p (.inr rfl) ho hc hd (fun h' c' kp e=>fin its r' hz h' c' kp e) (by simp only[List.size_toArray] <;> lia)
theorem zbY:CallR X (.type "tuple") (fun xs H Q=>∃ p ys,xs=[.ref p]∧((SqL X.K H p ys∧∀ l,H l=none→Q (.ref l) (upd H l (.tup ys)))∨(SqT X.K H p ys∧Q (.ref p) H))):=by
 intro pins s σ H xs us Q I r h
 obtain⟨p,ys,rfl,h⟩:=h
 obtain⟨u,rfl,rx⟩:=vals1 r
 cases rx
 rcases h with⟨hq,q⟩ | ⟨hq,q⟩
 ·obtain⟨its,r',pl,hz⟩:=I.list hq
  have hlen:=r'.length
  refine call_tuple_list pl.isList (fun h' kp=>?_) (by simp only[List.size_toArray] <;> lia)
  have I1:Inv X pins σ H { s with heap:=h' }:=I.kept (t':=s.toks) kp
  have I2:Inv X pins σ (upd H h'.objs.size (.tup ys)) { s with heap:=h'.push { cls:=.type "tuple",data:=.seq its.toArray } } :=
   I1.laid (t':=s.toks) (fun b o e=>Heap.get?_push_of_some _ e) (Nat.le_refl _) (show ObjOk X.prog X.w _ _ _ (.tup ys) from ⟨hz,its,r',IsTup.new _ _⟩)
  exact⟨.ref h'.objs.size,_,I2,rfl,q _ (I1.hok.fresh (Nat.le_refl _))⟩
 ·obtain⟨its,r',pl,hz⟩:=I.tuple hq
  exact call_tuple_same pl ⟨.ref p,H,I,rfl,q⟩
def tyV (K:W.Frag) (T:String) (x:V) (H:Hp):Prop:=match x with
  | .str _=>T = "str"
  | .int _=>T = "int"
  | .ref p => (T = "list" ∧ ∃ xs, SqL K H p xs) ∨ (T = "tuple" ∧ ∃ o, K.lookup p = some o ∧ o.cls = .type "tuple" ∧ o.dict = none) ∨
      (T = "dict" ∧ ((∃ kvs,H p=some (.dK kvs))∨∃ kvs,H p=some (.dT kvs)))∨(T = "set" ∧ ∃ S n,H p=some (.set S n))
  | _=>False
theorem zk4 {pins : List (Addr × Obj)}{σ : St}{H : Hp}{s : Shared}{T : String}{x : V}{v : Value}(I : Inv X pins σ H s) (r : RelV x v) (ty : tyV X.K T x H) :
  s.TypeIs v T∧∀ a,v=.ref a→∃ ob,s.heap.get? a=some ob∧ob.dict=none:=by
 cases x with
 | str z =>
  obtain⟨t,rfl⟩:=r
  cases (show T = "str" from ty)
  exact⟨typeIs_str s z t,fun _ e=>nomatch e⟩
 | int i =>
  obtain⟨t,rfl⟩:=r
  cases (show T = "int" from ty)
  exact⟨typeIs_int s i t,fun _ e=>nomatch e⟩
 | ref p =>
  cases r
  rcases ty with⟨rfl,xs,hq⟩ | ⟨rfl,o,hk,hc,hd⟩ | ⟨rfl,hk⟩ | ⟨rfl,S,n,hk⟩
  ·obtain⟨its,_,pl,_⟩:=I.list hq
   refine⟨pl.isList.typeIs,fun a e=>?_⟩
   cases e
   obtain⟨o,n,e,c,hd,_⟩:=pl
   exact⟨o,e,hd⟩
  ·refine⟨⟨o,I.kIn p o hk,hc⟩,fun a e=>?_⟩
   cases e
   exact⟨o,I.kIn _ o hk,hd⟩
  ·have z : ∃ o, s.heap.get? p = some o ∧ o.ExactDict := by
    rcases hk with⟨kvs,hk⟩ | ⟨kvs,hk⟩
    ·obtain⟨_,_,_,_,o,_,_,e,ex,_⟩:=I.hok p _ hk
     exact⟨o,e,ex⟩
    ·obtain⟨_,_,_,_,o,_,_,e,ex,_⟩:=I.hok p _ hk
     exact⟨o,e,ex⟩
   obtain⟨o,e,ex⟩:=z
   refine⟨⟨o,e,ex.1⟩,fun a e2=>?_⟩
   cases e2
   exact⟨o,e,ex.2.1⟩
  ·obtain⟨o,_,_,_,e,ex,_⟩:=I.hok p _ hk
   refine⟨⟨o,e,ex.1⟩,fun a e2=>?_⟩
   cases e2
   exact⟨o,e,ex.2.1⟩
 | _=>exact False.elim ty
def tBM0 (K:W.Frag) (T:String) (r:V→List V→Hp→VK→Prop) (to:TE):TE:=fun σ H Q=>to σ H fun x H1=>tyV K T x H1∧r x [] H1 Q
def tBM (K:W.Frag) (T:String) (r:V→List V→Hp→VK→Prop) (to:TE) (t:TA):TE:=fun σ H Q=>to σ H fun x H1=>tyV K T x H1∧t σ H1 fun xs H2=>r x xs H2 Q
variable {o e:Expr}{es:List Expr}{to:TE}{t:TA}{name:Str}{apos cpos:Pos}{T id:String}{r:V→List V→Hp→VK→Prop}
theorem zmp (pa : PlainAttrs T) (slot : Slot T name id) (hty : typeOf (.builtin id) = pure (.type "method_descriptor")) (hm : MtR X id r) (ho : PE X o to)
  (hbase:attributeBase o name X.env (eval o X.env)=eval o X.env:=by rfl) (hline:(apos.endLine == cpos.line)=true:=by rfl):PE X (.Call (.Attribute o name apos) [] [] cpos) (tBM0 X.K T r to):=by
 intro pins s σ H Q I h
 refine wpAny_Call_method0_late hbase hline (thn (ho pins s σ H _ I h) fun v s1 ⟨x,H1,I1,r1,ty,q1⟩=>?_)
 obtain⟨h1,h2⟩:=zk4 I1 r1 ty
 exact⟨T,id,pa,slot,hty,h1,h2,Calls.callWith_builtin rfl (PySem.evalArgs_none (hm pins s1 σ H1 x [] v [] Q I1 r1 .nil q1))⟩
theorem pe_bm (pa : PlainAttrs T) (slot : Slot T name id) (hty : typeOf (.builtin id) = pure (.type "method_descriptor")) (hm : MtR X id r) (ho : PE X o to) (ha : PA X (e :: es) t)
  (hbase:attributeBase o name X.env (eval o X.env)=eval o X.env:=by rfl)
  (hfew:((backTo cpos (starEach (e::es) X.env)).all (fun x=>!x.1) && (backToKw cpos (keywordEach [] X.env)).all (fun x=>x.1.isSome)
   && decide ((e::es).length+([]:List Keyword).length+(if ([]:List Keyword).isEmpty then 0 else 1)<30))=true:=by rfl)
  (hline:(apos.endLine == cpos.line)=true:=by rfl) (hs:starEach (e::es) X.env=(false,eval e X.env)::starEach es X.env:=by rfl) (hplain:(backTo cpos (starEach es X.env)).any (·.1)=false:=by rfl) :
  PE X (.Call (.Attribute o name apos) (e::es) [] cpos) (tBM X.K T r to t):=by
 intro pins s σ H Q I h
 refine wpAny_Call_method_late hbase hfew hline rfl (thn (ho pins s σ H _ I h) fun v s1 ⟨x,H1,I1,r1,ty,q1⟩=>?_)
 obtain⟨h1,h2⟩:=zk4 I1 r1 ty
 refine⟨T,id,pa,slot,hty,h1,h2,?_⟩
 have hA:=ha cpos pins s1 σ H1 _ I1 q1
 rw[hs] at hA ⊢
 refine Calls.callWith_builtin (by show (false || (backTo cpos (starEach es X.env)).any (·.1))=false;rw[hplain] <;> rfl) (Calls.evalArgs_plain ?_)
 exact thn hA fun us s2 ⟨vs,H2,I2,r2,q2⟩=>hm pins s2 σ H2 x vs v us Q I2 r1 r2 q2
/- xs.append(e),list.index on a module's tuple .. are MtR facts of 06m -/
end
def MtM (X:Cx) (id:String) (r:V→List V→Hp→VK→Prop):Prop :=
 ∀ (pins:List (Addr×Obj)) (s:Shared) (σ:St) (H:Hp) (x:V) (xs:List V) (v:Value) (us:List Value) (Q:VK),Inv X pins σ H s→RelV x v→Vals xs us→r x xs H Q →
  wpAny (model X.prog X.w) X.A (call (.builtin id) (v::us)) (EP X pins σ Q) X.xe s
theorem Vals.one:∀ {x:V}{us:List Value},Vals [x] us→∃ u,us=[u]∧RelV x u
 | _,_,.cons r .nil=>⟨_,rfl,r⟩
theorem Vals.zero:∀ {us:List Value},Vals [] us→us=[]
 | _,.nil=>rfl
theorem Vals.dropLast {xs:List V}{us:List Value}(h:Vals xs us):Vals xs.dropLast us.dropLast:=by
 induction h with
 | nil=>exact .nil
 | cons r t ih =>
  cases t with
  | nil=>exact .nil
  | cons q t'=>exact .cons r ih
theorem Vals.reverse {xs:List V}{us:List Value}(h:Vals xs us):Vals xs.reverse us.reverse:=by
 induction h with
 | nil=>exact .nil
 | cons r t ih=>rw[List.reverse_cons,List.reverse_cons];exact Vals.append ih (.cons r .nil)
theorem Vals.rep {xs:List V}{us:List Value}(h:Vals xs us):∀ k:Nat,Vals (List.replicate k xs).flatten (List.replicate k us).flatten
 | 0=>.nil
 | k+1=>by
  rw[List.replicate_succ,List.replicate_succ,List.flatten_cons,List.flatten_cons]
  exact Vals.append h (Vals.rep h k)
theorem ziG {α:Type}(l:List α):l.eraseIdx (l.length - 1)=l.dropLast:=by
 induction l with
 | nil=>rfl
 | cons a r ih =>
  cases r with
  | nil=>rfl
  | cons b r =>
   have e:(a::b::r).length - 1=((b::r).length - 1)+1:=by
    have h1:(a::b::r).length=r.length+2:=rfl
    have h2:(b::r).length=r.length+1:=rfl
    lia
   rw[e,List.eraseIdx_cons_succ,ih]
   all_goals rfl
theorem zgu (its : List Value) : ∀ (k : Nat) (acc : List Value),
  List.foldl (fun x1 x2=>x1++x2) acc.toArray (List.replicate k its.toArray)=(acc++(List.replicate k its).flatten).toArray
 | 0,acc=>by simp
 | k+1,acc=>by
  have e:acc.toArray++its.toArray=(acc++its).toArray:=by simp
  have e2:(acc++its)++(List.replicate k its).flatten=acc++(List.replicate (k+1) its).flatten:=by
   rw[List.replicate_succ,List.flatten_cons,List.append_assoc]
  rw[← e2,← zgu its k (acc++its),← e,List.replicate_succ,List.foldl_cons]
section
variable {X:Cx}{pins:List (Addr×Obj)}{σ:St}{H:Hp}{s:Shared}{l b:Addr}{xs ys zs:List V}
theorem Inv.lset {its its' : List Value}{n : Nat}{f : Array Value → Array Value}{t' : Nat}(I : Inv X pins σ H s) (hH : H l = some (.lst xs))
  (e:s.heap.get? l=some { cls:=.type "list",data:=.seq its.toArray n }) (hf:f its.toArray=its'.toArray) (hv:Vals ys its') (hz:ys.length≤sizeLine) :
  Inv X pins σ (upd H l (.lst ys)) { s with heap:=s.heap.update l (Obj.mapSeq f),toks:=t' }:=by
 have q:=PySem.IsL.update e f
 rw[hf] at q
 refine I.write (x:=l) (e:=l) (by rw[hH];exact trivial) (.inl rfl) (fun b' u hb hu=>(Heap.get?_update_other s.heap (Obj.mapSeq f) (Ne.symm hb)).trans hu) ⟨_,q⟩ ?_
 exact⟨hz,its',_,hv,q⟩
theorem Inv.lnew {its : List Value}{t' : Nat}(I : Inv X pins σ H s) (hv : Vals ys its) (hz : ys.length ≤ sizeLine) :
  Inv X pins σ (upd H s.heap.objs.size (.lst ys)) { s with heap:=s.heap.push { cls:=.type "list",data:=.seq its.toArray },toks:=t' } :=
 I.laid (fun _ _ q=>Heap.get?_push_of_some _ q) (Nat.le_refl _) ⟨hz,its,0,hv,Heap.get?_push_size _ rfl⟩
theorem Inv.fresh (I:Inv X pins σ H s):H s.heap.objs.size=none:=I.hok.fresh (Nat.le_refl _)
theorem Inv.lstM (I:Inv X pins σ H s) (hH:H l=some (.lst xs)):xs.length≤sizeLine∧∃ (its:List Value) (n:Nat),Vals xs its∧xs.length=its.length∧s.heap.get? l=some { cls:=.type "list",data:=.seq its.toArray n }:=by
 obtain⟨z,its,n,r,e⟩:=I.hok l _ hH
 exact⟨z,its,n,r,r.length,e⟩
theorem zhS {n:Nat}(h:n≤sizeLine):Builtin.List.listTooLong n=false:=by
 unfold Builtin.List.listTooLong
 exact decide_eq_false (by lia)
end
section
variable {X:Cx}
def zlL:V→List V→Hp→VK→Prop:=fun x vs H Q=>∃ l xs y,x=.ref l∧vs=[y]∧H l=some (.lst xs)∧xs.length<sizeLine∧Q .non (upd H l (.lst (xs++[y])))
theorem zbX:MtM X "list.append" zlL:=by
 intro pins s σ H x vs v us Q I rx rv h
 obtain⟨l,xs,y,rfl,rfl,hH,hz,q⟩:=h
 cases rx
 obtain⟨u,rfl,ru⟩:=rv.one
 obtain⟨z,its,n,r,hl,e⟩:=I.lstM hH
 refine call_meets F.slot_list_append ⟨_,e,rfl⟩ F.entry_list_append (F.args_list_append_2 _ _) (PySem.list_append l its.toArray n u (by rw[List.size_toArray];lia)) ⟨e,?_⟩
 refine⟨.non,_,I.lset (its':=its++[u]) hH e (by simp) (r.append (.cons ru .nil)) ?_,rfl,q⟩
 rw[List.length_append,List.length_singleton]
 lia
def zlK:V→List V→Hp→VK→Prop:=fun x vs H Q=>∃ l b xs zs,x=.ref l∧vs=[.ref b]∧H l=some (.lst xs)∧H b=some (.lst zs)∧xs.length+zs.length≤sizeLine∧Q .non (upd H l (.lst (xs++zs)))
theorem zjA:MtM X "list.extend" zlK:=by
 intro pins s σ H x vs v us Q I rx rv h
 obtain⟨l,b,xs,zs,rfl,rfl,hH,hB,hz,q⟩:=h
 cases rx
 obtain⟨u,rfl,ru⟩:=rv.one
 cases ru
 obtain⟨z,its,n,r,hl,e⟩:=I.lstM hH
 obtain⟨z2,its2,n2,r2,hl2,e2⟩:=I.lstM hB
 have hsz:its.toArray.size+its2.toArray.size≤sizeLine:=by rw[List.size_toArray,List.size_toArray];lia
 have hlong:¬ (!its.toArray.isEmpty && Builtin.List.listTooLong (its.toArray.size+its2.toArray.size))=true:=by
  rw[zhS hsz,Bool.and_false]
  exact Bool.false_ne_true
 refine call_meets F.slot_list_extend ⟨_,e,rfl⟩ F.entry_list_extend (F.args_list_extend_2 _ _)
  (AutoSeq1.list_extend_list_list_0 l its.toArray n b its2.toArray n2 hlong (by rw[List.size_toArray];lia) (by lia)) ⟨e,e2,?_⟩
 refine⟨.non,_,I.lset (its':=its++its2) hH e (by simp) (r.append r2) ?_,rfl,q⟩
 rw[List.length_append]
 lia
def rPop:V→List V→Hp→VK→Prop:=fun x vs H Q=>∃ l xs y,x=.ref l∧vs=[]∧H l=some (.lst xs)∧xs[xs.length - 1]?=some y∧Q y (upd H l (.lst xs.dropLast))
theorem zmu:MtM X "list.pop" rPop:=by
 intro pins s σ H x vs v us Q I rx rv h
 obtain⟨l,xs,y,rfl,rfl,hH,hy,q⟩:=h
 cases rx
 have hus:=rv.zero
 subst hus
 obtain⟨z,its,n,r,hl,e⟩:=I.lstM hH
 obtain⟨u,hu,ru⟩:=r.get hy
 have hy':its.toArray[its.toArray.size - 1]?=some u:=by
  show its.toArray[its.length - 1]?=some u
  rw[← Array.getElem?_toList,← hl]
  exact hu
 refine call_meets F.slot_list_pop ⟨_,e,rfl⟩ F.entry_list_pop (F.args_list_pop_1 _) (MeetsSeq.list_pop_last l its.toArray n u hy' (by rw[List.size_toArray];lia)) ⟨e,?_⟩
 refine⟨y,_,I.lset (its':=its.dropLast) hH e ?_ r.dropLast ?_,ru,q⟩
 ·show its.toArray.eraseIdxIfInBounds (its.toArray.size - 1)=its.dropLast.toArray
  rw[List.size_toArray,List.eraseIdxIfInBounds_toArray,ziG]
 ·rw[List.length_dropLast]
  lia
def rCat:R2:=fun x y H Q=>∃ l b xs zs,x=.ref l∧y=.ref b∧H l=some (.lst xs)∧H b=some (.lst zs)∧xs.length+zs.length≤sizeLine∧∀ p,H p=none→Q (.ref p) (upd H p (.lst (xs++zs)))
theorem zjv:OpR X (binaryOp .Add) rCat:=by
 intro pins s σ H x y v u Q I rx ry h
 obtain⟨l,b,xs,zs,rfl,rfl,hH,hB,hz,q⟩:=h
 cases rx
 cases ry
 obtain⟨z,its,n,r,hl,e⟩:=I.lstM hH
 obtain⟨z2,its2,n2,r2,hl2,e2⟩:=I.lstM hB
 refine PySem.P.add_list e e2 ?_ (by rw[List.size_toArray,List.size_toArray];lia)
 have ea:its.toArray++its2.toArray=(its++its2).toArray:=by simp
 rw[ea]
 exact⟨.ref _,_,I.lnew (t':=s.toks) (r.append r2) (by rw[List.length_append];lia),rfl,q _ I.fresh⟩
def rRep:R2:=fun x y H Q=>∃ l k xs,x=.ref l∧y=.int k∧H l=some (.lst xs)∧-(2 ^ 63)≤k∧k<2 ^ 63∧xs.length*k.toNat≤sizeLine ∧
 ∀ p,H p=none→Q (.ref p) (upd H p (.lst (List.replicate k.toNat xs).flatten))
theorem zlW {α:Type}(xs:List α) (k:Nat):(List.replicate k xs).flatten.length=k*xs.length:=by
 induction k with
 | zero=>simp
 | succ k ih=>rw[List.replicate_succ,List.flatten_cons,List.length_append,ih,Nat.succ_mul,Nat.add_comm]
theorem zlk:OpR X (binaryOp .Mult) rRep:=by
 intro pins s σ H x y v u Q I rx ry h
 obtain⟨l,k,xs,rfl,rfl,hH,h1,h2,hz,q⟩:=h
 cases rx
 obtain⟨t,rfl⟩:=ry
 obtain⟨z,its,n,r,hl,e⟩:=I.lstM hH
 have hlen:its.toArray.size*k.toNat≤sizeLine:=by rw[List.size_toArray,← hl];exact hz
 have hcap:¬ its.toArray.size*k.toNat > (2 ^ 63 - 1) / 8:=by
  have:(sizeLine:Nat)≤(2 ^ 63 - 1) / 8:=by decide
  lia
 have hfit:¬ (!Builtin.List.listFitsIndex k)=true:=by
  rw[fitsIndex_both h1 h2]
  exact Bool.false_ne_true
 have hlong:¬ Builtin.List.listTooLong (its.toArray.size*k.toNat)=true:=by
  rw[zhS hlen]
  exact Bool.false_ne_true
 have hnew:List.foldl (fun x1 x2=>x1++x2) #[] (List.replicate (if its.toArray.isEmpty=true then 0 else k.toNat) its.toArray)=(List.replicate k.toNat its).flatten.toArray:=by
  have f0:∀ m:Nat,List.foldl (fun x1 x2=>x1++x2) #[] (List.replicate m its.toArray)=(List.replicate m its).flatten.toArray:=fun m=>by
   have:=zgu its m []
   rw[List.nil_append] at this
   exact this
  rw[f0]
  cases its with
  | nil=>simp
  | cons a r'=>rw[if_neg (by simp)]
 refine wpAny_binaryOp_repeat_ref (T:="list") (U:="int") (by decide) ⟨_,e,rfl⟩ (fun s'=>typeIs_int s' k t) noFill_list_mul F.fills_int_mul F.slot_int_rmul repeat_list F.slot_int_index.lookup
  (call_meets F.slot_int_rmul (typeIs_int s k t) F.entry_int_rmul (F.args_int_rmul_2 _ _) (int___rmul___int_list k t l its.toArray n)
   ⟨e,rfl,⟨_,e,rfl⟩,call_meets F.slot_list_mul ⟨_,e,rfl⟩ F.entry_list_mul (F.args_list_mul_2 _ _) (AutoListH.list___mul___list_int_3 l its.toArray n k t hfit hcap hlong) ⟨e,?_⟩⟩)
 rw[hnew]
 exact⟨.ref _,_,I.lnew (t':=s.toks) (r.rep k.toNat) (by rw[zlW,Nat.mul_comm];exact hz),rfl,q _ I.fresh⟩
end
section
variable {prog:Program}{w:World}{A:Around}{E:Value→Shared→Prop}{s:Shared}
set_option maxRecDepth 100000 in
end
section
variable {X:Cx}
end
end L2
namespace Att
open PySem PySem.W PySem.Calls PyProof.Rows
theorem zec {P:Params}{h:Heap}:∀ (ns:List Int) (vs:List Value),WellAll P h vs (ns.map WData.int)→IntsAre vs ns:=by
 intro ns
 induction ns with
 | nil =>
  intro vs w
  rw[List.map_nil] at w
  cases w
  exact .nil
 | cons n ns ih =>
  intro vs w
  rw[List.map_cons] at w
  cases w with
  | cons a b =>
   cases a
   exact .cons _ _ (ih _ b)
theorem zja {l : OpenLaw}{n : Nat}(hn : l.most = some n){P : Params}{h : Heap}{args : List WData}{vals : List Value}
  (hpre:l.row.toRowW.claim.pre args=true) (hwl:WellAll P h vals args) :
  ∃ a vs ns,vals=[Value.ref a]∧args=[WData.list (ns.map WData.int)]∧h.get? a=some { cls:=.type "list",data:=.seq vs.toArray }∧IntsAre vs ns∧ns.length≤n:=by
 have hsh:WShape.hasAll [] args [.list .int]=true:=(pre_splitW hpre).1
 have hc:l.pre.holds [] { args:=args }=true:=(pre_splitW hpre).2
 obtain⟨d,r,rfl,h1,h2⟩:=hasAllW_cons hsh
 obtain rfl:=hasAllW_nil h2
 obtain⟨xs,rfl,h3⟩:=hasW_list h1
 obtain⟨ns,rfl⟩:=items_int h3
 have hlen:ns.length≤n:=by
  unfold OpenLaw.pre at hc
  have h4:(WTm.not (.lt (.lit (.int (n:Int))) (.len (.arg 0)))).holds [] { args:=[.list (ns.map .int)] }=true:=by
   have h4:=(holds_andW hc).1
   rw[hn] at h4
   exact h4
  have h5:=condW_of h4 (w_not (w_lt w_lit (w_len_list (w_arg rfl))))
  rw[List.length_map] at h5
  refine Nat.le_of_not_lt fun q=>?_
  have q':(n:Int)<((ns.length:Nat):Int):=by lia
  first
   | (rw[decide_eq_true q'] at h5;exact absurd h5 (by decide))
   | (simp at h5;lia)
 cases hwl with
 | cons w1 w2 =>
  cases w2
  cases w1 with
  | list ho hall=>exact⟨_,_,ns,rfl,rfl,ho,zec ns _ hall,hlen⟩
theorem zjk (l:OpenLaw) (args:List WData):l.row.toRowW.claim.post args (.bool true) args=true :=
 postW_of (r:=l.row.toRowW) (X:=(true == true))
  (show WShape.has [] (.bool true) .bool=true by first | rfl | decide | simp[WShape.has,WShape.arms,WShape.armsAll])
  (show (WTm.eq .res (.lit (.bool true))).value [] { args:=args,res:=some (.bool true),after:=args }=some (.bool (true == true)) from w_eq_bool (w_res rfl) w_lit) rfl
theorem attach_call {l : OpenLaw}{n : Nat}{q : Program}{loose : List Str}{XP : (Str → Option Value) → Heap → Prop}{YP : World → Heap → Prop}{d : DefRec}
  (hn:l.most=some n) (hdf:d.params.defaults=[])
  (call:∀ (w:World) (s₀ s₁:Shared) (mg mb:Str→Option Value) (fa:Addr) (o:Obj) (pm cd doc:Value) (a:Addr) (vs:List Value) (ns:List Int),
   Ground q loose [] XP w s₀ mg mb s₁.heap→YP w s₁.heap →
   s₁.heap.get? fa=some o→o.data=.func (docDef d.name d.params d.body d.scope pm cd doc)→s₁.heap.CodeRec cd d.name→mg d.name=some (.ref fa) →
   s₁.heap.get? a=some { cls:=.type "list",data:=.seq vs.toArray }→IntsAre vs ns→ns.length≤n→s₁.gens=#[] →
   codeAny (model l.prog w) callerA (.call (.ref fa) ⟨[.ref a],[]⟩) (fun r s'=>r=.ok (.ret (.bool true))∧OldK s₁.heap s'.heap∧s'.os=s₁.os∧AllBare s'.gens) s₁) :
  WalkO q loose XP YP l.row.toRowW d [] (fun f vs=>PySem.call f vs):=by
 intro w s₀ s₁ mg mb G Y fa o pm cd doc dV kV ho hd hcd hD hmg hg args vals as hpre hlay hrd hwl hlo
 obtain rfl:dV=.none:=Dflts.none hD hdf
 obtain rfl:kV=.none:=Dflts.noKw hD
 obtain⟨a,vs,ns,rfl,rfl,hobj,hints,hlen⟩:=zja hn hpre hwl
 refine enter_call (codeAny_mono (call w s₀ s₁ mg mb fa o pm cd doc a vs ns G Y ho (fd_plain hd) hcd hmg hobj hints hlen hg) fun r s' hq=>?_)
 obtain⟨rfl,h2,h3,h4⟩:=hq
 exact⟨.inl ⟨.bool true,.bool true,[],rfl,fun _=>rfl,.bool true,zjk l _,fun _=>⟨List.Pairwise.nil,fun _ hm=>(nomatch hm)⟩⟩,h2,h3,h4⟩
section
variable {prog:Program}{w:World}{A:Around}{E:Value→Shared→Prop}{s:Shared}{K:Frag}
def zmN (h:Heap) (L d:Addr):List (Addr×Obj):=(List.range h.objs.size).filterMap fun a=>if a=L∨a=d then none else (h.get? a).map fun o=>(a,o)
end
end Att
namespace L2
open PySem PySem.Spec PyProof.Rows
theorem zfT:∀ {vs:List Value}{ns:List Int},IntsAre vs ns→Vals (ns.map V.int) vs
 | _,_,.nil=>.nil
 | _,_,.cons n t h=>.cons ⟨t,rfl⟩ (zfT h)
def Only (H:Hp):Prop:=∀ b,H b=none∨∃ o xs,H b=some (.frz o (.lst xs))
theorem zkP {P : Program}{w : World}{K : W.Frag}{mg mb : Str → Option Value}{CX : CXT}{k : Nat}{fa a : Addr}{fd : FuncData}{x : Str}{sp : Sp}{s₁ : Shared}{vs : List Value}{ns : List Int}
    (KX:K.In s₁.heap) (hns:s₁.heap.Ns mainGlobals mg) (hb:s₁.heap.Ns builtinsNs mb) (hbb:∀ x:Str,x ≠ "__name__" → mb x=bootBuiltins x) (hlim:s₁.heap.NoLimit) (hg:s₁.gens=#[])
    (ha:s₁.heap.get? a=some { cls:=.type "list",data:=.seq vs.toArray }) (hi:IntsAre vs ns) (hl:ns.length≤sizeLine) (hr:Room k callerA)
    (F:∀ base:Heap,K.In base→base.Ns mainGlobals mg→FnOk P w K mg base CX k fa fd [x] sp) (hbind:∀ (s:Shared) (u:Value),BindsTo s fd ⟨[u],[]⟩ [(x,u)])
    (hsp:∀ H:Hp,Only H→SqL K H a (ns.map V.int)→sp [.ref a] H (fun v _=>v=.bl true) fun _ _ _=>False)
    (hCX:∀ H e s',CX [] H s₁ (fun _ _ _=>False) e s'→False) :
    codeAny (model P w) callerA (.call (.ref fa) ⟨[.ref a],[]⟩) (fun r s'=>r=.ok (.ret (.bool true))∧OldK s₁.heap s'.heap∧s'.os=s₁.os∧AllBare s'.gens) s₁:=by
  have rv:=zfT hi
  have lenV:=hi.length
  have core : ∀ H : Hp, Only H → SqL K H a (ns.map V.int) → HOk P w H s₁.heap → (∀ b, H b ≠ none → b = a) → (H a ≠ none → K.lookup a = none) →
      codeAny (model P w) callerA (.call (.ref fa) ⟨[.ref a],[]⟩) (fun r s'=>r=.ok (.ret (.bool true))∧OldK s₁.heap s'.heap∧s'.os=s₁.os∧AllBare s'.gens) s₁:=by
    intro H hO hS hok hA hK
    have base_of:∀ {b:Addr} {o:Obj},s₁.heap.get? b=some o→H b=none→(hidT s₁.heap H).get? b=some o:=fun e n=>zkR e n
    have noA:∀ {b:Addr} {o:Obj} {es:Array DictEntry} {ep:Nat},s₁.heap.get? b=some o→o.data=.dict es ep→H b=none:=fun {b o es ep} e d=>by
      cases q:H b with
      | none=>rfl
      | some u =>
        have e':b=a:=hA b (by rw[q];simp)
        subst e'
        rw[ha] at e;cases e
        have d':Data.seq vs.toArray _=Data.dict es ep:=d
        cases d'
    have nsK:∀ {b:Addr} {m:Str→Option Value},s₁.heap.Ns b m→(hidT s₁.heap H).Ns b m:=fun {b m} ⟨o,es,ep,e,d,r⟩=>⟨o,es,ep,base_of e (noA e d),d,r⟩
    have hKb:K.In (hidT s₁.heap H):=fun b o e=>base_of (KX b o e) (by
      cases q:H b with
      | none=>rfl
      | some u =>
        have e':b=a:=hA b (by rw[q];simp)
        subst e'
        rw[hK (by rw[q];simp)] at e;cases e)
    have hM:Mod K mg (hidT s₁.heap H):=⟨hKb,nsK hns,⟨mb,nsK hb,hbb⟩,let ⟨mc,h1,h2⟩:=hlim;⟨mc,nsK h1,h2⟩⟩
    have e0:Env0 P w K mg (hidT s₁.heap H) callerA [] s₁ H:=⟨rfl,hM,fun b o e=>zlR e,Nat.le_of_eq (zjR _ _),trivial,fun b hb=>absurd (show b∈([]:List Addr) from hb) (by simp),hok,.of_eq hg⟩
    refine codeAny_mono ((F _ hKb (nsK hns)).run callerA [] s₁ H ⟨[.ref a],[]⟩ [.ref a] [.ref a] _ _ hr e0 (hbind s₁ (.ref a)) (.cons rfl .nil) (hsp H hO hS)) fun r s' h=>?_
    cases r with
    | error e=>exact (hCX H e s' h).elim
    | ok fl =>
      cases fl with
      | next=>exact False.elim h
      | brk=>exact False.elim h
      | cont=>exact False.elim h
      | ret u =>
        obtain⟨v,H',os,bare,un,hok',r',q⟩:=h
        have q':v=.bl true:=q
        subst q'
        obtain rfl:u=Value.bool true:=r'
        refine⟨rfl,OldK.of_keep fun b o e=>?_,os,bare⟩
        cases q:H b with
        | none=>exact un.keep b o e q (by intro z;exact absurd (show b∈([]:List Addr) from z) (by simp)) (by simp)
        | some u =>
          rcases hO b with z | ⟨ob,xs,z⟩
          · rw[q] at z;cases z
          · have z2:=un.frzs b ob _ z
            obtain⟨e1,_⟩:=hok b _ z
            obtain⟨e2,_⟩:=hok' b _ z2
            rw[e] at e1;cases e1
            exact e2
  cases hk:K.lookup a with
  | some o =>
    have e:=KX a o hk
    rw[ha] at e
    cases e
    refine core (fun _=>none) (fun _=>.inl rfl) (.inr ⟨_,vs.toArray,_,hk,rfl,rfl,rfl,by rw[List.size_toArray,lenV];exact hl,by simpa using rv⟩) (fun b u z=>by have z':(none:Option HO)=some u:=z;cases z') (fun b z=>absurd rfl z) fun z=>absurd rfl z
  | none =>
    refine core (fun b=>if b=a then some (.frz { cls:=.type "list",data:=.seq vs.toArray } (.lst (ns.map V.int))) else none) (fun b=>?_) (.inl (.inr ⟨{ cls:=.type "list",data:=.seq vs.toArray },if_pos rfl⟩)) (fun b u z=>?_) (fun b z=>?_) fun _=>hk
    · by_cases hb:b=a
      · exact .inr ⟨_,_,if_pos hb⟩
      · exact .inl (if_neg hb)
    · by_cases hb:b=a
      · have z':=(if_pos hb).symm.trans z
        cases z'
        subst hb
        exact⟨ha,by rw[List.length_map];exact hl,vs,_,rv,ha⟩
      · have z':=(if_neg hb).symm.trans z
        cases z'
    · by_cases hb:b=a
      · exact hb
      · exact absurd (if_neg hb) z
abbrev KOf {K:W.Frag}{h:Heap}(_:K.In h):W.Frag:=K
theorem walk_of {l : W.OpenLaw}{n k : Nat}{q : Program}{loose : List Str}{XP : (Str → Option Value) → Heap → Prop}{YP : World → Heap → Prop}{d : DefRec}{K : Params → W.Frag}{CX : World → CXT}{sp : World → Sp}{x : Str}
  (hn:l.most=some n) (hn2:n≤sizeLine) (hdf:d.params.defaults=[]) (hr:Room k callerA)
  (hY:∀ (w:World) (h:Heap),YP w h→(K w.params).In h)
  (F:∀ (w:World) (mg:Str→Option Value) (fa:Addr) (h:Heap),(K w.params).In h→h.Ns mainGlobals mg→mg d.name=some (.ref fa) →
   ∃ fd:FuncData,(∀ (s:Shared) (u:Value),BindsTo s fd ⟨[u],[]⟩ [(x,u)]) ∧
    ∀ base:Heap,(K w.params).In base→base.Ns mainGlobals mg→FnOk l.prog w (K w.params) mg base (CX w) k fa fd [x] (sp w))
  (hsp:∀ (w:World) (H:Hp) (a:Addr) (ns:List Int),ns.length≤n→Only H→SqL (K w.params) H a (ns.map V.int)→sp w [.ref a] H (fun v _=>v=.bl true) fun _ _ _=>False)
  (hCX:∀ (w:World) (H:Hp) (s:Shared) (e:Value) (s':Shared),CX w [] H s (fun _ _ _=>False) e s'→False) :
  W.WalkO q loose XP YP l.row.toRowW d [] (fun f vs=>PySem.call f vs):=by
 refine Att.attach_call hn hdf fun w s₀ s₁ mg mb fa o pm cd doc a vs ns G Y ho hd hcd hmg hobj hints hlen hg=>?_
 have KX:=hY w _ Y
 obtain⟨fd,hb,hF⟩:=F w mg fa _ KX G.T.g hmg
 exact zkP KX G.T.g G.T.b G.T.builtins G.T.nolimit hg hobj hints (Nat.le_trans hlen hn2) hr hF hb (fun H hO hS=>hsp w H a ns hlen hO hS) fun H e s'=>hCX w H s₁ e s'
end L2
/- THE LAST THEOREM (shape; LID, My.* are yours):
  My.Adr: a structure of the addresses that your layer names (classes,functions);My.Txt K t: a structure (Prop) of the equations over K;
  My.txt_mk:{K} {implicit addresses ..} (e1:nsIn K mainGlobals "law" = some (some (.ref f))) (e2:K.lookup f=some ⟨oc,od,.func (fnOf "law" "law" params body scope dV kV doc pm an cdv ct),sl⟩) (e3:codeIn K cdv "law" = true) ..:∃ t,My.Txt K t
set_option maxRecDepth 100000 in
set_option maxHeartbeats 0 in
theorem PySem.Challenge.cw_LID_holds : PySem.Challenge.rw_LID.Holds := by
 w_on;o_law;k_head;(case hw=>w_witness2)
 k_fill
 refine L2.walk_of (l:=PySem.Challenge.rw_LID) (n:=63) (k:=40) (x:="script") (CX:=fun w=>..) (sp:=fun _=>My.sp_law) rfl (by decide) rfl ⟨rfl,by decide,by decide⟩ (fun w h Y=>W.kIn_of Y) ?F ?S ?C
 case F =>
  intro w mg fa h KX G hmg
  have T:∃ t,My.Txt (L2.KOf KX) t:=by
   dsimp only[L2.KOf]                          -- K must stand as «<heap const> w.params» for k_is
   refine' My.txt_mk ?e1 ?e2 ?e3 ..
   (case e1=>W.k_is)                    -- in the order: a name -> its address -> its object -> its parts
   (case e2=>W.k_is)
   ..
  obtain⟨t,T⟩:=T
  have e0:=hmg.symm.trans (W.mg_of KX G T.law)
  cases e0                                       -- fa is the law's own address
  exact⟨_,fun s u=>.of_eq rfl,fun base kb nb=>My.law_fn T kb nb⟩     -- if «.of_eq rfl» comes too early: refine' ⟨_,?b,fun base kb nb=>My.law_fn T kb nb⟩;exact fun s u=>.of_eq rfl
 case S=>exact fun w H a ns hl hO hS=>..
 case C=>exact ..
(the tactic k_is has no namespace: write k_is) -/
namespace L2
open PySem PySem.Spec PyProof.Rows
def zal (s:Stmt):Arguments:=match s with
 | .FunctionDef _ a _ _ _ _ _ _ _ _=>a
 | _=>{ posonlyargs:=[],args:=[],vararg:=none,kwonlyargs:=[],kw_defaults:=[],kwarg:=none,defaults:=[] }
def zak (s:Stmt):List Stmt:=match s with
 | .FunctionDef _ _ b _ _ _ _ _ _ _=>b
 | _=>[]
def zab (s:Stmt):Scope:=match s with
 | .FunctionDef _ _ _ _ _ _ sc _ _ _=>sc
 | _=>{ kind:=.function,names:=[],isGenerator:=false,isCoroutine:=false }
abbrev CX0:CXT:=fun _ _ _ _ _ _=>False
abbrev E0:XK:=fun _ _ _=>False
theorem pass0 {X:Cx}:zig CX0 X E0:=fun _ _ _ _ _ _ _ h=>h.elim
structure Fun (K:W.Frag) (x qual:Str) (st:Stmt) (f:Addr) (fd:FuncData):Prop where
 ex:∃ (oc:Value) (od:Option Addr) (kV doc pm:Value) (an:Option Addr) (cdv ct:Value) (osl:Array (Option Value)),
  fd=W.fnOf x qual (zal st) (zak st) (zab st) .none kV doc pm an cdv ct∧K.lookup f=some ⟨oc,od,.func fd,osl⟩∧W.codeIn K cdv qual=true
 kp:W.keepIn K (.ref f)=true
section
variable {P:Program}{w:World}{K:W.Frag}{mg:Str→Option Value}{base:Heap}
theorem Fun.ok {x qual : Str}{st : Stmt}{f : Addr}{fd : FuncData}{N ps : List Str}{k : Nat}{sp : Sp}(F : Fun K x qual st f fd) (S : FnScope N ps (zab st)) (len : ∀ vs H Q E, sp vs H Q E → vs.length = ps.length)
  (hbody:∀ (cdv:Value) (A:Around) (outer:List Env) (s:Shared) (H:Hp) (vs:List V) (Q:VK) (E:XK),Room k (A.deeper (envOfC qual (zab st) s.heap.objs.size f cdv))→sp vs H Q E →
   ∃ t,PSs (cxOf CX0 P w K mg base N qual (zab st) f cdv A outer s H E).nox (zak st) t∧t { nx:=fun _ H'=>Q .non H',rt:=Q } (start N vs) H):FnOk P w K mg base CX0 (k+1) f fd ps sp:=by
 obtain⟨oc,od,kV,doc,pm,an,cdv,ct,osl,rfl,lk,hcd⟩:=F.ex
 refine fn_of lk hcd S len fun A outer s H vs Q E hr hsp=>?_
 obtain⟨t,h,q⟩:=hbody cdv A outer s H vs Q E hr hsp
 exact⟨t,h.nox,q⟩
theorem Fun.binds {x qual : Str}{st : Stmt}{f : Addr}{fd : FuncData}{ps : List Str}(F : Fun K x qual st f fd)
  (h:∀ (kV doc pm:Value) (an:Option Addr) (cdv ct:Value) (us:List Value),us.length=ps.length→bindArgs (W.fnOf x qual (zal st) (zak st) (zab st) .none kV doc pm an cdv ct) ⟨us,[]⟩=pure (ps.zip us)):Binds K fd ps []:=by
 obtain⟨oc,od,kV,doc,pm,an,cdv,ct,osl,rfl,lk,hcd⟩:=F.ex
 exact .all (h kV doc pm an cdv ct)
theorem zar {x qual : Str}{st : Stmt}{f : Addr}{oc : Value}{od an : Option Addr}{osl : Array (Option Value)}{kV doc pm cdv ct : Value}(l : K.lookup f = some ⟨oc, od, .func (W.fnOf x qual (zal st) (zak st) (zab st) .none kV doc pm an cdv ct), osl⟩)
  (c:W.codeIn K cdv qual=true) (k:W.keepIn K (.ref f)=true):Fun K x qual st f (W.fnOf x qual (zal st) (zak st) (zab st) .none kV doc pm an cdv ct):=⟨⟨oc,od,kV,doc,pm,an,cdv,ct,osl,rfl,l,c⟩,k⟩
end
theorem hu_of {A:Around}{k:Nat}(hr:Room k A):A.units+1<cLine:=Nat.lt_of_le_of_lt (Nat.add_le_add_left (by decide:1≤64) _) hr.units
theorem zav {n:Nat}(h:n≤1000):n<sizeLine:=Nat.lt_of_le_of_lt h (by decide)
section
variable {X:Cx}
theorem pv (i : Nat){x : Str}{pos : Pos}(hN : X.N[i]? = some x := by rfl) (hv : Vis X.env.scope x := by first | exact Or.inl rfl | exact Or.inr (Or.inl rfl) | exact Or.inr (Or.inr rfl)) (hd : (x == ("__debug__" : Str)) = false := by decide)
  (hcd:(x == ("__classdict__" : Str))=false:=by decide):PE X (.Name x pos) (tVar i):=zmm hN hv hd hcd
end
theorem iteF {A B:Prop}(h:B):if false=true then A else B:=by
 rw[if_neg Bool.false_ne_true]
 exact h
theorem iteT {A B:Prop}(h:A):if true=true then A else B:=by
 rw[if_pos rfl]
 exact h
theorem ite2 {c A B:Prop} [Decidable c] (h1:c→A) (h2:¬ c→B):if c then A else B:=by
 by_cases h:c
 ·rw[if_pos h]
  exact h1 h
 ·rw[if_neg h]
  exact h2 h
def Same (H H':Hp):Prop:=∀ b o,H b=some o→H' b=some o
theorem Same.refl (H:Hp):Same H H:=fun _ _ h=>h
theorem Same.trans {H H1 H2:Hp}(a:Same H H1) (b:Same H1 H2):Same H H2:=fun c o h=>b c o (a c o h)
theorem Same.free {H H':Hp}(e:Same H H'){l:Addr}(h:H' l=Option.none):H l=Option.none:=by
 cases q:H l with
 | none=>rfl
 | some o =>
  rw[e l o q] at h
  cases h
theorem Same.seq {K:W.Frag}{H H':Hp}{a:Addr}{xs:List V}(e:Same H H') (h:SqL K H a xs):SqL K H' a xs:=by
 rcases h with (h | ⟨o,h⟩) | h
 ·exact .inl (.inl (e _ _ h))
 ·exact .inl (.inr ⟨o,e _ _ h⟩)
 ·exact .inr h
section
variable {κ:Type} [DecidableEq κ]
end
end L2
set_option maxHeartbeats 4000000
namespace L2
open PySem PySem.Spec PyProof.Rows
def zcq (J:It) (g:TG) (tb:TS):TS:=fun D σ H=>∃ W:Nat→Nat→St→Hp→Prop,(∃ m,W 0 m σ H)∧∀ i m σ H,W i m σ H →
 (J.stop i H∧D.nx σ H)∨(J.go i H∧∃ N:St→Hp→Prop,(∀ σ' H',N σ' H'→∃ m',m'<m∧W (i+1) m' σ' H')∧∀ x H',J.yld i H x H'→g x σ H' fun σ2 H2=>tb { D with nx:=N,ct:=N,bk:=D.nx } σ2 H2)
def PTs (X:Cx) (ifs:List Expr) (t:TT):Prop :=
 ∀ (pins:List (Addr×Obj)) (s:Shared) (σ:St) (H:Hp) (Q:Bool→Hp→Prop),Inv X pins σ H s→t σ H Q →
  wpAny (model X.prog X.w) X.A (forIn ifs true fun c r=>if r=true then do let ok ← isTrue c X.env (eval c X.env);pure (ForInStep.yield ok) else pure (ForInStep.yield r)) (TP X pins σ Q) X.xe s
theorem zb9 {X:Cx}:PTs X [] (fun _ H Q=>Q true H):=fun pins s σ H Q I h=>wpAny_pure ⟨H,I,h⟩
theorem zcI {X:Cx}{c:Expr}{t:TT}(hc:PT X c t):PTs X [c] t:=fun pins s σ H Q I h=>wpAny_tests_one (hc pins s σ H Q I h)
def PB (X:Cx) (inner:Sem Unit) (t:TS):Prop :=
 ∀ (pins:List (Addr×Obj)) (s:Shared) (σ:St) (H:Hp) (D:Ends),Inv X pins σ H s→t D σ H→wpAny (model X.prog X.w) X.A inner (fun _ s'=>∃ σ' H',Inv X pins σ' H' s'∧D.nx σ' H') X.xe s
def tIfs (tt:TT) (tb:TS):TS:=fun D σ H=>tt σ H fun b H1=>if b=true then tb D σ H1 else D.nx σ H1
theorem zdg {X : Cx}{e tg : Expr}{d : Nat}{ifs : List Expr}{p : Pos}{acc : Value}{inner : Sem Unit}{g : TG}{tt : TT}{tb : TS}{it : Addr}{fp : List Addr}{tn : Nat → Heap → Prop}{J : It}
  {pins:List (Addr×Obj)} {s:Shared} {σ:St} {H:Hp} {D:Ends} {R:Result→Shared→Prop}
  (hq:(Code.compLoop e d (.ref it) acc X.env).quiet=true)
  (hden:(model X.prog X.w).den (.compLoop e d (.ref it) acc X.env)=(compTurn e d (.ref it) acc X.env).onRaise (fun x=>do noteFrame x X.env;theTreesLotGoes x))
  (hT:compTurn e d (.ref it) acc X.env=(do
   standAt p
   match ← pyNext (.ref it) with
   | none=>pure (.done .next)
   | some v =>
    letOwnedTupleGo tg (.ref it) v
    assign tg X.env v
    let mut ok:=true
    for c in ifs do
     if ok then ok ← isTrue c X.env (eval c X.env)
    if ok then
     inner
    again (.compLoop e d (.ref it) acc X.env)))
  (hA:∀ (B:Around) {α:Type} {t:Sem α} {Q:α→Shared→Prop} {E:Value→Shared→Prop} {s:Shared},B=X.A.under (.compLoop e d (.ref it) acc X.env)→wpAny (model X.prog X.w) X.A t Q E s→wpAny (model X.prog X.w) B t Q E s)
  (hc:X.calm=true) (hx:X.xe=fun _ _=>False) (hg:PG X tg g) (ht:PTs X ifs tt) (hb:PB X inner tb)
  (I:Inv X pins σ H s) (T:Turn X.prog X.w X.K tg J fp it tn) (st:tn 0 s.heap) (f:∀ b∈fp,FpOk X pins H b) (W:zcq J g (tIfs tt tb) D σ H)
  (hR:∀ fl s',(∃ σ' H',Inv X pins σ' H' s'∧(∀ b∈fp,H' b=none)∧D.nx σ' H')→R (.ok fl) s') :
  codeAny (model X.prog X.w) X.A (.compLoop e d (.ref it) acc X.env) R s:=by
 obtain⟨W,⟨m0,w0⟩,turn⟩:=W
 have stat:∀ {H':Hp},(∀ b∈fp,H' b=none)→∀ b∈fp,FpOk X pins H' b:=fun hn b hb=>⟨hn b hb,(f b hb).2⟩
 refine codeAny_loop hq (fun n s'=>∃ i σ' H',Inv X pins σ' H' s'∧tn i s'.heap∧(∀ b∈fp,H' b=none)∧W i n σ' H') ?_ m0 ⟨0,σ,H,I,st,fun b hb=>(f b hb).1,w0⟩
 rintro n s3 ⟨i,σ3,H3,I3,st3,fr3,w3⟩
 refine hA _ rfl ?_
 rw[hden]
 refine wpAny_noted (wpAny_noRaise ?_)
 rw[hT]
 refine wpAny_bind (wpAny_standAt ?_)
 have nx:∀ {α:Type} {t:Sem α} {Q:α→Shared→Prop} {s:Shared},wpAny (model X.prog X.w) X.A t Q X.xe s→wpAny (model X.prog X.w) X.A t Q (fun _ _=>False) s:=fun {α t Q s} h=>by
  rw[hx] at h
  exact h
 rcases turn i n σ3 H3 w3 with⟨stop,qn⟩ | ⟨go,N,hN,step⟩
 ·refine wpAny_bind (thn (T.done X rfl rfl rfl hc i pins s3 σ3 H3 _ I3 (stat fr3) st3 stop) fun r s4 ⟨hr,I4⟩=>?_)
  subst hr
  exact wpAny_pure (hR _ _ ⟨σ3,H3,I4,fr3,qn⟩)
 ·refine wpAny_bind (thn (T.item X rfl rfl rfl hc i pins s3 σ3 H3 _ I3 (stat fr3) st3 go) fun r s4 ⟨u,hr,h4⟩=>?_)
  subst hr
  refine wpAny_bind (thn h4 fun _ s5 ⟨x,H5,I5,r5,y5,st5,fr5⟩=>?_)
  have I5':=I5.pinned (stat fr5) (T.obj _ _ st5)
  have again:∀ {σ7:St} {H7:Hp} {s7:Shared},Inv X (pins++zdz fp s5.heap) σ7 H7 s7→N σ7 H7→∃ m,m<n∧∃ i σ' H',Inv X pins σ' H' s7∧tn i s7.heap∧(∀ b∈fp,H' b=none)∧W i m σ' H':=fun {σ7 H7 s7} I7 n7=>by
   obtain⟨m',hm,w7⟩:=hN σ7 H7 n7
   refine⟨m',hm,i+1,σ7,H7,I7.unpinned,T.keep _ _ _ st5 fun b hb o e=>(I7.pin (b,o) (List.mem_append_right _ (List.mem_append_right _ (zbl hb e)))).1,fun b hb=>?_,w7⟩
   obtain⟨o,e,d⟩:=T.obj _ _ st5 b hb
   exact (I7.pin (b,o) (List.mem_append_right _ (List.mem_append_right _ (zbl hb e)))).2.1
  refine wpAny_bind (thn (nx (hg _ s5 σ3 H5 x u _ I5' r5 (step x H5 y5))) fun _ s6 ⟨σ6,H6,I6,q6⟩=>?_)
  refine wpAny_bind (thn (nx (ht _ s6 σ6 H6 _ I6 q6)) fun ok s7 ⟨H7,I7,q7⟩=>?_)
  cases ok with
  | false =>
   exact wpAny_pure ⟨rfl,again I7 q7⟩
  | true =>
   refine wpAny_bind (thn (nx (hb _ s7 σ6 H7 _ I7 q7)) fun _ s8 ⟨σ8,H8,I8,q8⟩=>?_)
   exact wpAny_pure ⟨rfl,again I8 q8⟩
abbrev blk (X:Cx) (sc:Scope) (cl:List (Str×Addr)) (C:Addr) (N':List Str) (s0:Shared) (H0:Hp) (ex:List Addr):Cx :=
 { X with N:=N',s₀:=s0,H₀:=H0,env:=compEnvC sc cl C X.env,outer:=X.stack,stack:=X.stack,ex:=ex,fn:=fun _=>false,pn:=[],xe:=fun _ _=>False }
structure BlkOk (osc:Scope) (N:List Str) (sc:Scope) (N':List Str) (sel:List (Option Nat)):Prop where
 kind:sc.kind=.function
 nocell:∀ y∈sc.names,y.2≠.cell
 names:∀ y∈sc.names,y.2=.local→sc.names.lookup y.1=some .local
 free:∀ y∈sc.names,y.2=.free→osc.names.lookup y.1=some .cell∨osc.names.lookup y.1=some .free
 len:sel.length=N'.length
 sel:∀ p∈sel.zip N',∀ i∈p.1,N[i]?=some p.2∧sc.names.lookup p.2=some .free
def selSt (sel:List (Option Nat)) (σ:St):St:=sel.map fun o=>o.bind fun i=>(σ[i]?).join
theorem zc3 {env : Env} : ∀ (names : List (Str × NameKind)) (acc : List (Str × Addr)), (∀ y ∈ names, y.2 = .free → ∃ c, env.cells.lookup y.1 = some c) →
  ∃ cl,(forIn names acc fun (x:Str×NameKind) (r:List (Str×Addr))=>(if (x.2 == .free)=true then do let c ← cellOf env x.1;pure (ForInStep.yield ((x.1,c)::r)) else pure (ForInStep.yield r):Sem (ForInStep (List (Str×Addr)))))=pure cl ∧
   (∀ x c,cl.lookup x=some c→acc.lookup x=some c∨(env.cells.lookup x=some c∧(x,NameKind.free)∈names))∧(∀ y∈names,y.2=.free→∃ c,cl.lookup y.1=some c)∧(∀ x c,acc.lookup x=some c→∃ c',cl.lookup x=some c')
 | [],acc,_=>⟨acc,rfl,fun _ _ h=>.inl h,(fun _ h=>nomatch h),fun x c h=>⟨c,h⟩⟩
 | (n,k)::r,acc,h=>by
  by_cases hk:k=.free
  ·subst hk
   obtain⟨c,hc⟩:=h (n,.free) List.mem_cons_self rfl
   obtain⟨cl,e,h1,h2,h3⟩:=zc3 r ((n,c)::acc) fun y hy=>h y (List.mem_cons_of_mem _ hy)
   refine⟨cl,?_,fun x c' hx=>?_,fun y hy hf=>?_,fun x c' hx=>?_⟩
   ·rw[List.forIn_cons]
    have e1:cellOf env n=pure c:=by unfold cellOf;rw[hc]
    simp only[beq_self_eq_true,if_true,e1,pure_bind]
    exact e
   ·rcases h1 x c' hx with q | ⟨q,m⟩
    ·by_cases hn:x=n
     ·subst hn
      rw[List.lookup_cons,beq_self_eq_true] at q
      cases q
      exact .inr ⟨hc,List.mem_cons_self⟩
     ·have hb:(x == n)=false:=by simpa using hn
      rw[List.lookup_cons,hb] at q
      exact .inl q
    ·exact .inr ⟨q,List.mem_cons_of_mem _ m⟩
   ·rcases List.mem_cons.mp hy with z | z
    ·subst z
     exact h3 n c (by rw[List.lookup_cons,beq_self_eq_true])
    ·exact h2 y z hf
   ·by_cases hn:x=n
    ·subst hn;exact h3 x c (by rw[List.lookup_cons,beq_self_eq_true])
    ·have hb:(x == n)=false:=by simpa using hn
     exact h3 x c' (by rw[List.lookup_cons,hb];exact hx)
  ·obtain⟨cl,e,h1,h2,h3⟩:=zc3 r acc fun y hy=>h y (List.mem_cons_of_mem _ hy)
   refine⟨cl,?_,fun x c' hx=>?_,fun y hy hf=>?_,h3⟩
   ·rw[List.forIn_cons]
    have hb:(k == NameKind.free)=false:=by simpa using hk
    simp only[hb,Bool.false_eq_true,if_false,pure_bind]
    exact e
   ·rcases h1 x c' hx with q | ⟨q,m⟩
    ·exact .inl q
    ·exact .inr ⟨q,List.mem_cons_of_mem _ m⟩
   ·rcases List.mem_cons.mp hy with z | z
    ·subst z;exact absurd hf hk
    ·exact h2 y z hf
structure Clo (env:Env) (sc:Scope) (cl:List (Str×Addr)):Prop where
 run:closureFor sc env=pure cl
 old:∀ x c,cl.lookup x=some c→env.cells.lookup x=some c∧(x,NameKind.free)∈sc.names
 has:∀ y∈sc.names,y.2=.free→∃ c,cl.lookup y.1=some c
theorem zjZ {X:Cx}{osc:Scope}{N:List Str}{sc:Scope}{N':List Str}{sel:List (Option Nat)}(ok:X.Ok) (B:BlkOk osc N sc N' sel) (ho:X.env.scope=osc):∃ cl,Clo X.env sc cl:=by
 have hc:∀ y∈sc.names,y.2=.free→∃ c,X.env.cells.lookup y.1=some c:=fun y hy hf=>ok.has y.1 (by
  show X.env.scope.names.lookup y.1=_∨X.env.scope.names.lookup y.1=_
  rw[ho];exact B.free y hy hf)
 obtain⟨cl,e,h1,h2,_⟩:=zc3 (env:=X.env) sc.names [] hc
 refine⟨cl,?_,fun x c h=>?_,h2⟩
 ·unfold closureFor
  have e':=e
  show (do let r ← forIn sc.names [] _;pure r)=_
  simp only[bind_pure]
  exact e'
 ·rcases h1 x c h with q | q
  ·cases q
  ·exact q
theorem zcp {env : Env} : ∀ {names : List (Str × NameKind)}{x : Str}{k : NameKind}, (names.map fun (n, k) => if (k == NameKind.free && env.scope.kind == .function && env.kindOf n == some .cell) then (n, NameKind.cell) else (n, k)).lookup x = some k →
  ∃ k',(x,k')∈names∧(k=k'∨(k=.cell∧k'=.free))
 | [],x,k,h=>nomatch h
 | (n,j)::r,x,k,h=>by
  have ih:=@zcp env r x k
  have h:List.lookup x ((if (j == NameKind.free && env.scope.kind == .function && env.kindOf n == some .cell)=true then (n,NameKind.cell) else (n,j))::_)=some k:=h
  by_cases hx:x=n
  ·subst hx
   by_cases hc:(j == NameKind.free && env.scope.kind == .function && env.kindOf x == some .cell)=true
   ·rw[if_pos hc,List.lookup_cons,beq_self_eq_true] at h
    cases h
    refine⟨j,List.mem_cons_self,.inr ⟨rfl,?_⟩⟩
    simp only[Bool.and_eq_true,beq_iff_eq] at hc
    exact hc.1.1
   ·rw[if_neg hc,List.lookup_cons,beq_self_eq_true] at h
    cases h
    exact⟨j,List.mem_cons_self,.inl rfl⟩
  ·have hb:(x == n)=false:=by simpa using hx
   have h':List.lookup x (r.map fun (n,k)=>if (k == NameKind.free && env.scope.kind == .function && env.kindOf n == some .cell) then (n,NameKind.cell) else (n,k))=some k:=by
    by_cases hc:(j == NameKind.free && env.scope.kind == .function && env.kindOf n == some .cell)=true
    ·rw[if_pos hc,List.lookup_cons,hb] at h;exact h
    ·rw[if_neg hc,List.lookup_cons,hb] at h;exact h
   obtain⟨k',m,e⟩:=ih h'
   exact⟨k',List.mem_cons_of_mem _ m,e⟩
theorem zcl {env : Env} : ∀ {names : List (Str × NameKind)}{x : Str}, names.lookup x = some .free →
  (names.map fun (n,k)=>if (k == NameKind.free && env.scope.kind == .function && env.kindOf n == some .cell) then (n,NameKind.cell) else (n,k)).lookup x=some .cell ∨
  (names.map fun (n,k)=>if (k == NameKind.free && env.scope.kind == .function && env.kindOf n == some .cell) then (n,NameKind.cell) else (n,k)).lookup x=some .free
 | [],x,h=>nomatch h
 | (n,j)::r,x,h=>by
  have ih:=@zcl env r x
  rw[List.lookup_cons] at h
  show List.lookup x ((if (j == NameKind.free && env.scope.kind == .function && env.kindOf n == some .cell)=true then (n,NameKind.cell) else (n,j))::_)=_∨List.lookup x ((if (j == NameKind.free && env.scope.kind == .function && env.kindOf n == some .cell)=true then (n,NameKind.cell) else (n,j))::_)=_
  cases hx:x == n with
  | true =>
   rw[hx] at h
   cases h
   by_cases hc:(NameKind.free == NameKind.free && env.scope.kind == .function && env.kindOf n == some .cell)=true
   ·rw[if_pos hc,List.lookup_cons,hx];exact .inl rfl
   ·rw[if_neg hc,List.lookup_cons,hx];exact .inr rfl
  | false =>
   rw[hx] at h
   by_cases hc:(j == NameKind.free && env.scope.kind == .function && env.kindOf n == some .cell)=true
   ·rw[if_pos hc,List.lookup_cons,hx];exact ih h
   ·rw[if_neg hc,List.lookup_cons,hx];exact ih h
section
variable {X:Cx}{osc:Scope}{N:List Str}{sc:Scope}{N':List Str}{sel:List (Option Nat)}{cl:List (Str×Addr)}{pins:List (Addr×Obj)}{σ:St}{H:Hp}{s:Shared}{fp:List Addr}
theorem zlX {h' : Heap}{ob : Obj}{tk : Nat}(B : BlkOk osc N sc N' sel) (ho : X.env.scope = osc) (hN : X.N = N) (Cl : Clo X.env sc cl) (I : Inv X pins σ H s)
    (f:∀ b∈fp,FpOk X pins H b) (fo:∀ b∈fp,∃ o,s.heap.get? b=some o) (hns:h'.Ns s.heap.objs.size (fun _=>none)) (hsb:Heap.SameBut s.heap.objs.size (s.heap.push ob) h') :
    Inv (blk X sc cl s.heap.objs.size N' s H fp) [] (selSt sel σ) H { s with heap:=h',toks:=tk }:=by
  have old:∀ b o,s.heap.get? b=some o→h'.get? b=some o:=fun b o e=>(hsb.2 b (Nat.ne_of_lt (Heap.lt_size e))).trans (Heap.get?_push_of_some _ e)
  have bel:∀ b∈fp,b<s.heap.objs.size:=fun b hb=>by
    obtain⟨o,e⟩:=fo b hb
    exact Heap.lt_size e
  have kk:∀ x,(compEnvC sc cl s.heap.objs.size X.env).kindOf x=some .cell∨(compEnvC sc cl s.heap.objs.size X.env).kindOf x=some .free→(x,NameKind.free)∈sc.names:=fun x hx=>by
    rcases hx with hx | hx
    · obtain⟨k',m,e⟩:=zcp hx
      rcases e with e | ⟨_,e⟩
      · subst e;exact absurd rfl (B.nocell _ m)
      · subst e;exact m
    · obtain⟨k',m,e⟩:=zcp hx
      rcases e with e | ⟨e,_⟩
      · subst e;exact m
      · cases e
  refine⟨⟨I.mod, B.kind, I.ok.glob, I.ok.blt, Nat.le_refl _, fun x y c e1 e2 => I.ok.inj x y c (Cl.old x c e1).1 (Cl.old y c e2).1, fun x hx => Cl.has _ (kk x hx) rfl, fun x c z => absurd z (by intro q; cases q), I.ok.hd, I.ok.frames, .inl rfl,
      fun b hb=>⟨Nat.ne_of_lt (bel b hb),fun x c e=>(f b hb).2.2.2.2.1 x c (Cl.old x c e).1⟩,I.bs,Nat.le_trans I.ok.bsz I.sz,fun b o e hb=>?_,fun b hb hs=>?_,I.stack,I.stkFree⟩,
    rfl,I.bare,Un.kept old,⟨_,hns,fun j x v e1 e2 e3=>?_⟩,fun x c e=>?_,I.hok.fresh (Nat.le_refl _),fun x c e=>I.freeC x c (Cl.old x c e).1,fun p hp=>absurd (show p∈([]:List (Addr×Obj)) from hp) (by simp),I.hok.kept old,?_⟩
  · rcases (f b hb).2.2.2.1 with z | z
    · exact I.ok.noex b o e z
    · exact absurd (Nat.lt_of_lt_of_le (Heap.lt_size e) (Nat.le_trans I.ok.bsz z)) (Nat.lt_irrefl _)
  · obtain⟨_,f1,f2,_⟩:=f b hb
    rcases List.mem_cons.mp (I.stkSub b hs) with z | z
    · exact f1 z
    · exact f2 z
  · have e2' : ((sel[j]?).map fun o => o.bind fun i => (σ[i]?).join) = some (some v) := by
      have:=e2
      unfold selSt at this
      rw[List.getElem?_map] at this
      exact this
    cases hj:sel[j]? with
    | none=>rw[hj] at e2';cases e2'
    | some o =>
      rw[hj] at e2'
      cases o with
      | none=>cases e2'
      | some i =>
        have e4:(σ[i]?).join=some v:=Option.some.inj e2'
        have e5:σ[i]?=some (some v):=by
          cases q:σ[i]? with
          | none=>rw[q] at e4;cases e4
          | some z=>rw[q] at e4;exact congrArg some e4
        have hz:(some i,x)∈sel.zip N':=by
          refine List.mem_of_getElem? (i:=j) ?_
          rw[List.getElem?_zip_eq_some]
          exact⟨hj,e1⟩
        obtain⟨g1,g2⟩:=B.sel _ hz i rfl
        obtain⟨m,hn,hl⟩:=I.loc
        have m2:(x,NameKind.free)∈sc.names:=PySem.mem_of_lookup g2
        have k2:X.env.kindOf x=some .cell∨X.env.kindOf x=some .free:=by
          show X.env.scope.names.lookup x=_∨X.env.scope.names.lookup x=_
          rw[ho];exact B.free _ m2 rfl
        have v2:Vis X.env.scope x:=by
          rcases k2 with z | z
          · exact .inr (.inl z)
          · exact .inr (.inr z)
        obtain⟨u,r,l⟩:=hl i x v (by rw[hN];exact g1) e5 v2
        refine⟨u,r,?_⟩
        rcases l with⟨l,_⟩ | ⟨_,c,e6,hc⟩
        · rcases k2 with z | z <;> (rw[l] at z;cases z)
        · obtain⟨c',hc'⟩:=Cl.has _ m2 rfl
          have e7:=(Cl.old x c' hc').1
          rw[e6] at e7
          cases e7
          exact .inr ⟨zcl g2,c,hc',hc.keeps old⟩
  · obtain⟨v,hc⟩:=I.cell x c (Cl.old x c e).1
    exact⟨v,hc.keeps old⟩
  · show (selSt sel σ).length=N'.length
    unfold selSt
    rw[List.length_map,B.len]
theorem zl2 {C:Addr}{H':Hp}{σ':St}{s':Shared}(I:Inv X pins σ H s) (f:∀ b∈fp,FpOk X pins H b) (I':Inv (blk X sc cl C N' s H fp) [] σ' H' s'):Inv X pins σ H' s' :=
 I.call' (ch:=fp) I'.os I'.base I'.hok I'.bare fun b hb=>by
  obtain⟨_,f1,_,f3,f4,f5⟩:=f b hb
  exact⟨f3,f1,f4,f5⟩
end
section
variable {X:Cx}
def zcC (p:Addr) (te:TE):TS:=fun D σ H=>te σ H fun v H1=>∃ xs,H1 p=some (.lst xs)∧xs.length<sizeLine∧D.nx σ (upd H1 p (.lst (xs++[v])))
theorem zjt {p:Addr}{elt:Expr}{te:TE}(he:PE X elt te):PB X (do let _ ← call (.builtin "list.append") [.ref p,← eval elt X.env]) (zcC p te):=by
 intro pins s σ H D I h
 refine wpAny_bind (thn (he pins s σ H _ I h) fun v s1 ⟨x,H1,I1,r1,xs,e1,hl,q⟩=>?_)
 refine wpAny_bind (thn (zbX pins s1 σ H1 (.ref p) [x] (.ref p) [v] (fun z H2=>D.nx σ H2) I1 rfl (.cons r1 .nil) ⟨p,xs,x,rfl,rfl,e1,hl,q⟩) fun u s2 ⟨z,H2,I2,_,q2⟩=>?_)
 exact wpAny_pure ⟨σ,H2,I2,q2⟩
def zhx (p:Addr) (tk tv:TE):TS:=fun D σ H=>tk σ H fun y H1=>tv σ H1 fun v H2=>∃ H3,DPut H2 p y v H3∧D.nx σ H3
theorem d_set {pins : List (Addr × Obj)}{σ : St}{H H' : Hp}{s : Shared}{a : Addr}{y v : V}{u r : Value}{A : Around}{E : Value → Shared → Prop}{Q : Unit → Shared → Prop}(hu : A.units + 1 < cLine) (I : Inv X pins σ H s) (g : DPut H a y v H') (ry : RelV y u) (rv : RelV v r) (h : ∀ s', Inv X pins σ H' s' → Q () s') :
  wpAny (model X.prog X.w) A (dictSet a u r) Q E s:=by
 rcases g with⟨kvs,k,e,ey,l,eH⟩ | ⟨kvs,k,b,e,ey,eb,l,eH⟩
 ·subst ey eH
  obtain⟨z,hd,vs,rel,dd⟩:=dk_of I.hok e
  have hz:vs.length≤sizeLine:=by rw[← rel.length];exact z
  have hl:(putK kvs k v).length≤sizeLine:=by have:=zby kvs k v;lia
  refine wpAny_dictSet_pairs (hsz:=hz) (kV_is ry) dd fun h' dd' hs=>h _ ?_
  have he:∃ q,h'.get? a=some q:=let ⟨q,_,_,hq,_⟩:=dd';⟨q,hq⟩
  exact zei I (by rw[e];exact True.intro) hs he (zlq hl hd (rel.put k rv) dd')
 ·subst ey eH
  cases (show u=Value.ref b from ry)
  obtain⟨z,hd,xs,rel,dd⟩:=dt_of I.hok e
  have hz:xs.length≤sizeLine:=by rw[← Paired.length rel];exact z
  have hl:(putK kvs k v).length≤sizeLine:=by have:=zby kvs k v;lia
  have hr:(tupleKind (zaS X.prog X.w)).room A:=by
   show A.units<cLine
   lia
  refine wpAny_dictSet_heap (hsz:=hz) hr (zeS I.hok eb) dd fun h' dd' hs=>h _ ?_
  obtain⟨q,es,ep,hq,h2,h3,h4,_,h5⟩:=dd'
  refine zei I (by rw[e];exact True.intro) hs ⟨q,hq⟩ ⟨hl,hd,_,(rel.put k eb rv).keeps fun c ys ec=>?_,q,es,ep,hq,h2,h3,h4,h5⟩
  rw[zam (ne_of ec e (fun z=>nomatch z))]
  exact ec
theorem zlP {p : Addr}{kx vx : Expr}{tk tv : TE}(hu : X.A.units + 1 < cLine) (hk : PE X kx tk) (hv : PE X vx tv) :
    PB X (do
        let kv ← eval kx X.env
        let vv ← holding [kv] (eval vx X.env)
        match Value.ref p with
        | .ref d=>do
          standAt { kx.pos with endLine:=vx.pos.endLine,endCol:=vx.pos.endCol }
          holding [kv,vv] (dictSet d kv vv)
        | _=>unsupported "internal:dictcomp") (zhx p tk tv):=by
  intro pins s σ H D I h
  refine wpAny_bind (thn (hk pins s σ H _ I h) fun kv s1 ⟨y,H1,I1,r1,q1⟩=>?_)
  refine wpAny_bind (wpAny_holding (thn (hv pins s1 σ H1 _ I1 q1) fun vv s2 ⟨v,H2,I2,r2,H3,g,q⟩=>?_))
  refine wpAny_bind (wpAny_standAt (wpAny_holding (d_set hu I2 g r1 r2 fun s3 I3=>⟨σ,H3,I3,q⟩)))
end
section
variable {X:Cx}{osc:Scope}{N:List Str}{sc:Scope}{N':List Str}{sel:List (Option Nat)}{pos:Pos}{elt kx vx tg iter:Expr}{ifs:List Expr}{wi:TI}{g:TG}{tt:TT}{te tk tv:TE}
def InBlk (X:Cx) (sc:Scope) (N':List Str) (P:Cx→Prop):Prop:=∀ cl C s0 H0 ex,P (blk X sc cl C N' s0 H0 ex)
theorem zek {e : Expr}{inner : Env → Addr → Sem Unit}{tb : Addr → TS}{use : Option (Value → Sem Unit)}{pins : List (Addr × Obj)}{s : Shared}{σ : St}{H : Hp}{J : It}{it : Addr}{fp : List Addr}{tn : Nat → Heap → Prop}{o0 : HO}{ob : Obj}
    {D:Addr→Ends} {Q:Value→Shared→Prop}
    (B:BlkOk osc N sc N' sel) (ho:X.env.scope=osc) (hN:X.N=N) (hc:X.calm=true)
    (hstart:∀ (acc:Value) (env:Env) (R:Result→Shared→Prop) (s:Shared),codeAny (model X.prog X.w) X.A (.compLoop e 0 (.ref it) acc env) R s→wpAny (model X.prog X.w) X.A (pyIter (.ref it)) (fun it' s'=>codeAny (model X.prog X.w) X.A (.compLoop e 0 it' acc env) R s') (notedBy (model X.prog X.w) X.A env fun x s'=>R (.error x) s') s→codeAny (model X.prog X.w) X.A (.compStart e 0 (.ref it) acc env) R s)
    (hloop:∀ cl C s0 H0 ex p pins s σ H Dn R,Inv (blk X sc cl C N' s0 H0 ex) pins σ H s→tn 0 s.heap→(∀ b∈fp,FpOk (blk X sc cl C N' s0 H0 ex) pins H b)→zcq J g (tIfs tt (tb p)) Dn σ H →
      (∀ fl s',(∃ σ' H',Inv (blk X sc cl C N' s0 H0 ex) pins σ' H' s'∧(∀ b∈fp,H' b=none)∧Dn.nx σ' H')→R (.ok fl) s')→codeAny (model X.prog X.w) X.A (.compLoop e 0 (.ref it) (.ref p) (compEnvC sc cl C X.env)) R s)
    (I:Inv X pins σ H s) (T:Turn X.prog X.w X.K tg J fp it tn) (st:tn 0 s.heap) (f:∀ b∈fp,FpOk X pins H b)
    (hnew:ObjOk X.prog X.w (upd H s.heap.objs.size o0) (s.heap.push ob) s.heap.objs.size o0) (hfree:ob.isFreed=false)
    (h:zcq J g (tIfs tt (tb s.heap.objs.size)) (D s.heap.objs.size) (selSt sel σ) (upd H s.heap.objs.size o0))
    (hend:∀ C H' s',Inv X pins σ H' s'→FpOk X pins H' C→(∃ m,s'.heap.Ns C m)→(∃ σ',(D s.heap.objs.size).nx σ' H')→compPost (model X.prog X.w) X.A X.xe use Q (.ref s.heap.objs.size) C (.ok .next) s') (tk:Nat)
    (cl:List (Str×Addr)) (Cl:Clo X.env sc cl) (E:Value→Shared→Prop) :
    wpAny (model X.prog X.w) X.A (newFunctionEnv sc X.env.globals cl [] X.env.qual none .none (some X.env)) (fun cenv s₄ =>
        codeAny (model X.prog X.w) X.A (.compStart e 0 (.ref it) (.ref s.heap.objs.size) { cenv with scope:=relabel sc X.env }) (compPost (model X.prog X.w) X.A X.xe use Q (.ref s.heap.objs.size) cenv.locals) s₄) E { s with heap:=s.heap.push ob,toks:=tk }:=by
  have grow:∀ b o,s.heap.get? b=some o→(s.heap.push ob).get? b=some o:=fun _ _ q=>Heap.get?_push_of_some _ q
  have I1:Inv X pins σ (upd H s.heap.objs.size o0) { s with heap:=s.heap.push ob,toks:=tk }:=I.laid grow (Nat.le_refl _) hnew
  have bel:∀ b∈fp,∃ o,s.heap.get? b=some o:=fun b hb=>let ⟨o,e,_⟩:=T.obj _ _ st b hb;⟨o,e⟩
  have f1:∀ b∈fp,FpOk X pins (upd H s.heap.objs.size o0) b:=fun b hb=>by
    obtain⟨o,e⟩:=bel b hb
    refine⟨?_,(f b hb).2⟩
    rw[zam (Nat.ne_of_lt (Heap.lt_size e))]
    exact (f b hb).1
  refine wpAny_newFunctionEnv (s:={ s with heap:=s.heap.push ob,toks:=tk }) B.nocell (by intro x hx;cases hx) (fun h1 hns hsb=>?_) B.kind
  have I2:=zlX (tk:=tk) B ho hN Cl I1 f1 (fun b hb=>let ⟨o,e⟩:=bel b hb;⟨o,grow b o e⟩) hns hsb
  have old:∀ b o,s.heap.get? b=some o→h1.get? b=some o:=fun b o e=>(hsb.2 b (Nat.ne_of_lt (Heap.lt_size (grow b o e)))).trans (Heap.get?_push_of_some _ (grow b o e))
  have st1:tn 0 h1:=T.keep _ _ _ st fun b _ o e=>old b o e
  have f2:∀ b∈fp,FpOk (blk X sc cl (s.heap.push ob).objs.size N' { s with heap:=s.heap.push ob,toks:=tk } (upd H s.heap.objs.size o0) fp) [] (upd H s.heap.objs.size o0) b:=fun b hb=>by
    obtain⟨g0,g1,g2,g3,g4,g5⟩:=f1 b hb
    obtain⟨o,e⟩:=bel b hb
    refine⟨g0,Nat.ne_of_lt (Heap.lt_size (grow b o e)),fun z=>?_,.inl hb,fun x c e=>g4 x c (Cl.old x c e).1,fun p hp=>absurd (show p∈([]:List (Addr×Obj)) from hp) (by simp)⟩
    rcases List.mem_cons.mp (I1.stkSub b z) with q | q
    · exact g1 q
    · exact g2 q
  have loop:=hloop cl _ _ _ _ s.heap.objs.size [] _ _ _ (D s.heap.objs.size) (compPost (model X.prog X.w) X.A X.xe use Q (.ref s.heap.objs.size) (s.heap.push ob).objs.size) I2 st1 f2 h fun fl s' ⟨σ',H',I',fr',q'⟩=>by
    have I3:=zl2 I1 f1 I'
    have hC:FpOk X pins H' (s.heap.push ob).objs.size:=I1.fpOk (Nat.le_refl _) I'.free
    obtain⟨m,hn,_⟩:=I'.loc
    have:=hend _ H' s' I3 hC ⟨m,hn⟩ ⟨σ',q'⟩
    cases use <;> exact this
  exact hstart _ _ _ _ loop (T.self _ 0 _ _ _ st1 loop)
end
section
variable {X:Cx}{osc:Scope}{N:List Str}{sc:Scope}{N':List Str}{sel:List (Option Nat)}{pos:Pos}{elt kx vx tg iter:Expr}{ifs:List Expr}{wi:TI}{g:TG}{tt:TT}{te tk tv:TE}
theorem ziE {it : Addr}{fp : List Addr}{tn : Nat → Heap → Prop}{J : It}(T : Turn X.prog X.w X.K tg J fp it tn) (hc : X.calm = true) (hg : InBlk X sc N' fun Y => PG Y tg g) (ht : InBlk X sc N' fun Y => PTs Y ifs tt) (he : InBlk X sc N' fun Y => PE Y elt te) :
  ∀ cl C s0 H0 ex p pins s σ H Dn R,Inv (blk X sc cl C N' s0 H0 ex) pins σ H s→tn 0 s.heap→(∀ b∈fp,FpOk (blk X sc cl C N' s0 H0 ex) pins H b)→zcq J g (tIfs tt (zcC p te)) Dn σ H →
   (∀ fl s',(∃ σ' H',Inv (blk X sc cl C N' s0 H0 ex) pins σ' H' s'∧(∀ b∈fp,H' b=none)∧Dn.nx σ' H')→R (.ok fl) s')→codeAny (model X.prog X.w) X.A (.compLoop (.ListComp elt [⟨tg,iter,ifs,0⟩] sc pos) 0 (.ref it) (.ref p) (compEnvC sc cl C X.env)) R s :=
 fun cl C s0 H0 ex p pins s σ H Dn R I st f W hR =>
  zdg (X:=blk X sc cl C N' s0 H0 ex) (p:=iter.pos) (inner:=do let _ ← call (.builtin "list.append") [.ref p,← eval elt (compEnvC sc cl C X.env)]) rfl rfl rfl (fun B {α t Q E s} h w=>by subst h;exact w) hc rfl (hg _ _ _ _ _) (ht _ _ _ _ _) (zjt (he _ _ _ _ _)) I T st f W hR
def zeJ (wi:TI) (sel:List (Option Nat)) (g:TG) (tt:TT) (te:TE):TE:=fun σ H Q=>wi σ H fun J H1=>∀ p,H1 p=none →
 zcq J g (tIfs tt (zcC p te)) { nx:=fun _ H'=>Q (.ref p) H',rt:=fun _ _=>False } (selSt sel σ) (upd H1 p (.lst []))
theorem Inv.let_go {pins:List (Addr×Obj)}{σ:St}{H:Hp}{s:Shared}{C:Addr}{h':Heap}(I:Inv X pins σ H s) (f:FpOk X pins H C) (hs:Heap.SameBut C s.heap h'):Inv X pins σ H { s with heap:=h' }:=by
 obtain⟨f0,f1,_,f3,f4,f5⟩:=f
 exact I.turned (t':=s.toks) (fun b o hb e=>(hs.2 b hb).trans e) f0 f1 f3 f4 f5
theorem zjE {P:Program}{w:World}{H:Hp}{h:Heap}:ObjOk P w (upd H h.objs.size (.lst [])) (h.push { cls:=.type "list",dict:=none,data:=.seq ([]:List Value).toArray }) h.objs.size (.lst []) :=
 ⟨Nat.zero_le _,[],_,.nil,Heap.get?_push_size _ rfl⟩
theorem zaV (B : BlkOk osc N sc N' sel) (hi : PI X tg iter wi) (hg : InBlk X sc N' fun Y => PG Y tg g) (ht : InBlk X sc N' fun Y => PTs Y ifs tt) (he : InBlk X sc N' fun Y => PE Y elt te)
  (ho:X.env.scope=osc:=by rfl) (hN:X.N=N:=by rfl) (hc:X.calm=true:=by rfl) (hs:∀ x,foldedSetIterable iter X.env x=pure x:=by intro _;rfl) :
  PE X (.ListComp elt [⟨tg,iter,ifs,0⟩] sc pos) (zeJ wi sel g tt te):=by
 intro pins s σ H Q I h
 obtain⟨cl,Cl⟩:=zjZ I.ok B ho
 rw[eval_ListComp]
 refine wpAny_comprehension_free (use:=none) rfl hs Cl.run B.kind B.names (thn (hi pins s σ H _ I h) fun v s1 h1=>thn h1 fun itv s2 h2=>?_)
 obtain⟨it,fp,tn,J,H2,e,I2,T,st2,f2,h2⟩:=h2
 subst e
 refine wpAny_newObj_type (zek (e:=.ListComp elt [⟨tg,iter,ifs,0⟩] sc pos) (inner:=fun _ _=>pure ()) (D:=fun p=>{ nx:=fun _ H'=>Q (.ref p) H',rt:=fun _ _=>False }) (tb:=fun p=>zcC p te) (use:=none) B ho hN hc (fun acc env R s a b=>codeAny_compStart_list a b)
  (ziE (iter:=iter) (pos:=pos) T hc hg ht he) I2 T st2 f2 zjE rfl (h2 _ (I2.hok.fresh (Nat.le_refl _))) (fun C H' s' I3 fC hn hq=>?_) s2.toks cl Cl X.xe)
 obtain⟨m,hn⟩:=hn
 obtain⟨_,hq⟩:=hq
 exact⟨m,hn,fun h' hs'=>⟨.ref s2.heap.objs.size,H',I3.let_go fC hs',rfl,hq⟩⟩
theorem ziF {it : Addr}{fp : List Addr}{tn : Nat → Heap → Prop}{J : It}(hu : X.A.units + 1 < cLine) (T : Turn X.prog X.w X.K tg J fp it tn) (hc : X.calm = true) (hg : InBlk X sc N' fun Y => PG Y tg g) (ht : InBlk X sc N' fun Y => PTs Y ifs tt) (hk : InBlk X sc N' fun Y => PE Y kx tk) (hv : InBlk X sc N' fun Y => PE Y vx tv) :
  ∀ cl C s0 H0 ex p pins s σ H Dn R,Inv (blk X sc cl C N' s0 H0 ex) pins σ H s→tn 0 s.heap→(∀ b∈fp,FpOk (blk X sc cl C N' s0 H0 ex) pins H b)→zcq J g (tIfs tt (zhx p tk tv)) Dn σ H →
   (∀ fl s',(∃ σ' H',Inv (blk X sc cl C N' s0 H0 ex) pins σ' H' s'∧(∀ b∈fp,H' b=none)∧Dn.nx σ' H')→R (.ok fl) s')→codeAny (model X.prog X.w) X.A (.compLoop (.DictComp kx vx [⟨tg,iter,ifs,0⟩] sc pos) 0 (.ref it) (.ref p) (compEnvC sc cl C X.env)) R s :=
 fun cl C s0 H0 ex p pins s σ H Dn R I st f W hR =>
  zdg (X:=blk X sc cl C N' s0 H0 ex) (p:=iter.pos) rfl rfl rfl (fun B {α t Q E s} h w=>by subst h;exact w) hc rfl (hg _ _ _ _ _) (ht _ _ _ _ _) (zlP (X:=blk X sc cl C N' s0 H0 ex) hu (hk _ _ _ _ _) (hv _ _ _ _ _)) I T st f W hR
def zmb (wi:TI) (sel:List (Option Nat)) (g:TG) (tt:TT) (tk tv:TE):TE:=fun σ H Q=>wi σ H fun J H1=>∀ p,H1 p=none →
 zcq J g (tIfs tt (zhx p tk tv)) { nx:=fun _ H'=>Q (.ref p) H',rt:=fun _ _=>False } (selSt sel σ) (upd H1 p (.dT []))
theorem zkJ (hu : X.A.units + 1 < cLine) (B : BlkOk osc N sc N' sel) (hi : PI X tg iter wi) (hg : InBlk X sc N' fun Y => PG Y tg g) (ht : InBlk X sc N' fun Y => PTs Y ifs tt) (hk : InBlk X sc N' fun Y => PE Y kx tk) (hv : InBlk X sc N' fun Y => PE Y vx tv)
  (ho:X.env.scope=osc:=by rfl) (hN:X.N=N:=by rfl) (hc:X.calm=true:=by rfl) (hs:∀ x,foldedSetIterable iter X.env x=pure x:=by intro _;rfl) :
  PE X (.DictComp kx vx [⟨tg,iter,ifs,0⟩] sc pos) (zmb wi sel g tt tk tv):=by
 intro pins s σ H Q I h
 obtain⟨cl,Cl⟩:=zjZ I.ok B ho
 show wpAny _ X.A (comprehension (.DictComp kx vx [⟨tg,iter,ifs,0⟩] sc pos) sc X.env _ newDict false (eval iter X.env)) _ _ s
 refine wpAny_comprehension_free (use:=none) rfl hs Cl.run B.kind B.names (thn (hi pins s σ H _ I h) fun v s1 h1=>thn h1 fun itv s2 h2=>?_)
 obtain⟨it,fp,tn,J,H2,e,I2,T,st2,f2,h2⟩:=h2
 subst e
 refine wpAny_newObj_type (zek (e:=.DictComp kx vx [⟨tg,iter,ifs,0⟩] sc pos) (inner:=fun _ _=>pure ()) (D:=fun p=>{ nx:=fun _ H'=>Q (.ref p) H',rt:=fun _ _=>False }) (tb:=fun p=>zhx p tk tv) (use:=none) B ho hN hc (fun acc env R s a b=>codeAny_compStart_dict a b)
  (ziF (iter:=iter) (pos:=pos) hu T hc hg ht hk hv) I2 T st2 f2 (zfF s2.heap I2.big) rfl (h2 _ (I2.hok.fresh (Nat.le_refl _))) (fun C H' s' I3 fC hn hq=>?_) s2.toks cl Cl X.xe)
 obtain⟨m,hn⟩:=hn
 obtain⟨_,hq⟩:=hq
 exact⟨m,hn,fun h' hs'=>⟨.ref s2.heap.objs.size,H',I3.let_go fC hs',rfl,hq⟩⟩
end
mutual
inductive RD (K:W.Frag) (H:Hp):V→PyData→Prop where
 | non:RD K H .non .none
 | bl (b:Bool):RD K H (.bl b) (.bool b)
 | int (i:Int):RD K H (.int i) (.int i)
 | str (x:Str):RD K H (.str x) (.str x)
 | lst {a:Addr} {xs:List V} {ds:List PyData}:SqL K H a xs→RDs K H xs ds→RD K H (.ref a) (.list ds)
 | tup {a:Addr} {xs:List V} {ds:List PyData}:SqT K H a xs→RDs K H xs ds→RD K H (.ref a) (.tuple ds)
inductive RDs (K:W.Frag) (H:Hp):List V→List PyData→Prop where
 | nil:RDs K H [] []
 | cons {x:V} {xs:List V} {d:PyData} {ds:List PyData}:RD K H x d→RDs K H xs ds→RDs K H (x::xs) (d::ds)
end
section
variable {X:Cx}{pins:List (Addr×Obj)}{σ:St}{H:Hp}{s:Shared}
mutual
theorem Inv.reads (I:Inv X pins σ H s):∀ {v:V}{d:PyData}{u:Value},RD X.K H v d→RelV v u→∃ as,Reads s.heap u d as
 | _,_,_,.non,r=>by cases (show _=Value.none from r);exact⟨_,.none⟩
 | _,_,_,.bl b,r=>by cases (show _=Value.bool b from r);exact⟨_,.bool b⟩
 | _,_,_,.int i,r=>by obtain⟨t,rfl⟩:=r;exact⟨_,.int i t⟩
 | _,_,_,.str x,r=>by obtain⟨t,rfl⟩:=r;exact⟨_,.str x t⟩
 | _,_,_,.lst (a:=a) hq hs,r=>by
  cases (show _=Value.ref a from r)
  obtain⟨its,rv,p,hz⟩:=I.list hq
  obtain⟨as,ra⟩:=I.readsAll hs rv
  obtain⟨o,ho,hc,n,hd⟩:=p.isList
  exact⟨_,.list ho hc hd (by simpa using ra)⟩
 | _,_,_,.tup (a:=a) hq hs,r=>by
  cases (show _=Value.ref a from r)
  obtain⟨its,rv,p,hz⟩:=I.tuple hq
  obtain⟨as,ra⟩:=I.readsAll hs rv
  obtain⟨o,ho,hc,n,hd⟩:=p
  exact⟨_,.tuple ho hc hd (by simpa using ra)⟩
theorem Inv.readsAll (I:Inv X pins σ H s):∀ {vs:List V}{ds:List PyData}{us:List Value},RDs X.K H vs ds→Vals vs us→∃ as,ReadsAll s.heap us ds as
 | _,_,_,.nil,r=>by cases r;exact⟨_,.nil⟩
 | _,_,_,.cons h t,.cons r rr=>by
  obtain⟨as,h1⟩:=I.reads h r
  obtain⟨bs,h2⟩:=I.readsAll t rr
  exact⟨_,.cons h1 h2⟩
end
end
theorem RDs.ints {K:W.Frag}{H:Hp}:∀ (ns:List Int),RDs K H (ns.map V.int) (ns.map PyData.int)
 | []=>.nil
 | n::r=>.cons (.int n) (RDs.ints r)
mutual
theorem RD.mono {K:W.Frag}{H H':Hp}(hl:∀ a xs,SqL K H a xs→SqL K H' a xs) (ht:∀ a xs,SqT K H a xs→SqT K H' a xs):∀ {v:V}{d:PyData},RD K H v d→RD K H' v d
 | _,_,.non=>.non
 | _,_,.bl b=>.bl b
 | _,_,.int i=>.int i
 | _,_,.str x=>.str x
 | _,_,.lst h t=>.lst (hl _ _ h) (RDs.mono hl ht t)
 | _,_,.tup h t=>.tup (ht _ _ h) (RDs.mono hl ht t)
theorem RDs.mono {K:W.Frag}{H H':Hp}(hl:∀ a xs,SqL K H a xs→SqL K H' a xs) (ht:∀ a xs,SqT K H a xs→SqT K H' a xs):∀ {v:List V}{d:List PyData},RDs K H v d→RDs K H' v d
 | _,_,.nil=>.nil
 | _,_,.cons h t=>.cons (RD.mono hl ht h) (RDs.mono hl ht t)
end
def rEqD (K:W.Frag):R2:=fun x y H Q=>∃ d e,RD K H x d∧RD K H y e∧SeqAt.shaped d=true∧SeqAt.shaped e=true∧Q (.bl (PyData.eqv d e)) H
def rNeD (K:W.Frag):R2:=fun x y H Q=>∃ d e,RD K H x d∧RD K H y e∧SeqAt.shaped d=true∧SeqAt.shaped e=true∧Q (.bl (!PyData.eqv d e)) H
section
variable {X:Cx}
theorem zmr (hu:X.A.units+64<cLine):OpR X (compareOp .Eq) (rEqD X.K):=by
 intro pins s σ H x y v u Q I rx ry h
 obtain⟨d,e,hd,he,sd,se,q⟩:=h
 obtain⟨as,ra⟩:=I.reads hd rx
 obtain⟨bs,rb⟩:=I.reads he ry
 exact SeqAt.compareEq_shaped ra rb sd se hu ⟨.bl _,H,I,rfl,q⟩
theorem zdA (hu:X.A.units+64<cLine):OpR X (compareOp .NotEq) (rNeD X.K):=by
 intro pins s σ H x y v u Q I rx ry h
 obtain⟨d,e,hd,he,sd,se,q⟩:=h
 obtain⟨as,ra⟩:=I.reads hd rx
 obtain⟨bs,rb⟩:=I.reads he ry
 exact SeqAt.compareNe_shaped ra rb sd se hu ⟨.bl _,H,I,rfl,q⟩
theorem zgA {ds:List PyData}(h:∀ e∈ds,SeqAt.shaped e=true):PyData.canLayAll0 ds=true:=by
 induction ds with
 | nil=>rfl
 | cons d r ih=>rw[PyData.canLayAll0,SeqAt.canLay_of_shaped (h d List.mem_cons_self),ih fun e he=>h e (List.mem_cons_of_mem _ he)];rfl
theorem zef:∀ ns ms:List Int,PyData.eqvAll (ns.map PyData.int) (ms.map PyData.int)=decide (ns=ms)
 | [],[]=>rfl
 | [],_::_=>rfl
 | _::_,[]=>rfl
 | n::r,m::t=>by
  show (n == m && PyData.eqvAll (r.map PyData.int) (t.map PyData.int))=_
  rw[zef r t]
  by_cases e:n=m
  ·subst e;by_cases e2:r=t <;> simp[e2]
  ·simp[e]
theorem zcy:∀ ns:List Int,PyData.depthAll (ns.map PyData.int)=0
 | []=>rfl
 | n::r=>by show max 0 (PyData.depthAll (r.map PyData.int))=0;rw[zcy r];rfl
theorem zcX:∀ ns:List Int,PyData.canLayAll0 (ns.map PyData.int)=true
 | []=>rfl
 | n::r=>by show (true && PyData.canLayAll0 (r.map PyData.int))=true;rw[zcX r];rfl
def tI (ns:List Int):PyData:=.tuple (ns.map .int)
theorem zcW (ns ms:List Int):PyData.eqv (tI ns) (tI ms)=decide (ns=ms):=zef ns ms
theorem zaF (ns:List Int):SeqAt.shaped (tI ns)=true:=by
 unfold SeqAt.shaped tI
 rw[PyData.canLay0,zcX,PyData.depth,zcy];rfl
end
section
variable {prog:Program}{w:World}{A:Around}{E:Value→Shared→Prop}{s:Shared}
end
section
variable {X:Cx}{pos:Pos}
def CDivB (i j:Int):Prop:=0<j∧j.natAbs.log2<9000
theorem zhR:OpR X (binaryOp .FloorDiv) (rI CDivB fun i j=>.int (i / j)):=opI fun i j _ _ _ _ _ hc q=>by
 have e:i.fdiv j=i / j:=Int.fdiv_eq_ediv_of_nonneg i (Int.le_of_lt hc.1)
 rw[← e] at q
 exact floordiv_int (by have:=hc.1;lia) q (.inl (PyProof.noPylong_of_log2 hc.2))
theorem zj7 (hh:X.calm=true):CallR X (.builtin "all") (fun xs H Q=>∃ (p:Addr) (bs:List Bool),xs=[.ref p]∧SqL X.K H p (bs.map V.bl)∧Q (.bl (bs.all id)) H):=by
 intro pins s σ H xs us Q I r h
 obtain⟨p,bs,rfl,hq,q⟩:=h
 obtain⟨u,rfl,ru⟩:=vals1 r
 cases (show u=Value.ref p from ru)
 obtain⟨its,rv,pl,hz⟩:=I.list hq
 have hlp:p<s.heap.objs.size:=by obtain⟨o,ho,_⟩:=pl.isList;exact Heap.lt_size ho
 have hlen:its.length=bs.length:=by have:=rv.length;simpa using this.symm
 refine call_all_walk (wpAny_pyIter_list pl.isList ?_)
 refine⟨_,_,_,_,_,_,fun i=>bs.getD i true,rfl,Walks.list (A:=X.A.in1) (I.ok.hd hh) s.heap.objs.size p (Nat.ne_of_lt hlp) its.toArray,⟨⟨_,Heap.get?_push_size _ rfl,rfl,rfl⟩,pl.isList.push _⟩,?_,fun h' tk hk=>?_⟩
 ·intro i v s1 Q1 E1 hv hQ
  have hv':its[i]?=some v:=by simpa using hv
  have hi:i<its.length:=(List.getElem?_eq_some_iff.mp hv').1
  obtain⟨w',hw,rw'⟩:=rv.get (i:=i) (x:=V.bl (bs[i]'(by lia))) (by simp[List.getElem?_eq_getElem,show i<bs.length by lia])
  rw[hv'] at hw
  cases hw
  cases (show v=Value.bool _ from rw')
  refine wpAny_truthy_bool ?_
  have e:bs.getD i true=bs[i]'(by lia):=by simp[List.getD_eq_getElem?_getD,show i<bs.length by lia]
  rw[← e];exact hQ
 ·have I1:Inv X pins σ H { s with heap:=h',toks:=tk }:=I.kept fun b o e=>hk b o (by simp;exact Nat.ne_of_lt (Heap.lt_size e)) (Heap.get?_push_of_some _ e)
  refine⟨.bl _,H,I1,rfl,?_⟩
  have e:(List.range its.toArray.size).all (fun i=>bs.getD i true)=bs.all id:=by
   rw[show its.toArray.size=bs.length by simpa using hlen]
   rw[Bool.eq_iff_iff]
   simp only[List.all_eq_true,List.mem_range,id]
   constructor
   ·intro h b hb
    obtain⟨i,hi,e⟩:=List.getElem_of_mem hb
    have:=h i hi
    simpa[List.getD_eq_getElem?_getD,hi,e] using this
   ·intro h i hi
    have:=h bs[i] (List.getElem_mem hi)
    simpa[List.getD_eq_getElem?_getD,hi] using this
  rw[e];exact q
end
section
variable {X:Cx}
theorem zkX:CallR X (.builtin "isinstance") (fun xs H Q=>∃ x T t b,xs=[x,.ty T]∧TyOf X.K H x t∧W.kitOne X.K t (.type T)=some b∧Q (.bl b) H):=by
 intro pins s σ H xs us Q I r h
 obtain⟨x,T,t,b,rfl,ty,e,q⟩:=h
 obtain⟨u,w',rfl,ru,rw'⟩:=vals2 r
 cases (show w'=Value.type T from rw')
 exact zjL I ru ty e fun tk=>⟨.bl b,H,I.tok tk,rfl,q⟩
theorem zgp (K:W.Frag):W.kitOne K (.type "int") (.type "bool")=some false:=by rfl
theorem zhY (K:W.Frag) (T:String):W.kitOne K (.type T) (.type T)=some true:=by
 unfold W.kitOne;rw[if_pos (by simp)]
end
end L2
namespace HT
open PySem PyProof.Rows
def lexLe:List Int→List Int→Bool
 | [],[]=>true
 | [],_::_=>true
 | _::_,[]=>false
 | x::xs,y::ys=>if x=y then lexLe xs ys else decide (x≤y)
theorem zeQ (x y:Int) (xs ys:List Int):lexLe (x::xs) (y::ys)=if x=y then lexLe xs ys else decide (x≤y):=rfl
theorem zfC:lexLe [] []=true:=rfl
theorem zeA (y:Int) (ys:List Int):lexLe [] (y::ys)=true:=rfl
theorem zeB (x:Int) (xs:List Int):lexLe (x::xs) []=false:=rfl
theorem zkB (A : Around) (s : Shared) (a : Int) (t : Tok) (c : Int) (u : Tok) (prog : Program) (w : World) (E : Value → Shared → Prop) (Q : Value → Shared → Prop) (h : Q (.bool (decide (a ≤ c))) s) :
  wpAny (model prog w) A (richCompare .LtE (.int a t) (.int c u)) Q E s :=
 (PyProof.Rows.le_int h:wpAny (model prog w) A (compareOp .LtE (.int a t) (.int c u)) Q E s)
section
open PySem.SeqAt
open PySem.AutoSeq1 (wpAny_loadPart')
open PySem.MeetsSeq PySem.MeetsSeq2 PySem.MeetsSeq3
theorem ze7 (l b : Addr) (items items2 : Array Value) (n n2 : Nat) (dd dd2 : Option Addr) (sl sl2 : Array (Option Value)) (ns ms : List Int) (hi : IntsAre items.toList ns) (hj : IntsAre items2.toList ms) :
  Meets (Builtin.«tuple.__le__» ⟨[.ref l,.ref b],[]⟩)
   (fun _ R s=>s.heap.get? l=some { cls:=.type "tuple",dict:=dd,data:=.seq items n,slots:=sl }∧s.heap.get? b=some { cls:=.type "tuple",dict:=dd2,data:=.seq items2 n2,slots:=sl2 } ∧
    R (.ok (.ret (.bool (lexLe ns ms)))) s) :=
 .of_wp fun prog w A R s h=>by
  obtain⟨hp,g,d,tk,os⟩:=s;obtain⟨hl,hb,h⟩:=h
  have f2:=AutoSeq1.sub_tuple_tuple
  have z1:items.size=ns.length:=by rw[← hi.length];simp
  have z2:items2.size=ms.length:=by rw[← hj.length];simp
  wp_walk using wpAny_loadPart' hl,wpAny_loadPart' hb,wpAny_forIn_list _ (fun rest b s'=>b.1=none∧s'=⟨hp,g,d,tk,os⟩∧∃ (vs ws:List Value) (ns' ms':List Int),rest=vs.zip ws ∧
   IntsAre vs ns'∧IntsAre ws ms'∧ns'.length+items2.size=ms'.length+items.size∧R (.ok (.ret (.bool (lexLe ns' ms')))) ⟨hp,g,d,tk,os⟩) _
  case turn =>
   rintro⟨y,x⟩ rest b s' ⟨hb',rfl,vs,ws,ns',ms',hz,hvi,hwi,hlen,hR⟩
   cases hvi with
   | nil=>rw[List.zip_nil_left] at hz;cases hz
   | cons a t hvi' =>
    cases hwi with
    | nil=>rw[List.zip_nil_right] at hz;cases hz
    | cons c u hwi' =>
     rw[List.zip_cons_cons] at hz
     injection hz with hyx hrest
     injection hyx with hy hx
     subst hy hx
     rw[zeQ] at hR
     simp only[List.length_cons] at hlen
     obtain⟨e,he,hiff⟩:=zh8 A.in1 ⟨hp,g,d,tk,os⟩ a t c u
     refine wpAny_bind (he prog w _ _ ?_)
     cases e with
     | true =>
      rw[if_pos (hiff.mp rfl)] at hR
      wp_walk
      exact⟨rfl,rfl,_,_,_,_,hrest,hvi',hwi',by lia,hR⟩
     | false =>
      rw[if_neg (fun q=>absurd (hiff.mpr q) Bool.false_ne_true)] at hR
      have hri:=zkB A.in1 ⟨hp,g,d,tk,os⟩ a t c u prog w
      wp_walk using hri
      exact⟨_,rfl,by simpa using hR⟩
  case fin =>
   rintro⟨b1,b2⟩ s' ⟨hb',rfl,vs,ws,ns',ms',hz,hvi,hwi,hlen,hR⟩
   simp only at hb'
   subst hb'
   have hv:lexLe ns' ms'=decide (items.size≤items2.size):=by
    cases hvi with
    | nil =>
     cases hwi with
     | nil =>
      simp only[List.length_nil] at hlen
      rw[zfC]
      exact (decide_eq_true (by lia)).symm
     | cons c u hw =>
      simp only[List.length_nil,List.length_cons] at hlen
      rw[zeA]
      exact (decide_eq_true (by lia)).symm
    | cons a t hv =>
     cases hwi with
     | nil =>
      simp only[List.length_nil,List.length_cons] at hlen
      rw[zeB]
      exact (decide_eq_false (by lia)).symm
     | cons c u hw =>
      rw[List.zip_cons_cons] at hz
      cases hz
   rw[hv] at hR
   wp_walk
   exact⟨_,rfl,by simpa[Builtin.Tuple.tupleCompareSizes] using hR⟩
  case h =>
   exact⟨rfl,rfl,items.toList,items2.toList,ns,ms,rfl,hi,hj,by lia,h⟩
end
section
variable {prog:Program}{w:World}{A:Around}{E:Value→Shared→Prop}{s:Shared}
theorem le_tupInts {l b : Addr}{items items2 : Array Value}{ns ms : List Int}{Q : Value → Shared → Prop}(hl : IsTup s.heap l items) (hb : IsTup s.heap b items2) (hi : IntsAre items.toList ns) (hj : IntsAre items2.toList ms)
  (hu:A.units<cLine) (h:Q (.bool (lexLe ns ms)) s):wpAny (model prog w) A (compareOp .LtE (.ref l) (.ref b)) Q E s:=by
 obtain⟨⟨cls,dd,data,sl⟩,ho,hc,n,hd⟩:=id hl
 obtain⟨⟨cls2,dd2,data2,sl2⟩,ho2,hc2,n2,hd2⟩:=id hb
 simp only at hc hd hc2 hd2
 subst hc hd hc2 hd2
 exact richCompare_meets_room (op:=.LtE) ⟨_,ho,rfl⟩ ⟨_,ho2,rfl⟩ PySem.F.slot_tuple_le PySem.F.entry_tuple_le (PySem.F.args_tuple_le_2 _ _) (ze7 l b items items2 n n2 dd dd2 sl sl2 ns ms hi hj)
  ⟨ho,ho2,show Value.bool (lexLe ns ms)≠Value.notImplemented∧Q (.bool (lexLe ns ms)) s from ⟨(fun x=>nomatch x),h⟩⟩ hu
end
end HT
namespace L2
open PySem PySem.Spec PyProof.Rows
section
variable {X:Cx}
def rLeT (K:W.Frag):R2:=fun x y H Q=>∃ a b ns ms,x=.ref a∧y=.ref b∧SqT K H a (ns.map V.int)∧SqT K H b (ms.map V.int)∧Q (.bl (HT.lexLe ns ms)) H
theorem zmq (hu:X.A.units<cLine):OpR X (compareOp .LtE) (rLeT X.K):=by
 intro pins s σ H x y v u Q I rx ry h
 obtain⟨a,b,ns,ms,rfl,rfl,ha,hb,q⟩:=h
 cases rx
 cases ry
 obtain⟨its,r1,p1,_⟩:=I.tuple ha
 obtain⟨its2,r2,p2,_⟩:=I.tuple hb
 have i1:IntsAre its.toArray.toList ns:=zcR r1
 have i2:IntsAre its2.toArray.toList ms:=zcR r2
 exact HT.le_tupInts p1 p2 i1 i2 hu ⟨.bl (HT.lexLe ns ms),H,I,rfl,q⟩
end
section
variable {X:Cx}
def zlJ (K:W.Frag):V→List V→Hp→VK→Prop:=fun x vs H Q=>∃ p xs y d ds j e,x=.ref p∧vs=[y]∧SqL K H p xs∧RD K H y d∧RDs K H xs ds∧SeqAt.shaped d=true∧(∀ e∈ds,SeqAt.shaped e=true) ∧
 ds[j]?=some e∧PyData.eqv e d=true∧(∀ m e',m<j→ds[m]?=some e'→PyData.eqv e' d=false)∧Q (.int (j:Nat)) H
theorem zjz (hu:X.A.units+65<cLine):MtR X "list.index" (zlJ X.K):=by
 intro pins s σ H x vs v us Q I rx rv h
 obtain⟨p,xs,y,d,ds,j,e,rfl,rfl,hq,hd,hds,sd,sds,hj,he,hno,q⟩:=h
 cases rx
 obtain⟨u,rfl,ru⟩:=rv.one
 obtain⟨its,r,pl,hz⟩:=I.list hq
 obtain⟨as,ra⟩:=I.reads hd ru
 obtain⟨bs,rb⟩:=I.readsAll hds r
 have hlay:=zgA sds
 have hmap:=SeqAt.readsAll_map ds _ _ hlay rb
 have hlen:its.length=ds.length:=by rw[← hmap,List.length_map]
 have hj':j<ds.length:=(List.getElem?_eq_some_iff.mp hj).1
 have rd:∀ m (hm:m<its.length),ds[m]?=some (SeqAt.readOf s.heap its[m]):=fun m hm=>by
  rw[← hmap,List.getElem?_map,List.getElem?_eq_getElem hm];rfl
 obtain⟨⟨cls,dd,data,sl⟩,ho,hc,n,hdat⟩:=pl.isList
 simp only at hc hdat
 subst hc hdat
 have hsz:xs.length≤sizeLine:=hz
 have hl2:its.length=xs.length:=r.length.symm
 refine call_meets PySem.F.slot_list_index ⟨_,ho,rfl⟩ PySem.F.entry_list_index (PySem.F.args_list_index_2 _ _)
  (SeqAt.list_indexAt p its.toArray n dd sl u (fun z=>PyData.eqv (SeqAt.readOf s.heap z) d) j (by simpa[hlen] using hj') (by have:=sizeLine_eq;lia) ?_ ?_)
  ⟨ho,SeqAt.items_eqAt (vs:=its.toArray) rb ra hlay (SeqAt.canLay_of_shaped sd) (PyProof.Rows.room_in_shaped sd hu),?_⟩
 ·have:=rd j (by lia)
  rw[hj] at this
  have e1:=Option.some.inj this
  show PyData.eqv (SeqAt.readOf s.heap its[j]) d=true
  rw[← e1];exact he
 ·intro m hm hlt
  have hm':m<its.length:=by simpa using hm
  exact hno m _ hlt (rd m hm')
 ·exact⟨.int (j:Nat),H,I.tok _,⟨_,rfl⟩,q⟩
end
section
variable {X:Cx}{k:Nat}{f:Addr}{fd:FuncData}{ps:List Str}{sp:Sp}{pins:List (Addr×Obj)}{σ:St}
theorem zjd {H : Hp}{s : Shared}{Q : VK}{us : List Value}{vs : List V}{E : Value → Shared → Prop}(F : FnOk X.prog X.w X.K X.mg X.base CX0 k f fd ps sp) (hr : Room (k + 1) X.A) (hb : Binds X.K fd ps [])
  (I:Inv X pins σ H s) (r:Vals vs us) (h:sp vs H Q E0):wpAny (model X.prog X.w) X.A.in1 (call (.ref f) us) (EP X pins σ Q) E s:=by
 have hl:(us++[]).length=ps.length:=by rw[List.append_nil,← r.length];exact F.len _ _ _ _ h
 have hb':=hb s us I.kIn hl
 rw[List.append_nil] at hb'
 refine wpAny_call (codeAny_mono (F.run X.A.in1 X.stack s H ⟨us,[]⟩ us vs Q E0 hr.in1 I.env0.in1 hb' r h) fun r s' hq=>?_)
 cases r with
 | error e=>exact False.elim hq
 | ok fl =>
  cases fl with
  | ret u=>exact I.after hq
  | next=>exact False.elim hq
  | brk=>exact False.elim hq
  | cont=>exact False.elim hq
theorem Inv.moved {H:Hp}{s:Shared}{b:Addr}{h':Heap}{t':Nat}(I:Inv X pins σ H s) (fb:FpOk X pins H b) (hk:∀ c o,c ∉ [b]→s.heap.get? c=some o→h'.get? c=some o):Inv X pins σ H { s with heap:=h',toks:=t' } :=
 I.turned (fun c o hc e=>hk c o (fun z=>hc (List.mem_singleton.mp z)) e) fb.1 fb.2.1 fb.2.2.2.1 fb.2.2.2.2.1 fb.2.2.2.2.2
theorem FpOk.again {H H':Hp}{b:Addr}(fb:FpOk X pins H b) (hn:H' b=none):FpOk X pins H' b:=⟨hn,fb.2⟩
structure MK (X:Cx) (pins:List (Addr×Obj)) (σ:St) (H:Hp) (s:Shared) (it st l:Addr) (j:Nat) (vb kb:Value):Prop where
 inv:Inv X pins σ H s
 fi:FpOk X pins H it
 fs:FpOk X pins H st
 ne:st≠it
 iter:s.heap.IsListIter it l j
 hold:∃ c,s.heap.get? st=some (seqObj "list" #[vb,kb] c)
def Least (κ:Nat→List Int) (n i:Nat):Prop:=∀ j,j<n→HT.lexLt (κ j) (κ i)=false∧(j<i→HT.lexLt (κ i) (κ j)=true)
end
end L2
namespace HT
theorem lexLt_irrefl:∀ a:List Int,lexLt a a=false
 | []=>rfl
 | x::r=>by rw[lexLt_cons,if_pos rfl];exact lexLt_irrefl r
theorem lexLt_trans:∀ {a b c:List Int},lexLt a b=true→lexLt b c=true→lexLt a c=true
 | [],[],_,h,_=>by cases h
 | [],_::_,[],_,h=>by cases h
 | [],_::_,_::_,_,_=>rfl
 | _::_,[],_,h,_=>by cases h
 | _::_,_::_,[],_,h=>by cases h
 | x::a,y::b,z::c,h,g=>by
  rw[lexLt_cons] at h g ⊢
  by_cases e1:x=y
  ·subst e1
   rw[if_pos rfl] at h
   by_cases e2:x=z
   ·subst e2;rw[if_pos rfl] at g ⊢;exact lexLt_trans h g
   ·rw[if_neg e2] at g ⊢;exact g
  ·rw[if_neg e1] at h
   have h':x<y:=by simpa using h
   by_cases e2:y=z
   ·subst e2;rw[if_neg e1];exact h
   ·rw[if_neg e2] at g
    have g':y<z:=by simpa using g
    rw[if_neg (by lia)]
    exact decide_eq_true (by lia)
theorem lexLt_total:∀ {a b:List Int},lexLt a b=false→lexLt b a=false→a=b
 | [],[],_,_=>rfl
 | [],_::_,h,_=>by cases h
 | _::_,[],_,h=>by cases h
 | x::a,y::b,h,g=>by
  rw[lexLt_cons] at h g
  by_cases e:x=y
  ·subst e
   rw[if_pos rfl] at h g
   rw[lexLt_total h g]
  ·rw[if_neg e] at h
   rw[if_neg (Ne.symm e)] at g
   have h':¬ x<y:=by simpa using h
   have g':¬ y<x:=by simpa using g
   lia
theorem lexLe_eq:∀ a b:List Int,lexLe a b=!lexLt b a
 | [],[]=>rfl
 | [],_::_=>rfl
 | _::_,[]=>rfl
 | x::a,y::b=>by
  rw[zeQ,lexLt_cons]
  by_cases e:x=y
  ·subst e;rw[if_pos rfl,if_pos rfl];exact lexLe_eq a b
  ·rw[if_neg e,if_neg (Ne.symm e)]
   by_cases g:x≤y
   ·rw[decide_eq_true g,decide_eq_false (by lia)];rfl
   ·rw[decide_eq_false g,decide_eq_true (by lia)];rfl
theorem lexLt_asym {a b:List Int}(h:lexLt a b=true):lexLt b a=false:=by
 cases e:lexLt b a with
 | false=>rfl
 | true=>have:=lexLt_trans h e;rw[lexLt_irrefl] at this;cases this
end HT
namespace L2
open PySem PySem.Spec PyProof.Rows
section
variable {X:Cx}{k:Nat}{f:Addr}{fd:FuncData}{ps:List Str}{sp:Sp}{pins:List (Addr×Obj)}{σ:St}{H0:Hp}{Q:VK}{l it st:Addr}{xs:List V}{κ:Nat→List Int}
def MKR (X:Cx) (pins:List (Addr×Obj)) (σ:St) (Q:VK):Result→Shared→Prop:=fun r s'=>match r with
 | .ok (.ret v)=>EP X pins σ Q v s'
 | .ok _=>False
 | .error e=>X.xe e s'
theorem zcQ {xs:Array Value}{c:Nat}:∀ v,(seqObj "list" xs c).data≠.cell v:=fun v h=>by cases h
theorem zd9 {h:Heap}{it l:Addr}{j:Nat}(hi:h.IsListIter it l j):∃ o,h.get? it=some o∧∀ v,o.data≠.cell v:=by
 obtain⟨o,ho,_,hd⟩:=hi
 exact⟨o,ho,fun v z=>by rw[hd] at z;cases z⟩
theorem zkv {H : Hp}{s : Shared}{Q1 : VK}{u : Value}{x : V}{E : Value → Shared → Prop}{j : Nat}{vb kb : Value}(F : FnOk X.prog X.w X.K X.mg X.base CX0 k f fd ps sp) (hr : Room (k + 1) X.A) (hb : Binds X.K fd ps [])
    (M:MK X pins σ H s it st l j vb kb) (r:RelV x u) (h:sp [x] H Q1 E0):wpAny (model X.prog X.w) X.A.in1 (call (.ref f) [u]) (fun v s'=>∃ y H',RelV y v∧Q1 y H'∧MK X pins σ H' s' it st l j vb kb) E s:=by
  obtain⟨c,hc⟩:=M.hold
  obtain⟨oi,hoi,ci,di⟩:=id M.iter
  have I1 : Inv X (pins ++ zdz [it, st] s.heap) σ H s := M.inv.pinned (fun b hb => by
      rcases List.mem_cons.mp hb with rfl | hb
      · exact M.fi
      · rw[List.mem_singleton.mp hb];exact M.fs) (fun b hb=>by
      rcases List.mem_cons.mp hb with rfl | hb
      · exact zd9 M.iter
      · rw[List.mem_singleton.mp hb];exact⟨_,hc,zcQ⟩)
  refine wpAny_mono (zjd F hr hb I1 (.cons r .nil) h) (fun v s' hv=>?_) fun _ _ e=>e
  obtain⟨y,H',I2,ry,q⟩:=hv
  have p1:=I2.pin (it,oi) (List.mem_append_right _ (List.mem_append_right _ (zbl (by simp) hoi)))
  have p2:=I2.pin (st,seqObj "list" #[vb,kb] c) (List.mem_append_right _ (List.mem_append_right _ (zbl (by simp) hc)))
  exact⟨y,H',ry,q,I2.unpinned,M.fi.again p1.2.1,M.fs.again p2.2.1,M.ne,⟨oi,p1.1,ci,di⟩,c,p2.1⟩
theorem zlV {H : Hp}{s : Shared}{a b : Addr}{ns ms : List Int}{E : Value → Shared → Prop}{Q1 : Value → Shared → Prop}(hu : X.A.units + 1 < cLine) (I : Inv X pins σ H s) (ha : SqT X.K H a (ns.map V.int)) (hb : SqT X.K H b (ms.map V.int)) (q : Q1 (.bool (HT.lexLt ns ms)) s) :
  wpAny (model X.prog X.w) X.A.in1 (richCompare .Lt (.ref a) (.ref b)) Q1 E s:=by
 obtain⟨its,r1,p1,_⟩:=I.tuple ha
 obtain⟨its2,r2,p2,_⟩:=I.tuple hb
 exact (HT.lt_tupInts p1 p2 (zcR r1) (zcR r2) hu q:wpAny (model X.prog X.w) X.A.in1 (compareOp .Lt (.ref a) (.ref b)) Q1 E s)
theorem MK.set {H:Hp}{s:Shared}{j:Nat}{vb kb v kv:Value}(M:MK X pins σ H s it st l j vb kb):MK X pins σ H { s with heap:=s.heap.update st (Obj.mapSeq fun _=>#[v,kv]) } it st l j v kv:=by
 obtain⟨c,hc⟩:=M.hold
 have sb:=Heap.SameBut.update s.heap st (Obj.mapSeq fun _=>#[v,kv])
 obtain⟨oi,hoi,ci,di⟩:=id M.iter
 exact⟨M.inv.moved (t':=s.toks) M.fs (fun b o hb e=>(sb.2 b fun z=>hb (by simp[z])).trans e),M.fi,M.fs,M.ne,⟨oi,(sb.2 it M.ne.symm).trans hoi,ci,di⟩,_,get?_update_seq hc fun _=>#[v,kv]⟩
theorem Least.next {n i:Nat}(h:Least κ n i) (e:HT.lexLt (κ n) (κ i)=false) (hi:i<n):Least κ (n+1) i:=fun j hj=>by
 by_cases z:j=n
 ·subst z;exact⟨e,fun q=>absurd q (by lia)⟩
 ·exact h j (by lia)
theorem Least.take {n i:Nat}(h:Least κ n i) (e:HT.lexLt (κ n) (κ i)=true) (hi:i<n):Least κ (n+1) n:=fun j hj=>by
 by_cases z:j=n
 ·subst z;exact⟨HT.lexLt_irrefl _,fun q=>absurd q (by lia)⟩
 ·have g:=(h j (by lia)).1
  have t:HT.lexLt (κ n) (κ j)=true:=by
   cases q:HT.lexLt (κ i) (κ j) with
   | true=>exact HT.lexLt_trans e q
   | false=>rw[← HT.lexLt_total q g];exact e
  exact⟨HT.lexLt_asym t,fun _=>t⟩
theorem Room.un1 {n:Nat}{A:Around}(r:Room n A):A.units+1<cLine:=by have:=r.units;lia
theorem Same.seqT {K:W.Frag}{H H':Hp}{a:Addr}{xs:List V}(e:Same H H') (h:SqT K H a xs):SqT K H' a xs:=by
 rcases h with (h | ⟨o,h⟩) | h
 ·exact .inl (.inl (e _ _ h))
 ·exact .inl (.inr ⟨o,e _ _ h⟩)
 ·exact .inr h
theorem zjB (hh : X.A.handled = none) (F : FnOk X.prog X.w X.K X.mg X.base CX0 k f fd ps sp) (hr : Room (k + 1) X.A) (hb : Binds X.K fd ps [])
  (turn:∀ i x H,xs[i]?=some x→Same H0 H→sp [x] H (fun v H'=>Same H H'∧∃ a,v=.ref a∧SqT X.K H' a ((κ i).map V.int)) E0)
  (hl:SqL X.K H0 l xs) (hli:l≠it) (hQ:∀ i x H',xs[i]?=some x→Least κ xs.length i→Same H0 H'→Q x H') :
  ∀ (r j i:Nat) (H:Hp) (s:Shared) (vb:Value) (xb:V) (b:Addr),xs.length - (j+1)=r→j+1≤xs.length→Same H0 H→MK X pins σ H s it st l (j+1) vb (.ref b)→xs[i]?=some xb→RelV xb vb→SqT X.K H b ((κ i).map V.int)→i≤j→Least κ (j+1) i →
   codeAny (model X.prog X.w) X.A (.builtin "min.loop" ⟨[.ref it,.ref f,.ref st],[]⟩) (MKR X pins σ Q) s:=by
 have nm:(toString "min" ++ toString ".loop" : String) = "min.loop":=by decide
 intro r
 induction r with
 | zero =>
  intro j i H s vb xb b hr0 hj hS M hxb rb kb' hij best
  have hend:j+1=xs.length:=by lia
  obtain⟨its,rv,pl,hz⟩:=M.inv.list (hS.seq hl)
  have hlen:its.length=xs.length:=rv.length.symm
  have W:=Walks.list (prog:=X.prog) (w:=X.w) (A:=X.A.in1) hh it l hli its.toArray
  obtain⟨c,hc⟩:=M.hold
  refine codeAny_builtin PySem.F.entry_min_loop ?_
  rw[Around.under_plainId PySem.F.plain_min_loop _]
  show wpAny _ X.A.in1 (seqItems? (.ref st) >>= _) _ _ _
  refine wpAny_bind (wpAny_seqItems hc rfl ?_)
  show wpAny _ X.A.in1 (tryCatch (pyNext (.ref it)) _ >>= _) _ _ _
  refine wpAny_bind (wpAny_tryCatch (W.done _ _ _ ⟨by rw[List.size_toArray,hlen,← hend];exact M.iter,pl.isList⟩ fun h1 tk1 hk1=>?_))
  have I1:=M.inv.moved (t':=tk1) M.fi hk1
  have hc1:=hk1 st _ (by simpa using M.ne) hc
  have sb:=Heap.SameBut.update h1 st (Obj.mapSeq fun _=>(#[]:Array Value))
  show wpAny _ X.A.in1 (updateSeq st (fun _=>#[]) >>= _) _ _ _
  refine wpAny_bind ?_
  refine wpAny_updateSeq hc1 rfl (wpAny_bind (wpAny_letGo (wpAny_pure ?_)))
  have I2:Inv X pins σ H { s with heap:=h1.update st (Obj.mapSeq fun _=>(#[]:Array Value)),toks:=tk1 }:=I1.moved (s:={ s with heap:=h1,toks:=tk1 }) (t':=tk1) M.fs (fun b o hb e=>(sb.2 b fun z=>hb (by simp[z])).trans e)
  exact⟨xb,H,I2,rb,hQ i xb H hxb (by rw[← hend];exact best) hS⟩
 | succ r ih =>
  intro j i H s vb xb b hr0 hj hS M hxb rb kb' hij best
  have hlt:j+1<xs.length:=by lia
  obtain⟨its,rv,pl,hz⟩:=M.inv.list (hS.seq hl)
  have hlen:its.length=xs.length:=rv.length.symm
  have W:=Walks.list (prog:=X.prog) (w:=X.w) (A:=X.A.in1) hh it l hli its.toArray
  obtain⟨c,hc⟩:=M.hold
  refine codeAny_builtin PySem.F.entry_min_loop ?_
  rw[Around.under_plainId PySem.F.plain_min_loop _]
  show wpAny _ X.A.in1 (seqItems? (.ref st) >>= _) _ _ _
  refine wpAny_bind (wpAny_seqItems hc rfl ?_)
  show wpAny _ X.A.in1 (tryCatch (pyNext (.ref it)) _ >>= _) _ _ _
  refine wpAny_bind (wpAny_tryCatch (W.item (j+1) _ _ _ (by rw[List.size_toArray,hlen];exact hlt) ⟨M.iter,pl.isList⟩ fun v h1 tk1 hP hst1 hk1=>?_))
  have hv:its[j+1]?=some v:=by simpa using hP
  obtain⟨x,hx⟩:∃ x,xs[j+1]?=some x:=⟨_,List.getElem?_eq_getElem hlt⟩
  obtain⟨v',hv',rx⟩:=rv.get hx
  rw[hv] at hv'
  cases hv'
  have M1:MK X pins σ H { s with heap:=h1,toks:=tk1 } it st l (j+1+1) vb (.ref b):=⟨M.inv.moved (t':=tk1) M.fi hk1,M.fi,M.fs,M.ne,hst1.1,c,hk1 st _ (by simpa using M.ne) hc⟩
  show wpAny _ X.A.in1 (tryCatch (holding [v] (call (.ref f) [v])) _ >>= _) _ _ _
  refine wpAny_bind (wpAny_tryCatch (wpAny_holding (wpAny_mono (zkv F hr hb M1 rx (turn (j+1) x H hx hS) (E:=fun _ _=>False)) (fun kv s2 he=>?_) fun _ _ hF=>hF.elim)))
  obtain⟨y,H2,ry,⟨hS2,a2,ey,ka2⟩,M2⟩:=he
  subst ey
  cases (show kv=Value.ref a2 from ry)
  have hS3:=hS.trans hS2
  have kb2:SqT X.K H2 b ((κ i).map V.int):=hS2.seqT kb'
  show wpAny _ X.A.in1 (tryCatch (holding [v,.ref a2] (richCompare .Lt (.ref a2) (.ref b) >>= _)) _ >>= _) _ _ _
  refine wpAny_bind (wpAny_tryCatch (wpAny_holding (wpAny_bind (zlV hr.un1 M2.inv ka2 kb2 ?_))))
  refine wpAny_bind (wpAny_holding (wpAny_truthy_bool ?_))
  refine wpAny_bind (wpAny_letGo (wpAny_pure ?_))
  obtain⟨c2,hc2⟩:=M2.hold
  by_cases hbt:HT.lexLt (κ (j+1)) (κ i)=true
  ·simp only[hbt,if_true]
   refine wpAny_bind ?_
   refine wpAny_updateSeq hc2 rfl (wpAny_bind (wpAny_letGo ?_))
   rw[nm]
   exact wpAny_pure ⟨plainId_quiet PySem.F.plain_min_loop _,ih (j+1) (j+1) H2 _ v _ a2 (by lia) hlt hS3 M2.set hx rx ka2 (Nat.le_refl _) (best.take hbt (by lia))⟩
  ·have hbf:HT.lexLt (κ (j+1)) (κ i)=false:=by simpa using hbt
   simp only[hbf,Bool.false_eq_true,if_false]
   refine wpAny_bind (wpAny_letGo ?_)
   rw[nm]
   exact wpAny_pure ⟨plainId_quiet PySem.F.plain_min_loop _,ih (j+1) i H2 _ vb _ b (by lia) hlt hS3 M2 hxb rb kb2 (by lia) (best.next hbf (by lia))⟩
end
section
variable {X:Cx}{k:Nat}{f:Addr}{fd:FuncData}{ps:List Str}{sp:Sp}{pins:List (Addr×Obj)}{σ:St}{H0:Hp}{Q:VK}{l it st:Addr}{xs:List V}{κ:Nat→List Int}
structure MK0 (X:Cx) (pins:List (Addr×Obj)) (σ:St) (H:Hp) (s:Shared) (it st l:Addr) (j:Nat):Prop where
 inv:Inv X pins σ H s
 fi:FpOk X pins H it
 fs:FpOk X pins H st
 ne:st≠it
 iter:s.heap.IsListIter it l j
 hold:∃ c,s.heap.get? st=some (seqObj "list" #[] c)
theorem zje {H : Hp}{s : Shared}{Q1 : VK}{u : Value}{x : V}{E : Value → Shared → Prop}{j : Nat}(F : FnOk X.prog X.w X.K X.mg X.base CX0 k f fd ps sp) (hr : Room (k + 1) X.A) (hb : Binds X.K fd ps [])
    (M:MK0 X pins σ H s it st l j) (r:RelV x u) (h:sp [x] H Q1 E0):wpAny (model X.prog X.w) X.A.in1 (call (.ref f) [u]) (fun v s'=>∃ y H',RelV y v∧Q1 y H'∧MK0 X pins σ H' s' it st l j) E s:=by
  obtain⟨c,hc⟩:=M.hold
  obtain⟨oi,hoi,ci,di⟩:=id M.iter
  have I1 : Inv X (pins ++ zdz [it, st] s.heap) σ H s := M.inv.pinned (fun b hb => by
      rcases List.mem_cons.mp hb with rfl | hb
      · exact M.fi
      · rw[List.mem_singleton.mp hb];exact M.fs) (fun b hb=>by
      rcases List.mem_cons.mp hb with rfl | hb
      · exact zd9 M.iter
      · rw[List.mem_singleton.mp hb];exact⟨_,hc,zcQ⟩)
  refine wpAny_mono (zjd F hr hb I1 (.cons r .nil) h) (fun v s' hv=>?_) fun _ _ e=>e
  obtain⟨y,H',I2,ry,q⟩:=hv
  have p1:=I2.pin (it,oi) (List.mem_append_right _ (List.mem_append_right _ (zbl (by simp) hoi)))
  have p2:=I2.pin (st,seqObj "list" #[] c) (List.mem_append_right _ (List.mem_append_right _ (zbl (by simp) hc)))
  exact⟨y,H',ry,q,I2.unpinned,M.fi.again p1.2.1,M.fs.again p2.2.1,M.ne,⟨oi,p1.1,ci,di⟩,c,p2.1⟩
theorem MK0.set {H:Hp}{s:Shared}{j:Nat}{v kv:Value}(M:MK0 X pins σ H s it st l j):MK X pins σ H { s with heap:=s.heap.update st (Obj.mapSeq fun _=>#[v,kv]) } it st l j v kv:=by
 obtain⟨c,hc⟩:=M.hold
 have sb:=Heap.SameBut.update s.heap st (Obj.mapSeq fun _=>#[v,kv])
 obtain⟨oi,hoi,ci,di⟩:=id M.iter
 exact⟨M.inv.moved (t':=s.toks) M.fs (fun b o hb e=>(sb.2 b fun z=>hb (by simp[z])).trans e),M.fi,M.fs,M.ne,⟨oi,(sb.2 it M.ne.symm).trans hoi,ci,di⟩,_,get?_update_seq hc fun _=>#[v,kv]⟩
theorem zj2 {s : Shared}(hh : X.A.handled = none) (F : FnOk X.prog X.w X.K X.mg X.base CX0 k f fd ps sp) (hr : Room (k + 1) X.A) (hb : Binds X.K fd ps [])
  (turn:∀ i x H,xs[i]?=some x→Same H0 H→sp [x] H (fun v H'=>Same H H'∧∃ a,v=.ref a∧SqT X.K H' a ((κ i).map V.int)) E0)
  (hl:SqL X.K H0 l xs) (hne:0<xs.length) (hQ:∀ i x H',xs[i]?=some x→Least κ xs.length i→Same H0 H'→Q x H') (I:Inv X pins σ H0 s) :
  wpAny (model X.prog X.w) X.A (call (.builtin "min") [.ref l] [(Str.ofString "key",.ref f)]) (EP X pins σ Q) X.xe s:=by
 have nm:(toString "min" ++ toString ".loop" : String) = "min.loop":=by decide
 obtain⟨its,rv,pl,hz⟩:=I.list hl
 have hlen:its.length=xs.length:=rv.length.symm
 have hll:l<s.heap.objs.size:=by obtain⟨o,ho,_⟩:=pl.isList;exact Heap.lt_size ho
 refine kmk_tree PySem.F.kind_min PySem.F.plain_min PySem.F.entry_min (kmk_min_key _ _) ?_
 show wpAny _ X.A.in1 (Builtin.Builtins.bindParams "min" ["key","default"] 0 ⟨[],[(Str.ofString "key",.ref f)]⟩ >>= _) _ _ s
 refine wpAny_bind (wpAny_of_eq (show Builtin.Builtins.bindParams "min" ["key","default"] 0 ⟨[],[(Str.ofString "key",.ref f)]⟩=pure [some (.ref f),none] from rfl) ?_)
 refine wpAny_bind (wpAny_pure ?_)
 refine wpAny_bind (wpAny_pyIter_list pl.isList ?_)
 refine wpAny_bind (wpAny_newList ?_ (Nat.zero_le _))
 rw[nm]
 refine wpAny_pure ⟨plainId_quiet PySem.F.plain_min_loop _,?_⟩
 have keep:∀ b o,s.heap.get? b=some o→((s.heap.push { cls:=.type "list_iterator",data:=.fields #[.ref l,.int 0 0] }).push (seqObj "list" #[] 0)).get? b=some o:=fun b o e=>Heap.get?_push_of_some _ (Heap.get?_push_of_some _ e)
 have gi:((s.heap.push { cls:=.type "list_iterator",data:=.fields #[.ref l,.int 0 0] }).push (seqObj "list" #[] 0)).get? s.heap.objs.size=some { cls:=.type "list_iterator",data:=.fields #[.ref l,.int 0 0] }:=Heap.get?_push_of_some _ (Heap.get?_push_size _ rfl)
 have hsS:(s.heap.push { cls:=.type "list_iterator",data:=.fields #[.ref l,.int 0 0] }).objs.size=s.heap.objs.size+1:=size_push' ..
 have gs:((s.heap.push { cls:=.type "list_iterator",data:=.fields #[.ref l,.int 0 0] }).push (seqObj "list" #[] 0)).get? (s.heap.objs.size+1)=some (seqObj "list" #[] 0):=by rw[← hsS];exact Heap.get?_push_size _ rfl
 rw[hsS]
 have I1:Inv X pins σ H0 { s with heap:=(s.heap.push { cls:=.type "list_iterator",data:=.fields #[.ref l,.int 0 0] }).push (seqObj "list" #[] 0) }:=I.kept (t':=s.toks) keep
 have fi:FpOk X pins H0 s.heap.objs.size:=I.fpOk (Nat.le_refl _) (I.hok.fresh (Nat.le_refl _))
 have fs:FpOk X pins H0 (s.heap.objs.size+1):=I.fpOk (Nat.le_succ _) (I.hok.fresh (Nat.le_succ _))
 have M0:MK0 X pins σ H0 _ s.heap.objs.size (s.heap.objs.size+1) l 0:=⟨I1,fi,fs,Nat.ne_of_gt (Nat.lt_succ_self _),⟨_,gi,rfl,rfl⟩,⟨0,gs⟩⟩
 have hli:l≠s.heap.objs.size:=Nat.ne_of_lt hll
 have W:=Walks.list (prog:=X.prog) (w:=X.w) (A:=X.A.in1) hh s.heap.objs.size l hli its.toArray
 refine codeAny_builtin PySem.F.entry_min_loop ?_
 rw[Around.under_plainId PySem.F.plain_min_loop _]
 show wpAny _ X.A.in1 (seqItems? (.ref _) >>= _) _ _ _
 refine wpAny_bind (wpAny_seqItems gs rfl ?_)
 show wpAny _ X.A.in1 (tryCatch (pyNext (.ref s.heap.objs.size)) _ >>= _) _ _ _
 obtain⟨its2,rv2,pl2,_⟩:=I1.list hl
 refine wpAny_bind (wpAny_tryCatch (W.item 0 _ _ _ (by rw[List.size_toArray,hlen];exact hne) ⟨M0.iter,pl.isList.at fun o e=>keep _ _ e⟩ fun v h1 tk1 hP hst1 hk1=>?_))
 have hv:its[0]?=some v:=by simpa using hP
 obtain⟨x,hx⟩:∃ x,xs[0]?=some x:=⟨_,List.getElem?_eq_getElem hne⟩
 obtain⟨v',hv',rx⟩:=rv.get hx
 rw[hv] at hv'
 cases hv'
 have M1:MK0 X pins σ H0 { s with heap:=h1,toks:=tk1 } s.heap.objs.size (s.heap.objs.size+1) l 1:=⟨I1.moved (t':=tk1) fi hk1,fi,fs,M0.ne,hst1.1,0,hk1 _ _ (by simp) gs⟩
 show wpAny _ X.A.in1 (tryCatch (holding [v] (call (.ref f) [v])) _ >>= _) _ _ _
 refine wpAny_bind (wpAny_tryCatch (wpAny_holding (wpAny_mono (zje F hr hb M1 rx (turn 0 x H0 hx (Same.refl _)) (E:=fun _ _=>False)) (fun kv s2 he=>?_) fun _ _ hF=>hF.elim)))
 obtain⟨y,H2,ry,⟨hS2,a2,ey,ka2⟩,M2⟩:=he
 subst ey
 cases (show kv=Value.ref a2 from ry)
 obtain⟨c2,hc2⟩:=M2.hold
 show wpAny _ X.A.in1 (updateSeq (s.heap.objs.size+1) (fun _=>#[v,.ref a2]) >>= _) _ _ _
 refine wpAny_bind ?_
 refine wpAny_updateSeq hc2 rfl ?_
 rw[nm]
 refine wpAny_pure ⟨plainId_quiet PySem.F.plain_min_loop _,?_⟩
 exact codeAny_mono (zjB hh F hr hb turn hl hli hQ _ 0 0 H2 _ v _ a2 rfl hne hS2 M2.set hx rx ka2 (Nat.le_refl _) (fun j hj=>by
  have e:j=0:=by lia
  subst e
  exact⟨HT.lexLt_irrefl _,fun z=>absurd z (Nat.lt_irrefl _)⟩)) fun r s' hr'=>hr'
end
end L2
namespace RK
open PySem PySem.W PyProof.Rows
variable {n:Nat}{ans:Nat→Nat→Bool}
def Leaf (n:Nat) (ans:Nat→Nat→Bool){α:Type}:KasT α→(α→Prop)→Prop
 | .ret a,G=>G a
 | .ask i j k,G=>i<n∧j<n∧Leaf n ans (k (ans i j)) G
theorem zct {α β:Type}{g:α→KasT β}{G:β→Prop}:∀ {t:KasT α},Leaf n ans t (fun a=>Leaf n ans (g a) G)→Leaf n ans (t.bind g) G
 | .ret _,h=>h
 | .ask _ _ _,h=>⟨h.1,h.2.1,zct h.2.2⟩
theorem zcs {α:Type}{G G':α→Prop}(hg:∀ a,G a→G' a):∀ {t:KasT α},Leaf n ans t G→Leaf n ans t G'
 | .ret _,h=>hg _ h
 | .ask _ _ _,h=>⟨h.1,h.2.1,zcs hg h.2.2⟩
theorem leaf_wp {α : Type}{cmp : Nat → Nat → (Bool → Shared → Prop) → Shared → Prop}{s : Shared}(hc : ∀ i j (C : Bool → Shared → Prop), i < n → j < n → C (ans i j) s → cmp i j C s){G : α → Prop}{Q : α → Shared → Prop}(hq : ∀ a, G a → Q a s) :
  ∀ {t:KasT α},Leaf n ans t G→t.kasWp cmp Q s
 | .ret _,h=>hq _ h
 | .ask i j _,h=>hc i j _ h.1 h.2.1 (leaf_wp hc hq h.2.2)
def Pm (n:Nat) (p:Array Nat):Prop:=p.Perm (List.toArray (List.range n))
theorem Pm.lt {p:Array Nat}(h:Pm n p) (hn:0<n) (i:Nat):p.getD i 0<n:=by
 by_cases hi:i<p.size
 ·have e:p.getD i 0=p[i]:=by simp[Array.getD,hi]
  rw[e]
  have hm:p[i]∈List.toArray (List.range n):=h.mem_iff.mp (Array.getElem_mem hi)
  simpa using hm
 ·have e:p.getD i 0=0:=by simp[Array.getD,hi]
  rw[e];exact hn
theorem Pm.rev {p:Array Nat}(h:Pm n p) (i j:Nat):Pm n (kas_rev p i j):=(mirror_perm _ _ _ _).trans h
theorem Pm.bub {p:Array Nat}(h:Pm n p) (i j:Nat):Pm n (bubble p i j):=(bubble_perm _ _ _).trans h
theorem zfD {p:Array Nat}(h:Pm n p) (hn:0<n):∀ f m,Leaf n ans (kas_asc p f m) fun _=>True
 | 0,_=>trivial
 | f+1,m=>by
  refine⟨h.lt hn _,h.lt hn _,?_⟩
  dsimp only
  split
  ·trivial
  ·exact zfD h hn f (m+1)
theorem zdf (hn:0<n):∀ f (p:Array Nat) m q,Pm n p→Leaf n ans (kas_desc f p m q) fun r=>Pm n r.1
 | 0,p,_,_,h=>h
 | f+1,p,m,q,h=>by
  refine⟨h.lt hn _,h.lt hn _,?_⟩
  dsimp only
  split
  ·split
   ·exact zdf hn f _ _ _ (h.rev _ _)
   ·exact zdf hn f _ _ _ h
  ·refine⟨h.lt hn _,h.lt hn _,?_⟩
   dsimp only
   split
   ·exact h
   ·exact zdf hn f _ _ _ h
theorem zeR (hn:0<n){p:Array Nat}(h:Pm n p) (m nrem:Nat):Leaf n ans (kas_tail3 m nrem p) fun r=>Pm n r.2 :=
 zct (zcs (fun a _=>h.rev 0 m) (zfD (h.rev 0 m) hn _ _))
theorem zde (hn:0<n){p:Array Nat}(h:Pm n p) (m nrem:Nat):Leaf n ans (kas_descPart m nrem p) fun r=>Pm n r.2:=by
 refine zct (zcs (fun r hr=>?_) (zdf hn _ _ _ _ h))
 split
 ·exact zeR hn (hr.rev _ _) _ _
 ·exact zeR hn hr _ _
theorem ziB (hn:0<n){p:Array Nat}(h:Pm n p) (nrem:Nat):Leaf n ans (kas_count nrem p) fun r=>Pm n r.2:=by
 refine zct (zcs (fun m _=>?_) (zfD h hn _ _))
 split
 ·exact h
 ·split
  ·refine⟨h.lt hn _,h.lt hn _,?_⟩
   dsimp only
   split
   ·exact h
   ·exact zde hn (h.rev _ _) _ _
  ·exact zde hn h _ _
theorem zdp (hn:0<n){p:Array Nat}(h:Pm n p) (k:Nat):∀ f l r,Leaf n ans (kas_place p k f l r) fun _=>True
 | 0,_,_=>trivial
 | f+1,l,r=>by
  unfold kas_place
  split
  ·trivial
  ·refine⟨h.lt hn _,h.lt hn _,?_⟩
   dsimp only
   split
   ·exact zdp hn h k f _ _
   ·exact zdp hn h k f _ _
theorem zhX (hn:0<n):∀ f (p:Array Nat) k,Pm n p→Leaf n ans (kas_bin f p k) fun q=>Pm n q
 | 0,p,_,h=>h
 | f+1,p,k,h=>zct (zcs (fun l _=>zhX hn f _ _ (h.bub _ _)) (zdp hn h k _ _ _))
theorem leaf_sort (hn:0<n):Leaf n ans (kas_sort n) fun p=>Pm n p:=by
 refine zct (zcs (fun r hr=>?_) (ziB hn (Array.Perm.refl _) n))
 split
 ·exact zhX hn _ _ _ hr
 ·exact hr
inductive Col:Value→Value→Int→Int→Prop where
 | int (a:Int) (t:Tok) (b:Int) (u:Tok):Col (.int a t) (.int b u) a b
 | bl (p q:Bool):Col (.bool p) (.bool q) (b2i p) (b2i q)
inductive Cols:List Value→List Value→List Int→List Int→Prop where
 | nil:Cols [] [] [] []
 | cons {u v:Value} {us vs:List Value} {a b:Int} {as bs:List Int}:Col u v a b→Cols us vs as bs→Cols (u::us) (v::vs) (a::as) (b::bs)
section
variable {prog:Program}{w:World}{A:Around}{s:Shared}{Q:Bool→Shared→Prop}
theorem zlv {u v:Value}{a b:Int}(c:Col u v a b){E:Value→Shared→Prop}(h:Q (decide (a=b)) s):wpAny (model prog w) A (eqBool u v) Q E s:=by
 cases c with
 | int _ t _ u =>
  refine wpAny_eqBool_int ?_
  rw[show (a == b)=decide (a=b) from by rw[Bool.beq_eq_decide_eq]];exact h
 | bl p q =>
  refine SeqAt.EqAt.bool_bool p q prog w E Q ?_
  have e:(p == q)=decide (b2i p=b2i q):=by cases p <;> cases q <;> decide
  rw[e];exact h
theorem zmG {u v:Value}{a b:Int}(c:Col u v a b){E:Value→Shared→Prop}(h:Q (decide (a<b)) s):wpAny (model prog w) A (oneLt' false u v) Q E s:=by
 cases c with
 | int _ t _ u=>exact kat_one _ _ (lt_int (show W.BoolBack Q (.bool (decide (a<b))) s from h))
 | bl p q=>exact kat_one _ _ (lt_bool (show W.BoolBack Q (.bool (decide (b2i p<b2i q))) s from h))
theorem zh0 {bb:Bool}:∀ {us vs:List Value}{as bs:List Int}(i:Nat),Cols us vs as bs→Q (HT.lexLt as bs) s→KatLex prog w A bb false Q (us.zip vs) (i+1) s
 | _,_,_,_,_,.nil,h=>kat_nil h
 | _,_,_,_,i,.cons (a:=a) (b:=b) (as:=as) (bs:=bs) c r,h=>by
  rw[HT.lexLt_cons] at h
  refine kat_cons (zlv c ?_)
  by_cases e:a=b
  ·rw[decide_eq_true e]
   rw[if_pos e] at h
   exact kat_yes (zh0 (i+1) r h)
  ·rw[decide_eq_false e]
   rw[if_neg e] at h
   refine kat_no ?_
   rw[show (bb && (i+1 == 0))=false by simp]
   exact zmG c h
theorem kat_cols0 {us vs:List Value}{as bs:List Int}{a b:Int}{t u:Tok}(r:Cols us vs as bs) (h:Q (HT.lexLt (a::as) (b::bs)) s):KatLex prog w A true false Q ((Value.int a t::us).zip (Value.int b u::vs)) 0 s:=by
 rw[HT.lexLt_cons] at h
 refine kat_cons (zlv (.int a t b u) ?_)
 by_cases e:a=b
 ·rw[decide_eq_true e]
  rw[if_pos e] at h
  exact kat_yes (zh0 0 r h)
 ·rw[decide_eq_false e]
  rw[if_neg e] at h
  exact kat_no (oneLt_int h)
end
end RK
namespace L2
open PySem PySem.Spec PyProof.Rows
section
variable {X:Cx}{k:Nat}{f:Addr}{fd:FuncData}{ps:List Str}{sp:Sp}{pins:List (Addr×Obj)}{σ:St}{H0:Hp}{Q:VK}
theorem Inv.adopt {H : Hp}{s : Shared}{D : Addr}{o : HO}{h' : Heap}{t' : Nat}(I : Inv X pins σ H s) (fb : FpOk X pins H D) (hk : ∀ b u, b ≠ D → s.heap.get? b = some u → h'.get? b = some u) (heo : ∃ u, h'.get? D = some u)
  (new:ObjOk X.prog X.w (upd H D o) h' D o):Inv X pins σ (upd H D o) { s with heap:=h',toks:=t' }:=by
 have hn:=fb.1
 have nit:∀ b u,H b=some u→b≠D:=fun b u e z=>by rw[z,hn] at e;cases e
 refine I.step (g':=s.gens) (d':=s.drawn) (ch:=[D]) (fun b hb=>?_) (fun b u _ _ hc e _=>hk b u (fun z=>hc (by simp[z])) e) (fun b u _ _ hc e _=>⟨u.slots,hk b u (fun z=>hc (by simp[z])) e⟩)
  (fun b u hc _ n=>by rw[zam (fun z=>hc (by simp[z]))];exact n)
  (fun b u hc e=>⟨u,hk b u (fun z=>hc (by simp[z])) e⟩) (fun b xs e=>by rw[zam (nit _ _ e)];exact e) (fun b u xs e=>by rw[zam (nit _ _ e)];exact e) (fun b ps e=>⟨#[],by rw[zam (nit _ _ e),e];simp⟩) (fun m hm=>?_) (fun b u e=>?_) I.bare
 ·have e:b=D:=by simpa using hb
  subst e
  exact⟨fb.2.2.2.1,fb.2.1,fb.2.2.2.2.1,fb.2.2.2.2.2⟩
 ·obtain⟨u,es,ep,ho,r⟩:=hm
  exact⟨u,es,ep,hk _ u (Ne.symm fb.2.1) ho,r⟩
 ·by_cases hb:b=D
  ·subst hb;rw[zaa] at e;cases e;exact new
  ·rw[zam hb] at e
   refine (I.hok b u e).stay (fun c v hc q=>hk c v ?_ q) (fun c q=>by rw[zam (nit _ _ q)];exact q) fun c xs q=>by rw[zam (nit _ _ q)];exact q
   rcases hc with z | z
   ·rw[z];exact nit b u e
   ·exact nit c _ z
theorem zlI {H : Hp}{s : Shared}{Q : VK}{us : List Value}{vs : List V}{E : Value → Shared → Prop}(F : FnOk X.prog X.w X.K X.mg X.base CX0 k f fd ps sp) (hr : Room (k + 1 + 1) X.A) (hb : Binds X.K fd ps [])
  (I:Inv X pins σ H s) (r:Vals vs us) (h:sp vs H Q E0):wpAny (model X.prog X.w) X.A.in1.in1 (call (.ref f) us) (EP X pins σ Q) E s:=by
 have hl:(us++[]).length=ps.length:=by rw[List.append_nil,← r.length];exact F.len _ _ _ _ h
 have hb':=hb s us I.kIn hl
 rw[List.append_nil] at hb'
 refine wpAny_call (codeAny_mono (F.run X.A.in1.in1 X.stack s H ⟨us,[]⟩ us vs Q E0 hr.in1.in1 I.env0.in1.in1 hb' r h) fun r s' hq=>?_)
 cases r with
 | error e=>exact False.elim hq
 | ok fl =>
  cases fl with
  | ret u=>exact I.after hq
  | next=>exact False.elim hq
  | brk=>exact False.elim hq
  | cont=>exact False.elim hq
inductive VCol:V→V→Int→Int→Prop where
 | int (a b:Int):VCol (.int a) (.int b) a b
 | bl (p q:Bool):VCol (.bl p) (.bl q) (b2i p) (b2i q)
inductive VCols:List V→List V→List Int→List Int→Prop where
 | nil:VCols [] [] [] []
 | cons {x y:V} {xs ys:List V} {a b:Int} {as bs:List Int}:VCol x y a b→VCols xs ys as bs→VCols (x::xs) (y::ys) (a::as) (b::bs)
theorem VCols.vals:∀ {xs ys:List V}{as bs:List Int}{us vs:List Value},VCols xs ys as bs→Vals xs us→Vals ys vs→RK.Cols us vs as bs
  | _,_,_,_,_,_,.nil,.nil,.nil=>.nil
  | _, _, _, _, _, _, .cons c r, .cons h t, .cons g q => .cons (by
      cases c with
      | int a b=>obtain⟨t,rfl⟩:=h;obtain⟨u,rfl⟩:=g;exact .int _ _ _ _
      | bl p q=>cases h;cases g;exact .bl _ _) (r.vals t q)
structure SK (X:Cx) (pins:List (Addr×Obj)) (σ:St) (H:Hp) (s:Shared) (D st:Addr) (e:Nat) (κV:Nat→List V) (ks:List Addr):Prop where
 inv:Inv X pins σ H s
 fd:FpOk X pins H D
 fs:FpOk X pins H st
 ne:st≠D
 hd:s.heap.get? D=some (seqObj "list" #[] e)
 hs:∃ c,s.heap.get? st=some (seqObj "list" (ks.map Value.ref).toArray c)
 hk:∀ i a,ks[i]?=some a→SqT X.K H a (κV i)
theorem zh5 {M : Model}{A : Around}{E : Value → Shared → Prop}{body : Value → PUnit → Sem (ForInStep PUnit)}{vs : List Value}(P : Nat → Shared → Prop)
  (hb:∀ i x s,vs[i]?=some x→P i s→wpAny M A (body x ⟨⟩) (fun r s'=>r=.yield ⟨⟩∧P (i+1) s') E s):∀ (r:List Value) (i:Nat) (s:Shared),vs.drop i=r→i≤vs.length→P i s →
   wpAny M A (forIn r PUnit.unit body) (fun _ s'=>P vs.length s') E s
 | [],i,s,hr,hi,h=>by
  rw[List.forIn_nil]
  have:vs.length≤i:=List.drop_eq_nil_iff.mp hr
  exact wpAny_pure (by rw[show vs.length=i by lia];exact h)
 | x::r,i,s,hr,hi,h=>by
  have hx:vs[i]?=some x:=by
   have:=congrArg (·[0]?) hr
   simpa using this
  have hlt:i<vs.length:=(List.getElem?_eq_some_iff.mp hx).1
  have hr':vs.drop (i+1)=r:=by rw[← List.tail_drop,hr];rfl
  rw[List.forIn_cons]
  refine wpAny_bind (wpAny_mono (hb i x s hx h) (fun q s' hq=>?_) fun _ _ e=>e)
  obtain⟨rfl,h'⟩:=hq
  exact zh5 P hb r (i+1) s' hr' hlt h'
end
section
variable {X:Cx}{pins:List (Addr×Obj)}{σ:St}{H:Hp}{s:Shared}{D st:Addr}{e:Nat}{κV:Nat→List V}{ks:List Addr}{E:Value→Shared→Prop}
def zih (X:Cx) (G:Array Nat→Prop) (ks vs:List Value) (E:Value→Shared→Prop) (s:Shared):Prop :=
 wpAny (model X.prog X.w) X.A.in1.in1 (keyKind' ks.toArray) (fun κ s0=>s0=s ∧
  wpAny (model X.prog X.w) X.A.in1.in1 ((sortRuns').run (SortSt.mk' κ (ks.toArray.zip vs.toArray) #[] 7 none)) (fun r s'=>s'=s∧failedOf r.2=none∧∃ p:Array Nat,G p∧p.size=vs.length∧arrOf r.2=p.map (W.kas_item (ks.toArray.zip vs.toArray))) E s) E s
theorem zjJ {as : List Addr}(I : Inv X pins σ H s) : ∀ {ks : List Addr}{vs : List (List V)}{ns : List Int}, (∀ (i : Nat) (a : Addr), ks[i]? = some a → ∃ n r, ns[i]? = some n ∧ SqT X.K H a (.int n :: r)) → ns.length = ks.length →
  ∃ fs:List Value,W.KatTups s.heap (ks.map Value.ref) fs∧fs.length=ks.length∧∀ v∈fs,∃ n t,v=Value.int n t
 | [],_,_,_,_=>⟨[],.nil,rfl,fun _ h=>nomatch h⟩
 | a::r,vs,[],_,h=>by cases h
 | a::r,vs,n::ns,hk,h=>by
  obtain⟨m,q,e1,hq⟩:=hk 0 a rfl
  obtain⟨fs,t,hl,hi⟩:=zjJ (as:=as) (vs:=vs) I (ks:=r) (ns:=ns) (fun i b hb=>by simpa using hk (i+1) b (by simpa using hb)) (by simpa using h)
  obtain⟨its,rv,⟨o,ho,hc,c,hd⟩,_⟩:=I.tuple hq
  cases rv with
  | cons rx rr =>
   obtain⟨t1,rfl⟩:=rx
   refine⟨Value.int m t1::fs,.cons ho hc hd (by simp) t,by simp[hl],fun v hv=>?_⟩
   rcases List.mem_cons.mp hv with rfl | hv
   ·exact⟨_,_,rfl⟩
   ·exact hi v hv
theorem zmF {vs : List Value}{κ : Nat → List Int}(K : SK X pins σ H s D st e κV ks) (hl : ks.length = vs.length) (h2 : 2 ≤ vs.length) (h64 : vs.length < 64)
  (hcol:∀ i j,i<ks.length→j<ks.length→∃ n m r q rn rm,κV i=.int n::r∧κV j=.int m::q∧VCols r q rn rm∧κ i=n::rn∧κ j=m::rm) :
  zih X (RK.Pm vs.length) (ks.map Value.ref) vs E s:=by
 unfold zih
 obtain⟨fs,kt,hfl,hfi⟩:=zjJ (as:=[]) (vs:=[]) K.inv (ks:=ks) (ns:=(List.range ks.length).map fun i=>((κ i).headD 0)) (fun i a ha=>by
  have hi:i<ks.length:=(List.getElem?_eq_some_iff.mp ha).1
  obtain⟨n,m,r,q,rn,rm,e1,_,_,e2,_⟩:=hcol i i hi hi
  refine⟨n,r,?_,?_⟩
  ·rw[List.getElem?_map,List.getElem?_range hi,Option.map_some,e2];rfl
  ·rw[← e1];exact K.hk i a ha) (by simp)
 refine W.kat_kind (T:=.type "int") kt (by lia) (fun v hv=>?_) rfl ⟨rfl,?_⟩
 ·obtain⟨n,t,rfl⟩:=hfi v hv
  exact .now
 have hl':(ks.map Value.ref).length=vs.length:=by simp[hl]
 refine W.kat_run (G:=fun p s'=>s'=s∧RK.Pm vs.length p) (Q:=fun st' s'=>s'=s∧failedOf st'=none∧∃ p:Array Nat,RK.Pm vs.length p∧p.size=vs.length∧arrOf st'=p.map (W.kas_item ((ks.map Value.ref).toArray.zip vs.toArray))) hl' h2 h64
  (fun p st' s' hp ha hf g=>⟨g.1,hf,p,g.2,hp,ha⟩) ?_
 refine RK.leaf_wp (n:=vs.length) (ans:=fun i j=>HT.lexLt (κ i) (κ j)) (G:=RK.Pm vs.length) (fun i j C hi hj hc=>?_) (fun a ha=>⟨rfl,ha⟩) (RK.leaf_sort (by lia))
 unfold W.kas_ask
 obtain⟨n,m,r,q,rn,rm,e1,e2,vc,e3,e4⟩:=hcol i j (by lia) (by lia)
 have hi':i<ks.length:=by lia
 have hj':j<ks.length:=by lia
 have k1:=K.hk i ks[i] (by simp[hi'])
 have k2:=K.hk j ks[j] (by simp[hj'])
 rw[e1] at k1
 rw[e2] at k2
 rw[show (ks.map Value.ref).getD i Value.none=Value.ref ks[i] by simp[hi'],show (ks.map Value.ref).getD j Value.none=Value.ref ks[j] by simp[hj']]
 obtain⟨its,rv,⟨o,ho,hcl,c,hd⟩,_⟩:=K.inv.tuple k1
 obtain⟨its2,rv2,⟨o2,ho2,hcl2,c2,hd2⟩,_⟩:=K.inv.tuple k2
 refine W.kat_lt ho hd ho2 hd2 ?_
 cases rv with
 | cons rx rr =>
  cases rv2 with
  | cons rx2 rr2 =>
   obtain⟨t1,rfl⟩:=rx
   obtain⟨t2,rfl⟩:=rx2
   have cs:=vc.vals rr rr2
   have hlen:∀ {us vs:List Value} {as bs:List Int},RK.Cols us vs as bs→us.length=vs.length:=fun c=>by induction c with
    | nil=>rfl
    | cons _ _ ih=>simp[ih]
   simp only[List.size_toArray,List.length_cons,hlen cs,Nat.lt_irrefl,decide_false]
   refine RK.kat_cols0 cs ?_
   rw[e3,e4] at hc
   exact hc
end
section
variable {X:Cx}{k:Nat}{f:Addr}{fd:FuncData}{ps:List Str}{sp:Sp}{pins:List (Addr×Obj)}{σ:St}{H0 H:Hp}{s:Shared}{D st l:Addr}{e:Nat}{κV:Nat→List V}{ks:List Addr}{E:Value→Shared→Prop}{G:Array Nat→Prop}{xs:List V}{vs:List Value}{Q:VK}
def outV (xs:List V) (p:Array Nat):List V:=p.toList.map fun i=>xs.getD i .non
theorem ziQ {xs:List V}{vs:List Value}(r:Vals xs vs) (i:Nat) (hi:i<xs.length):RelV (xs.getD i .non) (vs.getD i Value.none):=by
 have hx:xs[i]?=some xs[i]:=by simp[hi]
 obtain⟨u,hu,ru⟩:=r.get hx
 rw[List.getD_eq_getElem?_getD,hx,List.getD_eq_getElem?_getD,hu]
 exact ru
theorem zhv {xs:List V}{vs:List Value}(r:Vals xs vs):∀ (l:List Nat),(∀ i∈l,i<xs.length)→Vals (l.map fun i=>xs.getD i .non) (l.map fun i=>vs.getD i Value.none)
 | [],_=>.nil
 | i::t,h=>.cons (ziQ r i (h i List.mem_cons_self)) (zhv r t fun j hj=>h j (List.mem_cons_of_mem _ hj))
theorem zg8 {p:Array Nat}:(outV xs p).length=p.size:=by unfold outV;simp
theorem zlD {P : PySem.Fin → Shared → Prop}{so : SortSt}{out : List Value}{ys : List V}(K : SK X pins σ H s D st e κV ks) (hks : ks.length ≤ sizeLine) (ho : (arrOf so).map (·.2) = out.toArray) (ry : Vals ys out) (hz : ys.length ≤ sizeLine) (hf : failedOf so = none)
  (h:∀ s',Inv X pins σ (upd H D (.lst ys)) s'→P (.done (.ret .none)) s'):wpAny (model X.prog X.w) X.A.in1.in1 (ksk_tail D false e (.ref st) so) P E s:=by
 obtain⟨c,hc⟩:=K.hs
 have hzo:out.length≤sizeLine:=by rw[← ry.length];exact hz
 have s1:=Heap.SameBut.update s.heap st (Obj.mapSeq fun _=>(#[]:Array Value))
 have hd1:(s.heap.update st (Obj.mapSeq fun _=>(#[]:Array Value))).get? D=some (seqObj "list" #[] e):=(s1.2 D K.ne.symm).trans K.hd
 have s2:=Heap.SameBut.update (s.heap.update st (Obj.mapSeq fun _=>(#[]:Array Value))) D (Obj.mapSeq fun _=>out.toArray)
 obtain⟨c2,hc2⟩:∃ c2,((s.heap.update st (Obj.mapSeq fun _=>(#[]:Array Value))).update D (Obj.mapSeq fun _=>out.toArray)).get? D=some (seqObj "list" out.toArray c2):=⟨_,get?_update_seq hd1 fun _=>out.toArray⟩
 unfold ksk_tail
 try dsimp only
 rw[ho]
 refine wpAny_bind (listUpdate_at hc rfl ?_ (by simpa using hks) (Nat.zero_le _))
 refine wpAny_bind (wpAny_letGo ?_)
 refine wpAny_bind (seqEpoch_at hd1 rfl ?_)
 simp only[Bool.false_eq_true,if_false]
 refine wpAny_bind (listUpdate_at hd1 rfl ?_ (Nat.zero_le _) (by simp;lia))
 rw[hf]
 simp only[bne_self_eq_false,Bool.false_eq_true,if_false]
 refine wpAny_pure (h _ ?_)
 have I1:Inv X pins σ H { s with heap:=s.heap.update st (Obj.mapSeq fun _=>(#[]:Array Value)) }:=K.inv.moved (t':=s.toks) K.fs (fun b o hb e=>(s1.2 b fun z=>hb (by simp[z])).trans e)
 exact I1.adopt (t':=s.toks) K.fd (fun b u hb q=>(s2.2 b hb).trans q) ⟨_,hc2⟩ ⟨hz,out,c2,ry,hc2⟩
theorem zmd {P : PySem.Fin → Shared → Prop}(K : SK X pins σ H s D st e κV ks) (hl : ks.length = vs.length) (r : Vals xs vs) (hz : xs.length ≤ sizeLine) (hG : ∀ p, G p → ∀ i ∈ p.toList, i < xs.length)
  (h0:vs.length<2→G (List.toArray (List.range vs.length))) (core:2≤vs.length→zih X G (ks.map Value.ref) vs E s)
  (h:∀ p s',G p→p.size=xs.length→Inv X pins σ (upd H D (.lst (outV xs p))) s'→P (.done (.ret .none)) s'):wpAny (model X.prog X.w) X.A.in1.in1 (ksk_end D false vs.toArray e (.ref st) (ks.map Value.ref).toArray) P E s:=by
 have hlx:xs.length=vs.length:=r.length
 have hl':(ks.map Value.ref).length=vs.length:=by simp[hl]
 have fin:∀ (p:Array Nat) (so:SortSt),G p→p.size=vs.length→arrOf so=p.map (W.kas_item ((ks.map Value.ref).toArray.zip vs.toArray))→failedOf so=none→wpAny (model X.prog X.w) X.A.in1.in1 (ksk_tail D false e (.ref st) so) P E s:=fun p so g hp ha hf =>
  zlD K (by lia) (W.kat_snds hl' ha) (ys:=outV xs p) (zhv r _ (hG p g)) (by rw[zg8];lia) hf fun s' I'=>h p s' g (by lia) I'
 unfold ksk_end
 try dsimp only
 simp only[Bool.false_eq_true,if_false]
 by_cases h2:vs.length<2
 ·have h2':vs.toArray.size<2:=by simpa using h2
  rw[if_pos h2',if_pos h2']
  refine wpAny_bind (wpAny_pure ?_)
  show wpAny (model X.prog X.w) X.A.in1.in1 (pure ((),SortSt.mk' general' ((ks.map Value.ref).toArray.zip vs.toArray) #[] 7 none) >>= _) P E s
  refine wpAny_bind (wpAny_pure ?_)
  try dsimp only
  refine fin (List.toArray (List.range vs.length)) _ (h0 h2) (by simp) ?_ rfl
  have:=W.kas_range ((ks.map Value.ref).toArray.zip vs.toArray)
  rw[show ((ks.map Value.ref).toArray.zip vs.toArray).size=vs.length by simp[hl]] at this
  exact this.symm
 ·have h2':¬ vs.toArray.size<2:=by simpa using h2
  rw[if_neg h2',if_neg h2']
  refine wpAny_bind (wpAny_mono (core (by lia)) (fun κ s0 hk=>?_) fun _ _ z=>z)
  obtain⟨rfl,hk⟩:=hk
  refine wpAny_bind (wpAny_mono hk (fun r' s' hr=>?_) fun _ _ z=>z)
  obtain⟨rfl,hf,p,g,hp,ha⟩:=hr
  obtain⟨⟨⟩,so⟩:=r'
  try dsimp only
  exact fin p so g hp ha hf
theorem zlE {P : PySem.Fin → Shared → Prop}(F : FnOk X.prog X.w X.K X.mg X.base CX0 k f fd ps sp) (hr : Room (k + 1 + 1) X.A) (hb : Binds X.K fd ps [])
    (turn:∀ i x H,xs[i]?=some x→Same H0 H→sp [x] H (fun v H'=>Same H H'∧∃ a,v=.ref a∧SqT X.K H' a (κV i)) E0)
    (K:SK X pins σ H0 s D st e κV []) (r:Vals xs vs) (hz:xs.length≤sizeLine)
    (h:∀ H' s' ks,ks.length=vs.length→Same H0 H'→SK X pins σ H' s' D st e κV ks→wpAny (model X.prog X.w) X.A.in1.in1 (ksk_end D false vs.toArray e (.ref st) (ks.map Value.ref).toArray) P E s') :
    wpAny (model X.prog X.w) X.A.in1.in1 (ksk_rest D (.ref f) false vs.toArray e (.ref st)) P E s:=by
  have hlx:xs.length=vs.length:=r.length
  unfold ksk_rest
  refine wpAny_bind (wpAny_rule ?_)
  rw[List.forIn_toArray]
  refine wpAny_bind (wpAny_mono (zh5 (vs:=vs) (fun i s'=>∃ H' ks,ks.length=i∧Same H0 H'∧SK X pins σ H' s' D st e κV ks) (fun i x s1 hx hP=>?_) vs 0 s rfl (Nat.zero_le _) ⟨H0,[],rfl,Same.refl _,K⟩) (fun _ s' hd=>?_) fun _ _ z=>z)
  · obtain⟨H1,ks,hkl,hS,K1⟩:=hP
    have hi:i<xs.length:=by rw[hlx];exact (List.getElem?_eq_some_iff.mp hx).1
    have hxx:xs[i]?=some xs[i]:=by simp[hi]
    obtain⟨u,hu,ru⟩:=r.get hxx
    rw[hx] at hu
    cases hu
    obtain⟨c,hc⟩:=K1.hs
    have I1 : Inv X (pins ++ zdz [D, st] s1.heap) σ H1 s1 := K1.inv.pinned (fun b hb => by
        rcases List.mem_cons.mp hb with rfl | hb
        · exact K1.fd
        · rw[List.mem_singleton.mp hb];exact K1.fs) (fun b hb=>by
        rcases List.mem_cons.mp hb with rfl | hb
        · exact⟨_,K1.hd,zcQ⟩
        · rw[List.mem_singleton.mp hb];exact⟨_,hc,zcQ⟩)
    refine wpAny_bind (wpAny_attempt (wpAny_mono (zlI F hr hb I1 (.cons ru .nil) (turn i _ H1 hxx hS) (E:=fun _ _=>False)) (fun v s2 hv=>?_) fun _ _ hF=>hF.elim))
    obtain⟨y,H2,I2,ry,hS2,a,ey,ka⟩:=hv
    subst ey
    cases (show v=Value.ref a from ry)
    have p1:=I2.pin (D,seqObj "list" #[] e) (List.mem_append_right _ (List.mem_append_right _ (zbl (by simp) K1.hd)))
    have p2:=I2.pin (st,seqObj "list" (ks.map Value.ref).toArray c) (List.mem_append_right _ (List.mem_append_right _ (zbl (by simp) hc)))
    have sb:=Heap.SameBut.update s2.heap st (Obj.mapSeq (·.push (Value.ref a)))
    have ea:(ks.map Value.ref).toArray.push (Value.ref a)=((ks++[a]).map Value.ref).toArray:=by simp
    obtain⟨c2,hc2⟩:∃ c2,(s2.heap.update st (Obj.mapSeq (·.push (Value.ref a)))).get? st=some (seqObj "list" ((ks++[a]).map Value.ref).toArray c2):=⟨_,by rw[← ea];exact get?_update_seq p2.1 (·.push (Value.ref a))⟩
    try dsimp only
    refine wpAny_bind (listUpdate_at p2.1 rfl ?_ (by simp;lia) (by simp;lia))
    refine wpAny_pure ⟨rfl,H2,ks++[a],by simp[hkl],hS.trans hS2,I2.unpinned.moved (t':=s2.toks) (K1.fs.again p2.2.1) (fun b o hb e=>(sb.2 b fun z=>hb (by simp[z])).trans e),K1.fd.again p1.2.1,K1.fs.again p2.2.1,K1.ne,(sb.2 D K1.ne.symm).trans p1.1,⟨c2,hc2⟩,fun j b hj=>?_⟩
    rcases Nat.lt_or_ge j ks.length with hjl | hjl
    · rw[List.getElem?_append_left hjl] at hj
      exact hS2.seqT (K1.hk j b hj)
    · rw[List.getElem?_append_right hjl] at hj
      have hj0:j - ks.length=0:=by
        have:=(List.getElem?_eq_some_iff.mp hj).1
        simp at this;lia
      rw[hj0] at hj
      cases Option.some.inj hj
      rw[show j=i by lia];exact ka
  · obtain⟨H',ks,hkl,hS,K'⟩:=hd
    obtain⟨c,hc⟩:=K'.hs
    try dsimp only
    refine wpAny_bind (listItems_at hc rfl ?_)
    exact h H' s' ks hkl hS K'
theorem zlC {P : PySem.Fin → Shared → Prop}{c0 : Nat}(F : FnOk X.prog X.w X.K X.mg X.base CX0 k f fd ps sp) (hr : Room (k + 1 + 1) X.A) (hb : Binds X.K fd ps [])
  (turn:∀ i x H,xs[i]?=some x→Same H0 H→sp [x] H (fun v H'=>Same H H'∧∃ a,v=.ref a∧SqT X.K H' a (κV i)) E0)
  (I:Inv X pins σ H0 s) (fb:FpOk X pins H0 D) (hd:s.heap.get? D=some (seqObj "list" vs.toArray c0)) (r:Vals xs vs) (hz:xs.length≤sizeLine)
  (h:∀ e H' s' ks st,ks.length=vs.length→Same H0 H'→SK X pins σ H' s' D st e κV ks→wpAny (model X.prog X.w) X.A.in1.in1 (ksk_end D false vs.toArray e (.ref st) (ks.map Value.ref).toArray) P E s') :
  wpAny (model X.prog X.w) X.A.in1.in1 (ksk_tree D (.ref f) false) P E s:=by
 have hlx:xs.length=vs.length:=r.length
 have s1:=Heap.SameBut.update s.heap D (Obj.mapSeq fun _=>(#[]:Array Value))
 obtain⟨e1,ho1⟩:∃ e1,(s.heap.update D (Obj.mapSeq fun _=>(#[]:Array Value))).get? D=some (seqObj "list" #[] e1):=⟨_,get?_update_seq hd fun _=>#[]⟩
 have hDl:D<s.heap.objs.size:=Heap.lt_size hd
 unfold ksk_tree
 refine wpAny_bind (listItems_at hd rfl ?_)
 refine wpAny_bind (listUpdate_at hd rfl ?_ (by simp;lia) (Nat.zero_le _))
 refine wpAny_bind (seqEpoch_at ho1 rfl ?_)
 refine wpAny_bind (wpAny_newTuple ?_ (by simp;lia))
 refine wpAny_bind (wpAny_newList ?_ (Nat.zero_le _))
 refine wpAny_holding ?_
 have I1:Inv X pins σ H0 { s with heap:=s.heap.update D (Obj.mapSeq fun _=>(#[]:Array Value)) }:=I.moved (t':=s.toks) fb (fun b o hb e=>(s1.2 b fun z=>hb (by simp[z])).trans e)
 have keep:∀ b o,(s.heap.update D (Obj.mapSeq fun _=>(#[]:Array Value))).get? b=some o→(((s.heap.update D (Obj.mapSeq fun _=>(#[]:Array Value))).push (seqObj "tuple" vs.toArray.toList.toArray 0)).push (seqObj "list" #[] 0)).get? b=some o:=fun b o q=>Heap.get?_push_of_some _ (Heap.get?_push_of_some _ q)
 have hsz:((s.heap.update D (Obj.mapSeq fun _=>(#[]:Array Value))).push (seqObj "tuple" vs.toArray.toList.toArray 0)).objs.size=s.heap.objs.size+1:=by rw[size_push',Heap.size_update]
 have I2:Inv X pins σ H0 { s with heap:=((s.heap.update D (Obj.mapSeq fun _=>(#[]:Array Value))).push (seqObj "tuple" vs.toArray.toList.toArray 0)).push (seqObj "list" #[] 0) }:=I1.kept (t':=s.toks) keep
 show wpAny (model X.prog X.w) X.A.in1.in1 (ksk_rest D (.ref f) false vs.toArray _ (.ref ((s.heap.update D (Obj.mapSeq fun _=>(#[]:Array Value))).push (seqObj "tuple" vs.toArray.toList.toArray 0)).objs.size)) P E { s with heap:=((s.heap.update D (Obj.mapSeq fun _=>(#[]:Array Value))).push (seqObj "tuple" vs.toArray.toList.toArray 0)).push (seqObj "list" #[] 0) }
 rw[hsz]
 have hss:(((s.heap.update D (Obj.mapSeq fun _=>(#[]:Array Value))).push (seqObj "tuple" vs.toArray.toList.toArray 0)).push (seqObj "list" #[] 0)).get? (s.heap.objs.size+1)=some (seqObj "list" #[] 0):=by rw[← hsz];exact Heap.get?_push_size _ rfl
 exact zlE F hr hb turn ⟨I2,fb,I.fpOk (Nat.le_succ _) (I.hok.fresh (Nat.le_succ _)),Nat.ne_of_gt (Nat.lt_succ_of_lt hDl),keep _ _ ho1,⟨0,by simpa using hss⟩,fun i a ha=>by simp at ha⟩ r hz fun H' s' ks a b c=>h _ H' s' ks _ a b c
end
section
variable {X:Cx}{k:Nat}{f:Addr}{fd:FuncData}{ps:List Str}{sp:Sp}{pins:List (Addr×Obj)}{σ:St}{H0:Hp}{s:Shared}{l:Addr}{κV:Nat→List V}{G:Array Nat→Prop}{xs:List V}{Q:VK}
theorem ziI (F : FnOk X.prog X.w X.K X.mg X.base CX0 k f fd ps sp) (hr : Room (k + 1 + 1) X.A) (hb : Binds X.K fd ps [])
  (turn:∀ i x H,xs[i]?=some x→Same H0 H→sp [x] H (fun v H'=>Same H H'∧∃ a,v=.ref a∧SqT X.K H' a (κV i)) E0)
  (hl:SqL X.K H0 l xs) (hG:∀ p,G p→∀ i∈p.toList,i<xs.length) (h0:xs.length<2→G (List.toArray (List.range xs.length)))
  (core:∀ {vs:List Value} {ks:List Addr} {H':Hp} {s':Shared} {D st:Addr} {e:Nat},Vals xs vs→SK X pins σ H' s' D st e κV ks→ks.length=vs.length→2≤vs.length→zih X G (ks.map Value.ref) vs X.xe s')
  (hQ:∀ p D H',G p→p.size=xs.length→H0 D=none→Same H0 H'→H' D=some (.lst (outV xs p))→Q (.ref D) H') (I:Inv X pins σ H0 s) :
  wpAny (model X.prog X.w) X.A (call (.builtin "sorted") [.ref l] [(Str.ofString "key",.ref f)]) (EP X pins σ Q) X.xe s:=by
 obtain⟨vs,r,pl,hz⟩:=I.list hl
 have hlx:xs.length=vs.length:=r.length
 refine call_function_entry_kw kind_sorted plain_sorted entry_sorted (ksk_s1 _ _) ?_
 unfold Builtin.«sorted»
 refine wpAny_bind (m:=checkCount "sorted" 1 1 _) (wpAny_pure ?_)
 refine wpAny_bind (collect_list pl.isList ?_ (by first | lia | (rw[List.size_toArray];lia) | (simp;lia)))
 refine wpAny_bind (wpAny_newList ?_ (by first | lia | (rw[List.size_toArray];lia) | (simp;lia)))
 have hsz:((s.heap.push (seqObj "list" #[] 0)).update s.heap.objs.size (Obj.mapSeq (·++vs.toArray))).objs.size=s.heap.objs.size+1:=by rw[Heap.size_update,size_push']
 have hoL:(((s.heap.push (seqObj "list" #[] 0)).update s.heap.objs.size (Obj.mapSeq (·++vs.toArray))).push (seqObj "list" vs.toArray 0)).get? (s.heap.objs.size+1)=some (seqObj "list" vs.toArray 0):=by
  rw[← hsz];exact Heap.get?_push_size _ rfl
 have keep:∀ b o,s.heap.get? b=some o→(((s.heap.push (seqObj "list" #[] 0)).update s.heap.objs.size (Obj.mapSeq (·++vs.toArray))).push (seqObj "list" vs.toArray 0)).get? b=some o:=fun b o q=>by
  have hlt:b<s.heap.objs.size:=Heap.lt_size q
  rw[Heap.get?_push_ne _ _ _ (by rw[hsz];exact Nat.ne_of_lt (Nat.lt_succ_of_lt hlt)),Heap.get?_update_ne _ _ _ _ (Nat.ne_of_lt hlt),Heap.get?_push_ne _ _ _ (Nat.ne_of_lt hlt)]
  exact q
 show wpAny _ _ _ _ _ { s with heap:=((s.heap.push (seqObj "list" #[] 0)).update s.heap.objs.size (Obj.mapSeq (·++vs.toArray))).push (seqObj "list" vs.toArray 0) }
 rw[hsz]
 refine wpAny_bind (wpAny_holding (wpAny_call_entry_kw slot_list_sort ⟨_,hoL,rfl⟩ entry_list_sort ?body (ksk_l1 _ _)))
 case body =>
  show wpAny (model X.prog X.w) X.A.in1.in1 (Builtin.«list.sort» ⟨[.ref (s.heap.objs.size+1)],[(Str.ofString "key",.ref f)]⟩) _ _ _
  rw[ksk_t1]
  have I1:Inv X pins σ H0 { s with heap:=((s.heap.push (seqObj "list" #[] 0)).update s.heap.objs.size (Obj.mapSeq (·++vs.toArray))).push (seqObj "list" vs.toArray 0) }:=I.kept (t':=s.toks) keep
  have hDn:H0 (s.heap.objs.size+1)=none:=I.hok.fresh (Nat.le_succ _)
  refine zlC F hr hb turn I1 (I.fpOk (Nat.le_succ _) hDn) hoL r hz fun e H' s' ks st hks hS K=>?_
  refine zmd K hks r hz hG (fun h2=>by rw[← hlx];exact h0 (by lia)) (core r K hks) fun p s2 g hp I2=>⟨_,rfl,?_⟩
  refine wpAny_pure ⟨_,rfl,.ref (s.heap.objs.size+1),_,I2,rfl,hQ p _ _ g hp hDn (fun b o q=>?_) zaa⟩
  rw[zam (zaq q hDn)]
  exact hS b o q
end
section
variable {X:Cx}{x:Str}{p pos kp kpos:Pos}{e:Expr}{te:TE}{k:Nat}{f:Addr}{fd:FuncData}{ps:List Str}{sp:Sp}{fn:Str}
def tMinK (K:W.Frag) (te:TE) (sp:Sp):TE:=fun σ H Q=>te σ H fun v H1=>∃ l xs,∃ κ:Nat→List Int,[v]=[V.ref l]∧SqL K H1 l xs∧0<xs.length ∧
 (∀ i x H2,xs[i]?=some x→Same H1 H2→sp [x] H2 (fun v H'=>Same H2 H'∧∃ a,v=.ref a∧SqT K H' a ((κ i).map V.int)) E0)∧∀ i x H',xs[i]?=some x→Least κ xs.length i→Same H1 H'→Q x H'
theorem zlN (F : FnOk X.prog X.w X.K X.mg X.base CX0 k f fd ps sp) (hr : Room (k + 1) X.A) (hb : Binds X.K fd ps []) (hg : Gl X "min") (hm : X.mg "min" = none) (hgf : Gl X fn) (hmf : X.mg fn = some (.ref f)) (he : PE X e te)
  (hdb:(fn == ("__debug__" : Str))=false:=by decide) (hse:starEach [e] X.env=[(false,eval e X.env)]:=by rfl) (hh:X.calm=true:=by rfl)
  (hall:(backToKw pos (keywordEach [⟨some "key",.Name fn kp,kpos⟩] X.env)).all (·.1.isSome)=true:=by rfl) (hkw:(backToKw pos (keywordEach [⟨some "key",.Name fn kp,kpos⟩] X.env)).any (·.1.isNone)=false:=by rfl)
  (hks:(backToKw pos (keywordEach [⟨some "key",.Name fn kp,kpos⟩] X.env)).filterMap (·.1)=[Str.ofString "key"]:=by rfl) :
  PE X (.Call (.Name "min" p) [e] [⟨some "key",.Name fn kp,kpos⟩] pos) (tMinK X.K te sp):=by
 intro pins s σ H Q I h
 refine wpAny_Call_Name_kw (zcV I hg hm boot_min ?_ (by decide) (by decide))
 refine callWith_kw (thn (zaj he zac (hs:=hse) pos pins s σ H (fun vs H1=>∃ l xs,∃ κ:Nat→List Int,vs=[V.ref l]∧SqL X.K H1 l xs∧0<xs.length ∧
  (∀ i x H2,xs[i]?=some x→Same H1 H2→sp [x] H2 (fun v H'=>Same H2 H'∧∃ a,v=.ref a∧SqT X.K H' a ((κ i).map V.int)) E0)∧∀ i x H',xs[i]?=some x→Least κ xs.length i→Same H1 H'→Q x H') I ?_) fun us s1 ⟨vs,H1,I1,r,q⟩=>?_) (by rw[hse];rfl) (by rw[hse];rfl) hall hkw
 ·show te σ H _
  exact h
 ·obtain⟨l,xs,κ,rfl,hq,hne,turn,hQ⟩:=q
  obtain⟨u,rfl,ru⟩:=Vals.one r
  cases (show u=Value.ref l from ru)
  refine thn (zjl (nm:=some "key") (kpos:=kpos) (zcY (v:=.ref f) hgf hmf rfl hdb) zli pos pins s1 σ H1 (fun zs H2=>zs=[.ref f]∧H2=H1) I1 ⟨rfl,rfl⟩) fun ws s2 ⟨zs,H2,I2,rz,q2⟩=>?_
  obtain⟨rfl,rfl⟩:=q2
  obtain⟨u2,rfl,ru2⟩:=Vals.one rz
  cases (show u2=Value.ref f from ru2)
  rw[hks]
  exact zj2 (I1.ok.hd hh) F hr hb turn hq hne hQ I2
theorem zkF {xs:List V}{p:Array Nat}(g:RK.Pm xs.length p):(outV xs p).Perm xs:=by
 have h1:p.toList.Perm (List.range xs.length):=by
  have:=Array.perm_iff_toList_perm.mp g
  simpa using this
 have h2:((List.range xs.length).map fun i=>xs.getD i V.non)=xs:=by
  apply List.ext_getElem
  ·simp
  ·intro i h1 h2
   simp[show i<xs.length by simpa using h1]
 have h3:=h1.map fun i=>xs.getD i V.non
 rw[h2] at h3
 exact h3
def zl6 (K:W.Frag) (te:TE) (sp:Sp):TE:=fun σ H Q=>te σ H fun v H1=>∃ l xs,∃ κV:Nat→List V,∃ κ:Nat→List Int,[v]=[V.ref l]∧SqL K H1 l xs∧xs.length<64 ∧
 (∀ i x H2,xs[i]?=some x→Same H1 H2→sp [x] H2 (fun v H'=>Same H2 H'∧∃ a,v=.ref a∧SqT K H' a (κV i)) E0) ∧
 (∀ i j,i<xs.length→j<xs.length→∃ n m r q rn rm,κV i=.int n::r∧κV j=.int m::q∧VCols r q rn rm∧κ i=n::rn∧κ j=m::rm)∧∀ ys D H',ys.Perm xs→H1 D=none→Same H1 H'→H' D=some (.lst ys)→Q (.ref D) H'
theorem zkG (F : FnOk X.prog X.w X.K X.mg X.base CX0 k f fd ps sp) (hr : Room (k + 1 + 1) X.A) (hb : Binds X.K fd ps []) (hg : Gl X "sorted") (hm : X.mg "sorted" = none) (hgf : Gl X fn) (hmf : X.mg fn = some (.ref f)) (he : PE X e te)
  (hdb:(fn == ("__debug__" : Str))=false:=by decide) (hse:starEach [e] X.env=[(false,eval e X.env)]:=by rfl) (hh:X.calm=true:=by rfl)
  (hall:(backToKw pos (keywordEach [⟨some "key",.Name fn kp,kpos⟩] X.env)).all (·.1.isSome)=true:=by rfl) (hkw:(backToKw pos (keywordEach [⟨some "key",.Name fn kp,kpos⟩] X.env)).any (·.1.isNone)=false:=by rfl)
  (hks:(backToKw pos (keywordEach [⟨some "key",.Name fn kp,kpos⟩] X.env)).filterMap (·.1)=[Str.ofString "key"]:=by rfl) :
  PE X (.Call (.Name "sorted" p) [e] [⟨some "key",.Name fn kp,kpos⟩] pos) (zl6 X.K te sp):=by
 intro pins s σ H Q I h
 refine wpAny_Call_Name_kw (zcV I hg hm boot_sorted ?_ (by decide) (by decide))
 refine callWith_kw (thn (zaj he zac (hs:=hse) pos pins s σ H (fun vs H1=>∃ l xs,∃ κV:Nat→List V,∃ κ:Nat→List Int,vs=[V.ref l]∧SqL X.K H1 l xs∧xs.length<64 ∧
 (∀ i x H2,xs[i]?=some x→Same H1 H2→sp [x] H2 (fun v H'=>Same H2 H'∧∃ a,v=.ref a∧SqT X.K H' a (κV i)) E0) ∧
 (∀ i j,i<xs.length→j<xs.length→∃ n m r q rn rm,κV i=.int n::r∧κV j=.int m::q∧VCols r q rn rm∧κ i=n::rn∧κ j=m::rm)∧∀ ys D H',ys.Perm xs→H1 D=none→Same H1 H'→H' D=some (.lst ys)→Q (.ref D) H') I ?_) fun us s1 ⟨vs,H1,I1,r,q⟩=>?_) (by rw[hse];rfl) (by rw[hse];rfl) hall hkw
 ·show te σ H _
  exact h
 ·obtain⟨l,xs,κV,κ,rfl,hq,h64,turn,hcol,hQ⟩:=q
  obtain⟨u,rfl,ru⟩:=Vals.one r
  cases (show u=Value.ref l from ru)
  refine thn (zjl (nm:=some "key") (kpos:=kpos) (zcY (v:=.ref f) hgf hmf rfl hdb) zli pos pins s1 σ H1 (fun zs H2=>zs=[.ref f]∧H2=H1) I1 ⟨rfl,rfl⟩) fun ws s2 ⟨zs,H2,I2,rz,q2⟩=>?_
  obtain⟨rfl,rfl⟩:=q2
  obtain⟨u2,rfl,ru2⟩:=Vals.one rz
  cases (show u2=Value.ref f from ru2)
  rw[hks]
  refine ziI (G:=RK.Pm xs.length) F hr hb turn hq (fun p hp i hi=>?_) (fun _=>Array.Perm.refl _) (fun {vs ks H' s' D st e} r' K' hks h2=>?_) (fun p D H' g hp hD hS hH=>hQ _ D H' (zkF g) hD hS hH) I2
  ·have:=hp.mem_iff.mp (show i∈p by simpa using hi)
   simpa using this
  ·have hlx:xs.length=vs.length:=r'.length
   rw[hlx]
   exact zmF K' hks h2 (by lia) fun i j hi hj=>hcol i j (by lia) (by lia)
end
end L2
namespace TS
open PySem PyProof.Rows
structure LtOk (M:Model) (A:Around) (E:Value→Shared→Prop) (s:Shared) (kd:SortKind) (S:Keyed→Prop) (L:Keyed→Keyed→Bool):Prop where
 lt:∀ x y,S x→S y→∀ (st:SortSt) (Q:Option Bool→SortSt→Prop),kindOf st=kd→Q (some (L x y)) st→wpS M A E s (lt' x y) Q st
 tr:∀ x y z,S x→S y→S z→L y x=false→L z y=false→L z x=false
 as:∀ x y,S x→S y→L x y=true→L y x=false
section
variable {M:Model}{A:Around}{E:Value→Shared→Prop}{s:Shared}{kd:SortKind}{S:Keyed→Prop}{L:Keyed→Keyed→Bool}
end
end TS
namespace TS
section
variable {α:Type}{le:α→α→Prop}
structure MI (le:α→α→Prop) (a b out:List α) (ia ib:Nat):Prop where
 ha:ia≤a.length
 hb:ib≤b.length
 perm:(out++a.drop ia++b.drop ib).Perm (a++b)
 sorted:out.Pairwise le
 lea:∀ x∈out,∀ y∈a.drop ia,le x y
 leb:∀ x∈out,∀ y∈b.drop ib,le x y
end
end TS
namespace TS
open PySem PyProof.Rows
abbrev leOf (L:Keyed→Keyed→Bool):Keyed→Keyed→Prop:=fun x y=>L y x=false
section
variable {M:Model}{A:Around}{E:Value→Shared→Prop}{s:Shared}{kd:SortKind}{S:Keyed→Prop}{L:Keyed→Keyed→Bool}
structure Two (S:Keyed→Prop) (L:Keyed→Keyed→Bool) (a b:Array Keyed):Prop where
 sa:a.toList.Pairwise (leOf L)
 sb:b.toList.Pairwise (leOf L)
 Sa:∀ x∈a.toList,S x
 Sb:∀ x∈b.toList,S x
variable {a b:Array Keyed}{out:Array Keyed}{ia ib:Nat}
end
end TS
set_option maxHeartbeats 8000000
namespace TS
open PySem PyProof.Rows
section
variable {M:Model}{A:Around}{E:Value→Shared→Prop}{s:Shared}{kd:SortKind}{S:Keyed→Prop}{L:Keyed→Keyed→Bool}{a b out:Array Keyed}{ia ib:Nat}
end
end TS
set_option maxHeartbeats 8000000
namespace TS
open PySem PyProof.Rows
section
variable {α:Type}{le:α→α→Prop}
structure MJ (le:α→α→Prop) (a b r:List α) (na nb:Nat):Prop where
 ha:na≤a.length
 hb:nb≤b.length
 perm:(a.take na++b.take nb++r).Perm (a++b)
 sorted:r.Pairwise le
 lea:∀ x∈a.take na,∀ y∈r,le x y
 leb:∀ x∈b.take nb,∀ y∈r,le x y
end
end TS
set_option maxHeartbeats 8000000
namespace TS
open PySem PyProof.Rows
section
variable {M:Model}{A:Around}{E:Value→Shared→Prop}{s:Shared}{kd:SortKind}{S:Keyed→Prop}{L:Keyed→Keyed→Bool}{a b out:Array Keyed}{na nb:Nat}
end
end TS
set_option maxHeartbeats 8000000
namespace TS
open PySem PyProof.Rows
section
variable {M:Model}{A:Around}{E:Value→Shared→Prop}{s:Shared}{kd:SortKind}{S:Keyed→Prop}{L:Keyed→Keyed→Bool}{a b out:Array Keyed}{na nb:Nat}
end
end TS
set_option maxHeartbeats 8000000
namespace TS
open PySem PyProof.Rows
section
variable {M:Model}{A:Around}{E:Value→Shared→Prop}{s:Shared}{kd:SortKind}{S:Keyed→Prop}{L:Keyed→Keyed→Bool}{a b out:Array Keyed}{na nb:Nat}
end
end TS
namespace TS
open PySem PyProof.Rows
section
variable {M:Model}{A:Around}{E:Value→Shared→Prop}{s:Shared}{kd:SortKind}{S:Keyed→Prop}{L:Keyed→Keyed→Bool}
def Seg (L:Keyed→Keyed→Bool) (a:Array Keyed) (lo n:Nat):Prop:=∀ (i j:Nat) x y,i≤j→j<n→a[lo+i]?=some x→a[lo+j]?=some y→L y x=false
structure SB (kd:SortKind) (S:Keyed→Prop) (st0 st:SortSt) (lo hi:Nat):Prop where
 kind:kindOf st=kd
 pend:pendingOf st=pendingOf st0
 fail:failedOf st=failedOf st0
 perm:(arrOf st).Perm (arrOf st0)
 out:∀ k:Nat,k<lo∨hi≤k→(arrOf st)[k]?=(arrOf st0)[k]?
 all:∀ (k:Nat) x,(arrOf st)[k]?=some x→S x
end
end TS
namespace TS
open PySem PyProof.Rows
section
variable {M:Model}{A:Around}{E:Value→Shared→Prop}{s:Shared}{kd:SortKind}{S:Keyed→Prop}{L:Keyed→Keyed→Bool}
end
end TS
set_option maxHeartbeats 8000000
namespace TS
open PySem PyProof.Rows
def wr (a:Array Keyed) (o:Nat) (l:List Keyed) (k:Nat):Array Keyed:=(l.zipIdx k).foldl (fun a (p:Keyed×Nat)=>a.setIfInBounds (o+p.2) p.1) a
section
variable {M:Model}{A:Around}{E:Value→Shared→Prop}{s:Shared}{kd:SortKind}{S:Keyed→Prop}{L:Keyed→Keyed→Bool}
structure SM (kd:SortKind) (S:Keyed→Prop) (L:Keyed→Keyed→Bool) (st0 st:SortSt) (pd:Array (Nat×Nat×Nat)) (lo n:Nat):Prop where
 kind:kindOf st=kd
 pend:pendingOf st=pd
 fail:failedOf st=none
 perm:(arrOf st).Perm (arrOf st0)
 out:∀ k:Nat,k<lo∨lo+n≤k→(arrOf st)[k]?=(arrOf st0)[k]?
 all:∀ (k:Nat) x,(arrOf st)[k]?=some x→S x
 seg:Seg L (arrOf st) lo n
end
end TS
set_option maxHeartbeats 8000000
namespace TS
open PySem PyProof.Rows
abbrev Run:=Nat×Nat×Nat
section
variable {M:Model}{A:Around}{E:Value→Shared→Prop}{s:Shared}{kd:SortKind}{S:Keyed→Prop}{L:Keyed→Keyed→Bool}
def Runs (L:Keyed→Keyed→Bool) (a:Array Keyed):List Run→Nat→Nat→Prop
 | [],x,y=>x=y
 | r::l,x,y=>r.1=x∧1≤r.2.1∧Seg L a r.1 r.2.1∧Runs L a l (x+r.2.1) y
structure PD (kd:SortKind) (S:Keyed→Prop) (L:Keyed→Keyed→Bool) (a0:Array Keyed) (st:SortSt) (lo:Nat):Prop where
 kind:kindOf st=kd
 fail:failedOf st=none
 perm:(arrOf st).Perm a0
 all:∀ (k:Nat) x,(arrOf st)[k]?=some x→S x
 runs:Runs L (arrOf st) (pendingOf st).toList 0 lo
end
end TS
namespace L2
open PySem PySem.Spec PyProof.Rows
section
variable {X:Cx}{pins:List (Addr×Obj)}{σ:St}{H:Hp}{s:Shared}{D st:Addr}{e:Nat}{κV:Nat→List V}{ks:List Addr}{E:Value→Shared→Prop}
end
section
variable {X:Cx}{x:Str}{p pos kp kpos:Pos}{e:Expr}{te:TE}{k:Nat}{f:Addr}{fd:FuncData}{ps:List Str}{sp:Sp}{fn:Str}
end
section
variable {prog:Program}{w:World}{A:Around}{R:Result→Shared→Prop}{s:Shared}
theorem zdK {elt : Expr}{c0 : Comprehension}{target iter : Expr}{ifs : List Expr}{rest : List Comprehension}{scope : Scope}{pos : Pos}{it acc : Value}{env : Env}
  (h0:codeAny (model prog w) A (.compLoop (.ListComp elt (c0::⟨target,iter,ifs,0⟩::rest) scope pos) 1 it acc env) R s)
  (h:wpAny (model prog w) A (pyIter it) (fun it' s'=>codeAny (model prog w) A (.compLoop (.ListComp elt (c0::⟨target,iter,ifs,0⟩::rest) scope pos) 1 it' acc env) R s') (notedBy (model prog w) A env fun x s'=>R (.error x) s') s) :
  codeAny (model prog w) A (.compStart (.ListComp elt (c0::⟨target,iter,ifs,0⟩::rest) scope pos) 1 it acc env) R s:=by
 refine codeAny_of_tree ?_
 show wpAny _ _ ((compStart (.ListComp elt (c0::⟨target,iter,ifs,0⟩::rest) scope pos) 1 it acc env).onRaise (fun x=>do noteFrame x env;standAt theWindowsPlace)) _ _ s
 refine wpAny_notedAt ?_
 unfold compStart
 show wpAny _ _ (ask >>= _) _ _ s
 refine wpAny_bind (wpAny_askSetting (wpAny_ite ?_))
 split
 ·first
   | exact wpAny_pure (And.intro rfl h0)
   | exact wpAny_bind (wpAny_pure (wpAny_pure (And.intro rfl h0)))
 ·refine wpAny_bind (wpAny_rule ?_)
  show wpAny _ _ (standAt iter.pos >>= _) _ _ s
  exact wpAny_bind (wpAny_standAt (wpAny_bind (wpAny_mono h (fun it' s' h'=>wpAny_pure (And.intro rfl h')) fun _ _ z=>z)))
end
section
variable {X:Cx}{osc:Scope}{N:List Str}{sc:Scope}{N':List Str}{sel:List (Option Nat)}{pos:Pos}{elt kx vx tg iter tg2 iter2:Expr}{ifs ifs2:List Expr}{wi wi2:TI}{g g2:TG}{tt tt2:TT}{te tk tv:TE}
def tNest (wi2:TI) (g2:TG) (tb:TS):TS:=fun D σ H=>wi2 σ H fun J H1=>zcq J g2 tb { nx:=D.nx,rt:=fun _ _=>False } σ H1
theorem zlO {Y : Cx}{p : Addr}(hc : Y.calm = true) (hx : Y.xe = fun _ _ => False) (hi2 : PI Y tg2 iter2 wi2) (hg2 : PG Y tg2 g2) (ht2 : PTs Y ifs2 tt2) (he : PE Y elt te) (hs2 : ∀ x, foldedSetIterable iter2 Y.env x = pure x) :
  PB Y (do
   let x ← eval iter2 Y.env
   standAt iter2.pos
   let x ← foldedSetIterable iter2 Y.env x
   let _ ← runOwn (.compStart (.ListComp elt [⟨tg,iter,ifs,0⟩,⟨tg2,iter2,ifs2,0⟩] sc pos) 1 (← holding [x] (pyIter x)) (.ref p) Y.env) Y.env) (tNest wi2 g2 (tIfs tt2 (zcC p te))):=by
 intro pins s σ H D I h
 refine wpAny_bind (thn (hi2 pins s σ H _ I h) fun v s1 h1=>?_)
 refine wpAny_bind (wpAny_standAt ?_)
 rw[hs2]
 refine wpAny_bind (wpAny_pure ?_)
 refine wpAny_bind (wpAny_holding (thn h1 fun itv s2 h2=>?_))
 obtain⟨it,fp,tn,J,H2,e,I2,T,st2,f2,h2⟩:=h2
 subst e
 have loop:codeAny (model Y.prog Y.w) Y.A (.compLoop (.ListComp elt [⟨tg,iter,ifs,0⟩,⟨tg2,iter2,ifs2,0⟩] sc pos) 1 (.ref it) (.ref p) Y.env) (fun r s'=>match r with | .ok f=>wpAny (model Y.prog Y.w) Y.A (pure ()) (fun _ s'=>∃ σ' H',Inv Y pins σ' H' s'∧D.nx σ' H') Y.xe s' | .error e=>cameBackBy (model Y.prog Y.w) Y.A Y.env Y.xe e s') s2 :=
  zdg (X:=Y) (p:=iter2.pos) (inner:=do let _ ← call (.builtin "list.append") [.ref p,← eval elt Y.env]) rfl rfl rfl (fun B {α t Q E s} h w=>by subst h;exact w) hc hx hg2 ht2 (zjt he) I2 T st2 f2 h2 fun fl s' ⟨σ',H',I',_,q⟩=>wpAny_pure ⟨σ',H',I',q⟩
 refine wpAny_bind (wpAny_runOwn (zdK loop (T.self _ 0 _ _ _ st2 loop)))
theorem zgz {env : Env}{it p : Addr} : compTurn (.ListComp elt [⟨tg, iter, ifs, 0⟩, ⟨tg2, iter2, ifs2, 0⟩] sc pos) 0 (.ref it) (.ref p) env = (do
   standAt iter.pos
   match ← pyNext (.ref it) with
   | none=>pure (.done .next)
   | some v =>
    letOwnedTupleGo tg (.ref it) v
    assign tg env v
    let mut ok:=true
    for c in ifs do
     if ok then ok ← isTrue c env (eval c env)
    if ok then
     (do
      let x ← eval iter2 env
      standAt iter2.pos
      let x ← foldedSetIterable iter2 env x
      let _ ← runOwn (.compStart (.ListComp elt [⟨tg,iter,ifs,0⟩,⟨tg2,iter2,ifs2,0⟩] sc pos) 1 (← holding [x] (pyIter x)) (.ref p) env) env)
    again (.compLoop (.ListComp elt [⟨tg,iter,ifs,0⟩,⟨tg2,iter2,ifs2,0⟩] sc pos) 0 (.ref it) (.ref p) env)):=by
 unfold compTurn
 simp only[bind_assoc,pure_bind]
 rfl
theorem ziD {it : Addr}{fp : List Addr}{tn : Nat → Heap → Prop}{J : It}(T : Turn X.prog X.w X.K tg J fp it tn) (hc : X.calm = true) (hg : InBlk X sc N' fun Y => PG Y tg g) (ht : InBlk X sc N' fun Y => PTs Y ifs tt)
  (hi2:InBlk X sc N' fun Y=>PI Y tg2 iter2 wi2) (hg2:InBlk X sc N' fun Y=>PG Y tg2 g2) (ht2:InBlk X sc N' fun Y=>PTs Y ifs2 tt2) (he:InBlk X sc N' fun Y=>PE Y elt te) (hs2:∀ cl C x,foldedSetIterable iter2 (compEnvC sc cl C X.env) x=pure x) :
  ∀ cl C s0 H0 ex p pins s σ H Dn R,Inv (blk X sc cl C N' s0 H0 ex) pins σ H s→tn 0 s.heap→(∀ b∈fp,FpOk (blk X sc cl C N' s0 H0 ex) pins H b)→zcq J g (tIfs tt (tNest wi2 g2 (tIfs tt2 (zcC p te)))) Dn σ H →
   (∀ fl s',(∃ σ' H',Inv (blk X sc cl C N' s0 H0 ex) pins σ' H' s'∧(∀ b∈fp,H' b=none)∧Dn.nx σ' H')→R (.ok fl) s')→codeAny (model X.prog X.w) X.A (.compLoop (.ListComp elt [⟨tg,iter,ifs,0⟩,⟨tg2,iter2,ifs2,0⟩] sc pos) 0 (.ref it) (.ref p) (compEnvC sc cl C X.env)) R s :=
 fun cl C s0 H0 ex p pins s σ H Dn R I st f W hR =>
  zdg (X:=blk X sc cl C N' s0 H0 ex) (p:=iter.pos) (inner:=do
   let x ← eval iter2 (compEnvC sc cl C X.env)
   standAt iter2.pos
   let x ← foldedSetIterable iter2 (compEnvC sc cl C X.env) x
   let _ ← runOwn (.compStart (.ListComp elt [⟨tg,iter,ifs,0⟩,⟨tg2,iter2,ifs2,0⟩] sc pos) 1 (← holding [x] (pyIter x)) (.ref p) (compEnvC sc cl C X.env)) (compEnvC sc cl C X.env))
   rfl rfl zgz (fun B {α t Q E s} h w=>by subst h;exact w) hc rfl (hg _ _ _ _ _) (ht _ _ _ _ _) (zlO (Y:=blk X sc cl C N' s0 H0 ex) hc rfl (hi2 _ _ _ _ _) (hg2 _ _ _ _ _) (ht2 _ _ _ _ _) (he _ _ _ _ _) (hs2 cl C)) I T st f W hR
def zlH (wi:TI) (sel:List (Option Nat)) (g:TG) (tt:TT) (wi2:TI) (g2:TG) (tt2:TT) (te:TE) (i:Nat):TS:=fun D σ H=>wi σ H fun J H1=>∀ p,H1 p=none →
 zcq J g (tIfs tt (tNest wi2 g2 (tIfs tt2 (zcC p te)))) { nx:=fun _ H'=>D.nx (σ.set i (some (.ref p))) H',rt:=fun _ _=>False } (selSt sel σ) (upd H1 p (.lst []))
theorem zji {i : Nat}{x : Str}{px spos : Pos}(B : BlkOk osc N sc N' sel) (hnd : X.N.Nodup) (hi' : X.N[i]? = some x) (hx : Loc X.env.scope x) (hi : PI X tg iter wi) (hg : InBlk X sc N' fun Y => PG Y tg g) (ht : InBlk X sc N' fun Y => PTs Y ifs tt) (hi2 : InBlk X sc N' fun Y => PI Y tg2 iter2 wi2) (hg2 : InBlk X sc N' fun Y => PG Y tg2 g2) (ht2 : InBlk X sc N' fun Y => PTs Y ifs2 tt2) (he : InBlk X sc N' fun Y => PE Y elt te) (hs2 : ∀ cl C x, foldedSetIterable iter2 (compEnvC sc cl C X.env) x = pure x)
  (hsw:swapsWith (.ListComp elt [⟨tg,iter,ifs,0⟩,⟨tg2,iter2,ifs2,0⟩] sc pos) (some (.Name x px)) spos.line X.env=pure true:=by rfl)
  (ho:X.env.scope=osc:=by rfl) (hN:X.N=N:=by rfl) (hc:X.calm=true:=by rfl) (hs:∀ x,foldedSetIterable iter X.env x=pure x:=by intro _;rfl)
  (hf:X.fn x=true∨X.env.scope.names.lookup x=some .local:=by first | exact .inl rfl | exact .inr rfl | assumption) :
  PS X (.Assign [.Name x px] (.ListComp elt [⟨tg,iter,ifs,0⟩,⟨tg2,iter2,ifs2,0⟩] sc pos) spos) (zlH wi sel g tt wi2 g2 tt2 te i):=by
 intro pins s σ H D I h
 obtain⟨cl,Cl⟩:=zjZ I.ok B ho
 rw[exec_Assign_Name_used _ _ _ _ hsw]
 refine wpAny_bind (wpAny_standAt (wpAny_bind ?_))
 show wpAny _ X.A (do let _ ← comprehension (.ListComp elt [⟨tg,iter,ifs,0⟩,⟨tg2,iter2,ifs2,0⟩] sc pos) sc X.env _ (newList []) false (eval iter X.env) (some (assign (.Name x px) X.env))) _ _ s
 refine wpAny_bind (thn (wpAny_comprehension_free (use:=some (assign (.Name x px) X.env)) (Q:=fun _ s'=>SP X pins D .next s') rfl hs Cl.run B.kind B.names (thn (hi pins s σ H _ I h) fun v s1 h1=>thn h1 fun itv s2 h2=>?_)) fun _ s' hq=>wpAny_pure (wpAny_pure hq))
 obtain⟨it,fp,tn,J,H2,e,I2,T,st2,f2,h2⟩:=h2
 subst e
 refine wpAny_newObj_type (zek (e:=.ListComp elt [⟨tg,iter,ifs,0⟩,⟨tg2,iter2,ifs2,0⟩] sc pos) (inner:=fun _ _=>pure ()) (D:=fun p=>{ nx:=fun _ H'=>D.nx (σ.set i (some (.ref p))) H',rt:=fun _ _=>False }) (tb:=fun p=>tNest wi2 g2 (tIfs tt2 (zcC p te))) (use:=some (assign (.Name x px) X.env)) B ho hN hc (fun acc env R s a b=>codeAny_compStart_list a b)
  (ziD (iter:=iter) (pos:=pos) T hc hg ht hi2 hg2 ht2 he hs2) I2 T st2 f2 zjE rfl (h2 _ (I2.hok.fresh (Nat.le_refl _))) (fun C H' s' I3 fC hn hq=>?_) s2.toks cl Cl X.xe)
 obtain⟨m,hn⟩:=hn
 obtain⟨_,hq⟩:=hq
 show wpAny _ X.A (assign (.Name x px) X.env (.ref s2.heap.objs.size)) _ _ _
 refine wpAny_assign_Name (zfY I3 hnd hi' hx (v:=.ref s2.heap.objs.size) rfl (fun s4 I4 hch=>?_) hf)
 obtain⟨a,sb,ha⟩:=hch
 have nC:C≠a:=by
  rcases ha with z | z
  ·rw[z];exact fC.2.1
  ·exact fun q=>fC.2.2.2.2.1 x a z q.symm
 refine⟨m,hn.sameBut sb nC,fun h' hs'=>⟨_,H',I4.let_go fC hs',hq⟩⟩
end
end L2
namespace RP
def mv (i:Nat):Int×Int:=([(1,0),(1,1),(0,1),(-1,1),(-1,0),(-1,-1),(0,-1),(1,-1)]:List (Int×Int)).getD i (0,0)
abbrev Cell:=Int×Int
def go (c:Cell) (i:Nat):Cell:=(c.1+(mv i).1,c.2+(mv i).2)
structure Edge where
 c:Cell
 w:Nat
 deriving DecidableEq
def gap (e:Edge):Cell:=go e.c ((2*e.w+6) % 8)
def stepB (C:Cell→Bool) (e:Edge):Option Nat :=
 if C (go e.c ((2*e.w+7) % 8))=true then some ((2*e.w+7) % 8) else if C (go e.c (2*e.w))=true then some (2*e.w) else none
def slant:Option Nat→Bool
 | none=>false
 | some s=>s % 2 == 1
def edgeB (e:Edge):Option Nat→Edge
 | none=>⟨e.c,(e.w+1) % 4⟩
 | some s=>if s % 2=1 then ⟨go e.c s,(e.w+3) % 4⟩ else ⟨go e.c s,e.w⟩
def nxt (C:Cell→Bool) (e:Edge):Edge:=edgeB e (stepB C e)
def IsE (C:Cell→Bool) (e:Edge):Prop:=e.w<4∧C e.c=true∧C (gap e)=false
def prv (C:Cell→Bool) (f:Edge):Edge :=
 if C (go f.c ((2*f.w+5) % 8))=true then ⟨go f.c ((2*f.w+5) % 8),(f.w+1) % 4⟩
 else if C (go f.c ((2*f.w+4) % 8))=true then ⟨go f.c ((2*f.w+4) % 8),f.w⟩ else ⟨f.c,(f.w+3) % 4⟩
theorem way4 {w:Nat}(h:w<4):w=0∨w=1∨w=2∨w=3:=by lia
def mvAdd (a b d:Nat):Bool:=(mv a).1+(mv b).1 == (mv d).1 && (mv a).2+(mv b).2 == (mv d).2
def mvNil (a b:Nat):Bool:=(mv a).1+(mv b).1 == 0 && (mv a).2+(mv b).2 == 0
theorem go_go {c:Cell}{a b d:Nat}(h:mvAdd a b d=true):go (go c a) b=go c d:=by
 unfold mvAdd at h
 simp only[Bool.and_eq_true,beq_iff_eq] at h
 unfold go
 exact Prod.ext (by show c.1+(mv a).1+(mv b).1=c.1+(mv d).1;lia) (by show c.2+(mv a).2+(mv b).2=c.2+(mv d).2;lia)
theorem zhj {c:Cell}{a b:Nat}(h:mvNil a b=true):go (go c a) b=c:=by
 unfold mvNil at h
 simp only[Bool.and_eq_true,beq_iff_eq] at h
 unfold go
 exact Prod.ext (by show c.1+(mv a).1+(mv b).1=c.1;lia) (by show c.2+(mv a).2+(mv b).2=c.2;lia)
theorem f1:∀ w<4,mvAdd ((2*w+7) % 8) ((2*((w+3) % 4)+6) % 8) ((2*w+6) % 8)=true:=by decide
theorem f2:∀ w<4,mvAdd (2*w) ((2*w+6) % 8) ((2*w+7) % 8)=true:=by decide
theorem f3:∀ w<4,(2*((w+1) % 4)+6) % 8=2*w:=by decide
theorem f4:∀ w<4,mvNil ((2*w+7) % 8) ((2*((w+3) % 4)+5) % 8)=true:=by decide
theorem f5:∀ w<4,mvAdd (2*w) ((2*w+5) % 8) ((2*w+6) % 8)=true:=by decide
theorem f6:∀ w<4,mvNil (2*w) ((2*w+4) % 8)=true:=by decide
theorem f7:∀ w<4,(2*((w+1) % 4)+5) % 8=(2*w+7) % 8:=by decide
theorem f8:∀ w<4,(2*((w+1) % 4)+4) % 8=(2*w+6) % 8:=by decide
theorem odd7 (w:Nat):(2*w+7) % 8 % 2=1:=by lia
theorem za4 {C : Cell → Bool}{e : Edge}(h : IsE C e) :
  (C (go e.c ((2*e.w+7) % 8))=true∧stepB C e=some ((2*e.w+7) % 8)∧nxt C e=⟨go e.c ((2*e.w+7) % 8),(e.w+3) % 4⟩) ∨
  (C (go e.c ((2*e.w+7) % 8))=false∧C (go e.c (2*e.w))=true∧stepB C e=some (2*e.w)∧nxt C e=⟨go e.c (2*e.w),e.w⟩) ∨
  (C (go e.c ((2*e.w+7) % 8))=false∧C (go e.c (2*e.w))=false∧stepB C e=none∧nxt C e=⟨e.c,(e.w+1) % 4⟩):=by
 unfold nxt stepB
 by_cases h1:C (go e.c ((2*e.w+7) % 8))=true
 ·left
  rw[if_pos h1]
  exact⟨h1,rfl,by simp only[edgeB];rw[if_pos (odd7 _)]⟩
 ·right
  have h1':C (go e.c ((2*e.w+7) % 8))=false:=by simpa using h1
  rw[if_neg h1]
  by_cases h2:C (go e.c (2*e.w))=true
  ·left
   rw[if_pos h2]
   exact⟨h1',h2,rfl,by simp only[edgeB];rw[if_neg (by lia)]⟩
  ·right
   rw[if_neg h2]
   exact⟨h1',by simpa using h2,rfl,rfl⟩
theorem zdB {C:Cell→Bool}{e:Edge}(h:IsE C e):IsE C (nxt C e):=by
 obtain⟨hw,hc,hg⟩:=id h
 rcases za4 h with⟨h1,_,q⟩ | ⟨h1,h2,_,q⟩ | ⟨h1,h2,_,q⟩ <;> rw[q]
 ·refine⟨Nat.mod_lt _ (by decide),h1,?_⟩
  unfold gap
  rw[go_go (f1 _ hw)]
  exact hg
 ·refine⟨hw,h2,?_⟩
  unfold gap
  rw[go_go (f2 _ hw)]
  exact h1
 ·refine⟨Nat.mod_lt _ (by decide),hc,?_⟩
  unfold gap
  simp only
  rw[f3 _ hw]
  exact h2
theorem zjj {C:Cell→Bool}{e:Edge}(h:IsE C e):prv C (nxt C e)=e:=by
 obtain⟨hw,hc,hg⟩:=id h
 unfold gap at hg
 rcases za4 h with⟨h1,_,q⟩ | ⟨h1,h2,_,q⟩ | ⟨h1,h2,_,q⟩ <;> rw[q] <;> unfold prv <;> simp only
 ·rw[zhj (f4 _ hw),if_pos hc]
  rw[show ((e.w+3) % 4+1) % 4=e.w by lia]
 ·rw[go_go (f5 _ hw),hg,if_neg (by decide),zhj (f6 _ hw),if_pos hc]
 ·rw[f7 _ hw,h1,if_neg (by decide),f8 _ hw,hg,if_neg (by decide)]
  rw[show ((e.w+1) % 4+3) % 4=e.w by lia]
theorem zd8 {C:Cell→Bool}{e f:Edge}(he:IsE C e) (hf:IsE C f) (h:nxt C e=nxt C f):e=f:=by
 rw[← zjj he,← zjj hf,h]
def Chain (C:Cell→Bool) (b:Edge) (es:List Edge):Prop:=es[0]?=some b∧(∀ i e f,es[i]?=some e→es[i+1]?=some f→f=nxt C e)∧(∀ e∈es,IsE C e)∧es.Nodup
theorem Chain.start {C:Cell→Bool}{b:Edge}(h:IsE C b):Chain C b [b] :=
 ⟨rfl,fun i e f _ h2=>by simp at h2,fun e he=>by rw[List.mem_singleton.mp he];exact h,by simp⟩
theorem Chain.more {C:Cell→Bool}{b l:Edge}{es:List Edge}(h:Chain C b (es++[l])) (hn:nxt C l≠b):Chain C b ((es++[l])++[nxt C l]):=by
 obtain⟨h0,hs,hE,hnd⟩:=h
 have hl:(es++[l])[es.length]?=some l:=by simp
 have lE:=hE l (by simp)
 refine⟨?_,fun i e f h1 h2=>?_,fun e he=>?_,?_⟩
 ·rw[List.getElem?_append_left (by simp)];exact h0
 ·rcases Nat.lt_or_ge (i+1) (es++[l]).length with hi | hi
  ·rw[List.getElem?_append_left (by lia)] at h1
   rw[List.getElem?_append_left hi] at h2
   exact hs i e f h1 h2
  ·have hi2:=(List.getElem?_eq_some_iff.mp h2).1
   simp at hi2 hi
   have hi3:i=es.length:=by lia
   subst hi3
   rw[List.getElem?_append_left (by simp)] at h1
   rw[hl] at h1
   cases h1
   rw[List.getElem?_append_right (by simp)] at h2
   simp at h2
   exact h2.symm
 ·rcases List.mem_append.mp he with he | he
  ·exact hE e he
  ·rw[List.mem_singleton.mp he];exact zdB lE
 ·rw[List.nodup_append]
  refine⟨hnd,by simp,fun x hx y hy=>?_⟩
  rw[List.mem_singleton.mp hy]
  intro e
  subst e
  obtain⟨i,hi,ei⟩:=List.getElem_of_mem hx
  rcases Nat.eq_zero_or_pos i with rfl | hp
  ·rw[List.getElem?_eq_getElem hi,ei] at h0
   exact hn (Option.some.inj h0)
  ·have hi':i - 1<(es++[l]).length:=by lia
   have e1:=hs (i - 1) ((es++[l])[i - 1]) (nxt C l) (List.getElem?_eq_getElem hi') (by rw[show i - 1+1=i by lia,List.getElem?_eq_getElem hi,ei])
   have e2:=zd8 lE (hE _ (List.getElem_mem hi')) e1
   have e3:es.length=i - 1:=(List.getElem?_inj (by simp) hnd).mp (by rw[hl,List.getElem?_eq_getElem hi',← e2])
   simp at hi
   lia
theorem zaC {α:Type} [DecidableEq α]:∀ {a b:List α},a.Nodup→(∀ x∈a,x∈b)→a.length≤b.length
 | [],_,_,_=>Nat.zero_le _
 | x::a,b,hn,hs=>by
  have hx:x∈b:=hs x List.mem_cons_self
  have h1:=zaC (a:=a) (b:=b.erase x) (List.nodup_cons.mp hn).2 (fun y hy=>by
   refine (List.mem_erase_of_ne ?_).mpr (hs y (List.mem_cons_of_mem _ hy))
   intro e;subst e;exact (List.nodup_cons.mp hn).1 hy)
  rw[List.length_erase_of_mem hx] at h1
  have:0<b.length:=List.length_pos_of_mem hx
  simp only[List.length_cons]
  lia
def sides (cs:List Cell):List Edge:=cs.flatMap fun c=>(List.range 4).map fun w=>⟨c,w⟩
theorem zb5 (cs:List Cell):(sides cs).length=4*cs.length:=by
 unfold sides
 induction cs with
 | nil=>rfl
 | cons c r ih=>rw[List.flatMap_cons,List.length_append,ih];simp;lia
theorem zcL {cs:List Cell}{e:Edge}:e∈sides cs ↔ e.c∈cs∧e.w<4:=by
 unfold sides
 rw[List.mem_flatMap]
 constructor
 ·rintro⟨c,hc,h⟩
  obtain⟨w,hw,rfl⟩:=List.mem_map.mp h
  exact⟨hc,List.mem_range.mp hw⟩
 ·rintro⟨hc,hw⟩
  exact⟨e.c,hc,List.mem_map.mpr ⟨e.w,List.mem_range.mpr hw,rfl⟩⟩
def isIn (cs:List Cell) (c:Cell):Bool:=decide (c∈cs)
theorem Chain.short {cs:List Cell}{b:Edge}{es:List Edge}(h:Chain (isIn cs) b es):es.length≤4*cs.length:=by
 rw[← zb5]
 exact zaC h.2.2.2 fun e he=>zcL.mpr ⟨of_decide_eq_true (h.2.2.1 e he).2.1,(h.2.2.1 e he).1⟩
def allE (cs:List Cell):List Edge:=(sides cs).filter fun e=>!isIn cs (gap e)
theorem zdd {cs:List Cell}{e:Edge}:e∈allE cs ↔ IsE (isIn cs) e:=by
 unfold allE
 rw[List.mem_filter,zcL]
 unfold IsE isIn
 constructor
 ·rintro⟨⟨h1,h2⟩,h3⟩
  exact⟨h2,decide_eq_true h1,by simpa using h3⟩
 ·rintro⟨h1,h2,h3⟩
  exact⟨⟨of_decide_eq_true h2,h1⟩,by simpa using h3⟩
def dx (w:Nat):Int:=if w=0 then 1 else if w=2 then -1 else 0
def dy (w:Nat):Int:=if w=1 then 1 else if w=3 then -1 else 0
def px (e:Edge):Int:=e.c.1+(if e.w=1∨e.w=2 then 1 else 0)
def py (e:Edge):Int:=e.c.2+(if e.w=2∨e.w=3 then 1 else 0)
theorem zgg {C:Cell→Bool}{e:Edge}(h:IsE C e):px (nxt C e)=px e+dx e.w∧py (nxt C e)=py e+dy e.w:=by
 have hw:=h.1
 rcases za4 h with⟨_,_,q⟩ | ⟨_,_,_,q⟩ | ⟨_,_,_,q⟩ <;> rw[q] <;> obtain⟨c,w⟩:=e <;> simp only at hw <;>
  rcases way4 hw with rfl | rfl | rfl | rfl <;> simp[px,py,dx,dy,go,mv] <;> lia
theorem zk3 {C:Cell→Bool}{e:Edge}(h:IsE C e):(nxt C e).w=(e.w+3) % 4∨(nxt C e).w=e.w∨(nxt C e).w=(e.w+1) % 4:=by
 rcases za4 h with⟨_,_,q⟩ | ⟨_,_,_,q⟩ | ⟨_,_,_,q⟩ <;> rw[q]
 ·exact .inl rfl
 ·exact .inr (.inl rfl)
 ·exact .inr (.inr rfl)
def Closed (C:Cell→Bool) (b:Edge) (es:List Edge):Prop:=Chain C b es∧∃ l,es[es.length - 1]?=some l∧nxt C l=b
theorem psum {C:Cell→Bool}{b:Edge}{es:List Edge}(h:Chain C b es):∀ i e,es[i]?=some e→px e=px b+((es.take i).map fun e=>dx e.w).sum∧py e=py b+((es.take i).map fun e=>dy e.w).sum
 | 0,e,he=>by
  have h0:=h.1
  rw[he] at h0
  cases h0
  simp
 | i+1,e,he=>by
  have hi:i+1<es.length:=(List.getElem?_eq_some_iff.mp he).1
  have h1:es[i]?=some es[i]:=List.getElem?_eq_getElem (by lia)
  obtain⟨a,c⟩:=psum h i _ h1
  have hn:=h.2.1 i _ e h1 he
  obtain⟨p,q⟩:=zgg (h.2.2.1 _ (List.getElem_mem (show i<es.length by lia)))
  rw[← hn] at p q
  rw[List.take_succ,h1]
  simp only[Option.toList_some,List.map_append,List.map_cons,List.map_nil,List.sum_append,List.sum_cons,List.sum_nil]
  lia
theorem Closed.sums {C:Cell→Bool}{b:Edge}{es:List Edge}(h:Closed C b es):(es.map fun e=>dx e.w).sum=0∧(es.map fun e=>dy e.w).sum=0:=by
 obtain⟨hc,l,hl,hb⟩:=h
 have hlt:=(List.getElem?_eq_some_iff.mp hl).1
 obtain⟨a,c⟩:=psum hc _ l hl
 have hlm:=(List.getElem?_eq_some_iff.mp hl).2
 obtain⟨p,q⟩:=zgg (hc.2.2.1 l (by rw[← hlm];exact List.getElem_mem _))
 rw[hb] at p q
 have e:es=es.take (es.length - 1)++[l]:=by
  have:=List.take_succ (l:=es) (i:=es.length - 1)
  rw[hl,show es.length - 1+1=es.length by lia,List.take_length] at this
  simpa using this
 have s1:(es.map fun e=>dx e.w).sum=((es.take (es.length - 1)).map fun e=>dx e.w).sum+dx l.w:=by
  conv=>lhs;rw[e]
  simp
 have s2:(es.map fun e=>dy e.w).sum=((es.take (es.length - 1)).map fun e=>dy e.w).sum+dy l.w:=by
  conv=>lhs;rw[e]
  simp
 lia
theorem zik {l:List Int}(h:∀ x∈l,0≤x):0≤l.sum:=by
 induction l with
 | nil=>simp
 | cons a r ih =>
  have:=h a List.mem_cons_self
  have:=ih fun x hx=>h x (List.mem_cons_of_mem _ hx)
  simp only[List.sum_cons];lia
theorem zfb {l:List Int}(h:∀ x∈l,0≤x) (hs:l.sum=0):∀ x∈l,x=0:=by
 induction l with
 | nil=>intro x hx;cases hx
 | cons a r ih =>
  have h1:=h a List.mem_cons_self
  have h2:=zik fun x hx=>h x (List.mem_cons_of_mem _ hx)
  simp only[List.sum_cons] at hs
  intro x hx
  rcases List.mem_cons.mp hx with rfl | hx
  ·lia
  ·exact ih (fun x hx=>h x (List.mem_cons_of_mem _ hx)) (by lia) x hx
theorem zjy (l:List Int):(l.map fun x=>-x).sum=-l.sum:=by
 induction l with
 | nil=>rfl
 | cons a r ih=>simp only[List.map_cons,List.sum_cons,ih];lia
theorem zgx (l:List Int) (d:Int) (h:∀ x∈l,x=d):l.sum=d*l.length:=by
 induction l with
 | nil=>simp
 | cons a r ih =>
  have h1:=h a List.mem_cons_self
  have h2:=ih fun x hx=>h x (List.mem_cons_of_mem _ hx)
  simp only[List.sum_cons,List.length_cons,h1,h2]
  rw[Int.natCast_add,Int.mul_add];lia
theorem Closed.has {C:Cell→Bool}{b:Edge}{es:List Edge}(h:Closed C b es){k:Nat}(hk:k=0∨k=2):∃ e∈es,e.w=k:=by
 apply Classical.byContradiction
 intro hno
 have hno':∀ e∈es,e.w≠k:=fun e he z=>hno ⟨e,he,z⟩
 obtain⟨s1,s2⟩:=h.sums
 obtain⟨hc,_⟩:=h
 have hpos:0<es.length:=by
  have:=hc.1
  exact (List.getElem?_eq_some_iff.mp this).1
 have z:∀ e∈es,dx e.w=0:=by
  rcases hk with rfl | rfl
  ·have := zfb (l := (es.map fun e => dx e.w).map fun x => -x) (fun x hx => by
    obtain⟨y,hy,rfl⟩:=List.mem_map.mp hx
    obtain⟨e,he,rfl⟩:=List.mem_map.mp hy
    have:=hno' e he
    unfold dx
    rw[if_neg this]
    split <;> decide) (by rw[zjy,s1];rfl)
   intro e he
   have:=this (-(dx e.w)) (List.mem_map.mpr ⟨_,List.mem_map.mpr ⟨e,he,rfl⟩,rfl⟩)
   lia
  ·have := zfb (l := es.map fun e => dx e.w) (fun x hx => by
    obtain⟨e,he,rfl⟩:=List.mem_map.mp hx
    have:=hno' e he
    unfold dx
    rw[if_neg this]
    split <;> decide) s1
   intro e he
   exact this _ (List.mem_map.mpr ⟨e,he,rfl⟩)
 have odd:∀ e∈es,e.w=1∨e.w=3:=fun e he=>by
  have h4:=(hc.2.2.1 e he).1
  have hz:=z e he
  rcases way4 h4 with q | q | q | q
  ·rw[q] at hz;exact absurd hz (by decide)
  ·exact .inl q
  ·rw[q] at hz;exact absurd hz (by decide)
  ·exact .inr q
 have same:∀ (i:Nat) (e:Edge),es[i]?=some e→e.w=b.w:=by
  intro i
  induction i with
  | zero=>intro e he;have:=hc.1;rw[he] at this;cases this;rfl
  | succ i ih =>
   intro e he
   have hi:i+1<es.length:=(List.getElem?_eq_some_iff.mp he).1
   have h1:es[i]?=some es[i]:=List.getElem?_eq_getElem (by lia)
   have hn:=hc.2.1 i _ e h1 he
   have m1:es[i]∈es:=List.getElem_mem _
   have m2:e∈es:=List.mem_of_getElem? he
   have w1:=ih _ h1
   have o1:=odd _ m1
   have o2:=odd _ m2
   have:=zk3 (hc.2.2.1 _ m1)
   rw[← hn] at this
   lia
 have all:∀ x∈es.map (fun e=>dy e.w),x=dy b.w:=fun x hx=>by
  obtain⟨e,he,rfl⟩:=List.mem_map.mp hx
  obtain⟨i,hi,ei⟩:=List.getElem_of_mem he
  rw[same i e (by rw[List.getElem?_eq_getElem hi,ei])]
 have t:=zgx _ _ all
 rw[s2,List.length_map] at t
 have ob:b.w=1∨b.w=3:=by
  have:=hc.1
  exact odd b (List.mem_of_getElem? this)
 have d1:dy b.w=1∨dy b.w=-1:=by
  rcases ob with q | q <;> rw[q] <;> decide
 rcases d1 with q | q <;> rw[q] at t <;> lia
end RP
namespace L2
open PySem PySem.Spec PyProof.Rows
structure Fn (P:Program) (w:World) (K:W.Frag) (mg:Str→Option Value) (base:Heap) (k:Nat) (x:Str) (ps:List Str) (sp:Sp) where
 f:Addr
 fd:FuncData
 ok:FnOk P w K mg base CX0 k f fd ps sp
 m:mg x=some (.ref f)
 kp:W.keepIn K (.ref f)=true
 b:Binds K fd ps []
structure Df (K:W.Frag) (mg:Str→Option Value) (x:Str) (st:Stmt) (ps:List Str) where
 f:Addr
 fd:FuncData
 F:Fun K x x st f fd
 m:mg x=some (.ref f)
 b:Binds K fd ps []
def Df.fn {P:Program}{w:World}{K:W.Frag}{mg:Str→Option Value}{base:Heap}{k:Nat}{x:Str}{st:Stmt}{ps:List Str}{sp:Sp}(d:Df K mg x st ps) (h:FnOk P w K mg base CX0 k d.f d.fd ps sp):Fn P w K mg base k x ps sp :=
 ⟨d.f,d.fd,h,d.m,d.F.kp,d.b⟩
structure Ways (P:Program) (w:World) (K:W.Frag) (mg:Str→Option Value):Prop where
 ex:∃ (B:Addr) (t1 t2 t3 t4:Tok) (n:Nat),mg "BEGIN_WAYS" = some (.ref B)∧K.lookup B=some ⟨.type "dict",none,.dict #[⟨PyData.keyHash w.params "rim",.str "rim" t1,.int 0 t2⟩,⟨PyData.keyHash w.params "hole",.str "hole" t3,.int 2 t4⟩] n,#[]⟩
def tWays (ti:TE):TE:=fun σ H Q=>ti σ H fun y H1=>(y=.str "rim" ∧ Q (.int 0) H1)∨(y=.str "hole" ∧ Q (.int 2) H1)
theorem zjq {X:Cx}{i:Expr}{ti:TE}{p pos:Pos}(hg:Gl X "BEGIN_WAYS") (hw:Ways X.prog X.w X.K X.mg) (hi:PE X i ti) (hs:NoSl i:=by exact fun _ _=>rfl):PE X (.Subscript (.Name "BEGIN_WAYS" p) i pos) (tWays ti):=by
 intro pins s σ H Q I h
 obtain⟨B,t1,t2,t3,t4,n,hm,hl⟩:=hw.ex
 refine zi0 PySem.F.slot_dict_getitem.lookup hs (thn ((zcY (v:=.ref B) hg hm rfl:PE X (.Name "BEGIN_WAYS" p) _) pins s σ H (fun v H1=>v=V.ref B∧H1=H) I ⟨rfl,rfl⟩) fun u s1 ⟨x,H1,I1,rx,q1⟩=>?_)
 obtain⟨rfl,rfl⟩:=q1
 obtain rfl:u=Value.ref B:=rx
 refine thn (hi pins s1 σ H1 _ I1 h) fun iv s2 ⟨y,H2,I2,ry,q2⟩=>?_
 have ho:s2.heap.get? B=some _:=I2.kIn B _ hl
 have mo:s2.heap.MapOf (zaS X.prog X.w) B (PySem.findBy (zaS X.prog X.w).is #[⟨PyData.keyHash X.w.params "rim",.str "rim" t1,.int 0 t2⟩,⟨PyData.keyHash X.w.params "hole",.str "hole" t3,.int 2 t4⟩]) :=
  ⟨_,_,_,ho,⟨rfl,rfl,rfl⟩,rfl,fun e he=>by
   simp only[List.mem_toArray,List.mem_cons,List.not_mem_nil,or_false] at he
   rcases he with rfl | rfl
   ·exact⟨.inr "rim",zck _ _ _ _,rfl⟩
   ·exact⟨.inr "hole",zck _ _ _ _,rfl⟩,fun _=>rfl⟩
 refine⟨⟨_,ho,rfl⟩,?_⟩
 rcases q2 with⟨rfl,q⟩ | ⟨rfl,q⟩
 ·exact wpAny_getItem_of (kV_is (k:=.inr "rim") ry) mo (v:=.int 0 t2) rfl ⟨.int 0,H2,I2.tok _,⟨_,rfl⟩,q⟩
 ·exact wpAny_getItem_of (kV_is (k:=.inr "hole") ry) mo (v:=.int 2 t4) rfl ⟨.int 2,H2,I2.tok _,⟨_,rfl⟩,q⟩
section
variable {X:Cx}{K:W.Frag}
theorem zc1 (hK:X.K=K:=by rfl):IxR X (rIxT K):=by
 subst hK
 exact zcB
theorem zgE (hK:X.K=K:=by rfl):CallR X (.builtin "isinstance") (fun xs H Q=>∃ x T t b,xs=[x,.ty T]∧TyOf K H x t∧W.kitOne K t (.type T)=some b∧Q (.bl b) H):=by
 subst hK
 exact zkX
theorem zcx {es : List Expr}{k : Nat}{t : TGs}{n : Nat}{pos : Pos}(hc : X.calm = true) (h : PGs X es t)
  (hn:(assignEach es X.env).length=n:=by rfl) (hst:(assignEach es X.env).findIdx? (·.1)=none:=by rfl) (hK:X.K=K:=by rfl):PG X (.Tuple es k pos) (gTup K n t):=by
 subst hK
 exact zbz hc h hn hst
end
theorem zjC (a b c d:Value):argsOk "min" ⟨[a,b,c,d],[]⟩:=by unfold argsOk;kernel_rfl
section
variable {X:Cx}
theorem zj3 (hc:X.calm=true):CallR X (.builtin "min") (fun xs H Q=>∃ i j k l,xs=[.int i,.int j,.int k,.int l]∧∀ n,Q (.int n) H):=by
 intro pins s σ H xs us Q I r h
 obtain⟨i,j,k,l,rfl,q⟩:=h
 cases r with
 | cons r1 r =>
 cases r with
 | cons r2 r =>
 cases r with
 | cons r3 r =>
 cases r with
 | cons r4 r =>
 cases r with
 | nil =>
 obtain⟨t1,rfl⟩:=r1
 obtain⟨t2,rfl⟩:=r2
 obtain⟨t3,rfl⟩:=r3
 obtain⟨t4,rfl⟩:=r4
 have hh:=I.ok.hd hc
 have nm:(toString "min" ++ toString ".loop" : String) = "min.loop":=by decide
 refine call_function_tree F.kind_min F.plain_min F.entry_min (zjC _ _ _ _) ?_
 show wpAny _ X.A.in1 (Builtin.Builtins.bindParams "min" ["key","default"] 0 ⟨[],[]⟩ >>= _) _ _ s
 refine wpAny_bind (wpAny_of_eq (show Builtin.Builtins.bindParams "min" ["key","default"] 0 ⟨[],[]⟩=pure [none,none] from rfl) ?_)
 show wpAny _ X.A.in1 (newTuple [.int i t1,.int j t2,.int k t3,.int l t4] >>= _) _ _ s
 refine wpAny_bind (wpAny_newObj_type ?_)
 have hT:(s.heap.push { cls:=.type "tuple",data:=.seq #[.int i t1,.int j t2,.int k t3,.int l t4] }).IsTuple s.heap.objs.size (intItems #[(i,t1),(j,t2),(k,t3),(l,t4)]):=⟨_,Heap.get?_push_size _ rfl,rfl,0,by simp[intItems]⟩
 refine wpAny_bind (wpAny_pyIter_tuple hT ?_)
 refine wpAny_bind (wpAny_newObj_type ?_)
 rw[nm]
 generalize e1:s.heap.push { cls:=.type "tuple",data:=.seq #[.int i t1,.int j t2,.int k t3,.int l t4] }=h1 at hT
 have hs1:h1.objs.size=s.heap.objs.size+1:=by rw[← e1];exact Heap.size_push ..
 have k1:∀ b o,s.heap.get? b=some o→h1.get? b=some o:=fun b o e=>by rw[← e1];exact Heap.get?_push_of_some _ e
 show wpAny (model X.prog X.w) X.A.in1 (again (.builtin "min.loop" ⟨[.ref h1.objs.size,.none,.ref (h1.push _).objs.size],[]⟩)) _ _ { s with heap:=(h1.push _).push _ }
 have hs2:∀ o:Obj,(h1.push o).objs.size=s.heap.objs.size+2:=fun o=>by rw[Heap.size_push,hs1]
 have W:=Walks.tuple (prog:=X.prog) (w:=X.w) (A:=X.A.in1) hh h1.objs.size s.heap.objs.size (by rw[hs1];exact Nat.ne_of_lt (Nat.lt_succ_self _)) (intItems #[(i,t1),(j,t2),(k,t3),(l,t4)])
 refine wpAny_pure ⟨plainId_quiet F.plain_min_loop _,codeAny_min_loop_first W _ (CmpOf.ints_lt (numAt #[(i,t1),(j,t2),(k,t3),(l,t4)]) (fun _ _=>intItems_at)) _ (fun hm=>?_) (by simp[intItems])
  (W.frame _ _ _ ⟨⟨_,Heap.get?_push_size _ rfl,rfl,rfl⟩,hT.push _⟩ fun b _ o e=>Heap.get?_push_of_some _ e) (Heap.get?_push_size _ rfl) fun v h' tk hP hk=>?_⟩
 ·rw[hs2] at hm
  rcases List.mem_cons.mp hm with z | z
  ·rw[hs1] at z
   have z':(s.heap.objs.size+2:Nat)=s.heap.objs.size+1:=z
   lia
  ·have z':(s.heap.objs.size+2:Nat)=s.heap.objs.size:=List.mem_singleton.mp z
   lia
 ·obtain⟨t,ht⟩:=intItems_at hP
  refine⟨.int _,H,I.kept fun b o e=>hk b o (fun hm=>?_) ?_ (Heap.get?_push_of_some _ (Heap.get?_push_of_some _ (k1 b o e))),⟨t,ht⟩,q _⟩
  ·have h1':=Heap.lt_size e
   have z:=List.mem_singleton.mp hm
   rw[hs1] at z
   subst z
   exact absurd h1' (Nat.not_lt_of_le (Nat.le_succ _))
  ·have h1':=Heap.lt_size e
   intro z
   rw[hs2] at z
   subst z
   exact absurd h1' (Nat.not_lt_of_le (Nat.le_add_right _ 2))
def rSlTW (K:W.Frag):V→Option Int→Option Int→Hp→VK→Prop:=fun x lo hi H Q=>∃ a xs,x=.ref a∧SqT K H a xs ∧
 ((HT.sIx xs.length 0 lo=0∧HT.sIx xs.length xs.length hi=xs.length)→Q (.ref a) H) ∧
 (¬ (HT.sIx xs.length 0 lo=0∧HT.sIx xs.length xs.length hi=xs.length)→∀ p,H p=none→Q (.ref p) (upd H p (.tup (cutV xs lo hi))))
end
end L2
namespace HT
open PySem PyProof.Rows
variable {prog:Program}{w:World}{A:Around}{E:Value→Shared→Prop}{s:Shared}
theorem getItem_tuple_all {t sl : Addr}{items : Array Value}{vl vu : Value}{lo hi : Option Int}{Q : Value → Shared → Prop}(ht : IsTup s.heap t items) (hs : s.heap.IsSliceOf sl vl vu .none) (pl : IsPart vl lo) (pu : IsPart vu hi)
  (hw:sIx items.size 0 lo=0∧sIx items.size items.size hi=items.size) (h:Q (.ref t) s):wpAny (model prog w) A (getItem (.ref t) (.ref sl)) Q E s:=by
 obtain⟨os,hos,hcs,hds⟩:=id hs
 have hTs:s.TypeIs (.ref sl) "slice":=⟨os,hos,hcs⟩
 unfold getItem
 try with_reducible refine wpAny_holding ?_
 first | refine wpAny_bind (wpAny_pure ?_) | skip
 refine wpAny_bind (wpAny_sequenceKey ht.typeIs (by decide) ?_)
 refine wpAny_bind (wpAny_callSpecial?_slot (name:=Str.ofString "__getitem__") ht.typeIs PyProof.Rows.slot_tuple_getitem
  (wpAny_call_entry PyProof.Rows.slot_tuple_getitem ht.typeIs entry_tuple_getitem ?_ (args_tuple_getitem _ _)))
 show wpAny _ _ (Builtin.Tuple.tupleItemsOf (.ref t) >>= _) _ _ s
 refine wpAny_bind (tupleItemsOf_ ht ?_)
 refine wpAny_bind (wpAny_typeOf hTs ?_)
 rw[if_pos (by decide)]
 refine wpAny_bind (zcA hs pl pu ?_)
 have hyes:(((sIx items.size 0 lo:Nat):Int) == 0 && (1:Int) == 1 && (sIx items.size items.size hi - sIx items.size 0 lo) == items.size)=true:=by
  rw[hw.1,hw.2];simp
 show wpAny _ _ (if (((sIx items.size 0 lo:Nat):Int) == 0 && (1:Int) == 1 && (sIx items.size items.size hi - sIx items.size 0 lo) == items.size)=true then _ else _) _ _ s
 rw[if_pos hyes]
 refine wpAny_bind ?_
 unfold Builtin.Tuple.tupleIsExact
 refine wpAny_bind (wpAny_typeOf ht.typeIs (wpAny_pure ?_))
 rw[if_pos (by decide)]
 exact wpAny_bind (wpAny_rule (wpAny_pure ⟨_,rfl,wpAny_pure h⟩))
end HT
namespace L2
open PySem PySem.Spec PyProof.Rows
section
variable {X:Cx}{K:W.Frag}
theorem zlB:SlR X (rSlTW X.K):=by
 intro pins s σ H x v vl vu lo hi sl Q I rx hs pl pu h
 obtain⟨a,xs,rfl,hx,q1,q2⟩:=h
 by_cases hw:HT.sIx xs.length 0 lo=0∧HT.sIx xs.length xs.length hi=xs.length
 ·cases rx
  obtain⟨its,r,ht,hz⟩:=I.tuple hx
  have hlen:its.toArray.size=xs.length:=by rw[List.size_toArray];exact r.length.symm
  refine⟨"tuple",_,PyProof.Rows.slot_tuple_getitem.lookup,ht.typeIs,?_⟩
  exact HT.getItem_tuple_all ht hs pl pu (by rw[hlen];exact hw) ⟨.ref a,H,I,rfl,q1 hw⟩
 ·exact zmc pins s σ H _ v vl vu lo hi sl Q I rx hs pl pu ⟨a,xs,rfl,hx,hw,q2 hw⟩
end
section
variable {prog:Program}{w:World}{K:Type} [DecidableEq K] {knd:HeapKind prog w K}{A:Around}{E:Value→Shared→Prop}{s:Shared}{d a:Addr}{xs:List (K×Addr×Value)}{k:K}{dflt:Value}
theorem zeV {p:Addr×Value}(h:atKey xs k=some p):∃ j:Nat,xs[j]?=some (k,p):=by
 unfold atKey at h
 obtain⟨x,hx,e⟩:=Option.map_eq_some_iff.mp h
 have hm:=List.mem_of_find?_eq_some hx
 have hk:=List.find?_some hx
 obtain⟨j,hj,ej⟩:=List.getElem_of_mem hm
 have:x.1=k:=by simpa using hk
 exact⟨j,by rw[List.getElem?_eq_getElem hj,ej,← e,← this]⟩
theorem zkY {p:Addr×Value}{j:Nat}(hn:(xs.map fun x=>x.1).Nodup) (h:xs[j]?=some (k,p)):atKey xs k=some p:=by
 cases e:atKey xs k with
 | none =>
  exfalso
  unfold atKey at e
  have:=List.find?_eq_none.mp (Option.map_eq_none_iff.mp e) _ (List.mem_of_getElem? h)
  simp at this
 | some q =>
  obtain⟨i,hi⟩:=zeV e
  have hl:=(List.getElem?_eq_some_iff.mp hi).1
  have:=(List.getElem?_inj (i:=i) (j:=j) (by rw[List.length_map];exact hl) hn).mp (by rw[List.getElem?_map,List.getElem?_map,hi,h];rfl)
  subst this
  rw[hi] at h
  cases h
  rfl
theorem zdZ {Q : Value → Shared → Prop}(hr : knd.room A) (hk : knd.is s.heap k a) (hD : Heap.DictOfH knd s.heap d xs) (hsz : xs.length ≤ sizeLine)
  (h1:∀ p,atKey xs k=some p→Q p.2 { s with toks:=s.toks+knd.draws k })
  (h2:atKey xs k=none→∀ h',Heap.DictOfH knd h' d (storedH xs k a dflt)→Heap.SameBut d s.heap h'→Q dflt { s with heap:=h',toks:=s.toks+knd.draws k }) :
  wpAny (model prog w) A (dictSetDefault d (.ref a) dflt) Q E s:=by
 obtain⟨o,es,ep,ho,hx,hd,he,hi,hn⟩:=id hD
 unfold dictSetDefault
 refine wpAny_holding (wpAny_bind (knd.pyHash hr hk ?_))
 refine wpAny_bind (wpAny_dictFind_heap (s:={ s with toks:=s.toks+knd.draws k }) hr hk ho hd he hi hn (fun hno=>?_) fun j p hj=>?_)
 ·have hnone : atKey xs k = none := by
   cases e:atKey xs k with
   | none=>rfl
   | some p=>obtain⟨j,hj⟩:=zeV e;exact absurd hj (hno j p)
  refine wpAny_bind (wpAny_rule ?_)
  have hes:es.size=xs.length:=by rw[← Array.length_toList,he,List.length_map]
  refine wpAny_bind (wpAny_updateDictKeys ho hd (wpAny_pure (h2 hnone _ ?_ ⟨?_,fun b hb=>Heap.get?_update_other _ _ (Ne.symm hb)⟩)) (by lia) (by simp))
  ·have hs:Heap.SameBut d s.heap (s.heap.update d (Obj.mapDictKeys fun x=>x.push ⟨knd.hash k,.ref a,dflt⟩)):=⟨?_,fun b hb=>Heap.get?_update_other _ _ (Ne.symm hb)⟩
   ·obtain⟨c,dd,dt,sl⟩:=o
    simp only at hd
    subst hd
    refine⟨_,es.push ⟨knd.hash k,.ref a,dflt⟩,ep+1,Heap.get?_update_self _ ho rfl,hx,rfl,?_,fun x hx'=>?_,?_⟩
    ·rw[storedH_new hnone,List.map_append,← he];simp[entryOfKey]
    ·rw[storedH_new hnone] at hx'
     rcases List.mem_append.mp hx' with m | m
     ·exact knd.keeps (hi x m) ho rfl hs
     ·rw[List.mem_singleton.mp m];exact knd.keeps hk ho rfl hs
    ·rw[storedH_new hnone,List.map_append,List.nodup_append]
     refine⟨hn,by simp,fun x hx' y hy e=>?_⟩
     simp at hy
     subst hy e
     obtain⟨⟨k',p⟩,hm,ek⟩:=List.mem_map.mp hx'
     obtain⟨j,hj,ej⟩:=List.getElem_of_mem hm
     simp only at ek
     subst ek
     exact hno j p (by rw[List.getElem?_eq_getElem hj,ej])
   ·show (s.heap.update d _).objs.size=_
    unfold Heap.update
    simp
  ·show (s.heap.update d _).objs.size=_
   unfold Heap.update
   simp
 ·have hlt:=(List.getElem?_eq_some_iff.mp hj).1
  have hes:es.size=xs.length:=by rw[← Array.length_toList,he,List.length_map]
  have ee:es[j]?=some ⟨knd.hash k,.ref p.1,p.2⟩:=by
   rw[← Array.getElem?_toList,he,List.getElem?_map,hj];rfl
  refine wpAny_bind (wpAny_dictEntries ho hd ?_)
  simp only[ee]
  refine wpAny_bind (wpAny_rule (wpAny_pure ?_))
  exact h1 p (zkY hn hj)
theorem zdo (knd : HeapKind prog w K) (d a : Addr) (hd : (d == sysModules) = false) (dflt : Value) :
  MeetsIn prog w (Builtin.«dict.setdefault» ⟨[.ref d,.ref a,dflt],[]⟩) fun A R s=>knd.room A.in1∧∃ k xs,knd.is s.heap k a∧Heap.DictOfH knd s.heap d xs∧xs.length≤sizeLine ∧
   (∀ p,atKey xs k=some p→R (.ok (.ret p.2)) { s with toks:=s.toks+knd.draws k }) ∧
   (atKey xs k=none→∀ h',Heap.DictOfH knd h' d (storedH xs k a dflt)→Heap.SameBut d s.heap h'→R (.ok (.ret dflt)) { s with heap:=h',toks:=s.toks+knd.draws k }):=by
 intro A R s h
 obtain⟨hr,k,xs,hk,hD,hsz,h1,h2⟩:=h
 unfold Builtin.«dict.setdefault» Builtin.Dict.keyAndDefault
 have ht:s.TypeIs (.ref d) "dict":=hD.typeIs
 refine wpAny_bind (wpAny_bind (wpAny_notOrdered_dict ht ?_))
 refine wpAny_bind ?_
 show wpAny (model prog w) A.in1 (pure ()) _ _ s
 refine wpAny_pure ?_
 refine wpAny_bind ?_
 show wpAny (model prog w) A.in1 (pure (Value.ref d,[Value.ref a,dflt])) _ _ s
 refine wpAny_pure ?_
 show wpAny (model prog w) A.in1 (pure d >>= fun x=>pure (x,Value.ref a,some dflt)) _ _ s
 refine wpAny_bind (wpAny_pure (wpAny_pure ?_))
 simp only
 rw[hd]
 show wpAny (model prog w) A.in1 (dictSetDefault d (.ref a) dflt >>= fun x=>ret x) _ _ s
 refine wpAny_bind (zdZ hr hk hD hsz (fun p e=>wpAny_pure (h1 p e)) fun e h' hD' hs=>wpAny_pure (h2 e h' hD' hs))
def zl9 (td ty tx:TE):TE:=fun σ H Q=>td σ H fun x H1=>∃ a,x=.ref a∧IsD H1 a∧ty σ H1 fun y H2=>tx σ H2 fun z H3=>∃ kvs k b,H3 a=some (.dT kvs)∧y=.ref b∧H3 b=some (.tup (k.map kV))∧kvs.length<sizeLine ∧
 (∀ v,valV kvs k=some v→Q v H3)∧(valV kvs k=none→Q z (upd H3 a (.dT (putK kvs k z))))
end
section
variable {X:Cx}{o e f:Expr}{apos cpos:Pos}{td ty tx:TE}
theorem zkH (hu:X.A.units+1<cLine) (ho:PE X o td) (he:PE X e ty) (hf:PE X f tx) (m:M2 X o "setdefault" apos e f cpos):PE X (.Call (.Attribute o "setdefault" apos) [e,f] [] cpos) (zl9 td ty tx):=by
 intro pins s σ H Q I h
 refine wpAny_Call_method m.base m.few m.line PySem.F.plainAttrs_dict PySem.F.slot_dict_setdefault PySem.F.type_dict_setdefault (thn (ho pins s σ H _ I h) fun u s1 ⟨x,H1,I1,rx,a,ex,d,q1⟩=>?_)
 subst ex
 obtain rfl:u=Value.ref a:=rx
 obtain⟨t1,t2,_⟩:=zmz I1 d
 refine⟨t1,t2,?_⟩
 rw[m.trees]
 refine Calls.callWith_builtin rfl (Calls.evalArgs_plain (Calls.spliced_cons (thn (he pins s1 σ H1 _ I1 q1) fun iv s2 ⟨y,H2,I2,ry,q2⟩ =>
  Calls.spliced_cons (thn (hf pins s2 σ H2 _ I2 q2) fun fv s3 ⟨z,H3,I3,rz,kvs,k,b,eD,ey,eb,hl,k1,k2⟩=>Calls.spliced_nil ?_))))
 subst ey
 cases (show iv=Value.ref b from ry)
 obtain⟨zz,hd,xs,rel,dd⟩:=dt_of I3.hok eD
 refine call_meetsIn PySem.F.slot_dict_setdefault dd.typeIs PySem.F.entry_dict_setdefault (PySem.F.args_dict_setdefault_3 _ _ _) (zdo (tupleKind (zaS X.prog X.w)) a b hd fv)
  ⟨tupleKind_room_in1 hu,k,xs,zeS I3.hok eb,dd,by rw[← Paired.length rel];exact zz,fun p ep=>?_,fun en h' dd' hs=>?_⟩
 ·have rv:=rel.val k
  rw[ep] at rv
  cases hv:valV kvs k with
  | none=>rw[hv] at rv;exact False.elim rv
  | some v=>rw[hv] at rv;exact⟨v,H3,I3.tok _,rv,k1 v hv⟩
 ·have hn : valV kvs k = none := by
   have rv:=(rel.val k).isSome_eq
   rw[en] at rv
   cases hv:valV kvs k with
   | none=>rfl
   | some v=>rw[hv] at rv;exact absurd rv (by simp)
  have hz:(putK kvs k z).length≤sizeLine:=by have:=zby kvs k z;lia
  obtain⟨q,es,ep,hq,h2,h3,h4,_,h5⟩:=dd'
  refine⟨z,_,?_,rz,k2 hn⟩
  refine zei I3 (by rw[eD];exact True.intro) hs ⟨q,hq⟩ ⟨hz,hd,_,(rel.put k eb rz).keeps fun c ys ec=>?_,q,es,ep,hq,h2,h3,h4,h5⟩
  rw[zam (ne_of ec eD (fun z=>nomatch z))]
  exact ec
end
structure Two (P:Program) (w:World) (K:W.Frag) (mg:Str→Option Value) (nm:Str) (a b:Int):Prop where
 ex:∃ (B:Addr) (t1 t2 t3 t4:Tok) (n:Nat),mg nm=some (.ref B)∧K.lookup B=some ⟨.type "dict",none,.dict #[⟨PyData.keyHash w.params "rim",.str "rim" t1,.int a t2⟩,⟨PyData.keyHash w.params "hole",.str "hole" t3,.int b t4⟩] n,#[]⟩
def tTwo (a b:Int) (ti:TE):TE:=fun σ H Q=>ti σ H fun y H1=>(y=.str "rim" ∧ Q (.int a) H1)∨(y=.str "hole" ∧ Q (.int b) H1)
theorem zmn {X:Cx}{nm:Str}{a b:Int}{i:Expr}{ti:TE}{p pos:Pos}(hg:Gl X nm) (hw:Two X.prog X.w X.K X.mg nm a b) (hi:PE X i ti) (hs:NoSl i:=by exact fun _ _=>rfl) (hdb:(nm == ("__debug__" : Str))=false:=by rfl):PE X (.Subscript (.Name nm p) i pos) (tTwo a b ti):=by
 intro pins s σ H Q I h
 obtain⟨B,t1,t2,t3,t4,n,hm,hl⟩:=hw.ex
 refine zi0 PySem.F.slot_dict_getitem.lookup hs (thn ((zcY (v:=.ref B) hg hm rfl (hd:=hdb):PE X (.Name nm p) _) pins s σ H (fun v H1=>v=V.ref B∧H1=H) I ⟨rfl,rfl⟩) fun u s1 ⟨x,H1,I1,rx,q1⟩=>?_)
 obtain⟨rfl,rfl⟩:=q1
 obtain rfl:u=Value.ref B:=rx
 refine thn (hi pins s1 σ H1 _ I1 h) fun iv s2 ⟨y,H2,I2,ry,q2⟩=>?_
 have ho:s2.heap.get? B=some _:=I2.kIn B _ hl
 have mo:s2.heap.MapOf (zaS X.prog X.w) B (PySem.findBy (zaS X.prog X.w).is #[⟨PyData.keyHash X.w.params "rim",.str "rim" t1,.int a t2⟩,⟨PyData.keyHash X.w.params "hole",.str "hole" t3,.int b t4⟩]) :=
  ⟨_,_,_,ho,⟨rfl,rfl,rfl⟩,rfl,fun e he=>by
   simp only[List.mem_toArray,List.mem_cons,List.not_mem_nil,or_false] at he
   rcases he with rfl | rfl
   ·exact⟨.inr "rim",zck _ _ _ _,rfl⟩
   ·exact⟨.inr "hole",zck _ _ _ _,rfl⟩,fun _=>rfl⟩
 refine⟨⟨_,ho,rfl⟩,?_⟩
 rcases q2 with⟨rfl,q⟩ | ⟨rfl,q⟩
 ·exact wpAny_getItem_of (kV_is (k:=.inr "rim") ry) mo (v:=.int a t2) rfl ⟨.int a,H2,I2.tok _,⟨_,rfl⟩,q⟩
 ·exact wpAny_getItem_of (kV_is (k:=.inr "hole") ry) mo (v:=.int b t4) rfl ⟨.int b,H2,I2.tok _,⟨_,rfl⟩,q⟩
section
variable {X:Cx}
theorem Inv.turned2 {pins : List (Addr × Obj)}{σ : St}{H : Hp}{s : Shared}{h' : Heap}{t' : Nat}{e it : Addr}(I : Inv X pins σ H s) (k : ∀ b o, b ≠ e → b ≠ it → s.heap.get? b = some o → h'.get? b = some o) (fe : FpOk X pins H e) (fi : FpOk X pins H it) :
  Inv X pins σ H { s with heap:=h',toks:=t' }:=by
 obtain⟨f0,f1,f2,f3,f4,f5⟩:=fe
 obtain⟨g0,g1,g2,g3,g4,g5⟩:=fi
 have nb:∀ b u,H b=some u→b≠e∧b≠it:=fun b u q=>⟨(fun z=>by rw[z,f0] at q;cases q),(fun z=>by rw[z,g0] at q;cases q)⟩
 have out:∀ b,b ∉ [e,it]→b≠e∧b≠it:=fun b hc=>⟨fun z=>hc (by simp[z]),fun z=>hc (by simp[z])⟩
 refine I.step (g':=s.gens) (d':=s.drawn) (ch:=[e,it]) (fun b hb=>?_) (fun b o _ _ hc q _=>k b o (out b hc).1 (out b hc).2 q) (fun b o _ _ hc q _=>⟨o.slots,k b o (out b hc).1 (out b hc).2 q⟩) (fun _ _ _ _ n=>n)
  (fun b o hc q=>⟨o,k b o (out b hc).1 (out b hc).2 q⟩) (fun _ _ q=>q) (fun _ _ _ q=>q) (fun b ps q=>⟨#[],by rw[q];simp⟩) (fun m hm=>?_) (fun b u q=>?_) I.bare
 ·rcases List.mem_cons.mp hb with z | z
  ·subst z;exact⟨f3,f1,f4,f5⟩
  ·have z':b=it:=by simpa using z
   subst z';exact⟨g3,g1,g4,g5⟩
 ·obtain⟨o,es,ep,ho,r⟩:=hm
  exact⟨o,es,ep,k _ o (Ne.symm f1) (Ne.symm g1) ho,r⟩
 ·refine (I.hok b u q).stay (fun c v hc q'=>?_) (fun _ q=>q) fun _ _ q=>q
  rcases hc with z | z
  ·rw[z] at q' ⊢;exact k _ _ (nb b u q).1 (nb b u q).2 q'
  ·exact k _ _ (nb c _ z).1 (nb c _ z).2 q'
def Ite (K:W.Frag) (a:Addr):It :=
 ⟨fun i H=>∃ xs x,SqL K H a xs∧xs[i]?=some x,fun i H y H'=>∃ p x,y=.ref p∧H p=none∧H'=upd H p (.tup [.int i,x])∧∀ xs,SqL K H a xs→xs[i]?=some x,fun i H=>∃ xs,SqL K H a xs∧xs.length≤i⟩
theorem ziW {P:Program}{w:World}{K:W.Frag}{es:List Expr}{x1:Nat}{pos:Pos}(a e it:Addr) (hne:e≠it):Turn P w K (.Tuple es x1 pos) (Ite K a) [e,it] e (fun i h=>∃ old,IsEnum h e it ((i:Nat):Int) old∧h.IsListIter it a i) where
 mem:=by simp
 obj:=fun i h st b hb=>by
  obtain⟨old,h1,o,h2,c,d⟩:=st
  rcases List.mem_cons.mp hb with z | z
  ·subst z;exact⟨_,h1,fun v q=>nomatch q⟩
  ·have z':b=it:=by simpa using z
   subst z';exact⟨o,h2,fun v q=>by rw[d] at q;cases q⟩
 keep:=fun i h h' ⟨old,h1,h2⟩ k=>⟨old,k e (by simp) _ h1,h2.at fun o q=>k it (by simp) o q⟩
 item:=by
  intro X hP hw hK hc i pins s σ H E I hf st hg
  subst hP hw hK
  obtain⟨old,he,hit⟩:=st
  obtain⟨xs,x,hq,hx⟩:=hg
  obtain⟨its,rv,p,hz⟩:=I.list hq
  obtain⟨u,hu,ru⟩:=rv.get hx
  have fe:=hf e (by simp)
  have fi:=hf it (by simp)
  refine wpAny_pyNext_enum_item he hit p.isList (x:=u) (by simpa using hu) hne fun h1 eo it1 tup sz kk=>⟨_,rfl,?_⟩
  refine wpAny_letOwnedTupleGo_enum (s:={ s with heap:=h1,toks:=s.toks+1 }) eo fun h2 he2 sb=>?_
  have heS:e<s.heap.objs.size:=Heap.lt_size he
  have hiS:it<s.heap.objs.size:=by obtain⟨o,q,_⟩:=hit;exact Heap.lt_size q
  have fr:H s.heap.objs.size=none:=I.hok.fresh (Nat.le_refl _)
  have I1:Inv X pins σ (upd H s.heap.objs.size (.tup [.int i,x])) { s with heap:=s.heap.push { cls:=.type "tuple",data:=.seq #[.int i s.toks,u] },toks:=s.toks } :=
   I.laid (t':=s.toks) (o:=.tup [.int i,x]) (fun b ob q=>Heap.get?_push_of_some _ q) (Nat.le_refl _) ⟨by show 2≤sizeLine;decide,_,.cons ⟨_,rfl⟩ (.cons ru .nil),IsTup.new _ _⟩
  have up:∀ {b:Addr},b<s.heap.objs.size→∀ o,upd H s.heap.objs.size o b=H b:=fun hb o=>zam (Nat.ne_of_lt hb)
  have fe1:FpOk X pins (upd H s.heap.objs.size (.tup [.int i,x])) e:=⟨by rw[up heS];exact fe.1,fe.2⟩
  have fi1:FpOk X pins (upd H s.heap.objs.size (.tup [.int i,x])) it:=⟨by rw[up hiS];exact fi.1,fi.2⟩
  have I2:Inv X pins σ (upd H s.heap.objs.size (.tup [.int i,x])) { s with heap:=h2,toks:=s.toks+1 }:=I1.turned2 (fun b o hbe hbi q=>by
   refine (sb.2 b hbe).trans ?_
   show h1.get? b=some o
   rcases Heap.get?_push_cases q with⟨z,rfl⟩ | q
   ·rw[z];exact tup
   ·exact kk b o hbe hbi q) fe1 fi1
  refine⟨.ref s.heap.objs.size,_,I2,rfl,⟨_,x,rfl,fr,rfl,fun ys hy=>by rw[I.list_inj hy hq];exact hx⟩,⟨u,?_,?_⟩,fun b hb=>?_⟩
  ·exact he2
  ·obtain⟨o,q,c,d⟩:=it1
   exact⟨o,(sb.2 it (Ne.symm hne)).trans q,c,d⟩
  ·rcases List.mem_cons.mp hb with z | z
   ·subst z;exact fe1.1
   ·have z':b=it:=by simpa using z
    subst z';exact fi1.1
 done:=by
  intro X hP hw hK hc i pins s σ H E I hf st hg
  subst hP hw hK
  obtain⟨old,he,hit⟩:=st
  obtain⟨xs,hq,hx⟩:=hg
  obtain⟨its,rv,p,hz⟩:=I.list hq
  obtain⟨f0,f1,f2,f3,f4,f5⟩:=hf it (by simp)
  have hl:=rv.length
  exact wpAny_pyNext_enum_end (I.ok.hd hc) he hit p.isList (by simp;lia) fun h' eb=>⟨rfl,I.turned (t':=s.toks) (fun b o hb e=>eb b o hb e) f0 f1 f3 f4 f5⟩
 self:=fun _ _ _ _ _ ⟨_,he,_⟩ h=>wpAny_pyIter_enum he h
def iEnum (K:W.Frag) (t:TA):TI:=fun σ H R=>t σ H fun vs H1=>∃ a,vs=[.ref a]∧(∃ xs,SqL K H1 a xs)∧R (Ite K a) H1
theorem zjp {l : Expr}{t : TA}{es : List Expr}{x1 : Nat}{pos pos' p : Pos}(hg : Gl X "enumerate") (hm : X.mg "enumerate" = none) (ha : PA X [l] t)
  (he:starEach [l] X.env=(false,eval l X.env)::starEach [] X.env:=by rfl) (hpl:(backTo pos' (starEach [] X.env)).any (·.1)=false:=by rfl) :
  PI X (.Tuple es x1 pos) (.Call (.Name "enumerate" p) [l] [] pos') (iEnum X.K t):=by
 intro pins s σ H R I h
 refine wpAny_Call_Name_kw (zcV I hg hm (by rfl) ?_ (by decide) (by decide))
 refine PyProof.Rows.callWith_type1 (thn (ha pos' pins s σ H _ I h) fun us s1 ⟨vs,H1,I1,r1,q1⟩=>?_) he hpl
 obtain⟨a,ex,⟨xs,hq⟩,q⟩:=q1
 subst ex
 obtain⟨u,rfl,rx⟩:=vals1 r1
 cases rx
 obtain⟨its,rv,pl,hz⟩:=I1.list hq
 refine call_enumerate_list pl.isList fun h' he hit hsz kp=>?_
 have I2:Inv X pins σ H1 { s1 with heap:=h' }:=I1.kept (t':=s1.toks) kp
 refine wpAny_pyIter_enum he ?_
 refine⟨s1.heap.objs.size+1,[s1.heap.objs.size+1,s1.heap.objs.size],_,_,H1,rfl,I2,ziW a _ _ (Nat.succ_ne_self _),⟨_,he,hit⟩,fun b hb=>?_,q⟩
 rcases List.mem_cons.mp hb with z | z
 ·subst z;exact I1.fpOk (Nat.le_succ _) (I1.hok.fresh (Nat.le_succ _))
 ·have z':b=s1.heap.objs.size:=by simpa using z
  subst z';exact I1.fpOk (Nat.le_refl _) (I1.hok.fresh (Nat.le_refl _))
theorem zh3 {K : W.Frag}{a : Addr}{xs : List V}{g : TG}{tb : TS}{D : Ends}{σ : St}{H : Hp}(Pv : Nat → St → Hp → Prop) (h0 : Pv 0 σ H) (hl : ∀ i σ H, i ≤ xs.length → Pv i σ H → SqL K H a xs)
  (hs:∀ i x σ H p,xs[i]?=some x→Pv i σ H→H p=none→g (.ref p) σ (upd H p (.tup [.int i,x])) fun σ2 H2=>tb { D with nx:=Pv (i+1),ct:=Pv (i+1),bk:=D.nx } σ2 H2) (hd:∀ σ H,Pv xs.length σ H→D.nx σ H) :
  ∃ W:Nat→Nat→St→Hp→Prop,(∃ m,W 0 m σ H)∧∀ i m σ H,W i m σ H →
   ((Ite K a).stop i H∧D.nx σ H)∨((Ite K a).go i H∧∃ N:St→Hp→Prop,(∀ σ' H',N σ' H'→∃ m',m'<m∧W (i+1) m' σ' H')∧∀ x H',(Ite K a).yld i H x H'→g x σ H' fun σ2 H2=>tb { D with nx:=N,ct:=N,bk:=D.nx } σ2 H2):=by
 refine⟨fun i m σ H=>m=xs.length - i∧i≤xs.length∧Pv i σ H,⟨xs.length,by simp,Nat.zero_le _,h0⟩,?_⟩
 rintro i m σ H ⟨rfl,hi,p⟩
 have q:=hl i σ H hi p
 by_cases hlt:i<xs.length
 ·refine .inr ⟨⟨xs,xs[i],q,by simp[hlt]⟩,Pv (i+1),fun σ' H' p'=>⟨xs.length - (i+1),by lia,rfl,hlt,p'⟩,fun x H' y=>?_⟩
  obtain⟨b,z,rfl,hb,rfl,y⟩:=y
  exact hs i z σ H b (y xs q) p hb
 ·have e:i=xs.length:=by lia
  subst e
  exact .inl ⟨⟨xs,q,Nat.le_refl _⟩,hd σ H p⟩
end
end L2
namespace HT
open PySem PyProof.Rows PySem.Spec
variable {prog:Program}{w:World}{A:Around}{E:Value→Shared→Prop}{s:Shared}
end HT
namespace L2
open PySem PySem.Spec PyProof.Rows
section
variable {X:Cx}{K:W.Frag}
end
end L2
namespace HT
open PySem PyProof.Rows PySem.Spec
end HT
namespace L2
open PySem PySem.Spec PyProof.Rows
section
variable {X:Cx}{K:W.Frag}
end
section
variable {X:Cx}
theorem Inv.turnedL {pins : List (Addr × Obj)}{σ : St}{H : Hp}{s : Shared}{h' : Heap}{t' : Nat}{fp : List Addr}(I : Inv X pins σ H s) (k : ∀ b o, b ∉ fp → s.heap.get? b = some o → h'.get? b = some o) (hf : ∀ b ∈ fp, FpOk X pins H b) :
  Inv X pins σ H { s with heap:=h',toks:=t' }:=by
 have nb:∀ b u,H b=some u→b ∉ fp:=fun b u q z=>by rw[(hf b z).1] at q;cases q
 refine I.step (g':=s.gens) (d':=s.drawn) (ch:=fp) (fun b hb=>?_) (fun b o _ _ hc q _=>k b o hc q) (fun b o _ _ hc q _=>⟨o.slots,k b o hc q⟩) (fun _ _ _ _ n=>n)
  (fun b o hc q=>⟨o,k b o hc q⟩) (fun _ _ q=>q) (fun _ _ _ q=>q) (fun b ps q=>⟨#[],by rw[q];simp⟩) (fun m hm=>?_) (fun b u q=>?_) I.bare
 ·obtain⟨_,f1,_,f3,f4,f5⟩:=hf b hb
  exact⟨f3,f1,f4,f5⟩
 ·obtain⟨o,es,ep,ho,r⟩:=hm
  exact⟨o,es,ep,k _ o (fun z=>(hf _ z).2.1 rfl) ho,r⟩
 ·refine (I.hok b u q).stay (fun c v hc q'=>?_) (fun _ q=>q) fun _ _ q=>q
  rcases hc with z | z
  ·rw[z] at q' ⊢;exact k _ _ (nb b u q) q'
  ·exact k _ _ (nb c _ z) q'
end
section
variable {X:Cx}{e es:Expr}{te ts:TE}{pos p2:Pos}
def tRevL (K:W.Frag) (te ts:TE):TE:=fun σ H Q=>te σ H fun x H1=>ts σ H1 fun y H2=>y=.int (-1)∧∃ a xs,x=.ref a∧SqL K H2 a xs∧∀ p,H2 p=none→Q (.ref p) (upd H2 p (.lst xs.reverse))
theorem zjr (he:PE X e te) (hs:PE X es ts):PE X (.Subscript e (.Slice none none (some es) p2) pos) (tRevL X.K te ts):=by
 intro pins s σ H Q I h
 refine Subscript_ (thn (he pins s σ H _ I h) fun v s1 ⟨x,H1,I1,r1,q1⟩=>?_)
 refine wpAny_Slice ?_
 rw[evalPart_none,evalPart_some]
 refine wpAny_pure (wpAny_pure ?_)
 refine thn (hs pins s1 σ H1 _ I1 q1) fun vs s3 ⟨y,H3,I3,r3,q3⟩=>?_
 obtain⟨rfl,a,xs,rfl,hx,q⟩:=q3
 obtain⟨tk,rfl⟩:=r3
 cases r1
 have I4:Inv X pins σ H3 { s3 with heap:=s3.heap.push { cls:=.type "slice",data:=.fields #[.none,.none,.int (-1) tk] } }:=I3.kept (t':=s3.toks) fun b ob q=>Heap.get?_push_of_some _ q
 obtain⟨its,r,ht,hz⟩:=I4.list hx
 have hlen:=r.length
 show wpAny (model X.prog X.w) X.A (subscriptTail e (.Slice none none (some es) p2) (.ref a) (.ref s3.heap.objs.size)) (EP X pins σ Q) X.xe { s3 with heap:=s3.heap.push { cls:=.type "slice",data:=.fields #[.none,.none,.int (-1) tk] } }
 refine tail_any (ops:=[.ref a,.ref s3.heap.objs.size]) ht.isList.typeIs slot_list_getitem.lookup (wpAny_getItem_list_slice ht.isList (Heap.IsSliceOf.new ..) .none .none (.int (-1) tk) (by simp) ?_ (by rw[List.size_toArray] <;> lia)) (by with_unfolding_all rfl)
 rw[W.krv_pick]
 generalize s3.heap.push { cls:=.type "slice",data:=.fields #[.none,.none,.int (-1) tk] }=h4 at *
 refine⟨.ref _,_,I4.laid (t':=s3.toks) (o:=.lst xs.reverse) (fun b ob q=>Heap.get?_push_of_some _ q) (Nat.le_refl _) ?_,rfl,q _ (I4.hok.fresh (Nat.le_refl _))⟩
 exact⟨by rw[List.length_reverse];exact hz,its.reverse,0,r.reverse,Heap.get?_push_size _ rfl⟩
end
section
variable {X:Cx}
end
section
variable {prog:Program}{w:World}{A:Around}{R:Result→Shared→Prop}{I:Addr}{fp wr:List Addr}{n:Nat}{P:Nat→Value→Prop}{St:Nat→Heap→Prop}{dv:Value}
end
section
variable {X:Cx}{pins:List (Addr×Obj)}{σ:St}{H0:Hp}{s:Shared}{l:Addr}{Q:VK}
end
section
variable {X:Cx}{p pos kpos kp:Pos}{e:Expr}{te:TE}{d:Int}{kj:Nat}
end
end L2
namespace HT
open PySem PyProof.Rows
variable {prog:Program}{w:World}{A:Around}{E:Value→Shared→Prop}{s:Shared}
end HT
namespace L2
open PySem PySem.Spec PyProof.Rows
section
variable {X:Cx}{e es:Expr}{te ts:TE}{pos p2:Pos}
end
end L2
namespace HT
open PySem PyProof.Rows
section
open PySem.SeqAt
open PySem.AutoSeq1 (wpAny_loadPart')
open PySem.MeetsSeq PySem.MeetsSeq2 PySem.MeetsSeq3
end
section
variable {prog:Program}{w:World}{A:Around}{E:Value→Shared→Prop}{s:Shared}
end
end HT
namespace L2
open PySem PySem.Spec PyProof.Rows
section
variable {X:Cx}{pos:Pos}
end
section
variable {prog:Program}{w:World}{A:Around}{E:Value→Shared→Prop}{s:Shared}{it d:Addr}{i ep:Nat}{es:Array DictEntry}{od:Obj}
theorem zeb {Q : Value → Shared → Prop}(lo : (d == sysModules) = false) (g : s.heap.get? d = some od) (x : od.ExactDict) (dat : od.data = .dict es ep)
  (k:Q (.ref s.heap.objs.size) { s with heap:=s.heap.push { cls:=.type "dict_keyiterator",data:=.fields #[.ref d,.int 0 0,.int es.size 0,.int ep 0] } }):wpAny (model prog w) A (pyIter (.ref d)) Q E s:=by
 have ty:s.TypeIs (.ref d) "dict":=⟨od,g,x.1⟩
 refine wpAny_pyIter_slot ty PySem.F.slot_dict_iter (wpAny_call_entry PySem.F.slot_dict_iter ty PySem.F.entry_dict_iter ?_ (PySem.F.args_dict_iter_1 _))
 unfold Builtin.«dict.__iter__» Builtin.Dict.dictSlotNone
 refine wpAny_bind (wpAny_bind (wpAny_notOrdered_dict ty ?_))
 show wpAny (model prog w) A.in1 (pure (Value.ref d)) _ _ s
 refine wpAny_pure ?_
 show wpAny (model prog w) A.in1 (Builtin.Dict.showsAll d >>= _) _ _ s
 unfold Builtin.Dict.showsAll
 rw[if_neg (show ¬ (d == sysModules)=true by rw[lo];decide)]
 refine wpAny_bind (wpAny_pure (wpAny_bind (wpAny_dictEntries g dat (wpAny_bind (wpAny_dictEpoch g dat (wpAny_bind (wpAny_newObj_type (wpAny_pure ⟨_,rfl,"dict_keyiterator",_,⟨_,Heap.get?_push_size _ rfl,rfl⟩,PySem.F.slot_dict_keyiterator_next.lookup,?_⟩))))))))
 simpa[rawInt] using k
theorem zgq {e : DictEntry}{Q : Option Value → Shared → Prop}(st : s.heap.IsKeyIter it d i es.size ep) (g : s.heap.get? d = some od) (dat : od.data = .dict es ep) (he : es[i]? = some e)
  (k:∀ h',h'.IsKeyIter it d (i+1) es.size ep→Heap.SameBut it s.heap h'→Q (some e.key) { s with heap:=h' }):wpAny (model prog w) A (pyNext (.ref it)) Q E s:=by
 obtain⟨o,go,oc,odt⟩:=id st
 unfold pyNext
 refine wpAny_bind (wpAny_attempt (wpAny_callSpecial?_slot (name:=Str.ofString "__next__") st.typeIs PySem.F.slot_dict_keyiterator_next (wpAny_call_entry PySem.F.slot_dict_keyiterator_next st.typeIs PySem.F.entry_dict_keyiterator_next ?_ (PySem.F.args_dict_keyiterator_next_1 _))))
 refine wpAny_bind (wpAny_pure (wpAny_bind (wpAny_bind ?_)))
 refine wpAny_bind (wpAny_typeNameOfWhole_keyiter st.typeIs (wpAny_pure (wpAny_bind (wpAny_fieldsOf go odt ?_))))
 simp only[show Builtin.Dict_items.ownsTuple "dict_keyiterator" = false by decide,Bool.false_eq_true,if_false]
 show wpAny (model prog w) _ (if (Value.ref d == Value.none)=true then _ else _) _ _ s
 rw[if_neg (show ¬ (Value.ref d == Value.none)=true by simp)]
 refine wpAny_bind (wpAny_pure (wpAny_bind (wpAny_dictEntries g dat ?_)))
 rw[if_neg (show ¬ ((es.size:Int) != (es.size:Int))=true by simp)]
 refine wpAny_bind (wpAny_pure (wpAny_bind (wpAny_dictEpoch g dat ?_)))
 rw[if_neg (show ¬ ((ep:Int) != (ep:Int))=true by simp)]
 refine wpAny_pure ?_
 simp only[show ¬ ((i:Int)<0) by lia,if_false,Int.toNat_natCast,he]
 refine wpAny_bind (wpAny_bind (wpAny_typeNameOfWhole_keyiter st.typeIs (wpAny_pure ?_)))
 refine wpAny_bind (wpAny_isOneOf_keyiter st.typeIs ?_)
 show wpAny (model prog w) _ (setField (.ref it) 1 (rawInt ((i:Int)+1)) >>= _) _ _ s
 refine wpAny_bind (wpAny_setField go odt (by simp) ?_)
 have st':(s.heap.update it (Obj.mapFields (·.setIfInBounds 1 (rawInt ((i:Int)+1))))).IsKeyIter it d (i+1) es.size ep:=by
  refine⟨_,Heap.get?_update_self _ go (Obj.isFreed_of_fields (Obj.data_mapFields odt _)),(Obj.cls_mapFields ..).trans oc,?_⟩
  rw[Obj.data_mapFields odt]
  simp[rawInt]
 refine wpAny_bind (wpAny_holding (wpAny_bind (wpAny_isOneOf_keyiter (s:={ s with heap:=s.heap.update it (Obj.mapFields (·.setIfInBounds 1 (rawInt ((i:Int)+1)))) }) st'.typeIs ?_)))
 show wpAny (model prog w) _ (pure e.key) _ _ _
 exact wpAny_pure (wpAny_pure ⟨_,rfl,wpAny_pure (k _ st' (Heap.SameBut.update ..))⟩)
theorem zhZ {Q : Option Value → Shared → Prop}(hh : A.handled = none) (st : s.heap.IsKeyIter it d i es.size ep) (g : s.heap.get? d = some od) (dat : od.data = .dict es ep) (he : es.size ≤ i)
  (k:∀ h',Heap.ExtBut it s.heap h'→Q none { s with heap:=h' }):wpAny (model prog w) A (pyNext (.ref it)) Q E s:=by
 obtain⟨o,go,oc,odt⟩:=id st
 unfold pyNext
 refine wpAny_bind (wpAny_attempt (wpAny_callSpecial?_slot (name:=Str.ofString "__next__") st.typeIs PySem.F.slot_dict_keyiterator_next (wpAny_call_entry PySem.F.slot_dict_keyiterator_next st.typeIs PySem.F.entry_dict_keyiterator_next ?_ (PySem.F.args_dict_keyiterator_next_1 _))))
 refine wpAny_bind (wpAny_pure (wpAny_bind (wpAny_bind ?_)))
 refine wpAny_bind (wpAny_typeNameOfWhole_keyiter st.typeIs (wpAny_pure (wpAny_bind (wpAny_fieldsOf go odt ?_))))
 simp only[show Builtin.Dict_items.ownsTuple "dict_keyiterator" = false by decide,Bool.false_eq_true,if_false]
 show wpAny (model prog w) _ (if (Value.ref d == Value.none)=true then _ else _) _ _ s
 rw[if_neg (show ¬ (Value.ref d == Value.none)=true by simp)]
 refine wpAny_bind (wpAny_pure (wpAny_bind (wpAny_dictEntries g dat ?_)))
 rw[if_neg (show ¬ ((es.size:Int) != (es.size:Int))=true by simp)]
 refine wpAny_bind (wpAny_pure (wpAny_bind (wpAny_dictEpoch g dat ?_)))
 rw[if_neg (show ¬ ((ep:Int) != (ep:Int))=true by simp)]
 refine wpAny_pure ?_
 simp only[show ¬ ((i:Int)<0) by lia,if_false,Int.toNat_natCast,Array.getElem?_eq_none he]
 refine wpAny_bind (wpAny_bind (wpAny_typeNameOfWhole_keyiter st.typeIs (wpAny_pure ?_)))
 show wpAny (model prog w) _ (setField (.ref it) 0 .none >>= _) _ _ s
 refine wpAny_bind (wpAny_setField go odt (by simp) ?_)
 show wpAny (model prog w) _ (newExc (.type "StopIteration") [] >>= _) _ _ _
 refine wpAny_bind ?_
 simp only[newExc,newTuple]
 refine wpAny_bind (wpAny_newObj_type ?_ (by size_fits))
 refine wpAny_bind (m:=firstArgMember _ _) (wpAny_of_eq (a:=Value.none) (by first | rfl | (simp only[firstArgMember];rfl)) (wpAny_newObj_type ?_ (by size_fits)))
 simp only[raiseNew]
 refine wpAny_bind (wpAny_handled ?_)
 rw[show A.in1.handled=none from hh]
 refine wpAny_bind (wpAny_pure (wpAny_throw (?_:wpAny _ _ _ _ _ _)))
 exact wpAny_bind (wpAny_isInstance (b:=true) (T:="StopIteration") ⟨_,Heap.get?_push_size _ rfl,rfl⟩ isSubtype_stop (wpAny_pure (k _ (((Heap.SameBut.update ..).extBut.push _).push _))))
end
def Itd (a:Addr) (od:Obj):It :=
 ⟨fun i H=>∃ kvs,H a=some (.frz od (.dT kvs))∧i<kvs.length,fun i H x H'=>H'=H∧∀ kvs,H a=some (.frz od (.dT kvs))→∃ b k v,x=.ref b∧kvs[i]?=some (k,v)∧H b=some (.tup (k.map kV)),fun i H=>∃ kvs,H a=some (.frz od (.dT kvs))∧kvs.length≤i⟩
theorem Paired.at' {α β:Type}{F:α→β→Prop}:∀ {l:List α}{m:List β},Paired F l m→∀ {i:Nat}{x:α},l[i]?=some x→∃ y,m[i]?=some y∧F x y
 | _,_,.cons r t,0,x,h=>by cases h;exact⟨_,rfl,r⟩
 | _,_,.cons r t,i+1,x,h=>Paired.at' t h
theorem zfW {P:Program}{w:World}{K:W.Frag}{tg:Expr}(a it:Addr) (od:Obj){es:Array DictEntry}{ep:Nat}(dat:od.data=.dict es ep):Turn P w K tg (Itd a od) [it] it (fun i h=>h.IsKeyIter it a i es.size ep) where
 mem:=by simp
 obj:=fun i h st b hb=>by
  have e:b=it:=by simpa using hb
  subst e
  obtain⟨o,e,c,d⟩:=st
  exact⟨o,e,fun v z=>by rw[d] at z;cases z⟩
 keep:=fun i h h' st k=>st.at fun o e=>k it (by simp) o e
 item:=by
  intro X hP hw hK hc i pins s σ H E I hf st hg
  subst hP hw hK
  obtain⟨kvs,e,hi⟩:=hg
  obtain⟨g,z,y,xs,r,o,es',ep',h1,h2,h3,h4,h5⟩:=(show ObjOk X.prog X.w H s.heap a (.frz od (.dT kvs)) from I.hok a _ e)
  rw[g] at h1
  cases h1
  rw[dat] at h3
  cases h3
  obtain⟨q,hq,q1,q2,q3⟩:=Paired.at' r (List.getElem?_eq_getElem hi)
  have he:es[i]?=some (entryOfKey (tupleKind (zaS X.prog X.w)) q):=by rw[entry_at h4,hq];rfl
  obtain⟨f0,f1,f2,f3,f4,f5⟩:=hf it (by simp)
  refine zgq st g dat he fun h' st' sb=>?_
  have I1:Inv X pins σ H { s with heap:=h' }:=I.turned (t':=s.toks) (fun b o hb e=>(sb.2 b hb).trans e) f0 f1 f3 f4 f5
  obtain⟨o,e',c,dd⟩:=id st'
  refine⟨_,rfl,go_of (s:={ s with heap:=h' }) e' c dd (by decide) ⟨.ref q.2.1,H,I1,rfl,⟨rfl,fun ks hk=>?_⟩,st',fun b hb=>(hf b hb).1⟩⟩
  rw[e] at hk
  cases hk
  exact⟨q.2.1,kvs[i].1,kvs[i].2,rfl,List.getElem?_eq_getElem hi,q2⟩
 done:=by
  intro X hP hw hK hc i pins s σ H E I hf st hg
  subst hP hw hK
  obtain⟨kvs,e,hi⟩:=hg
  obtain⟨g,z,y,xs,r,o,es',ep',h1,h2,h3,h4,h5⟩:=(show ObjOk X.prog X.w H s.heap a (.frz od (.dT kvs)) from I.hok a _ e)
  rw[g] at h1
  cases h1
  rw[dat] at h3
  cases h3
  obtain⟨f0,f1,f2,f3,f4,f5⟩:=hf it (by simp)
  exact zhZ (I.ok.hd hc) st g dat (by rw[size_of_entries h4,← Paired.length r];exact hi) fun h' eb=>⟨rfl,I.turned (t':=s.toks) (fun b o hb e=>eb b o hb e) f0 f1 f3 f4 f5⟩
 self:=fun _ _ _ _ _ st h=>wpAny_pyIter_keyiter st h
section
variable {X:Cx}{tg:Expr}
end
theorem zh4 {a : Addr}{od : Obj}{kvs : List (List Key × V)}{g : TG}{tb : TS}{D : Ends}{σ : St}{H : Hp}(Pv : Nat → St → Hp → Prop) (h0 : Pv 0 σ H) (hl : ∀ i σ H, i ≤ kvs.length → Pv i σ H → H a = some (.frz od (.dT kvs)))
  (hs:∀ i b k v σ H,kvs[i]?=some (k,v)→H b=some (.tup (k.map kV))→Pv i σ H→g (.ref b) σ H fun σ2 H2=>tb { D with nx:=Pv (i+1),ct:=Pv (i+1),bk:=D.nx } σ2 H2) (hd:∀ σ H,Pv kvs.length σ H→D.nx σ H) :
  ∃ W:Nat→Nat→St→Hp→Prop,(∃ m,W 0 m σ H)∧∀ i m σ H,W i m σ H →
   ((Itd a od).stop i H∧D.nx σ H)∨((Itd a od).go i H∧∃ N:St→Hp→Prop,(∀ σ' H',N σ' H'→∃ m',m'<m∧W (i+1) m' σ' H')∧∀ x H',(Itd a od).yld i H x H'→g x σ H' fun σ2 H2=>tb { D with nx:=N,ct:=N,bk:=D.nx } σ2 H2):=by
 refine⟨fun i m σ H=>m=kvs.length - i∧i≤kvs.length∧Pv i σ H,⟨kvs.length,by simp,Nat.zero_le _,h0⟩,?_⟩
 rintro i m σ H ⟨rfl,hi,p⟩
 have q:=hl i σ H hi p
 by_cases hlt:i<kvs.length
 ·refine .inr ⟨⟨kvs,q,hlt⟩,Pv (i+1),fun σ' H' p'=>⟨kvs.length - (i+1),by lia,rfl,hlt,p'⟩,fun x H' y=>?_⟩
  obtain⟨e,y⟩:=y
  subst e
  obtain⟨b,k,v,rfl,h1,h2⟩:=y kvs q
  exact hs i b k v σ _ h1 h2 p
 ·have e:i=kvs.length:=by lia
  subst e
  exact .inl ⟨⟨kvs,q,Nat.le_refl _⟩,hd σ H p⟩
section
variable {prog:Program}{w:World}{K:Type} [DecidableEq K] {knd:HeapKind prog w K}{A:Around}{E:Value→Shared→Prop}{s:Shared}{d a:Addr}{xs:List (K×Addr×Value)}{k:K}
end
section
variable {X:Cx}{o e f:Expr}{apos cpos:Pos}{td ty tx:TE}
end
end L2
namespace RP
theorem Closed.has1 {C:Cell→Bool}{b:Edge}{es:List Edge}(h:Closed C b es):∃ e∈es,e.w=1:=by
 apply Classical.byContradiction
 intro hno
 have hno':∀ e∈es,e.w≠1:=fun e he z=>hno ⟨e,he,z⟩
 obtain⟨s1,s2⟩:=h.sums
 obtain⟨hc,_⟩:=h
 have hpos:0<es.length:=(List.getElem?_eq_some_iff.mp hc.1).1
 have z:∀ e∈es,dy e.w=0:=by
  have:=zfb (l:=(es.map fun e=>dy e.w).map fun x=>-x) (fun x hx=>by
   obtain⟨y,hy,rfl⟩:=List.mem_map.mp hx
   obtain⟨e,he,rfl⟩:=List.mem_map.mp hy
   have:=hno' e he
   rcases way4 (hc.2.2.1 e he).1 with q | q | q | q
   ·rw[q];decide
   ·exact absurd q this
   ·rw[q];decide
   ·rw[q];decide) (by rw[zjy,s2];rfl)
  intro e he
  have:=this (-(dy e.w)) (List.mem_map.mpr ⟨_,List.mem_map.mpr ⟨e,he,rfl⟩,rfl⟩)
  lia
 have even:∀ e∈es,e.w=0∨e.w=2:=fun e he=>by
  have hz:=z e he
  rcases way4 (hc.2.2.1 e he).1 with q | q | q | q
  ·exact .inl q
  ·rw[q] at hz;exact absurd hz (by decide)
  ·exact .inr q
  ·rw[q] at hz;exact absurd hz (by decide)
 have same:∀ (i:Nat) (e:Edge),es[i]?=some e→e.w=b.w:=by
  intro i
  induction i with
  | zero=>intro e he;have:=hc.1;rw[he] at this;cases this;rfl
  | succ i ih =>
   intro e he
   have hi:i+1<es.length:=(List.getElem?_eq_some_iff.mp he).1
   have h1:es[i]?=some es[i]:=List.getElem?_eq_getElem (by lia)
   have hn:=hc.2.1 i _ e h1 he
   have m1:es[i]∈es:=List.getElem_mem _
   have w1:=ih _ h1
   have o1:=even _ m1
   have o2:=even _ (List.mem_of_getElem? he)
   have:=zk3 (hc.2.2.1 _ m1)
   rw[← hn] at this
   lia
 have all:∀ x∈es.map (fun e=>dx e.w),x=dx b.w:=fun x hx=>by
  obtain⟨e,he,rfl⟩:=List.mem_map.mp hx
  obtain⟨i,hi,ei⟩:=List.getElem_of_mem he
  rw[same i e (by rw[List.getElem?_eq_getElem hi,ei])]
 have t:=zgx _ _ all
 rw[s1,List.length_map] at t
 have ob:b.w=0∨b.w=2:=even b (List.mem_of_getElem? hc.1)
 have d1:dx b.w=1∨dx b.w=-1:=by
  rcases ob with q | q <;> rw[q] <;> decide
 rcases d1 with q | q <;> rw[q] at t <;> lia
theorem box63 {w h:Nat}(hb:w*h≤120):w*((h+1) / 2)≤63∨h*((w+1) / 2)≤63:=by
 have:h≤10∨w≤10:=by
  by_cases h1:h≤10
  ·exact .inl h1
  ·by_cases h2:w≤10
   ·exact .inr h2
   ·have:=Nat.mul_le_mul (show 11≤w by lia) (show 11≤h by lia)
    lia
 rcases this with h1 | h1
 ·have:h=0∨h=1∨h=2∨h=3∨h=4∨h=5∨h=6∨h=7∨h=8∨h=9∨h=10:=by lia
  rcases this with rfl | rfl | rfl | rfl | rfl | rfl | rfl | rfl | rfl | rfl | rfl <;> lia
 ·have:w=0∨w=1∨w=2∨w=3∨w=4∨w=5∨w=6∨w=7∨w=8∨w=9∨w=10:=by lia
  rcases this with rfl | rfl | rfl | rfl | rfl | rfl | rfl | rfl | rfl | rfl | rfl <;> lia
def grid (w h:Nat):List (Nat×Nat):=(List.range w).flatMap fun i=>(List.range h).map fun j=>(i,j)
theorem zhV {w h:Nat}{p:Nat×Nat}:p∈grid w h ↔ p.1<w∧p.2<h:=by
 unfold grid
 simp only[List.mem_flatMap,List.mem_map,List.mem_range]
 constructor
 ·rintro⟨i,hi,j,hj,rfl⟩;exact⟨hi,hj⟩
 ·rintro⟨h1,h2⟩;exact⟨p.1,h1,p.2,h2,rfl⟩
theorem ziY (l:List Nat) (h:Nat):(l.map fun _=>h).sum=l.length*h:=by
 induction l with
 | nil=>simp
 | cons a r ih=>rw[List.map_cons,List.sum_cons,ih,List.length_cons,Nat.succ_mul,Nat.add_comm]
theorem zea (w h:Nat):(grid w h).length=w*h:=by
 unfold grid
 rw[List.length_flatMap]
 simp only[List.length_map,List.length_range]
 rw[ziY,List.length_range]
theorem zgn {α β:Type}{f:α→β}:∀ {l:List α},l.Nodup→(∀ a∈l,∀ b∈l,f a=f b→a=b)→(l.map f).Nodup:=fun {l} hn hf=>by
 unfold List.Nodup at *
 rw[List.pairwise_map]
 exact hn.imp_of_mem fun ha hb hne e=>hne (hf _ ha _ hb e)
end RP
namespace L2
open PySem PySem.Spec PyProof.Rows
theorem zdr {bt:Nat→Nat→Bool}:∀ n,argBest bt n≤n
 | 0=>Nat.le_refl _
 | n+1=>by
  show (if bt (n+1) (argBest bt n)=true then n+1 else argBest bt n)≤n+1
  split
  ·exact Nat.le_refl _
  ·exact Nat.le_succ_of_le (zdr n)
theorem zdq {v:Nat→Int}:∀ (n j:Nat),j≤n→v (argBest (fun i j=>decide (v i<v j)) n)≤v j
 | 0,j,h=>by
  obtain rfl:j=0:=by lia
  exact Int.le_refl _
 | n+1,j,h=>by
  show v (if decide (v (n+1)<v (argBest (fun i j=>decide (v i<v j)) n))=true then n+1 else argBest (fun i j=>decide (v i<v j)) n)≤v j
  by_cases hb:v (n+1)<v (argBest (fun i j=>decide (v i<v j)) n)
  ·rw[if_pos (decide_eq_true hb)]
   rcases Nat.lt_or_ge n j with q | q
   ·obtain rfl:j=n+1:=by lia
    exact Int.le_refl _
   ·have:=zdq (v:=v) n j q;lia
  ·rw[if_neg (by simpa using hb)]
   rcases Nat.lt_or_ge n j with q | q
   ·obtain rfl:j=n+1:=by lia
    lia
   ·exact zdq n j q
theorem zds {v:Nat→Int}:∀ (n j:Nat),j≤n→v j≤v (argBest (fun i j=>decide (v i > v j)) n)
 | 0,j,h=>by
  obtain rfl:j=0:=by lia
  exact Int.le_refl _
 | n+1,j,h=>by
  show v j≤v (if decide (v (n+1) > v (argBest (fun i j=>decide (v i > v j)) n))=true then n+1 else argBest (fun i j=>decide (v i > v j)) n)
  by_cases hb:v (n+1) > v (argBest (fun i j=>decide (v i > v j)) n)
  ·rw[if_pos (decide_eq_true hb)]
   rcases Nat.lt_or_ge n j with q | q
   ·obtain rfl:j=n+1:=by lia
    exact Int.le_refl _
   ·have:=zds (v:=v) n j q;lia
  ·rw[if_neg (by simpa using hb)]
   rcases Nat.lt_or_ge n j with q | q
   ·obtain rfl:j=n+1:=by lia
    lia
   ·exact zds n j q
theorem zjN:∀ (ns:List Int) (its:List Value),Vals (ns.map V.int) its→∃ ts:Array (Int×Tok),its.toArray=intItems ts∧ts.toList.map (·.1)=ns:=by
 intro ns its r
 have:∀ (ns:List Int) (its:List Value),Vals (ns.map V.int) its→∃ ts:List (Int×Tok),its=ts.map (fun p=>Value.int p.1 p.2)∧ts.map (·.1)=ns:=by
  intro ns
  induction ns with
  | nil=>intro its r;cases r;exact⟨[],rfl,rfl⟩
  | cons n ns ih =>
   intro its r
   cases r with
   | cons h t =>
    obtain⟨ts,h1,h2⟩:=ih _ t
    obtain⟨tk,rfl⟩:=(show ∃ t,_=Value.int n t from h)
    exact⟨(n,tk)::ts,by rw[h1];rfl,by rw[List.map_cons,h2]⟩
 obtain⟨ts,h1,h2⟩:=this ns its r
 exact⟨ts.toArray,by rw[h1];simp[intItems],by simpa using h2⟩
section
variable {X:Cx}
def IsMin (ns:List Int) (m:Int):Prop:=m∈ns∧∀ n∈ns,m≤n
def IsMax (ns:List Int) (m:Int):Prop:=m∈ns∧∀ n∈ns,n≤m
theorem zgB (hh:X.calm=true):CallR X (.builtin "min") (fun xs H Q=>∃ (p:Addr) (ns:List Int),xs=[.ref p]∧SqL X.K H p (ns.map V.int)∧ns≠[]∧∀ m,IsMin ns m→Q (.int m) H):=by
 intro pins s σ H xs us Q I r h
 obtain⟨p,ns,rfl,hq,hne,q⟩:=h
 obtain⟨u,rfl,ru⟩:=vals1 r
 cases (show u=Value.ref p from ru)
 obtain⟨its,rv,pl,hz⟩:=I.list hq
 obtain⟨ts,h1,h2⟩:=zjN ns its rv
 have hl1:=pl.isList
 rw[h1] at hl1
 have hgl:ns.length=ts.size:=by rw[← h2];simp
 have hpos:0<ns.length:=List.length_pos_iff.mpr hne
 have gd:∀ j,numAt ts j=ns.getD j 0:=fun j=>by rw[numAt_eq,h2]
 refine min_intList (I.ok.hd hh) hl1 (by lia) fun v h' tk hv hk=>?_
 obtain⟨t,rfl⟩:=intItems_at hv
 have hle:=zdr (bt:=fun i j=>decide (numAt ts i<numAt ts j)) (ts.size - 1)
 refine⟨.int _,H,I.kept hk,⟨_,rfl⟩,q _ ⟨?_,fun n hn=>?_⟩⟩
 ·rw[gd,List.getD_eq_getElem?_getD,List.getElem?_eq_getElem (by lia)]
  exact List.getElem_mem _
 ·obtain⟨j,hj,rfl⟩:=List.getElem_of_mem hn
  have:=zdq (v:=numAt ts) (ts.size - 1) j (by lia)
  rw[gd j,List.getD_eq_getElem?_getD,List.getElem?_eq_getElem hj] at this
  exact this
theorem zgC (hh:X.calm=true):CallR X (.builtin "max") (fun xs H Q=>∃ (p:Addr) (ns:List Int),xs=[.ref p]∧SqL X.K H p (ns.map V.int)∧ns≠[]∧∀ m,IsMax ns m→Q (.int m) H):=by
 intro pins s σ H xs us Q I r h
 obtain⟨p,ns,rfl,hq,hne,q⟩:=h
 obtain⟨u,rfl,ru⟩:=vals1 r
 cases (show u=Value.ref p from ru)
 obtain⟨its,rv,pl,hz⟩:=I.list hq
 obtain⟨ts,h1,h2⟩:=zjN ns its rv
 have hl1:=pl.isList
 rw[h1] at hl1
 have hgl:ns.length=ts.size:=by rw[← h2];simp
 have hpos:0<ns.length:=List.length_pos_iff.mpr hne
 have gd:∀ j,numAt ts j=ns.getD j 0:=fun j=>by rw[numAt_eq,h2]
 refine max_intList (I.ok.hd hh) hl1 (by lia) fun v h' tk hv hk=>?_
 obtain⟨t,rfl⟩:=intItems_at hv
 have hle:=zdr (bt:=fun i j=>decide (numAt ts i > numAt ts j)) (ts.size - 1)
 refine⟨.int _,H,I.kept hk,⟨_,rfl⟩,q _ ⟨?_,fun n hn=>?_⟩⟩
 ·rw[gd,List.getD_eq_getElem?_getD,List.getElem?_eq_getElem (by lia)]
  exact List.getElem_mem _
 ·obtain⟨j,hj,rfl⟩:=List.getElem_of_mem hn
  have:=zds (v:=numAt ts) (ts.size - 1) j (by lia)
  rw[gd j,List.getD_eq_getElem?_getD,List.getElem?_eq_getElem hj] at this
  exact this
end
end L2
namespace HT
open PySem PyProof.Rows
variable {prog:Program}{w:World}{A:Around}{E:Value→Shared→Prop}{s:Shared}
end HT
namespace L2
open PySem PySem.Spec PyProof.Rows
section
variable {X:Cx}{e es:Expr}{te ts:TE}{pos p2:Pos}
theorem zj9 {n:Nat}{i:Int}(h:i.natAbs<2 ^ n):Builtin.Int.intBits i≤n:=by
 unfold Builtin.Int.intBits
 by_cases h0:i=0
 ·subst h0;exact Nat.zero_le _
 ·rw[if_neg (by simpa using h0)]
  exact (Nat.log2_lt (by lia)).mpr h
def CMulB (i j:Int):Prop:=i.natAbs<2 ^ 1000∧j.natAbs<2 ^ 1000
theorem zbK:OpR X (binaryOp .Mult) (rI CMulB fun i j=>.int (i*j)):=opI fun i j _ _ _ _ _ hc q=>mul_int q (by
 refine PySem.IntMulOk.of_le (m:=1000) (n:=1000) ?_ ?_ (by decide)
 ·exact zj9 hc.1
 ·exact zj9 hc.2)
end
section
variable {prog:Program}{w:World}{A:Around}{E:Value→Shared→Prop}{s:Shared}
theorem zdv {it t : Addr}{i : Nat}{its : Array Value}{x : Value}{Q : Value → Shared → Prop}(st : s.heap.IsTupleIter it t i) (tp : s.heap.IsTuple t its) (hx : its[i]? = some x)
  (k:∀ h',h'.IsTupleIter it t (i+1)→Heap.SameBut it s.heap h'→Q x { s with heap:=h' }):wpAny (model prog w) A (Builtin.SmallTypes.nextOf (.ref it)) Q E s:=by
 obtain⟨o,g,oc,od⟩:=id st
 obtain⟨ot,gt,_,nt,dt⟩:=tp
 unfold Builtin.SmallTypes.nextOf
 refine wpAny_bind (wpAny_callSpecial?_slot (name:=Str.ofString "__next__") st.typeIs PySem.F.slot_tuple_iterator_next (wpAny_call_entry PySem.F.slot_tuple_iterator_next st.typeIs PySem.F.entry_tuple_iterator_next ?_ (PySem.F.args_tuple_iterator_next_1 _)))
 show wpAny (model prog w) A.in1 (field (.ref it) 0 >>= _) _ _ s
 refine wpAny_bind (wpAny_field g od (x:=.ref t) rfl ?_)
 show wpAny (model prog w) A.in1 (if (Value.ref t == Value.none)=true then _ else _) _ _ s
 rw[if_neg (show ¬ (Value.ref t == Value.none)=true by simp)]
 show wpAny (model prog w) A.in1 (field (.ref it) 1 >>= _) _ _ s
 refine wpAny_bind (wpAny_field g od (x:=.int i 0) rfl ?_)
 show wpAny (model prog w) A.in1 (seqItems? (.ref t) >>= _) _ _ s
 refine wpAny_bind (wpAny_seqItems gt dt ?_)
 simp only[Int.toNat_natCast,hx]
 refine wpAny_bind (wpAny_setField g od (by simp) (wpAny_pure ⟨x,rfl,wpAny_pure (k _ ⟨_,Heap.get?_update_self _ g (Obj.isFreed_of_fields (Obj.data_mapFields od _)),(Obj.cls_mapFields ..).trans oc,?_⟩ (Heap.SameBut.update ..))⟩))
 rw[Obj.data_mapFields od]
 simp[rawInt]
theorem zgR {it t : Addr}{i : Nat}{its : Array Value}{Q : Value → Shared → Prop}(hh : A.handled = none) (st : s.heap.IsTupleIter it t i) (tp : s.heap.IsTuple t its) (hx : its[i]? = none)
  (k:∀ h' e,Heap.ExtBut it s.heap h'→(∃ o,h'.get? e=some o∧o.cls=.type "StopIteration")→E (.ref e) { s with heap:=h' }):wpAny (model prog w) A (Builtin.SmallTypes.nextOf (.ref it)) Q E s:=by
 obtain⟨o,g,oc,od⟩:=id st
 obtain⟨ot,gt,_,nt,dt⟩:=tp
 unfold Builtin.SmallTypes.nextOf
 refine wpAny_bind (wpAny_callSpecial?_slot (name:=Str.ofString "__next__") st.typeIs PySem.F.slot_tuple_iterator_next (wpAny_call_entry PySem.F.slot_tuple_iterator_next st.typeIs PySem.F.entry_tuple_iterator_next ?_ (PySem.F.args_tuple_iterator_next_1 _)))
 show wpAny (model prog w) A.in1 (field (.ref it) 0 >>= _) _ _ s
 refine wpAny_bind (wpAny_field g od (x:=.ref t) rfl ?_)
 show wpAny (model prog w) A.in1 (if (Value.ref t == Value.none)=true then _ else _) _ _ s
 rw[if_neg (show ¬ (Value.ref t == Value.none)=true by simp)]
 show wpAny (model prog w) A.in1 (field (.ref it) 1 >>= _) _ _ s
 refine wpAny_bind (wpAny_field g od (x:=.int i 0) rfl ?_)
 show wpAny (model prog w) A.in1 (seqItems? (.ref t) >>= _) _ _ s
 refine wpAny_bind (wpAny_seqItems gt dt ?_)
 simp only[Int.toNat_natCast,hx]
 refine wpAny_bind (wpAny_rule (wpAny_bind (wpAny_setField g od (by simp) ?_)))
 show wpAny (model prog w) A.in1 (newExc (.type "StopIteration") [] >>= _) _ _ _
 refine wpAny_bind ?_
 simp only[newExc,newTuple]
 refine wpAny_bind (wpAny_newObj_type (wpAny_bind (m:=firstArgMember _ _) (wpAny_of_eq (a:=Value.none) (by first | rfl | (simp only[firstArgMember];rfl)) (wpAny_newObj_type ?_ (by size_fits)))) (by size_fits))
 simp only[raiseNew]
 refine wpAny_bind (wpAny_handled ?_)
 first | rw[show A.in1.handled=none from hh] | rw[hh]
 exact wpAny_bind (wpAny_pure (wpAny_throw (k _ _ (((Heap.SameBut.update ..).extBut.push _).push _) ⟨_,Heap.get?_push_size _ rfl,rfl⟩)))
theorem ziM {z TI TO i1 i2 l1 l2 : Addr}{k1 k2 : Nat}{xs ys : Array Value}{x y a b : Value}{Q : Option Value → Shared → Prop}(D : ZipApart z TI TO i1 i2 l1 l2) (hz : IsZip s.heap z TI TO .none) (hTI : IsPair s.heap TI (.ref i1) (.ref i2)) (hTO : IsPair s.heap TO a b)
  (h1:s.heap.IsTupleIter i1 l1 k1) (h2:s.heap.IsTupleIter i2 l2 k2) (hl1:s.heap.IsTuple l1 xs) (hl2:s.heap.IsTuple l2 ys) (hx:xs[k1]?=some x) (hy:ys[k2]?=some y)
  (hQ:∀ h',IsZip h' z TI TO (rawInt s.heap.objs.size)→IsPair h' TO x y→h'.IsTupleIter i1 l1 (k1+1)→h'.IsTupleIter i2 l2 (k2+1)→IsPair h' s.heap.objs.size x y →
   (∀ c o,c≠z→c≠TO→c≠i1→c≠i2→s.heap.get? c=some o→h'.get? c=some o)→Q (some (.ref s.heap.objs.size)) { s with heap:=h' }):wpAny (model prog w) A (pyNext (.ref z)) Q E s:=by
 have hT:s.TypeIs (.ref z) "zip":=⟨_,hz,rfl⟩
 unfold pyNext
 refine wpAny_bind (wpAny_attempt (wpAny_callSpecial?_slot (name:=Str.ofString "__next__") hT PySem.F.slot_zip_next (wpAny_call_entry PySem.F.slot_zip_next hT PySem.F.entry_zip_next ?_ (PySem.F.args_zip_next_1 _))))
 show wpAny (model prog w) A.in1 (field (.ref z) 2 >>= _) _ _ s
 refine wpAny_bind (wpAny_field hz rfl (x:=.bool false) rfl ?_)
 show wpAny (model prog w) A.in1 (field (.ref z) 3 >>= _) _ _ s
 refine wpAny_bind (wpAny_field hz rfl (x:=.ref TI) rfl (wpAny_bind (wpAny_seqItems hTI rfl ?_)))
 show wpAny (model prog w) A.in1 (Builtin.SmallTypes.ownedTupleIsFree (.ref z) >>= _) _ _ s
 unfold Builtin.SmallTypes.ownedTupleIsFree
 refine wpAny_bind (wpAny_bind (wpAny_field hz rfl (x:=.none) rfl (wpAny_pure ?_)))
 simp only[if_true]
 refine wpAny_bind (wpAny_rule (wpAny_bind (wpAny_field hz rfl (x:=.ref TO) rfl (wpAny_bind (wpAny_setField_rec hz (by simp) fun ha hza sa=>?_)))))
 have hza:IsZip ha z TI TO .ellipsis:=hza
 refine wpAny_bind ?_
 simp only[List.zipIdx_cons,List.zipIdx_nil,List.forIn_cons,List.forIn_nil]
 refine wpAny_bind (wpAny_bind (wpAny_onRaise ?_))
 show wpAny (model prog w) A.in1 (Builtin.SmallTypes.nextOf (.ref i1) >>= _) _ _ _
 have ext:∀ {h h':Heap} {i l c:Addr} {n:Nat},h.IsTupleIter i l n→Heap.ExtBut c h h'→i≠c→h'.IsTupleIter i l n:=fun x e n=>x.at fun o q=>e _ o n q
 refine wpAny_bind (zdv (ext h1 sa.extBut D.i1z) (hl1.extBut sa.extBut D.l1z) hx fun hb h1b sb=>wpAny_pure ?_)
 have tob:IsPair hb TO a b:=sb.extBut _ _ D.TOi1 (sa.extBut _ _ D.TOz hTO)
 refine wpAny_bind (wpAny_seqItems tob rfl (wpAny_bind (wpAny_updateSeq_pair tob fun hc toc sc=>?_)))
 have toc:IsPair hc TO x b:=toc
 refine wpAny_bind (wpAny_letGo (wpAny_pure (wpAny_bind (wpAny_bind (wpAny_onRaise ?_)))))
 show wpAny (model prog w) A.in1 (Builtin.SmallTypes.nextOf (.ref i2) >>= _) _ _ _
 refine wpAny_bind (zdv (ext (ext (ext h2 sa.extBut D.i2z) sb.extBut D.i12.symm) sc.extBut D.TOi2.symm) (((hl2.extBut sa.extBut D.l2z).extBut sb.extBut D.l2i1).extBut sc.extBut D.l2TO) hy fun hd h2d sd=>wpAny_pure ?_)
 have tod:IsPair hd TO x b:=sd.extBut _ _ D.TOi2 toc
 refine wpAny_bind (wpAny_seqItems tod rfl (wpAny_bind (wpAny_updateSeq_pair tod fun he toe se=>?_)))
 have toe:IsPair he TO x y:=toe
 refine wpAny_bind (wpAny_letGo (wpAny_pure (wpAny_pure (wpAny_bind (wpAny_seqItems toe rfl (wpAny_bind (wpAny_newTuple ?_)))))))
 have sz:he.objs.size=s.heap.objs.size:=by rw[se.1,sd.1,sc.1,sb.1,sa.1]
 have ze:IsZip he z TI TO .ellipsis:=se.extBut _ _ D.TOz.symm (sd.extBut _ _ D.i2z.symm (sc.extBut _ _ D.TOz.symm (sb.extBut _ _ D.i1z.symm hza)))
 have ke:∀ c o,c≠z→c≠TO→c≠i1→c≠i2→s.heap.get? c=some o→he.get? c=some o:=fun c o c1 c2 c3 c4 e=>se.extBut _ _ c2 (sd.extBut _ _ c4 (sc.extBut _ _ c2 (sb.extBut _ _ c3 (sa.extBut _ _ c1 e))))
 have i1e:he.IsTupleIter i1 l1 (k1+1):=ext (ext (ext h1b sc.extBut D.TOi1.symm) sd.extBut D.i12) se.extBut D.TOi1.symm
 have i2e:he.IsTupleIter i2 l2 (k2+1):=ext h2d se.extBut D.TOi2.symm
 have zlt:z<he.objs.size:=Heap.lt_size ze
 show wpAny (model prog w) A.in1 (Builtin.SmallTypes.ownedTupleHandOut (.ref z) (.ref he.objs.size) >>= _) _ _ _
 unfold Builtin.SmallTypes.ownedTupleHandOut
 have zf:IsZip (he.push { cls:=.type "tuple",data:=.seq #[x,y] }) z TI TO .ellipsis:=Heap.get?_push_of_some _ ze
 refine wpAny_bind (wpAny_bind (wpAny_setField_rec zf (by simp) fun hg zg sg=>?_))
 have zg:IsZip hg z TI TO (rawInt he.objs.size):=zg
 refine wpAny_setField_rec zg (by simp) fun hi zi si=>?_
 have zi:IsZip hi z TI TO (rawInt he.objs.size):=zi
 have up:∀ c o,c≠z→he.get? c=some o→hi.get? c=some o:=fun c o c1 e=>si.extBut _ _ c1 (sg.extBut _ _ c1 (Heap.get?_push_of_some _ e))
 have ti:IsPair hi he.objs.size x y:=si.extBut _ _ (Nat.ne_of_gt zlt) (sg.extBut _ _ (Nat.ne_of_gt zlt) (Heap.get?_push_size _ rfl))
 rw[sz] at zi ti
 refine wpAny_pure ⟨.ref he.objs.size,rfl,wpAny_pure ?_⟩
 rw[sz]
 exact hQ hi zi (up _ _ D.TOz toe) (i1e.at fun o e=>up _ o D.i1z e) (i2e.at fun o e=>up _ o D.i2z e) ti fun c o c1 c2 c3 c4 e=>up c o c1 (ke c o c1 c2 c3 c4 e)
theorem zkn {z TI TO i1 i2 l1 l2 : Addr}{k : Nat}{xs : Array Value}{a b : Value}{Q : Option Value → Shared → Prop}(hh : A.handled = none) (D : ZipApart z TI TO i1 i2 l1 l2) (hz : IsZip s.heap z TI TO .none) (hTI : IsPair s.heap TI (.ref i1) (.ref i2)) (hTO : IsPair s.heap TO a b)
  (h1:s.heap.IsTupleIter i1 l1 k) (hl1:s.heap.IsTuple l1 xs) (hx:xs[k]?=none)
  (hQ:∀ h',(∀ c o,c≠z→c≠TO→c≠i1→c≠i2→s.heap.get? c=some o→h'.get? c=some o)→Q none { s with heap:=h' }):wpAny (model prog w) A (pyNext (.ref z)) Q E s:=by
 have hT:s.TypeIs (.ref z) "zip":=⟨_,hz,rfl⟩
 unfold pyNext
 refine wpAny_bind (wpAny_attempt (wpAny_callSpecial?_slot (name:=Str.ofString "__next__") hT PySem.F.slot_zip_next (wpAny_call_entry PySem.F.slot_zip_next hT PySem.F.entry_zip_next ?_ (PySem.F.args_zip_next_1 _))))
 show wpAny (model prog w) A.in1 (field (.ref z) 2 >>= _) _ _ s
 refine wpAny_bind (wpAny_field hz rfl (x:=.bool false) rfl ?_)
 show wpAny (model prog w) A.in1 (field (.ref z) 3 >>= _) _ _ s
 refine wpAny_bind (wpAny_field hz rfl (x:=.ref TI) rfl (wpAny_bind (wpAny_seqItems hTI rfl ?_)))
 show wpAny (model prog w) A.in1 (Builtin.SmallTypes.ownedTupleIsFree (.ref z) >>= _) _ _ s
 unfold Builtin.SmallTypes.ownedTupleIsFree
 refine wpAny_bind (wpAny_bind (wpAny_field hz rfl (x:=.none) rfl (wpAny_pure ?_)))
 simp only[if_true]
 refine wpAny_bind (wpAny_rule (wpAny_bind (wpAny_field hz rfl (x:=.ref TO) rfl (wpAny_bind (wpAny_setField_rec hz (by simp) fun ha hza sa=>?_)))))
 have hza:IsZip ha z TI TO .ellipsis:=hza
 refine wpAny_bind ?_
 simp only[List.zipIdx_cons,List.zipIdx_nil,List.forIn_cons,List.forIn_nil]
 refine wpAny_bind (wpAny_bind (wpAny_onRaise ?_))
 show wpAny (model prog w) A.in1 (Builtin.SmallTypes.nextOf (.ref i1) >>= _) _ _ _
 refine wpAny_bind (zgR hh (h1.at fun o q=>sa.extBut _ o D.i1z q) (hl1.extBut sa.extBut D.l1z) hx fun hb e sb ⟨oe,ge,ce⟩=>?_)
 have zb:IsZip hb z TI TO .ellipsis:=sb _ _ D.i1z.symm hza
 have ez:e≠z:=fun q=>by subst q;rw[zb] at ge;cases ge;simp at ce
 refine wpAny_setField_rec zb (by simp) fun hc _ sc=>?_
 exact wpAny_bind (wpAny_isInstance (b:=true) (T:="StopIteration") ⟨oe,sc.extBut _ _ ez ge,ce⟩ isSubtype_stop (wpAny_pure (hQ _ fun c o c1 _ c3 _ q=>sc.extBut _ _ c1 (sb _ _ c3 (sa.extBut _ _ c1 q)))))
abbrev zT1 (h:Heap) (a:Addr):Heap:=h.push { cls:=.type "tuple_iterator",data:=.fields #[.ref a,.int 0 0] }
abbrev zT2 (h:Heap) (a b:Addr):Heap:=(zT1 h a).push { cls:=.type "tuple_iterator",data:=.fields #[.ref b,.int 0 0] }
abbrev zT3 (h:Heap) (a b:Addr):Heap:=(zT2 h a b).push { cls:=.type "tuple",data:=.seq #[.ref h.objs.size,.ref (zT1 h a).objs.size] }
abbrev zT4 (h:Heap) (a b:Addr):Heap:=(zT3 h a b).push { cls:=.type "tuple",data:=.seq #[.none,.none] }
abbrev zT5 (h:Heap) (a b:Addr):Heap:=(zT4 h a b).push { cls:=.type "zip",data:=.fields #[.none,.bool false,.bool false,.ref (zT2 h a b).objs.size,.ref (zT3 h a b).objs.size] }
theorem ziz (a b:Addr) (xs ys:Array Value):Meets (Builtin.«zip.__new__» ⟨[.type "zip",.ref a,.ref b],[]⟩) (fun _ R s=>s.heap.IsTuple a xs∧s.heap.IsTuple b ys∧R (.ok (.ret (.ref (zT4 s.heap a b).objs.size))) { s with heap:=zT5 s.heap a b }) :=
 .of_wp fun prog w A R s h=>by
  obtain⟨hp,g,d,tk,os⟩:=s;obtain⟨ha,hb,h⟩:=h
  have hsub:=sub_zip
  have hA:Heap.IsTuple (Shared.heap ⟨hp,g,d,tk,os⟩) a xs:=ha
  have hB:Heap.IsTuple (Shared.heap ⟨hp.push { cls:=.type "tuple_iterator",data:=.fields #[.ref a,.int 0 0] },g,d,tk,os⟩) b ys:=let ⟨o,e,r⟩:=hb;⟨o,Heap.get?_push_of_some _ e,r⟩
  wp_walk using wpAny_pyIter_tuple hA,wpAny_pyIter_tuple hB
  exact⟨_,rfl,h⟩
theorem zj8 {a b : Addr}{xs ys : Array Value}{Q : Value → Shared → Prop}(ha : s.heap.IsTuple a xs) (hb : s.heap.IsTuple b ys)
  (h:∀ h',IsZip h' (s.heap.objs.size+4) (s.heap.objs.size+2) (s.heap.objs.size+3) .none→IsPair h' (s.heap.objs.size+2) (.ref s.heap.objs.size) (.ref (s.heap.objs.size+1))→IsPair h' (s.heap.objs.size+3) .none .none →
   h'.IsTupleIter s.heap.objs.size a 0→h'.IsTupleIter (s.heap.objs.size+1) b 0→(∀ c o,s.heap.get? c=some o→h'.get? c=some o)→Q (.ref (s.heap.objs.size+4)) { s with heap:=h' }) :
  wpAny (model prog w) A (call (.type "zip") [.ref a,.ref b]) Q E s:=by
 refine callType_new PySem.F.called_zip (by decide) (PySem.F.typeCall_zip_2 _ _) (PySem.F.newCall_zip_2 _ _) (fun obj=>PySem.F.args_object_init_3 obj _ _) PySem.F.entry_zip_new (ziz a b xs ys) ⟨ha,hb,?_⟩
 have z1:(zT1 s.heap a).objs.size=s.heap.objs.size+1:=Heap.size_push ..
 have z2:(zT2 s.heap a b).objs.size=s.heap.objs.size+2:=by rw[Heap.size_push,z1]
 have z3:(zT3 s.heap a b).objs.size=s.heap.objs.size+3:=by rw[Heap.size_push,z2]
 have z4:(zT4 s.heap a b).objs.size=s.heap.objs.size+4:=by rw[Heap.size_push,z3]
 have up:∀ {h:Heap} {o:Obj} {c:Addr} {u:Obj},h.get? c=some u→(h.push o).get? c=some u:=fun e=>Heap.get?_push_of_some _ e
 have g5:(zT5 s.heap a b).get? (zT4 s.heap a b).objs.size=some _:=Heap.get?_push_size _ rfl
 have g4:(zT5 s.heap a b).get? (zT3 s.heap a b).objs.size=some _:=up (Heap.get?_push_size _ rfl)
 have g3:(zT5 s.heap a b).get? (zT2 s.heap a b).objs.size=some _:=up (up (Heap.get?_push_size _ rfl))
 have g2:(zT5 s.heap a b).get? (zT1 s.heap a).objs.size=some _:=up (up (up (Heap.get?_push_size _ rfl)))
 have g1:(zT5 s.heap a b).get? s.heap.objs.size=some _:=up (up (up (up (Heap.get?_push_size _ rfl))))
 show _∧_
 rw[z2,z3,z4] at g5
 rw[z1,z2] at g3
 rw[z3] at g4
 rw[z1] at g2
 rw[z4]
 exact⟨⟨_,g5,rfl⟩,h _ g5 g3 g4 ⟨_,g1,rfl,rfl⟩ ⟨_,g2,rfl,rfl⟩ fun c o x=>up (up (up (up (up x))))⟩
end
section
variable {X:Cx}
def ItzT (K:W.Frag) (a b:Addr):It :=
 ⟨fun i H=>∃ xs ys x y,SqT K H a xs∧SqT K H b ys∧xs[i]?=some x∧ys[i]?=some y,
  fun i H v H'=>∃ p x y,v=.ref p∧H p=none∧H'=upd H p (.tup [x,y])∧(∀ xs,SqT K H a xs→xs[i]?=some x)∧∀ ys,SqT K H b ys→ys[i]?=some y,
  fun i H=>∃ xs,SqT K H a xs∧xs.length≤i⟩
theorem ziS {P : Program}{w : World}{K : W.Frag}{es : List Expr}{x1 : Nat}{pos : Pos}(a b z TI TO i1 i2 : Addr) (D : ZipApart z TI TO i1 i2 a b) :
  Turn P w K (.Tuple es x1 pos) (ItzT K a b) [z,TI,TO,i1,i2] z (fun i h=>∃ u v,IsZip h z TI TO .none∧IsPair h TI (.ref i1) (.ref i2)∧IsPair h TO u v∧h.IsTupleIter i1 a i∧h.IsTupleIter i2 b i) where
 mem:=by simp
 obj:=fun i h st c hc=>by
  obtain⟨u,v,h1,h2,h3,⟨o4,e4,c4,d4⟩,⟨o5,e5,c5,d5⟩⟩:=st
  simp only[List.mem_cons,List.not_mem_nil,or_false] at hc
  rcases hc with rfl | rfl | rfl | rfl | rfl
  ·exact⟨_,h1,fun v q=>nomatch q⟩
  ·exact⟨_,h2,fun v q=>nomatch q⟩
  ·exact⟨_,h3,fun v q=>nomatch q⟩
  ·exact⟨o4,e4,fun v q=>by rw[d4] at q;cases q⟩
  ·exact⟨o5,e5,fun v q=>by rw[d5] at q;cases q⟩
 keep:=fun i h h' ⟨u,v,h1,h2,h3,h4,h5⟩ k=>⟨u,v,k z (by simp) _ h1,k TI (by simp) _ h2,k TO (by simp) _ h3,h4.at fun o q=>k i1 (by simp) o q,h5.at fun o q=>k i2 (by simp) o q⟩
 item:=by
  intro X hP hw hK hc i pins s σ H E I hf st hg
  subst hP hw hK
  obtain⟨u0,v0,hz,hTI,hTO,h1,h2⟩:=st
  obtain⟨xs,ys,x,y,hq1,hq2,hx,hy⟩:=hg
  obtain⟨its1,rv1,p1,hz1⟩:=I.tuple hq1
  obtain⟨its2,rv2,p2,hz2⟩:=I.tuple hq2
  obtain⟨u,hu,ru⟩:=rv1.get hx
  obtain⟨v,hv,rv⟩:=rv2.get hy
  refine ziM D hz hTI hTO h1 h2 (show s.heap.IsTuple a its1.toArray from p1) (show s.heap.IsTuple b its2.toArray from p2) (x:=u) (y:=v) (by simpa using hu) (by simpa using hv) fun h' z1 t1 l1 l2 pr kk=>⟨_,rfl,?_⟩
  refine wpAny_letOwnedTupleGo_zip (s:={ s with heap:=h' }) z1 fun h2' z2 sb=>?_
  have lt:∀ c o,s.heap.get? c=some o→c<s.heap.objs.size:=fun c o q=>Heap.lt_size q
  have fr:H s.heap.objs.size=none:=I.hok.fresh (Nat.le_refl _)
  have szl:z<s.heap.objs.size:=lt _ _ hz
  have I1:Inv X pins σ (upd H s.heap.objs.size (.tup [x,y])) { s with heap:=s.heap.push { cls:=.type "tuple",data:=.seq #[u,v] },toks:=s.toks } :=
   I.laid (t':=s.toks) (o:=.tup [x,y]) (fun b ob q=>Heap.get?_push_of_some _ q) (Nat.le_refl _) ⟨by show 2≤sizeLine;decide,_,.cons ru (.cons rv .nil),IsTup.new _ _⟩
  have fp1:∀ c∈[z,TI,TO,i1,i2],FpOk X pins (upd H s.heap.objs.size (.tup [x,y])) c:=fun c hc=>by
   have hlt:c<s.heap.objs.size:=by
    simp only[List.mem_cons,List.not_mem_nil,or_false] at hc
    rcases hc with rfl | rfl | rfl | rfl | rfl
    ·exact szl
    ·exact lt _ _ hTI
    ·exact lt _ _ hTO
    ·obtain⟨o,q,_⟩:=h1;exact lt _ _ q
    ·obtain⟨o,q,_⟩:=h2;exact lt _ _ q
   have:=hf c hc
   exact⟨by rw[zam (Nat.ne_of_lt hlt)];exact this.1,this.2⟩
  have I2:=I1.turnedL (h':=h2') (t':=s.toks) (fp:=[z,TI,TO,i1,i2]) (fun c o hc q=>by
   simp only[List.mem_cons,List.not_mem_nil,or_false,not_or] at hc
   refine (sb.2 c hc.1).trans ?_
   show h'.get? c=some o
   rcases Heap.get?_push_cases q with⟨e,rfl⟩ | q
   ·rw[e];exact pr
   ·exact kk c o hc.1 hc.2.2.1 hc.2.2.2.1 hc.2.2.2.2 q) fp1
  have at2:∀ {c:Addr},c≠z→h2'.get? c=h'.get? c:=fun hc=>sb.2 _ hc
  refine⟨.ref s.heap.objs.size,_,I2,rfl,⟨_,x,y,rfl,fr,rfl,fun zs hy'=>by rw[I.tuple_inj hy' hq1];exact hx,fun zs hy'=>by rw[I.tuple_inj hy' hq2];exact hy⟩,⟨u,v,z2,?_,?_,?_,?_⟩,fun c hc=>(fp1 c hc).1⟩
  ·exact (at2 D.TIz).trans (kk TI _ D.TIz D.TITO D.TIi1 D.TIi2 hTI)
  ·exact (at2 D.TOz).trans t1
  ·exact l1.at fun o q=>(at2 D.i1z).trans q
  ·exact l2.at fun o q=>(at2 D.i2z).trans q
 done:=by
  intro X hP hw hK hc i pins s σ H E I hf st hg
  subst hP hw hK
  obtain⟨u0,v0,hz,hTI,hTO,h1,h2⟩:=st
  obtain⟨xs,hq1,hend⟩:=hg
  obtain⟨its1,rv1,p1,hz1⟩:=I.tuple hq1
  have e1:=rv1.length
  refine zkn (I.ok.hd hc) D hz hTI hTO h1 (show s.heap.IsTuple a its1.toArray from p1) (by simp;lia) fun h' kk=>⟨rfl,?_⟩
  refine I.turnedL (t':=s.toks) (fp:=[z,TI,TO,i1,i2]) (fun c o hc q=>?_) hf
  simp only[List.mem_cons,List.not_mem_nil,or_false,not_or] at hc
  exact kk c o hc.1 hc.2.2.1 hc.2.2.2.1 hc.2.2.2.2 q
 self:=fun _ _ _ _ _ ⟨_,_,hz,_⟩ h=>wpAny_pyIter_zip hz h
def iZipT (K:W.Frag) (t:TA):TI:=fun σ H R=>t σ H fun vs H1=>∃ a b,vs=[.ref a,.ref b]∧(∃ xs,SqT K H1 a xs)∧(∃ ys,SqT K H1 b ys)∧R (ItzT K a b) H1
theorem zjm {l m : Expr}{t : TA}{es : List Expr}{x1 : Nat}{pos pos' p : Pos}(hg : Gl X "zip") (hm : X.mg "zip" = none) (ha : PA X [l, m] t)
  (he:starEach [l,m] X.env=(false,eval l X.env)::starEach [m] X.env:=by rfl) (hpl:(backTo pos' (starEach [m] X.env)).any (·.1)=false:=by rfl) :
  PI X (.Tuple es x1 pos) (.Call (.Name "zip" p) [l,m] [] pos') (iZipT X.K t):=by
 intro pins s σ H R I h
 refine wpAny_Call_Name_kw (zcV I hg hm (by rfl) ?_ (by decide) (by decide))
 refine PyProof.Rows.callWith_type1 (thn (ha pos' pins s σ H _ I h) fun us s1 ⟨vs,H1,I1,r1,q1⟩=>?_) he hpl
 obtain⟨a,b,ex,⟨xs,hq1⟩,⟨ys,hq2⟩,q⟩:=q1
 subst ex
 obtain⟨u,v,rfl,ru,rv⟩:=vals2 r1
 cases ru
 cases rv
 obtain⟨its1,rv1,p1,hz1⟩:=I1.tuple hq1
 obtain⟨its2,rv2,p2,hz2⟩:=I1.tuple hq2
 have la:a<s1.heap.objs.size:=by obtain⟨o,ho,_⟩:=p1;exact Heap.lt_size ho
 have lb:b<s1.heap.objs.size:=by obtain⟨o,ho,_⟩:=p2;exact Heap.lt_size ho
 refine zj8 (show s1.heap.IsTuple a its1.toArray from p1) (show s1.heap.IsTuple b its2.toArray from p2) fun h' hz hTI hTO hi1 hi2 kp=>?_
 have I2:Inv X pins σ H1 { s1 with heap:=h' }:=I1.kept (t':=s1.toks) kp
 refine wpAny_pyIter_zip hz ?_
 have ne:∀ i j:Nat,i≠j→(s1.heap.objs.size+i:Nat)≠s1.heap.objs.size+j:=fun i j h=>by lia
 have na:∀ i:Nat,a≠s1.heap.objs.size+i:=fun i=>Nat.ne_of_lt (Nat.lt_of_lt_of_le la (Nat.le_add_right _ _))
 have nb:∀ i:Nat,b≠s1.heap.objs.size+i:=fun i=>Nat.ne_of_lt (Nat.lt_of_lt_of_le lb (Nat.le_add_right _ _))
 have D:ZipApart (s1.heap.objs.size+4) (s1.heap.objs.size+2) (s1.heap.objs.size+3) s1.heap.objs.size (s1.heap.objs.size+1) a b :=
  ⟨ne 2 4 (by decide),ne 3 4 (by decide),ne 0 4 (by decide),ne 1 4 (by decide),ne 2 3 (by decide),ne 2 0 (by decide),ne 2 1 (by decide),ne 3 0 (by decide),ne 3 1 (by decide),ne 0 1 (by decide),
   na 4,na 3,na 0,na 1,nb 4,nb 3,nb 0,nb 1⟩
 refine⟨s1.heap.objs.size+4,[s1.heap.objs.size+4,s1.heap.objs.size+2,s1.heap.objs.size+3,s1.heap.objs.size,s1.heap.objs.size+1],_,_,H1,rfl,I2,ziS a b _ _ _ _ _ D,⟨_,_,hz,hTI,hTO,hi1,hi2⟩,fun c hc=>?_,q⟩
 have hge:s1.heap.objs.size≤c:=by
  simp only[List.mem_cons,List.not_mem_nil,or_false] at hc
  rcases hc with rfl | rfl | rfl | rfl | rfl
  ·exact Nat.le_add_right _ _
  ·exact Nat.le_add_right _ _
  ·exact Nat.le_add_right _ _
  ·exact Nat.le_refl _
  ·exact Nat.le_add_right _ _
 exact I1.fpOk hge (I1.hok.fresh hge)
theorem zh2 {K : W.Frag}{a b : Addr}{xs ys : List V}{g : TG}{tb : TS}{D : Ends}{σ : St}{H : Hp}(Pv : Nat → St → Hp → Prop) (h0 : Pv 0 σ H) (hl : ∀ i σ H, i ≤ xs.length → Pv i σ H → SqT K H a xs ∧ SqT K H b ys) (he : xs.length = ys.length)
  (hs:∀ i x y σ H p,xs[i]?=some x→ys[i]?=some y→Pv i σ H→H p=none→g (.ref p) σ (upd H p (.tup [x,y])) fun σ2 H2=>tb { D with nx:=Pv (i+1),ct:=Pv (i+1),bk:=D.nx } σ2 H2) (hd:∀ σ H,Pv xs.length σ H→D.nx σ H) :
  ∃ W:Nat→Nat→St→Hp→Prop,(∃ m,W 0 m σ H)∧∀ i m σ H,W i m σ H →
   ((ItzT K a b).stop i H∧D.nx σ H)∨((ItzT K a b).go i H∧∃ N:St→Hp→Prop,(∀ σ' H',N σ' H'→∃ m',m'<m∧W (i+1) m' σ' H')∧∀ x H',(ItzT K a b).yld i H x H'→g x σ H' fun σ2 H2=>tb { D with nx:=N,ct:=N,bk:=D.nx } σ2 H2):=by
 refine⟨fun i m σ H=>m=xs.length - i∧i≤xs.length∧Pv i σ H,⟨xs.length,by simp,Nat.zero_le _,h0⟩,?_⟩
 rintro i m σ H ⟨rfl,hi,p⟩
 obtain⟨q1,q2⟩:=hl i σ H hi p
 by_cases hlt:i<xs.length
 ·have hlt2:i<ys.length:=by lia
  refine .inr ⟨⟨xs,ys,xs[i],ys[i],q1,q2,by simp[hlt],by simp[hlt2]⟩,Pv (i+1),fun σ' H' p'=>⟨xs.length - (i+1),by lia,rfl,hlt,p'⟩,fun x H' y=>?_⟩
  obtain⟨c,x',y',rfl,hc,rfl,e1,e2⟩:=y
  exact hs i x' y' σ H c (e1 xs q1) (e2 ys q2) p hc
 ·have e:i=xs.length:=by lia
  subst e
  exact .inl ⟨⟨xs,q1,Nat.le_refl _⟩,hd σ H p⟩
end
section
variable {X:Cx}
end
section
variable {prog:Program}{w:World}{A:Around}{E:Value→Shared→Prop}{s:Shared}
end
section
variable {X:Cx}{pins:List (Addr×Obj)}{σ:St}
end
section
variable {X:Cx}{l m:Expr}{t:TA}{p p2 pos pos2:Pos}
end
theorem zkf:∀ {xs:List V}{us:List Value},xs.length=us.length→(∀ (i:Nat) x u,xs[i]?=some x→us[i]?=some u→RelV x u)→Vals xs us
 | [],[],_,_=>.nil
 | x::xs,u::us,h,k=>.cons (k 0 x u rfl rfl) (zkf (by simpa using h) fun i y v h1 h2=>k (i+1) y v (by simpa using h1) (by simpa using h2))
 | [],_::_,h,_=>by cases h
 | _::_,[],h,_=>by cases h
section
variable {X:Cx}{a:Expr}{t:TA}{p p2 pos pos2:Pos}
end
section
variable {X:Cx}
end
theorem ziU {P:Program}{w:World}{K:W.Frag}{tg:Expr}(it:Addr) (lo:Int) (n:Nat):Turn P w K tg (Itr lo n) [it] it (fun i h=>IsLongIter h it (lo+(i:Nat)*1) ((n:Int) - (i:Nat)) 1) where
 mem:=by simp
 obj:=fun i h st b hb=>by
  have e:b=it:=by simpa using hb
  subst e
  exact⟨_,st,fun v z=>by
   have z':Data.fields _=Data.cell v:=z
   cases z'⟩
 keep:=fun i h h' st k=>k it (by simp) _ st
 item:=by
  intro X hP hw hK hc i pins s σ H E I hf st hg
  subst hP hw hK
  obtain⟨f0,f1,f2,f3,f4,f5⟩:=hf it (by simp)
  have W:=Walks.longrange (prog:=X.prog) (w:=X.w) (I.ok.hd hc) it lo 1 n
  refine W.item i s _ _ hg st fun v h' tk hv st' kk=>?_
  obtain⟨t,rfl⟩:=hv
  have I1:Inv X pins σ H { s with heap:=h',toks:=tk }:=I.turned (fun b o hb e=>kk b o (by simpa using hb) e) f0 f1 f3 f4 f5
  refine⟨_,rfl,go_of (s:={ s with heap:=h',toks:=tk }) (n:="longrange_iterator") st' rfl rfl (by decide) ⟨.int (lo+i),H,I1,⟨t,?_⟩,⟨rfl,rfl⟩,st',fun b hb=>(hf b hb).1⟩⟩
  rw[Int.mul_one]
 done:=by
  intro X hP hw hK hc i pins s σ H E I hf st hg
  subst hP hw hK
  obtain⟨f0,f1,f2,f3,f4,f5⟩:=hf it (by simp)
  exact wpAny_pyNext_long_end (I.ok.hd hc) st (by have:n≤i:=hg;lia) fun h' eb=>⟨rfl,I.turned (t':=s.toks) (fun b o hb e=>eb b o hb e) f0 f1 f3 f4 f5⟩
 self:=fun _ _ _ _ _ st h=>wpAny_pyIter_longiter st h
section
variable {X:Cx}{tg:Expr}
theorem zjg {pins : List (Addr × Obj)}{σ : St}{H : Hp}{s : Shared}{R : It → Hp → Prop}{E : Value → Shared → Prop}{lo hi : Int}{t u v : Tok}{tk : Nat}(I : Inv X pins σ H s)
  (q:R (Itr lo (hi - lo).toNat) H):wpAny (model X.prog X.w) X.A (pyIter (.ref s.heap.objs.size)) (PIE X pins σ tg R) E { s with heap:=s.heap.push { cls:=.type "range",data:=.fields #[.int lo t,.int hi u,.int 1 v] },toks:=tk }:=by
 have I1:Inv X pins σ H { s with heap:=s.heap.push { cls:=.type "range",data:=.fields #[.int lo t,.int hi u,.int 1 v] },toks:=tk }:=I.kept fun b o e=>Heap.get?_push_of_some _ e
 have e1:lo+((0:Nat):Int)*1=lo:=by simp
 have e2:(((hi - lo).toNat:Nat):Int) - ((0:Nat):Int)=Builtin.Range.rangeSize lo hi 1:=by rw[rangeSize_one];split <;> lia
 cases hs:Builtin.Range.small lo hi 1 with
 | true =>
  refine wpAny_pyIter_range (IsRange.new ..) hs ?_
  refine⟨(s.heap.push { cls:=.type "range",data:=.fields #[.int lo t,.int hi u,.int 1 v] }).objs.size,[(s.heap.push { cls:=.type "range",data:=.fields #[.int lo t,.int hi u,.int 1 v] }).objs.size],_,_,H,rfl,
   I1.kept (t':=tk) fun b o e=>Heap.get?_push_of_some _ e,zeI _ lo (hi - lo).toNat,?_,fun b hb=>?_,q⟩
  ·show IsRangeIter _ _ (lo+((0:Nat):Int)*1) ((((hi - lo).toNat:Nat):Int) - ((0:Nat):Int)) 1
   rw[e1,e2]
   exact Heap.get?_push_size _ rfl
  ·have e:b=(s.heap.push { cls:=.type "range",data:=.fields #[.int lo t,.int hi u,.int 1 v] }).objs.size:=by simpa using hb
   subst e
   exact I1.fpOk (Nat.le_refl _) (I1.hok.fresh (Nat.le_refl _))
 | false =>
  refine wpAny_pyIter_longrange (IsRange.new ..) hs ?_
  refine⟨(s.heap.push { cls:=.type "range",data:=.fields #[.int lo t,.int hi u,.int 1 v] }).objs.size,[(s.heap.push { cls:=.type "range",data:=.fields #[.int lo t,.int hi u,.int 1 v] }).objs.size],_,_,H,rfl,
   I1.kept (t':=tk) fun b o e=>Heap.get?_push_of_some _ e,ziU _ lo (hi - lo).toNat,?_,fun b hb=>?_,q⟩
  ·show IsLongIter _ _ (lo+((0:Nat):Int)*1) ((((hi - lo).toNat:Nat):Int) - ((0:Nat):Int)) 1
   rw[e1,e2]
   exact Heap.get?_push_size _ rfl
  ·have e:b=(s.heap.push { cls:=.type "range",data:=.fields #[.int lo t,.int hi u,.int 1 v] }).objs.size:=by simpa using hb
   subst e
   exact I1.fpOk (Nat.le_refl _) (I1.hok.fresh (Nat.le_refl _))
def iRngB (ta:TA):TI:=fun σ H R=>ta σ H fun vs H1=>∃ i j:Int,vs=[.int i,.int j]∧R (Itr i (j - i).toNat) H1
theorem zgf {a b : Expr}{ta : TA}{p pos : Pos}(hg : Gl X "range") (hm : X.mg "range" = none) (ha : PA X [a, b] ta) (hs : starEach [a, b] X.env = [(false, eval a X.env), (false, eval b X.env)] := by rfl) (hs2 : starEach [b] X.env = [(false, eval b X.env)] := by rfl) :
  PI X tg (.Call (.Name "range" p) [a,b] [] pos) (iRngB ta):=by
 intro pins s σ H R I h
 refine Call_ (zcV I hg hm boot_range (PyProof.Rows.callWith_type1 (thn (ha pos pins s σ H _ I h) fun us s1 ⟨vs,H1,I1,r1,q1⟩=>?_) (by rw[hs,hs2]) (by rw[hs2];rfl)))
 obtain⟨i,j,e,q⟩:=q1
 subst e
 cases r1 with
 | cons r rr =>
  cases rr with
  | cons r' rr =>
   cases rr
   obtain⟨t,rfl⟩:=r
   obtain⟨t',rfl⟩:=r'
   exact call_range_2 (zjg I1 q)
end
section
variable {X:Cx}{pos:Pos}{kx vx:Expr}{tk tv:TE}
def zl8 (tk tv:TE):TE:=fun σ H Q=>∀ p,H p=none→tk σ (upd H p (.dT [])) fun y H1=>tv σ H1 fun v H2=>∃ H3,DPut H2 p y v H3∧Q (.ref p) H3
theorem zkI (hu:X.A.units+1<cLine) (hk:PE X kx tk) (hv:PE X vx tv):PE X (.Dict [some kx] [vx] pos) (zl8 tk tv):=by
 intro pins s σ H Q I q
 have hn:=I.hok.fresh (Nat.le_refl s.heap.objs.size)
 have I1:=I.laid (a:=s.heap.objs.size) (o:=.dT []) (h':=s.heap.push { cls:=.type "dict",data:=.dict #[] }) (t':=s.toks) (fun _ _ q=>Heap.get?_push_of_some _ q) (Nat.le_refl _) (zfF s.heap I.big)
 rw[arm_eval_Dict,zip_pairTrees [some kx] [vx] X.env pos rfl rfl,dictDisplay_pairs _ (by intro z;cases z) (by show 1<17;decide)]
 refine wpAny_bind (wpAny_standAt (wpAny_bind ?_))
 unfold subDict
 refine wpAny_bind (wpAny_alloc ?_)
 refine wpAny_bind (wpAny_holding ?_)
 rw[if_pos (by show 1≤15;decide)]
 refine wpAny_bind (pairTrees_cons_walk (thn (hk pins _ σ _ _ I1 (q _ hn)) fun u s1 ⟨y,H1,I1',r1,q1⟩=>thn (hv pins s1 σ H1 _ I1' q1) fun w2 s2 ⟨v,H2,I2,r2,H3,g,q2⟩=>pairTrees_nil_walk ?_))
 refine wpAny_holding ?_
 rw[List.forIn_cons]
 refine wpAny_bind (wpAny_bind ?_)
 show wpAny _ _ (dictSet s.heap.objs.size u w2 >>= fun _=>pure (ForInStep.yield PUnit.unit)) _ _ s2
 refine wpAny_bind (d_set hu I2 g r1 r2 fun s3 I3=>wpAny_pure ?_)
 show wpAny _ _ (forIn [] _ _) _ _ s3
 rw[List.forIn_nil]
 exact wpAny_pure (wpAny_pure (wpAny_pure (wpAny_pure ⟨.ref s.heap.objs.size,H3,I3,rfl,q2⟩)))
end
open AutoSeq1 (wpAny_loadPart')
section
variable {prog:Program}{w:World}{A:Around}{E:Value→Shared→Prop}{s:Shared}{d:Addr}{ep:Nat}{es:Array DictEntry}{od:Obj}
theorem zii (hh : A.handled = none) (I d : Addr) (hne : d ≠ I) (dat : od.data = .dict es ep) :
  Walks prog w A I [I,d] [I] es.size (fun i v=>∃ e,es[i]?=some e∧v=e.key) (fun i h=>h.IsKeyIter I d i es.size ep∧h.get? d=some od) where
 sub:=fun b hb=>by simp at hb;simp[hb]
 frame:=fun i h h' st k=>⟨st.1.at fun o e=>k I (by simp) o e,k d (by simp) _ st.2⟩
 item:=fun i s Q E hi st hQ=>by
  refine zgq st.1 st.2 dat (Array.getElem?_eq_getElem hi) fun h' st' sb=>?_
  refine hQ _ h' s.toks ⟨_,Array.getElem?_eq_getElem hi,rfl⟩ ⟨st',(sb.2 d hne).trans st.2⟩ fun b o hb e=>(sb.2 b (fun z=>hb (by simp[z]))).trans e
 done:=fun s Q E st hQ=>zhZ hh st.1 st.2 dat (Nat.le_refl _) fun h' eb=>hQ h' s.toks fun b o hb e=>eb b o (fun z=>hb (by simp[z])) e
 self:=fun i s Q E st hQ=>wpAny_pyIter_keyiter st.1 hQ
theorem zjQ {Q:Bool→Shared→Prop}(g:s.heap.get? d=some od) (x:od.ExactDict) (h:Q false s):wpAny (model prog w) A (Builtin.List.listLengthHint (.ref d)) Q E s:=by
 have ty:s.TypeIs (.ref d) "dict":=⟨od,g,x.1⟩
 unfold Builtin.List.listLengthHint
 refine wpAny_bind (wpAny_specialOf ty PySem.F.slot_dict_len.lookup ?_)
 generalize hid:("dict.__len__" : String)=id0
 wp_delta
 rw[show splitId id0=some ("dict","__len__") from by subst hid;decide +kernel]
 subst hid
 refine wpAny_bind (wpAny_isInstance (T:="dict") (b:=true) ty (by rw[isSubtype_type];kernel_rfl) ?_)
 refine wpAny_ite_split (fun hab=>absurd hab (by decide)) (fun _=>?_)
 refine wpAny_ite_split (fun _=>?_) (fun hab=>absurd (by decide +kernel) hab)
 refine wpAny_bind (wpAny_typeOf (T:="dict") ty ?_)
 exact wpAny_pure h
theorem zhn {R : Result → Shared → Prop}(hh : A.handled = none) (lo : (d == sysModules) = false) (g : s.heap.get? d = some od) (x : od.ExactDict) (dat : od.data = .dict es ep) (hz : es.size ≤ 2 ^ 24)
    (S:Addr) (res:Value) (c₀:Nat) (hS:s.heap.get? S=some { cls:=.type "list",data:=.seq #[] c₀ })
    (hR:∀ h' tk acc' c',(∀ b o,b≠S→s.heap.get? b=some o→h'.get? b=some o)→h'.get? S=some { cls:=.type "list",dict:=none,data:=.seq acc' c',slots:=#[] } →
      ItemsOf (fun i v=>∃ e,es[i]?=some e∧v=e.key) acc' es.size→R (.ok (.ret res)) { s with heap:=h',toks:=tk }) :
    wpAny (model prog w) A.in1 (Builtin.List.listExtendWith (.ref S) (.ref d) res)
      (fun fin s'=>match fin with | .done f=>R (.ok f) s' | .again c'=>c'.quiet=true∧codeAny (model prog w) A c' R s') (fun e s'=>R (.error e) s') s:=by
  have hSr:S≠d:=fun e=>by rw[e,g] at hS;have:=x.1;cases hS;exact absurd (show Value.type "list" = Value.type "dict" from this) (by decide)
  have hSlt:S<s.heap.objs.size:=Heap.lt_size hS
  have hdlt:d<s.heap.objs.size:=Heap.lt_size g
  have hSI:S≠s.heap.objs.size:=Nat.ne_of_lt hSlt
  have hSf:S ∉ [s.heap.objs.size,d]:=fun hm=>by
    rcases List.mem_cons.mp hm with z | z
    · exact hSI z
    · exact hSr (List.mem_singleton.mp z)
  have W:=(zii (prog:=prog) (w:=w) (A:=A.in1) hh s.heap.objs.size d (Nat.ne_of_lt hdlt) dat).toS
  have key : ∀ (h : Heap) (c₁ tk : Nat), h.IsKeyIter s.heap.objs.size d 0 es.size ep ∧ h.get? d = some od → (∀ b o, b ≠ S → s.heap.get? b = some o → h.get? b = some o) →
      h.get? S=some { cls:=.type "list",data:=.seq #[] c₁ }→codeAny (model prog w) A (.builtin "list.extend.loop" ⟨[.ref S,.ref s.heap.objs.size,res],[]⟩) R { s with heap:=h,toks:=tk }:=by
    intro h c₁ tk hit hk hS₁
    refine codeAny_extend_loopS W (by rw[sizeLine_eq];lia) S hSf res es.size 0 _ #[] c₁ rfl (Nat.zero_le _) hit hS₁ (ItemsOf.nil _) fun s' acc' c' hm hS' hacc=>?_
    rw[Moved.eq_with hm]
    refine hR s'.heap s'.toks acc' c' (fun b o hb e=>hm.heap b o (fun hmem=>?_) (hk b o hb e)) hS' hacc
    rcases List.mem_cons.mp hmem with e' | hmem
    · exact hb e'
    · exact absurd (Heap.lt_size e) (by rw[List.mem_singleton.mp hmem];exact Nat.lt_irrefl _)
  unfold Builtin.List.listExtendWith
  refine wpAny_bind (wpAny_typeOf (T:="dict") ⟨od,g,x.1⟩ ?_)
  have h1:Builtin.List.listSameRef (.ref S) (.ref d)=false:=by simp[Builtin.List.listSameRef,hSr]
  have h2:(Value.type "dict" == Value.type "list")=false:=by decide
  have h3:(Value.type "dict" == Value.type "tuple")=false:=by decide
  simp only[h1,h2,h3,Bool.or_false,Bool.false_eq_true,if_false]
  refine wpAny_bind (zeb lo g x dat ?_)
  refine wpAny_bind (wpAny_holding (zjQ (Heap.get?_push_of_some _ g) x ?_))
  have hit₁:(s.heap.push { cls:=.type "dict_keyiterator",data:=.fields #[.ref d,.int 0 0,.int es.size 0,.int ep 0] }).IsKeyIter s.heap.objs.size d 0 es.size ep:=⟨_,Heap.get?_push_size _ rfl,rfl,rfl⟩
  have hg₁:=Heap.get?_push_of_some { cls:=.type "dict_keyiterator",data:=.fields #[.ref d,.int 0 0,.int es.size 0,.int ep 0] } g
  have hS₁:=Heap.get?_push_of_some { cls:=.type "dict_keyiterator",data:=.fields #[.ref d,.int 0 0,.int es.size 0,.int ep 0] } hS
  refine wpAny_ite_split (fun _=>?_) (fun hab=>absurd (by decide) hab)
  refine wpAny_bind (wpAny_rule ?_)
  refine wpAny_bind ?_
  show wpAny _ _ (updateSeq S (·.push .none) >>= fun _=>updateSeq S (·.pop)) _ _ _
  refine wpAny_bind (wpAny_updateSeq hS₁ rfl ?_)
  have hS₂:=Heap.get?_update_self (Obj.mapSeq (·.push Value.none)) hS₁ rfl
  refine wpAny_updateSeq (hz:=by seq_fits) hS₂ rfl ?_
  have hS₃:=Heap.get?_update_self (Obj.mapSeq (·.pop)) hS₂ rfl
  refine wpAny_pure ⟨plainId_quiet PySem.F.plain_extend_loop _,key _ _ _ ⟨hit₁.at fun o e=>?_,?_⟩ (fun b o hb e=>?_) hS₃⟩
  · exact (Heap.get?_update_other _ _ hSI).trans ((Heap.get?_update_other _ _ hSI).trans e)
  · exact (Heap.get?_update_other _ _ hSr).trans ((Heap.get?_update_other _ _ hSr).trans hg₁)
  · exact (Heap.get?_update_other _ _ (Ne.symm hb)).trans ((Heap.get?_update_other _ _ (Ne.symm hb)).trans (Heap.get?_push_of_some _ e))
theorem zjO {R : Result → Shared → Prop}(hh : A.handled = none) (lo : (d == sysModules) = false) (g : s.heap.get? d = some od) (x : od.ExactDict) (dat : od.data = .dict es ep) (hz : es.size ≤ 2 ^ 24)
  (S:Addr) (hS:s.heap.get? S=some { cls:=.type "list",data:=.seq #[] })
  (hR:∀ h' tk acc' c',(∀ b o,b≠S→s.heap.get? b=some o→h'.get? b=some o)→h'.get? S=some { cls:=.type "list",dict:=none,data:=.seq acc' c',slots:=#[] } →
   ItemsOf (fun i v=>∃ e,es[i]?=some e∧v=e.key) acc' es.size→R (.ok (.ret .none)) { s with heap:=h',toks:=tk }) :
  wpAny (model prog w) A.in1 (Builtin.«list.__init__» ⟨[.ref S,.ref d],[]⟩)
   (fun fin s'=>match fin with | .done f=>R (.ok f) s' | .again c'=>c'.quiet=true∧codeAny (model prog w) A c' R s') (fun e s'=>R (.error e) s') s:=by
 have hSr:S≠d:=fun e=>by rw[e,g] at hS;have:=x.1;cases hS;exact absurd (show Value.type "list" = Value.type "dict" from this) (by decide)
 show wpAny _ _ (do let old ← Builtin.List.listItems (.ref S);Builtin.List.listUpdate (.ref S) (fun _=>#[]);letGo old.toList.reverse;Builtin.List.listExtendWith (.ref S) (.ref d) .none) _ _ s
 refine wpAny_bind ?_
 unfold Builtin.List.listItems
 refine wpAny_bind (wpAny_seqItems hS rfl (wpAny_pure ?_))
 show wpAny _ _ (updateSeq S (fun _=>#[]) >>= fun _=>letGo (#[]:Array Value).toList.reverse >>= fun _=>Builtin.List.listExtendWith (.ref S) (.ref d) .none) _ _ s
 refine wpAny_bind (wpAny_updateSeq hS rfl ?_)
 have hS₂:=Heap.get?_update_self (Obj.mapSeq (fun _=>(#[]:Array Value))) hS rfl
 have oth:∀ b o,b≠S→s.heap.get? b=some o→(s.heap.update S (Obj.mapSeq (fun _=>(#[]:Array Value)))).get? b=some o :=
  fun b o hb e=>(Heap.get?_update_other _ _ (Ne.symm hb)).trans e
 refine wpAny_bind (wpAny_letGo ?_)
 refine zhn hh lo (oth d _ (Ne.symm hSr) g) x dat hz S .none _ hS₂ fun h' tk acc' c' hk hS' hacc=>?_
 exact hR h' tk acc' c' (fun b o hb e=>hk b o hb (oth b o hb e)) hS' hacc
theorem zeC {Q : Value → Shared → Prop}(hh : A.handled = none) (lo : (d == sysModules) = false) (g : s.heap.get? d = some od) (x : od.ExactDict) (dat : od.data = .dict es ep) (hz : es.size ≤ 2 ^ 24)
  (hQ:∀ h' tk acc' c',(∀ b o,s.heap.get? b=some o→h'.get? b=some o) →
   h'.get? s.heap.objs.size=some { cls:=.type "list",dict:=none,data:=.seq acc' c',slots:=#[] }→ItemsOf (fun i v=>∃ e,es[i]?=some e∧v=e.key) acc' es.size→Q (.ref s.heap.objs.size) { s with heap:=h',toks:=tk }) :
  wpAny (model prog w) A (call (.type "list") [.ref d]) Q E s:=by
 refine callType_codes (Q₁:=fun obj s₁=>obj=.ref s.heap.objs.size∧s₁={ s with heap:=s.heap.push { cls:=.type "list",data:=.seq #[] } }) PySem.F.called_list (PySem.F.typeCall_list_1 _) PySem.F.entry_list_init
  (code_list_new _ ⟨rfl,rfl⟩) fun obj s₁ h₁=>?_
 obtain⟨rfl,rfl⟩:=h₁
 have hS:(s.heap.push { cls:=.type "list",data:=.seq #[] }).get? s.heap.objs.size=some { cls:=.type "list",data:=.seq #[] }:=Heap.get?_push_size _ rfl
 refine⟨⟨_,hS,rfl⟩,PySem.F.args_list_init_2 _ _,zjO (A:=A.in1) hh lo (Heap.get?_push_of_some _ g) x dat hz _ hS fun h' tk acc' c' hk hS' hacc=>?_⟩
 exact⟨rfl,hQ h' tk acc' c' (fun b o e=>hk b o (Nat.ne_of_lt (Heap.lt_size e)) (Heap.get?_push_of_some _ e)) hS' hacc⟩
end
def KeyL (H:Hp) (ts:List V) (kvs:List (List Key×V)):Prop:=ts.length=kvs.length∧∀ (i:Nat) t k v,ts[i]?=some t→kvs[i]?=some (k,v)→∃ b,t=.ref b∧H b=some (.tup (k.map kV))
section
variable {X:Cx}
theorem zdF (hh:X.calm=true):CallR X (.type "list") (fun xs H Q=>∃ a kvs,xs=[.ref a]∧Rd H a (.dT kvs)∧∀ l ts,H l=none→KeyL H ts kvs→Q (.ref l) (upd H l (.lst ts))):=by
 intro pins s σ H xs us Q I r h
 obtain⟨a,kvs,rfl,e,q⟩:=h
 obtain⟨u,rfl,rx⟩:=vals1 r
 cases rx
 obtain⟨z,y,ys,rr,od,es,ep,h1,h2,h3,h4,h5⟩:=(show ObjOk X.prog X.w H s.heap a (.dT kvs) from rd_of I.hok e)
 have hsz:es.size=kvs.length:=by rw[size_of_entries h4,← Paired.length rr]
 have z':=z
 rw[sizeLine_eq] at z'
 refine zeC (show X.A.handled=none from I.ok.hd hh) y h1 h2 h3 (by lia) fun h' tk acc c kp g hacc=>?_
 have at_i:∀ (i:Nat) (u:Value),acc[i]?=some u→∃ b k v,kvs[i]?=some (k,v)∧u=.ref b∧H b=some (.tup (k.map kV)):=fun i u hu=>by
  obtain⟨en,he,rfl⟩:=hacc.2 i u hu
  have hi:i<kvs.length:=by
   have:=(Array.getElem?_eq_some_iff.mp he).1
   lia
  obtain⟨q',hq,q1,q2,q3⟩:=Paired.at' rr (List.getElem?_eq_getElem hi)
  have he':es[i]?=some (entryOfKey (tupleKind (zaS X.prog X.w)) q'):=by rw[entry_at h4,hq];rfl
  rw[he] at he'
  cases he'
  exact⟨q'.2.1,kvs[i].1,kvs[i].2,List.getElem?_eq_getElem hi,rfl,q2⟩
 have hal:acc.size=kvs.length:=by rw[← hsz];exact hacc.1
 let ts:List V:=acc.toList.map fun u=>match u with | .ref b=>V.ref b | _=>V.non
 have hts:ts.length=kvs.length:=by simp[ts,hal]
 have hrel:Vals ts acc.toList:=zkf (by simp[ts]) fun i x u hx hu=>by
  rw[List.getElem?_map,hu] at hx
  cases hx
  obtain⟨b,k,v,_,rfl,_⟩:=at_i i u (by simpa using hu)
  rfl
 have hn:H s.heap.objs.size=none:=I.hok.fresh (Nat.le_refl _)
 refine⟨.ref s.heap.objs.size,_,I.laid (t':=tk) (o:=.lst ts) kp (Nat.le_refl _) ⟨by rw[hts];exact z,acc.toList,c,hrel,by rw[Array.toArray_toList];exact g⟩,rfl,q _ ts hn ⟨hts,fun i t k v ht hk=>?_⟩⟩
 have hi:i<acc.toList.length:=by have:=(List.getElem?_eq_some_iff.mp ht).1;simpa[ts] using this
 have hu:acc.toList[i]?=some acc.toList[i]:=List.getElem?_eq_getElem hi
 obtain⟨b,k',v',hk',hu',hb⟩:=at_i i acc.toList[i] (by simpa using hu)
 rw[hk] at hk'
 cases hk'
 rw[List.getElem?_map,hu] at ht
 cases ht
 rw[hu']
 exact⟨b,rfl,hb⟩
end
section
variable {X:Cx}{es:List Expr}{te:TE}{t:TA}{pos:Pos}
theorem pa_T {l:List Expr}{k:Nat}(ha:PE X (.Tuple l k pos) te) (hr:PA X es t):PA X (.Tuple l k pos::es) (tCons te t):=zaj ha hr (by rfl)
theorem pa_C {c:Const}{k:Nat}(ha:PE X (.Constant c k pos) te) (hr:PA X es t):PA X (.Constant c k pos::es) (tCons te t):=zaj ha hr (by rfl)
theorem pa_U {o:UnaryOp}{a:Expr}(ha:PE X (.UnaryOp o a pos) te) (hr:PA X es t):PA X (.UnaryOp o a pos::es) (tCons te t):=zaj ha hr (by rfl)
theorem pa_B {a b:Expr}{o:Operator}(ha:PE X (.BinOp a o b pos) te) (hr:PA X es t):PA X (.BinOp a o b pos::es) (tCons te t):=zaj ha hr (by rfl)
theorem pa_N {x:Str}(ha:PE X (.Name x pos) te) (hr:PA X es t):PA X (.Name x pos::es) (tCons te t):=zaj ha hr (by rfl)
end
def tPrs:List (V×V)→TA
 | []=>tNil
 | (a,b)::r=>tCons (tTup (tCons (tC a) (tCons (tC b) tNil))) (tPrs r)
theorem zaR {i:Nat}{v:V}{σ:St}{H:Hp}{Q:St→Hp→Prop}:gName i v σ H Q=Q (σ.set i (some v)) H:=rfl
theorem zmM {i:Nat}{v:V}{u:TS}{D:Ends}{σ:St}{H:Hp}:tSeq (tAsg (tC v) (gName i)) u D σ H=u D (σ.set i (some v)) H:=rfl
section
variable {X:Cx}{tg:Expr}
def zgs (tl:TE):TI:=fun σ H R=>tl σ H fun x H1=>∃ a kvs,x=.ref a∧((H1 a=some (.dT kvs)∧∀ od,R (Itd a od) (upd H1 a (.frz od (.dT kvs))))∨∃ od,H1 a=some (.frz od (.dT kvs))∧R (Itd a od) H1)
theorem zdb {l:Expr}{tl:TE}(hl:PE X l tl):PI X tg l (zgs tl):=by
 intro pins s σ H R I h
 refine thn (hl pins s σ H _ I h) fun v s1 ⟨x,H1,I1,r1,q1⟩=>?_
 obtain⟨a,kvs,e,q⟩:=q1
 subst e
 cases r1
 rcases q with⟨hd,q⟩ | ⟨od,hd,q⟩
 ·obtain⟨z,y,xs,r,od,es,ep,h1,h2,h3,h4,h5⟩:=(show ObjOk X.prog X.w H1 s1.heap a (.dT kvs) from I1.hok a _ hd)
  have I2:Inv X pins σ (upd H1 a (.frz od (.dT kvs))) s1:=I1.write (h':=s1.heap) (t':=s1.toks) (x:=a) (e:=a) (by rw[hd];exact True.intro) (.inl rfl) (fun b u _ g=>g) ⟨od,h1⟩
   ⟨h1,z,y,xs,KT.keeps r (fun c ys ec=>by rw[zam (ne_of ec hd (fun z=>nomatch z))];exact ec),od,es,ep,h1,h2,h3,h4,h5⟩
  refine zeb y h1 h2 h3 ?_
  refine⟨s1.heap.objs.size,[s1.heap.objs.size],_,_,_,rfl,I2.kept (t':=s1.toks) fun b o e=>Heap.get?_push_of_some _ e,zfW a _ od h3,⟨_,Heap.get?_push_size _ rfl,rfl,rfl⟩,fun b hb=>?_,q od⟩
  have e:b=s1.heap.objs.size:=by simpa using hb
  subst e
  exact I2.fpOk (Nat.le_refl _) (I2.hok.fresh (Nat.le_refl _))
 ·obtain⟨g,z,y,xs,r,od',es,ep,h1,h2,h3,h4,h5⟩:=(show ObjOk X.prog X.w H1 s1.heap a (.frz od (.dT kvs)) from I1.hok a _ hd)
  rw[g] at h1
  cases h1
  refine zeb y g h2 h3 ?_
  refine⟨s1.heap.objs.size,[s1.heap.objs.size],_,_,_,rfl,I1.kept (t':=s1.toks) fun b o e=>Heap.get?_push_of_some _ e,zfW a _ od h3,⟨_,Heap.get?_push_size _ rfl,rfl,rfl⟩,fun b hb=>?_,q⟩
  have e:b=s1.heap.objs.size:=by simpa using hb
  subst e
  exact I1.fpOk (Nat.le_refl _) (I1.hok.fresh (Nat.le_refl _))
end
end L2
namespace RP
def av (w:Nat):Int:=if w=0∨w=1 then 1 else 0
def bv (w:Nat):Int:=if w=1∨w=2 then 1 else 0
def eU (e:Edge):Int:=px e+py e+av e.w
def eV (e:Edge):Int:=py e - px e+bv e.w
def tt (C:Cell→Bool) (e:Edge):Int:=match stepB C e with
 | none=>1
 | some s=>if s % 2=1 then -1 else 0
theorem e_inj {C:Cell→Bool}{e f:Edge}(he:IsE C e) (hf:IsE C f) (h1:eU e=eU f) (h2:eV e=eV f):e=f:=by
  obtain⟨⟨x,y⟩,w⟩:=e
  obtain⟨⟨x',y'⟩,w'⟩:=f
  obtain⟨hw,hc,hg⟩:=he
  obtain⟨hw',hc',hg'⟩:=hf
  simp only at hw hw' hc hc'
  rcases way4 hw with rfl | rfl | rfl | rfl <;> rcases way4 hw' with rfl | rfl | rfl | rfl <;>
    simp only[eU,eV,px,py,av,bv,gap,go,mv] at h1 h2 hg hg' <;> simp at h1 h2 hg hg' <;> first
    | (exfalso;lia)
    | (have : x' = x := by lia
       have:y'=y:=by lia
       subst x' y';rfl)
    | (exfalso
       have q1:x'=x:=by lia
       have q2:y'=y+-1:=by lia
       rw[q1,q2,hg] at hc';exact absurd hc' (by decide))
    | (exfalso
       have q1:x'=x:=by lia
       have q2:y'=y+1:=by lia
       rw[q1,q2,hg] at hc';exact absurd hc' (by decide))
    | (exfalso
       have q1:x'=x+1:=by lia
       have q2:y'=y:=by lia
       rw[q1,q2,hg] at hc';exact absurd hc' (by decide))
    | (exfalso
       have q1:x'=x+-1:=by lia
       have q2:y'=y:=by lia
       rw[q1,q2,hg] at hc';exact absurd hc' (by decide))
theorem zcn {C:Cell→Bool}{e:Edge}(h:IsE C e):eU (nxt C e)=eU e+(av e.w+av (nxt C e).w - 1)∧eV (nxt C e)=eV e+(bv e.w+bv (nxt C e).w - 1):=by
 obtain⟨p,q⟩:=zgg h
 unfold eU eV
 rw[p,q]
 have hw:=h.1
 generalize (nxt C e).w=w'
 rcases way4 hw with r | r | r | r <;> rw[r] <;> simp[av,bv,dx,dy] <;> lia
theorem ze9 {C : Cell → Bool}{e : Edge}(h : IsE C e) :
  (tt C e=-1∧(nxt C e).w=(e.w+3) % 4)∨(tt C e=0∧(nxt C e).w=e.w)∨(tt C e=1∧(nxt C e).w=(e.w+1) % 4):=by
 unfold tt
 rcases za4 h with⟨_,s,q⟩ | ⟨_,_,s,q⟩ | ⟨_,_,s,q⟩ <;> rw[q,s] <;> simp only
 ·left;rw[if_pos (odd7 _)];exact⟨by decide,trivial⟩
 ·right;left;rw[if_neg (by lia)];exact⟨by decide,trivial⟩
 ·right;right;exact⟨by decide,trivial⟩
theorem c_at {C:Cell→Bool}{a b c d:Int}{v:Bool}(h:C (a,b)=v) (h1:c=a) (h2:d=b):C (c,d)=v:=by subst h1 h2;exact h
theorem zeK {C : Cell → Bool}{e : Edge}(h : IsE C e) (ht : tt C e = 0) :
  C (px e+dx e.w - 1,py e+dy e.w - 1)=decide (e.w=1∨e.w=2)∧C (px e+dx e.w,py e+dy e.w - 1)=decide (e.w=2∨e.w=3):=by
 obtain⟨⟨x,y⟩,w⟩:=e
 obtain⟨hw,hc,hg⟩:=id h
 rcases za4 h with⟨_,s,q⟩ | ⟨k1,k2,s,q⟩ | ⟨_,_,s,q⟩
 ·exfalso;unfold tt at ht;rw[s] at ht;simp only at ht;rw[if_pos (odd7 _)] at ht;exact absurd ht (by decide)
 ·simp only at hw hc k1 k2
  rcases way4 hw with rfl | rfl | rfl | rfl <;> simp only[gap,go,mv,px,py,dx,dy] at hg k1 k2 ⊢ <;> simp at hg k1 k2 hc ⊢ <;>
   refine⟨?_,?_⟩ <;> first | exact c_at hg (by lia) (by lia) | exact c_at hc (by lia) (by lia) | exact c_at k1 (by lia) (by lia) | exact c_at k2 (by lia) (by lia)
 ·exfalso;unfold tt at ht;rw[s] at ht;exact absurd ht (by decide)
theorem zdR (w:Nat):av w=0∨av w=1:=by unfold av;split <;> simp
theorem zjD {C:Cell→Bool}{e f:Edge}(he:IsE C e) (hf:IsE C f) (h1:eU e+eU (nxt C e)=eU f+eU (nxt C f)) (h2:eV e+eV (nxt C e)=eV f+eV (nxt C f)):e=f:=by
  obtain⟨a1,a2⟩:=zcn he
  obtain⟨b1,b2⟩:=zcn hf
  have key:∀ w w':Nat,e.w=w→f.w=w'→e=f∨(tt C e=0∧tt C f=0∧px e+dx e.w=px f+dx f.w∧py e+dy e.w=py f+dy f.w)∨(eU e=eU (nxt C f)∧eV e=eV (nxt C f)∧e.w≠(nxt C f).w):=by
    intro w w' ew fw
    have hw:=he.1
    have hw':=hf.1
    rw[ew] at hw
    rw[fw] at hw'
    have same:e.w=f.w→px e=px f→py e=py f→e=f:=fun q0 q1 q2=>by
      refine e_inj he hf ?_ ?_ <;> simp only[eU,eV] <;> rw[q0,q1,q2]
    rcases ze9 he with⟨t1,n1⟩ | ⟨t1,n1⟩ | ⟨t1,n1⟩ <;> rcases ze9 hf with⟨t2,n2⟩ | ⟨t2,n2⟩ | ⟨t2,n2⟩ <;> rw[n1,ew] at a1 a2 <;> rw[n2,fw] at b1 b2 <;>
      rcases way4 hw with rfl | rfl | rfl | rfl <;> rcases way4 hw' with rfl | rfl | rfl | rfl <;> simp[av,bv] at a1 a2 b1 b2 <;>
      (have u1:eU e=px e+py e+av e.w:=rfl
       have u2:eV e=py e - px e+bv e.w:=rfl
       have v1:eU f=px f+py f+av f.w:=rfl
       have v2:eV f=py f - px f+bv f.w:=rfl
       rw[ew] at u1 u2
       rw[fw] at v1 v2
       simp[av,bv] at u1 u2 v1 v2) <;> first
      | (exfalso;lia)
      | (exact .inl (same (by rw[ew,fw]) (by lia) (by lia)))
      | (refine .inr (.inl ⟨t1,t2,?_,?_⟩) <;> rw[ew,fw] <;> simp[dx,dy] <;> lia)
      | (refine .inr (.inr ⟨by lia,by lia,by rw[ew,n2,fw];decide⟩))
  rcases key _ _ rfl rfl with h | ⟨t1,t2,q1,q2⟩ | ⟨q1,q2,q3⟩
  · exact h
  · obtain⟨c1,c2⟩:=zeK he t1
    obtain⟨d1,d2⟩:=zeK hf t2
    rw[q1,q2] at c1 c2
    rw[c1] at d1
    rw[c2] at d2
    have d1':=decide_eq_decide.mp d1
    have d2':=decide_eq_decide.mp d2
    have hw:=he.1
    have hw':=hf.1
    have ww:e.w=f.w:=by lia
    rw[ww] at q1 q2
    refine e_inj he hf ?_ ?_ <;> simp only[eU,eV] <;> rw[ww] <;> lia
  · exact absurd (congrArg Edge.w (e_inj he (zdB hf) q1 q2)) q3
def cr (x1 y1 x2 y2:Int):Int:=if y1=-1∧y2=0∧0<x2 then 1 else if y1=0∧y2=-1∧0<x1 then -1 else 0
theorem cr_sq (u v a1 a2 b1 b2 : Int) (ha1 : -1 ≤ a1 ∧ a1 ≤ 1) (ha2 : -1 ≤ a2 ∧ a2 ≤ 1) (hb1 : -1 ≤ b1 ∧ b1 ≤ 1) (hb2 : -1 ≤ b2 ∧ b2 ≤ 1)
  (h00:¬(u=0∧v=0)) (h10:¬(u+a1=0∧v+a2=0)) (h01:¬(u+b1=0∧v+b2=0)) (h11:¬(u+a1+b1=0∧v+a2+b2=0))
  (hc:¬(2*u+a1+b1=0∧2*v+a2+b2=0)) :
  cr u v (u+a1) (v+a2)+cr (u+a1) (v+a2) (u+a1+b1) (v+a2+b2)=cr u v (u+b1) (v+b2)+cr (u+b1) (v+b2) (u+a1+b1) (v+a2+b2):=by
 have c1:a2=-1∨a2=0∨a2=1:=by lia
 have c2:b2=-1∨b2=0∨b2=1:=by lia
 have c3:v=-2∨v=-1∨v=0∨v=1∨v < -2∨1<v:=by lia
 rcases c3 with rfl | rfl | rfl | rfl | c3 | c3
 ·rcases c1 with rfl | rfl | rfl <;> rcases c2 with rfl | rfl | rfl <;> simp[cr] <;> (try lia) <;> split <;> (try split) <;> lia
 ·rcases c1 with rfl | rfl | rfl <;> rcases c2 with rfl | rfl | rfl <;> simp[cr] <;> (try lia) <;> split <;> (try split) <;> lia
 ·rcases c1 with rfl | rfl | rfl <;> rcases c2 with rfl | rfl | rfl <;> simp[cr] <;> (try lia) <;> split <;> (try split) <;> lia
 ·rcases c1 with rfl | rfl | rfl <;> rcases c2 with rfl | rfl | rfl <;> simp[cr] <;> (try lia) <;> split <;> (try split) <;> lia
 ·have n:∀ p q r,∀ s:Int,q < -1→cr p q r s=0:=fun p q r s h=>by unfold cr;rw[if_neg (by lia),if_neg (by lia)]
  rw[n _ _ _ _ (by lia),n _ _ _ _ (by lia),n _ _ _ _ (by lia),n _ _ _ _ (by lia)]
 ·have n:∀ p q r,∀ s:Int,0<q→cr p q r s=0:=fun p q r s h=>by unfold cr;rw[if_neg (by lia),if_neg (by lia)]
  rw[n _ _ _ _ (by lia),n _ _ _ _ (by lia),n _ _ _ _ (by lia),n _ _ _ _ (by lia)]
section
variable (U V:Nat→Int)
def hH (i j:Nat):Int:=cr (U j - U i) (V j - V i) (U (j+1) - U i) (V (j+1) - V i)
def gG (i j:Nat):Int:=cr (U j - U i) (V j - V i) (U j - U (i+1)) (V j - V (i+1))
def sE:Nat→Int
 | 0=>0
 | i+1=>sE i+hH U V i (i+1)+gG U V i (i+2)
def sF (i:Nat):Nat→Int
 | 0=>sE U V i
 | d+1=>sF i d+hH U V i (i+1+d)
variable {U V}
variable {n:Nat}
theorem zg6 (su : ∀ k, -1 ≤ U (k + 1) - U k ∧ U (k + 1) - U k ≤ 1) (sv : ∀ k, -1 ≤ V (k + 1) - V k ∧ V (k + 1) - V k ≤ 1)
  (hd:∀ i j,i<j→j≤n→¬(i=0∧j=n)→¬(U j - U i=0∧V j - V i=0))
  (hm:∀ i j,i<j→j<n→¬(U i+U (i+1)=U j+U (j+1)∧V i+V (i+1)=V j+V (j+1))) :
  ∀ d i,i+2+d≤n→¬(i=0∧i+2+d=n)→sF U V (i+1) d - sF U V i (d+1)=gG U V i (i+2+d)
 | 0,i,h,hx=>by
  show sE U V (i+1) - (sE U V i+hH U V i (i+1+0))=_
  show sE U V i+hH U V i (i+1)+gG U V i (i+2) - (sE U V i+hH U V i (i+1))=gG U V i (i+2)
  lia
 | d+1,i,h,hx=>by
  have ih:=zg6 su sv hd hm d i (by lia) (by lia)
  show sF U V (i+1) d+hH U V (i+1) (i+1+1+d) - (sF U V i (d+1)+hH U V i (i+1+(d+1)))=gG U V i (i+2+(d+1))
  have j1:i+1+1+d=i+2+d:=by lia
  have j2:i+1+(d+1)=i+2+d:=by lia
  have j3:i+2+(d+1)=(i+2+d)+1:=by lia
  rw[j1,j2,j3]
  generalize hj:i+2+d=j at *
  have q:=cr_sq (U j - U i) (V j - V i) (-(U (i+1) - U i)) (-(V (i+1) - V i)) (U (j+1) - U j) (V (j+1) - V j)
   (by have:=su i;lia) (by have:=sv i;lia) (su j) (sv j)
   (hd i j (by lia) (by lia) (by lia))
   (by have:=hd (i+1) j (by lia) (by lia) (by lia);lia)
   (by have:=hd i (j+1) (by lia) (by lia) (by lia);lia)
   (by have:=hd (i+1) (j+1) (by lia) (by lia) (by lia);lia)
   (by have:=hm i j (by lia) (by lia);lia)
  have e1:U j - U i+-(U (i+1) - U i)=U j - U (i+1):=by lia
  have e2:V j - V i+-(V (i+1) - V i)=V j - V (i+1):=by lia
  have e3:U j - U i+(U (j+1) - U j)=U (j+1) - U i:=by lia
  have e4:V j - V i+(V (j+1) - V j)=V (j+1) - V i:=by lia
  have e5:U j - U (i+1)+(U (j+1) - U j)=U (j+1) - U (i+1):=by lia
  have e6:V j - V (i+1)+(V (j+1) - V j)=V (j+1) - V (i+1):=by lia
  rw[e1,e2,e3,e4,e5,e6] at q
  have q':gG U V i j+hH U V (i+1) j=hH U V i j+gG U V i (j+1):=q
  lia
theorem cr_up {a b c d:Int}(h1:0≤b) (h2:0≤d):cr a b c d=0:=by unfold cr;rw[if_neg (by lia),if_neg (by lia)]
theorem cr_dn {a b c d:Int}(h1:b=0→a≤0) (h2:d=0→c≤0):cr a b c d=0:=by unfold cr;rw[if_neg (by lia),if_neg (by lia)]
theorem zlg (hn : 3 ≤ n) (su : ∀ k, -1 ≤ U (k + 1) - U k ∧ U (k + 1) - U k ≤ 1) (sv : ∀ k, -1 ≤ V (k + 1) - V k ∧ V (k + 1) - V k ≤ 1)
  (hd:∀ i j,i<j→j≤n→¬(i=0∧j=n)→¬(U j - U i=0∧V j - V i=0))
  (hm:∀ i j,i<j→j<n→¬(U i+U (i+1)=U j+U (j+1)∧V i+V (i+1)=V j+V (j+1)))
  (hU:U n=U 0) (hV:V n=V 0) (mV:∀ k,k<n→V 0≤V k) (mU:∀ k,k<n→V k=V 0→U 0≤U k) :
  sE U V (n - 1)=gG U V 0 (n - 1)+hH U V 1 (n - 1):=by
 have r0:∀ d,d+2≤n→sF U V 0 d=0:=by
  intro d
  induction d with
  | zero=>intro _;rfl
  | succ d ih =>
   intro h
   show sF U V 0 d+hH U V 0 (0+1+d)=0
   rw[ih (by lia)]
   have:=mV (0+1+d) (by lia)
   have:=mV (0+1+d+1) (by lia)
   unfold hH
   rw[cr_up (by lia) (by lia)]
   rfl
 have s1:=zg6 su sv hd hm (n - 3) 0 (by lia) (by lia)
 rw[show n - 3+1=n - 2 by lia,r0 (n - 2) (by lia),show 0+2+(n - 3)=n - 1 by lia] at s1
 have s2:sF U V 1 (n - 2)=sF U V 1 (n - 3)+hH U V 1 (n - 1):=by
  have:sF U V 1 (n - 3+1)=sF U V 1 (n - 3)+hH U V 1 (1+1+(n - 3)):=rfl
  rw[show n - 3+1=n - 2 by lia,show 1+1+(n - 3)=n - 1 by lia] at this
  exact this
 have r1:∀ k,1+k≤n - 1→sF U V (1+k) (n - 2 - k)=sF U V 1 (n - 2):=by
  intro k
  induction k with
  | zero=>intro _;rfl
  | succ k ih =>
   intro h
   have s:=zg6 su sv hd hm (n - 3 - k) (1+k) (by lia) (by lia)
   rw[show n - 3 - k+1=n - 2 - k by lia,show 1+k+2+(n - 3 - k)=n by lia,ih (by lia)] at s
   have z:gG U V (1+k) n=0:=by
    unfold gG
    have a1:=mV (1+k) (by lia)
    have a2:=mU (1+k) (by lia)
    have b1:=mV (1+k+1) (by lia)
    have b2:=mU (1+k+1) (by lia)
    exact cr_dn (by lia) (by lia)
   rw[z] at s
   rw[show 1+(k+1)=1+k+1 by lia,show n - 2 - (k+1)=n - 3 - k by lia]
   lia
 have e:=r1 (n - 2) (by lia)
 rw[show 1+(n - 2)=n - 1 by lia,show n - 2 - (n - 2)=0 by lia] at e
 show sF U V (n - 1) 0=_
 rw[e]
 have:(0:Nat)+1=1:=rfl
 rw[this] at s1
 lia
end
def crs (x1 y1 x2 y2:Int):Int:=cr x1 y1 (x1+x2) (y1+y2)+cr (x1+x2) (y1+y2) x2 y2
def ok8 (w i j:Nat):Bool :=
 let w1:=(w+i+3) % 4
 let w2:=(w1+j+3) % 4
 let t:Int:=(i:Int) - 1
 let t':Int:=(j:Int) - 1
 crs (av w+av w1 - 1) (bv w+bv w1 - 1) (av w1+av w2 - 1) (bv w1+bv w2 - 1) == (2*((w:Int)+t) - 1+t') / 8 - (2*(w:Int) - 1+t) / 8 &&
 crs (-(av w+av w1 - 1)) (-(bv w+bv w1 - 1)) (-(av w1+av w2 - 1)) (-(bv w1+bv w2 - 1)) == (2*((w:Int)+t) - 1+t'+4) / 8 - (2*(w:Int) - 1+t+4) / 8
theorem all8:∀ w<4,∀ i<3,∀ j<3,ok8 w i j=true:=by decide
def it (C:Cell→Bool) (b:Edge):Nat→Edge
 | 0=>b
 | k+1=>nxt C (it C b k)
theorem Chain.get {C:Cell→Bool}{b:Edge}{es:List Edge}(h:Chain C b es):∀ i,i<es.length→es[i]?=some (it C b i)
 | 0,_=>h.1
 | i+1,hi=>by
  have h1:=Chain.get h i (by lia)
  have:=h.2.1 i _ _ h1 (List.getElem?_eq_getElem hi)
  rw[List.getElem?_eq_getElem hi,this]
  rfl
theorem Closed.pos {C:Cell→Bool}{b:Edge}{es:List Edge}(h:Closed C b es):0<es.length:=(List.getElem?_eq_some_iff.mp h.1.1).1
theorem Closed.it_len {C:Cell→Bool}{b:Edge}{es:List Edge}(h:Closed C b es):it C b es.length=b:=by
 obtain⟨hc,l,hl,hb⟩:=id h
 have hp:=h.pos
 have:=hc.get (es.length - 1) (by lia)
 rw[hl] at this
 cases this
 have e:it C b (es.length - 1+1)=nxt C (it C b (es.length - 1)):=rfl
 rw[show es.length - 1+1=es.length by lia] at e
 rw[e,hb]
theorem it_ok {C:Cell→Bool}{b:Edge}(h:IsE C b):∀ k,IsE C (it C b k)
 | 0=>h
 | k+1=>zdB (it_ok h k)
def wW (C:Cell→Bool) (b:Edge):Nat→Int
 | 0=>b.w
 | k+1=>wW C b k+tt C (it C b k)
theorem tt_ix {C:Cell→Bool}{e:Edge}(h:IsE C e):∃ i:Nat,i<3∧tt C e=(i:Int) - 1∧(nxt C e).w=(e.w+i+3) % 4:=by
 have hw:=h.1
 rcases ze9 h with⟨a,b⟩ | ⟨a,b⟩ | ⟨a,b⟩
 ·exact⟨0,by decide,by rw[a];rfl,by rw[b]⟩
 ·exact⟨1,by decide,by rw[a];rfl,by rw[b];lia⟩
 ·exact⟨2,by decide,by rw[a];rfl,by rw[b];lia⟩
theorem zdS {C:Cell→Bool}{b:Edge}(h:IsE C b):∀ k,wW C b k % 4=((it C b k).w:Int)
 | 0=>by have:=h.1;show (b.w:Int) % 4=b.w;lia
 | k+1=>by
  have ih:=zdS h k
  obtain⟨i,hi,e1,e2⟩:=tt_ix (it_ok h k)
  show (wW C b k+tt C (it C b k)) % 4=((nxt C (it C b k)).w:Int)
  rw[e1,e2]
  lia
def th (C:Cell→Bool) (b:Edge) (k:Nat):Int:=2*wW C b k - 1+tt C (it C b k)
def up8 (w i:Nat):Bool :=
 let w1:=(w+i+3) % 4
 decide (0<bv w+bv w1 - 1∨(bv w+bv w1 - 1=0∧0≤av w+av w1 - 1)) == decide ((2*(w:Int) - 1+((i:Int) - 1)) % 8<4) &&
 decide (bv w+bv w1 - 1<0∨(bv w+bv w1 - 1=0∧av w+av w1 - 1≤0)) == decide (4≤(2*(w:Int) - 1+((i:Int) - 1)) % 8) &&
 !(decide (av w+av w1 - 1=0∧bv w+bv w1 - 1=0))
theorem zmH:∀ w<4,∀ i<3,up8 w i=true:=by decide
theorem half {C : Cell → Bool}{b : Edge}(h : IsE C b) (k : Nat) :
  ((0<eV (it C b (k+1)) - eV (it C b k)∨(eV (it C b (k+1)) - eV (it C b k)=0∧0≤eU (it C b (k+1)) - eU (it C b k))) ↔ th C b k % 8<4) ∧
  ((eV (it C b (k+1)) - eV (it C b k)<0∨(eV (it C b (k+1)) - eV (it C b k)=0∧eU (it C b (k+1)) - eU (it C b k)≤0)) ↔ 4≤th C b k % 8) ∧
  ¬ (eU (it C b (k+1)) - eU (it C b k)=0∧eV (it C b (k+1)) - eV (it C b k)=0):=by
 obtain⟨i,hi,e1,e2⟩:=tt_ix (it_ok h k)
 obtain⟨s1,s2⟩:=zcn (it_ok h k)
 have q:=zmH _ (it_ok h k).1 i hi
 have m:=zdS h k
 simp only[up8,Bool.and_eq_true,beq_iff_eq,decide_eq_decide,Bool.not_eq_true',decide_eq_false_iff_not] at q
 rw[← e2] at q
 obtain⟨⟨q1,q2⟩,q3⟩:=q
 have t:th C b k % 8=(2*((it C b k).w:Int) - 1+((i:Int) - 1)) % 8:=by unfold th;rw[e1];lia
 rw[t]
 have d1:eU (it C b (k+1)) - eU (it C b k)=av (it C b k).w+av (nxt C (it C b k)).w - 1:=by show eU (nxt C (it C b k)) - _=_;lia
 have d2:eV (it C b (k+1)) - eV (it C b k)=bv (it C b k).w+bv (nxt C (it C b k)).w - 1:=by show eV (nxt C (it C b k)) - _=_;lia
 rw[d1,d2]
 exact⟨q1,q2,q3⟩
theorem sub0 {a b:Int}(h:b - a=0):a=b:=by lia
theorem zhA {a b c:Int}(h:a=b+c):a - b=c:=by lia
theorem turn8 {C : Cell → Bool}{b : Edge}(h : IsE C b) (k : Nat) :
  crs (eU (it C b (k+1)) - eU (it C b k)) (eV (it C b (k+1)) - eV (it C b k)) (eU (it C b (k+2)) - eU (it C b (k+1))) (eV (it C b (k+2)) - eV (it C b (k+1)))=th C b (k+1) / 8 - th C b k / 8 ∧
  crs (-(eU (it C b (k+1)) - eU (it C b k))) (-(eV (it C b (k+1)) - eV (it C b k))) (-(eU (it C b (k+2)) - eU (it C b (k+1)))) (-(eV (it C b (k+2)) - eV (it C b (k+1))))=(th C b (k+1)+4) / 8 - (th C b k+4) / 8:=by
 obtain⟨i,hi,e1,e2⟩:=tt_ix (it_ok h k)
 obtain⟨j,hj,f1,f2⟩:=tt_ix (it_ok h (k+1))
 obtain⟨s1,s2⟩:=zcn (it_ok h k)
 obtain⟨s3,s4⟩:=zcn (it_ok h (k+1))
 have m:=zdS h k
 have q:=all8 _ (it_ok h k).1 i hi j hj
 simp only[ok8,Bool.and_eq_true,beq_iff_eq] at q
 have w1:(it C b (k+1)).w=((it C b k).w+i+3) % 4:=e2
 rw[← w1,← f2] at q
 have wn:wW C b (k+1)=wW C b k+((i:Int) - 1):=by show wW C b k+tt C (it C b k)=_;rw[e1]
 have t0:th C b k=2*wW C b k - 1+((i:Int) - 1):=by unfold th;rw[e1]
 have t1:th C b (k+1)=2*(wW C b k+((i:Int) - 1)) - 1+((j:Int) - 1):=by unfold th;rw[f1,wn]
 have d1:eU (it C b (k+1)) - eU (it C b k)=av (it C b k).w+av (it C b (k+1)).w - 1:=zhA s1
 have d2:eV (it C b (k+1)) - eV (it C b k)=bv (it C b k).w+bv (it C b (k+1)).w - 1:=zhA s2
 have d3:eU (it C b (k+2)) - eU (it C b (k+1))=av (it C b (k+1)).w+av (nxt C (it C b (k+1))).w - 1:=zhA s3
 have d4:eV (it C b (k+2)) - eV (it C b (k+1))=bv (it C b (k+1)).w+bv (nxt C (it C b (k+1))).w - 1:=zhA s4
 rw[d1,d2,d3,d4,t0,t1,q.1,q.2]
 clear q d1 d2 d3 d4 s1 s2 s3 s4 t0 t1 wn w1 f1 f2 e1 e2
 generalize wW C b k=W at *
 generalize (it C b k).w=w at *
 constructor <;> lia
theorem Closed.least_turn {C : Cell → Bool}{b : Edge}{es : List Edge}(h : Closed C b es)
  (hmin:∀ f∈es,eV b≤eV f∧(eV f=eV b→eU b≤eU f)):wW C b es.length - wW C b 0=4∨wW C b es.length - wW C b 0=-4:=by
 have hp:=h.pos
 have hE:IsE C b:=h.1.2.2.1 b (List.mem_of_getElem? h.1.1)
 have hl:=h.it_len
 have get:=h.1.get
 have nd:=h.1.2.2.2
 generalize hn:es.length=n at *
 have mem:∀ k,k<n→it C b k∈es:=fun k hk=>List.mem_of_getElem? (get k hk)
 have inj:∀ i j,i<j→j<n→it C b i≠it C b j:=fun i j hij hj e=>by
  have:=(List.getElem?_inj (i:=i) (j:=j) (by lia) nd).mp (by rw[get i (by lia),get j hj,e])
  lia
 have n3:3≤n:=by
  have h0:=half hE 0
  have h1:=half hE 1
  have l1:=zdS hE 1
  rcases Nat.lt_or_ge n 3 with hlt | hge
  ·exfalso
   have:n=1∨n=2:=by lia
   rcases this with e | e
   ·rw[e] at hl
    have z:=h0.2.2
    rw[show 0+1=1 from rfl,hl] at z
    exact z ⟨by show eU b - eU b=0;lia,by show eV b - eV b=0;lia⟩
   ·rw[e] at hl
    have a:=(tt_ix (it_ok hE 0))
    have c:=(tt_ix (it_ok hE 1))
    obtain⟨s1,s2⟩:=zcn (it_ok hE 0)
    obtain⟨s3,s4⟩:=zcn (it_ok hE 1)
    change it C b (1+1)=b at hl
    have hl':nxt C (it C b 1)=b:=hl
    rw[hl'] at s3 s4
    have i0:it C b 0=b:=rfl
    have i1:nxt C (it C b 0)=it C b 1:=rfl
    obtain⟨i,hi,_,e2⟩:=a
    rw[i1,i0] at s1 s2 e2
    have hw:=hE.1
    have hw1:=(it_ok hE 1).1
    have x1:av b.w+av (it C b 1).w=1:=by lia
    have x2:bv b.w+bv (it C b 1).w=1:=by lia
    rcases way4 hw with r | r | r | r <;> rcases way4 hw1 with r1 | r1 | r1 | r1 <;> rw[r,r1] at x1 x2 e2 <;> simp[av,bv] at x1 x2 <;> lia
  ·exact hge
 have key:=zlg (U:=fun k=>eU (it C b k)) (V:=fun k=>eV (it C b k)) n3
  (fun k=>by
   obtain⟨s1,_⟩:=zcn (it_ok hE k)
   show -1≤eU (nxt C (it C b k)) - eU (it C b k)∧eU (nxt C (it C b k)) - eU (it C b k)≤1
   have a:=zdR (it C b k).w
   have c:=zdR (nxt C (it C b k)).w
   lia)
  (fun k=>by
   obtain⟨_,s1⟩:=zcn (it_ok hE k)
   show -1≤eV (nxt C (it C b k)) - eV (it C b k)∧eV (nxt C (it C b k)) - eV (it C b k)≤1
   have a:bv (it C b k).w=0∨bv (it C b k).w=1:=by unfold bv;split <;> simp
   have c:bv (nxt C (it C b k)).w=0∨bv (nxt C (it C b k)).w=1:=by unfold bv;split <;> simp
   lia)
  (fun i j hij hj hx z=>by
   have e:=e_inj (it_ok hE i) (it_ok hE j) (sub0 z.1) (sub0 z.2)
   rcases Nat.lt_or_ge j n with hlt | hge
   ·exact inj i j hij hlt e
   ·have:j=n:=by lia
    rw[this,hl] at e
    exact inj 0 i (by lia) (by lia) e.symm)
  (fun i j hij hj z=>inj i j hij hj (zjD (it_ok hE i) (it_ok hE j) z.1 z.2))
  (by show eU (it C b n)=eU b;rw[hl]) (by show eV (it C b n)=eV b;rw[hl])
  (fun k hk=>(hmin _ (mem k hk)).1) (fun k hk=>(hmin _ (mem k hk)).2)
 have sE_th:∀ k,sE (fun k=>eU (it C b k)) (fun k=>eV (it C b k)) k=th C b k / 8 - th C b 0 / 8:=by
  intro k
  induction k with
  | zero=>show (0:Int)=_;lia
  | succ k ih =>
   have q:=(turn8 hE k).1
   unfold crs at q
   have e1:eU (it C b (k+1)) - eU (it C b k)+(eU (it C b (k+2)) - eU (it C b (k+1)))=eU (it C b (k+2)) - eU (it C b k):=by lia
   have e2:eV (it C b (k+1)) - eV (it C b k)+(eV (it C b (k+2)) - eV (it C b (k+1)))=eV (it C b (k+2)) - eV (it C b k):=by lia
   rw[e1,e2] at q
   show sE (fun k=>eU (it C b k)) (fun k=>eV (it C b k)) k+hH (fun k=>eU (it C b k)) (fun k=>eV (it C b k)) k (k+1)+gG (fun k=>eU (it C b k)) (fun k=>eV (it C b k)) k (k+2)=_
   rw[ih]
   unfold hH gG
   show th C b k / 8 - th C b 0 / 8+cr (eU (it C b (k+1)) - eU (it C b k)) (eV (it C b (k+1)) - eV (it C b k)) (eU (it C b (k+2)) - eU (it C b k)) (eV (it C b (k+2)) - eV (it C b k))+cr (eU (it C b (k+2)) - eU (it C b k)) (eV (it C b (k+2)) - eV (it C b k)) (eU (it C b (k+2)) - eU (it C b (k+1))) (eV (it C b (k+2)) - eV (it C b (k+1)))=_
   lia
 obtain⟨m,rfl⟩:∃ m,n=m+1:=⟨n - 1,by lia⟩
 rw[show m+1 - 1=m by lia,sE_th] at key
 have i2:it C b (m+2)=it C b 1:=by show nxt C (it C b (m+1))=nxt C b;rw[hl]
 have q:=(turn8 hE m).2
 rw[i2,hl] at q
 unfold crs at q
 unfold gG hH at key
 simp only at key
 rw[hl] at key
 have z0:it C b 0=b:=rfl
 rw[show 0+1=1 from rfl,z0] at key
 have e1:-(eU b - eU (it C b m))+-(eU (it C b 1) - eU b)=eU (it C b m) - eU (it C b 1):=by lia
 have e2:-(eV b - eV (it C b m))+-(eV (it C b 1) - eV b)=eV (it C b m) - eV (it C b 1):=by lia
 have e3:-(eU b - eU (it C b m))=eU (it C b m) - eU b:=by lia
 have e4:-(eV b - eV (it C b m))=eV (it C b m) - eV b:=by lia
 have e5:-(eU (it C b 1) - eU b)=eU b - eU (it C b 1):=by lia
 have e6:-(eV (it C b 1) - eV b)=eV b - eV (it C b 1):=by lia
 rw[e1,e2,e3,e4,e5,e6] at q
 rw[q] at key
 have u0:th C b 0 % 8<4:=by
  refine (half hE 0).1.mp ?_
  obtain⟨a,c⟩:=hmin _ (mem 1 (by lia))
  rw[z0]
  show 0<eV (it C b 1) - eV b∨(eV (it C b 1) - eV b=0∧0≤eU (it C b 1) - eU b)
  lia
 have um:4≤th C b m % 8:=by
  refine (half hE m).2.1.mp ?_
  obtain⟨a,c⟩:=hmin _ (mem m (by lia))
  rw[hl]
  lia
 have md:=zdS hE (m+1)
 rw[hl] at md
 have w0:wW C b 0=(b.w:Int):=rfl
 have wn:wW C b (m+1)=wW C b m+tt C (it C b m):=rfl
 have t0:th C b 0=2*wW C b 0 - 1+tt C b:=rfl
 have tm:th C b m=2*wW C b m - 1+tt C (it C b m):=rfl
 have tn:th C b (m+1)=2*wW C b (m+1) - 1+tt C b:=by unfold th;rw[hl]
 obtain⟨i,hi,r1,_⟩:=tt_ix hE
 obtain⟨j,hj,r2,_⟩:=tt_ix (it_ok hE m)
 lia
theorem Closed.head {C:Cell→Bool}{b a:Edge}{r:List Edge}(h:Closed C b (a::r)):a=b:=by
 have:=h.1.1
 simpa using this
theorem Closed.rot1 {C:Cell→Bool}{b c:Edge}{r:List Edge}(h:Closed C b (b::r)) (hc:(r++[b])[0]?=some c):Closed C c (r++[b]):=by
 obtain⟨⟨h0,hs,hE,hn⟩,l,hl,hb⟩:=id h
 refine⟨⟨hc,fun i e f h1 h2=>?_,fun e he=>hE e (by rcases List.mem_append.mp he with m | m;exact List.mem_cons_of_mem _ m;rw[List.mem_singleton.mp m];exact List.mem_cons_self),?_⟩,?_⟩
 ·have hi:=(List.getElem?_eq_some_iff.mp h2).1
  simp only[List.length_append,List.length_cons,List.length_nil] at hi
  rw[List.getElem?_append_left (by lia)] at h1
  rcases Nat.lt_or_ge (i+1) r.length with q | q
  ·rw[List.getElem?_append_left q] at h2
   exact hs (i+1) e f (by simpa using h1) (by simpa using h2)
  ·have e1:i+1=r.length:=by lia
   rw[List.getElem?_append_right (by lia),e1] at h2
   simp at h2
   have e2:(b::r).length - 1=i+1:=by simp;lia
   rw[e2] at hl
   simp only[List.getElem?_cons_succ] at hl
   rw[hl] at h1
   cases h1
   rw[hb,h2]
 ·rw[List.nodup_append]
  have:=List.nodup_cons.mp hn
  exact⟨this.2,by simp,fun x hx y hy e=>by rw[List.mem_singleton.mp hy] at e;rw[e] at hx;exact this.1 hx⟩
 ·refine⟨b,by simp,?_⟩
  cases r with
  | nil =>
   simp at hl hc
   subst hc
   subst hl
   exact hb
  | cons a r =>
   simp at hc
   have:=hs 0 b a rfl rfl
   rw[← this,hc]
theorem Closed.rot {C:Cell→Bool}:∀ (j:Nat){b e:Edge}{es:List Edge},Closed C b es→es[j]?=some e→Closed C e (es.drop j++es.take j)
 | 0,b,e,es,h,he=>by
  have:=h.1.1
  rw[he] at this
  cases this
  simpa using h
 | j+1,b,e,[],h,he=>by simp at he
 | j+1,b,e,a::r,h,he=>by
  have:=h.head
  subst this
  simp only[List.getElem?_cons_succ] at he
  have hj:=(List.getElem?_eq_some_iff.mp he).1
  obtain⟨c,hc⟩:∃ c,(r++[a])[0]?=some c:=⟨_,List.getElem?_eq_getElem (by simp)⟩
  have h1:=h.rot1 hc
  have h2:=Closed.rot j h1 (by rw[List.getElem?_append_left hj];exact he)
  rw[List.drop_append_of_le_length (by lia),List.take_append_of_le_length (by lia)] at h2
  simpa using h2
theorem ziX {C:Cell→Bool}{b:Edge}{es:List Edge}(h:Chain C b es):∀ i,i≤es.length→((es.take i).map (tt C)).sum=wW C b i - wW C b 0
 | 0,_=>by simp
 | i+1,hi=>by
  have ih:=ziX h i (by lia)
  rw[List.take_succ,h.get i (by lia)]
  simp only[Option.toList_some,List.map_append,List.map_cons,List.map_nil,List.sum_append,List.sum_cons,List.sum_nil]
  rw[ih]
  show _=wW C b i+tt C (it C b i) - wW C b 0
  lia
theorem zc0:∀ (es:List Edge),es≠[]→∃ b∈es,∀ f∈es,eV b≤eV f∧(eV f=eV b→eU b≤eU f)
 | [],h=>absurd rfl h
 | [a],_=>⟨a,by simp,fun f hf=>by rw[List.mem_singleton.mp hf];exact⟨Int.le_refl _,fun _=>Int.le_refl _⟩⟩
 | a::c::r,_=>by
  obtain⟨b,hb,q⟩:=zc0 (c::r) (by simp)
  by_cases hl:eV b<eV a∨(eV b=eV a∧eU b≤eU a)
  ·refine⟨b,List.mem_cons_of_mem _ hb,fun f hf=>?_⟩
   rcases List.mem_cons.mp hf with rfl | hf
   ·lia
   ·exact q f hf
  ·refine⟨a,List.mem_cons_self,fun f hf=>?_⟩
   rcases List.mem_cons.mp hf with rfl | hf
   ·lia
   ·have:=q f hf
    lia
theorem zgU (l:List Int) (j:Nat):(l.drop j++l.take j).sum=l.sum:=by
 have:=List.take_append_drop j l
 rw[List.sum_append]
 conv=>rhs;rw[← this,List.sum_append]
 lia
theorem Closed.turning {C:Cell→Bool}{b:Edge}{es:List Edge}(h:Closed C b es):(es.map (tt C)).sum=4∨(es.map (tt C)).sum=-4:=by
 have hp:=h.pos
 obtain⟨e,he,q⟩:=zc0 es (by intro z;rw[z] at hp;simp at hp)
 obtain⟨j,hj,ej⟩:=List.getElem_of_mem he
 have h1:=h.rot j (by rw[List.getElem?_eq_getElem hj,ej])
 have h2:=h1.least_turn (fun f hf=>q f (by
  rcases List.mem_append.mp hf with m | m
  ·exact List.mem_of_mem_drop m
  ·exact List.mem_of_mem_take m))
 rw[← ziX h1.1 _ (Nat.le_refl _),List.take_length,List.map_append,List.map_drop,List.map_take,zgU] at h2
 exact h2
theorem ze8 (C:Cell→Bool):∀ es:List Edge,(es.map (tt C)).sum=((es.filter fun e=>(stepB C e).isNone).length:Int) - ((es.filter fun e=>slant (stepB C e)).length:Int)
 | []=>rfl
 | e::r=>by
  have ih:=ze8 C r
  have q:tt C e=(if (stepB C e).isNone=true then 1 else 0) - (if slant (stepB C e)=true then 1 else 0):=by
   unfold tt
   cases hs:stepB C e with
   | none=>rfl
   | some s =>
    by_cases h:s % 2=1
    ·simp[slant,h]
    ·have h0:s % 2=0:=by lia
     simp[slant,h0]
  simp only[List.map_cons,List.sum_cons,List.filter_cons]
  rw[q,ih]
  split <;> split <;> (try simp only[List.length_cons]) <;> lia
theorem Closed.least_sign {C : Cell → Bool}{b : Edge}{es : List Edge}(h : Closed C b es)
  (hmin:∀ f∈es,eV b≤eV f∧(eV f=eV b→eU b≤eU f)):(wW C b es.length - wW C b 0=4∧0<tt C (it C b (es.length - 1))+tt C b)∨(wW C b es.length - wW C b 0=-4∧tt C (it C b (es.length - 1))+tt C b<0):=by
 have hp:=h.pos
 have hE:IsE C b:=h.1.2.2.1 b (List.mem_of_getElem? h.1.1)
 have hl:=h.it_len
 have get:=h.1.get
 have nd:=h.1.2.2.2
 generalize hn:es.length=n at *
 have mem:∀ k,k<n→it C b k∈es:=fun k hk=>List.mem_of_getElem? (get k hk)
 have inj:∀ i j,i<j→j<n→it C b i≠it C b j:=fun i j hij hj e=>by
  have:=(List.getElem?_inj (i:=i) (j:=j) (by lia) nd).mp (by rw[get i (by lia),get j hj,e])
  lia
 have n3:3≤n:=by
  have h0:=half hE 0
  have h1:=half hE 1
  have l1:=zdS hE 1
  rcases Nat.lt_or_ge n 3 with hlt | hge
  ·exfalso
   have:n=1∨n=2:=by lia
   rcases this with e | e
   ·rw[e] at hl
    have z:=h0.2.2
    rw[show 0+1=1 from rfl,hl] at z
    exact z ⟨by show eU b - eU b=0;lia,by show eV b - eV b=0;lia⟩
   ·rw[e] at hl
    have a:=(tt_ix (it_ok hE 0))
    have c:=(tt_ix (it_ok hE 1))
    obtain⟨s1,s2⟩:=zcn (it_ok hE 0)
    obtain⟨s3,s4⟩:=zcn (it_ok hE 1)
    change it C b (1+1)=b at hl
    have hl':nxt C (it C b 1)=b:=hl
    rw[hl'] at s3 s4
    have i0:it C b 0=b:=rfl
    have i1:nxt C (it C b 0)=it C b 1:=rfl
    obtain⟨i,hi,_,e2⟩:=a
    rw[i1,i0] at s1 s2 e2
    have hw:=hE.1
    have hw1:=(it_ok hE 1).1
    have x1:av b.w+av (it C b 1).w=1:=by lia
    have x2:bv b.w+bv (it C b 1).w=1:=by lia
    rcases way4 hw with r | r | r | r <;> rcases way4 hw1 with r1 | r1 | r1 | r1 <;> rw[r,r1] at x1 x2 e2 <;> simp[av,bv] at x1 x2 <;> lia
  ·exact hge
 have key:=zlg (U:=fun k=>eU (it C b k)) (V:=fun k=>eV (it C b k)) n3
  (fun k=>by
   obtain⟨s1,_⟩:=zcn (it_ok hE k)
   show -1≤eU (nxt C (it C b k)) - eU (it C b k)∧eU (nxt C (it C b k)) - eU (it C b k)≤1
   have a:=zdR (it C b k).w
   have c:=zdR (nxt C (it C b k)).w
   lia)
  (fun k=>by
   obtain⟨_,s1⟩:=zcn (it_ok hE k)
   show -1≤eV (nxt C (it C b k)) - eV (it C b k)∧eV (nxt C (it C b k)) - eV (it C b k)≤1
   have a:bv (it C b k).w=0∨bv (it C b k).w=1:=by unfold bv;split <;> simp
   have c:bv (nxt C (it C b k)).w=0∨bv (nxt C (it C b k)).w=1:=by unfold bv;split <;> simp
   lia)
  (fun i j hij hj hx z=>by
   have e:=e_inj (it_ok hE i) (it_ok hE j) (sub0 z.1) (sub0 z.2)
   rcases Nat.lt_or_ge j n with hlt | hge
   ·exact inj i j hij hlt e
   ·have:j=n:=by lia
    rw[this,hl] at e
    exact inj 0 i (by lia) (by lia) e.symm)
  (fun i j hij hj z=>inj i j hij hj (zjD (it_ok hE i) (it_ok hE j) z.1 z.2))
  (by show eU (it C b n)=eU b;rw[hl]) (by show eV (it C b n)=eV b;rw[hl])
  (fun k hk=>(hmin _ (mem k hk)).1) (fun k hk=>(hmin _ (mem k hk)).2)
 have sE_th:∀ k,sE (fun k=>eU (it C b k)) (fun k=>eV (it C b k)) k=th C b k / 8 - th C b 0 / 8:=by
  intro k
  induction k with
  | zero=>show (0:Int)=_;lia
  | succ k ih =>
   have q:=(turn8 hE k).1
   unfold crs at q
   have e1:eU (it C b (k+1)) - eU (it C b k)+(eU (it C b (k+2)) - eU (it C b (k+1)))=eU (it C b (k+2)) - eU (it C b k):=by lia
   have e2:eV (it C b (k+1)) - eV (it C b k)+(eV (it C b (k+2)) - eV (it C b (k+1)))=eV (it C b (k+2)) - eV (it C b k):=by lia
   rw[e1,e2] at q
   show sE (fun k=>eU (it C b k)) (fun k=>eV (it C b k)) k+hH (fun k=>eU (it C b k)) (fun k=>eV (it C b k)) k (k+1)+gG (fun k=>eU (it C b k)) (fun k=>eV (it C b k)) k (k+2)=_
   rw[ih]
   unfold hH gG
   show th C b k / 8 - th C b 0 / 8+cr (eU (it C b (k+1)) - eU (it C b k)) (eV (it C b (k+1)) - eV (it C b k)) (eU (it C b (k+2)) - eU (it C b k)) (eV (it C b (k+2)) - eV (it C b k))+cr (eU (it C b (k+2)) - eU (it C b k)) (eV (it C b (k+2)) - eV (it C b k)) (eU (it C b (k+2)) - eU (it C b (k+1))) (eV (it C b (k+2)) - eV (it C b (k+1)))=_
   lia
 obtain⟨m,rfl⟩:∃ m,n=m+1:=⟨n - 1,by lia⟩
 rw[show m+1 - 1=m by lia,sE_th] at key
 have i2:it C b (m+2)=it C b 1:=by show nxt C (it C b (m+1))=nxt C b;rw[hl]
 have q:=(turn8 hE m).2
 rw[i2,hl] at q
 unfold crs at q
 unfold gG hH at key
 simp only at key
 rw[hl] at key
 have z0:it C b 0=b:=rfl
 rw[show 0+1=1 from rfl,z0] at key
 have e1:-(eU b - eU (it C b m))+-(eU (it C b 1) - eU b)=eU (it C b m) - eU (it C b 1):=by lia
 have e2:-(eV b - eV (it C b m))+-(eV (it C b 1) - eV b)=eV (it C b m) - eV (it C b 1):=by lia
 have e3:-(eU b - eU (it C b m))=eU (it C b m) - eU b:=by lia
 have e4:-(eV b - eV (it C b m))=eV (it C b m) - eV b:=by lia
 have e5:-(eU (it C b 1) - eU b)=eU b - eU (it C b 1):=by lia
 have e6:-(eV (it C b 1) - eV b)=eV b - eV (it C b 1):=by lia
 rw[e1,e2,e3,e4,e5,e6] at q
 rw[q] at key
 have u0:th C b 0 % 8<4:=by
  refine (half hE 0).1.mp ?_
  obtain⟨a,c⟩:=hmin _ (mem 1 (by lia))
  rw[z0]
  show 0<eV (it C b 1) - eV b∨(eV (it C b 1) - eV b=0∧0≤eU (it C b 1) - eU b)
  lia
 have um:4≤th C b m % 8:=by
  refine (half hE m).2.1.mp ?_
  obtain⟨a,c⟩:=hmin _ (mem m (by lia))
  rw[hl]
  lia
 have md:=zdS hE (m+1)
 rw[hl] at md
 have w0:wW C b 0=(b.w:Int):=rfl
 have wn:wW C b (m+1)=wW C b m+tt C (it C b m):=rfl
 have t0:th C b 0=2*wW C b 0 - 1+tt C b:=rfl
 have tm:th C b m=2*wW C b m - 1+tt C (it C b m):=rfl
 have tn:th C b (m+1)=2*wW C b (m+1) - 1+tt C b:=by unfold th;rw[hl]
 obtain⟨i,hi,r1,_⟩:=tt_ix hE
 obtain⟨j,hj,r2,_⟩:=tt_ix (it_ok hE m)
 rw[show m+1 - 1=m from rfl]
 lia
theorem Closed.least_way {C : Cell → Bool}{b : Edge}{es : List Edge}(h : Closed C b es)
  (hmin:∀ f∈es,eV b≤eV f∧(eV f=eV b→eU b≤eU f)):(b.w=0∧(es.map (tt C)).sum=4)∨(b.w=2∧(es.map (tt C)).sum=-4):=by
 have hp:=h.pos
 have hE:IsE C b:=h.1.2.2.1 b (List.mem_of_getElem? h.1.1)
 have hl:=h.it_len
 have get:=h.1.get
 have sg:=h.least_sign hmin
 have ts:=ziX h.1 es.length (Nat.le_refl _)
 rw[List.take_length] at ts
 rw[← ts] at sg
 obtain⟨m,hm⟩:∃ m,es.length=m+1:=⟨es.length - 1,by lia⟩
 rw[hm,show m+1 - 1=m from rfl] at sg
 rw[hm] at hl
 have hE':IsE C (it C b m):=it_ok hE m
 have mm:it C b m∈es:=List.mem_of_getElem? (get m (by lia))
 have nb:nxt C (it C b m)=b:=hl
 have hn:nxt C b∈es:=by
  rcases Nat.lt_or_ge 1 es.length with z | z
  ·exact List.mem_of_getElem? (get 1 z)
  ·have:m=0:=by lia
   subst this
   have:nxt C b=b:=nb
   rw[this];exact List.mem_of_getElem? h.1.1
 obtain⟨s1,s2⟩:=zcn hE
 obtain⟨s3,s4⟩:=zcn hE'
 rw[nb] at s3 s4
 obtain⟨i,hi,r1,r1'⟩:=tt_ix hE
 obtain⟨j,hj,r2,r2'⟩:=tt_ix hE'
 rw[nb] at r2'
 have m1:=hmin _ hn
 have m2:=hmin _ mm
 have w0:=hE.1
 have w1:=hE'.1
 have w2:=(zdB hE).1
 generalize (nxt C b).w=x at *
 generalize (it C b m).w=y at *
 generalize tt C (it C b m)=ta at *
 generalize tt C b=tb at *
 generalize b.w=z at *
 rcases way4 w0 with rfl | rfl | rfl | rfl <;> rcases way4 w1 with rfl | rfl | rfl | rfl <;> rcases way4 w2 with rfl | rfl | rfl | rfl <;> simp[av,bv] at s1 s2 s3 s4 <;> lia
theorem Closed.tele {C:Cell→Bool}{b:Edge}{es:List Edge}(h:Closed C b es){G g:Edge→Int}(hg:∀ f∈es,G (nxt C f)=G f+g f):(es.map g).sum=0:=by
 have k:∀ i,i≤es.length→((es.take i).map g).sum=G (it C b i) - G b:=by
  intro i
  induction i with
  | zero=>intro _;simp[it]
  | succ i ih =>
   intro hi
   have h1:=h.1.get i (by lia)
   rw[List.take_succ,h1]
   simp only[Option.toList_some,List.map_append,List.map_cons,List.map_nil,List.sum_append,List.sum_cons,List.sum_nil]
   rw[ih (by lia)]
   have:=hg _ (List.mem_of_getElem? h1)
   have e:it C b (i+1)=nxt C (it C b i):=rfl
   rw[e,this];lia
 have:=k es.length (Nat.le_refl _)
 rw[List.take_length,h.it_len] at this
 lia
theorem sums4 {l:List Edge}{f g u v:Edge→Int}(h:∀ e∈l,f e - g e=u e - v e):(l.map f).sum - (l.map g).sum=(l.map u).sum - (l.map v).sum:=by
 induction l with
 | nil=>simp
 | cons a r ih =>
  have h1:=h a List.mem_cons_self
  have h2:=ih fun e he=>h e (List.mem_cons_of_mem _ he)
  simp only[List.map_cons,List.sum_cons];lia
def ind (es:List Edge) (a:Edge):Int:=if a∈es then 1 else 0
def at1 (a e:Edge):Int:=if e=a then 1 else 0
theorem zdT (a:Edge):∀ {es:List Edge},es.Nodup→(es.map (at1 a)).sum=ind es a
 | [],_=>by simp[ind]
 | e::r,h=>by
  obtain⟨h1,h2⟩:=List.nodup_cons.mp h
  have ih:=zdT a h2
  simp only[List.map_cons,List.sum_cons,ih,ind,at1]
  by_cases z:e=a
  ·subst z
   rw[if_pos rfl,if_neg h1,if_pos List.mem_cons_self];rfl
  ·rw[if_neg z]
   by_cases y:a∈r
   ·rw[if_pos y,if_pos (List.mem_cons_of_mem _ y)];rfl
   ·rw[if_neg y,if_neg]
    ·rfl
    ·intro m
     rcases List.mem_cons.mp m with q | q
     ·exact z q.symm
     ·exact y q
def wc (c:Cell) (e:Edge):Int:=if e.c.2=c.2∧c.1<px e then dy e.w else 0
def wd (es:List Edge) (c:Cell):Int:=(es.map (wc c)).sum
theorem zjT {e:Edge}{x y:Int}{w:Nat}:e=⟨(x,y),w⟩ ↔ e.c.1=x∧e.c.2=y∧e.w=w:=by
 obtain⟨⟨a,b⟩,v⟩:=e
 constructor
 ·intro h;cases h;exact⟨rfl,rfl,rfl⟩
 ·rintro⟨h1,h2,h3⟩;simp only at h1 h2 h3;rw[h1,h2,h3]
theorem ze2 {es:List Edge}(h4:∀ e∈es,e.w<4) (nd:es.Nodup) (x y:Int):wd es (x,y) - wd es (x+1,y)=ind es ⟨(x,y),1⟩ - ind es ⟨(x+1,y),3⟩:=by
 rw[← zdT _ nd,← zdT _ nd]
 refine sums4 fun e he=>?_
 have hw:=h4 e he
 unfold wc at1
 simp only[zjT]
 obtain⟨⟨a,b⟩,v⟩:=e
 simp only at hw
 rcases way4 hw with rfl | rfl | rfl | rfl <;> simp[px,dy] <;> (repeat' split) <;> lia
theorem wd_up {C:Cell→Bool}{b:Edge}{es:List Edge}(h:Closed C b es) (x y:Int):wd es (x,y+1) - wd es (x,y)=ind es ⟨(x,y+1),0⟩ - ind es ⟨(x,y),2⟩:=by
 have hE:=h.1.2.2.1
 have nd:=h.1.2.2.2
 have t:=h.tele (G:=fun e=>if x<px e∧py e=y+1 then (1:Int) else 0)
  (g:=fun e=>(wc (x,y) e - wc (x,y+1) e)+(at1 ⟨(x,y+1),0⟩ e - at1 ⟨(x,y),2⟩ e)) (fun e he=>by
   obtain⟨p,q⟩:=zgg (hE e he)
   have hw:=(hE e he).1
   rw[p,q]
   clear p q
   unfold wc at1
   simp only[zjT]
   obtain⟨⟨a,b⟩,v⟩:=e
   simp only at hw
   rcases way4 hw with rfl | rfl | rfl | rfl <;> simp[px,py,dx,dy] <;> (repeat' split) <;> lia)
 rw[← zdT _ nd,← zdT _ nd]
 have k:∀ l:List Edge,(l.map fun e=>(wc (x,y) e - wc (x,y+1) e)+(at1 ⟨(x,y+1),0⟩ e - at1 ⟨(x,y),2⟩ e)).sum=((l.map (wc (x,y))).sum - (l.map (wc (x,y+1))).sum)+((l.map (at1 ⟨(x,y+1),0⟩)).sum - (l.map (at1 ⟨(x,y),2⟩)).sum):=by
  intro l
  induction l with
  | nil=>simp
  | cons a r ih=>simp only[List.map_cons,List.sum_cons,ih];lia
 rw[k] at t
 unfold wd
 lia
def fac (e:Edge):Edge:=⟨gap e,(e.w+2) % 4⟩
theorem ze4 {C:Cell→Bool}{b:Edge}{es:List Edge}(h:Closed C b es) (e:Edge) (hw:e.w<4):wd es e.c - wd es (gap e)=ind es e - ind es (fac e):=by
 have hE:=h.1.2.2.1
 have nd:=h.1.2.2.2
 have r:=ze2 (fun e he=>(hE e he).1) nd
 have u:=wd_up h
 obtain⟨⟨a,c⟩,v⟩:=e
 simp only at hw
 unfold fac
 rcases way4 hw with rfl | rfl | rfl | rfl <;> simp only[gap,go,mv]
 ·have:=u a (c - 1)
  rw[show c - 1+1=c by lia] at this
  simp;rw[show c+-1=c - 1 by lia];exact this
 ·have:=r a c
  simpa using this
 ·have:=u a c
  simp;lia
 ·have:=r (a - 1) c
  rw[show a - 1+1=a by lia] at this
  simp;rw[show a+-1=a - 1 by lia];lia
theorem zjP {C:Cell→Bool}{b:Edge}{es:List Edge}(h:Closed C b es){e:Edge}(hn:¬ IsE C e):ind es e=0:=by
 unfold ind;rw[if_neg fun m=>hn (h.1.2.2.1 e m)]
theorem zhk {e:Edge}(hw:e.w<4):gap (fac e)=e.c:=by
 obtain⟨⟨a,c⟩,v⟩:=e
 simp only at hw
 unfold fac
 rcases way4 hw with rfl | rfl | rfl | rfl <;> simp[gap,go,mv] <;> lia
theorem ze1 {C:Cell→Bool}{b:Edge}{es:List Edge}(h:Closed C b es) (e:Edge) (hw:e.w<4) (hC:C e.c=C (gap e)):wd es e.c=wd es (gap e):=by
 have k:=ze4 h e hw
 rw[zjP h (e:=e) (fun z=>by have:=z.2.1;have:=z.2.2;simp_all),zjP h (e:=fac e) (fun z=>by
  have h1:=z.2.1;have h2:=z.2.2;rw[zhk hw] at h2
  have h1':C (gap e)=true:=h1
  simp_all)] at k
 lia
theorem zcM {C:Cell→Bool}{b:Edge}{es:List Edge}(h:Closed C b es){e:Edge}(he:IsE C e):wd es e.c=wd es (gap e)+ind es e:=by
 have k:=ze4 h e he.1
 rw[zjP h (e:=fac e) (fun z=>by have h1:C (gap e)=true:=z.2.1;rw[he.2.2] at h1;cases h1)] at k
 lia
inductive Rch (D:Cell→Bool) (S:List Nat) (a:Cell):Cell→Prop where
 | refl:Rch D S a a
 | step {c:Cell} {s:Nat}:Rch D S a c→s∈S→D (go c s)=true→Rch D S a (go c s)
theorem Rch.trans {D:Cell→Bool}{S:List Nat}{a b c:Cell}(h:Rch D S a b) (k:Rch D S b c):Rch D S a c:=by
 induction k with
 | refl=>exact h
 | step _ hs hd ih=>exact .step ih hs hd
theorem Rch.dom {D:Cell→Bool}{S:List Nat}{a b:Cell}(h:Rch D S a b) (ha:D a=true):D b=true:=by
 cases h with
 | refl=>exact ha
 | step _ _ hd=>exact hd
def S8:List Nat:=[0,1,2,3,4,5,6,7]
def S4:List Nat:=[0,2,4,6]
theorem zhW {s:Nat}:s∈S8 ↔ s<8:=by
 unfold S8;simp;lia
theorem zgm {s:Nat}:s∈S4 ↔ ∃ w,w<4∧s=(2*w+6) % 8:=by
 unfold S4
 simp
 constructor
 ·rintro (rfl | rfl | rfl | rfl)
  ·exact⟨1,by decide,by decide⟩
  ·exact⟨2,by decide,by decide⟩
  ·exact⟨3,by decide,by decide⟩
  ·exact⟨0,by decide,by decide⟩
 ·rintro⟨w,hw,rfl⟩
  rcases way4 hw with rfl | rfl | rfl | rfl <;> decide
theorem Closed.mem_nxt {C:Cell→Bool}{b e:Edge}{es:List Edge}(h:Closed C b es) (he:e∈es):nxt C e∈es:=by
 obtain⟨⟨h0,hs,_,_⟩,l,hl,hb⟩:=h
 obtain⟨i,hi,ei⟩:=List.getElem_of_mem he
 rcases Nat.lt_or_ge (i+1) es.length with z | z
 ·have:=hs i e es[i+1] (by rw[List.getElem?_eq_getElem hi,ei]) (List.getElem?_eq_getElem z)
  rw[← this];exact List.getElem_mem _
 ·have hi':i=es.length - 1:=by lia
  have:some e=some l:=by rw[← hl,← hi',List.getElem?_eq_getElem hi,ei]
  cases this
  rw[hb];exact List.mem_of_getElem? h0
theorem Closed.nxt_mem {C:Cell→Bool}{b e:Edge}{es:List Edge}(h:Closed C b es) (hE:IsE C e) (he:nxt C e∈es):e∈es:=by
 obtain⟨⟨h0,hs,hE',_⟩,l,hl,hb⟩:=h
 obtain⟨i,hi,ei⟩:=List.getElem_of_mem he
 cases i with
 | zero =>
  have:some (nxt C e)=some b:=by rw[← h0,List.getElem?_eq_getElem hi,ei]
  cases this
  have lm:=List.mem_of_getElem? hl
  rw[zd8 hE (hE' l lm) hb.symm];exact lm
 | succ i =>
  have m:es[i]∈es:=List.getElem_mem (by lia)
  have:=hs i es[i] _ (List.getElem?_eq_getElem (by lia)) (by rw[List.getElem?_eq_getElem hi,ei])
  rw[zd8 hE (hE' _ m) this];exact m
theorem Closed.ind_nxt {C:Cell→Bool}{b e:Edge}{es:List Edge}(h:Closed C b es) (hE:IsE C e):ind es (nxt C e)=ind es e:=by
 unfold ind
 by_cases z:e∈es
 ·rw[if_pos z,if_pos (h.mem_nxt z)]
 ·rw[if_neg z,if_neg fun m=>z (h.nxt_mem hE m)]
theorem zkp {C:Cell→Bool}{b:Edge}{es:List Edge}(h:Closed C b es){c:Cell}{w:Nat}(hw:w<4) (hc:C c=true) (hd:C (go c ((2*w+7) % 8))=true):wd es c=wd es (go c ((2*w+7) % 8)):=by
 have g1:gap ⟨go c ((2*w+7) % 8),(w+3) % 4⟩=gap ⟨c,w⟩:=by
  unfold gap;simp only;rw[go_go (f1 w hw)]
 have hw3:(w+3) % 4<4:=Nat.mod_lt _ (by decide)
 by_cases hg:C (gap ⟨c,w⟩)=true
 ·have a:=ze1 h ⟨c,w⟩ hw (by rw[hg];exact hc)
  have d:=ze1 h ⟨go c ((2*w+7) % 8),(w+3) % 4⟩ hw3 (by rw[g1,hg];exact hd)
  rw[g1] at d
  exact a.trans d.symm
 ·have hg':C (gap ⟨c,w⟩)=false:=by simpa using hg
  have hE:IsE C ⟨c,w⟩:=⟨hw,hc,hg'⟩
  rcases za4 hE with⟨_,_,q⟩ | ⟨z,_⟩ | ⟨z,_⟩
  ·have a:=zcM h hE
   have hn:=zdB hE
   have i:=h.ind_nxt hE
   have d:=zcM h hn
   rw[i] at d
   rw[q] at d
   simp only at a d
   rw[g1] at d
   exact a.trans d.symm
  ·simp only at z;rw[hd] at z;cases z
  ·simp only at z;rw[hd] at z;cases z
theorem zlS {s:Nat}(h:s<8) (ho:s % 2=1):∃ w,w<4∧s=(2*w+7) % 8:=⟨(s+1) / 2 % 4,Nat.mod_lt _ (by decide),by lia⟩
theorem zkT {s:Nat}(h:s<8) (ho:s % 2=0):∃ w,w<4∧s=(2*w+6) % 8:=⟨(s / 2+1) % 4,Nat.mod_lt _ (by decide),by lia⟩
theorem zdL {C:Cell→Bool}{b:Edge}{es:List Edge}(h:Closed C b es){a c:Cell}(hc:Rch C S8 a c) (ha:C a=true):wd es c=wd es a:=by
 induction hc with
 | refl=>rfl
 | @step c s k hs hd ih =>
  have hc:=k.dom ha
  have h8:=zhW.mp hs
  rw[← ih]
  rcases Nat.mod_two_eq_zero_or_one s with z | z
  ·obtain⟨w,hw,rfl⟩:=zkT h8 z
   exact (ze1 h ⟨c,w⟩ hw (hc.trans hd.symm)).symm
  ·obtain⟨w,hw,rfl⟩:=zlS h8 z
   exact (zkp h hw hc hd).symm
abbrev no (C:Cell→Bool):Cell→Bool:=fun c=>!C c
theorem ziN {C:Cell→Bool}{b:Edge}{es:List Edge}(h:Closed C b es){a c:Cell}(hc:Rch (no C) S4 a c) (ha:C a=false):wd es c=wd es a:=by
 induction hc with
 | refl=>rfl
 | @step c s k hs hd ih =>
  have hc:=k.dom (by simp[no,ha])
  simp only[no,Bool.not_eq_true'] at hc hd
  obtain⟨w,hw,rfl⟩:=zgm.mp hs
  rw[← ih]
  exact (ze1 h ⟨c,w⟩ hw (hc.trans hd.symm)).symm
theorem zkN {C:Cell→Bool}{e:Edge}(h:IsE C e):Rch C S8 e.c (nxt C e).c:=by
 have hw:=h.1
 rcases za4 h with⟨h1,_,q⟩ | ⟨h1,h2,_,q⟩ | ⟨h1,h2,_,q⟩ <;> rw[q]
 ·exact .step .refl (zhW.mpr (Nat.mod_lt _ (by decide))) h1
 ·exact .step .refl (zhW.mpr (by lia)) h2
 ·exact .refl
theorem f9:∀ w<4,mvAdd ((2*w+6) % 8) (2*w) ((2*w+7) % 8)=true:=by decide
theorem f10:∀ w<4,mvAdd ((2*w+7) % 8) ((2*w+2) % 8) (2*w)=true:=by decide
theorem zlT {C:Cell→Bool}{e:Edge}(h:IsE C e):Rch (no C) S4 (gap e) (gap (nxt C e)):=by
 have hw:=h.1
 have s0:2*e.w∈S4:=zgm.mpr ⟨(e.w+1) % 4,Nat.mod_lt _ (by decide),by lia⟩
 have s2:(2*e.w+2) % 8∈S4:=zgm.mpr ⟨(e.w+2) % 4,Nat.mod_lt _ (by decide),by lia⟩
 rcases za4 h with⟨h1,_,q⟩ | ⟨h1,h2,_,q⟩ | ⟨h1,h2,_,q⟩ <;> rw[q]
 ·have:gap ⟨go e.c ((2*e.w+7) % 8),(e.w+3) % 4⟩=gap e:=by unfold gap;simp only;rw[go_go (f1 _ hw)]
  rw[this];exact .refl
 ·have e1:gap ⟨go e.c (2*e.w),e.w⟩=go (gap e) (2*e.w):=by unfold gap;simp only;rw[go_go (f2 _ hw),go_go (f9 _ hw)]
  rw[e1]
  refine .step .refl s0 ?_
  unfold gap;rw[go_go (f9 _ hw)];simp[no,h1]
 ·have e1 : gap ⟨e.c, (e.w + 1) % 4⟩ = go (go (gap e) (2 * e.w)) ((2 * e.w + 2) % 8) := by
   unfold gap;simp only;rw[f3 _ hw,go_go (f9 _ hw),go_go (f10 _ hw)]
  rw[e1]
  refine .step (.step .refl s0 ?_) s2 ?_
  ·unfold gap;rw[go_go (f9 _ hw)];simp[no,h1]
  ·unfold gap;rw[go_go (f9 _ hw),go_go (f10 _ hw)];simp[no,h2]
theorem Closed.reach {C:Cell→Bool}{b:Edge}{es:List Edge}(h:Closed C b es):∀ e∈es,Rch C S8 b.c e.c∧Rch (no C) S4 (gap b) (gap e):=by
 have hE:IsE C b:=h.1.2.2.1 b (List.mem_of_getElem? h.1.1)
 have k:∀ i,Rch C S8 b.c (it C b i).c∧Rch (no C) S4 (gap b) (gap (it C b i)):=by
  intro i
  induction i with
  | zero=>exact⟨.refl,.refl⟩
  | succ i ih=>exact⟨ih.1.trans (zkN (it_ok hE i)),ih.2.trans (zlT (it_ok hE i))⟩
 intro e he
 obtain⟨i,hi,ei⟩:=List.getElem_of_mem he
 have:=h.1.get i hi
 rw[List.getElem?_eq_getElem hi,ei] at this
 cases this
 exact k i
theorem Closed.from {C:Cell→Bool}{b e:Edge}{es:List Edge}(h:Closed C b es) (he:e∈es):∃ fs,Closed C e fs∧(∀ f,f∈fs ↔ f∈es)∧(fs.map (tt C)).sum=(es.map (tt C)).sum∧∀ c,wd fs c=wd es c:=by
 obtain⟨j,hj,ej⟩:=List.getElem_of_mem he
 have h1:=h.rot j (by rw[List.getElem?_eq_getElem hj,ej])
 refine⟨_,h1,fun f=>?_,?_,fun c=>?_⟩
 ·constructor
  ·intro hf
   rcases List.mem_append.mp hf with m | m
   ·exact List.mem_of_mem_drop m
   ·exact List.mem_of_mem_take m
  ·intro hf
   rw[← List.take_append_drop j es] at hf
   rcases List.mem_append.mp hf with m | m
   ·exact List.mem_append_right _ m
   ·exact List.mem_append_left _ m
 ·rw[List.map_append,List.map_drop,List.map_take,zgU]
 ·unfold wd
  rw[List.map_append,List.map_drop,List.map_take,zgU]
theorem zdi {es:List Edge}{c:Cell}(h:∀ e∈es,e.w=1∨e.w=3→¬ (e.c.2=c.2∧c.1<px e)):wd es c=0:=by
 unfold wd
 induction es with
 | nil=>rfl
 | cons a r ih =>
  have ih':=ih fun e he=>h e (List.mem_cons_of_mem _ he)
  have h1:=h a List.mem_cons_self
  simp only[List.map_cons,List.sum_cons,ih']
  unfold wc dy
  split
  ·rename_i q
   split
   ·rename_i w1;exact absurd q (h1 (.inl w1))
   ·split
    ·rename_i w3;exact absurd q (h1 (.inr w3))
    ·rfl
  ·rfl
theorem Closed.inside {C : Cell → Bool}{b : Edge}{es : List Edge}(h : Closed C b es) :
  ((es.map (tt C)).sum=4∧∀ e∈es,wd es e.c=1∧wd es (gap e)=0)∨((es.map (tt C)).sum=-4∧∀ e∈es,wd es e.c=0∧wd es (gap e)=-1):=by
 have hp:=h.pos
 obtain⟨a,ha,q⟩:=zc0 es (by intro z;rw[z] at hp;simp at hp)
 obtain⟨fs,h1,hm,hs,hv⟩:=h.from ha
 have lw:=h1.least_way fun f hf=>q f ((hm f).mp hf)
 rw[hs] at lw
 have hE:IsE C a:=h.1.2.2.1 a ha
 have all:∀ {u v:Int},wd es a.c=u→wd es (gap a)=v→∀ e∈es,wd es e.c=u∧wd es (gap e)=v:=fun hu hv e he=>by
  obtain⟨r1,r2⟩:=h1.reach e ((hm e).mpr he)
  exact⟨(zdL h r1 hE.2.1).trans hu,(ziN h r2 hE.2.2).trans hv⟩
 have cr:=zcM h hE
 have i1:ind es a=1:=by unfold ind;rw[if_pos ha]
 rw[i1] at cr
 rcases lw with⟨w,s⟩ | ⟨w,s⟩
 ·left
  have z:wd es (gap a)=0:=zdi fun e he hw ⟨k1,k2⟩=>by
   have:=(q e he).1
   obtain⟨⟨x,y⟩,v⟩:=a
   simp only at w
   subst w
   obtain⟨⟨x',y'⟩,v'⟩:=e
   simp only at hw
   rcases hw with rfl | rfl <;> simp[gap,go,mv,px,py,eV,bv] at this k1 k2 <;> lia
  exact⟨s,all (by lia) z⟩
 ·right
  have z:wd es a.c=0:=zdi fun e he hw ⟨k1,k2⟩=>by
   have:=(q e he).1
   obtain⟨⟨x,y⟩,v⟩:=a
   simp only at w
   subst w
   obtain⟨⟨x',y'⟩,v'⟩:=e
   simp only at hw
   rcases hw with rfl | rfl <;> simp[px,py,eV,bv] at this k1 k2 <;> lia
  exact⟨s,all z (by lia)⟩
def cLe (c d:Cell):Prop:=c.2<d.2∨(c.2=d.2∧c.1≤d.1)
theorem cLe.refl (c:Cell):cLe c c:=.inr ⟨rfl,Int.le_refl _⟩
theorem cLe.trans {a b c:Cell}(h:cLe a b) (k:cLe b c):cLe a c:=by unfold cLe at *;lia
theorem cLe.total (a b:Cell):cLe a b∨cLe b a:=by unfold cLe;lia
theorem zdC (P:Cell→Prop):∀ (cs:List Cell),(∃ c∈cs,P c)→∃ c∈cs,P c∧∀ d∈cs,P d→cLe c d
 | [],h=>by obtain⟨c,hc,_⟩:=h;cases hc
 | a::r,h=>by
  by_cases hr:∃ c∈r,P c
  ·obtain⟨c,hc,pc,k⟩:=zdC P r hr
   by_cases pa:P a
   ·rcases cLe.total a c with z | z
    ·refine⟨a,List.mem_cons_self,pa,fun d hd pd=>?_⟩
     rcases List.mem_cons.mp hd with rfl | hd
     ·exact .refl _
     ·exact z.trans (k d hd pd)
    ·refine⟨c,List.mem_cons_of_mem _ hc,pc,fun d hd pd=>?_⟩
     rcases List.mem_cons.mp hd with rfl | hd
     ·exact z
     ·exact k d hd pd
   ·refine⟨c,List.mem_cons_of_mem _ hc,pc,fun d hd pd=>?_⟩
    rcases List.mem_cons.mp hd with rfl | hd
    ·exact absurd pd pa
    ·exact k d hd pd
  ·obtain⟨c,hc,pc⟩:=h
   rcases List.mem_cons.mp hc with rfl | hc
   ·refine⟨c,List.mem_cons_self,pc,fun d hd pd=>?_⟩
    rcases List.mem_cons.mp hd with rfl | hd
    ·exact .refl _
    ·exact absurd ⟨d,hd,pd⟩ hr
   ·exact absurd ⟨c,hc,pc⟩ hr
theorem gap2 (c:Cell):gap ⟨c,2⟩=(c.1,c.2+1):=by simp[gap,go,mv]
theorem zlz {C:Cell→Bool}{b:Edge}{es:List Edge}(h:Closed C b es){c:Cell}(hl:∀ e∈es,e.w=1∨e.w=3→e.c.2=c.2→c.1<px e):wd es c=0:=by
 have t:=h.tele (G:=fun e=>if c.2<py e then (1:Int) else 0) (g:=wc c) (fun e he=>by
  obtain⟨_,q⟩:=zgg (h.1.2.2.1 e he)
  have hw:=(h.1.2.2.1 e he).1
  have hl':=hl e he
  rw[q]
  unfold wc
  obtain⟨⟨x,y⟩,v⟩:=e
  simp only at hw
  rcases way4 hw with rfl | rfl | rfl | rfl <;> simp[px,py,dy] at hl' ⊢ <;> (repeat' split) <;> lia)
 exact t
theorem ziO {C:Cell→Bool}{b:Edge}{es:List Edge}(h:Closed C b es){c:Cell}(hz:wd es c≠0):∃ e∈es,∃ f∈es,e.c.2=c.2∧f.c.2=c.2∧px e≤c.1∧c.1<px f∧(e.w=1∨e.w=3)∧(f.w=1∨f.w=3):=by
 apply Classical.byContradiction
 intro hn
 by_cases k:∃ f∈es,f.c.2=c.2∧c.1<px f∧(f.w=1∨f.w=3)
 ·obtain⟨f,hf,k1,k2,k3⟩:=k
  apply hz
  refine zlz h fun e he hw hr=>?_
  rcases Int.lt_or_le c.1 (px e) with z | z
  ·exact z
  ·exact absurd ⟨e,he,f,hf,hr,k1,z,k2,hw,k3⟩ hn
 ·apply hz
  exact zdi fun e he hw ⟨k1,k2⟩=>k ⟨e,he,k1,k2,hw⟩
def boxE (es:List Edge):List Cell:=es.flatMap fun e=>es.flatMap fun f=>(List.range (px f - px e).toNat).map fun i:Nat=>(px e+(i:Int),e.c.2)
theorem zkO {C:Cell→Bool}{b:Edge}{es:List Edge}(h:Closed C b es){c:Cell}(hz:wd es c≠0):c∈boxE es:=by
 obtain⟨e,he,f,hf,r1,r2,l1,l2,_⟩:=ziO h hz
 refine List.mem_flatMap.mpr ⟨e,he,List.mem_flatMap.mpr ⟨f,hf,List.mem_map.mpr ⟨(c.1 - px e).toNat,List.mem_range.mpr (by lia),?_⟩⟩⟩
 exact Prod.ext (by show px e+((c.1 - px e).toNat:Int)=c.1;lia) r1
theorem zmB (c:Cell){s:Nat}(h:s<8):go (go c s) ((s+4) % 8)=c:=by
 have:∀ s<8,mvNil s ((s+4) % 8)=true:=by decide
 exact zhj (this s h)
theorem Rch.symm {D:Cell→Bool}{S:List Nat}(hS:∀ s∈S,s<8∧(s+4) % 8∈S){a c:Cell}(h:Rch D S a c) (ha:D a=true):Rch D S c a:=by
 induction h with
 | refl=>exact .refl
 | @step c s k hs hd ih =>
  obtain⟨h1,h2⟩:=hS s hs
  have e:=zmB c h1
  have:Rch D S (go c s) c:=by
   have:=Rch.step (D:=D) (S:=S) (a:=go c s) .refl h2 (by rw[e];exact k.dom ha)
   rw[e] at this;exact this
  exact this.trans ih
theorem zfI:∀ s∈S4,s<8∧(s+4) % 8∈S4:=by decide
theorem Rch.mono {D D':Cell→Bool}{S:List Nat}{a c:Cell}(h:Rch D S a c) (hD:∀ x,D x=true→D' x=true):Rch D' S a c:=by
 induction h with
 | refl=>exact .refl
 | step _ hs hd ih=>exact .step ih hs (hD _ hd)
theorem zkM {C D:Cell→Bool}{e:Edge}(h:IsE C e) (hD:∀ s,s<8→C (go e.c s)=false→D (go e.c s)=true):Rch D S4 (gap e) (gap (nxt C e)):=by
 have hw:=h.1
 have s0:2*e.w∈S4:=zgm.mpr ⟨(e.w+1) % 4,Nat.mod_lt _ (by decide),by lia⟩
 have s2:(2*e.w+2) % 8∈S4:=zgm.mpr ⟨(e.w+2) % 4,Nat.mod_lt _ (by decide),by lia⟩
 rcases za4 h with⟨h1,_,q⟩ | ⟨h1,h2,_,q⟩ | ⟨h1,h2,_,q⟩ <;> rw[q]
 ·have:gap ⟨go e.c ((2*e.w+7) % 8),(e.w+3) % 4⟩=gap e:=by unfold gap;simp only;rw[go_go (f1 _ hw)]
  rw[this];exact .refl
 ·have e1:gap ⟨go e.c (2*e.w),e.w⟩=go (gap e) (2*e.w):=by unfold gap;simp only;rw[go_go (f2 _ hw),go_go (f9 _ hw)]
  rw[e1]
  refine .step .refl s0 ?_
  unfold gap;rw[go_go (f9 _ hw)];exact hD _ (Nat.mod_lt _ (by decide)) h1
 ·have e1 : gap ⟨e.c, (e.w + 1) % 4⟩ = go (go (gap e) (2 * e.w)) ((2 * e.w + 2) % 8) := by
   unfold gap;simp only;rw[f3 _ hw,go_go (f9 _ hw),go_go (f10 _ hw)]
  rw[e1]
  refine .step (.step .refl s0 ?_) s2 ?_
  ·unfold gap;rw[go_go (f9 _ hw)];exact hD _ (Nat.mod_lt _ (by decide)) h1
  ·unfold gap;rw[go_go (f9 _ hw),go_go (f10 _ hw)];exact hD _ (by lia) h2
theorem Closed.reachD {C D:Cell→Bool}{b:Edge}{es:List Edge}(h:Closed C b es) (hD:∀ e∈es,∀ s,s<8→C (go e.c s)=false→D (go e.c s)=true):∀ e∈es,Rch D S4 (gap b) (gap e):=by
 have get:=h.1.get
 have k:∀ i,i<es.length→Rch D S4 (gap b) (gap (it C b i)):=by
  intro i
  induction i with
  | zero=>intro _;exact .refl
  | succ i ih =>
   intro hi
   have m:=List.mem_of_getElem? (get i (by lia))
   exact (ih (by lia)).trans (zkM (h.1.2.2.1 _ m) (hD _ m))
 intro e he
 obtain⟨i,hi,ei⟩:=List.getElem_of_mem he
 have:=get i hi
 rw[List.getElem?_eq_getElem hi,ei] at this
 cases this
 exact k i hi
theorem Closed.piece {C:Cell→Bool}{b:Edge}{es:List Edge}(h:Closed C b es){P:List Cell}(hP:∀ c,c∈P ↔ Rch C S8 b.c c):Closed (isIn P) b es∧(es.map (tt (isIn P))).sum=(es.map (tt C)).sum:=by
 have hE:=h.1.2.2.1
 have hb:C b.c=true:=(hE b (List.mem_of_getElem? h.1.1)).2.1
 have inP:∀ e∈es,e.c∈P:=fun e he=>(hP _).mpr (h.reach e he).1
 have near:∀ e∈es,∀ s,s<8→isIn P (go e.c s)=C (go e.c s):=fun e he s hs=>by
  have r:=(hP _).mp (inP e he)
  cases z:C (go e.c s) with
  | true=>exact decide_eq_true ((hP _).mpr (.step r (zhW.mpr hs) z))
  | false =>
   refine decide_eq_false fun m=>?_
   have:=((hP _).mp m).dom hb
   rw[z] at this;cases this
 have st:∀ e∈es,stepB (isIn P) e=stepB C e:=fun e he=>by
  unfold stepB
  rw[near e he _ (Nat.mod_lt _ (by decide)),near e he _ (by have:=(hE e he).1;lia)]
 have nx:∀ e∈es,nxt (isIn P) e=nxt C e:=fun e he=>by unfold nxt;rw[st e he]
 obtain⟨⟨h0,hs,_,nd⟩,l,hl,hlb⟩:=h
 refine⟨⟨⟨h0,fun i e f h1 h2=>by rw[nx e (List.mem_of_getElem? h1)];exact hs i e f h1 h2,fun e he=>⟨(hE e he).1,decide_eq_true (inP e he),?_⟩,nd⟩,l,hl,by rw[nx l (List.mem_of_getElem? hl)];exact hlb⟩,?_⟩
 ·unfold gap
  rw[near e he _ (Nat.mod_lt _ (by decide))];exact (hE e he).2.2
 ·congr 1
  apply List.map_congr_left
  intro e he
  unfold tt;rw[st e he]
structure BoxOf (P:List Cell) (l lo r hi:Int):Prop where
 all:∀ c∈P,l<c.1∧c.1<r∧lo<c.2∧c.2<hi
 bot:∃ c∈P,c.2=lo+1
def inBox (l lo r hi:Int) (c:Cell):Prop:=l≤c.1∧c.1≤r∧lo≤c.2∧c.2≤hi
theorem BoxOf.near {P:List Cell}{l lo r hi:Int}(h:BoxOf P l lo r hi){c:Cell}(hc:c∈P) (s:Nat):inBox l lo r hi (go c s):=by
 have:=h.all c hc
 have h1:-1≤(mv s).1∧(mv s).1≤1∧-1≤(mv s).2∧(mv s).2≤1:=by
  rcases Nat.lt_or_ge s 8 with z | z
  ·have:∀ s<8,-1≤(mv s).1∧(mv s).1≤1∧-1≤(mv s).2∧(mv s).2≤1:=by decide
   exact this s z
  ·unfold mv;rw[List.getD_eq_getElem?_getD,List.getElem?_eq_none (by simpa using z)];decide
 unfold inBox go
 simp only
 lia
theorem wd_in {C:Cell→Bool}{b:Edge}{es:List Edge}(h:Closed C b es){P:List Cell}(hP:∀ e∈es,e.c∈P){l lo r hi:Int}(hb:BoxOf P l lo r hi){c:Cell}(hz:wd es c≠0):l≤c.1∧c.1≤r∧lo<c.2∧c.2<hi:=by
 obtain⟨e,he,f,hf,r1,r2,l1,l2,w1,w2⟩:=ziO h hz
 have a1:=hb.all _ (hP e he)
 have a2:=hb.all _ (hP f hf)
 unfold px at l1 l2
 split at l1 <;> split at l2 <;> lia
structure FreeOf (D:Cell→Bool) (P:List Cell) (l lo r hi:Int):Prop where
 iff:∀ c,D c=true ↔ (inBox l lo r hi c∧c ∉ P)
theorem go6 (g:Cell):go g 6=(g.1,g.2 - 1):=by simp[go,mv];lia
section
variable {C D:Cell→Bool}{b:Edge}{es:List Edge}{P:List Cell}{l lo r hi:Int}
theorem zed {L : List Cell}(hF : FreeOf D P l lo r hi){a : Cell}(ha : D a = true) (hl : ∀ d, Rch D S4 a d → d ∈ L) (hlo : ∀ d, Rch D S4 a d → lo < d.2) :
  ∃ h,Rch D S4 a h∧(h.1,h.2 - 1)∈P:=by
 obtain⟨h,_,rh,kh⟩:=zdC (fun d=>Rch D S4 a d) L ⟨a,hl a .refl,.refl⟩
 refine⟨h,rh,?_⟩
 apply Classical.byContradiction
 intro hn
 have hD:=rh.dom ha
 obtain⟨⟨i1,i2,i3,i4⟩,_⟩:=(hF.iff h).mp hD
 have hl':=hlo h rh
 have e6:=go6 h
 have rr:Rch D S4 a (go h 6):=.step rh (by decide) (by rw[e6];exact (hF.iff _).mpr ⟨⟨by simpa using i1,by simpa using i2,by simp only;lia,by simp only;lia⟩,hn⟩)
 have:=kh _ (hl _ rr) rr
 rw[e6] at this
 simp[cLe] at this
 lia
theorem ze3 (h:Closed C b es) (hP:∀ c,c∈P ↔ Rch C S8 b.c c) (hF:FreeOf D P l lo r hi){a c:Cell}(hc:Rch D S4 a c) (ha:D a=true):wd es c=wd es a:=by
 obtain⟨h1,_⟩:=h.piece hP
 refine ziN h1 (hc.mono fun x hx=>?_) ?_
 ·have:=((hF.iff x).mp hx).2
  simp[no,isIn,this]
 ·exact decide_eq_false ((hF.iff a).mp ha).2
theorem zgt (h:Closed C b es) (hP:∀ c,c∈P ↔ Rch C S8 b.c c) (hB:BoxOf P l lo r hi) (hF:FreeOf D P l lo r hi):∀ e∈es,Rch D S4 (gap b) (gap e)∧D (gap e)=true:=by
 obtain⟨h1,_⟩:=h.piece hP
 have inP:∀ e∈es,e.c∈P:=fun e he=>(hP _).mpr (h.reach e he).1
 intro e he
 refine⟨h1.reachD (fun e he s hs hn=>(hF.iff _).mpr ⟨hB.near (inP e he) s,of_decide_eq_false hn⟩) e he,(hF.iff _).mpr ⟨hB.near (inP e he) _,of_decide_eq_false (h1.1.2.2.1 e he).2.2⟩⟩
theorem zkQ (h:Closed C b es) (hs:(es.map (tt C)).sum=-4) (hP:∀ c,c∈P ↔ Rch C S8 b.c c) (hB:BoxOf P l lo r hi) (hF:FreeOf D P l lo r hi) (c:Cell):Rch D S4 (gap b) c ↔ wd es c=-1:=by
 have bm:b∈es:=List.mem_of_getElem? h.1.1
 have inP:∀ e∈es,e.c∈P:=fun e he=>(hP _).mpr (h.reach e he).1
 have hbC:C b.c=true:=(h.1.2.2.1 b bm).2.1
 have ins:∀ e∈es,wd es e.c=0∧wd es (gap e)=-1:=by
  rcases h.inside with⟨s,_⟩ | ⟨_,k⟩
  ·lia
  ·exact k
 have fg:=zgt h hP hB hF
 constructor
 ·intro hc
  rw[ze3 h hP hF hc (fg b bm).2];exact (ins b bm).2
 ·intro hc
  have hz:wd es c≠0:=by rw[hc];decide
  have pz:∀ x∈P,wd es x=0:=fun x hx=>(zdL h ((hP x).mp hx) hbC).trans (ins b bm).1
  have cD:D c=true:=by
   have:=wd_in h inP hB hz
   exact (hF.iff c).mpr ⟨⟨by lia,by lia,by lia,by lia⟩,fun m=>hz (pz c m)⟩
  have lots:∀ d,Rch D S4 c d→wd es d=-1:=fun d hd=>(ze3 h hP hF hd cD).trans hc
  obtain⟨g,rg,hg⟩:=zed (L:=boxE es) hF cD (fun d hd=>zkO h (by rw[lots d hd];decide)) (fun d hd=>(wd_in h inP hB (by rw[lots d hd];decide)).2.2.1)
  obtain⟨h1,_⟩:=h.piece hP
  have gD:=rg.dom cD
  have gp:gap ⟨(g.1,g.2 - 1),2⟩=g:=by rw[gap2];exact Prod.ext rfl (by simp)
  have eE:IsE (isIn P) ⟨(g.1,g.2 - 1),2⟩:=⟨(by show (2:Nat)<4;decide),decide_eq_true hg,by rw[gp];exact decide_eq_false ((hF.iff g).mp gD).2⟩
  have cr:=zcM h1 eE
  rw[gp,lots g rg,pz _ hg] at cr
  have me:⟨(g.1,g.2 - 1),2⟩∈es:=by
   unfold ind at cr
   by_cases z:⟨(g.1,g.2 - 1),2⟩∈es
   ·exact z
   ·rw[if_neg z] at cr;lia
  have:=(fg _ me).1
  rw[gp] at this
  exact this.trans (rg.symm zfI cD)
theorem zjf (h:Closed C b es) (hs:(es.map (tt C)).sum=4) (hP:∀ c,c∈P ↔ Rch C S8 b.c c) (hB:BoxOf P l lo r hi) (hF:FreeOf D P l lo r hi){c:Cell}(hc:D c=true):Rch D S4 (l,lo) c ↔ wd es c=0:=by
 have bm:b∈es:=List.mem_of_getElem? h.1.1
 have inP:∀ e∈es,e.c∈P:=fun e he=>(hP _).mpr (h.reach e he).1
 have hbC:C b.c=true:=(h.1.2.2.1 b bm).2.1
 have ins:∀ e∈es,wd es e.c=1∧wd es (gap e)=0:=by
  rcases h.inside with⟨_,k⟩ | ⟨s,_⟩
  ·exact k
  ·lia
 have fg:=zgt h hP hB hF
 have bx:=hB.all _ (inP b bm)
 have cornerP:∀ x,(x,lo) ∉ P:=fun x m=>by have:=hB.all _ m;simp only at this;lia
 have cD:D (l,lo)=true:=(hF.iff _).mpr ⟨⟨by simp,by simp only;lia,by simp,by simp only;lia⟩,cornerP l⟩
 have wlow:∀ x,wd es (x,lo)=0:=fun x=>zdi fun e he _ ⟨k1,_⟩=>by have:=hB.all _ (inP e he);simp only at k1;lia
 have pz:∀ x∈P,wd es x=1:=fun x hx=>(zdL h ((hP x).mp hx) hbC).trans (ins b bm).1
 have row:∀ n:Nat,l+n≤r→Rch D S4 (l,lo) (l+n,lo):=by
  intro n
  induction n with
  | zero=>intro _;simp;exact .refl
  | succ n ih =>
   intro hn
   have e0:go (l+(n:Int),lo) 0=(l+((n+1:Nat):Int),lo):=by simp[go,mv];lia
   rw[← e0]
   refine .step (ih (by lia)) (by decide) ?_
   rw[e0]
   exact (hF.iff _).mpr ⟨⟨by simp only;lia,by simp only;lia,by simp,by simp only;lia⟩,cornerP _⟩
 constructor
 ·intro k
  rw[ze3 h hP hF k cD];exact wlow l
 ·intro hz
  apply Classical.byContradiction
  intro hn
  have lots:∀ d,Rch D S4 c d→wd es d=0:=fun d hd=>(ze3 h hP hF hd hc).trans hz
  have up:∀ d,Rch D S4 c d→lo<d.2:=fun d hd=>by
   have dD:=hd.dom hc
   obtain⟨⟨i1,i2,i3,i4⟩,_⟩:=(hF.iff d).mp dD
   rcases Int.lt_or_le lo d.2 with z | z
   ·exact z
   ·exfalso
    have e2:d.2=lo:=by lia
    have:=row (d.1 - l).toNat (by lia)
    rw[show l+(((d.1 - l).toNat:Nat):Int)=d.1 by lia] at this
    have ed:d=(d.1,lo):=Prod.ext rfl e2
    rw[← ed] at this
    exact hn (this.trans (hd.symm zfI hc))
  obtain⟨L,hL⟩:∃ L:List Cell,∀ d,inBox l lo r hi d→d∈L:=⟨(List.range (r - l+1).toNat).flatMap fun i:Nat=>(List.range (hi - lo+1).toNat).map fun j:Nat=>((l+(i:Int),lo+(j:Int)):Cell),fun d ⟨a1,a2,a3,a4⟩ =>
   List.mem_flatMap.mpr ⟨(d.1 - l).toNat,List.mem_range.mpr (by lia),List.mem_map.mpr ⟨(d.2 - lo).toNat,List.mem_range.mpr (by lia),Prod.ext (by show l+(((d.1 - l).toNat:Nat):Int)=d.1;lia) (by show lo+(((d.2 - lo).toNat:Nat):Int)=d.2;lia)⟩⟩⟩
  obtain⟨g,rg,hg⟩:=zed (L:=L) hF hc (fun d hd=>hL d ((hF.iff d).mp (hd.dom hc)).1) up
  obtain⟨h1,_⟩:=h.piece hP
  have gD:=rg.dom hc
  have gp:gap ⟨(g.1,g.2 - 1),2⟩=g:=by rw[gap2];exact Prod.ext rfl (by simp)
  have eE:IsE (isIn P) ⟨(g.1,g.2 - 1),2⟩:=⟨(by show (2:Nat)<4;decide),decide_eq_true hg,by rw[gp];exact decide_eq_false ((hF.iff g).mp gD).2⟩
  have cr:=zcM h1 eE
  rw[gp,lots g rg,pz _ hg] at cr
  have me:⟨(g.1,g.2 - 1),2⟩∈es:=by
   unfold ind at cr
   by_cases z:⟨(g.1,g.2 - 1),2⟩∈es
   ·exact z
   ·rw[if_neg z] at cr;lia
  obtain⟨c0,m0,q0⟩:=hB.bot
  have g0:gap ⟨c0,0⟩=(c0.1,lo):=by simp[gap,go,mv];lia
  have E0:IsE (isIn P) ⟨c0,0⟩:=⟨(by show (0:Nat)<4;decide),decide_eq_true m0,by rw[g0];exact decide_eq_false (cornerP _)⟩
  have cr0:=zcM h1 E0
  rw[g0,wlow,show (⟨c0,0⟩:Edge).c=c0 from rfl,pz _ m0] at cr0
  have m00:⟨c0,0⟩∈es:=by
   unfold ind at cr0
   by_cases z:⟨c0,0⟩∈es
   ·exact z
   ·rw[if_neg z] at cr0;lia
  have r1:=(fg _ me).1
  have r0:=(fg _ m00).1
  rw[gp] at r1
  rw[g0] at r0
  have b0:=hB.all c0 m0
  have rr:=row (c0.1 - l).toNat (by lia)
  rw[show l+(((c0.1 - l).toNat:Nat):Int)=c0.1 by lia] at rr
  exact hn (rr.trans ((r0.symm zfI (fg b bm).2).trans (r1.trans (rg.symm zfI hc))))
theorem wd_01 (h:Closed C b es) (hs:(es.map (tt C)).sum=4) (c:Cell):wd es c=0∨wd es c=1:=by
 have ins:∀ e∈es,wd es e.c=1∧wd es (gap e)=0:=by
  rcases h.inside with⟨_,k⟩ | ⟨s,_⟩
  ·exact k
  ·lia
 have r:=ze2 (fun e he=>(h.1.2.2.1 e he).1) h.1.2.2.2
 have far:∃ M:Int,∀ e∈es,px e≤M:=by
  generalize es=l
  induction l with
  | nil=>exact⟨0,fun e he=>by cases he⟩
  | cons a l ih =>
   obtain⟨M,hM⟩:=ih
   exact⟨max M (px a),fun e he=>by
    rcases List.mem_cons.mp he with rfl | he
    ·lia
    ·have:=hM e he;lia⟩
 obtain⟨M,hM⟩:=far
 have k:∀ (n:Nat) (x y:Int),M - x≤n→wd es (x,y)=0∨wd es (x,y)=1:=by
  intro n
  induction n with
  | zero =>
   intro x y hx
   exact .inl (zdi fun e he _ ⟨_,k2⟩=>by have:=hM e he;simp only at k2;lia)
  | succ n ih =>
   intro x y hx
   have i:=ih (x+1) y (by lia)
   have rr:=r x y
   by_cases m1:⟨(x,y),1⟩∈es
   ·exact .inr (ins _ m1).1
   by_cases m3:⟨(x+1,y),3⟩∈es
   ·have:=(ins _ m3).2
    rw[show gap ⟨(x+1,y),3⟩=(x,y) by simp[gap,go,mv];lia] at this
    exact .inl this
   ·unfold ind at rr
    rw[if_neg m1,if_neg m3] at rr
    rcases i with i | i
    ·left;lia
    ·right;lia
 exact k (M - c.1).toNat c.1 c.2 (by lia)
theorem wd_0m (h:Closed C b es) (hs:(es.map (tt C)).sum=-4) (c:Cell):wd es c=0∨wd es c=-1:=by
 have ins:∀ e∈es,wd es e.c=0∧wd es (gap e)=-1:=by
  rcases h.inside with⟨s,_⟩ | ⟨_,k⟩
  ·lia
  ·exact k
 have r:=ze2 (fun e he=>(h.1.2.2.1 e he).1) h.1.2.2.2
 have far:∃ M:Int,∀ e∈es,px e≤M:=by
  generalize es=l
  induction l with
  | nil=>exact⟨0,fun e he=>by cases he⟩
  | cons a l ih =>
   obtain⟨M,hM⟩:=ih
   exact⟨max M (px a),fun e he=>by
    rcases List.mem_cons.mp he with rfl | he
    ·lia
    ·have:=hM e he;lia⟩
 obtain⟨M,hM⟩:=far
 have k:∀ (n:Nat) (x y:Int),M - x≤n→wd es (x,y)=0∨wd es (x,y)=-1:=by
  intro n
  induction n with
  | zero =>
   intro x y hx
   exact .inl (zdi fun e he _ ⟨_,k2⟩=>by have:=hM e he;simp only at k2;lia)
  | succ n ih =>
   intro x y hx
   have i:=ih (x+1) y (by lia)
   have rr:=r x y
   by_cases m1:⟨(x,y),1⟩∈es
   ·exact .inl (ins _ m1).1
   by_cases m3:⟨(x+1,y),3⟩∈es
   ·have:=(ins _ m3).2
    rw[show gap ⟨(x+1,y),3⟩=(x,y) by simp[gap,go,mv];lia] at this
    exact .inr this
   ·unfold ind at rr
    rw[if_neg m1,if_neg m3] at rr
    rcases i with i | i
    ·left;lia
    ·right;lia
 exact k (M - c.1).toNat c.1 c.2 (by lia)
end
def zbL (s:Nat):Nat:=(s+1) / 2 % 4
def wayB (s:Nat):Nat:=(zbL s+4 - s % 2) % 4
def dgo:Nat→List Nat→List (Option Nat)×Nat
 | w,[]=>([],w)
 | w,s::r=>(List.replicate ((zbL s+4 - w) % 4) none++some s::(dgo (wayB s) r).1,(dgo (wayB s) r).2)
def zaW (w:Nat) (row:List Nat):Nat:=if row.isEmpty then 4 else (w+4 - (dgo w row).2) % 4
def deeds (w:Nat) (row:List Nat):List (Option Nat):=(dgo w row).1++List.replicate (zaW w row) none
theorem zkr {C:Cell→Bool}{e:Edge}(h:IsE C e){s:Nat}(hs:stepB C e=some s):zbL s=e.w∧wayB s=(nxt C e).w∧s<8:=by
 have hw:=h.1
 rcases za4 h with⟨_,q,n⟩ | ⟨_,_,q,n⟩ | ⟨_,_,q,n⟩ <;> rw[n] <;> rw[q] at hs <;> cases hs <;> unfold wayB zbL <;> simp only <;> rcases way4 hw with r | r | r | r <;> rw[r] <;> decide
theorem zhT {C:Cell→Bool}{e:Edge}(h:IsE C e) (hs:stepB C e=none):nxt C e=⟨e.c,(e.w+1) % 4⟩:=by
 rcases za4 h with⟨_,q,n⟩ | ⟨_,_,q,n⟩ | ⟨_,_,q,n⟩
 ·rw[q] at hs;cases hs
 ·rw[q] at hs;cases hs
 ·exact n
def zlx (C:Cell→Bool) (es:List Edge):Prop:=∀ i,¬ ∀ m,m<4→∃ e,es[i+m]?=some e∧stepB C e=none
theorem zfG {C : Cell → Bool}{b : Edge}{es : List Edge}(h : Chain C b es) (hE : IsE C b) (nf : zlx C es) : ∀ (n p j w : Nat), es.length - p = n → p ≤ es.length → j ≤ 3 → j ≤ p → w < 4 → (∀ m, m < j → ∃ e, es[p - 1 - m]? = some e ∧ stepB C e = none) →
    (it C b p).w=(w+j) % 4→∃ t,t≤3∧List.replicate j none++(es.drop p).map (stepB C)=(dgo w (((es.drop p).map (stepB C)).filterMap id)).1++List.replicate t none ∧
      ((dgo w (((es.drop p).map (stepB C)).filterMap id)).2+t) % 4=(it C b es.length).w∧(dgo w (((es.drop p).map (stepB C)).filterMap id)).2<4
  | 0,p,j,w,hn,hp,hj,hjp,hw,hl,hway=>by
    have e:es.drop p=[]:=List.drop_eq_nil_iff.mpr (by lia)
    have hpe:p=es.length:=by lia
    rw[e,← hpe]
    exact⟨j,hj,by simp[dgo],hway.symm,hw⟩
  | n+1,p,j,w,hn,hp,hj,hjp,hw,hl,hway=>by
    have hlt:p<es.length:=by lia
    have hd:es.drop p=es[p]::es.drop (p+1):=List.drop_eq_getElem_cons hlt
    have hg:=h.get p hlt
    rw[List.getElem?_eq_getElem hlt] at hg
    have hg':es[p]=it C b p:=Option.some.inj hg
    have hEp:IsE C (it C b p):=it_ok hE p
    rw[hd,hg']
    cases hs:stepB C (it C b p) with
    | none =>
      have hj3:j+1≤3:=by
        rcases Nat.lt_or_ge j 3 with q | q
        · lia
        · exfalso
          have j3:j=3:=by lia
          subst j3
          refine nf (p - 3) fun m hm=>?_
          rcases Nat.lt_or_ge m 3 with a | a
          · obtain⟨e,h1,h2⟩:=hl (2 - m) (by lia)
            exact⟨e,by rw[← h1];congr 1;lia,h2⟩
          · have:m=3:=by lia
            subst this
            exact⟨_,by rw[show p - 3+3=p by lia,List.getElem?_eq_getElem hlt,hg'],hs⟩
      have hnx:=zhT hEp hs
      obtain⟨t, t3, q1, q2, q3⟩ := zfG h hE nf n (p + 1) (j + 1) w (by lia) (by lia) hj3 (by lia) hw (fun m hm => by
          cases m with
          | zero=>exact⟨_,by rw[show p+1 - 1 - 0=p by lia,List.getElem?_eq_getElem hlt,hg'],hs⟩
          | succ m =>
            obtain⟨e,h1,h2⟩:=hl m (by lia)
            exact⟨e,by rw[← h1];congr 1;lia,h2⟩) (by
          show (nxt C (it C b p)).w=_
          rw[hnx]
          simp only
          rw[hway];lia)
      refine⟨t,t3,?_,?_,?_⟩
      · simp only[List.map_cons,hs]
        rw[show (none::(es.drop (p+1)).map (stepB C)).filterMap id=((es.drop (p+1)).map (stepB C)).filterMap id from rfl,← q1,List.replicate_succ']
        simp
      · simp only[List.map_cons,hs];exact q2
      · simp only[List.map_cons,hs];exact q3
    | some s =>
      obtain⟨w1,w2,_⟩:=zkr hEp hs
      have hwB:wayB s<4:=Nat.mod_lt _ (by decide)
      obtain⟨t, t3, q1, q2, q3⟩ := zfG h hE nf n (p + 1) 0 (wayB s) (by lia) (by lia) (by lia) (by lia) hwB (fun m hm => by lia) (by
          show (nxt C (it C b p)).w=_
          rw[w2,Nat.add_zero]
          have:=(zdB hEp).1
          lia)
      refine⟨t,t3,?_,?_,?_⟩
      · simp only[List.map_cons,hs]
        rw[show (some s::(es.drop (p+1)).map (stepB C)).filterMap id=s::((es.drop (p+1)).map (stepB C)).filterMap id from rfl]
        show _=(List.replicate ((zbL s+4 - w) % 4) none++some s::(dgo (wayB s) _).1)++List.replicate t none
        have hk:(zbL s+4 - w) % 4=j:=by rw[w1,hway];lia
        rw[hk]
        have q1':(es.drop (p+1)).map (stepB C)=(dgo (wayB s) (((es.drop (p+1)).map (stepB C)).filterMap id)).1++List.replicate t none:=by simpa using q1
        rw[List.append_assoc,List.cons_append,← q1']
      · simp only[List.map_cons,hs];exact q2
      · simp only[List.map_cons,hs];exact q3
theorem zfE {C:Cell→Bool}{b:Edge}(hE:IsE C b){i:Nat}:∀ m,(∀ q,q<m→stepB C (it C b (i+q))=none)→it C b (i+m)=⟨(it C b i).c,((it C b i).w+m) % 4⟩
 | 0,_=>by
  have:=(it_ok hE i).1
  show it C b i=_
  rw[Nat.add_zero,Nat.mod_eq_of_lt this]
 | m+1,h=>by
  have ih:=zfE hE m fun q hq=>h q (by lia)
  show nxt C (it C b (i+m))=_
  rw[zhT (it_ok hE (i+m)) (h m (by lia)),ih]
  simp only[Edge.mk.injEq,true_and]
  lia
theorem Closed.deeds {C:Cell→Bool}{b:Edge}{es:List Edge}(h:Closed C b es):es.map (stepB C)=RP.deeds b.w ((es.map (stepB C)).filterMap id):=by
 have hE:IsE C b:=h.1.2.2.1 b (List.mem_of_getElem? h.1.1)
 have hp:=h.pos
 have hl:=h.it_len
 have four:∀ i,(∀ m,m<4→∃ e,es[i+m]?=some e∧stepB C e=none)→i=0∧es.length=4:=fun i hi=>by
  have hi3:i+3<es.length:=by obtain⟨e,h1,_⟩:=hi 3 (by decide);exact (List.getElem?_eq_some_iff.mp h1).1
  have st:∀ q,q<4→stepB C (it C b (i+q))=none:=fun q hq=>by
   obtain⟨e,h1,h2⟩:=hi q hq
   rw[h.1.get (i+q) (by lia)] at h1
   cases h1;exact h2
  have e4:=zfE hE 4 st
  have e4':it C b (i+4)=it C b i:=by
   rw[e4]
   have:=(it_ok hE i).1
   rw[show ((it C b i).w+4) % 4=(it C b i).w by lia]
  rcases Nat.lt_or_ge (i+4) es.length with q | q
  ·exfalso
   have:=(List.getElem?_inj (i:=i) (j:=i+4) (by lia) h.1.2.2.2).mp (by rw[h.1.get i (by lia),h.1.get (i+4) q,e4'])
   lia
  ·have hn:es.length=i+4:=by lia
   rw[← hn,hl] at e4'
   have:=(List.getElem?_inj (i:=0) (j:=i) (by lia) h.1.2.2.2).mp (by rw[h.1.get 0 hp,h.1.get i (by lia),← e4'];rfl)
   lia
 by_cases hr:(es.map (stepB C)).filterMap id=[]
 ·have all : ∀ i, i < es.length → stepB C (it C b i) = none := fun i hi => by
   have hg:=h.1.get i hi
   cases hs:stepB C (it C b i) with
   | none=>rfl
   | some s =>
    exfalso
    have:s∈(es.map (stepB C)).filterMap id:=List.mem_filterMap.mpr ⟨some s,List.mem_map.mpr ⟨_,List.mem_of_getElem? hg,hs⟩,rfl⟩
    rw[hr] at this;cases this
  have hn4:es.length=4:=by
   have el:=zfE hE (i:=0) es.length (fun q hq=>by rw[Nat.zero_add];exact all q hq)
   rw[Nat.zero_add,hl] at el
   have ew:=congrArg Edge.w el
   have hw:=hE.1
   change b.w=(b.w+es.length) % 4 at ew
   have h4:4≤es.length:=by lia
   refine (four 0 fun m hm=>⟨it C b m,?_,all m (by lia)⟩).2
   rw[Nat.zero_add];exact h.1.get m (by lia)
  rw[hr]
  show _=(dgo b.w []).1++List.replicate 4 none
  apply List.ext_getElem?
  intro i
  rcases Nat.lt_or_ge i 4 with q | q
  ·rw[List.getElem?_map,h.1.get i (by lia),Option.map_some,all i (by lia)]
   show _=(List.replicate 4 (none:Option Nat))[i]?
   rw[List.getElem?_replicate,if_pos q]
  ·rw[List.getElem?_eq_none (by rw[List.length_map];lia),List.getElem?_eq_none (by simp[dgo];lia)]
 ·have nf : zlx C es := fun i hi => by
   obtain⟨_,h4⟩:=four i hi
   have hi0:=(four i hi).1
   subst hi0
   apply hr
   apply List.filterMap_eq_nil_iff.mpr
   intro o ho
   obtain⟨e,he,rfl⟩:=List.mem_map.mp ho
   obtain⟨j,hj,ej⟩:=List.getElem_of_mem he
   obtain⟨f,h1,h2⟩:=hi j (by lia)
   rw[Nat.zero_add,List.getElem?_eq_getElem hj,ej] at h1
   cases h1
   exact h2
  obtain⟨t,t3,q1,q2,q3⟩:=zfG h.1 hE nf es.length 0 0 b.w (by lia) (by lia) (by lia) (by lia) hE.1 (fun m hm=>by lia) (by
   show b.w=_
   have:=hE.1
   lia)
  rw[List.drop_zero] at q1 q2 q3
  rw[hl] at q2
  have ht:zaW b.w ((es.map (stepB C)).filterMap id)=t:=by
   unfold zaW
   rw[if_neg (by simpa using hr)]
   have:=hE.1
   lia
  unfold RP.deeds
  rw[ht]
  simpa using q1
end RP
namespace L2
open PySem PySem.Spec PyProof.Rows
inductive IsC:Expr→V→Prop where
 | int {n:Int} {k:Nat} {p:Pos}:IsC (.Constant (.int n) k p) (.int n)
 | bl {b:Bool} {k:Nat} {p:Pos}:IsC (.Constant (.bool b) k p) (.bl b)
 | neg {n:Int} {k:Nat} {p q:Pos}:IsC (.UnaryOp .USub (.Constant (.int n) k p) q) (.int (-n))
inductive IsPs:List Expr→List (V×V)→Prop where
 | nil:IsPs [] []
 | cons {a b:Expr} {x y:V} {k:Nat} {p:Pos} {es:List Expr} {l:List (V×V)}:IsC a x→IsC b y→IsPs es l→IsPs (.Tuple [a,b] k p::es) ((x,y)::l)
inductive RetPs:List Stmt→List (V×V)→Prop where
 | mk {es:List Expr} {l:List (V×V)} {p q:Pos}:IsPs es l→RetPs [.Return (some (.List es p)) q] l
section
variable {X:Cx}
theorem zhQ {e:Expr}{v:V}(h:IsC e v):PE X e (tC v):=by
 cases h with
 | int=>exact zae
 | bl=>exact pe_bl
 | neg=>exact fun pins s σ H Q I q=>(pe_un zfV zae) pins s σ H Q I ⟨_,rfl,q⟩
theorem zeL {e:Expr}{v:V}(h:IsC e v) (es:List Expr) (env:Env):starEach (e::es) env=(false,eval e env)::starEach es env:=by cases h <;> rfl
theorem zkK {es:List Expr}{l:List (V×V)}(h:IsPs es l):PA X es (tPrs l):=by
 induction h with
 | nil=>exact zac
 | cons h1 h2 _ ih=>exact pa_T (zaI (zaj (zhQ h1) (zaj (zhQ h2) zac (zeL h2 _ _)) (zeL h1 _ _))) ih
theorem zdy {b:List Stmt}{l:List (V×V)}(h:RetPs b l):PSs X b (tRet (tLst (tPrs l))):=by
 cases h with
 | mk h=>exact zaf (zan (zbm (zkK h)))
end
section
variable {X:Cx}
theorem zj6:CallR X (.builtin "isinstance") (fun xs H Q=>∃ a ys T b,xs=[.ref a,.ty T]∧SqT X.K H a ys∧W.kitOne X.K (.type "tuple") (.type T)=some b∧Q (.bl b) H):=by
 intro pins s σ H xs us Q I r h
 obtain⟨a,ys,T,b,rfl,ty,e,q⟩:=h
 obtain⟨u,w',rfl,ru,rw'⟩:=vals2 r
 cases (show w'=Value.type T from rw')
 cases (show u=Value.ref a from ru)
 obtain⟨its,r',pl,hz⟩:=I.tuple ty
 obtain⟨o,h1,h2,_⟩:=pl
 exact W.kia_one W.kitx_tuple I.kIn ⟨o,h1,h2⟩ e (fun z=>nomatch z) fun tk=>⟨.bl b,H,I.tok tk,rfl,q⟩
end
end L2
namespace RR
open PySem L2
def top (i:Nat):Stmt:=PySem.Challenge.pw_rimsteps_k41_whole_sums_of_pictures.main.body.getD i (.Pass ⟨0,0,0,0⟩)
abbrev zbu:Stmt:=top 6
abbrev zgO:List Str:=["cell"]
theorem zfj:FnScope zgO ["cell"] (zab zbu):=⟨rfl,rfl,rfl,by decide +kernel,rfl,by decide +kernel,by decide +kernel⟩
abbrev zbd:Stmt:=top 7
abbrev zfP:List Str:=["picture","at"]
theorem zcT:FnScope zfP ["picture"] (zab zbd):=⟨rfl,rfl,rfl,by decide +kernel,rfl,by decide +kernel,by decide +kernel⟩
abbrev zd2:Stmt:=top 8
abbrev zmK:List Str:=["x","y","step","right","up"]
theorem zg2:FnScope zmK ["x","y","step"] (zab zd2):=⟨rfl,rfl,rfl,by decide +kernel,rfl,by decide +kernel,by decide +kernel⟩
abbrev za5:Stmt:=top 9
abbrev zdG:List Str:=["picture"]
theorem zfi:FnScope zdG ["picture"] (zab za5):=⟨rfl,rfl,rfl,by decide +kernel,rfl,by decide +kernel,by decide +kernel⟩
abbrev zbs:Stmt:=top 11
abbrev zgM:List Str:=["edge","x","y","way"]
theorem zcc:FnScope zgM ["edge"] (zab zbs):=⟨rfl,rfl,rfl,by decide +kernel,rfl,by decide +kernel,by decide +kernel⟩
abbrev zbe:Stmt:=top 12
abbrev zc5:List Str:=["picture","table","edges"]
theorem zcE:FnScope zc5 ["picture"] (zab zbe):=⟨rfl,rfl,rfl,by decide +kernel,rfl,by decide +kernel,by decide +kernel⟩
abbrev zaP:Stmt:=top 13
abbrev zem:List Str:=["way"]
theorem zdH:FnScope zem ["way"] (zab zaP):=⟨rfl,rfl,rfl,by decide +kernel,rfl,by decide +kernel,by decide +kernel⟩
abbrev zbr:Stmt:=top 14
abbrev zgL:List Str:=["way"]
theorem zfh:FnScope zgL ["way"] (zab zbr):=⟨rfl,rfl,rfl,by decide +kernel,rfl,by decide +kernel,by decide +kernel⟩
abbrev za8:Stmt:=top 15
abbrev zfK:List Str:=["table","edge","x","y","way","step"]
theorem zbC:FnScope zfK ["table","edge"] (zab za8):=⟨rfl,rfl,rfl,by decide +kernel,rfl,by decide +kernel,by decide +kernel⟩
abbrev zb0:Stmt:=top 16
abbrev ziK:List Str:=["step"]
theorem zg1:FnScope ziK ["step"] (zab zb0):=⟨rfl,rfl,rfl,by decide +kernel,rfl,by decide +kernel,by decide +kernel⟩
abbrev zbb:Stmt:=top 17
abbrev zfN:List Str:=["edge","step","x","y","way","new_x","new_y"]
theorem zbi:FnScope zfN ["edge","step"] (zab zbb):=⟨rfl,rfl,rfl,by decide +kernel,rfl,by decide +kernel,by decide +kernel⟩
abbrev zbG:Stmt:=top 20
abbrev zhp:List Str:=["table","begin","step","walk","edge"]
theorem zbO:FnScope zhp ["table","begin"] (zab zbG):=⟨rfl,rfl,rfl,by decide +kernel,rfl,by decide +kernel,by decide +kernel⟩
abbrev zat:Stmt:=top 21
abbrev zbZ:List Str:=["walk","lefts","slants"]
theorem zbE:FnScope zbZ ["walk"] (zab zat):=⟨rfl,rfl,rfl,by decide +kernel,rfl,by decide +kernel,by decide +kernel⟩
abbrev zay:Stmt:=top 22
abbrev zc4:List Str:=["walk","lefts","slants"]
theorem zbA:FnScope zc4 ["walk"] (zab zay):=⟨rfl,rfl,rfl,by decide +kernel,rfl,by decide +kernel,by decide +kernel⟩
abbrev zcj:Stmt:=top 23
abbrev zkl:List Str:=["walk"]
theorem zio:FnScope zkl ["walk"] (zab zcj):=⟨rfl,rfl,rfl,by decide +kernel,rfl,by decide +kernel,by decide +kernel⟩
abbrev zbR:Stmt:=top 24
abbrev zeY:List Str:=["walk","sort"]
theorem zg4:FnScope zeY ["walk","sort"] (zab zbR):=⟨rfl,rfl,rfl,by decide +kernel,rfl,by decide +kernel,by decide +kernel⟩
abbrev zbk:Stmt:=top 25
abbrev zdu:List Str:=["walk","sort","begin","at","row"]
theorem zce:FnScope zdu ["walk"] (zab zbk):=⟨rfl,rfl,rfl,by decide +kernel,rfl,by decide +kernel,by decide +kernel⟩
abbrev za9:Stmt:=top 26
abbrev zfL:List Str:=["one","sort","x","y","row"]
theorem zbD:FnScope zfL ["one"] (zab za9):=⟨rfl,rfl,rfl,by decide +kernel,rfl,by decide +kernel,by decide +kernel⟩
abbrev zaZ:Stmt:=top 27
abbrev zeE:List Str:=["table","edges","walked","told","begin","walk","edge","step"]
theorem zaO:FnScope zeE ["table","edges"] (zab zaZ):=⟨rfl,rfl,rfl,by decide +kernel,rfl,by decide +kernel,by decide +kernel⟩
abbrev zcw:Stmt:=top 28
abbrev zk2:List Str:=["picture"]
theorem zjb:FnScope zk2 ["picture"] (zab zcw):=⟨rfl,rfl,rfl,by decide +kernel,rfl,by decide +kernel,by decide +kernel⟩
abbrev zbv:Stmt:=top 31
abbrev zgP:List Str:=["one","sort","x","y","row"]
theorem zbW:FnScope zgP ["one"] (zab zbv):=⟨rfl,rfl,rfl,by decide +kernel,rfl,by decide +kernel,by decide +kernel⟩
abbrev zcf:Stmt:=top 32
abbrev zkh:List Str:=["step"]
theorem zin:FnScope zkh ["step"] (zab zcf):=⟨rfl,rfl,rfl,by decide +kernel,rfl,by decide +kernel,by decide +kernel⟩
abbrev zbc:Stmt:=top 33
abbrev zfO:List Str:=["begin_way","row","way","deeds","step","lefts"]
theorem zbj:FnScope zfO ["begin_way","row"] (zab zbc):=⟨rfl,rfl,rfl,by decide +kernel,rfl,by decide +kernel,by decide +kernel⟩
abbrev zch:Stmt:=top 34
abbrev zkj:List Str:=["begin","deeds","walk","edge","deed"]
theorem zcr:FnScope zkj ["begin","deeds"] (zab zch):=⟨rfl,rfl,rfl,by decide +kernel,rfl,by decide +kernel,by decide +kernel⟩
abbrev zbp:Stmt:=top 35
abbrev zgJ:List Str:=["begin","row"]
theorem zfg:FnScope zgJ ["begin","row"] (zab zbp):=⟨rfl,rfl,rfl,by decide +kernel,rfl,by decide +kernel,by decide +kernel⟩
abbrev zaY:Stmt:=top 36
abbrev zeD:List Str:=["edge","step","x","y","way","behind","seen"]
theorem za3:FnScope zeD ["edge","step"] (zab zaY):=⟨rfl,rfl,rfl,by decide +kernel,rfl,by decide +kernel,by decide +kernel⟩
abbrev zba:Stmt:=top 37
abbrev zfM:List Str:=["walk","known","steps_gone","edge","step","cell","inside"]
theorem zaL:FnScope zfM ["walk"] (zab zba):=⟨rfl,rfl,rfl,by decide +kernel,rfl,by decide +kernel,by decide +kernel⟩
abbrev zbt:Stmt:=top 38
abbrev zgN:List Str:=["walk","edge","step"]
theorem zcv:FnScope zgN ["walk"] (zab zbt):=⟨rfl,rfl,rfl,by decide +kernel,rfl,by decide +kernel,by decide +kernel⟩
abbrev zbH:Stmt:=top 39
abbrev zhq:List Str:=["walk","sort"]
theorem zf8:FnScope zhq ["walk","sort"] (zab zbH):=⟨rfl,rfl,rfl,by decide +kernel,rfl,by decide +kernel,by decide +kernel⟩
abbrev zcg:Stmt:=top 40
abbrev zki:List Str:=["one","sort","x","y","row","begin","walk","at"]
theorem zbN:FnScope zki ["one"] (zab zcg):=⟨rfl,rfl,rfl,by decide +kernel,rfl,by decide +kernel,by decide +kernel⟩
abbrev zbQ:Stmt:=top 41
abbrev zeX:List Str:=["one"]
theorem zg3:FnScope zeX ["one"] (zab zbQ):=⟨rfl,rfl,rfl,by decide +kernel,rfl,by decide +kernel,by decide +kernel⟩
abbrev zbq:Stmt:=top 44
abbrev zgK:List Str:=["x","y","squares","firsts"]
theorem zcu:FnScope zgK ["x","y"] (zab zbq):=⟨rfl,rfl,rfl,by decide +kernel,rfl,by decide +kernel,by decide +kernel⟩
abbrev zcG:Stmt:=top 45
abbrev zkm:List Str:=["sums","others"]
theorem zku:FnScope zkm ["sums","others"] (zab zcG):=⟨rfl,rfl,rfl,by decide +kernel,rfl,by decide +kernel,by decide +kernel⟩
abbrev zbP:Stmt:=top 46
abbrev zeW:List Str:=["sums","others"]
theorem zg0:FnScope zeW ["sums","others"] (zab zbP):=⟨rfl,rfl,rfl,by decide +kernel,rfl,by decide +kernel,by decide +kernel⟩
abbrev za7:Stmt:=top 47
abbrev zfJ:List Str:=["one","sums","x","y","way"]
theorem zaX:FnScope zfJ ["one"] (zab za7):=⟨rfl,rfl,rfl,by decide +kernel,rfl,by decide +kernel,by decide +kernel⟩
abbrev zci:Stmt:=top 48
abbrev zkk:List Str:=["some","sums","one"]
theorem zcO:FnScope zkk ["some"] (zab zci):=⟨rfl,rfl,rfl,by decide +kernel,rfl,by decide +kernel,by decide +kernel⟩
abbrev za1:Stmt:=top 50
abbrev zeG:List Str:=["_law_script","_law_k"]
theorem zd1:FnScope zeG ["_law_script","_law_k"] (zab za1):=⟨rfl,rfl,rfl,by decide +kernel,rfl,by decide +kernel,by decide +kernel⟩
abbrev zbI:Stmt:=top 51
abbrev zhr:List Str:=["_law_pen","_law_base","_law_rest","_law_number"]
theorem zb6:FnScope zhr ["_law_pen","_law_base"] (zab zbI):=⟨rfl,rfl,rfl,by decide +kernel,rfl,by decide +kernel,by decide +kernel⟩
abbrev zb2:Stmt:=top 52
abbrev ziL:List Str:=["_law_pen","_law_way"]
theorem zd0:FnScope ziL ["_law_pen"] (zab zb2):=⟨rfl,rfl,rfl,by decide +kernel,rfl,by decide +kernel,by decide +kernel⟩
abbrev zaQ:Stmt:=top 53
abbrev zen:List Str:=["_law_pen","_law_way","_law_x","_law_y","_law_wide","_law_high"]
theorem zdI:FnScope zen ["_law_pen","_law_way","_law_x","_law_y","_law_wide","_law_high"] (zab zaQ):=⟨rfl,rfl,rfl,by decide +kernel,rfl,by decide +kernel,by decide +kernel⟩
abbrev za0:Stmt:=top 54
abbrev zeF:List Str:=["_law_pen","_law_most","_law_wide","_law_high","_law_way","_law_dx","_law_dy","_law_found","_law_y","_law_x"]
theorem zaB:FnScope zeF ["_law_pen","_law_most"] (zab za0):=⟨rfl,rfl,rfl,by decide +kernel,rfl,by decide +kernel,by decide +kernel⟩
abbrev zb1:Stmt:=top 55
abbrev zeZ:List Str:=["_law_start","_law_there","_law_steps","_law_found","_law_left","_law_x","_law_y","_law_dx","_law_dy"]
theorem zbF:FnScope zeZ ["_law_start","_law_there","_law_steps"] (zab zb1):=⟨rfl,rfl,rfl,by decide +kernel,rfl,by decide +kernel,by decide +kernel⟩
abbrev zbf:Stmt:=top 56
abbrev zhs:List Str:=[]
theorem zf9:FnScope zhs [] (zab zbf):=⟨rfl,rfl,rfl,by decide +kernel,rfl,by decide +kernel,by decide +kernel⟩
abbrev zaU:Stmt:=top 57
abbrev zgQ:List Str:=[]
theorem zfk:FnScope zgQ [] (zab zaU):=⟨rfl,rfl,rfl,by decide +kernel,rfl,by decide +kernel,by decide +kernel⟩
abbrev zbJ:Stmt:=top 58
abbrev zht:List Str:=["_law_cells","_law_found","_law_cell"]
theorem zcF:FnScope zht ["_law_cells"] (zab zbJ):=⟨rfl,rfl,rfl,by decide +kernel,rfl,by decide +kernel,by decide +kernel⟩
abbrev zax:Stmt:=top 59
abbrev zbh:List Str:=["_law_there","_law_sort","_law_x","_law_y","_law_piece","_law_left","_law_low","_law_free","_law_b","_law_a","_law_outside"]
theorem zaM:FnScope zbh ["_law_there","_law_sort","_law_x","_law_y"] (zab zax):=⟨rfl,rfl,rfl,by decide +kernel,rfl,by decide +kernel,by decide +kernel⟩
abbrev zaT:Stmt:=top 60
abbrev zdh:List Str:=["_law_found","_law_many"]
theorem zeo:FnScope zdh ["_law_found","_law_many"] (zab zaT):=⟨rfl,rfl,rfl,by decide +kernel,rfl,by decide +kernel,by decide +kernel⟩
abbrev zb3:Stmt:=top 61
abbrev ze0:List Str:=["_law_there","_law_some","_law_due_here","_law_one","_law_by","_law_x","_law_y","_law_at","_law_number"]
theorem zbo:FnScope ze0 ["_law_there","_law_some"] (zab zb3):=⟨rfl,rfl,rfl,by decide +kernel,rfl,by decide +kernel,by decide +kernel⟩
abbrev zau:Stmt:=top 62
abbrev zbn:List Str:=["_law_there","_law_some","_law_few","_law_parts","_law_part"]
theorem za6:FnScope zbn ["_law_there","_law_some"] (zab zau):=⟨rfl,rfl,rfl,by decide +kernel,rfl,by decide +kernel,by decide +kernel⟩
abbrev s_law:Stmt:=top 63
abbrev N_law:List Str:=["_law_script","_law_k","_law_picture_here","_law_due_here","_law_x","_law_y","_law_at","_law_number","_law_some","_law_held","_law_found"]
theorem zcD:FnScope N_law ["_law_script"] (zab s_law):=⟨rfl,rfl,rfl,by decide +kernel,rfl,by decide +kernel,by decide +kernel⟩
open PySem L2 RP
def cellT (c:Cell):List V:=[.int c.1,.int c.2]
def edgeT (e:Edge):List V:=[.int e.c.1,.int e.c.2,.int e.w]
def sv:Option Nat→V
 | none=>.non
 | some s=>.int s
def Tab (H:Hp) (t:Addr) (C:Cell→Bool):Prop:=∃ kvs:List (List Key×V),H t=some (.dT kvs)∧∀ c:Cell,(valV kvs [Sum.inl c.1,Sum.inl c.2]).isSome=C c
theorem Tab.same {H H':Hp}{t:Addr}{C:Cell→Bool}(h:Tab H t C) (s:Same H H'):Tab H' t C:=let ⟨kvs,e,q⟩:=h;⟨kvs,s _ _ e,q⟩
theorem Same.up {H:Hp}{p:Addr}{o:HO}(h:H p=none):Same H (upd H p o):=fun b u e=>by rw[zam (zaq e h)];exact e
structure Txt (P:Program) (w:World) (K:W.Frag) (mg:Str→Option Value):Prop where
 moves:∃ M,mg "MOVES" = some (.ref M)∧∀ H,∃ ms:List Addr,SqT K H M (ms.map V.ref)∧ms.length=8∧∀ (i:Nat) a,ms[i]?=some a→SqT K H a [.int (mv i).1,.int (mv i).2]
 ways:Ways P w K mg
 more:Two P w K mg "MORE_LEFTS" 4 (-4)
 iNO_SUMS:∃ M,mg "NO_SUMS" = some (.ref M)∧∀ H,SqT K H M [.int (0),.int (0),.int (0),.int (0),.int (0),.int (0)]
 nrange:mg "range" = none
 nlen:mg "len" = none
 nmin:mg "min" = none
 nmax:mg "max" = none
 nsorted:mg "sorted" = none
 ntuple:mg "tuple" = none
 nint:mg "int" = none
 nbool:mg "bool" = none
 nabs:mg "abs" = none
 nall:mg "all" = none
 nany:mg "any" = none
 nisinstance:mg "isinstance" = none
 nzip:mg "zip" = none
 nlist:mg "list" = none
 nenumerate:mg "enumerate" = none
theorem two:2≤sizeLine:=by decide
theorem three:3≤sizeLine:=by decide
section
variable {P:Program}{w:World}{K:W.Frag}{mg:Str→Option Value}{base:Heap}
def zgX (K:W.Frag):Sp:=fun vs H Q _=>∃ (a:Addr) (x y:Int) (r:List V),vs=[.ref a]∧SqT K H a (.int x::.int y::r)∧∀ (p:Addr) (H':Hp),H p=none→Same H H'→H' p=some (.tup [.int y,.int x])→Q (.ref p) H'
theorem zfz (d:Df K mg "cell_order" zbu ["cell"]):FnOk P w K mg base CX0 1 d.f d.fd ["cell"] (zgX K):=by
 refine d.F.ok zfj (fun vs H Q E h=>?_) (fun cdv A outer s H vs Q E hr h=>?_)
 ·obtain⟨a,x,y,r,rfl,_⟩:=h
  rfl
 ·obtain⟨a,x,y,r,rfl,hq,k⟩:=h
  refine⟨_,(zaf (zan (zaI (zaj (pe_ix zcB (pv 0) zae (fun _ _=>rfl)) (zaj (pe_ix zcB (pv 0) zae (fun _ _=>rfl)) zac))))),?_⟩
  refine⟨_,rfl,a,_,_,_,rfl,rfl,hq,zap (j:=1) rfl,_,rfl,a,_,_,_,rfl,rfl,hq,zap (j:=0) rfl,two,fun p hp=>?_⟩
  exact k p _ hp (Same.up hp) zaa
def zf1:Sp:=fun vs H Q _=>∃ (c:Cell) (i:Nat),vs=[.int c.1,.int c.2,.int i]∧i<8∧∀ (p:Addr) (H':Hp),H p=none→Same H H'→H' p=some (.tup (cellT (go c i)))→Q (.ref p) H'
theorem zlQ (T:Txt P w K mg) (d:Df K mg "gone" zd2 ["x","y","step"]):FnOk P w K mg base CX0 1 d.f d.fd ["x","y","step"] zf1:=by
 refine d.F.ok zg2 (fun vs H Q E h=>?_) (fun cdv A outer s H vs Q E hr h=>?_)
 ·obtain⟨c,i,rfl,_⟩:=h
  rfl
 ·obtain⟨c,i,rfl,hi,k⟩:=h
  obtain⟨M,hM,hms⟩:=T.moves
  obtain⟨ms,hq,hl,hm⟩:=hms H
  refine⟨_,(zad (zcb (pe_ix zcB (zcY (v:=.ref M) rfl hM rfl) (pv 2) (fun _ _=>rfl)) (zbz (by rfl) (zah (zag (i:=3) zg2.nd (by rfl) (Or.inl rfl)) (zah (zag (i:=4) zg2.nd (by rfl) (Or.inl rfl)) zaA))))
   (zaf (zan (zaI (pa_B (pe_op zaG (pv 0) (pv 3)) (pa_B (pe_op zaG (pv 1) (pv 4)) zac)))))),?_⟩
  have hi':i<ms.length:=by lia
  have e1:ms[i]?=some ms[i]:=by simp[hi']
  refine⟨_,rfl,M,_,(i:Int),.ref ms[i],rfl,rfl,hq,zap (by simp[hi']),ms[i],_,rfl,hm i _ e1,rfl,_,_,rfl,_,_,rfl,rfl,?_⟩
  refine⟨_,rfl,_,rfl,_,_,rfl,rfl,_,rfl,_,rfl,_,_,rfl,rfl,two,fun p hp=>?_⟩
  exact k p _ hp (Same.up hp) zaa
def zdl:Sp:=fun vs H Q _=>∃ w:Nat,vs=[.int w]∧w<4∧Q (.int (2*w:Nat)) H
theorem zdJ (d:Df K mg "straight_step" zaP ["way"]):FnOk P w K mg base CX0 1 d.f d.fd ["way"] zdl:=by
 refine d.F.ok zdH (fun vs H Q E h=>?_) (fun cdv A outer s H vs Q E hr h=>?_)
 ·obtain⟨w,rfl,_⟩:=h
  rfl
 ·obtain⟨w,rfl,hw,k⟩:=h
  refine⟨_,(zaf (zan (pe_op zcU zae (pv 0)))),?_⟩
  refine⟨_,rfl,_,_,rfl,rfl,.inl ⟨by decide,by decide⟩,?_⟩
  have e:(2*(w:Int))=((2*w:Nat):Int):=by lia
  show Q (.int (2*(w:Int))) H
  rw[e];exact k
def zgW:Sp:=fun vs H Q _=>∃ w:Nat,vs=[.int w]∧w<4∧Q (.int ((2*w+7) % 8:Nat)) H
theorem zft (d:Df K mg "slant_step" zbr ["way"]):FnOk P w K mg base CX0 1 d.f d.fd ["way"] zgW:=by
 refine d.F.ok zfh (fun vs H Q E h=>?_) (fun cdv A outer s H vs Q E hr h=>?_)
 ·obtain⟨w,rfl,_⟩:=h
  rfl
 ·obtain⟨w,rfl,hw,k⟩:=h
  refine⟨_,(zaf (zan (pe_op zb7 (pe_op zaG (pe_op zcU zae (pv 0)) zae) zae))),?_⟩
  refine⟨_,rfl,_,_,rfl,rfl,.inl ⟨by decide,by decide⟩,_,_,rfl,rfl,_,_,rfl,rfl,(by show (0:Int)<8;decide),?_⟩
  have e:(2*(w:Int)+7) % 8=(((2*w+7) % 8:Nat):Int):=by lia
  show Q (.int ((2*(w:Int)+7) % 8)) H
  rw[e];exact k
def zc9:Sp:=fun vs H Q _=>∃ o:Option Nat,vs=[sv o]∧Q (.bl (slant o)) H
theorem zhe (d:Df K mg "is_slant" zb0 ["step"]):FnOk P w K mg base CX0 1 d.f d.fd ["step"] zc9:=by
 refine d.F.ok zg1 (fun vs H Q E h=>?_) (fun cdv A outer s H vs Q E hr h=>?_)
 ·obtain⟨o,rfl,_⟩:=h
  rfl
 ·obtain⟨o,rfl,k⟩:=h
  refine⟨_,(zaf (zan (zjs (zca zfp (pv 0) zcJ (zaw _)) (zhP (zca op_eq (pe_op zb7 (pv 0) zae) zae (zaw _)))))),?_⟩
  cases o with
  | none=>exact⟨_,rfl,rfl,false,rfl,iteF k⟩
  | some n =>
   refine⟨_,rfl,rfl,true,rfl,iteT ⟨_,rfl,_,_,rfl,rfl,(by show (0:Int)<2;decide),rfl,?_⟩⟩
   have e:decide (V.int ((n:Int) % 2)=V.int 1)=slant (some n):=by
    show _=(n % 2 == 1)
    by_cases q:n % 2=1
    ·rw[decide_eq_true (by rw[show (n:Int) % 2=1 by lia]),q];rfl
    ·rw[decide_eq_false (fun z=>by injection z with z;lia)];simp[q]
   rw[← e] at k
   exact k
def spGap (K:W.Frag):Sp:=fun vs H Q _=>∃ (a:Addr) (e:Edge),vs=[.ref a]∧SqT K H a (edgeT e)∧e.w<4∧∀ (p:Addr) (H':Hp),H p=none→Same H H'→H' p=some (.tup (cellT (gap e)))→Q (.ref p) H'
theorem zfw (g_gone:Fn P w K mg base 1 "gone" ["x","y","step"] zf1) (d:Df K mg "gap_beside" zbs ["edge"]):FnOk P w K mg base CX0 2 d.f d.fd ["edge"] (spGap K):=by
 refine d.F.ok zcc (fun vs H Q E h=>?_) (fun cdv A outer s H vs Q E hr h=>?_)
 ·obtain⟨a,e,rfl,_⟩:=h
  rfl
 ·obtain⟨a,e,rfl,hq,hw,k⟩:=h
  refine⟨_,(zad (zcb (pv 0) (zbz (by rfl) (zah (zag (i:=1) zcc.nd (by rfl) (Or.inl rfl)) (zah (zag (i:=2) zcc.nd (by rfl) (Or.inl rfl)) (zah (zag (i:=3) zcc.nd (by rfl) (Or.inl rfl)) zaA)))))
   (zaf (zan (zai g_gone.ok (hr.mono (by decide)) (by rfl) g_gone.m g_gone.kp g_gone.b .nil pass0 (pa_N (pv 1) (pa_N (pv 2) (pa_B (pe_op zb7 (pe_op zaG (pe_op zcU zae (pv 3)) zae) zae) zac))))))),?_⟩
  refine⟨_,rfl,a,_,rfl,hq,rfl,_,_,rfl,_,_,rfl,_,_,rfl,rfl,?_⟩
  have e6:(2*(e.w:Int)+6) % 8=(((2*e.w+6) % 8:Nat):Int):=by lia
  refine⟨_,rfl,_,rfl,_,rfl,_,_,rfl,rfl,.inl ⟨by decide,by decide⟩,_,_,rfl,rfl,_,_,rfl,rfl,(by show (0:Int)<8;decide),e.c,(2*e.w+6) % 8,(by rw[← e6];rfl),by lia,fun p H' hp hS hH=>k p H' hp hS hH⟩
end
open PySem L2 RP
theorem iteN {b:Bool}{A B:Prop}(h:b=false) (q:B):if b=true then A else B:=by subst h;exact iteF q
theorem iteY {b:Bool}{A B:Prop}(h:b=true) (q:A):if b=true then A else B:=by subst h;exact iteT q
theorem zcN {tb:TS}{D:Ends}{σ:St}{H:Hp}(h:tb D σ H):tIfs (fun _ H Q=>Q true H) tb D σ H:=by
 show if true=true then tb D σ H else D.nx σ H
 exact iteT h
theorem gN {j:Nat}{v:V}{σ:St}{H:Hp}{tb:TS}{D:Ends}(h:tb D (σ.set j (some v)) H):gName j v σ H fun σ2 H2=>tIfs (fun _ H Q=>Q true H) tb D σ2 H2:=zcN h
def LR {α:Type}(K:W.Frag) (H:Hp) (a:Addr) (l:List α) (R:α→V→Hp→Prop):Prop:=∃ vs:List V,SqL K H a vs∧vs.length=l.length∧∀ (i:Nat) x v,l[i]?=some x→vs[i]?=some v→R x v H
def cR (c:Cell) (v:V) (H:Hp):Prop:=∃ b,v=.ref b∧H b=some (.tup (cellT c))
def eR (e:Edge) (v:V) (H:Hp):Prop:=∃ b,v=.ref b∧H b=some (.tup (edgeT e))
def wR (q:Edge×Option Nat) (v:V) (H:Hp):Prop:=∃ A b,v=.ref A∧H A=some (.tup [.ref b,sv q.2])∧H b=some (.tup (edgeT q.1))
theorem cR.same {c:Cell}{v:V}{H H':Hp}(h:cR c v H) (s:Same H H'):cR c v H':=let ⟨b,e,q⟩:=h;⟨b,e,s _ _ q⟩
theorem eR.same {c:Edge}{v:V}{H H':Hp}(h:eR c v H) (s:Same H H'):eR c v H':=let ⟨b,e,q⟩:=h;⟨b,e,s _ _ q⟩
theorem wR.same {c:Edge×Option Nat}{v:V}{H H':Hp}(h:wR c v H) (s:Same H H'):wR c v H':=let ⟨A,b,e,q,r⟩:=h;⟨A,b,e,s _ _ q,s _ _ r⟩
theorem LR.same {α:Type}{K:W.Frag}{H H':Hp}{a:Addr}{l:List α}{R:α→V→Hp→Prop}(h:LR K H a l R) (s:Same H H') (m:∀ x v,R x v H→R x v H'):LR K H' a l R :=
 let ⟨vs,q,n,r⟩:=h;⟨vs,s.seq q,n,fun i x v h1 h2=>m x v (r i x v h1 h2)⟩
theorem zb8 {α:Type}{l:List α}{i:Nat}{x c:α}(h:l[i]?=some x):c∈l.take (i+1) ↔ c∈l.take i∨c=x:=by
 rw[List.take_succ,h,List.mem_append]
 exact⟨fun z=>z.elim .inl fun z=>.inr (List.mem_singleton.mp z),fun z=>z.elim .inl fun z=>.inr (List.mem_singleton.mpr z)⟩
def InOrd (cs:List Cell):Prop:=∀ (i:Nat) c d,cs[i]?=some c→cs[i+1]?=some d→HT.lexLt [c.2,c.1] [d.2,d.1]=true
section
variable {P:Program}{w:World}{K:W.Frag}{mg:Str→Option Value}{base:Heap}
def spAsk (K:W.Frag):Sp:=fun vs H Q _=>∃ (a:Addr) (cs:List Cell),vs=[.ref a]∧LR K H a cs cR∧InOrd cs∧cs.length≤1000∧∀ H',Same H H'→Q (.bl true) H'
theorem zex (T:Txt P w K mg) (g_cell_order:Fn P w K mg base 1 "cell_order" ["cell"] (zgX K)) (d:Df K mg "ask_picture" zbd ["picture"]):FnOk P w K mg base CX0 2 d.f d.fd ["picture"] (spAsk K):=by
 refine d.F.ok zcT (fun vs H Q E h=>?_) (fun cdv A outer s H vs Q E hr h=>?_)
 ·obtain⟨a,cs,rfl,_⟩:=h
  rfl
 ·obtain⟨a,cs,rfl,⟨ws,hq,hn,hc⟩,ho,hlen,k⟩:=h
  have hu0:=hr.units0
  refine⟨_,(zad (zbw PassesOwn.never rfl (zjo (by rfl) T.nrange (pa_C zae (zaj (zaK zbT (by rfl) T.nlen (by rfl) (pa_N (pv 0) zac)) zac))) (zag (i:=1) zcT.nd (by rfl) (Or.inl rfl))
   (zaf (ps_if (zaz (zmq hu0) (zai g_cell_order.ok (hr.mono (by decide)) (by rfl) g_cell_order.m g_cell_order.kp g_cell_order.b .nil pass0 (zaj (pe_ix za2 (pv 0) (pv 1) (fun _ _=>rfl)) zac)) (zai g_cell_order.ok (hr.mono (by decide)) (by rfl) g_cell_order.m g_cell_order.kp g_cell_order.b .nil pass0 (zaj (pe_ix za2 (pv 0) (pe_op zbS (pv 1) zae) (fun _ _=>rfl)) zac)) (zaw _))
   (zaf zfl)
   zaH)))
   (zaf (zan pe_bl))),?_⟩
  refine⟨_,rfl,a,_,rfl,.inl hq,_,_,rfl,⟨by decide,by decide,by lia,by lia⟩,?_⟩
  refine zcm (lo:=1) (n:=((ws.length:Int) - 1).toNat) (fun i σ H2=>∃ o,σ=[some (.ref a),o]∧Same H H2) ⟨_,rfl,Same.refl _⟩ ?_ ?_
  ·rintro i σ H2 hi ⟨o,rfl,s2⟩
   have h1:i+1<ws.length:=by lia
   have v1:ws[i+1]?=some ws[i+1]:=List.getElem?_eq_getElem h1
   have v0:ws[i]?=some ws[i]:=List.getElem?_eq_getElem (by lia)
   have c1:cs[i+1]?=some cs[i+1]:=List.getElem?_eq_getElem (by lia)
   have c0:cs[i]?=some cs[i]:=List.getElem?_eq_getElem (by lia)
   obtain⟨b1,e1,q1⟩:=hc (i+1) _ _ c1 v1
   obtain⟨b0,e0,q0⟩:=hc i _ _ c0 v0
   refine⟨_,rfl,_,rfl,a,_,_,_,rfl,rfl,s2.seq hq,(by rw[show (1:Int)+(i:Int)=((i+1:Nat):Int) by lia];exact zap v1),b1,_,_,[],(by rw[e1];rfl),SqT.of (s2 _ _ q1),fun p1 H3 hp1 s3 f1=>?_⟩
   refine⟨_,rfl,_,rfl,_,_,rfl,rfl,a,_,_,_,rfl,rfl,(s2.trans s3).seq hq,(by rw[show (1:Int)+(i:Int) - 1=(i:Int) by lia];exact zap v0),b0,_,_,[],(by rw[e0];rfl),SqT.of ((s2.trans s3) _ _ q0),fun p0 H4 hp0 s4 f0=>?_⟩
   refine⟨p1,p0,[cs[i+1].2,cs[i+1].1],[cs[i].2,cs[i].1],rfl,rfl,SqT.of (s4 _ _ f1),SqT.of f0,_,rfl,iteN ?_ ?_⟩
   ·rw[HT.lexLe_eq,ho i _ _ c0 c1];rfl
   ·exact⟨_,rfl,(s2.trans s3).trans s4⟩
  ·rintro σ H2 ⟨o,rfl,s2⟩
   exact k H2 s2
def kC (c:Cell):List Key:=[Sum.inl c.1,Sum.inl c.2]
theorem zh1 {c d:Cell}:kC c=kC d ↔ c=d:=by
 constructor
 ·intro h
  unfold kC at h
  injection h with h1 h2
  injection h2 with h2 _
  exact Prod.ext (Sum.inl.inj h1) (Sum.inl.inj h2)
 ·rintro rfl;rfl
def zgV (K:W.Frag):Sp:=fun vs H Q _=>∃ (a:Addr) (cs:List Cell),vs=[.ref a]∧LR K H a cs cR∧cs.length≤1000∧∀ t H',H t=none→Same H H'→Tab H' t (isIn cs)→Q (.ref t) H'
theorem zfy (d:Df K mg "cell_table" za5 ["picture"]):FnOk P w K mg base CX0 1 d.f d.fd ["picture"] (zgV K):=by
 refine d.F.ok zfi (fun vs H Q E h=>?_) (fun cdv A outer s H vs Q E hr h=>?_)
 ·obtain⟨a,cs,rfl,_⟩:=h
  rfl
 ·obtain⟨a,cs,rfl,⟨ws,hq,hn,hc⟩,hlen,k⟩:=h
  have hu1:=hu_of hr
  have nb0:(["cell"]:List Str).Nodup:=by decide +kernel
  refine⟨_,(zaf (zan (zkJ hu1 (osc:=zab za5) (N:=zdG) (N':=["cell"]) (sel:=[none]) ⟨rfl,by decide +kernel,by decide +kernel,by decide +kernel,rfl,by decide +kernel⟩ (zaJ (pv 0)) (fun _ _ _ _ _=>(zag (i:=0) nb0 (by rfl) (Or.inl rfl))) (fun _ _ _ _ _=>zb9) (fun _ _ _ _ _=>(pv 0)) (fun _ _ _ _ _=>pe_bl)))),?_⟩
  refine⟨_,rfl,a,rfl,⟨_,hq⟩,fun p hp=>?_⟩
  refine zaD (K:=K) (a:=a) (xs:=ws) (fun i σ H2=>∃ o,σ=[o]∧Same H H2∧∃ kvs,H2 p=some (.dT kvs)∧kvs.length≤i∧∀ c:Cell,(valV kvs (kC c)).isSome=decide (c∈cs.take i))
   ⟨_,rfl,Same.up hp,[],zaa,Nat.le_refl _,fun c=>by simp[valV]⟩ (fun i σ H2 _ ⟨_,_,s2,_⟩=>s2.seq hq) ?_ ?_
  ·rintro i v σ H2 hi ⟨o,rfl,s2,kvs,e2,hl,hv⟩
   have hil:i<ws.length:=(List.getElem?_eq_some_iff.mp hi).1
   have ci:cs[i]?=some cs[i]:=List.getElem?_eq_getElem (by lia)
   obtain⟨b,rfl,q⟩:=hc i _ _ ci hi
   refine gN ?_
   refine⟨_,rfl,_,.inr ⟨kvs,kC cs[i],b,e2,rfl,s2 _ _ q,zav (by lia),rfl⟩,_,rfl,fun z o e=>?_,_,zaa,?_,fun c=>?_⟩
   ·rw[zam (zaq e hp)];exact s2 z o e
   ·exact Nat.le_trans (zby _ _ _) (by lia)
   ·rw[ze5]
    by_cases e:c=cs[i]
    ·rw[if_pos (zh1.mpr e),decide_eq_true ((zb8 ci).mpr (.inr e))];rfl
    ·rw[if_neg (fun z=>e (zh1.mp z)),hv]
     exact decide_eq_decide.mpr ⟨fun z=>(zb8 ci).mpr (.inl z),fun z=>((zb8 ci).mp z).resolve_right e⟩
  ·rintro σ H2 ⟨o,rfl,s2,kvs,e2,hl,hv⟩
   refine k p H2 hp s2 ⟨kvs,e2,fun c=>?_⟩
   show (valV kvs (kC c)).isSome=isIn cs c
   rw[hv,hn,List.take_length];rfl
def zi2 (K:W.Frag):Sp:=fun vs H Q _=>∃ (t a:Addr) (C:Cell→Bool) (e:Edge),vs=[.ref t,.ref a]∧Tab H t C∧SqT K H a (edgeT e)∧e.w<4∧∀ H',Same H H'→Q (sv (stepB C e)) H'
theorem zeq (g_gone : Fn P w K mg base 1 "gone" ["x", "y", "step"] zf1) (g_slant_step : Fn P w K mg base 1 "slant_step" ["way"] zgW) (g_straight_step : Fn P w K mg base 1 "straight_step" ["way"] zdl)
  (d:Df K mg "step_behind" za8 ["table","edge"]):FnOk P w K mg base CX0 2 d.f d.fd ["table","edge"] (zi2 K):=by
 refine d.F.ok zbC (fun vs H Q E h=>?_) (fun cdv A outer s H vs Q E hr h=>?_)
 ·obtain⟨t,a,C,e,rfl,_⟩:=h
  rfl
 ·obtain⟨t,a,C,e,rfl,⟨kvs,ht,hC⟩,hq,hw,k⟩:=h
  have hu1:=hu_of hr
  refine⟨_,(zad (zcb (pv 1) (zbz (by rfl) (zah (zag (i:=2) zbC.nd (by rfl) (Or.inl rfl)) (zah (zag (i:=3) zbC.nd (by rfl) (Or.inl rfl)) (zah (zag (i:=4) zbC.nd (by rfl) (Or.inl rfl)) zaA)))))
   (zad (zbw PassesOwn.never rfl (zjn (zaI (zaj (zai g_slant_step.ok (hr.mono (by decide)) (by rfl) g_slant_step.m g_slant_step.kp g_slant_step.b .nil pass0 (pa_N (pv 4) zac)) (zaj (zai g_straight_step.ok (hr.mono (by decide)) (by rfl) g_straight_step.m g_straight_step.kp g_straight_step.b .nil pass0 (pa_N (pv 4) zac)) zac)))) (zag (i:=5) zbC.nd (by rfl) (Or.inl rfl))
   (zaf (ps_if (zd3 (zlj hu1 (zai g_gone.ok (hr.mono (by decide)) (by rfl) g_gone.m g_gone.kp g_gone.b .nil pass0 (pa_N (pv 2) (pa_N (pv 3) (pa_N (pv 5) zac)))) (pv 0)))
   (zaf (zan (pv 5)))
   zaH)))
   (zaf (zan zcJ)))),?_⟩
  refine⟨_,rfl,a,_,rfl,hq,rfl,_,_,rfl,_,_,rfl,_,_,rfl,rfl,?_⟩
  refine⟨_,rfl,e.w,rfl,hw,_,rfl,e.w,rfl,hw,two,fun p hp=>⟨p,rfl,⟨_,SqT.of zaa⟩,?_⟩⟩
  refine zhl (K:=K) (a:=p) (xs:=[.int ((2*e.w+7) % 8:Nat),.int (2*e.w:Nat)]) (fun i σ H2=>∃ o,σ=[some (.ref t),some (.ref a),some (.int e.c.1),some (.int e.c.2),some (.int e.w),o]∧Same (upd H p (.tup [.int ((2*e.w+7) % 8:Nat),.int (2*e.w:Nat)])) H2∧(1≤i→C (go e.c ((2*e.w+7) % 8))=false)∧(2≤i→C (go e.c (2*e.w))=false))
   ⟨_,rfl,Same.refl _,fun h=>absurd h (by decide),fun h=>absurd h (by decide)⟩ (fun i σ H2 _ ⟨_,_,s2,_⟩=>s2.seqT (SqT.of zaa)) ?_ ?_
  ·rintro i v σ H2 hi ⟨o,rfl,s2,n1,n2⟩
   have sH:Same H H2:=(Same.up hp).trans s2
   match i,hi with
   | 0,hi =>
    cases hi
    refine⟨_,rfl,_,rfl,_,rfl,e.c,(2*e.w+7) % 8,rfl,by lia,fun p1 H3 hp1 s3 f1=>?_⟩
    refine⟨_,rfl,t,_,rfl,.inr ⟨kvs,kC (go e.c ((2*e.w+7) % 8)),p1,Rd.of ((sH.trans s3) _ _ ht),rfl,f1,rfl⟩,_,rfl,?_⟩
    have hv:=hC (go e.c ((2*e.w+7) % 8))
    change (valV kvs (kC (go e.c ((2*e.w+7) % 8)))).isSome=_ at hv
    rw[hv]
    refine ite2 (fun hy=>?_) (fun hn=>?_)
    ·refine⟨_,rfl,?_⟩
     have:=k H3 (sH.trans s3)
     unfold stepB at this
     rw[if_pos hy] at this
     exact this
    ·exact⟨_,rfl,s2.trans s3,fun _=>by simpa using hn,fun h=>absurd h (by decide)⟩
   | 1,hi =>
    cases hi
    refine⟨_,rfl,_,rfl,_,rfl,e.c,2*e.w,rfl,by lia,fun p1 H3 hp1 s3 f1=>?_⟩
    refine⟨_,rfl,t,_,rfl,.inr ⟨kvs,kC (go e.c (2*e.w)),p1,Rd.of ((sH.trans s3) _ _ ht),rfl,f1,rfl⟩,_,rfl,?_⟩
    have hv:=hC (go e.c (2*e.w))
    change (valV kvs (kC (go e.c (2*e.w)))).isSome=_ at hv
    rw[hv]
    have h1:=n1 (by decide)
    refine ite2 (fun hy=>?_) (fun hn=>?_)
    ·refine⟨_,rfl,?_⟩
     have:=k H3 (sH.trans s3)
     unfold stepB at this
     rw[h1,if_neg (by decide),if_pos hy] at this
     exact this
    ·exact⟨_,rfl,s2.trans s3,fun _=>h1,fun _=>by simpa using hn⟩
   | i+2,hi=>simp at hi
  ·rintro σ H2 ⟨o,rfl,s2,n1,n2⟩
   have:=k H2 ((Same.up hp).trans s2)
   unfold stepB at this
   rw[n1 (by simp),n2 (by simp),if_neg (by decide),if_neg (by decide)] at this
   exact this
def zdV (K:W.Frag):Sp:=fun vs H Q _=>∃ (a:Addr) (e:Edge) (o:Option Nat),vs=[.ref a,sv o]∧SqT K H a (edgeT e)∧e.w<4∧(∀ s,o=some s→s<8)∧∀ (p:Addr) (H':Hp),H p=none→Same H H'→H' p=some (.tup (edgeT (edgeB e o)))→Q (.ref p) H'
theorem zev (g_gone : Fn P w K mg base 1 "gone" ["x", "y", "step"] zf1) (g_is_slant : Fn P w K mg base 1 "is_slant" ["step"] zc9)
  (d:Df K mg "edge_behind" zbb ["edge","step"]):FnOk P w K mg base CX0 2 d.f d.fd ["edge","step"] (zdV K):=by
 refine d.F.ok zbi (fun vs H Q E h=>?_) (fun cdv A outer s H vs Q E hr h=>?_)
 ·obtain⟨a,e,o,rfl,_⟩:=h
  rfl
 ·obtain⟨a,e,o,rfl,hq,hw,ho,k⟩:=h
  refine⟨_,(zad (zcb (pv 0) (zbz (by rfl) (zah (zag (i:=2) zbi.nd (by rfl) (Or.inl rfl)) (zah (zag (i:=3) zbi.nd (by rfl) (Or.inl rfl)) (zah (zag (i:=4) zbi.nd (by rfl) (Or.inl rfl)) zaA)))))
   (zad (ps_if (zaz zju (pv 1) zcJ (zaw _))
   (zaf (zan (zaI (pa_N (pv 2) (pa_N (pv 3) (pa_B (pe_op zb7 (pe_op zaG (pv 4) zae) zae) zac))))))
   zaH)
   (zad (zcb (zai g_gone.ok (hr.mono (by decide)) (by rfl) g_gone.m g_gone.kp g_gone.b .nil pass0 (pa_N (pv 2) (pa_N (pv 3) (pa_N (pv 1) zac)))) (zbz (by rfl) (zah (zag (i:=5) zbi.nd (by rfl) (Or.inl rfl)) (zah (zag (i:=6) zbi.nd (by rfl) (Or.inl rfl)) zaA))))
   (zad (ps_if (zdx (zai g_is_slant.ok (hr.mono (by decide)) (by rfl) g_is_slant.m g_is_slant.kp g_is_slant.b .nil pass0 (pa_N (pv 1) zac)))
   (zaf (zan (zaI (pa_N (pv 5) (pa_N (pv 6) (pa_B (pe_op zb7 (pe_op zaG (pv 4) zae) zae) zac))))))
   zaH)
   (zaf (zan (zaI (pa_N (pv 5) (pa_N (pv 6) (pa_N (pv 4) zac)))))))))),?_⟩
  refine⟨_,rfl,a,_,rfl,hq,rfl,_,_,rfl,_,_,rfl,_,_,rfl,rfl,?_⟩
  cases o with
  | none =>
   refine⟨_,rfl,rfl,true,rfl,iteT ?_⟩
   refine⟨_,rfl,_,rfl,_,rfl,_,_,rfl,rfl,_,_,rfl,rfl,(by show (0:Int)<4;decide),three,fun p hp=>k p _ hp (Same.up hp) ?_⟩
   rw[zaa]
   have e1:((e.w:Int)+1) % 4=(((e.w+1) % 4:Nat):Int):=by lia
   show some (HO.tup [.int e.c.1,.int e.c.2,.int (((e.w:Int)+1) % 4)])=_
   rw[e1];rfl
  | some n =>
   refine⟨_,rfl,rfl,false,rfl,iteF ?_⟩
   refine⟨_,rfl,_,rfl,_,rfl,e.c,n,rfl,ho n rfl,fun p1 H1 hp1 s1 f1=>?_⟩
   refine⟨p1,_,rfl,SqT.of f1,rfl,_,_,rfl,_,_,rfl,rfl,?_⟩
   refine⟨_,rfl,some n,rfl,_,rfl,?_⟩
   refine ite2 (fun hs=>?_) (fun hs=>?_)
   ·refine⟨_,rfl,_,rfl,_,rfl,_,_,rfl,rfl,_,_,rfl,rfl,(by show (0:Int)<4;decide),three,fun p hp=>k p _ (s1.free hp) (s1.trans (Same.up hp)) ?_⟩
    rw[zaa]
    have e1:((e.w:Int)+3) % 4=(((e.w+3) % 4:Nat):Int):=by lia
    have hn:n % 2=1:=by simpa[slant] using hs
    show some (HO.tup [.int (go e.c n).1,.int (go e.c n).2,.int (((e.w:Int)+3) % 4)])=_
    rw[e1]
    unfold edgeB
    simp only[if_pos hn]
    rfl
   ·refine⟨_,rfl,_,rfl,_,rfl,three,fun p hp=>k p _ (s1.free hp) (s1.trans (Same.up hp)) ?_⟩
    rw[zaa]
    have hn:¬ n % 2=1:=by simpa[slant] using hs
    unfold edgeB
    simp only[if_neg hn]
    rfl
end
open PySem L2 RP
def KT (H H':Hp):Prop:=∀ b xs,H b=some (.tup xs)→H' b=some (.tup xs)
theorem KT.refl (H:Hp):KT H H:=fun _ _ h=>h
theorem KT.trans {H H1 H2:Hp}(a:KT H H1) (b:KT H1 H2):KT H H2:=fun c o h=>b c o (a c o h)
theorem KT.of {H H':Hp}(s:Same H H'):KT H H':=fun b xs e=>s b _ e
theorem KT.up {H:Hp}{p:Addr}{o:HO}(h:H p=none):KT H (upd H p o):=KT.of (Same.up h)
theorem KT.lst {H:Hp}{p:Addr}{xs:List V}{o:HO}(h:H p=some (.lst xs)):KT H (upd H p o):=fun b ys e=>by
 rw[zam (ne_of e h (fun z=>nomatch z))];exact e
theorem KT.dct {H:Hp}{p:Addr}{xs:List (List Key×V)}{o:HO}(h:H p=some (.dT xs)):KT H (upd H p o):=fun b ys e=>by
 rw[zam (ne_of e h (fun z=>nomatch z))];exact e
theorem cR.kt {c:Cell}{v:V}{H H':Hp}(h:cR c v H) (s:KT H H'):cR c v H':=let ⟨b,e,q⟩:=h;⟨b,e,s _ _ q⟩
theorem eR.kt {c:Edge}{v:V}{H H':Hp}(h:eR c v H) (s:KT H H'):eR c v H':=let ⟨b,e,q⟩:=h;⟨b,e,s _ _ q⟩
theorem wR.kt {c:Edge×Option Nat}{v:V}{H H':Hp}(h:wR c v H) (s:KT H H'):wR c v H':=let ⟨A,b,e,q,r⟩:=h;⟨A,b,e,s _ _ q,s _ _ r⟩
def VR {α:Type}(vs:List V) (l:List α) (R:α→V→Hp→Prop) (H:Hp):Prop:=vs.length=l.length∧∀ (i:Nat) x v,l[i]?=some x→vs[i]?=some v→R x v H
theorem VR.nil {α:Type}{R:α→V→Hp→Prop}{H:Hp}:VR [] ([]:List α) R H:=⟨rfl,fun i x v h=>by simp at h⟩
theorem VR.snoc {α:Type}{vs:List V}{l:List α}{R:α→V→Hp→Prop}{H H':Hp}{x:α}{v:V}(h:VR vs l R H) (m:∀ x v,R x v H→R x v H') (hx:R x v H'):VR (vs++[v]) (l++[x]) R H':=by
 refine⟨by simp[h.1],fun i y u h1 h2=>?_⟩
 rcases Nat.lt_or_ge i l.length with hi | hi
 ·rw[List.getElem?_append_left hi] at h1
  rw[List.getElem?_append_left (by rw[h.1];exact hi)] at h2
  exact m _ _ (h.2 i y u h1 h2)
 ·rw[List.getElem?_append_right hi] at h1
  rw[List.getElem?_append_right (by rw[h.1];exact hi)] at h2
  have hz:i - l.length=0:=by
   have:=(List.getElem?_eq_some_iff.mp h1).1
   simp at this;lia
  rw[hz] at h1
  rw[h.1,hz] at h2
  cases h1;cases h2
  exact hx
theorem VR.mono {α:Type}{vs:List V}{l:List α}{R:α→V→Hp→Prop}{H H':Hp}(h:VR vs l R H) (m:∀ x v,R x v H→R x v H'):VR vs l R H':=⟨h.1,fun i x v h1 h2=>m _ _ (h.2 i x v h1 h2)⟩
theorem VR.at {α:Type}{vs:List V}{l:List α}{R:α→V→Hp→Prop}{H:Hp}(h:VR vs l R H){i:Nat}{v:V}(hv:vs[i]?=some v):∃ x,l[i]?=some x∧R x v H:=by
 have hi:i<l.length:=by rw[← h.1];exact (List.getElem?_eq_some_iff.mp hv).1
 exact⟨l[i],List.getElem?_eq_getElem hi,h.2 i _ v (List.getElem?_eq_getElem hi) hv⟩
theorem zas {H H2:Hp}{p:Addr}{o:HO}(hp:H p=none) (s:Same H H2):Same H (upd H2 p o):=fun z u e=>by rw[zam (zaq e hp)];exact s z u e
theorem zim (cs:List Cell) (c:Cell):sides (cs++[c])=sides cs++(List.range 4).map fun w=>⟨c,w⟩:=by unfold sides;simp[List.flatMap_append]
theorem zaE {α:Type}{l:List α}{i:Nat}{x:α}(h:l[i]?=some x):l.take (i+1)=l.take i++[x]:=by rw[List.take_succ,h];rfl
theorem zee {α:Type}(p:α→Bool) (l:List α) (x:α):(l++[x]).filter p=l.filter p++(if p x=true then [x] else []):=by
 rw[List.filter_append];congr 1;simp[List.filter_cons]
section
variable {P:Program}{w:World}{K:W.Frag}{mg:Str→Option Value}{base:Heap}
def zlf (K:W.Frag):Sp:=fun vs H Q _=>∃ (a:Addr) (cs:List Cell),vs=[.ref a]∧LR K H a cs cR∧cs.length≤120∧∀ p H' es,H p=none→Same H H'→H' p=some (.lst es)→VR es (allE cs) eR H'→Q (.ref p) H'
theorem zgl (T : Txt P w K mg) (g_cell_table : Fn P w K mg base 1 "cell_table" ["picture"] (zgV K)) (g_gap_beside : Fn P w K mg base 2 "gap_beside" ["edge"] (spGap K))
  (d:Df K mg "all_edges" zbe ["picture"]):FnOk P w K mg base CX0 3 d.f d.fd ["picture"] (zlf K):=by
 refine d.F.ok zcE (fun vs H Q E h=>?_) (fun cdv A outer s H vs Q E hr h=>?_)
 ·obtain⟨a,cs,rfl,_⟩:=h
  rfl
 ·obtain⟨a,cs,rfl,hLR,hlen,k⟩:=h
  obtain⟨ws,hq,hn,hc⟩:=id hLR
  have hu1:=hu_of hr
  have nb0:(["x","y","way"]:List Str).Nodup:=by decide +kernel
  have nb1:(["edge","table"]:List Str).Nodup:=by decide +kernel
  refine⟨_,(zad (zao (i:=1) zcE.nd (by rfl) (Or.inr rfl) (zai g_cell_table.ok (hr.mono (by decide)) (by rfl) g_cell_table.m g_cell_table.kp g_cell_table.b .nil pass0 (pa_N (pv 0) zac)))
   (zad (zji (i:=2) (osc:=zab zbe) (N:=zc5) (N':=["x","y","way"]) (sel:=[none,none,none]) ⟨rfl,by decide +kernel,by decide +kernel,by decide +kernel,rfl,by decide +kernel⟩ zcE.nd (by rfl) (Or.inl rfl) (zaJ (pv 0)) (fun _ _ _ _ _=>(zcx (K:=K) (n:=2) (by rfl) (zah (zag (i:=0) nb0 (by rfl) (Or.inl rfl)) (zah (zag (i:=1) nb0 (by rfl) (Or.inl rfl)) zaA)))) (fun _ _ _ _ _=>zb9) (fun _ _ _ _ _=>(zda (by rfl) T.nrange (pa_C zae zac))) (fun _ _ _ _ _=>(zag (i:=2) nb0 (by rfl) (Or.inl rfl))) (fun _ _ _ _ _=>zb9) (fun _ _ _ _ _=>(zaI (pa_N (pv 0) (pa_N (pv 1) (pa_N (pv 2) zac))))) (fun _ _ _=>rfl))
   (zaf (zan (zaV (osc:=zab zbe) (N:=zc5) (N':=["edge","table"]) (sel:=[none,some 1]) ⟨rfl,by decide +kernel,by decide +kernel,by decide +kernel,rfl,by decide +kernel⟩ (zaJ (pv 2)) (fun _ _ _ _ _=>(zag (i:=0) nb1 (by rfl) (Or.inl rfl))) (fun _ _ _ _ _=>zcI (zd3 (zcK hu1 (zai g_gap_beside.ok (hr.mono (by decide)) (by rfl) g_gap_beside.m g_gap_beside.kp g_gap_beside.b .nil pass0 (pa_N (pv 0) zac)) (pv 1)))) (fun _ _ _ _ _=>(pv 0))))))),?_⟩
  refine⟨_,rfl,a,cs,rfl,hLR,by lia,fun t H1 ht s1 tab=>?_⟩
  obtain⟨kvs,et,hC⟩:=tab
  refine⟨_,rfl,a,rfl,⟨_,s1.seq hq⟩,fun p hp=>?_⟩
  refine zaD (K:=K) (a:=a) (xs:=ws) (fun i σ H2=>∃ o1 o2 o3,σ=[o1,o2,o3]∧Same H1 H2∧∃ es,H2 p=some (.lst es)∧VR es (sides (cs.take i)) eR H2)
   ⟨_,_,_,rfl,Same.up hp,[],zaa,VR.nil⟩ (fun i σ H2 _ ⟨_,_,_,_,s2,_⟩=>(s1.trans s2).seq hq) ?_ ?_
  ·rintro i v σ H2 hi ⟨o1,o2,o3,rfl,s2,es,e2,hv⟩
   have hil:i<ws.length:=(List.getElem?_eq_some_iff.mp hi).1
   have ci:cs[i]?=some cs[i]:=List.getElem?_eq_getElem (by lia)
   obtain⟨b,rfl,qb⟩:=hc i _ _ ci hi
   refine⟨b,_,rfl,SqT.of ((s1.trans s2) _ _ qb),rfl,_,_,rfl,_,_,rfl,rfl,?_⟩
   refine zcN ?_
   refine⟨4,rfl,by decide,by decide,?_⟩
   refine zcm (lo:=0) (n:=4) (fun j σ H3=>∃ o,σ=[some (.int cs[i].1),some (.int cs[i].2),o]∧Same H1 H3∧∃ es,H3 p=some (.lst es)∧VR es (sides (cs.take i)++(List.range j).map fun w=>⟨cs[i],w⟩) eR H3)
    ⟨_,rfl,s2,es,e2,by simpa using hv⟩ ?_ ?_
   ·rintro j σ H3 hj ⟨o,rfl,s3,es3,e3,hv3⟩
    have hl3:es3.length≤1000:=by
     rw[hv3.1,List.length_append,zb5,List.length_take,List.length_map,List.length_range];lia
    refine gN ?_
    refine⟨_,rfl,_,rfl,_,rfl,three,fun q hq'=>⟨es3,?_,zav hl3,_,rfl,zas hp (s3.trans (Same.up hq')),_,zaa,?_⟩⟩
    ·rw[zam (zaq e3 hq')];exact e3
    ·rw[List.range_succ,List.map_append,← List.append_assoc]
     have hpq:p≠q:=zaq e3 hq'
     have k2:KT (upd H3 q (.tup [.int cs[i].1,.int cs[i].2,.int (0+(j:Int))])) (upd (upd H3 q (.tup [.int cs[i].1,.int cs[i].2,.int (0+(j:Int))])) p (.lst (es3++[.ref q]))):=KT.lst (xs:=es3) (by rw[zam hpq];exact e3)
     refine hv3.snoc (fun x v hx=>hx.kt ((KT.up hq').trans k2)) ⟨q,rfl,k2 _ _ ?_⟩
     rw[zaa]
     show some (HO.tup [.int cs[i].1,.int cs[i].2,.int (0+(j:Int))])=some (HO.tup [.int cs[i].1,.int cs[i].2,.int (j:Int)])
     rw[Int.zero_add]
   ·rintro σ H3 ⟨o,rfl,s3,es3,e3,hv3⟩
    exact⟨_,_,_,rfl,s3,es3,e3,by rw[zaE ci,zim];exact hv3⟩
  ·rintro σ H2 ⟨o1,o2,o3,rfl,s2,es,e2,hv⟩
   rw[hn,List.take_length] at hv
   have hles:es.length≤1000:=by rw[hv.1,zb5];lia
   refine⟨_,rfl,p,rfl,⟨_,SqL.of e2⟩,fun p2 hp2=>?_⟩
   refine zaD (K:=K) (a:=p) (xs:=es) (fun i σ H3=>∃ o,σ=[o,some (.ref t)]∧Same H2 H3∧∃ es3,H3 p2=some (.lst es3)∧VR es3 (((sides cs).take i).filter fun e=>!isIn cs (gap e)) eR H3)
    ⟨_,rfl,Same.up hp2,[],zaa,VR.nil⟩ (fun i σ H3 _ ⟨_,_,s3,_⟩=>s3.seq (SqL.of e2)) ?_ ?_
   ·rintro i v σ H3 hi ⟨o,rfl,s3,es3,e3,hv3⟩
    obtain⟨e,he,b,rfl,qb⟩:=hv.at hi
    have hw4:e.w<4:=(zcL.mp (List.mem_of_getElem? he)).2
    have hl3:es3.length≤1000:=by
     have h1:=List.length_filter_le (fun e=>!isIn cs (gap e)) ((sides cs).take i)
     rw[hv3.1]
     rw[List.length_take,zb5] at h1
     lia
    refine⟨_,rfl,b,e,rfl,SqT.of (s3 _ _ qb),hw4,fun p3 H4 hp3 s4 f4=>?_⟩
    refine⟨_,rfl,t,_,rfl,.inr ⟨kvs,kC (gap e),p3,Rd.of ((s2.trans (s3.trans s4)) _ _ et),rfl,f4,rfl⟩,_,rfl,?_⟩
    have hcv:=hC (gap e)
    change (valV kvs (kC (gap e))).isSome=_ at hcv
    rw[hcv,zaE he,zee]
    refine ite2 (fun hy=>?_) (fun hn'=>?_)
    ·refine⟨_,rfl,es3,s4 _ _ e3,zav hl3,_,rfl,zas hp2 (s3.trans s4),_,zaa,?_⟩
     rw[if_pos hy]
     have k2:KT H4 (upd H4 p2 (.lst (es3++[.ref b]))):=KT.lst (s4 _ _ e3)
     exact hv3.snoc (fun x v hx=>hx.kt ((KT.of s4).trans k2)) ⟨b,rfl,k2 _ _ ((s3.trans s4) _ _ qb)⟩
    ·refine⟨_,rfl,s3.trans s4,es3,s4 _ _ e3,?_⟩
     rw[if_neg hn',List.append_nil]
     exact hv3.mono fun x v hx=>hx.kt (KT.of s4)
   ·rintro σ H3 ⟨o,rfl,s3,es3,e3,hv3⟩
    rw[hv.1,List.take_length] at hv3
    exact k p2 H3 es3 (s1.free (s2.free hp2)) (s1.trans (s2.trans s3)) e3 hv3
end
open PySem L2 RP
def eI (e:Edge):List Int:=[e.c.1,e.c.2,(e.w:Int)]
theorem zh9 {e f:Edge}:eI e=eI f ↔ e=f:=by
 constructor
 ·intro h
  obtain⟨⟨x,y⟩,w⟩:=e
  obtain⟨⟨x',y'⟩,w'⟩:=f
  unfold eI at h
  injection h with h1 h2
  injection h2 with h2 h3
  injection h3 with h3 _
  simp only at h1 h2 h3
  have:w=w':=by lia
  subst h1 h2 this
  rfl
 ·rintro rfl;rfl
theorem zcH {K:W.Frag}{H:Hp}{b:Addr}{e:Edge}(h:H b=some (.tup (edgeT e))):RD K H (.ref b) (tI (eI e)):=.tup (SqT.of h) (RDs.ints (eI e))
theorem zc7 {C:Cell→Bool}{e:Edge}(hw:e.w<4):∀ s,stepB C e=some s→s<8:=by
 intro s h
 unfold stepB at h
 split at h
 ·cases h;lia
 ·split at h
  ·cases h;lia
  ·cases h
def wk (C:Cell→Bool) (es:List Edge):List (Edge×Option Nat):=es.map fun e=>(e,stepB C e)
theorem zly (C:Cell→Bool) (es:List Edge) (e:Edge):wk C (es++[e])=wk C es++[(e,stepB C e)]:=by unfold wk;simp
theorem zb4 (C:Cell→Bool) (es:List Edge):(wk C es).length=es.length:=by unfold wk;simp
def zjF:Option HO→Nat
 | some (.lst ws)=>ws.length
 | _=>0
section
variable {P:Program}{w:World}{K:W.Frag}{mg:Str→Option Value}{base:Heap}
def zk9 (K:W.Frag):Sp:=fun vs H Q _=>∃ (t a:Addr) (cs:List Cell) (b:Edge),vs=[.ref t,.ref a]∧Tab H t (isIn cs)∧H a=some (.tup (edgeT b))∧IsE (isIn cs) b∧cs.length≤120 ∧
 ∀ p H' ws es,H p=none→Same H H'→H' p=some (.lst ws)→VR ws (wk (isIn cs) es) wR H'→Closed (isIn cs) b es→Q (.ref p) H'
theorem zgi (g_step_behind : Fn P w K mg base 2 "step_behind" ["table", "edge"] (zi2 K)) (g_edge_behind : Fn P w K mg base 2 "edge_behind" ["edge", "step"] (zdV K))
  (d:Df K mg "walk_from" zbG ["table","begin"]):FnOk P w K mg base CX0 3 d.f d.fd ["table","begin"] (zk9 K):=by
 refine d.F.ok zbO (fun vs H Q E h=>?_) (fun cdv A outer s H vs Q E hr h=>?_)
 ·obtain⟨t,a,cs,b,rfl,_⟩:=h
  rfl
 ·obtain⟨t,a,cs,b,rfl,tab,ha,hb,hlen,k⟩:=h
  have hu64:=hr.units
  refine⟨_,(zad (zao (i:=2) zbO.nd (by rfl) (Or.inl rfl) (zai g_step_behind.ok (hr.mono (by decide)) (by rfl) g_step_behind.m g_step_behind.kp g_step_behind.b .nil pass0 (pa_N (pv 0) (pa_N (pv 1) zac))))
   (zad (zao (i:=3) zbO.nd (by rfl) (Or.inl rfl) (zbm (pa_T (zaI (pa_N (pv 1) (pa_N (pv 2) zac))) zac)))
   (zad (zao (i:=4) zbO.nd (by rfl) (Or.inl rfl) (zai g_edge_behind.ok (hr.mono (by decide)) (by rfl) g_edge_behind.m g_edge_behind.kp g_edge_behind.b .nil pass0 (pa_N (pv 1) (pa_N (pv 2) zac))))
   (zad (zhM PassesOwn.never (zaz (zdA hu64) (pv 4) (pv 1) (zaw _))
   (zad (zao (i:=2) zbO.nd (by rfl) (Or.inl rfl) (zai g_step_behind.ok (hr.mono (by decide)) (by rfl) g_step_behind.m g_step_behind.kp g_step_behind.b .nil pass0 (pa_N (pv 0) (pa_N (pv 4) zac))))
   (zad (zco (pe_bm PySem.F.plainAttrs_list PySem.F.slot_list_append PySem.F.type_list_append zbX (pv 3) (pa_T (zaI (pa_N (pv 4) (pa_N (pv 2) zac))) zac)))
   (zaf (zao (i:=4) zbO.nd (by rfl) (Or.inl rfl) (zai g_edge_behind.ok (hr.mono (by decide)) (by rfl) g_edge_behind.m g_edge_behind.kp g_edge_behind.b .nil pass0 (pa_N (pv 4) (pa_N (pv 2) zac))))))))
   (zaf (zan (pv 3))))))),?_⟩
  refine⟨_,rfl,_,rfl,t,a,isIn cs,b,rfl,tab,SqT.of ha,hb.1,fun H1 s1=>?_⟩
  refine⟨_,rfl,_,rfl,two,fun q hq=>⟨(by show 1≤sizeLine;decide),fun p hp=>?_⟩⟩
  have hpq:p≠q:=fun z=>by subst z;rw[zaa] at hp;cases hp
  have hp1:H1 p=none:=by rw[zam hpq] at hp;exact hp
  have s2:Same H1 (upd (upd H1 q (.tup [.ref a,sv (stepB (isIn cs) b)])) p (.lst [.ref q])):=zas hp1 (Same.up hq)
  refine⟨_,rfl,_,rfl,a,b,stepB (isIn cs) b,rfl,SqT.of (s2 _ _ (s1 _ _ ha)),hb.1,zc7 hb.1,fun r H3 hr3 s3 f3=>?_⟩
  have s03:Same H H3:=s1.trans (s2.trans s3)
  have hp0:H p=none:=s1.free hp1
  refine zko (fun σ H4=>∃ ws es l o re,σ=[some (.ref t),some (.ref a),some o,some (.ref p),some (.ref re)]∧Same H H4∧H4 p=some (.lst ws)∧VR ws (wk (isIn cs) (es++[l])) wR H4∧Chain (isIn cs) b (es++[l])∧H4 re=some (.tup (edgeT (nxt (isIn cs) l))))
   (fun _ H4=>4*cs.length+1 - zjF (H4 p)) ?_ ?_ ?_
  ·refine⟨[.ref q],[],b,_,r,rfl,s03,s3 _ _ zaa,⟨rfl,fun i x v h1 h2=>?_⟩,Chain.start hb,f3⟩
   match i,h1,h2 with
   | 0,h1,h2 =>
    cases h1;cases h2
    refine⟨q,a,rfl,s3 _ _ ?_,s03 _ _ ha⟩
    rw[zam (Ne.symm hpq),zaa]
   | i+1,h1,h2=>simp at h2
  ·rintro σ H4 ⟨ws,es,l,o,re,rfl,s4,e4,hv,hch,er⟩
   have hw4:(nxt (isIn cs) l).w<4:=(zdB (hch.2.2.1 l (by simp))).1
   refine⟨_,rfl,_,rfl,_,_,zcH er,zcH (s4 _ _ ha),zaF _,zaF _,_,rfl,?_⟩
   rw[zcW]
   by_cases hne:nxt (isIn cs) l=b
   ·rw[decide_eq_true (zh9.mpr hne)]
    refine iteF ?_
    refine⟨_,rfl,k p H4 ws (es++[l]) hp0 s4 e4 hv ⟨hch,l,?_,hne⟩⟩
    simp
   ·rw[decide_eq_false (fun z=>hne (zh9.mp z))]
    refine iteT ?_
    have hch2:=hch.more hne
    have hsh:=hch2.short
    have hl4:ws.length=(es++[l]).length:=by rw[hv.1,zb4]
    have hl5:ws.length+1≤4*cs.length:=by rw[hl4];rw[List.length_append,List.length_singleton] at hsh;exact hsh
    refine⟨_,rfl,_,rfl,t,re,isIn cs,nxt (isIn cs) l,rfl,tab.same s4,SqT.of er,hw4,fun H5 s5=>?_⟩
    refine⟨_,rfl,.inl ⟨rfl,_,SqL.of (s5 _ _ e4)⟩,_,rfl,_,rfl,two,fun q5 hq5=>?_⟩
    have e5:=s5 _ _ e4
    have hp5:p≠q5:=zaq e5 hq5
    refine⟨p,ws,_,rfl,rfl,(by rw[zam hp5];exact e5),zav (by lia),?_⟩
    have k5:KT H5 (upd (upd H5 q5 (.tup [.ref re,sv (stepB (isIn cs) (nxt (isIn cs) l))])) p (.lst (ws++[.ref q5]))):=(KT.up hq5).trans (KT.lst (xs:=ws) (by rw[zam hp5];exact e5))
    have e6:upd (upd H5 q5 (.tup [.ref re,sv (stepB (isIn cs) (nxt (isIn cs) l))])) p (.lst (ws++[.ref q5])) re=some (.tup (edgeT (nxt (isIn cs) l))):=k5 _ _ (s5 _ _ er)
    have s6:Same H (upd (upd H5 q5 (.tup [.ref re,sv (stepB (isIn cs) (nxt (isIn cs) l))])) p (.lst (ws++[.ref q5]))):=zas hp0 ((s4.trans s5).trans (Same.up hq5))
    refine⟨_,rfl,_,rfl,re,nxt (isIn cs) l,_,rfl,SqT.of e6,hw4,zc7 hw4,fun r7 H7 hr7 s7 f7=>?_⟩
    have e7:=s7 _ _ zaa
    refine⟨⟨ws++[.ref q5],es++[l],nxt (isIn cs) l,_,r7,rfl,s6.trans s7,e7,?_,hch2,f7⟩,?_⟩
    ·rw[zly]
     refine hv.snoc (fun x v hx=>hx.kt ((KT.of s5).trans (k5.trans (KT.of s7)))) ⟨q5,re,rfl,s7 _ _ ?_,s7 _ _ e6⟩
     rw[zam (Ne.symm hp5),zaa]
    ·show 4*cs.length+1 - zjF (H7 p)<4*cs.length+1 - zjF (H4 p)
     rw[e7,e4]
     show 4*cs.length+1 - (ws++[V.ref q5]).length<4*cs.length+1 - ws.length
     rw[List.length_append,List.length_singleton]
     lia
  ·rintro σ H4 Q1 Q2 hQ ⟨v,h1,v2,h2,dd,ee,r1,r2,x1,x2,kk,h3,q⟩
   exact⟨v,h1,v2,h2,dd,ee,r1,r2,x1,x2,kk,h3,hQ _ _ q⟩
end
open PySem L2 RP
abbrev Wk:=List (Edge×Option Nat)
def nL (W:Wk):Nat:=(W.filter fun q=>q.2.isNone).length
def nS (W:Wk):Nat:=(W.filter fun q=>slant q.2).length
theorem zk8 (o:Option Nat):decide (sv o=V.non)=o.isNone:=by cases o <;> simp[sv]
theorem zc2 {α:Type}{p:α→Bool}{l:List α}{i:Nat}{x:α}(h:l[i]?=some x):((l.take (i+1)).filter p)=(l.take i).filter p++(if p x=true then [x] else []):=by rw[zaE h,zee]
theorem LR.vr {α:Type}{K:W.Frag}{H:Hp}{a:Addr}{l:List α}{R:α→V→Hp→Prop}(h:LR K H a l R):∃ vs,SqL K H a vs∧VR vs l R H:=let ⟨vs,q,n,r⟩:=h;⟨vs,q,n,r⟩
theorem LR.of {α:Type}{K:W.Frag}{H:Hp}{a:Addr}{vs:List V}{l:List α}{R:α→V→Hp→Prop}(e:H a=some (.lst vs)) (h:VR vs l R H):LR K H a l R:=⟨vs,SqL.of e,h.1,h.2⟩
section
variable {P:Program}{w:World}{K:W.Frag}{mg:Str→Option Value}{base:Heap}
def zi5 (K:W.Frag):Sp:=fun vs H Q _=>∃ (a:Addr) (W:Wk),vs=[.ref a]∧LR K H a W wR∧W.length≤500∧∀ p H',H p=none→Same H H'→H' p=some (.tup [.int (nL W),.int (nS W)])→Q (.ref p) H'
theorem zcZ (T:Txt P w K mg) (g_is_slant:Fn P w K mg base 1 "is_slant" ["step"] zc9) (d:Df K mg "lefts_and_slants" zat ["walk"]):FnOk P w K mg base CX0 2 d.f d.fd ["walk"] (zi5 K):=by
 refine d.F.ok zbE (fun vs H Q E h=>?_) (fun cdv A outer s H vs Q E hr h=>?_)
 ·obtain⟨a,W,rfl,_⟩:=h
  rfl
 ·obtain⟨a,W,rfl,hLR,hlen,k⟩:=h
  obtain⟨ws,hq,hv⟩:=hLR.vr
  have nb0:(["edge","step"]:List Str).Nodup:=by decide +kernel
  have nb1:(["edge","step"]:List Str).Nodup:=by decide +kernel
  refine⟨_,(zad (zao (i:=1) zbE.nd (by rfl) (Or.inl rfl) (zaK zbT (by rfl) T.nlen (by rfl) (zaj (zaV (osc:=zab zat) (N:=zbZ) (N':=["edge","step"]) (sel:=[none,none]) ⟨rfl,by decide +kernel,by decide +kernel,by decide +kernel,rfl,by decide +kernel⟩ (zaJ (pv 0)) (fun _ _ _ _ _=>(zcx (K:=K) (n:=2) (by rfl) (zah (zag (i:=0) nb0 (by rfl) (Or.inl rfl)) (zah (zag (i:=1) nb0 (by rfl) (Or.inl rfl)) zaA)))) (fun _ _ _ _ _=>zcI (zaz zju (pv 1) zcJ (zaw _))) (fun _ _ _ _ _=>(pv 1))) zac)))
   (zad (zao (i:=2) zbE.nd (by rfl) (Or.inl rfl) (zaK zbT (by rfl) T.nlen (by rfl) (zaj (zaV (osc:=zab zat) (N:=zbZ) (N':=["edge","step"]) (sel:=[none,none]) ⟨rfl,by decide +kernel,by decide +kernel,by decide +kernel,rfl,by decide +kernel⟩ (zaJ (pv 0)) (fun _ _ _ _ _=>(zcx (K:=K) (n:=2) (by rfl) (zah (zag (i:=0) nb1 (by rfl) (Or.inl rfl)) (zah (zag (i:=1) nb1 (by rfl) (Or.inl rfl)) zaA)))) (fun _ _ _ _ _=>zcI (zdx (zai g_is_slant.ok (hr.mono (by decide)) (by rfl) g_is_slant.m g_is_slant.kp g_is_slant.b .nil pass0 (pa_N (pv 1) zac)))) (fun _ _ _ _ _=>(pv 1))) zac)))
   (zaf (zan (zaI (pa_N (pv 1) (pa_N (pv 2) zac))))))),?_⟩
  refine⟨_,rfl,a,rfl,⟨_,hq⟩,fun p hp=>?_⟩
  refine zaD (K:=K) (a:=a) (xs:=ws) (fun i σ H2=>∃ o1 o2,σ=[o1,o2]∧Same H H2∧∃ ss:List V,H2 p=some (.lst ss)∧ss.length=((W.take i).filter fun q=>q.2.isNone).length)
   ⟨_,_,rfl,Same.up hp,[],zaa,rfl⟩ (fun i σ H2 _ ⟨_,_,_,s2,_⟩=>s2.seq hq) ?_ ?_
  ·rintro i v σ H2 hi ⟨o1,o2,rfl,s2,ss,e2,hl⟩
   obtain⟨⟨e,st⟩,he,B,b,rfl,q1,q2⟩:=hv.at hi
   have hl2:ss.length≤1000:=by
    have:=List.length_filter_le (fun q:Edge×Option Nat=>q.2.isNone) (W.take i)
    rw[List.length_take] at this;lia
   refine⟨B,_,rfl,SqT.of (s2 _ _ q1),rfl,_,_,rfl,_,_,rfl,rfl,?_⟩
   refine⟨_,rfl,rfl,_,rfl,?_⟩
   rw[zk8]
   rw[zc2 he] at *
   refine ite2 (fun hy=>?_) (fun hn=>?_)
   ·refine⟨_,rfl,ss,e2,zav hl2,_,_,rfl,zas hp s2,_,zaa,?_⟩
    rw[if_pos hy,List.length_append,List.length_append,hl];rfl
   ·exact⟨_,_,rfl,s2,ss,e2,by rw[if_neg hn,List.append_nil];exact hl⟩
  ·rintro σ H2 ⟨o1,o2,rfl,s2,ss,e2,hl⟩
   refine⟨p,_,rfl,.inl (SqL.of e2),?_⟩
   refine⟨_,rfl,a,rfl,⟨_,s2.seq hq⟩,fun p2 hp2=>?_⟩
   refine zaD (K:=K) (a:=a) (xs:=ws) (fun i σ H3=>∃ o1 o2,σ=[o1,o2]∧Same H2 H3∧∃ s3:List V,H3 p2=some (.lst s3)∧s3.length=((W.take i).filter fun q=>slant q.2).length)
    ⟨_,_,rfl,Same.up hp2,[],zaa,rfl⟩ (fun i σ H3 _ ⟨_,_,_,s3,_⟩=>(s2.trans s3).seq hq) ?_ ?_
   ·rintro i v σ H3 hi ⟨o1,o2,rfl,s3,ss3,e3,hl3⟩
    obtain⟨⟨e,st⟩,he,B,b,rfl,q1,q2⟩:=hv.at hi
    have hl2:ss3.length≤1000:=by
     have:=List.length_filter_le (fun q:Edge×Option Nat=>slant q.2) (W.take i)
     rw[List.length_take] at this;lia
    refine⟨B,_,rfl,SqT.of ((s2.trans s3) _ _ q1),rfl,_,_,rfl,_,_,rfl,rfl,?_⟩
    refine⟨_,rfl,st,rfl,_,rfl,?_⟩
    rw[zc2 he] at *
    refine ite2 (fun hy=>?_) (fun hn=>?_)
    ·refine⟨_,rfl,ss3,e3,zav hl2,_,_,rfl,zas hp2 s3,_,zaa,?_⟩
     rw[if_pos hy,List.length_append,List.length_append,hl3];rfl
    ·exact⟨_,_,rfl,s3,ss3,e3,by rw[if_neg hn,List.append_nil];exact hl3⟩
   ·rintro σ H3 ⟨o1,o2,rfl,s3,ss3,e3,hl3⟩
    refine⟨p2,_,rfl,.inl (SqL.of e3),?_⟩
    refine⟨_,rfl,_,rfl,two,fun p4 hp4=>k p4 _ (s2.free (s3.free hp4)) ((s2.trans s3).trans (Same.up hp4)) ?_⟩
    rw[hv.1,List.take_length] at hl hl3
    rw[zaa,hl,hl3];rfl
def zi4 (K:W.Frag):Sp:=fun vs H Q _=>∃ (a:Addr) (W:Wk),vs=[.ref a]∧LR K H a W wR∧W.length≤500∧∀ H',Same H H'→Q (.int ((nL W:Int) - nS W)) H'
theorem zcS (g_lefts_and_slants:Fn P w K mg base 2 "lefts_and_slants" ["walk"] (zi5 K)) (d:Df K mg "lefts_less_slants" zay ["walk"]):FnOk P w K mg base CX0 3 d.f d.fd ["walk"] (zi4 K):=by
 refine d.F.ok zbA (fun vs H Q E h=>?_) (fun cdv A outer s H vs Q E hr h=>?_)
 ·obtain⟨a,W,rfl,_⟩:=h
  rfl
 ·obtain⟨a,W,rfl,hLR,hlen,k⟩:=h
  refine⟨_,(zad (zcb (zai g_lefts_and_slants.ok (hr.mono (by decide)) (by rfl) g_lefts_and_slants.m g_lefts_and_slants.kp g_lefts_and_slants.b .nil pass0 (pa_N (pv 0) zac)) (zbz (by rfl) (zah (zag (i:=1) zbA.nd (by rfl) (Or.inl rfl)) (zah (zag (i:=2) zbA.nd (by rfl) (Or.inl rfl)) zaA))))
   (zaf (zan (pe_op zbS (pv 1) (pv 2))))),?_⟩
  refine⟨_,rfl,a,W,rfl,hLR,hlen,fun p H1 hp s1 f1=>?_⟩
  refine⟨p,_,rfl,SqT.of f1,rfl,_,_,rfl,_,_,rfl,rfl,?_⟩
  exact⟨_,rfl,_,rfl,_,_,rfl,rfl,k H1 s1⟩
def sortS (W:Wk):Str:=if nS W<nL W then "rim" else "hole"
def zlc (K:W.Frag):Sp:=fun vs H Q _=>∃ (a:Addr) (W:Wk),vs=[.ref a]∧LR K H a W wR∧W.length≤500∧∀ H',Same H H'→Q (.str (sortS W)) H'
theorem ziv (g_lefts_less_slants:Fn P w K mg base 3 "lefts_less_slants" ["walk"] (zi4 K)) (d:Df K mg "sort_of" zcj ["walk"]):FnOk P w K mg base CX0 4 d.f d.fd ["walk"] (zlc K):=by
 refine d.F.ok zio (fun vs H Q E h=>?_) (fun cdv A outer s H vs Q E hr h=>?_)
 ·obtain⟨a,W,rfl,_⟩:=h
  rfl
 ·obtain⟨a,W,rfl,hLR,hlen,k⟩:=h
  refine⟨_,(zaf (zan (zfn (zaz op_gt (zai g_lefts_less_slants.ok (hr.mono (by decide)) (by rfl) g_lefts_less_slants.m g_lefts_less_slants.kp g_lefts_less_slants.b .nil pass0 (pa_N (pv 0) zac)) zae (zaw _)) zd4 zd4))),?_⟩
  refine⟨_,rfl,a,W,rfl,hLR,hlen,fun H1 s1=>?_⟩
  refine⟨_,_,rfl,rfl,_,rfl,?_⟩
  have h1:=k H1 s1
  unfold sortS at h1
  by_cases hlt:nS W<nL W
  ·rw[if_pos hlt] at h1
   exact iteY (decide_eq_true (by lia)) h1
  ·rw[if_neg hlt] at h1
   exact iteN (decide_eq_false (by lia)) h1
def kOf (s:Str):Nat:=if s = "rim" then 0 else 2
def zcz (W:Wk) (s:Str) (e:Edge):Prop:=e∈W.map (·.1)∧e.w=kOf s∧∀ f∈W.map (·.1),f.w=kOf s→HT.lexLt [f.c.2,f.c.1] [e.c.2,e.c.1]=false
def zgY (K:W.Frag):Sp:=fun vs H Q _=>∃ (a:Addr) (W:Wk) (s:Str),vs=[.ref a,.str s]∧(s = "rim" ∨ s = "hole")∧LR K H a W wR∧W.length≤500∧(∃ e∈W.map (·.1),e.w=kOf s) ∧
 ∀ b e H',Same H H'→H' b=some (.tup (edgeT e))→zcz W s e→Q (.ref b) H'
theorem zhg (T:Txt P w K mg) (g_cell_order:Fn P w K mg base 1 "cell_order" ["cell"] (zgX K)) (d:Df K mg "begin_of" zbR ["walk","sort"]):FnOk P w K mg base CX0 3 d.f d.fd ["walk","sort"] (zgY K):=by
  refine d.F.ok zg4 (fun vs H Q E h=>?_) (fun cdv A outer s H vs Q E hr h=>?_)
  · obtain⟨a,W,s,rfl,_⟩:=h
    rfl
  · obtain⟨a,W,so,rfl,hso,hLR,hlen,hex,k⟩:=h
    obtain⟨ws,hq,hv⟩:=hLR.vr
    have nb0:(["edge","step","sort"]:List Str).Nodup:=by decide +kernel
    refine⟨_,(zaf (zan (zlN g_cell_order.ok (hr.mono (by decide)) g_cell_order.b (by rfl) T.nmin (by rfl) g_cell_order.m (zaV (osc:=zab zbR) (N:=zeY) (N':=["edge","step","sort"]) (sel:=[none,none,some 1]) ⟨rfl,by decide +kernel,by decide +kernel,by decide +kernel,rfl,by decide +kernel⟩ (zaJ (pv 0)) (fun _ _ _ _ _=>(zcx (K:=K) (n:=2) (by rfl) (zah (zag (i:=0) nb0 (by rfl) (Or.inl rfl)) (zah (zag (i:=1) nb0 (by rfl) (Or.inl rfl)) zaA)))) (fun _ _ _ _ _=>zcI (zaz op_eq (pe_ix (zc1 (K:=K)) (pv 0) zae (fun _ _=>rfl)) (zjq (by rfl) T.ways (pv 2)) (zaw _))) (fun _ _ _ _ _=>(pv 0)))))),?_⟩
    refine⟨_,rfl,a,rfl,⟨_,hq⟩,fun p hp=>?_⟩
    refine zaD (K:=K) (a:=a) (xs:=ws) (fun i σ H2=>∃ o1 o2,σ=[o1,o2,some (.str so)]∧Same H H2∧∃ es:List V,H2 p=some (.lst es)∧VR es (((W.take i).filter fun q=>q.1.w == kOf so).map (·.1)) eR H2)
      ⟨_,_,rfl,Same.up hp,[],zaa,VR.nil⟩ (fun i σ H2 _ ⟨_,_,_,s2,_⟩=>s2.seq hq) ?_ ?_
    · rintro i v σ H2 hi ⟨o1,o2,rfl,s2,es,e2,hl⟩
      obtain⟨⟨e,st⟩,he,B,b,rfl,q1,q2⟩:=hv.at hi
      have hl2:es.length≤1000:=by
        have:=List.length_filter_le (fun q:Edge×Option Nat=>q.1.w == kOf so) (W.take i)
        rw[hl.1,List.length_map]
        rw[List.length_take] at this;lia
      have fin : ∀ kk : Int, kk = (kOf so : Int) → (if decide (V.int (e.w : Int) = V.int kk) = true then zcC p (tVar 0) { nx := fun σ H2 => ∃ o1 o2, σ = [o1, o2, some (V.str so)] ∧ Same H H2 ∧ ∃ es, H2 p = some (.lst es) ∧ VR es (List.map (fun x => x.fst) (List.filter (fun q => q.1.w == kOf so) (List.take (i + 1) W))) eR H2, rt := fun _ _ => False } [some (.ref b), some (sv st), some (.str so)] H2
          else (∃ o1 o2,[some (.ref b),some (sv st),some (V.str so)]=[o1,o2,some (V.str so)]∧Same H H2∧∃ es,H2 p=some (.lst es)∧VR es (List.map (fun x=>x.fst) (List.filter (fun q=>q.1.w == kOf so) (List.take (i+1) W))) eR H2)):=fun kk hk=>by
        have hd:decide (V.int (e.w:Int)=V.int kk)=(e.w == kOf so):=by
          subst hk
          by_cases q:e.w=kOf so
          · rw[q];simp
          · rw[decide_eq_false (fun z=>q (by injection z with z;lia))];simp[q]
        rw[hd,zc2 he]
        refine ite2 (fun hy=>?_) (fun hn=>?_)
        · refine⟨_,rfl,es,e2,zav hl2,_,_,rfl,zas hp s2,_,zaa,?_⟩
          rw[if_pos hy,List.map_append]
          have k2:KT H2 (upd H2 p (.lst (es++[.ref b]))):=KT.lst e2
          exact hl.snoc (fun x v hx=>hx.kt k2) ⟨b,rfl,k2 _ _ (s2 _ _ q2)⟩
        · exact⟨_,_,rfl,s2,es,e2,by rw[if_neg hn,List.append_nil];exact hl⟩
      refine⟨B,_,rfl,SqT.of (s2 _ _ q1),rfl,_,_,rfl,_,_,rfl,rfl,?_⟩
      rcases hso with z | z
      · have f0:=fin 0 (by rw[z];rfl)
        exact⟨_,rfl,b,_,_,_,rfl,rfl,SqT.of (s2 _ _ q2),zap (j:=2) rfl,_,rfl,.inl ⟨by rw[z],rfl,_,rfl,f0⟩⟩
      · have f2:=fin 2 (by rw[z];rfl)
        exact⟨_,rfl,b,_,_,_,rfl,rfl,SqT.of (s2 _ _ q2),zap (j:=2) rfl,_,rfl,.inr ⟨by rw[z],rfl,_,rfl,f2⟩⟩
    · rintro σ H2 ⟨o1,o2,rfl,s2,es,e2,hl⟩
      rw[hv.1,List.take_length] at hl
      obtain⟨L,hL⟩:∃ L,L=((W.filter fun q=>q.1.w == kOf so).map (·.1)):=⟨_,rfl⟩
      rw[← hL] at hl
      have memL:∀ f,f∈L ↔ f∈W.map (·.1)∧f.w=kOf so:=fun f=>by
        rw[hL]
        constructor
        · intro h
          obtain⟨q,hq1,rfl⟩:=List.mem_map.mp h
          obtain⟨h1,h2⟩:=List.mem_filter.mp hq1
          exact⟨List.mem_map.mpr ⟨q,h1,rfl⟩,by simpa using h2⟩
        · rintro⟨h1,h2⟩
          obtain⟨q,hq1,rfl⟩:=List.mem_map.mp h1
          exact List.mem_map.mpr ⟨q,List.mem_filter.mpr ⟨hq1,by simpa using h2⟩,rfl⟩
      have hpos:0<es.length:=by
        obtain⟨f,h1,h2⟩:=hex
        rw[hl.1]
        exact List.length_pos_of_mem ((memL f).mpr ⟨h1,h2⟩)
      have kap:∀ (i:Nat) e,L[i]?=some e→(fun i=>(L[i]?.map fun e:Edge=>[e.c.2,e.c.1]).getD []) i=[e.c.2,e.c.1]:=fun i e h=>by simp only[h];rfl
      refine⟨p,es,fun i=>(L[i]?.map fun e:Edge=>[e.c.2,e.c.1]).getD [],rfl,SqL.of e2,hpos,fun i x H3 hx s3=>?_,fun i x H3 hx hle s3=>?_⟩
      · obtain⟨e,he,b,rfl,q⟩:=hl.at hx
        refine⟨b,e.c.1,e.c.2,_,rfl,SqT.of (s3 _ _ q),fun p4 H4 hp4 s4 f4=>⟨s4,p4,rfl,SqT.of ?_⟩⟩
        rw[kap i e he];exact f4
      · obtain⟨e,he,b,rfl,q⟩:=hl.at hx
        have hm:=(memL e).mp (List.mem_of_getElem? he)
        refine k b e H3 (s2.trans s3) (s3 _ _ q) ⟨hm.1,hm.2,fun f h1 h2=>?_⟩
        obtain⟨j,hj,ej⟩:=List.getElem_of_mem ((memL f).mpr ⟨h1,h2⟩)
        have hj':L[j]?=some f:=by rw[List.getElem?_eq_getElem hj,ej]
        have:=(hle j (by rw[hl.1];exact hj)).1
        rw[kap j f hj',kap i e he] at this
        exact this
end
open PySem L2 RP
theorem zjc (n d j:Nat):HT.sIx n d (some (j:Int))=min j n:=by
 show (if (j:Int)<0 then ((j:Int)+(n:Int)).toNat else min (j:Int).toNat n)=min j n
 rw[if_neg (by lia),Int.toNat_natCast]
theorem zkW (xs:List V){j:Nat}(h:j≤xs.length):cutV xs (some (j:Int)) none=xs.drop j:=by
 unfold cutV
 rw[zjc,Nat.min_eq_left h]
 exact List.take_of_length_le (by rw[List.length_drop];exact Nat.le_refl _)
theorem zmE (xs:List V){j:Nat}(h:j≤xs.length):cutV xs none (some (j:Int))=xs.take j:=by
 unfold cutV
 rw[zjc,Nat.min_eq_left h]
 rfl
theorem VR.rot {α:Type}{vs:List V}{l:List α}{R:α→V→Hp→Prop}{H:Hp}(h:VR vs l R H) (j:Nat):VR (vs.drop j++vs.take j) (l.drop j++l.take j) R H:=by
 refine⟨by simp[h.1],fun i x v h1 h2=>?_⟩
 have hd:(vs.drop j).length=(l.drop j).length:=by simp[h.1]
 rcases Nat.lt_or_ge i (l.drop j).length with hi | hi
 ·rw[List.getElem?_append_left hi,List.getElem?_drop] at h1
  rw[List.getElem?_append_left (by lia),List.getElem?_drop] at h2
  exact h.2 _ x v h1 h2
 ·rw[List.getElem?_append_right hi] at h1
  rw[List.getElem?_append_right (by lia),hd] at h2
  rw[List.getElem?_take] at h1 h2
  split at h1
  ·rw[if_pos (by assumption)] at h2
   exact h.2 _ x v h1 h2
  ·cases h1
theorem zh7 {α:Type} [DecidableEq α] {x:α}:∀ {l:List α},x∈l→∃ j:Nat,l[j]?=some x∧∀ (m:Nat) y,m<j→l[m]?=some y→y≠x
 | [],h=>by cases h
 | a::l,h=>by
  by_cases e:a=x
  ·exact⟨0,by rw[e];rfl,fun m y hm=>absurd hm (Nat.not_lt_zero _)⟩
  ·obtain⟨j,h1,h2⟩:=zh7 ((List.mem_cons.mp h).resolve_left (Ne.symm e))
   refine⟨j+1,by simpa using h1,fun m y hm hy=>?_⟩
   match m,hm,hy with
   | 0,_,hy=>cases hy;exact e
   | m+1,hm,hy=>exact h2 m y (by lia) (by simpa using hy)
theorem zgb {K:W.Frag}{H:Hp}:∀ {vs:List V}{l:List Edge},VR vs l eR H→RDs K H vs (l.map fun e=>tI (eI e))
 | [],[],_=>.nil
 | [],_::_,h=>by have:=h.1;cases this
 | _::_,[],h=>by have:=h.1;cases this
 | v::vs,e::l,h=>by
  obtain⟨b,rfl,q⟩:=h.2 0 e v rfl rfl
  exact .cons (zcH q) (zgb ⟨by simpa using h.1,fun i x u h1 h2=>h.2 (i+1) x u (by simpa using h1) (by simpa using h2)⟩)
structure Rnd where
 so:Str
 x:Int
 y:Int
 row:List Nat
 deriving DecidableEq
def rowV (row:List Nat):List V:=row.map fun n:Nat=>V.int (n:Int)
def rR (r:Rnd) (v:V) (H:Hp):Prop:=∃ a b,v=.ref a∧H a=some (.tup [.str r.so,.int r.x,.int r.y,.ref b])∧H b=some (.tup (rowV r.row))
theorem rR.kt {r:Rnd}{v:V}{H H':Hp}(h:rR r v H) (s:KT H H'):rR r v H':=let ⟨a,b,e,q1,q2⟩:=h;⟨a,b,e,s _ _ q1,s _ _ q2⟩
def IsRnd (W:Wk) (r:Rnd):Prop:=r.so=sortS W∧∃ (j:Nat) (e:Edge),(W.map (·.1))[j]?=some e∧zcz W (sortS W) e∧r.x=e.c.1∧r.y=e.c.2∧r.row=(W.drop j++W.take j).filterMap (·.2)
theorem zdM (W:Wk):sortS W = "rim" ∨ sortS W = "hole":=by unfold sortS;split <;> simp
section
variable {P:Program}{w:World}{K:W.Frag}{mg:Str→Option Value}{base:Heap}
def zfZ (K:W.Frag):Sp:=fun vs H Q _=>∃ (a:Addr) (W:Wk),vs=[.ref a]∧LR K H a W wR∧W.length≤500∧(∃ e∈W.map (·.1),e.w=0)∧(∃ e∈W.map (·.1),e.w=2) ∧
 ∀ v H' r,Same H H'→rR r v H'→IsRnd W r→Q v H'
theorem zg9 (T : Txt P w K mg) (g_sort_of : Fn P w K mg base 4 "sort_of" ["walk"] (zlc K)) (g_begin_of : Fn P w K mg base 3 "begin_of" ["walk", "sort"] (zgY K))
  (d:Df K mg "round_of" zbk ["walk"]):FnOk P w K mg base CX0 5 d.f d.fd ["walk"] (zfZ K):=by
 refine d.F.ok zce (fun vs H Q E h=>?_) (fun cdv A outer s H vs Q E hr h=>?_)
 ·obtain⟨a,W,rfl,_⟩:=h
  rfl
 ·obtain⟨a,W,rfl,hLR,hlen,h0,h2,k⟩:=h
  obtain⟨ws,hq,hv⟩:=hLR.vr
  have hun:=hr.un
  have hu65:(A.deeper (PyProof.Rows.envOfC (Str.ofString "round_of") (zab zbk) s.heap.objs.size d.f cdv)).units+65<cLine:=by lia
  have nb0:(["edge","step"]:List Str).Nodup:=by decide +kernel
  have nb1:(["edge","step"]:List Str).Nodup:=by decide +kernel
  refine⟨_,(zad (zao (i:=1) zce.nd (by rfl) (Or.inl rfl) (zai g_sort_of.ok (hr.mono (by decide)) (by rfl) g_sort_of.m g_sort_of.kp g_sort_of.b .nil pass0 (pa_N (pv 0) zac)))
   (zad (zao (i:=2) zce.nd (by rfl) (Or.inl rfl) (zai g_begin_of.ok (hr.mono (by decide)) (by rfl) g_begin_of.m g_begin_of.kp g_begin_of.b .nil pass0 (pa_N (pv 0) (pa_N (pv 1) zac))))
   (zad (zao (i:=3) zce.nd (by rfl) (Or.inl rfl) (pe_bm PySem.F.plainAttrs_list PySem.F.slot_list_index PySem.F.type_list_index (zjz hu65) (zaV (osc:=zab zbk) (N:=zdu) (N':=["edge","step"]) (sel:=[none,none]) ⟨rfl,by decide +kernel,by decide +kernel,by decide +kernel,rfl,by decide +kernel⟩ (zaJ (pv 0)) (fun _ _ _ _ _=>(zcx (K:=K) (n:=2) (by rfl) (zah (zag (i:=0) nb0 (by rfl) (Or.inl rfl)) (zah (zag (i:=1) nb0 (by rfl) (Or.inl rfl)) zaA)))) (fun _ _ _ _ _=>zb9) (fun _ _ _ _ _=>(pv 0))) (pa_N (pv 2) zac)))
   (zad (zao (i:=4) zce.nd (by rfl) (Or.inl rfl) (zbx zbY (by rfl) T.ntuple (by rfl) (zaj (zaV (osc:=zab zbk) (N:=zdu) (N':=["edge","step"]) (sel:=[none,none]) ⟨rfl,by decide +kernel,by decide +kernel,by decide +kernel,rfl,by decide +kernel⟩ (zaJ (pe_op zjv (zcP zdW (pv 0) (zdm (pv 3)) zdn) (zcP zdW (pv 0) zdn (zdm (pv 3))))) (fun _ _ _ _ _=>(zcx (K:=K) (n:=2) (by rfl) (zah (zag (i:=0) nb1 (by rfl) (Or.inl rfl)) (zah (zag (i:=1) nb1 (by rfl) (Or.inl rfl)) zaA)))) (fun _ _ _ _ _=>zcI (zaz zfp (pv 1) zcJ (zaw _))) (fun _ _ _ _ _=>(pv 1))) zac)))
   (zaf (zan (zaI (pa_N (pv 1) (zaj (pe_ix zcB (pv 2) zae (fun _ _=>rfl)) (zaj (pe_ix zcB (pv 2) zae (fun _ _=>rfl)) (pa_N (pv 4) zac))))))))))),?_⟩
  refine⟨_,rfl,a,W,rfl,hLR,hlen,fun H1 s1=>?_⟩
  have hex:∃ e∈W.map (·.1),e.w=kOf (sortS W):=by
   rcases zdM W with z | z <;> rw[z]
   ·exact h0
   ·exact h2
  refine⟨_,rfl,_,rfl,a,W,sortS W,rfl,zdM W,hLR.same s1 (fun x v hx=>hx.same s1),hlen,hex,fun b e H2 s2 hb hbg=>?_⟩
  have s12:=s1.trans s2
  refine⟨_,rfl,a,rfl,⟨_,s12.seq hq⟩,fun p hp=>?_⟩
  refine zaD (K:=K) (a:=a) (xs:=ws) (fun i σ H3=>∃ o1 o2,σ=[o1,o2]∧Same H2 H3∧∃ es:List V,H3 p=some (.lst es)∧VR es ((W.take i).map (·.1)) eR H3)
   ⟨_,_,rfl,Same.up hp,[],zaa,VR.nil⟩ (fun i σ H3 _ ⟨_,_,_,s3,_⟩=>(s12.trans s3).seq hq) ?_ ?_
  ·rintro i v σ H3 hi ⟨o1,o2,rfl,s3,es,e3,hl⟩
   obtain⟨⟨f,st⟩,he,B,bb,rfl,q1,q2⟩:=hv.at hi
   have hl2:es.length≤1000:=by rw[hl.1,List.length_map,List.length_take];lia
   refine⟨B,_,rfl,SqT.of ((s12.trans s3) _ _ q1),rfl,_,_,rfl,_,_,rfl,rfl,?_⟩
   refine zcN ?_
   refine⟨_,rfl,es,e3,zav hl2,_,_,rfl,zas hp s3,_,zaa,?_⟩
   rw[zaE he,List.map_append]
   have k2:KT H3 (upd H3 p (.lst (es++[.ref bb]))):=KT.lst e3
   exact hl.snoc (fun x v hx=>hx.kt k2) ⟨bb,rfl,k2 _ _ ((s12.trans s3) _ _ q2)⟩
  ·rintro σ H3 ⟨o1,o2,rfl,s3,es,e3,hl⟩
   rw[hv.1,List.take_length] at hl
   obtain⟨j,hj,hjm⟩:=zh7 hbg.1
   have hjl:j<W.length:=by have:=(List.getElem?_eq_some_iff.mp hj).1;simpa using this
   have s13:=s12.trans s3
   refine⟨.inl ⟨rfl,_,SqL.of e3⟩,_,rfl,p,es,_,_,_,j,_,rfl,rfl,SqL.of e3,zcH (s3 _ _ hb),zgb hl,zaF _,(fun z hz=>by obtain⟨f,_,rfl⟩:=List.mem_map.mp hz;exact zaF _),(by rw[List.getElem?_map,hj];rfl),(by rw[zcW];exact decide_eq_true rfl),(fun m z hm hz=>?_),?_⟩
   ·rw[List.getElem?_map] at hz
    obtain⟨f,hf,rfl⟩:=Option.map_eq_some_iff.mp hz
    rw[zcW]
    exact decide_eq_false (fun q=>hjm m f hm hf (zh9.mp q))
   have hwl:j≤ws.length:=by rw[hv.1];lia
   refine⟨_,rfl,_,rfl,_,rfl,a,ws,rfl,s13.seq hq,fun p4 hp4=>?_⟩
   rw[zkW ws hwl]
   have s4:=Same.up (o:=.lst (ws.drop j)) hp4
   refine⟨_,rfl,_,rfl,_,rfl,a,ws,rfl,(s13.trans s4).seq hq,fun p5 hp5=>?_⟩
   rw[zmE ws hwl]
   have s5:=Same.up (o:=.lst (ws.take j)) hp5
   refine⟨p4,p5,_,_,rfl,rfl,s5 _ _ zaa,zaa,Nat.le_of_lt (zav (by simp[hv.1];lia)),fun p6 hp6=>?_⟩
   have s6:=Same.up (o:=.lst (ws.drop j++ws.take j)) hp6
   have s16:=s13.trans (s4.trans (s5.trans s6))
   have e6:upd (upd (upd H3 p4 (.lst (ws.drop j))) p5 (.lst (ws.take j))) p6 (.lst (ws.drop j++ws.take j)) p6=some (.lst (ws.drop j++ws.take j)):=zaa
   have b6:=(s4.trans (s5.trans s6)) _ _ (s3 _ _ hb)
   generalize upd (upd (upd H3 p4 (.lst (ws.drop j))) p5 (.lst (ws.take j))) p6 (.lst (ws.drop j++ws.take j))=H6 at s16 e6 b6 ⊢
   have hv6:=hv.rot j
   have hWl:(W.drop j++W.take j).length≤500:=by simp;lia
   generalize hW6:W.drop j++W.take j=W6 at hv6 hWl
   generalize ws.drop j++ws.take j=ws6 at hv6 e6
   refine⟨p6,rfl,⟨_,SqL.of e6⟩,fun p7 hp7=>?_⟩
   refine zaD (K:=K) (a:=p6) (xs:=ws6) (fun i σ H7=>∃ o1 o2,σ=[o1,o2]∧Same H6 H7∧H7 p7=some (.lst (rowV ((W6.take i).filterMap (·.2)))))
    ⟨_,_,rfl,Same.up hp7,zaa⟩ (fun i σ H7 _ ⟨_,_,_,s7,_⟩=>s7.seq (SqL.of e6)) ?_ ?_
   ·rintro i v σ H7 hi ⟨o1,o2,rfl,s7,e7⟩
    obtain⟨⟨f,st⟩,he,B,bb,rfl,q1,q2⟩:=hv6.at hi
    have hl2:(rowV ((W6.take i).filterMap (·.2))).length≤1000:=by
     unfold rowV
     rw[List.length_map]
     have:=List.length_filterMap_le (fun q:Edge×Option Nat=>q.2) (W6.take i)
     rw[List.length_take] at this
     lia
    refine⟨B,_,rfl,SqT.of ((s16.trans s7) _ _ q1),rfl,_,_,rfl,_,_,rfl,rfl,?_⟩
    refine⟨_,rfl,rfl,_,rfl,?_⟩
    rw[zk8,zaE he,List.filterMap_append]
    cases st with
    | none=>exact iteF ⟨_,_,rfl,s7,by simpa using e7⟩
    | some n =>
     refine iteT ⟨_,rfl,_,e7,zav hl2,_,_,rfl,zas hp7 s7,?_⟩
     rw[zaa]
     simp[rowV,sv]
   ·rintro σ H7 ⟨o1,o2,rfl,s7,e7⟩
    rw[hv6.1,List.take_length] at e7
    refine⟨p7,_,rfl,.inl ⟨SqL.of e7,fun p8 hp8=>?_⟩⟩
    have s8:=Same.up (o:=.tup (rowV (W6.filterMap (·.2)))) hp8
    have b8:=s8 _ _ (s7 _ _ b6)
    refine⟨_,rfl,_,rfl,b,_,_,_,rfl,rfl,SqT.of b8,zap (j:=0) rfl,_,rfl,b,_,_,_,rfl,rfl,SqT.of b8,zap (j:=1) rfl,_,rfl,(by show 4≤sizeLine;decide),fun p9 hp9=>?_⟩
    refine k _ _ ⟨sortS W,e.c.1,e.c.2,W6.filterMap (·.2)⟩ ((s16.trans (s7.trans s8)).trans (Same.up hp9)) ⟨p9,p8,rfl,zaa,Same.up hp9 _ _ zaa⟩ ⟨rfl,j,e,hj,hbg,rfl,rfl,?_⟩
    rw[← hW6]
def keyV (r:Rnd):List V:=[.int r.y,.int r.x,.bl (decide (V.str r.so=V.str "hole"))]
def zdw (K:W.Frag):Sp:=fun vs H Q _=>∃ (v:V) (r:Rnd),vs=[v]∧rR r v H∧∀ p H',H p=none→Same H H'→H' p=some (.tup (keyV r))→Q (.ref p) H'
theorem zer (d:Df K mg "round_order" za9 ["one"]):FnOk P w K mg base CX0 1 d.f d.fd ["one"] (zdw K):=by
 refine d.F.ok zbD (fun vs H Q E h=>?_) (fun cdv A outer s H vs Q E hr h=>?_)
 ·obtain⟨v,r,rfl,_⟩:=h
  rfl
 ·obtain⟨v,r,rfl,⟨a,b,rfl,q1,q2⟩,k⟩:=h
  refine⟨_,(zad (zcb (pv 0) (zbz (by rfl) (zah (zag (i:=1) zbD.nd (by rfl) (Or.inl rfl)) (zah (zag (i:=2) zbD.nd (by rfl) (Or.inl rfl)) (zah (zag (i:=3) zbD.nd (by rfl) (Or.inl rfl)) (zah (zag (i:=4) zbD.nd (by rfl) (Or.inl rfl)) zaA))))))
   (zaf (zan (zaI (pa_N (pv 3) (pa_N (pv 2) (zaj (zca op_eq (pv 1) zd4 (zaw _)) zac))))))),?_⟩
  refine⟨_,rfl,a,_,rfl,SqT.of q1,rfl,_,_,rfl,_,_,rfl,_,_,rfl,_,_,rfl,rfl,?_⟩
  refine⟨_,rfl,_,rfl,_,rfl,rfl,three,fun p hp=>k p _ hp (Same.up hp) zaa⟩
end
open PySem L2 RP
theorem VR.cons {α:Type}{v:V}{vs:List V}{x:α}{l:List α}{R:α→V→Hp→Prop}{H:Hp}:VR (v::vs) (x::l) R H ↔ R x v H∧VR vs l R H:=by
 constructor
 ·intro h
  exact⟨h.2 0 x v rfl rfl,by simpa using h.1,fun i y u h1 h2=>h.2 (i+1) y u (by simpa using h1) (by simpa using h2)⟩
 ·rintro⟨h1,h2⟩
  refine⟨by simp[h2.1],fun i y u e1 e2=>?_⟩
  match i,e1,e2 with
  | 0,e1,e2=>cases e1;cases e2;exact h1
  | i+1,e1,e2=>exact h2.2 i y u (by simpa using e1) (by simpa using e2)
theorem VR.perm {α:Type}{R:α→V→Hp→Prop}{H:Hp}{ys xs:List V}(p:ys.Perm xs):∀ {l:List α},VR xs l R H→∃ l':List α,l'.Perm l∧VR ys l' R H:=by
 induction p with
 | nil=>intro l h;exact⟨l,List.Perm.refl _,h⟩
 | cons v _ ih =>
  intro l h
  match l,h with
  | [],h=>exact absurd h.1 (by simp)
  | x::l,h =>
   obtain⟨h1,h2⟩:=VR.cons.mp h
   obtain⟨l',p',h'⟩:=ih h2
   exact⟨x::l',p'.cons x,VR.cons.mpr ⟨h1,h'⟩⟩
 | swap a b r =>
  intro l h
  match l,h with
  | [],h=>exact absurd h.1 (by simp)
  | [_],h=>exact absurd h.1 (by simp)
  | x::y::l,h =>
   obtain⟨h1,h2⟩:=VR.cons.mp h
   obtain⟨h3,h4⟩:=VR.cons.mp h2
   exact⟨y::x::l,List.Perm.swap _ _ _,VR.cons.mpr ⟨h3,VR.cons.mpr ⟨h1,h4⟩⟩⟩
 | trans _ _ ih1 ih2 =>
  intro l h
  obtain⟨l1,p1,h1⟩:=ih2 h
  obtain⟨l2,p2,h2⟩:=ih1 h1
  exact⟨l2,p2.trans p1,h2⟩
def kE (e:Edge):List Key:=[Sum.inl e.c.1,Sum.inl e.c.2,Sum.inl (e.w:Int)]
theorem zlo {e f:Edge}:kE e=kE f ↔ e=f:=by
 constructor
 ·intro h
  refine zh9.mp ?_
  unfold kE at h
  injection h with h1 h2
  injection h2 with h2 h3
  injection h3 with h3 _
  unfold eI
  rw[Sum.inl.inj h1,Sum.inl.inj h2,Sum.inl.inj h3]
 ·rintro rfl;rfl
theorem _root_.RP.Closed.back {C:Cell→Bool}{b x:Edge}{es:List Edge}(h:Closed C b es) (hx:IsE C x) (hm:nxt C x∈es):x∈es:=by
 obtain⟨⟨h0,hs,hE,hnd⟩,l,hl,hb⟩:=h
 obtain⟨i,hi,ei⟩:=List.getElem_of_mem hm
 have hlm:l∈es:=List.mem_of_getElem? hl
 rcases Nat.eq_zero_or_pos i with rfl | hp
 ·rw[List.getElem?_eq_getElem hi,ei] at h0
  have e:=Option.some.inj h0
  rw[← hb] at e
  rw[zd8 hx (hE l hlm) e];exact hlm
 ·have hi':i - 1<es.length:=by lia
  have e1:=hs (i - 1) es[i - 1] (nxt C x) (List.getElem?_eq_getElem hi') (by rw[show i - 1+1=i by lia,List.getElem?_eq_getElem hi,ei])
  rw[zd8 hx (hE _ (List.getElem_mem hi')) e1]
  exact List.getElem_mem hi'
theorem _root_.RP.Closed.apart {C:Cell→Bool}{b:Edge}{es done:List Edge}(h:Closed C b es) (hd:∀ x,IsE C x→nxt C x∈done→x∈done) (hb:b ∉ done):∀ e∈es,e ∉ done:=by
 obtain⟨⟨h0,hs,hE,hnd⟩,_⟩:=h
 have key:∀ (i:Nat) e,es[i]?=some e→e ∉ done:=by
  intro i
  induction i with
  | zero=>intro e he;rw[he] at h0;cases h0;exact hb
  | succ i ih =>
   intro e he hm
   have hi:i+1<es.length:=(List.getElem?_eq_some_iff.mp he).1
   have h1:es[i]?=some es[i]:=List.getElem?_eq_getElem (by lia)
   have hn:=hs i _ e h1 he
   rw[hn] at hm
   exact ih _ h1 (hd _ (hE _ (List.getElem_mem _)) hm)
 intro e he
 obtain⟨i,hi,ei⟩:=List.getElem_of_mem he
 exact key i e (by rw[List.getElem?_eq_getElem hi,ei])
structure Part (C:Cell→Bool) (ESS:List (List Edge)) (R:List Rnd):Prop where
 len:R.length=ESS.length
 each:∀ (i:Nat) es r,ESS[i]?=some es→R[i]?=some r→(∃ b,Closed C b es)∧IsRnd (wk C es) r
 nd:ESS.flatten.Nodup
theorem Part.closed {C:Cell→Bool}{ESS:List (List Edge)}{R:List Rnd}(h:Part C ESS R):∀ es∈ESS,∃ b,Closed C b es:=fun es he=>by
 obtain⟨i,hi,ei⟩:=List.getElem_of_mem he
 have hr:i<R.length:=by rw[h.len];exact hi
 exact (h.each i es R[i] (by rw[List.getElem?_eq_getElem hi,ei]) (List.getElem?_eq_getElem hr)).1
theorem Part.isE {C:Cell→Bool}{ESS:List (List Edge)}{R:List Rnd}(h:Part C ESS R):∀ e∈ESS.flatten,IsE C e:=fun e he=>by
 obtain⟨es,h1,h2⟩:=List.mem_flatten.mp he
 obtain⟨b,hc⟩:=h.closed es h1
 exact hc.1.2.2.1 e h2
theorem Part.back {C:Cell→Bool}{ESS:List (List Edge)}{R:List Rnd}(h:Part C ESS R):∀ x,IsE C x→nxt C x∈ESS.flatten→x∈ESS.flatten:=fun x hx hm=>by
 obtain⟨es,h1,h2⟩:=List.mem_flatten.mp hm
 obtain⟨b,hc⟩:=h.closed es h1
 exact List.mem_flatten.mpr ⟨es,h1,hc.back hx h2⟩
theorem Part.nil {C:Cell→Bool}:Part C [] []:=⟨rfl,fun i es r h=>by simp at h,by simp⟩
theorem Part.snoc {C:Cell→Bool}{ESS:List (List Edge)}{R:List Rnd}{b:Edge}{es:List Edge}{r:Rnd}(h:Part C ESS R) (hc:Closed C b es) (hr:IsRnd (wk C es) r) (hb:b ∉ ESS.flatten):Part C (ESS++[es]) (R++[r]):=by
 refine⟨by simp[h.len],fun i fs q h1 h2=>?_,?_⟩
 ·rcases Nat.lt_or_ge i ESS.length with hi | hi
  ·rw[List.getElem?_append_left hi] at h1
   rw[List.getElem?_append_left (by rw[h.len];exact hi)] at h2
   exact h.each i fs q h1 h2
  ·rw[List.getElem?_append_right hi] at h1
   rw[List.getElem?_append_right (by rw[h.len];exact hi)] at h2
   have hz:i - ESS.length=0:=by
    have:=(List.getElem?_eq_some_iff.mp h1).1
    simp at this;lia
   rw[hz] at h1
   rw[h.len,hz] at h2
   cases h1;cases h2
   exact⟨⟨b,hc⟩,hr⟩
 ·have ap:=hc.apart h.back hb
  rw[List.flatten_append,List.nodup_append]
  refine⟨h.nd,by simpa using hc.1.2.2.2,fun x hx y hy e=>?_⟩
  subst e
  exact ap x (by simpa using hy) hx
theorem zdQ {p:Edge→Bool}:∀ (ESS:List (List Edge)),(∀ es∈ESS,∃ e∈es,p e=true)→ESS.length≤(ESS.flatten.filter p).length
 | [],_=>Nat.zero_le _
 | es::r,h=>by
  have ih:=zdQ r fun es he=>h es (List.mem_cons_of_mem _ he)
  obtain⟨e,he,hp⟩:=h es List.mem_cons_self
  rw[List.flatten_cons,List.filter_append,List.length_append,List.length_cons]
  have:0<(es.filter p).length:=List.length_pos_of_mem (List.mem_filter.mpr ⟨he,hp⟩)
  lia
theorem Part.few {cs:List Cell}{ESS:List (List Edge)}{R:List Rnd}(h:Part (isIn cs) ESS R):R.length≤cs.length:=by
 rw[h.len]
 refine Nat.le_trans (zdQ (p:=fun e=>e.w == 0) ESS fun es he=>?_) ?_
 ·obtain⟨b,hc⟩:=h.closed es he
  obtain⟨e,h1,h2⟩:=hc.has (k:=0) (.inl rfl)
  exact⟨e,h1,by simpa using h2⟩
 ·rw[← List.length_map (f:=fun c:Cell=>(⟨c,0⟩:Edge)) (as:=cs)]
  refine zaC (List.Pairwise.filter _ h.nd) fun e he=>?_
  obtain⟨h1,h2⟩:=List.mem_filter.mp he
  have hE:=h.isE e h1
  refine List.mem_map.mpr ⟨e.c,of_decide_eq_true hE.2.1,?_⟩
  obtain⟨c,w⟩:=e
  simp only at h2 ⊢
  have:w=0:=by simpa using h2
  rw[this]
theorem Part.small {cs:List Cell}{ESS:List (List Edge)}{R:List Rnd}(h:Part (isIn cs) ESS R):ESS.flatten.length≤4*cs.length:=by
 rw[← zb5]
 exact zaC h.nd fun e he=>zcL.mpr ⟨of_decide_eq_true (h.isE e he).2.1,(h.isE e he).1⟩
def keyI (r:Rnd):List Int:=[r.y,r.x,PyProof.Rows.b2i (decide (V.str r.so=V.str "hole"))]
def Slim (cs:List Cell):Prop:=∀ ESS R,Part (isIn cs) ESS R→R.length≤63
def Whole (cs:List Cell) (R:List Rnd):Prop:=∃ ESS,Part (isIn cs) ESS R∧∀ e,e∈ESS.flatten ↔ IsE (isIn cs) e
section
variable {P:Program}{w:World}{K:W.Frag}{mg:Str→Option Value}{base:Heap}
def zhG (K:W.Frag):Sp:=fun vs H Q _=>∃ (a:Addr) (cs:List Cell),vs=[.ref a]∧LR K H a cs cR∧InOrd cs∧cs.length≤120∧Slim cs ∧
 ∀ p H' rs R R0,H p=none→Same H H'→H' p=some (.lst rs)→VR rs R rR H'→R.Perm R0→True→Whole cs R0→Q (.ref p) H'
def zc8 (K:W.Frag):Sp:=fun vs H Q _=>∃ (t pe:Addr) (cs:List Cell) (es:List V),vs=[.ref t,.ref pe]∧Tab H t (isIn cs)∧H pe=some (.lst es)∧VR es (allE cs) eR H∧cs.length≤120∧Slim cs ∧
 ∀ p H' rs R R0,H p=none→Same H H'→H' p=some (.lst rs)→VR rs R rR H'→R.Perm R0→True→Whole cs R0→Q (.ref p) H'
theorem zd6 (T : Txt P w K mg)
    (g_walk_from:Fn P w K mg base 3 "walk_from" ["table","begin"] (zk9 K)) (g_round_of:Fn P w K mg base 5 "round_of" ["walk"] (zfZ K)) (g_round_order:Fn P w K mg base 1 "round_order" ["one"] (zdw K))
    (d:Df K mg "rounds_along" zaZ ["table","edges"]):FnOk P w K mg base CX0 6 d.f d.fd ["table","edges"] (zc8 K):=by
  refine d.F.ok zaO (fun vs H Q E h=>?_) (fun cdv A outer s H2 vs Q E hr h=>?_)
  · obtain⟨t,pe,cs,es,rfl,_⟩:=h
    rfl
  · obtain⟨t,pe,cs,es,rfl,tab,epe,hvpe,hlen,hsl,k⟩:=h
    have hu1:=hu_of hr
    refine⟨_,(zad (zao (i:=2) zaO.nd (by rfl) (Or.inl rfl) zdP)
      (zad (zao (i:=3) zaO.nd (by rfl) (Or.inl rfl) (zbm zac))
      (zad (zbw PassesOwn.never rfl (zaJ (pv 1)) (zag (i:=4) zaO.nd (by rfl) (Or.inl rfl))
      (zaf (ps_if (zd3 (zcK hu1 (pv 4) (pv 2)))
      (zad (zao (i:=5) zaO.nd (by rfl) (Or.inl rfl) (zai g_walk_from.ok (hr.mono (by decide)) (by rfl) g_walk_from.m g_walk_from.kp g_walk_from.b .nil pass0 (pa_N (pv 0) (pa_N (pv 4) zac))))
      (zad (zbw PassesOwn.never rfl (zaJ (pv 5)) (zbz (by rfl) (zah (zag (i:=6) zaO.nd (by rfl) (Or.inl rfl)) (zah (zag (i:=7) zaO.nd (by rfl) (Or.inl rfl)) zaA)))
      (zaf (zfm hu1 (pv 2) (pv 6) pe_bl rfl)))
      (zaf (zco (pe_bm PySem.F.plainAttrs_list PySem.F.slot_list_append PySem.F.type_list_append zbX (pv 3) (zaj (zai g_round_of.ok (hr.mono (by decide)) (by rfl) g_round_of.m g_round_of.kp g_round_of.b .nil pass0 (pa_N (pv 5) zac)) zac))))))
      zaH)))
      (zaf (zan (zkG g_round_order.ok (hr.mono (by decide)) g_round_order.b (by rfl) T.nsorted (by rfl) g_round_order.m (pv 3))))))),?_⟩
    refine fun dd hdd=>⟨(by show 0≤sizeLine;decide),fun p hp=>?_⟩
    have hpd:p≠dd:=fun z=>by subst z;rw[zaa] at hp;cases hp
    have s4:Same H2 (upd (upd H2 dd (.dT [])) p (.lst [])):=(Same.up hdd).trans (Same.up hp)
    have d4:upd (upd H2 dd (.dT [])) p (.lst []) dd=some (.dT []):=by rw[zam (Ne.symm hpd),zaa]
    have p4:upd (upd H2 dd (.dT [])) p (.lst []) p=some (.lst []):=zaa
    have n2:H2 dd=none:=hdd
    have n2p:H2 p=none:=by rw[zam hpd] at hp;exact hp
    generalize upd (upd H2 dd (.dT [])) p (.lst [])=H5 at s4 d4 p4
    have s15:Same H2 H5:=s4
    have e5:=s4 _ _ epe
    have hv5:=hvpe.mono fun x v hx=>hx.same s4
    refine⟨_,rfl,pe,rfl,⟨_,SqL.of e5⟩,?_⟩
    have hped:pe≠dd:=zaq epe n2
    have hpep:pe≠p:=zaq epe n2p
    refine zaD (K := K) (a := pe) (xs := es) (fun i σ H6 => ∃ o4 o5 o6 o7, σ = [some (.ref t), some (.ref pe), some (.ref dd), some (.ref p), o4, o5, o6, o7] ∧ Same H2 H6 ∧ H6 pe = some (.lst es) ∧ KT H5 H6 ∧
        ∃ kvs rs ESS R,H6 dd=some (.dT kvs)∧H6 p=some (.lst rs)∧VR rs R rR H6∧Part (isIn cs) ESS R∧(∀ e,(valV kvs (kE e)).isSome=decide (e∈ESS.flatten))∧kvs.length≤ESS.flatten.length∧∀ e∈(allE cs).take i,e∈ESS.flatten)
      ⟨_,_,_,_,rfl,s15,e5,KT.refl _,[],[],[],[],d4,p4,VR.nil,Part.nil,(fun e=>by simp[valV]),Nat.le_refl _,(fun e he=>by simp at he)⟩ (fun i σ H6 _ ⟨_,_,_,_,_,_,e6,_⟩=>SqL.of e6) ?_ ?_
    · rintro i v σ H6 hi ⟨o4,o5,o6,o7,rfl,s6,e6,kt6,kvs,rs,ESS,R,d6,p6,hR,hP,hkv,hkl,hall⟩
      obtain⟨e,he,b,rfl,qb⟩:=hv5.at hi
      have hE:IsE (isIn cs) e:=zdd.mp (List.mem_of_getElem? he)
      have qb6:=kt6 _ _ qb
      refine⟨_,rfl,_,rfl,dd,_,rfl,.inr ⟨kvs,kE e,b,Rd.of d6,rfl,qb6,rfl⟩,_,rfl,?_⟩
      rw[hkv]
      by_cases hin:e∈ESS.flatten
      · rw[decide_eq_true hin]
        refine iteF ⟨_,_,_,_,rfl,s6,e6,kt6,kvs,rs,ESS,R,d6,p6,hR,hP,hkv,hkl,fun f hf=>?_⟩
        rcases (zb8 he).mp hf with z | z
        · exact hall f z
        · rw[z];exact hin
      · rw[decide_eq_false hin]
        refine iteT ?_
        have tab6:=tab.same s6
        refine⟨_,rfl,_,rfl,t,b,cs,e,rfl,tab6,qb6,hE,by lia,fun pw H7 ws fs hpw s7 e7 hv7 hcl=>?_⟩
        have hfs:fs.length≤4*cs.length:=hcl.1.short
        have hap:=hcl.apart hP.back hin
        have d7:=s7 _ _ d6
        have hdw:dd≠pw:=fun z=>by subst z;rw[d6] at hpw;cases hpw
        have hws:ws.length=fs.length:=by rw[hv7.1,zb4]
        refine⟨_,rfl,pw,rfl,⟨_,SqL.of e7⟩,?_⟩
        refine zaD (K := K) (a := pw) (xs := ws) (fun j σ H8 => ∃ o6 o7, σ = [some (.ref t), some (.ref pe), some (.ref dd), some (.ref p), some (.ref b), some (.ref pw), o6, o7] ∧ (∀ z o, z ≠ dd → H7 z = some o → H8 z = some o) ∧
            ∃ kv8,H8 dd=some (.dT kv8)∧(∀ f,(valV kv8 (kE f)).isSome=decide (f∈ESS.flatten∨f∈fs.take j))∧kv8.length≤ESS.flatten.length+j)
          ⟨_,_,rfl,(fun z o _ h=>h),kvs,d7,(fun f=>by rw[hkv];simp),by lia⟩ (fun j σ H8 _ ⟨_,_,_,k8,_⟩=>SqL.of (k8 _ _ (Ne.symm hdw) e7)) ?_ ?_
        · rintro j u σ H8 hj ⟨o6,o7,rfl,k8,kv8,d8,hk8,hl8⟩
          obtain⟨⟨f,st⟩,hf,B,bb,rfl,q1,q2⟩:=hv7.at hj
          have hf':fs[j]?=some f:=by
            unfold wk at hf
            rw[List.getElem?_map] at hf
            obtain⟨g,hg,eg⟩:=Option.map_eq_some_iff.mp hf
            cases eg
            exact hg
          have nB:B≠dd:=ne_of q1 d7 (fun z=>nomatch z)
          have nb:bb≠dd:=ne_of q2 d7 (fun z=>nomatch z)
          refine⟨B,_,rfl,SqT.of (k8 _ _ nB q1),rfl,_,_,rfl,_,_,rfl,rfl,?_⟩
          have hjl:j<fs.length:=by rw[← hws];exact (List.getElem?_eq_some_iff.mp hj).1
          have hsm:=hP.small
          refine⟨_,rfl,_,rfl,dd,_,rfl,.inr ⟨kv8,kE f,bb,d8,rfl,k8 _ _ nb q2,zav (by lia),rfl⟩,?_⟩
          refine⟨_,_,rfl,(fun z o hz h=>by rw[zam hz];exact k8 z o hz h),_,zaa,(fun g=>?_),Nat.le_trans (zby _ _ _) (by lia)⟩
          rw[ze5]
          by_cases eg:g=f
          · rw[if_pos (zlo.mpr eg),decide_eq_true (.inr ((zb8 hf').mpr (.inr eg)))];rfl
          · rw[if_neg (fun z=>eg (zlo.mp z)),hk8]
            refine decide_eq_decide.mpr ⟨fun z=>z.imp id fun q=>(zb8 hf').mpr (.inl q),fun z=>z.imp id fun q=>((zb8 hf').mp q).resolve_right eg⟩
        · rintro σ H8 ⟨o6,o7,rfl,k8,kv8,d8,hk8,hl8⟩
          rw[hws,List.take_length] at hk8
          have hdp:p≠dd:=hpd
          have p8:=k8 _ _ hdp (s7 _ _ p6)
          have kt8:KT H7 H8:=fun z xs h=>k8 z _ (ne_of h d7 (fun q=>nomatch q)) h
          have w8:H8 pw=some (.lst ws):=k8 _ _ (Ne.symm hdw) e7
          have hrl:rs.length≤120:=by rw[hR.1];exact Nat.le_trans hP.few hlen
          have hh:∀ kk,kk=0∨kk=2→∃ x∈(wk (isIn cs) fs).map (·.1),x.w=kk:=fun kk hkk=>by
            obtain⟨x,h1,h2⟩:=hcl.has hkk
            exact⟨x,by unfold wk;rw[List.map_map];simpa using h1,h2⟩
          refine⟨_,rfl,.inl ⟨rfl,_,SqL.of p8⟩,_,rfl,pw,wk (isIn cs) fs,rfl,LR.of w8 (hv7.mono fun x v hx=>hx.kt kt8),(by rw[zb4];lia),hh 0 (.inl rfl),hh 2 (.inr rfl),fun vr H9 r s9 hr9 hrn=>?_⟩
          have p9:=s9 _ _ p8
          refine⟨p,rs,_,rfl,rfl,p9,zav (by lia),?_⟩
          have kt9:KT H9 (upd H9 p (.lst (rs++[vr]))):=KT.lst p9
          have ktA:KT H6 (upd H9 p (.lst (rs++[vr]))):=(KT.of s7).trans (kt8.trans ((KT.of s9).trans kt9))
          refine⟨_,_,_,_,rfl,(fun z o h=>?_),?_,kt6.trans ktA,kv8,rs++[vr],ESS++[fs],R++[r],?_,zaa,hR.snoc (fun x v hx=>hx.kt ktA) (hr9.kt kt9),hP.snoc hcl hrn hin,(fun f=>?_),?_,(fun f hf=>?_)⟩
          · rw[zam (zaq h n2p)]
            exact s9 _ _ (k8 _ _ (zaq h n2) (s7 _ _ (s6 _ _ h)))
          · rw[zam hpep]
            exact s9 _ _ (k8 _ _ hped (s7 _ _ e6))
          · rw[zam (Ne.symm hpd)];exact s9 _ _ d8
          · rw[hk8]
            refine decide_eq_decide.mpr ?_
            rw[List.flatten_append,List.mem_append]
            simp
          · rw[List.flatten_append,List.length_append,show [fs].flatten=fs by simp]
            lia
          · rw[List.flatten_append,List.mem_append]
            rcases (zb8 he).mp hf with z | z
            · exact .inl (hall f z)
            · rw[z]
              refine .inr ?_
              have:=hcl.1.1
              simpa using List.mem_of_getElem? this
    · rintro σ H6 ⟨o4,o5,o6,o7,rfl,s6,e6,kt6,kvs,rs,ESS,R,d6,p6,hR,hP,hkv,hkl,hall⟩
      rw[hv5.1,List.take_length] at hall
      have hrl:rs.length≤63:=by rw[hR.1];exact hsl ESS R hP
      have ge:∀ (i:Nat) r,R[i]?=some r→(fun i=>keyV (R.getD i ⟨"",0,0,[]⟩)) i=keyV r:=fun i r h=>by simp only[List.getD_eq_getElem?_getD,h,Option.getD_some]
      refine⟨_,rfl,p,rs,fun i=>keyV (R.getD i ⟨"",0,0,[]⟩),fun i=>keyI (R.getD i ⟨"",0,0,[]⟩),rfl,SqL.of p6,by lia,fun i x H7 hx s7=>?_,
        fun i j hi hj=>⟨_,_,_,_,_,_,rfl,rfl,.cons (.int _ _) (.cons (.bl _ _) .nil),rfl,rfl⟩,fun ys D H7 hpm hD s7 f7=>?_⟩
      · obtain⟨r,hr',hx'⟩:=hR.at hx
        refine⟨x,r,rfl,hx'.kt (KT.of s7),fun q H8 hq s8 f8=>⟨s8,q,rfl,SqT.of ?_⟩⟩
        rw[ge i r hr'];exact f8
      · obtain⟨R',pR,vR⟩:=(hR.mono fun x v hx=>hx.kt (KT.of s7)).perm hpm
        exact k D H7 ys R' R (s6.free hD) (s6.trans s7) f7 vR pR trivial ⟨ESS,hP,fun e=>⟨hP.isE e,fun h=>hall e (zdd.mpr h)⟩⟩
theorem zjw (T : Txt P w K mg) (g_ask_picture : Fn P w K mg base 2 "ask_picture" ["picture"] (spAsk K)) (g_cell_table : Fn P w K mg base 1 "cell_table" ["picture"] (zgV K)) (g_all_edges : Fn P w K mg base 3 "all_edges" ["picture"] (zlf K))
  (g_rounds_along:Fn P w K mg base 6 "rounds_along" ["table","edges"] (zc8 K))
  (d:Df K mg "rounds" zcw ["picture"]):FnOk P w K mg base CX0 7 d.f d.fd ["picture"] (zhG K):=by
 refine d.F.ok zjb (fun vs H Q E h=>?_) (fun cdv A outer s H vs Q E hr h=>?_)
 ·obtain⟨a,cs,rfl,_⟩:=h
  rfl
 ·obtain⟨a,cs,rfl,hLR,hord,hlen,hsl,k⟩:=h
  have hu1:=hu_of hr
  refine⟨_,(zad (zco (zai g_ask_picture.ok (hr.mono (by decide)) (by rfl) g_ask_picture.m g_ask_picture.kp g_ask_picture.b .nil pass0 (pa_N (pv 0) zac)))
   (zaf (zan (zai g_rounds_along.ok (hr.mono (by decide)) (by rfl) g_rounds_along.m g_rounds_along.kp g_rounds_along.b .nil pass0 (zaj (zai g_cell_table.ok (hr.mono (by decide)) (by rfl) g_cell_table.m g_cell_table.kp g_cell_table.b .nil pass0 (pa_N (pv 0) zac)) (zaj (zai g_all_edges.ok (hr.mono (by decide)) (by rfl) g_all_edges.m g_all_edges.kp g_all_edges.b .nil pass0 (pa_N (pv 0) zac)) zac)))))),?_⟩
  refine⟨_,rfl,a,cs,rfl,hLR,hord,by lia,fun H1 s1=>?_⟩
  have hLR1:=hLR.same s1 fun x v hx=>hx.same s1
  refine⟨_,rfl,a,cs,rfl,hLR1,by lia,fun t H2 ht s2 tab=>?_⟩
  refine⟨_,rfl,a,cs,rfl,hLR1.same s2 (fun x v hx=>hx.same s2),by lia,fun pe H5 es hpe s5 e5 hv5=>?_⟩
  refine⟨t,pe,cs,es,rfl,tab.same s5,e5,hv5,hlen,hsl,fun p H' rs R R0 hp sp f1 f2 f3 f4 f5=>?_⟩
  exact k p H' rs R R0 (s1.free (s2.free (s5.free hp))) (s1.trans (s2.trans (s5.trans sp))) f1 f2 f3 f4 f5
end
open PySem L2 RP
def Boxed (m:Nat) (cs:List Cell):Prop:=∃ (x y:Int) (w h:Nat),w*h≤m∧∀ c∈cs,x≤c.1∧c.1<x+w∧y≤c.2∧c.2<y+h
theorem Boxed.slim {m:Nat}{cs:List Cell}(hb:Boxed m cs) (hm:m≤120):Slim cs:=by
 intro ESS R hP
 obtain⟨x,y,w,h,hwh,hbx⟩:=hb
 have isE:=hP.isE
 rw[hP.len]
 rcases box63 (Nat.le_trans hwh hm) with b | b
 ·refine Nat.le_trans (zdQ (p:=fun e=>e.w == 0) ESS fun es he=>?_) (Nat.le_trans ?_ b)
  ·obtain⟨b,hc⟩:=hP.closed es he
   obtain⟨e,h1,h2⟩:=hc.has (k:=0) (.inl rfl)
   exact⟨e,h1,by simpa using h2⟩
  ·rw[← zea,← List.length_map (f:=fun e:Edge=>((e.c.1 - x).toNat,(e.c.2 - y).toNat / 2))]
   have key:∀ e∈ESS.flatten.filter (fun e=>e.w == 0),e.w=0∧e.c∈cs∧(e.c.1,e.c.2 - 1) ∉ cs:=fun e he=>by
    obtain⟨h1,h2⟩:=List.mem_filter.mp he
    have hw:e.w=0:=by simpa using h2
    obtain⟨_,h3,h4⟩:=isE e h1
    refine⟨hw,of_decide_eq_true h3,fun z=>?_⟩
    have eg:gap e=(e.c.1,e.c.2 - 1):=by
     unfold gap;rw[hw]
     show (e.c.1+0,e.c.2+-1)=_
     rw[Int.add_zero];rfl
    rw[eg] at h4
    exact absurd (decide_eq_true z) (by rw[show decide ((e.c.1,e.c.2 - 1)∈cs)=false from h4];simp)
   refine zaC (zgn (List.Pairwise.filter _ hP.nd) fun a ha c hc e=>?_) fun p hp=>?_
   ·obtain⟨wa,ma,ga⟩:=key a ha
    obtain⟨wc,mc,gc⟩:=key c hc
    have ba:=hbx _ ma
    have bc:=hbx _ mc
    injection e with e1 e2
    have ex:a.c.1=c.c.1:=by lia
    have ey:a.c.2=c.c.2∨a.c.2=c.c.2 - 1∨c.c.2=a.c.2 - 1:=by lia
    obtain⟨⟨ax,ay⟩,aw⟩:=a
    obtain⟨⟨cx,cy⟩,cw⟩:=c
    simp only at ex ey wa wc ga gc ma mc
    subst ex wa wc
    rcases ey with z | z | z
    ·rw[z]
    ·rw[z] at ma;exact absurd ma gc
    ·rw[z] at mc;exact absurd mc ga
   ·obtain⟨e,he,rfl⟩:=List.mem_map.mp hp
    obtain⟨_,me,_⟩:=key e he
    have:=hbx _ me
    exact zhV.mpr ⟨by show (e.c.1 - x).toNat<w;lia,by show (e.c.2 - y).toNat / 2<(h+1) / 2;lia⟩
 ·refine Nat.le_trans (zdQ (p:=fun e=>e.w == 1) ESS fun es he=>?_) (Nat.le_trans ?_ b)
  ·obtain⟨b,hc⟩:=hP.closed es he
   obtain⟨e,h1,h2⟩:=hc.has1
   exact⟨e,h1,by simpa using h2⟩
  ·rw[← zea,← List.length_map (f:=fun e:Edge=>((e.c.2 - y).toNat,(e.c.1 - x).toNat / 2))]
   have key:∀ e∈ESS.flatten.filter (fun e=>e.w == 1),e.w=1∧e.c∈cs∧(e.c.1+1,e.c.2) ∉ cs:=fun e he=>by
    obtain⟨h1,h2⟩:=List.mem_filter.mp he
    have hw:e.w=1:=by simpa using h2
    obtain⟨_,h3,h4⟩:=isE e h1
    refine⟨hw,of_decide_eq_true h3,fun z=>?_⟩
    have eg:gap e=(e.c.1+1,e.c.2):=by
     unfold gap;rw[hw]
     show (e.c.1+1,e.c.2+0)=_
     rw[Int.add_zero]
    rw[eg] at h4
    exact absurd (decide_eq_true z) (by rw[show decide ((e.c.1+1,e.c.2)∈cs)=false from h4];simp)
   refine zaC (zgn (List.Pairwise.filter _ hP.nd) fun a ha c hc e=>?_) fun p hp=>?_
   ·obtain⟨wa,ma,ga⟩:=key a ha
    obtain⟨wc,mc,gc⟩:=key c hc
    have ba:=hbx _ ma
    have bc:=hbx _ mc
    injection e with e1 e2
    have ex:a.c.2=c.c.2:=by lia
    have ey:a.c.1=c.c.1∨a.c.1=c.c.1+1∨c.c.1=a.c.1+1:=by lia
    obtain⟨⟨ax,ay⟩,aw⟩:=a
    obtain⟨⟨cx,cy⟩,cw⟩:=c
    simp only at ex ey wa wc ga gc ma mc
    subst ex wa wc
    rcases ey with z | z | z
    ·rw[z]
    ·rw[z] at ma;exact absurd ma gc
    ·rw[z] at mc;exact absurd mc ga
   ·obtain⟨e,he,rfl⟩:=List.mem_map.mp hp
    obtain⟨_,me,_⟩:=key e he
    have:=hbx _ me
    exact zhV.mpr ⟨by show (e.c.2 - y).toNat<h;lia,by show (e.c.1 - x).toNat / 2<(w+1) / 2;lia⟩
open PySem L2 RP
theorem zkx {α:Type}(l:List α) (j:Nat):(l.drop j++l.take j).Perm l:=by
 have:=List.perm_append_comm (l₁:=l.drop j) (l₂:=l.take j)
 rw[List.take_append_drop] at this
 exact this
theorem zfR {C:Cell→Bool}(es:List Edge):(wk C es).map (·.1)=es:=by
 unfold wk;rw[List.map_map];exact List.map_id' _
theorem zil {C:Cell→Bool}{es fs:List Edge}(p:es.Perm fs):sortS (wk C es)=sortS (wk C fs):=by
 have q:(wk C es).Perm (wk C fs):=p.map _
 unfold sortS nL nS
 have a:=(q.filter fun q=>q.2.isNone).length_eq
 have b:=(q.filter fun q=>slant q.2).length_eq
 rw[a,b]
theorem lex2 {a b c d:Int}(h1:HT.lexLt [a,b] [c,d]=false) (h2:HT.lexLt [c,d] [a,b]=false):a=c∧b=d:=by
 have:=HT.lexLt_total h1 h2
 simpa using this
theorem zcz.one {W W':Wk}{s:Str}{e f:Edge}(p:(W.map (·.1)).Perm (W'.map (·.1))) (h:zcz W s e) (k:zcz W' s f):e=f:=by
 obtain⟨h1,h2,h3⟩:=h
 obtain⟨k1,k2,k3⟩:=k
 have a:=h3 f (p.mem_iff.mpr k1) k2
 have b:=k3 e (p.mem_iff.mp h1) h2
 obtain⟨q1,q2⟩:=lex2 a b
 obtain⟨⟨x,y⟩,w⟩:=e
 obtain⟨⟨x',y'⟩,w'⟩:=f
 simp only at q1 q2 h2 k2
 rw[h2,k2,q1,q2]
def begE (r:Rnd):Edge:=⟨(r.x,r.y),kOf r.so⟩
theorem IsRnd.beg {C:Cell→Bool}{es:List Edge}{r:Rnd}(h:IsRnd (wk C es) r):begE r∈es∧(r.so = "rim" ∨ r.so = "hole"):=by
 obtain⟨r0,i,f,rf,⟨rb,rw',_⟩,rx,ry,rr⟩:=h
 rw[zfR] at rb
 refine⟨?_,by rw[r0];exact zdM _⟩
 have:begE r=f:=by
  obtain⟨⟨x,y⟩,w⟩:=f
  unfold begE
  rw[rx,ry,r0]
  simp only at rw' ⊢
  rw[rw']
 rw[this];exact rb
theorem Part.got {C:Cell→Bool}{ESS:List (List Edge)}{R:List Rnd}(h:Part C ESS R){i:Nat}{r:Rnd}(hr:R[i]?=some r):∃ es b,ESS[i]?=some es∧Closed C b es∧IsRnd (wk C es) r:=by
 have hi:=(List.getElem?_eq_some_iff.mp hr).1
 rw[h.len] at hi
 obtain⟨⟨b,hb⟩,q⟩:=h.each i _ r (List.getElem?_eq_getElem hi) hr
 exact⟨_,b,List.getElem?_eq_getElem hi,hb,q⟩
theorem Part.so {C:Cell→Bool}{ESS:List (List Edge)}{R:List Rnd}(h:Part C ESS R){r:Rnd}(hr:r∈R):r.so = "rim" ∨ r.so = "hole":=by
 obtain⟨i,hi,ei⟩:=List.getElem_of_mem hr
 obtain⟨es,b,h1,h2,h3⟩:=h.got (by rw[List.getElem?_eq_getElem hi,ei])
 exact h3.beg.2
open PySem L2 RP
theorem zib (s:Nat):∀ (l:List Nat) (w:Nat),dgo w (l++[s])=((dgo w l).1++(List.replicate ((zbL s+4 - (dgo w l).2) % 4) none++[some s]),wayB s)
 | [],w=>by simp[dgo]
 | a::l,w=>by
  have ih:=zib s l (wayB a)
  show (List.replicate ((zbL a+4 - w) % 4) none++some a::(dgo (wayB a) (l++[s])).1,(dgo (wayB a) (l++[s])).2)=_
  rw[ih]
  show _=((List.replicate ((zbL a+4 - w) % 4) none++some a::(dgo (wayB a) l).1)++_,_)
  simp
  rfl
theorem zfH:∀ (l:List Nat) (w:Nat),(dgo w l).1.length≤4*l.length
 | [],w=>by simp[dgo]
 | a::l,w=>by
  have ih:=zfH l (wayB a)
  show (List.replicate ((zbL a+4 - w) % 4) none++some a::(dgo (wayB a) l).1).length≤_
  have:(zbL a+4 - w) % 4<4:=Nat.mod_lt _ (by decide)
  simp only[List.length_append,List.length_replicate,List.length_cons]
  lia
theorem zho:∀ (l:List Nat) (w:Nat),w<4→(dgo w l).2<4
 | [],w,h=>h
 | a::l,w,h=>zho l (wayB a) (Nat.mod_lt _ (by decide))
theorem ziP (s:Nat):zbL s<4:=Nat.mod_lt _ (by decide)
theorem zh6 (n:Nat):(List.replicate n [V.non]).flatten=(List.replicate n (none:Option Nat)).map sv:=by
 induction n with
 | zero=>rfl
 | succ n ih=>rw[List.replicate_succ,List.flatten_cons,ih];rfl
theorem zbM {n:Nat}(h:n≤5000):n<sizeLine:=Nat.lt_of_le_of_lt h (by decide)
theorem zll:1≤sizeLine:=by decide
section
variable {P:Program}{w:World}{K:W.Frag}{mg:Str→Option Value}{base:Heap}
def zf3:Sp:=fun vs H Q _=>∃ (v:V) (r:Rnd),vs=[v]∧rR r v H∧(r.so = "rim" ∨ r.so = "hole")∧∀ p H',H p=none→Same H H'→H' p=some (.tup (edgeT (begE r)))→Q (.ref p) H'
theorem zfA (T:Txt P w K mg) (d:Df K mg "begin_edge" zbv ["one"]):FnOk P w K mg base CX0 1 d.f d.fd ["one"] zf3:=by
 refine d.F.ok zbW (fun vs H Q E h=>?_) (fun cdv A outer s H vs Q E hr h=>?_)
 ·obtain⟨v,r,rfl,_⟩:=h
  rfl
 ·obtain⟨v,r,rfl,⟨a,b,rfl,q1,q2⟩,hso,k⟩:=h
  refine⟨_,(zad (zcb (pv 0) (zbz (by rfl) (zah (zag (i:=1) zbW.nd (by rfl) (Or.inl rfl)) (zah (zag (i:=2) zbW.nd (by rfl) (Or.inl rfl)) (zah (zag (i:=3) zbW.nd (by rfl) (Or.inl rfl)) (zah (zag (i:=4) zbW.nd (by rfl) (Or.inl rfl)) zaA))))))
   (zaf (zan (zaI (pa_N (pv 2) (pa_N (pv 3) (zaj (zjq (by rfl) T.ways (pv 1)) zac))))))),?_⟩
  refine⟨_,rfl,a,_,rfl,SqT.of q1,rfl,_,_,rfl,_,_,rfl,_,_,rfl,_,_,rfl,rfl,?_⟩
  refine⟨_,rfl,_,rfl,_,rfl,?_⟩
  rcases hso with e | e
  ·refine .inl ⟨by rw[e],three,fun p hp=>k p _ hp (Same.up hp) ?_⟩
   rw[zaa]
   unfold begE edgeT kOf
   simp only[e]
   rfl
  ·refine .inr ⟨by rw[e],three,fun p hp=>k p _ hp (Same.up hp) ?_⟩
   rw[zaa]
   unfold begE edgeT kOf
   simp only[e]
   rfl
def zhD:Sp:=fun vs H Q _=>∃ s:Nat,vs=[.int s]∧Q (.int (zbL s:Nat)) H
theorem zir (d:Df K mg "way_for" zcf ["step"]):FnOk P w K mg base CX0 1 d.f d.fd ["step"] zhD:=by
 refine d.F.ok zin (fun vs H Q E h=>?_) (fun cdv A outer s H vs Q E hr h=>?_)
 ·obtain⟨s,rfl,_⟩:=h
  rfl
 ·obtain⟨t,rfl,k⟩:=h
  refine⟨_,(zaf (zan (pe_op zb7 (pe_op zfq (pe_op zaG (pv 0) zae) zae) zae))),?_⟩
  refine⟨_,rfl,_,_,rfl,rfl,_,_,rfl,rfl,⟨by decide,by decide⟩,_,_,rfl,rfl,(by show (0:Int)<4;decide),?_⟩
  have e:((t:Int)+1) / 2 % 4=(zbL t:Nat):=by unfold zbL;lia
  show Q (V.int (((t:Int)+1) / 2 % 4)) H
  rw[e];exact k
def zi6 (K:W.Frag):Sp:=fun vs H Q _=>∃ (wn:Nat) (b:Addr) (row:List Nat),vs=[.int (wn:Int),.ref b]∧wn<4∧SqT K H b (rowV row)∧row.length≤500 ∧
 ∀ p H',H p=none→Same H H'→H' p=some (.lst ((deeds wn row).map sv))→Q (.ref p) H'
theorem zew (g_way_for:Fn P w K mg base 1 "way_for" ["step"] zhD) (d:Df K mg "deeds_along" zbc ["begin_way","row"]):FnOk P w K mg base CX0 2 d.f d.fd ["begin_way","row"] (zi6 K):=by
 refine d.F.ok zbj (fun vs H Q E h=>?_) (fun cdv A outer s H vs Q E hr h=>?_)
 ·obtain⟨wn,b,row,rfl,_⟩:=h
  rfl
 ·obtain⟨wn,b,row,rfl,hw,hq,hlen,k⟩:=h
  refine⟨_,(zad (zao (i:=2) zbj.nd (by rfl) (Or.inl rfl) (pv 0))
   (zad (zao (i:=3) zbj.nd (by rfl) (Or.inl rfl) (zbm zac))
   (zad (zbw PassesOwn.never rfl (zjn (pv 1)) (zag (i:=4) zbj.nd (by rfl) (Or.inl rfl))
   (zad (zco (pe_bm PySem.F.plainAttrs_list PySem.F.slot_list_extend PySem.F.type_list_extend zjA (pv 3) (pa_B (pe_op zlk (zbm (pa_C zcJ zac)) (pe_op zb7 (pe_op zbS (zai g_way_for.ok (hr.mono (by decide)) (by rfl) g_way_for.m g_way_for.kp g_way_for.b .nil pass0 (pa_N (pv 4) zac)) (pv 2)) zae)) zac)))
   (zad (zco (pe_bm PySem.F.plainAttrs_list PySem.F.slot_list_append PySem.F.type_list_append zbX (pv 3) (pa_N (pv 4) zac)))
   (zaf (zao (i:=2) zbj.nd (by rfl) (Or.inl rfl) (pe_op zb7 (pe_op zbS (zai g_way_for.ok (hr.mono (by decide)) (by rfl) g_way_for.m g_way_for.kp g_way_for.b .nil pass0 (pa_N (pv 4) zac)) (pe_op zb7 (pv 4) zae)) zae))))))
   (zad (zao (i:=5) zbj.nd (by rfl) (Or.inl rfl) (zfn (zkD (pv 1) (fun _=>rfl)) (pe_op zb7 (pe_op zbS (pv 0) (pv 2)) zae) zae))
   (zaf (zan (pe_op zjv (pv 3) (pe_op zlk (zbm (pa_C zcJ zac)) (pv 5))))))))),?_⟩
  refine⟨_,rfl,(by show 0≤sizeLine;decide),fun p hp=>?_⟩
  have s0:Same H (upd H p (.lst [])):=Same.up hp
  have e0:upd H p (.lst []) p=some (.lst []):=zaa
  generalize upd H p (.lst [])=H0 at s0 e0
  refine⟨_,rfl,b,rfl,⟨_,s0.seqT hq⟩,?_⟩
  have hrl:(rowV row).length=row.length:=by unfold rowV;exact List.length_map _
  refine zhl (K:=K) (a:=b) (xs:=rowV row) (fun i σ H1=>∃ o4 o5,σ=[some (.int (wn:Int)),some (.ref b),some (.int ((dgo wn (row.take i)).2:Nat)),some (.ref p),o4,o5]∧Same H H1∧H1 p=some (.lst ((dgo wn (row.take i)).1.map sv)))
   ⟨_,_,rfl,s0,e0⟩ (fun i σ H1 _ ⟨_,_,_,s1,_⟩=>s1.seqT hq) ?_ ?_
  ·rintro i v σ H1 hi ⟨o4,o5,rfl,s1,e1⟩
   have hi':i<row.length:=by rw[← hrl];exact (List.getElem?_eq_some_iff.mp hi).1
   unfold rowV at hi
   rw[List.getElem?_map,List.getElem?_eq_getElem hi'] at hi
   cases hi
   have hdl:=zfH (row.take i) wn
   rw[List.length_take] at hdl
   have hdw:=zho (row.take i) wn hw
   have hwf:=ziP row[i]
   have hn:=zib row[i] (row.take i) wn
   rw[← zaE (List.getElem?_eq_getElem hi')] at hn
   refine⟨_,rfl,.inl ⟨rfl,_,SqL.of e1⟩,zll,fun l hl=>?_⟩
   have s2:Same H1 (upd H1 l (.lst [.non])):=Same.up hl
   have e2:upd H1 l (.lst [.non]) l=some (.lst [.non]):=zaa
   generalize upd H1 l (.lst [.non])=H2 at s2 e2
   refine⟨_,rfl,row[i],rfl,?_⟩
   refine⟨_,rfl,_,_,rfl,rfl,_,_,rfl,rfl,(by show (0:Int)<4;decide),?_⟩
   have ek:(((zbL row[i]:Nat):Int) - ((dgo wn (row.take i)).2:Nat)) % 4=(((zbL row[i]+4 - (dgo wn (row.take i)).2) % 4:Nat):Int):=by lia
   have k4:(zbL row[i]+4 - (dgo wn (row.take i)).2) % 4<4:=Nat.mod_lt _ (by decide)
   generalize hk:(zbL row[i]+4 - (dgo wn (row.take i)).2) % 4=kk at *
   refine⟨l,(kk:Int),_,rfl,congrArg V.int ek,e2,by lia,by lia,(Nat.le_of_lt (zav (by simp;lia))),fun q hq'=>?_⟩
   rw[Int.toNat_natCast,zh6]
   have s3:Same H2 (upd H2 q (.lst ((List.replicate kk (none:Option Nat)).map sv))):=Same.up hq'
   have e3:upd H2 q (.lst ((List.replicate kk (none:Option Nat)).map sv)) q=some (.lst ((List.replicate kk (none:Option Nat)).map sv)):=zaa
   have hpq:p≠q:=fun z=>by subst z;rw[s2 _ _ e1] at hq';cases hq'
   generalize upd H2 q (.lst ((List.replicate kk (none:Option Nat)).map sv))=H3 at s3 e3
   have e13:=s3 _ _ (s2 _ _ e1)
   refine⟨p,q,_,_,rfl,rfl,e13,e3,?_,?_⟩
   ·simp only[List.length_map,List.length_replicate]
    exact Nat.le_of_lt (zbM (by lia))
   have hp2:H p=none:=hp
   have s4:Same H (upd H3 p (.lst ((dgo wn (row.take i)).1.map sv++(List.replicate kk (none:Option Nat)).map sv))):=zas hp2 (s1.trans (s2.trans s3))
   have e4:upd H3 p (.lst ((dgo wn (row.take i)).1.map sv++(List.replicate kk (none:Option Nat)).map sv)) p=some (.lst ((dgo wn (row.take i)).1.map sv++(List.replicate kk (none:Option Nat)).map sv)):=zaa
   generalize upd H3 p (.lst ((dgo wn (row.take i)).1.map sv++(List.replicate kk (none:Option Nat)).map sv))=H4 at s4 e4
   refine⟨_,rfl,.inl ⟨rfl,_,SqL.of e4⟩,_,rfl,p,_,_,rfl,rfl,e4,?_,?_⟩
   ·simp only[List.length_append,List.length_map,List.length_replicate]
    exact zbM (by lia)
   have s5:Same H (upd H4 p (.lst (((dgo wn (row.take i)).1.map sv++(List.replicate kk (none:Option Nat)).map sv)++[V.int (row[i]:Nat)]))):=zas hp2 s4
   have e5:upd H4 p (.lst (((dgo wn (row.take i)).1.map sv++(List.replicate kk (none:Option Nat)).map sv)++[V.int (row[i]:Nat)])) p=some (.lst ((dgo wn (row.take (i+1))).1.map sv)):=by
    rw[zaa,hn]
    simp[sv]
   generalize upd H4 p (.lst (((dgo wn (row.take i)).1.map sv++(List.replicate kk (none:Option Nat)).map sv)++[V.int (row[i]:Nat)]))=H5 at s5 e5
   refine⟨_,rfl,row[i],rfl,?_⟩
   refine⟨_,rfl,_,_,rfl,rfl,(by show (0:Int)<2;decide),_,_,rfl,rfl,_,_,rfl,rfl,(by show (0:Int)<4;decide),?_⟩
   have ew:(((zbL row[i]:Nat):Int) - (row[i]:Int) % 2) % 4=((dgo wn (row.take (i+1))).2:Nat):=by
    rw[hn]
    show _=((wayB row[i]:Nat):Int)
    unfold wayB
    lia
   refine⟨some (V.int (row[i]:Nat)),o5,?_,s5,e5⟩
   exact congrArg (fun z:Int=>[some (V.int (wn:Int)),some (V.ref b),some (V.int z),some (V.ref p),some (V.int (row[i]:Nat)),o5]) ew
  ·rintro σ H1 ⟨o4,o5,rfl,s1,e1⟩
   rw[hrl,List.take_length] at e1
   rw[hrl,List.take_length]
   have hdl:=zfH row wn
   have hdw:=zho row wn hw
   have fin:∀ z:Int,z=(zaW wn row:Nat)→tRet (tOp rCat (tVar 3) (tOp rRep (tLst (tCons (tC .non) tNil)) (tVar 5))) { nx:=fun _ H'=>Q .non H',rt:=Q } [some (.int (wn:Int)),some (.ref b),some (.int ((dgo wn row).2:Nat)),some (.ref p),o4,some (.int z)] H1:=fun z hz=>by
    have hll:zaW wn row≤4:=by
     unfold zaW
     split
     ·decide
     ·exact Nat.le_of_lt (Nat.mod_lt _ (by decide))
    refine⟨_,rfl,zll,fun l hl=>?_⟩
    have s2:Same H1 (upd H1 l (.lst [.non])):=Same.up hl
    have e2:upd H1 l (.lst [.non]) l=some (.lst [.non]):=zaa
    generalize upd H1 l (.lst [.non])=H2 at s2 e2
    subst hz
    refine⟨_,rfl,l,_,_,rfl,rfl,e2,by lia,by lia,(Nat.le_of_lt (zav (by simp;lia))),fun q hq'=>?_⟩
    rw[Int.toNat_natCast,zh6]
    have s3:Same H2 (upd H2 q (.lst ((List.replicate (zaW wn row) (none:Option Nat)).map sv))):=Same.up hq'
    have e3:upd H2 q (.lst ((List.replicate (zaW wn row) (none:Option Nat)).map sv)) q=some (.lst ((List.replicate (zaW wn row) (none:Option Nat)).map sv)):=zaa
    generalize upd H2 q (.lst ((List.replicate (zaW wn row) (none:Option Nat)).map sv))=H3 at s3 e3
    refine⟨p,q,_,_,rfl,rfl,s3 _ _ (s2 _ _ e1),e3,?_,fun x hx=>?_⟩
    ·simp only[List.length_map,List.length_replicate]
     exact Nat.le_of_lt (zbM (by lia))
    ·have s13:=s1.trans (s2.trans s3)
     refine k x _ (s13.free hx) (s13.trans (Same.up hx)) ?_
     rw[zaa]
     unfold deeds
     rw[List.map_append]
   refine⟨_,rfl,_,.inr (.inl ⟨_,s1.seqT hq,rfl⟩),?_⟩
   by_cases he:row=[]
   ·exact iteN (by rw[he];rfl) (fin 4 (by rw[he];rfl))
   ·refine iteY (by cases row with | nil=>exact absurd rfl he | cons x r=>rfl) ⟨_,rfl,_,rfl,_,_,rfl,rfl,_,_,rfl,rfl,(by show (0:Int)<4;decide),fin _ ?_⟩
    have hl:zaW wn row=(wn+4 - (dgo wn row).2) % 4:=by
     unfold zaW
     rw[if_neg (by simpa using he)]
    rw[hl]
    lia
def wby:Edge→List (Option Nat)→List (Edge×Option Nat)
 | _,[]=>[]
 | e,d::r=>(e,d)::wby (edgeB e d) r
def eAt:Edge→List (Option Nat)→Edge
 | e,[]=>e
 | e,d::r=>eAt (edgeB e d) r
theorem zia (d:Option Nat):∀ (l:List (Option Nat)) (e:Edge),eAt e (l++[d])=edgeB (eAt e l) d
 | [],_=>rfl
 | _::l,e=>zia d l _
theorem zhu (d:Option Nat):∀ (l:List (Option Nat)) (e:Edge),wby e (l++[d])=wby e l++[(eAt e l,d)]
 | [],_=>rfl
 | a::l,e=>by
  show (e,a)::wby (edgeB e a) (l++[d])=_
  rw[zhu d l];rfl
theorem zeH:∀ (l:List (Option Nat)) (e:Edge),(wby e l).length=l.length
 | [],_=>rfl
 | a::l,e=>by show (wby (edgeB e a) l).length+1=_;rw[zeH l];rfl
theorem zkU {e:Edge}{o:Option Nat}(h:e.w<4):(edgeB e o).w<4:=by
 unfold edgeB
 cases o with
 | none=>exact Nat.mod_lt _ (by decide)
 | some s=>simp only;split <;> simp only <;> lia
theorem zlp:∀ (l:List (Option Nat)){e:Edge},e.w<4→(eAt e l).w<4
 | [],_,h=>h
 | _::l,_,h=>zlp l (zkU h)
theorem zfS {C:Cell→Bool}:∀ (es:List Edge){b:Edge},es[0]?=some b∨es=[]→(∀ i e f,es[i]?=some e→es[i+1]?=some f→f=nxt C e)→wby b (es.map (stepB C))=wk C es
 | [],_,_,_=>rfl
 | e::r,b,h0,hs=>by
  have hb:e=b:=by rcases h0 with h | h;simpa using h;cases h
  subst hb
  show (e,stepB C e)::wby (nxt C e) (r.map (stepB C))=(e,stepB C e)::wk C r
  rw[zfS r (b:=nxt C e) ?_ fun i x y h1 h2=>hs (i+1) x y (by simpa using h1) (by simpa using h2)]
  cases r with
  | nil=>exact .inr rfl
  | cons f r=>exact .inl (by have:=hs 0 e f rfl rfl;rw[← this];rfl)
def zhF (K:W.Frag):Sp:=fun vs H Q _=>∃ (a l:Addr) (b:Edge) (ds:List (Option Nat)),vs=[.ref a,.ref l]∧H a=some (.tup (edgeT b))∧b.w<4∧H l=some (.lst (ds.map sv))∧(∀ s,some s∈ds→s<8)∧ds.length≤3000 ∧
 ∀ p H' ws,H p=none→Same H H'→H' p=some (.lst ws)→VR ws (wby b ds) wR H'→Q (.ref p) H'
theorem zit (g_edge_behind:Fn P w K mg base 2 "edge_behind" ["edge","step"] (zdV K)) (d:Df K mg "walk_by" zch ["begin","deeds"]):FnOk P w K mg base CX0 3 d.f d.fd ["begin","deeds"] (zhF K):=by
 refine d.F.ok zcr (fun vs H Q E h=>?_) (fun cdv A outer s H vs Q E hr h=>?_)
 ·obtain⟨a,l,b,ds,rfl,_⟩:=h
  rfl
 ·obtain⟨a,l,b,ds,rfl,ha,hb,hl,h8,hlen,k⟩:=h
  refine⟨_,(zad (zao (i:=2) zcr.nd (by rfl) (Or.inl rfl) (zbm zac))
   (zad (zao (i:=3) zcr.nd (by rfl) (Or.inl rfl) (pv 0))
   (zad (zbw PassesOwn.never rfl (zaJ (pv 1)) (zag (i:=4) zcr.nd (by rfl) (Or.inl rfl))
   (zad (zco (pe_bm PySem.F.plainAttrs_list PySem.F.slot_list_append PySem.F.type_list_append zbX (pv 2) (pa_T (zaI (pa_N (pv 3) (pa_N (pv 4) zac))) zac)))
   (zaf (zao (i:=3) zcr.nd (by rfl) (Or.inl rfl) (zai g_edge_behind.ok (hr.mono (by decide)) (by rfl) g_edge_behind.m g_edge_behind.kp g_edge_behind.b .nil pass0 (pa_N (pv 3) (pa_N (pv 4) zac)))))))
   (zaf (zan (pv 2)))))),?_⟩
  refine⟨(by show 0≤sizeLine;decide),fun p hp=>?_⟩
  have s0:Same H (upd H p (.lst [])):=Same.up hp
  have e0:upd H p (.lst []) p=some (.lst []):=zaa
  generalize upd H p (.lst [])=H0 at s0 e0
  refine⟨_,rfl,_,rfl,l,rfl,⟨_,SqL.of (s0 _ _ hl)⟩,?_⟩
  refine zaD (K:=K) (a:=l) (xs:=ds.map sv) (fun i σ H1=>∃ (c:Addr) (o4:Option V) (ws:List V),σ=[some (.ref a),some (.ref l),some (.ref p),some (.ref c),o4]∧Same H H1∧H1 c=some (.tup (edgeT (eAt b (ds.take i))))∧H1 p=some (.lst ws)∧VR ws (wby b (ds.take i)) wR H1)
   ⟨a,_,[],rfl,s0,s0 _ _ ha,e0,VR.nil⟩ (fun i σ H1 _ ⟨_,_,_,_,s1,_⟩=>SqL.of (s1 _ _ hl)) ?_ ?_
  ·rintro i v σ H1 hi ⟨c,o4,ws,rfl,s1,hc,e1,hv⟩
   have hi':i<ds.length:=by have:=(List.getElem?_eq_some_iff.mp hi).1;rwa [List.length_map] at this
   rw[List.getElem?_map,List.getElem?_eq_getElem hi'] at hi
   cases hi
   have tk:=zaE (List.getElem?_eq_getElem hi')
   have wl:ws.length≤3000:=by rw[hv.1,zeH,List.length_take];lia
   refine⟨_,rfl,.inl ⟨rfl,_,SqL.of e1⟩,_,rfl,_,rfl,two,fun t ht=>?_⟩
   have s2:Same H1 (upd H1 t (.tup [.ref c,sv ds[i]])):=Same.up ht
   have e2:upd H1 t (.tup [.ref c,sv ds[i]]) t=some (.tup [.ref c,sv ds[i]]):=zaa
   generalize upd H1 t (.tup [.ref c,sv ds[i]])=H2 at s2 e2
   have e12:=s2 _ _ e1
   refine⟨p,ws,_,rfl,rfl,e12,zbM (by lia),?_⟩
   have kt3:KT H2 (upd H2 p (.lst (ws++[.ref t]))):=KT.lst e12
   have s3:Same H (upd H2 p (.lst (ws++[.ref t]))):=zas hp (s1.trans s2)
   have e3:upd H2 p (.lst (ws++[.ref t])) p=some (.lst (ws++[.ref t])):=zaa
   generalize upd H2 p (.lst (ws++[.ref t]))=H3 at kt3 s3 e3
   have hc3:=kt3 _ _ (s2 _ _ hc)
   refine⟨_,rfl,_,rfl,c,eAt b (ds.take i),ds[i],rfl,SqT.of hc3,zlp _ hb,fun z hz=>h8 z (hz ▸ List.getElem_mem _),fun q H4 hq s4 e4=>?_⟩
   refine⟨q,_,ws++[.ref t],rfl,s3.trans s4,?_,s4 _ _ e3,?_⟩
   ·rw[tk,zia];exact e4
   ·rw[tk,zhu]
    exact hv.snoc (fun x v h=>((h.kt (KT.of s2)).kt kt3).kt (KT.of s4)) ⟨t,c,rfl,s4 _ _ (kt3 _ _ e2),s4 _ _ hc3⟩
  ·rintro σ H1 ⟨c,o4,ws,rfl,s1,hc,e1,hv⟩
   rw[List.length_map,List.take_length] at hv
   exact⟨_,rfl,k p H1 ws hp s1 e1 hv⟩
def zdU (K:W.Frag):Sp:=fun vs H Q _=>∃ (a b:Addr) (e:Edge) (row:List Nat),vs=[.ref a,.ref b]∧H a=some (.tup (edgeT e))∧e.w<4∧SqT K H b (rowV row)∧row.length≤500∧(∀ s,some s∈deeds e.w row→s<8) ∧
 ∀ p H' ws,H p=none→Same H H'→H' p=some (.lst ws)→VR ws (wby e (deeds e.w row)) wR H'→Q (.ref p) H'
theorem zfr (g_walk_by:Fn P w K mg base 3 "walk_by" ["begin","deeds"] (zhF K)) (g_deeds_along:Fn P w K mg base 2 "deeds_along" ["begin_way","row"] (zi6 K)) (d:Df K mg "walk_along" zbp ["begin","row"]):FnOk P w K mg base CX0 4 d.f d.fd ["begin","row"] (zdU K):=by
 refine d.F.ok zfg (fun vs H Q E h=>?_) (fun cdv A outer s H vs Q E hr h=>?_)
 ·obtain⟨a,b,e,row,rfl,_⟩:=h
  rfl
 ·obtain⟨a,b,e,row,rfl,ha,hw,hq,hlen,h8,k⟩:=h
  refine⟨_,(zaf (zan (zai g_walk_by.ok (hr.mono (by decide)) (by rfl) g_walk_by.m g_walk_by.kp g_walk_by.b .nil pass0 (pa_N (pv 0) (zaj (zai g_deeds_along.ok (hr.mono (by decide)) (by rfl) g_deeds_along.m g_deeds_along.kp g_deeds_along.b .nil pass0 (zaj (pe_ix zcB (pv 0) zae (fun _ _=>rfl)) (pa_N (pv 1) zac))) zac))))),?_⟩
  refine⟨_,rfl,_,rfl,a,_,_,_,rfl,rfl,SqT.of ha,zap (j:=2) rfl,_,rfl,e.w,b,row,rfl,hw,hq,hlen,fun p H1 hp s1 e1=>?_⟩
  have hd:(deeds e.w row).length≤3000:=by
   unfold deeds
   have:=zfH row e.w
   have:zaW e.w row≤4:=by
    unfold zaW
    split
    ·decide
    ·exact Nat.le_of_lt (Nat.mod_lt _ (by decide))
   simp only[List.length_append,List.length_replicate]
   lia
  exact⟨a,p,e,_,rfl,s1 _ _ ha,hw,e1,h8,hd,fun q H2 ws hq2 s2 e2 hv=>k q H2 ws (s1.free hq2) (s1.trans s2) e2 hv⟩
end
open PySem L2 RP
def sR (q:Cell×Bool) (v:V) (H:Hp):Prop:=∃ A b,v=.ref A∧H A=some (.tup [.ref b,.bl q.2])∧H b=some (.tup (cellT q.1))
theorem sR.kt {q:Cell×Bool}{v:V}{H H':Hp}(h:sR q v H) (s:KT H H'):sR q v H':=let ⟨A,b,e,q1,q2⟩:=h;⟨A,b,e,s _ _ q1,s _ _ q2⟩
section
variable {P:Program}{w:World}{K:W.Frag}{mg:Str→Option Value}{base:Heap}
def zld (K:W.Frag):Sp:=fun vs H Q _=>∃ (a:Addr) (C:Cell→Bool) (e:Edge),vs=[.ref a,sv (stepB C e)]∧H a=some (.tup (edgeT e))∧IsE C e ∧
 ∀ p H' ss L,H p=none→Same H H'→H' p=some (.lst ss)→VR ss L sR H'→(∀ q∈L,C q.1=q.2)→L.length≤6→Q (.ref p) H'
theorem zd5 (g_edge_behind : Fn P w K mg base 2 "edge_behind" ["edge", "step"] (zdV K)) (g_gap_beside : Fn P w K mg base 2 "gap_beside" ["edge"] (spGap K)) (g_is_slant : Fn P w K mg base 1 "is_slant" ["step"] zc9)
  (g_gone:Fn P w K mg base 1 "gone" ["x","y","step"] zf1) (g_slant_step:Fn P w K mg base 1 "slant_step" ["way"] zgW) (g_straight_step:Fn P w K mg base 1 "straight_step" ["way"] zdl)
  (d:Df K mg "seen_between" zaY ["edge","step"]):FnOk P w K mg base CX0 3 d.f d.fd ["edge","step"] (zld K):=by
 refine d.F.ok za3 (fun vs H Q E h=>?_) (fun cdv A outer s H vs Q E hr h=>?_)
 ·obtain⟨a,C,e,rfl,_⟩:=h
  rfl
 ·obtain⟨a,C,e,rfl,ha,hE,k⟩:=h
  refine⟨_,(zad (zcb (pv 0) (zbz (by rfl) (zah (zag (i:=2) za3.nd (by rfl) (Or.inl rfl)) (zah (zag (i:=3) za3.nd (by rfl) (Or.inl rfl)) (zah (zag (i:=4) za3.nd (by rfl) (Or.inl rfl)) zaA)))))
   (zad (zao (i:=5) za3.nd (by rfl) (Or.inl rfl) (zai g_edge_behind.ok (hr.mono (by decide)) (by rfl) g_edge_behind.m g_edge_behind.kp g_edge_behind.b .nil pass0 (pa_N (pv 0) (pa_N (pv 1) zac))))
   (zad (zao (i:=6) za3.nd (by rfl) (Or.inl rfl) (zbm (pa_T (zaI (pa_T (zaI (pa_N (pv 2) (pa_N (pv 3) zac))) (pa_C pe_bl zac))) (pa_T (zaI (zaj (zai g_gap_beside.ok (hr.mono (by decide)) (by rfl) g_gap_beside.m g_gap_beside.kp g_gap_beside.b .nil pass0 (pa_N (pv 0) zac)) (pa_C pe_bl zac))) (pa_T (zaI (zaj (zcP zlB (pv 5) zdn (zdm zae)) (pa_C pe_bl zac))) (pa_T (zaI (zaj (zai g_gap_beside.ok (hr.mono (by decide)) (by rfl) g_gap_beside.m g_gap_beside.kp g_gap_beside.b .nil pass0 (pa_N (pv 5) zac)) (pa_C pe_bl zac))) zac))))))
   (zad (ps_if (zge (zdx (zai g_is_slant.ok (hr.mono (by decide)) (by rfl) g_is_slant.m g_is_slant.kp g_is_slant.b .nil pass0 (pa_N (pv 1) zac))))
   (zaf (zco (pe_bm PySem.F.plainAttrs_list PySem.F.slot_list_append PySem.F.type_list_append zbX (pv 6) (pa_T (zaI (zaj (zai g_gone.ok (hr.mono (by decide)) (by rfl) g_gone.m g_gone.kp g_gone.b .nil pass0 (pa_N (pv 2) (pa_N (pv 3) (zaj (zai g_slant_step.ok (hr.mono (by decide)) (by rfl) g_slant_step.m g_slant_step.kp g_slant_step.b .nil pass0 (pa_N (pv 4) zac)) zac)))) (pa_C pe_bl zac))) zac))))
   zaH)
   (zad (ps_if (zaz zju (pv 1) zcJ (zaw _))
   (zaf (zco (pe_bm PySem.F.plainAttrs_list PySem.F.slot_list_append PySem.F.type_list_append zbX (pv 6) (pa_T (zaI (zaj (zai g_gone.ok (hr.mono (by decide)) (by rfl) g_gone.m g_gone.kp g_gone.b .nil pass0 (pa_N (pv 2) (pa_N (pv 3) (zaj (zai g_straight_step.ok (hr.mono (by decide)) (by rfl) g_straight_step.m g_straight_step.kp g_straight_step.b .nil pass0 (pa_N (pv 4) zac)) zac)))) (pa_C pe_bl zac))) zac))))
   zaH)
   (zaf (zan (pv 6)))))))),?_⟩
  have hw:=hE.1
  have hN:=zdB hE
  refine⟨_,rfl,a,_,rfl,SqT.of ha,rfl,_,_,rfl,_,_,rfl,_,_,rfl,rfl,?_⟩
  refine⟨_,rfl,_,rfl,a,e,stepB C e,rfl,SqT.of ha,hw,zc7 hw,fun p1 H1 hp1 s1 e1=>?_⟩
  change H1 p1=some (.tup (edgeT (nxt C e))) at e1
  refine⟨_,rfl,_,rfl,two,fun t1 ht1=>⟨two,fun t2 ht2=>?_⟩⟩
  have s2:Same H1 (upd (upd H1 t1 (.tup [.int e.c.1,.int e.c.2])) t2 (.tup [.ref t1,.bl true])):=(Same.up ht1).trans (Same.up ht2)
  have r1:sR (e.c,true) (.ref t2) (upd (upd H1 t1 (.tup [.int e.c.1,.int e.c.2])) t2 (.tup [.ref t1,.bl true])):=⟨t2,t1,rfl,zaa,by rw[zam (fun z=>by subst z;rw[zaa] at ht2;cases ht2),zaa];rfl⟩
  generalize upd (upd H1 t1 (.tup [.int e.c.1,.int e.c.2])) t2 (.tup [.ref t1,.bl true])=H2 at s2 r1
  refine⟨_,rfl,a,e,rfl,SqT.of ((s1.trans s2) _ _ ha),hw,fun p3 H3 hp3 s3 e3=>⟨two,fun t3 ht3=>?_⟩⟩
  have s4:Same H3 (upd H3 t3 (.tup [.ref p3,.bl false])):=Same.up ht3
  have r2:sR (gap e,false) (.ref t3) (upd H3 t3 (.tup [.ref p3,.bl false])):=⟨t3,p3,rfl,zaa,s4 _ _ e3⟩
  generalize upd H3 t3 (.tup [.ref p3,.bl false])=H4 at s4 r2
  have s14:=s2.trans (s3.trans s4)
  have e14:=s14 _ _ e1
  have hs1:HT.sIx 3 3 (some 2)=2:=by decide
  refine⟨_,rfl,_,rfl,p1,_,rfl,SqT.of e14,fun hx=>absurd (show (3:Nat)=2 from hx.2.symm.trans hs1) (by decide),fun _ t5 ht5=>⟨two,fun t6 ht6=>?_⟩⟩
  have ec:cutV (edgeT (nxt C e)) none (some 2)=cellT (nxt C e).c:=rfl
  have s6:Same H4 (upd (upd H4 t5 (.tup (cutV (edgeT (nxt C e)) none (some 2)))) t6 (.tup [.ref t5,.bl true])):=(Same.up ht5).trans (Same.up ht6)
  have r3:sR ((nxt C e).c,true) (.ref t6) (upd (upd H4 t5 (.tup (cutV (edgeT (nxt C e)) none (some 2)))) t6 (.tup [.ref t5,.bl true])):=⟨t6,t5,rfl,zaa,by rw[zam (fun z=>by subst z;rw[zaa] at ht6;cases ht6),zaa,ec]⟩
  generalize upd (upd H4 t5 (.tup (cutV (edgeT (nxt C e)) none (some 2)))) t6 (.tup [.ref t5,.bl true])=H6 at s6 r3
  refine⟨_,rfl,p1,nxt C e,rfl,SqT.of (s6 _ _ e14),hN.1,fun p7 H7 hp7 s7 e7=>⟨two,fun t7 ht7=>?_⟩⟩
  have s8:Same H7 (upd H7 t7 (.tup [.ref p7,.bl false])):=Same.up ht7
  have r4:sR (gap (nxt C e),false) (.ref t7) (upd H7 t7 (.tup [.ref p7,.bl false])):=⟨t7,p7,rfl,zaa,s8 _ _ e7⟩
  generalize upd H7 t7 (.tup [.ref p7,.bl false])=H8 at s8 r4
  refine⟨(by show 4≤sizeLine;decide),fun l hl=>?_⟩
  have s48:=s6.trans (s7.trans s8)
  have s28:=s3.trans (s4.trans s48)
  have s08:=s1.trans (s2.trans s28)
  have kl:KT H8 (upd H8 l (.lst [.ref t2,.ref t3,.ref t6,.ref t7])):=KT.up hl
  have sl:Same H (upd H8 l (.lst [.ref t2,.ref t3,.ref t6,.ref t7])):=s08.trans (Same.up hl)
  have el:upd H8 l (.lst [.ref t2,.ref t3,.ref t6,.ref t7]) l=some (.lst [.ref t2,.ref t3,.ref t6,.ref t7]):=zaa
  have hl0:H l=none:=s08.free hl
  have hv:VR [.ref t2,.ref t3,.ref t6,.ref t7] [(e.c,true),(gap e,false),((nxt C e).c,true),(gap (nxt C e),false)] sR (upd H8 l (.lst [.ref t2,.ref t3,.ref t6,.ref t7])) :=
   VR.cons.mpr ⟨(r1.kt (KT.of s28)).kt kl,VR.cons.mpr ⟨(r2.kt (KT.of s48)).kt kl,VR.cons.mpr ⟨(r3.kt (KT.of (s7.trans s8))).kt kl,VR.cons.mpr ⟨r4.kt kl,VR.nil⟩⟩⟩⟩
  generalize upd H8 l (.lst [.ref t2,.ref t3,.ref t6,.ref t7])=H9 at kl sl el hv
  have hL:∀ q∈[(e.c,true),(gap e,false),((nxt C e).c,true),(gap (nxt C e),false)],C q.1=q.2:=by
   intro q hq
   simp only[List.mem_cons,List.not_mem_nil,or_false] at hq
   rcases hq with rfl | rfl | rfl | rfl
   ·exact hE.2.1
   ·exact hE.2.2
   ·exact hN.2.1
   ·exact hN.2.2
  rcases za4 hE with⟨c1,hs,_⟩ | ⟨c1,c2,hs,_⟩ | ⟨c1,c2,hs,_⟩ <;> rw[hs]
  ·refine⟨_,rfl,some ((2*e.w+7) % 8),rfl,_,rfl,?_⟩
   have:slant (some ((2*e.w+7) % 8))=true:=by show ((2*e.w+7) % 8 % 2 == 1)=true;rw[odd7];rfl
   rw[this]
   refine iteF ?_
   refine⟨_,rfl,rfl,_,rfl,iteF ?_⟩
   exact⟨_,rfl,k l H9 _ _ hl0 sl el hv hL (by show 4≤6;decide)⟩
  ·refine⟨_,rfl,some (2*e.w),rfl,_,rfl,?_⟩
   have:slant (some (2*e.w))=false:=by show ((2*e.w) % 2 == 1)=false;rw[show 2*e.w % 2=0 by lia];rfl
   rw[this]
   refine iteT ?_
   refine⟨_,rfl,.inl ⟨rfl,_,SqL.of el⟩,_,rfl,_,rfl,_,rfl,e.w,rfl,hw,e.c,(2*e.w+7) % 8,rfl,Nat.mod_lt _ (by decide),fun p10 H10 hp10 s10 e10=>⟨two,fun t11 ht11=>?_⟩⟩
   have s11:Same H10 (upd H10 t11 (.tup [.ref p10,.bl false])):=Same.up ht11
   have r5:sR (go e.c ((2*e.w+7) % 8),false) (.ref t11) (upd H10 t11 (.tup [.ref p10,.bl false])):=⟨t11,p10,rfl,zaa,s11 _ _ e10⟩
   generalize upd H10 t11 (.tup [.ref p10,.bl false])=H11 at s11 r5
   have el11:=(s10.trans s11) _ _ el
   refine⟨l,_,_,rfl,rfl,el11,zbM (by show 4≤5000;decide),?_⟩
   have kt12:KT H11 (upd H11 l (.lst ([.ref t2,.ref t3,.ref t6,.ref t7]++[.ref t11]))):=KT.lst el11
   have s12:Same H (upd H11 l (.lst ([.ref t2,.ref t3,.ref t6,.ref t7]++[.ref t11]))):=zas hl0 (sl.trans (s10.trans s11))
   have e12:upd H11 l (.lst ([.ref t2,.ref t3,.ref t6,.ref t7]++[.ref t11])) l=some (.lst ([.ref t2,.ref t3,.ref t6,.ref t7]++[.ref t11])):=zaa
   have hv12:=hv.snoc (fun x v h=>(h.kt (KT.of (s10.trans s11))).kt kt12) (r5.kt kt12)
   generalize upd H11 l (.lst ([.ref t2,.ref t3,.ref t6,.ref t7]++[.ref t11]))=H12 at kt12 s12 e12 hv12
   refine⟨_,rfl,rfl,_,rfl,iteF ?_⟩
   refine⟨_,rfl,k l H12 _ _ hl0 s12 e12 hv12 (fun q hq=>?_) (by show 5≤6;decide)⟩
   rcases List.mem_append.mp hq with m | m
   ·exact hL q m
   ·rw[List.mem_singleton.mp m];exact c1
  ·refine⟨_,rfl,none,rfl,_,rfl,iteT ?_⟩
   refine⟨_,rfl,.inl ⟨rfl,_,SqL.of el⟩,_,rfl,_,rfl,_,rfl,e.w,rfl,hw,e.c,(2*e.w+7) % 8,rfl,Nat.mod_lt _ (by decide),fun p10 H10 hp10 s10 e10=>⟨two,fun t11 ht11=>?_⟩⟩
   have s11:Same H10 (upd H10 t11 (.tup [.ref p10,.bl false])):=Same.up ht11
   have r5:sR (go e.c ((2*e.w+7) % 8),false) (.ref t11) (upd H10 t11 (.tup [.ref p10,.bl false])):=⟨t11,p10,rfl,zaa,s11 _ _ e10⟩
   generalize upd H10 t11 (.tup [.ref p10,.bl false])=H11 at s11 r5
   have el11:=(s10.trans s11) _ _ el
   refine⟨l,_,_,rfl,rfl,el11,zbM (by show 4≤5000;decide),?_⟩
   have kt12:KT H11 (upd H11 l (.lst ([.ref t2,.ref t3,.ref t6,.ref t7]++[.ref t11]))):=KT.lst el11
   have s12:Same H (upd H11 l (.lst ([.ref t2,.ref t3,.ref t6,.ref t7]++[.ref t11]))):=zas hl0 (sl.trans (s10.trans s11))
   have e12:upd H11 l (.lst ([.ref t2,.ref t3,.ref t6,.ref t7]++[.ref t11])) l=some (.lst ([.ref t2,.ref t3,.ref t6,.ref t7]++[.ref t11])):=zaa
   have hv12:=hv.snoc (fun x v h=>(h.kt (KT.of (s10.trans s11))).kt kt12) (r5.kt kt12)
   generalize upd H11 l (.lst ([.ref t2,.ref t3,.ref t6,.ref t7]++[.ref t11]))=H12 at kt12 s12 e12 hv12
   refine⟨_,rfl,rfl,_,rfl,iteT ?_⟩
   refine⟨_,rfl,.inl ⟨rfl,_,SqL.of e12⟩,_,rfl,_,rfl,_,rfl,e.w,rfl,hw,e.c,2*e.w,rfl,by lia,fun p13 H13 hp13 s13 e13=>⟨two,fun t14 ht14=>?_⟩⟩
   have s14':Same H13 (upd H13 t14 (.tup [.ref p13,.bl false])):=Same.up ht14
   have r6:sR (go e.c (2*e.w),false) (.ref t14) (upd H13 t14 (.tup [.ref p13,.bl false])):=⟨t14,p13,rfl,zaa,s14' _ _ e13⟩
   generalize upd H13 t14 (.tup [.ref p13,.bl false])=H14 at s14' r6
   have e14':=(s13.trans s14') _ _ e12
   refine⟨l,_,_,rfl,rfl,e14',zbM (by show 5≤5000;decide),?_⟩
   have kt15:KT H14 (upd H14 l (.lst (([.ref t2,.ref t3,.ref t6,.ref t7]++[.ref t11])++[.ref t14]))):=KT.lst e14'
   have s15:Same H (upd H14 l (.lst (([.ref t2,.ref t3,.ref t6,.ref t7]++[.ref t11])++[.ref t14]))):=zas hl0 (s12.trans (s13.trans s14'))
   have e15:upd H14 l (.lst (([.ref t2,.ref t3,.ref t6,.ref t7]++[.ref t11])++[.ref t14])) l=some (.lst (([.ref t2,.ref t3,.ref t6,.ref t7]++[.ref t11])++[.ref t14])):=zaa
   have hv15:=hv12.snoc (fun x v h=>(h.kt (KT.of (s13.trans s14'))).kt kt15) (r6.kt kt15)
   refine⟨_,rfl,k l _ _ _ hl0 s15 e15 hv15 (fun q hq=>?_) (by show 6≤6;decide)⟩
   rcases List.mem_append.mp hq with m | m
   ·rcases List.mem_append.mp m with m | m
    ·exact hL q m
    ·rw[List.mem_singleton.mp m];exact c1
   ·rw[List.mem_singleton.mp m];exact c2
end
open PySem L2 RP
def Known (C:Cell→Bool) (kvs:List (List Key×V)):Prop:=∀ c v,valV kvs (kC c)=some v→v=.bl (C c)
section
variable {P:Program}{w:World}{K:W.Frag}{mg:Str→Option Value}{base:Heap}
def zeN (K:W.Frag):Sp:=fun vs H Q _=>∃ (a:Addr) (C:Cell→Bool) (es:List Edge),vs=[.ref a]∧LR K H a (wk C es) wR∧(∀ e∈es,IsE C e)∧es.length≤500∧∀ H',Same H H'→Q .non H'
theorem zeu (g_seen_between:Fn P w K mg base 3 "seen_between" ["edge","step"] (zld K)) (d:Df K mg "gainsaid_at" zba ["walk"]):FnOk P w K mg base CX0 4 d.f d.fd ["walk"] (zeN K):=by
 refine d.F.ok zaL (fun vs H Q E h=>?_) (fun cdv A outer s H vs Q E hr h=>?_)
 ·obtain⟨a,C,es,rfl,_⟩:=h
  rfl
 ·obtain⟨a,C,es,rfl,hLR,hE,hlen,k⟩:=h
  have hu1:=hu_of hr
  refine⟨_,(zad (zao (i:=1) zaL.nd (by rfl) (Or.inl rfl) zdP)
   (zad (zao (i:=2) zaL.nd (by rfl) (Or.inl rfl) zae)
   (zad (zbw PassesOwn.never rfl (zaJ (pv 0)) (zbz (by rfl) (zah (zag (i:=3) zaL.nd (by rfl) (Or.inl rfl)) (zah (zag (i:=4) zaL.nd (by rfl) (Or.inl rfl)) zaA)))
   (zad (zbw PassesOwn.never rfl (zaJ (zai g_seen_between.ok (hr.mono (by decide)) (by rfl) g_seen_between.m g_seen_between.kp g_seen_between.b .nil pass0 (pa_N (pv 3) (pa_N (pv 4) zac)))) (zbz (by rfl) (zah (zag (i:=5) zaL.nd (by rfl) (Or.inl rfl)) (zah (zag (i:=6) zaL.nd (by rfl) (Or.inl rfl)) zaA)))
   (zaf (ps_if (zaz op_ne (zkH hu1 (pv 1) (pv 5) (pv 6) ⟨rfl,rfl,rfl,rfl⟩) (pv 6) (zaw _))
   (zaf (zan (pv 2)))
   zaH)))
   (zaf (ps_if (zaz zfp (pv 4) zcJ (zaw _))
   (zaf (zml (i:=2) zaL.nd (by rfl) (Or.inl rfl) zae zmA))
   zaH))))
   (zaf (zan zcJ))))),?_⟩
  obtain⟨ws,hq,hv⟩:=hLR.vr
  have hwl:ws.length=es.length:=by rw[hv.1,zb4]
  refine fun dd hdd=>?_
  have s0:Same H (upd H dd (.dT [])):=Same.up hdd
  have d0:upd H dd (.dT []) dd=some (.dT []):=zaa
  generalize upd H dd (.dT [])=H0 at s0 d0
  refine⟨_,rfl,a,rfl,⟨_,s0.seq hq⟩,?_⟩
  refine zaD (K:=K) (a:=a) (xs:=ws) (fun i σ H1=>∃ (n:Int) (o3 o4 o5 o6:Option V) (kvs:List (List Key×V)),σ=[some (.ref a),some (.ref dd),some (.int n),o3,o4,o5,o6]∧Same H H1∧H1 dd=some (.dT kvs)∧Known C kvs∧kvs.length≤6*i)
   ⟨_,_,_,_,_,[],rfl,s0,d0,(fun c v h=>by cases h),Nat.zero_le _⟩ (fun i σ H1 _ ⟨_,_,_,_,_,_,_,s1,_⟩=>s1.seq hq) ?_ ?_
  ·rintro i v σ H1 hi ⟨n,o3,o4,o5,o6,kvs,rfl,s1,d1,hk,hkl⟩
   obtain⟨⟨e,st⟩,he,B,b,rfl,q1,q2⟩:=hv.at hi
   have hi':i<es.length:=by rw[← hwl];exact (List.getElem?_eq_some_iff.mp hi).1
   have he':es[i]?=some e∧st=stepB C e:=by
    unfold wk at he
    rw[List.getElem?_map] at he
    obtain⟨g,hg,eg⟩:=Option.map_eq_some_iff.mp he
    cases eg
    exact⟨hg,rfl⟩
   obtain⟨he1,rfl⟩:=he'
   have hEe:=hE e (List.mem_of_getElem? he1)
   refine⟨B,_,rfl,SqT.of (s1 _ _ q1),rfl,_,_,rfl,_,_,rfl,rfl,?_⟩
   refine⟨_,rfl,_,rfl,b,C,e,rfl,s1 _ _ q2,hEe,fun p H2 ss L hp s2 e2 hs2 hL hLl=>?_⟩
   have hpd:p≠dd:=fun z=>by subst z;rw[d1] at hp;cases hp
   have d2:=s2 _ _ d1
   refine⟨p,rfl,⟨_,SqL.of e2⟩,?_⟩
   refine zaD (K:=K) (a:=p) (xs:=ss) (fun j σ H3=>∃ (o5 o6:Option V) (kv3:List (List Key×V)),σ=[some (.ref a),some (.ref dd),some (.int n),some (.ref b),some (sv (stepB C e)),o5,o6]∧(∀ z o,z≠dd→H2 z=some o→H3 z=some o)∧H3 dd=some (.dT kv3)∧Known C kv3∧kv3.length≤6*i+j)
    ⟨_,_,kvs,rfl,(fun z o _ h=>h),d2,hk,by lia⟩ (fun j σ H3 _ ⟨_,_,_,_,k3,_⟩=>SqL.of (k3 _ _ hpd e2)) ?_ ?_
   ·rintro j u σ H3 hj ⟨o5,o6,kv3,rfl,k3,d3,hk3,hl3⟩
    obtain⟨⟨c,t⟩,hq',A2,b2,rfl,r1,r2⟩:=hs2.at hj
    have hjl:j<L.length:=by rw[← hs2.1];exact (List.getElem?_eq_some_iff.mp hj).1
    have hct:C c=t:=hL _ (List.mem_of_getElem? hq')
    have nA:A2≠dd:=ne_of r1 d2 (fun z=>nomatch z)
    have nb:b2≠dd:=ne_of r2 d2 (fun z=>nomatch z)
    refine⟨A2,_,rfl,SqT.of (k3 _ _ nA r1),rfl,_,_,rfl,_,_,rfl,rfl,?_⟩
    refine⟨_,rfl,dd,rfl,.inr ⟨_,Rd.of d3⟩,_,rfl,_,rfl,kv3,kC c,b2,d3,rfl,k3 _ _ nb r2,zbM (by lia),fun v hv'=>?_,fun hn=>?_⟩
    ·have hv2:v=.bl t:=by rw[hk3 c v hv',hct]
     subst hv2
     refine⟨_,rfl,rfl,_,rfl,iteN (by simp) ?_⟩
     exact⟨_,_,kv3,rfl,k3,d3,hk3,by lia⟩
    ·refine⟨_,rfl,rfl,_,rfl,iteN (by simp) ?_⟩
     refine⟨_,_,putK kv3 (kC c) (.bl t),rfl,(fun z o hz h=>by rw[zam hz];exact k3 z o hz h),zaa,(fun c' v' hv'=>?_),Nat.le_trans (zby _ _ _) (by lia)⟩
     rw[ze5] at hv'
     by_cases ec:c'=c
     ·subst ec
      rw[if_pos rfl] at hv'
      cases hv'
      rw[hct]
     ·rw[if_neg (fun z=>ec (zh1.mp z))] at hv'
      exact hk3 c' v' hv'
   ·rintro σ H3 ⟨o5,o6,kv3,rfl,k3,d3,hk3,hl3⟩
    have s3:Same H H3:=fun z o h=>k3 z o (zaq h hdd) (s2 _ _ (s1 _ _ h))
    have hl4:kv3.length≤6*(i+1):=by have:=hs2.1;lia
    cases hst:stepB C e with
    | none =>
     refine⟨_,rfl,rfl,_,rfl,iteF ?_⟩
     exact⟨_,_,_,_,_,kv3,rfl,s3,d3,hk3,hl4⟩
    | some z =>
     refine⟨_,rfl,rfl,_,rfl,iteT ?_⟩
     refine⟨_,rfl,_,_,rfl,rfl,?_⟩
     exact⟨_,_,_,_,_,kv3,rfl,s3,d3,hk3,hl4⟩
  ·rintro σ H1 ⟨n,o3,o4,o5,o6,kvs,rfl,s1,d1,hk,hkl⟩
   exact k H1 s1
theorem zkZ {α:Type}{xs:List α}(h:0<xs.length):atI xs (-1)=xs[xs.length - 1]?:=by
 unfold atI ixN
 rw[if_neg (by decide),if_pos (by lia)]
 show xs[((-1:Int)+xs.length).toNat]?=_
 rw[show ((-1:Int)+xs.length).toNat=xs.length - 1 by lia]
def zi7 (K:W.Frag):Sp:=fun vs H Q _=>∃ (a:Addr) (C:Cell→Bool) (b:Edge) (es:List Edge),vs=[.ref a]∧LR K H a (wk C es) wR∧Closed C b es∧es.length≤500∧∀ H',Same H H'→Q (.bl true) H'
theorem zfx (g_edge_behind:Fn P w K mg base 2 "edge_behind" ["edge","step"] (zdV K)) (d:Df K mg "comes_back" zbt ["walk"]):FnOk P w K mg base CX0 3 d.f d.fd ["walk"] (zi7 K):=by
 refine d.F.ok zcv (fun vs H Q E h=>?_) (fun cdv A outer s H vs Q E hr h=>?_)
 ·obtain⟨a,C,b,es,rfl,_⟩:=h
  rfl
 ·obtain⟨a,C,b,es,rfl,hLR,hcl,hlen,k⟩:=h
  have hu64:=hr.units
  refine⟨_,(zad (zcb (pe_ix za2 (pv 0) (pe_un zfV zae) (fun _ _=>rfl)) (zbz (by rfl) (zah (zag (i:=1) zcv.nd (by rfl) (Or.inl rfl)) (zah (zag (i:=2) zcv.nd (by rfl) (Or.inl rfl)) zaA))))
   (zaf (zan (zca (zmr hu64) (zai g_edge_behind.ok (hr.mono (by decide)) (by rfl) g_edge_behind.m g_edge_behind.kp g_edge_behind.b .nil pass0 (pa_N (pv 1) (pa_N (pv 2) zac))) (pe_ix zcB (pe_ix za2 (pv 0) zae (fun _ _=>rfl)) zae (fun _ _=>rfl)) (zaw _))))),?_⟩
  obtain⟨ws,hq,hv⟩:=hLR.vr
  have hwl:ws.length=es.length:=by rw[hv.1,zb4]
  have hp:=hcl.pos
  obtain⟨hch,l,hl,hb⟩:=id hcl
  obtain⟨v1,hv1⟩:∃ v,ws[ws.length - 1]?=some v:=⟨_,List.getElem?_eq_getElem (by lia)⟩
  obtain⟨⟨e1,st1⟩,he1,B1,b1,rfl,q1,q2⟩:=hv.at hv1
  obtain⟨v0,hv0⟩:∃ v,ws[0]?=some v:=⟨_,List.getElem?_eq_getElem (by lia)⟩
  obtain⟨⟨e0,st0⟩,he0,B0,b0,rfl,r1,r2⟩:=hv.at hv0
  have h1:e1=l∧st1=stepB C l:=by
   unfold wk at he1
   rw[hwl,List.getElem?_map,hl] at he1
   cases he1;exact⟨rfl,rfl⟩
  obtain⟨rfl,rfl⟩:=h1
  have h0:e0=b:=by
   unfold wk at he0
   rw[List.getElem?_map,hch.1] at he0
   cases he0;rfl
  subst h0
  have hEl:IsE C e1:=hch.2.2.1 e1 (List.mem_of_getElem? hl)
  refine⟨_,rfl,_,rfl,a,ws,_,_,rfl,rfl,hq,(zkZ (by lia)).trans hv1,?_⟩
  refine⟨B1,_,rfl,SqT.of q1,rfl,_,_,rfl,_,_,rfl,rfl,?_⟩
  refine⟨_,rfl,_,rfl,b1,e1,stepB C e1,rfl,SqT.of q2,hEl.1,zc7 hEl.1,fun p H1 hp1 s1 f1=>?_⟩
  refine⟨_,rfl,a,ws,_,_,rfl,rfl,s1.seq hq,(zap (j:=0) hv0),B0,_,_,_,rfl,rfl,SqT.of (s1 _ _ r1),zap (j:=0) rfl,?_⟩
  refine⟨_,_,zcH f1,zcH (s1 _ _ r2),zaF _,zaF _,?_⟩
  rw[zcW,decide_eq_true (by show eI (nxt C e1)=eI e0;rw[hb])]
  exact k H1 s1
theorem nL_wk (C:Cell→Bool) (es:List Edge):nL (wk C es)=(es.filter fun e=>(stepB C e).isNone).length:=by
 unfold nL wk;rw[List.filter_map,List.length_map];rfl
theorem nS_wk (C:Cell→Bool) (es:List Edge):nS (wk C es)=(es.filter fun e=>slant (stepB C e)).length:=by
 unfold nS wk;rw[List.filter_map,List.length_map];rfl
theorem ziT {C:Cell→Bool}{b:Edge}{es:List Edge}(h:Closed C b es):(nL (wk C es):Int) - nS (wk C es)=4∨(nL (wk C es):Int) - nS (wk C es)=-4:=by
 rw[nL_wk,nS_wk,← ze8]
 exact h.turning
def zeM (K:W.Frag):Sp:=fun vs H Q _=>∃ (a:Addr) (C:Cell→Bool) (b:Edge) (es:List Edge),vs=[.ref a,.str (sortS (wk C es))]∧LR K H a (wk C es) wR∧Closed C b es∧es.length≤500∧∀ H',Same H H'→Q (.bl true) H'
theorem zgk (T:Txt P w K mg) (g_comes_back:Fn P w K mg base 3 "comes_back" ["walk"] (zi7 K)) (g_lefts_less_slants:Fn P w K mg base 3 "lefts_less_slants" ["walk"] (zi4 K)) (d:Df K mg "is_closed" zbH ["walk","sort"]):FnOk P w K mg base CX0 4 d.f d.fd ["walk","sort"] (zeM K):=by
 refine d.F.ok zf8 (fun vs H Q E h=>?_) (fun cdv A outer s H vs Q E hr h=>?_)
 ·obtain⟨a,C,b,es,rfl,_⟩:=h
  rfl
 ·obtain⟨a,C,b,es,rfl,hLR,hcl,hlen,k⟩:=h
  refine⟨_,(zaf (zan (zjs (zai g_comes_back.ok (hr.mono (by decide)) (by rfl) g_comes_back.m g_comes_back.kp g_comes_back.b .nil pass0 (pa_N (pv 0) zac)) (zhP (zca op_eq (zai g_lefts_less_slants.ok (hr.mono (by decide)) (by rfl) g_lefts_less_slants.m g_lefts_less_slants.kp g_lefts_less_slants.b .nil pass0 (pa_N (pv 0) zac)) (zmn (by rfl) T.more (pv 1)) (zaw _)))))),?_⟩
  refine⟨_,rfl,a,C,b,es,rfl,hLR,hcl,hlen,fun H1 s1=>⟨_,rfl,iteT ?_⟩⟩
  refine⟨_,rfl,a,wk C es,rfl,hLR.same s1 (fun x v h=>h.same s1),by rw[zb4];exact hlen,fun H2 s2=>⟨_,rfl,?_⟩⟩
  rcases ziT hcl with t | t
  ·refine .inl ⟨?_,rfl,?_⟩
   ·unfold sortS;rw[if_pos (by lia)]
   ·rw[t,decide_eq_true rfl];exact k H2 (s1.trans s2)
  ·refine .inr ⟨?_,rfl,?_⟩
   ·unfold sortS;rw[if_neg (by lia)]
   ·rw[t,decide_eq_true rfl];exact k H2 (s1.trans s2)
theorem IsRnd.walk {C : Cell → Bool}{b : Edge}{es : List Edge}{r : Rnd}(h : Closed C b es) (k : IsRnd (wk C es) r) :
  ∃ es',Closed C (begE r) es'∧es'.Perm es∧r.row=(es'.map (stepB C)).filterMap id∧zcz (wk C es') r.so (begE r)∧r.so=sortS (wk C es')∧IsRnd (wk C es') r:=by
 obtain⟨r0,j,f,rf,⟨rb,rw',rl⟩,rx,ry,rr⟩:=id k
 rw[zfR] at rf rb rl
 have ef:begE r=f:=by
  obtain⟨⟨x,y⟩,w⟩:=f
  unfold begE
  rw[rx,ry,r0]
  simp only at rw' ⊢
  rw[rw']
 have h1:=h.rot j rf
 have pm:=zkx es j
 have ss:=zil (C:=C) pm
 have hrow:r.row=((es.drop j++es.take j).map (stepB C)).filterMap id:=by
  rw[rr]
  unfold wk
  rw[← List.map_drop,← List.map_take,← List.map_append,List.filterMap_map,List.filterMap_map]
  rfl
 have hb:zcz (wk C (es.drop j++es.take j)) r.so f:=⟨by rw[zfR];exact pm.mem_iff.mpr rb,by rw[rw',r0],fun g hg hw=>by
  rw[zfR] at hg
  exact rl g (pm.mem_iff.mp hg) (by rw[hw,r0])⟩
 rw[ef]
 refine⟨_,h1,pm,hrow,hb,by rw[r0,ss],by rw[r0,ss],0,f,by rw[zfR];exact h1.1.1,by rw[ss,← r0];exact hb,rx,ry,?_⟩
 rw[hrow,List.drop_zero,List.take_zero,List.append_nil]
 unfold wk
 rw[List.filterMap_map,List.filterMap_map]
 rfl
def zhE (K:W.Frag):Sp:=fun vs H Q _=>∃ (v:V) (r:Rnd) (C:Cell→Bool) (es:List Edge),vs=[v]∧rR r v H∧Closed C (begE r) es∧r.row=(es.map (stepB C)).filterMap id∧zcz (wk C es) r.so (begE r)∧r.so=sortS (wk C es)∧es.length≤500 ∧
 ∀ p H' ws,H p=none→Same H H'→H' p=some (.lst ws)→VR ws (wk C es) wR H'→Q (.ref p) H'
theorem zis (g_begin_edge : Fn P w K mg base 1 "begin_edge" ["one"] zf3) (g_walk_along : Fn P w K mg base 4 "walk_along" ["begin", "row"] (zdU K)) (g_gainsaid_at : Fn P w K mg base 4 "gainsaid_at" ["walk"] (zeN K))
  (g_is_closed:Fn P w K mg base 4 "is_closed" ["walk","sort"] (zeM K)) (g_begin_of:Fn P w K mg base 3 "begin_of" ["walk","sort"] (zgY K)) (d:Df K mg "walk_of" zcg ["one"]):FnOk P w K mg base CX0 5 d.f d.fd ["one"] (zhE K):=by
 refine d.F.ok zbN (fun vs H Q E h=>?_) (fun cdv A outer s H vs Q E hr h=>?_)
 ·obtain⟨v,r,C,es,rfl,_⟩:=h
  rfl
 ·obtain⟨v,r,C,es,rfl,hv,hcl,hrow,hbg,hso,hlen,k⟩:=h
  have hu64:=hr.units
  refine⟨_,(zad (zcb (pv 0) (zbz (by rfl) (zah (zag (i:=1) zbN.nd (by rfl) (Or.inl rfl)) (zah (zag (i:=2) zbN.nd (by rfl) (Or.inl rfl)) (zah (zag (i:=3) zbN.nd (by rfl) (Or.inl rfl)) (zah (zag (i:=4) zbN.nd (by rfl) (Or.inl rfl)) zaA))))))
   (zad (zao (i:=5) zbN.nd (by rfl) (Or.inl rfl) (zai g_begin_edge.ok (hr.mono (by decide)) (by rfl) g_begin_edge.m g_begin_edge.kp g_begin_edge.b .nil pass0 (pa_N (pv 0) zac)))
   (zad (zao (i:=6) zbN.nd (by rfl) (Or.inl rfl) (zai g_walk_along.ok (hr.mono (by decide)) (by rfl) g_walk_along.m g_walk_along.kp g_walk_along.b .nil pass0 (pa_N (pv 5) (pa_N (pv 4) zac))))
   (zad (zao (i:=7) zbN.nd (by rfl) (Or.inl rfl) (zai g_gainsaid_at.ok (hr.mono (by decide)) (by rfl) g_gainsaid_at.m g_gainsaid_at.kp g_gainsaid_at.b .nil pass0 (pa_N (pv 6) zac)))
   (zad (ps_if (zaz zfp (pv 7) zcJ (zaw _))
   (zaf zfl)
   zaH)
   (zad (ps_if (pw_or (zge (zdx (zai g_is_closed.ok (hr.mono (by decide)) (by rfl) g_is_closed.m g_is_closed.kp g_is_closed.b .nil pass0 (pa_N (pv 6) (pa_N (pv 1) zac))))) (zjh (zaz (zdA hu64) (zai g_begin_of.ok (hr.mono (by decide)) (by rfl) g_begin_of.m g_begin_of.kp g_begin_of.b .nil pass0 (pa_N (pv 6) (pa_N (pv 1) zac))) (pv 5) (zaw _)))).pt
   (zaf zfl)
   zaH)
   (zaf (zan (pv 6))))))))),?_⟩
  obtain⟨a,b,rfl,q1,q2⟩:=id hv
  have hE:IsE C (begE r):=hcl.1.2.2.1 _ (List.mem_of_getElem? hcl.1.1)
  have so2:r.so = "rim" ∨ r.so = "hole":=by rw[hso];exact zdM _
  have hrl:r.row.length≤500:=by
   rw[hrow]
   exact Nat.le_trans (List.length_filterMap_le _ _) (by rw[List.length_map];exact hlen)
  have hdd:deeds (begE r).w r.row=es.map (stepB C):=by rw[hrow];exact hcl.deeds.symm
  refine⟨_,rfl,a,_,rfl,SqT.of q1,rfl,_,_,rfl,_,_,rfl,_,_,rfl,_,_,rfl,rfl,?_⟩
  refine⟨_,rfl,.ref a,r,rfl,hv,so2,fun p1 H1 hp1 s1 e1=>?_⟩
  refine⟨_,rfl,_,rfl,p1,b,begE r,r.row,rfl,e1,hE.1,SqT.of (s1 _ _ q2),hrl,(fun z hz=>?_),fun p H2 ws hp s2 e2 hw=>?_⟩
  ·rw[hdd] at hz
   obtain⟨e,he,ez⟩:=List.mem_map.mp hz
   exact zc7 (hcl.1.2.2.1 e he).1 z ez
  rw[hdd,zfS es (.inl hcl.1.1) hcl.1.2.1] at hw
  have lr:LR K H2 p (wk C es) wR:=LR.of e2 hw
  refine⟨_,rfl,p,C,es,rfl,lr,hcl.1.2.2.1,hlen,fun H3 s3=>?_⟩
  refine⟨_,rfl,rfl,_,rfl,iteF ?_⟩
  have lr3:=lr.same s3 (fun x v h=>h.same s3)
  refine⟨_,rfl,_,rfl,p,C,begE r,es,(by rw[← hso];rfl),lr3,hcl,hlen,fun H4 s4=>⟨_,rfl,iteF ?_⟩⟩
  have lr4:=lr3.same s4 (fun x v h=>h.same s4)
  refine⟨_,rfl,_,rfl,p,wk C es,r.so,rfl,so2,lr4,by rw[zb4];exact hlen,⟨begE r,hbg.1,hbg.2.1⟩,fun b5 e5 H5 s5 f5 ib=>?_⟩
  have ee:e5=begE r:=ib.one (List.Perm.refl _) hbg
  subst ee
  have s25:=s3.trans (s4.trans s5)
  refine⟨_,rfl,_,_,zcH f5,zcH ((s2.trans s25) _ _ e1),zaF _,zaF _,_,rfl,iteN (by rw[zcW,decide_eq_true rfl];rfl) ?_⟩
  refine⟨_,rfl,k p H5 ws (s1.free hp) (s1.trans (s2.trans s25)) (s25 _ _ e2) (hw.mono fun x v h=>h.same s25)⟩
end
open PySem L2 RP
def rowI (row:List Nat):List Int:=row.map fun n:Nat=>(n:Int)
def dR (r:Rnd):PyData:=.tuple [.str r.so,.int r.x,.int r.y,tI (rowI r.row)]
theorem zmj (row:List Nat):rowV row=(rowI row).map V.int:=by unfold rowV rowI;rw[List.map_map];rfl
theorem zkw {a b:List Nat}(h:rowI a=rowI b):a=b:=by
 unfold rowI at h
 exact List.map_inj_right (f:=fun n:Nat=>(n:Int)) (fun x y e=>by lia) |>.mp h
theorem zky {K:W.Frag}{H:Hp}{r:Rnd}{v:V}(h:rR r v H):RD K H v (dR r):=by
 obtain⟨a,b,rfl,q1,q2⟩:=h
 refine .tup (SqT.of q1) (.cons (.str _) (.cons (.int _) (.cons (.int _) (.cons (.tup (SqT.of q2) ?_) .nil))))
 rw[zmj]
 exact RDs.ints _
theorem zmD (r q:Rnd):PyData.eqv (dR r) (dR q)=decide (r=q):=by
 show ((r.so == q.so) && ((r.x == q.x) && ((r.y == q.y) && (PyData.eqv (tI (rowI r.row)) (tI (rowI q.row)) && true))))=_
 rw[zcW,Bool.and_true]
 obtain⟨a,b,c,d⟩:=r
 obtain⟨a',b',c',d'⟩:=q
 simp only
 by_cases h1:a=a'
 ·by_cases h2:b=b'
  ·by_cases h3:c=c'
   ·by_cases h4:d=d'
    ·subst h1 h2 h3 h4;simp
    ·have:¬ rowI d=rowI d':=fun z=>h4 (zkw z)
     simp[h4,this]
   ·simp[h3]
  ·simp[h2]
 ·have:(a == a')=false:=by rw[beq_eq_false_iff_ne];exact h1
  rw[this];simp[h1]
abbrev SoOk (r:Rnd):Prop:=r.so = "rim" ∨ r.so = "hole"
theorem zj1 {r:Rnd}(h:SoOk r):PyData.canLay0 (dR r)=true:=by
 have:=zaF (rowI r.row)
 unfold SeqAt.shaped at this
 rw[Bool.and_eq_true] at this
 show (PyData.strOk r.so && (true && (true && (PyData.canLay0 (tI (rowI r.row)) && true))))=true
 rw[this.1]
 rcases h with h | h <;> rw[h] <;> decide +kernel
theorem zic (ns:List Int):PyData.depth (tI ns)=1:=by unfold tI;rw[PyData.depth,zcy]
theorem zkV (r:Rnd):PyData.depth (dR r)=2:=by
 show PyData.depth (.tuple [.str r.so,.int r.x,.int r.y,tI (rowI r.row)])=2
 rw[PyData.depth]
 show max 0 (max 0 (max 0 (max (PyData.depth (tI (rowI r.row))) 0)))+1=2
 rw[zic];rfl
def lR (R:List Rnd):PyData:=.list (R.map dR)
theorem zgw:∀ R S:List Rnd,PyData.eqvAll (R.map dR) (S.map dR)=decide (R=S)
 | [],[]=>rfl
 | [],_::_=>rfl
 | _::_,[]=>rfl
 | r::R,q::S=>by
  show (PyData.eqv (dR r) (dR q) && PyData.eqvAll (R.map dR) (S.map dR))=_
  rw[zgw R S,zmD]
  by_cases e:r=q
  ·subst e;by_cases e2:R=S <;> simp[e2]
  ·simp[e]
theorem zmC (R S:List Rnd):PyData.eqv (lR R) (lR S)=decide (R=S):=zgw R S
theorem zdE:∀ R:List Rnd,(∀ r∈R,SoOk r)→PyData.canLayAll0 (R.map dR)=true
 | [],_=>rfl
 | r::R,h=>by show (PyData.canLay0 (dR r) && PyData.canLayAll0 (R.map dR))=true;rw[zj1 (h r List.mem_cons_self),zdE R fun q hq=>h q (List.mem_cons_of_mem _ hq)];rfl
theorem zeh:∀ R:List Rnd,PyData.depthAll (R.map dR)≤2
 | []=>Nat.zero_le _
 | r::R=>by show max (PyData.depth (dR r)) (PyData.depthAll (R.map dR))≤2;rw[zkV];have:=zeh R;lia
theorem zf7 {R:List Rnd}(h:∀ r∈R,SoOk r):SeqAt.shaped (lR R)=true:=by
 unfold SeqAt.shaped lR
 rw[PyData.canLay0,zdE R h,PyData.depth]
 have:=zeh R
 simp only[Bool.true_and,decide_eq_true_eq]
 lia
theorem zeP {K:W.Frag}{H:Hp}:∀ {vs:List V}{R:List Rnd},VR vs R rR H→RDs K H vs (R.map dR)
 | [],[],_=>.nil
 | [],_::_,h=>by have:=h.1;cases this
 | _::_,[],h=>by have:=h.1;cases this
 | v::vs,r::R,h=>by
  obtain⟨h1,h2⟩:=VR.cons.mp h
  exact .cons (zky h1) (zeP h2)
theorem zgd {K:W.Frag}{H:Hp}{a:Addr}{vs:List V}{R:List Rnd}(e:SqL K H a vs) (h:VR vs R rR H):RD K H (.ref a) (lR R):=.lst e (zeP h)
theorem Whole.so {cs:List Cell}{R:List Rnd}(h:Whole cs R):∀ r∈R,SoOk r:=fun r hr=>let ⟨_,hP,_⟩:=h;hP.so hr
theorem Whole.few {cs:List Cell}{R:List Rnd}(h:Whole cs R):R.length≤cs.length:=let ⟨_,hP,_⟩:=h;hP.few
open PySem L2 RP
structure Can (C:Cell→Bool) (es:List Edge) (r:Rnd):Prop where
 cl:Closed C (begE r) es
 row:r.row=(es.map (stepB C)).filterMap id
 bg:zcz (wk C es) r.so (begE r)
 so:r.so=sortS (wk C es)
inductive Al {α β:Type} (P:α→β→Prop):List α→List β→Prop where
 | nil:Al P [] []
 | cons {a:α} {b:β} {l:List α} {m:List β}:P a b→Al P l m→Al P (a::l) (b::m)
theorem Al.of {α β:Type}{P:α→β→Prop}:∀ {l:List α}{m:List β},l.length=m.length→(∀ (i:Nat) a b,m[i]?=some b→l[i]?=some a→P a b)→Al P l m
 | [],[],_,_=>.nil
 | [],_::_,h,_=>by cases h
 | _::_,[],h,_=>by cases h
 | a::l,b::m,h,q=>.cons (q 0 a b rfl rfl) (Al.of (by simpa using h) fun i x y h1 h2=>q (i+1) x y (by simpa using h1) (by simpa using h2))
theorem Al.length {α β:Type}{P:α→β→Prop}{l:List α}{m:List β}(h:Al P l m):l.length=m.length:=by
 induction h with
 | nil=>rfl
 | cons _ _ ih=>simp[ih]
theorem Al.at {α β:Type}{P:α→β→Prop}{l:List α}{m:List β}(h:Al P l m):∀ {i:Nat}{a:α}{b:β},m[i]?=some b→l[i]?=some a→P a b:=by
 induction h with
 | nil=>intro i a b h1;simp at h1
 | cons p _ ih =>
  intro i a b h1 h2
  cases i with
  | zero=>simp at h1 h2;subst h1 h2;exact p
  | succ i=>exact ih (by simpa using h1) (by simpa using h2)
theorem Al.perm {α β:Type}{P:α→β→Prop}{l' l:List α}(p:l'.Perm l):∀ {m:List β},Al P l m→∃ m',m'.Perm m∧Al P l' m':=by
 induction p with
 | nil=>intro m h;exact⟨m,.refl _,h⟩
 | cons a _ ih =>
  intro m h
  cases h with
  | cons p t =>
   obtain⟨m',q,r⟩:=ih t
   exact⟨_::m',q.cons _,.cons p r⟩
 | swap a b l =>
  intro m h
  cases h with
  | cons p t =>
   cases t with
   | cons p2 t2=>exact⟨_::_::_,.swap _ _ _,.cons p2 (.cons p t2)⟩
 | trans _ _ ih1 ih2 =>
  intro m h
  obtain⟨m1,q1,r1⟩:=ih2 h
  obtain⟨m2,q2,r2⟩:=ih1 r1
  exact⟨m2,q2.trans q1,r2⟩
theorem Al.bind {α γ:Type}{P Q:α→List γ→Prop}(f:∀ a b,P a b→∃ c,Q a c∧c.Perm b){l:List α}{m:List (List γ)}(h:Al P l m):∃ m',Al Q l m'∧m'.flatten.Perm m.flatten:=by
 induction h with
 | nil=>exact⟨[],.nil,.refl _⟩
 | cons p _ ih =>
  obtain⟨c,q1,q2⟩:=f _ _ p
  obtain⟨m',r1,r2⟩:=ih
  exact⟨c::m',.cons q1 r1,by rw[List.flatten_cons,List.flatten_cons];exact q2.append r2⟩
theorem zgv {γ:Type}{a b:List (List γ)}(p:a.Perm b):a.flatten.Perm b.flatten:=by
 induction p with
 | nil=>exact .refl _
 | cons x _ ih=>rw[List.flatten_cons,List.flatten_cons];exact ih.append_left _
 | swap x y l =>
  simp only[List.flatten_cons]
  rw[← List.append_assoc,← List.append_assoc]
  exact List.perm_append_comm.append_right _
 | trans _ _ i1 i2=>exact i1.trans i2
structure Cans (C:Cell→Bool) (ESS:List (List Edge)) (R:List Rnd):Prop where
 al:Al (fun r es=>Can C es r) R ESS
 nd:ESS.flatten.Nodup
 all:∀ e,e∈ESS.flatten ↔ IsE C e
theorem Whole.cans {cs:List Cell}{R R0:List Rnd}(p:R.Perm R0) (h:Whole cs R0):∃ ESS,Cans (isIn cs) ESS R:=by
 obtain⟨E,h1,h2⟩:=h
 have a1:Al (fun r es=>(∃ b,Closed (isIn cs) b es)∧IsRnd (wk (isIn cs) es) r) R0 E:=Al.of h1.len fun i r es e1 e2=>h1.each i es r e1 e2
 obtain⟨F,q1,a2⟩:=a1.perm p
 obtain⟨G,a3,q2⟩:=Al.bind (Q:=fun r es=>Can (isIn cs) es r) (fun r es ⟨⟨b,hb⟩,hr⟩=>by
  obtain⟨es',k1,k2,k3,k4,k5,_⟩:=IsRnd.walk hb hr
  exact⟨es',⟨k1,k3,k4,k5⟩,k2⟩) a2
 have pm:=q2.trans (zgv q1)
 exact⟨G,a3,pm.nodup_iff.mpr h1.nd,fun e=>by rw[pm.mem_iff];exact h2 e⟩
inductive Lnk (C:Cell→Bool):Edge→List Edge→Prop where
 | one (e:Edge):Lnk C e []
 | more {e:Edge} {es:List Edge}:Lnk C (nxt C e) es→Lnk C e (nxt C e::es)
structure Box where
 (a b c d:Int)
theorem VR.app {α:Type}{vs ws:List V}{l m:List α}{R:α→V→Hp→Prop}{H:Hp}(h:VR vs l R H) (k:VR ws m R H):VR (vs++ws) (l++m) R H:=by
 refine⟨by rw[List.length_append,List.length_append,h.1,k.1],fun i x v h1 h2=>?_⟩
 by_cases hi:i<l.length
 ·rw[List.getElem?_append_left hi] at h1
  rw[List.getElem?_append_left (by rw[h.1];exact hi)] at h2
  exact h.2 i x v h1 h2
 ·rw[List.getElem?_append_right (by lia)] at h1
  rw[List.getElem?_append_right (by rw[h.1];lia),h.1] at h2
  exact k.2 _ x v h1 h2
def lT (l:List (List Int)):PyData:=.list (l.map tI)
theorem zdD:∀ l:List (List Int),PyData.canLayAll0 (l.map tI)=true
 | []=>rfl
 | x::l=>by
  have:=zaF x
  unfold SeqAt.shaped at this
  rw[Bool.and_eq_true] at this
  show (PyData.canLay0 (tI x) && PyData.canLayAll0 (l.map tI))=true
  rw[this.1,zdD l];rfl
theorem zeg:∀ l:List (List Int),PyData.depthAll (l.map tI)≤1
 | []=>Nat.zero_le _
 | x::l=>by show max (PyData.depth (tI x)) (PyData.depthAll (l.map tI))≤1;rw[zic];have:=zeg l;lia
theorem zf6 (l:List (List Int)):SeqAt.shaped (lT l)=true:=by
 unfold SeqAt.shaped lT
 rw[PyData.canLay0,zdD l,PyData.depth]
 have:=zeg l
 simp only[Bool.true_and,decide_eq_true_eq]
 lia
def cI (c:Cell):List Int:=[c.1,c.2]
theorem zgc {K:W.Frag}{H:Hp}:∀ {vs:List V}{cs:List Cell},VR vs cs cR H→RDs K H vs ((cs.map cI).map tI)
 | [],[],_=>.nil
 | [],_::_,h=>by have:=h.1;cases this
 | _::_,[],h=>by have:=h.1;cases this
 | v::vs,r::R,h=>by
  obtain⟨⟨b,rfl,q⟩,h2⟩:=VR.cons.mp h
  exact .cons (.tup (SqT.of q) (RDs.ints (cI r))) (zgc h2)
theorem zkz {K:W.Frag}{H:Hp}{a:Addr}{vs:List V}{cs:List Cell}(e:SqL K H a vs) (h:VR vs cs cR H):RD K H (.ref a) (lT (cs.map cI)):=.lst e (zgc h)
open PySem L2 RP
open PySem L2 RP
def sg (e:Edge):Int:=if e.w=1 then 1 else if e.w=3 then -1 else 0
def xE (e:Edge):Int:=if e.w=1 then e.c.1 else e.c.1 - 1
def hB (e:Edge):Int:=if e.w=2∨e.w=3 then e.c.2+1 else e.c.2
def SS (f:Int→Int→Int) (es:List Edge):Int:=(es.map fun e=>sg e*f (xE e) e.c.2).sum
theorem zkg (f:Int→Int→Int) (es:List Edge) (e:Edge):SS f (es++[e])=SS f es+sg e*f (xE e) e.c.2:=by
 unfold SS;rw[List.map_append,List.sum_append];simp
section
variable {C:Cell→Bool}{b:Edge}{es:List Edge}
end
def f1 (x:Int):Int:=x*(x+1) / 2
def f3 (x:Int):Int:=x*(x+1)*(2*x+1) / 6
theorem f1_eq (x:Int):2*f1 x=x*(x+1):=by
 unfold f1
 have:x*(x+1) % 2=0:=by
  rcases Int.emod_two_eq x with h | h
  ·rw[Int.mul_emod,h];simp
  ·rw[Int.mul_emod,Int.add_emod,h];rfl
 lia
theorem f3_eq (x:Int):6*f3 x=x*(x+1)*(2*x+1):=by
 unfold f3
 have:x*(x+1)*(2*x+1) % 6=0:=by
  have h6:x % 6=0∨x % 6=1∨x % 6=2∨x % 6=3∨x % 6=4∨x % 6=5:=by lia
  have e:x*(x+1)*(2*x+1) % 6=((x % 6)*((x % 6)+1)*(2*(x % 6)+1)) % 6:=by
   simp[Int.mul_emod,Int.add_emod]
  rw[e]
  rcases h6 with h | h | h | h | h | h <;> rw[h] <;> rfl
 lia
def six (es:List Edge):List Int:=[SS (fun x _=>x) es,SS (fun x _=>f1 x) es,SS (fun x y=>x*y) es,SS (fun x _=>f3 x) es,SS (fun x y=>f1 x*y) es,SS (fun x y=>x*y*y) es]
open PySem L2 RP
section
variable {P:Program}{w:World}{K:W.Frag}{mg:Str→Option Value}{base:Heap}
def zf2 (K:W.Frag):Sp:=fun vs H Q _=>∃ (v:V) (r:Rnd) (C:Cell→Bool) (es:List Edge),vs=[v]∧rR r v H∧Can C es r∧es.length≤480∧∀ p H' us,H p=none→Same H H'→H' p=some (.lst us)→VR us es eR H'→Q (.ref p) H'
theorem zhf (g_walk_of:Fn P w K mg base 5 "walk_of" ["one"] (zhE K)) (d:Df K mg "edges_of" zbQ ["one"]):FnOk P w K mg base CX0 6 d.f d.fd ["one"] (zf2 K):=by
 refine d.F.ok zg3 (fun vs H Q E h=>?_) (fun cdv A outer s H vs Q E hr h=>?_)
 ·obtain⟨v,r,C,es,rfl,_⟩:=h
  rfl
 ·obtain⟨v,r,C,es,rfl,hv,hc,hlen,k⟩:=h
  have nb0:(["edge","step"]:List Str).Nodup:=by decide +kernel
  refine⟨_,(zaf (zan (zaV (osc:=zab zbQ) (N:=zeX) (N':=["edge","step"]) (sel:=[none,none]) ⟨rfl,by decide +kernel,by decide +kernel,by decide +kernel,rfl,by decide +kernel⟩ (zaJ (zai g_walk_of.ok (hr.mono (by decide)) (by rfl) g_walk_of.m g_walk_of.kp g_walk_of.b .nil pass0 (pa_N (pv 0) zac))) (fun _ _ _ _ _=>(zcx (K:=K) (n:=2) (by rfl) (zah (zag (i:=0) nb0 (by rfl) (Or.inl rfl)) (zah (zag (i:=1) nb0 (by rfl) (Or.inl rfl)) zaA)))) (fun _ _ _ _ _=>zb9) (fun _ _ _ _ _=>(pv 0))))),?_⟩
  refine⟨_,rfl,v,r,C,es,rfl,hv,hc.cl,hc.row,hc.bg,hc.so,by lia,fun p H1 ws hp s1 e1 hw=>?_⟩
  refine⟨p,rfl,⟨_,SqL.of e1⟩,fun g hg=>?_⟩
  have wl:ws.length=es.length:=by rw[hw.1,zb4]
  refine zaD (K:=K) (a:=p) (xs:=ws) (fun j σ H2=>∃ o0 o1,σ=[o0,o1]∧Same H1 H2∧∃ zs,H2 g=some (.lst zs)∧VR zs (es.take j) eR H2)
   ⟨_,_,rfl,Same.up hg,[],zaa,VR.nil⟩ (fun j σ H2 _ ⟨_,_,_,s2,_⟩=>SqL.of (s2 _ _ e1)) ?_ ?_
  ·rintro j u σ H2 hj ⟨o0,o1,rfl,s2,zs,e2,hz⟩
   have hjl:j<ws.length:=(List.getElem?_eq_some_iff.mp hj).1
   obtain⟨⟨f,st⟩,he,B,bb,rfl,q1,q2⟩:=hw.at hj
   have hf:es[j]?=some f:=by
    unfold wk at he
    rw[List.getElem?_map] at he
    obtain⟨y,hy,ey⟩:=Option.map_eq_some_iff.mp he
    cases ey;exact hy
   have hl3:zs.length≤480:=by rw[hz.1,List.length_take];lia
   refine⟨B,_,rfl,SqT.of (s2 _ _ q1),rfl,_,_,rfl,_,_,rfl,rfl,?_⟩
   refine zcN ?_
   refine⟨_,rfl,zs,e2,zav (by lia),_,_,rfl,zas hg s2,_,zaa,?_⟩
   rw[zaE hf]
   exact hz.snoc (fun x v h=>h.kt (KT.lst e2)) ⟨bb,rfl,KT.lst e2 _ _ (s2 _ _ q2)⟩
  ·rintro σ H2 ⟨o0,o1,rfl,s2,zs,e2,hz⟩
   rw[wl,List.take_length] at hz
   exact k g H2 zs (s1.free hg) (s1.trans s2) e2 hz
end
open PySem L2 RP
def Bd (k:Nat) (n:Int):Prop:=n.natAbs<2 ^ k
theorem Bd.mono {j k:Nat}{n:Int}(h:Bd j n) (hk:j≤k):Bd k n:=Nat.lt_of_lt_of_le h (Nat.pow_le_pow_right (by decide) hk)
theorem Bd.mul {j k:Nat}{a b:Int}(h:Bd j a) (g:Bd k b):Bd (j+k) (a*b):=by
 unfold Bd at *
 rw[Int.natAbs_mul,Nat.pow_add]
 exact Nat.mul_lt_mul'' h g
theorem Bd.add {k:Nat}{a b:Int}(h:Bd k a) (g:Bd k b):Bd (k+1) (a+b):=by
 unfold Bd at *
 have:=Int.natAbs_add_le a b
 rw[Nat.pow_succ];lia
theorem Bd.neg {k:Nat}{a:Int}(h:Bd k a):Bd k (-a):=by unfold Bd at *;rw[Int.natAbs_neg];exact h
theorem Bd.sub {k:Nat}{a b:Int}(h:Bd k a) (g:Bd k b):Bd (k+1) (a - b):=by
 rw[Int.sub_eq_add_neg];exact h.add g.neg
theorem Bd.div {k:Nat}{a:Int}(h:Bd k a) (n:Int) (hn:0<n):Bd (k+1) (a / n):=by
 unfold Bd at *
 have h1:=Int.mul_ediv_add_emod a n
 have h2:=Int.emod_nonneg a (show n≠0 by lia)
 have h3:=Int.emod_lt_of_pos a hn
 have h4:(a / n).natAbs≤a.natAbs+1:=by
  rcases Int.le_total 0 a with h | h
  ·have a1:=Int.ediv_nonneg h (Int.le_of_lt hn)
   have a2:=Int.ediv_le_self n h
   lia
  ·have a1 : a / n ≤ 0 := by
    rcases Int.lt_or_le 0 (a / n) with q | q
    ·have:n*1≤n*(a / n):=Int.mul_le_mul_of_nonneg_left (by lia) (by lia)
     lia
    ·exact q
   have a2:a - 1≤a / n:=by
    rcases Int.lt_or_le (a / n) (a - 1) with q | q
    ·have:n*(a / n)≤n*(a - 2):=Int.mul_le_mul_of_nonneg_left (by lia) (by lia)
     have e:n*(a - 2)=(n - 1)*(a - 2)+(a - 2):=by grind
     have:(n - 1)*(a - 2)≤(n - 1)*(-2):=Int.mul_le_mul_of_nonneg_left (by lia) (by lia)
     lia
    ·exact q
   lia
 have:0<2 ^ k:=Nat.two_pow_pos k
 rw[Nat.pow_succ];lia
theorem Bd.m {j k:Nat}{a b:Int}(h:Bd j a) (g:Bd k b) (hj:j≤1000) (hk:k≤1000):a.natAbs<2 ^ 1000∧b.natAbs<2 ^ 1000:=⟨h.mono hj,g.mono hk⟩
theorem bd_f1 {x:Int}(h:Bd 120 x):Bd 260 (f1 x):=by
 unfold f1
 exact ((h.mul (h.add (show Bd 120 1 by unfold Bd;decide))).div 2 (by decide)).mono (by decide)
section
variable {P:Program}{w:World}{K:W.Frag}{mg:Str→Option Value}{base:Heap}
def up6 (x y:Int):List Int:=[x,f1 x,x*y,f3 x,f1 x*y,x*y*y]
def zla:Sp:=fun vs H Q _=>∃ (x y:Int),vs=[.int x,.int y]∧Bd 120 x∧Bd 120 y∧∀ p H',H p=none→Same H H'→H' p=some (.tup ((up6 x y).map V.int))→Q (.ref p) H'
theorem zfs (d:Df K mg "sums_up_to" zbq ["x","y"]):FnOk P w K mg base CX0 1 d.f d.fd ["x","y"] zla:=by
 refine d.F.ok zcu (fun vs H Q E h=>?_) (fun cdv A outer s H vs Q E hr h=>?_)
 ·obtain⟨x,y,rfl,_⟩:=h
  rfl
 ·obtain⟨x,y,rfl,hx,hy,k⟩:=h
  refine⟨_,(zad (zao (i:=2) zcu.nd (by rfl) (Or.inl rfl) (pe_op zfq (pe_op zbK (pe_op zbK (pv 0) (pe_op zaG (pv 0) zae)) (pe_op zaG (pe_op zbK zae (pv 0)) zae)) zae))
   (zad (zao (i:=3) zcu.nd (by rfl) (Or.inl rfl) (pe_op zfq (pe_op zbK (pv 0) (pe_op zaG (pv 0) zae)) zae))
   (zaf (zan (zaI (pa_N (pv 0) (pa_N (pv 3) (pa_B (pe_op zbK (pv 0) (pv 1)) (pa_N (pv 2) (pa_B (pe_op zbK (pv 3) (pv 1)) (pa_B (pe_op zbK (pe_op zbK (pv 0) (pv 1)) (pv 1)) zac))))))))))),?_⟩
  have b1:Bd 121 (x+1):=hx.add (show Bd 120 1 by unfold Bd;decide)
  have b2:Bd 2 2:=by unfold Bd;decide
  have b3:Bd 130 (2*x+1):=((b2.mul hx).add (show Bd (2+120) 1 by unfold Bd;decide)).mono (by decide)
  have b4:=hx.mul b1
  have b5:=bd_f1 hx
  have b6:=hx.mul hy
  refine⟨_,rfl,_,rfl,_,_,rfl,rfl,_,_,rfl,rfl,hx.m b1 (by decide) (by decide),_,rfl,_,_,rfl,rfl,b2.m hx (by decide) (by decide),_,_,rfl,rfl,_,_,rfl,rfl,b4.m b3 (by decide) (by decide),_,_,rfl,rfl,⟨by decide,by decide⟩,?_⟩
  refine⟨_,rfl,_,rfl,_,_,rfl,rfl,_,_,rfl,rfl,hx.m b1 (by decide) (by decide),_,_,rfl,rfl,⟨by decide,by decide⟩,?_⟩
  refine⟨_,rfl,_,rfl,_,rfl,_,rfl,_,_,rfl,rfl,hx.m hy (by decide) (by decide),_,rfl,_,rfl,_,rfl,_,_,rfl,rfl,b5.m hy (by decide) (by decide),_,rfl,_,rfl,_,_,rfl,rfl,hx.m hy (by decide) (by decide),_,rfl,_,_,rfl,rfl,b6.m hy (by decide) (by decide),(by show 6≤sizeLine;decide),fun p hp=>?_⟩
  exact k p _ hp (Same.up hp) zaa
def spTwo (K:W.Frag) (f:Int→Int→Int):Sp:=fun vs H Q _=>∃ (a b:Addr) (xs ys:List Int),vs=[.ref a,.ref b]∧SqT K H a (xs.map V.int)∧SqT K H b (ys.map V.int)∧xs.length=ys.length∧xs.length≤10∧∀ p H',H p=none→Same H H'→H' p=some (.tup ((List.zipWith f xs ys).map V.int))→Q (.ref p) H'
theorem zfQ {f:Int→Int→Int}{xs ys:List Int}{i:Nat}{x y:Int}(h1:xs[i]?=some x) (h2:ys[i]?=some y):List.zipWith f (xs.take (i+1)) (ys.take (i+1))=List.zipWith f (xs.take i) (ys.take i)++[f x y]:=by
 have l1:=(List.getElem?_eq_some_iff.mp h1).1
 have l2:=(List.getElem?_eq_some_iff.mp h2).1
 rw[zaE h1,zaE h2,List.zipWith_append (by rw[List.length_take,List.length_take];lia)]
 rfl
theorem zkL (T:Txt P w K mg) (d:Df K mg "added" zcG ["sums","others"]):FnOk P w K mg base CX0 1 d.f d.fd ["sums","others"] (spTwo K (·+·)):=by
 refine d.F.ok zku (fun vs H Q E h=>?_) (fun cdv A outer s H vs Q E hr h=>?_)
 ·obtain⟨a,b,xs,ys,rfl,_⟩:=h
  rfl
 ·obtain⟨a,b,xs,ys,rfl,ha,hb,hl,h10,k⟩:=h
  have nb0:(["one","other"]:List Str).Nodup:=by decide +kernel
  refine⟨_,(zaf (zan (zbx zbY (by rfl) T.ntuple (by rfl) (zaj (zaV (osc:=zab zcG) (N:=zkm) (N':=["one","other"]) (sel:=[none,none]) ⟨rfl,by decide +kernel,by decide +kernel,by decide +kernel,rfl,by decide +kernel⟩ (zjm (by rfl) T.nzip (pa_N (pv 0) (pa_N (pv 1) zac))) (fun _ _ _ _ _=>(zcx (K:=K) (n:=2) (by rfl) (zah (zag (i:=0) nb0 (by rfl) (Or.inl rfl)) (zah (zag (i:=1) nb0 (by rfl) (Or.inl rfl)) zaA)))) (fun _ _ _ _ _=>zb9) (fun _ _ _ _ _=>(pe_op zaG (pv 0) (pv 1)))) zac)))),?_⟩
  refine⟨_,rfl,_,rfl,a,b,rfl,⟨_,ha⟩,⟨_,hb⟩,fun g hg=>?_⟩
  refine zh2 (K:=K) (a:=a) (b:=b) (xs:=xs.map V.int) (ys:=ys.map V.int) (fun i σ H2=>∃ o0 o1,σ=[o0,o1]∧Same H H2∧H2 g=some (.lst ((List.zipWith (·+·) (xs.take i) (ys.take i)).map V.int)))
   ⟨_,_,rfl,Same.up hg,zaa⟩ (fun i σ H2 _ ⟨_,_,_,s2,_⟩=>⟨s2.seqT ha,s2.seqT hb⟩) (by rw[List.length_map,List.length_map];exact hl) ?_ ?_
  ·rintro i u v σ H2 p h1 h2 ⟨o0,o1,rfl,s2,e2⟩ hp
   rw[List.getElem?_map] at h1 h2
   obtain⟨x,hx,rfl⟩:=Option.map_eq_some_iff.mp h1
   obtain⟨y,hy,rfl⟩:=Option.map_eq_some_iff.mp h2
   have s3:=Same.up (o:=.tup [.int x,.int y]) hp
   have e3:upd H2 p (.tup [.int x,.int y]) p=some (.tup [.int x,.int y]):=zaa
   have il:=(List.getElem?_eq_some_iff.mp hx).1
   generalize upd H2 p (.tup [.int x,.int y])=H3 at s3 e3
   have g3:=s3 _ _ e2
   refine⟨p,_,rfl,SqT.of e3,rfl,_,_,rfl,_,_,rfl,rfl,?_⟩
   refine zcN ?_
   refine⟨_,rfl,_,rfl,_,_,rfl,rfl,_,g3,zav (by simp;lia),_,_,rfl,zas hg (s2.trans s3),?_⟩
   rw[zaa,zfQ hx hy,List.map_append];rfl
  ·rintro σ H2 ⟨o0,o1,rfl,s2,e2⟩
   rw[List.length_map,List.take_length,hl,List.take_length] at e2
   refine⟨g,_,rfl,.inl ⟨SqL.of e2,fun tp htp=>?_⟩⟩
   exact k tp _ (s2.free htp) (s2.trans (Same.up htp)) zaa
theorem zha (T:Txt P w K mg) (d:Df K mg "lessened" zbP ["sums","others"]):FnOk P w K mg base CX0 1 d.f d.fd ["sums","others"] (spTwo K (· - ·)):=by
 refine d.F.ok zg0 (fun vs H Q E h=>?_) (fun cdv A outer s H vs Q E hr h=>?_)
 ·obtain⟨a,b,xs,ys,rfl,_⟩:=h
  rfl
 ·obtain⟨a,b,xs,ys,rfl,ha,hb,hl,h10,k⟩:=h
  have nb0:(["one","other"]:List Str).Nodup:=by decide +kernel
  refine⟨_,(zaf (zan (zbx zbY (by rfl) T.ntuple (by rfl) (zaj (zaV (osc:=zab zbP) (N:=zeW) (N':=["one","other"]) (sel:=[none,none]) ⟨rfl,by decide +kernel,by decide +kernel,by decide +kernel,rfl,by decide +kernel⟩ (zjm (by rfl) T.nzip (pa_N (pv 0) (pa_N (pv 1) zac))) (fun _ _ _ _ _=>(zcx (K:=K) (n:=2) (by rfl) (zah (zag (i:=0) nb0 (by rfl) (Or.inl rfl)) (zah (zag (i:=1) nb0 (by rfl) (Or.inl rfl)) zaA)))) (fun _ _ _ _ _=>zb9) (fun _ _ _ _ _=>(pe_op zbS (pv 0) (pv 1)))) zac)))),?_⟩
  refine⟨_,rfl,_,rfl,a,b,rfl,⟨_,ha⟩,⟨_,hb⟩,fun g hg=>?_⟩
  refine zh2 (K:=K) (a:=a) (b:=b) (xs:=xs.map V.int) (ys:=ys.map V.int) (fun i σ H2=>∃ o0 o1,σ=[o0,o1]∧Same H H2∧H2 g=some (.lst ((List.zipWith (· - ·) (xs.take i) (ys.take i)).map V.int)))
   ⟨_,_,rfl,Same.up hg,zaa⟩ (fun i σ H2 _ ⟨_,_,_,s2,_⟩=>⟨s2.seqT ha,s2.seqT hb⟩) (by rw[List.length_map,List.length_map];exact hl) ?_ ?_
  ·rintro i u v σ H2 p h1 h2 ⟨o0,o1,rfl,s2,e2⟩ hp
   rw[List.getElem?_map] at h1 h2
   obtain⟨x,hx,rfl⟩:=Option.map_eq_some_iff.mp h1
   obtain⟨y,hy,rfl⟩:=Option.map_eq_some_iff.mp h2
   have s3:=Same.up (o:=.tup [.int x,.int y]) hp
   have e3:upd H2 p (.tup [.int x,.int y]) p=some (.tup [.int x,.int y]):=zaa
   have il:=(List.getElem?_eq_some_iff.mp hx).1
   generalize upd H2 p (.tup [.int x,.int y])=H3 at s3 e3
   have g3:=s3 _ _ e2
   refine⟨p,_,rfl,SqT.of e3,rfl,_,_,rfl,_,_,rfl,rfl,?_⟩
   refine zcN ?_
   refine⟨_,rfl,_,rfl,_,_,rfl,rfl,_,g3,zav (by simp;lia),_,_,rfl,zas hg (s2.trans s3),?_⟩
   rw[zaa,zfQ hx hy,List.map_append];rfl
  ·rintro σ H2 ⟨o0,o1,rfl,s2,e2⟩
   rw[List.length_map,List.take_length,hl,List.take_length] at e2
   refine⟨g,_,rfl,.inl ⟨SqL.of e2,fun tp htp=>?_⟩⟩
   exact k tp _ (s2.free htp) (s2.trans (Same.up htp)) zaa
end
open PySem L2 RP
theorem zhJ (es:List Edge) (e:Edge):six (es++[e])=List.zipWith (·+·) (six es) ((up6 (xE e) e.c.2).map fun n=>sg e*n):=by
 unfold six up6
 simp only[zkg]
 rfl
theorem zgZ (es:List Edge):(six es).length=6:=rfl
theorem zme {es:List Edge}{e:Edge}(h:e.w=1):six (es++[e])=List.zipWith (·+·) (six es) (up6 e.c.1 e.c.2):=by
 rw[zhJ]
 have h1:sg e=1:=by unfold sg;rw[if_pos h]
 have h2:xE e=e.c.1:=by unfold xE;rw[if_pos h]
 rw[h1,h2]
 congr 1
 rw[show (fun n:Int=>1*n)=id from funext fun n=>Int.one_mul n,List.map_id]
theorem zmg {es:List Edge}{e:Edge}(h:e.w=3):six (es++[e])=List.zipWith (· - ·) (six es) (up6 (e.c.1 - 1) e.c.2):=by
 rw[zhJ]
 have h1:sg e=-1:=by unfold sg;rw[if_neg (by lia),if_pos h]
 have h2:xE e=e.c.1 - 1:=by unfold xE;rw[if_neg (by lia)]
 rw[h1,h2,List.zipWith_map_right]
 congr 1
 funext a b
 show a+-1*b=a - b
 lia
theorem zmf {es:List Edge}{e:Edge}(h1:e.w≠1) (h3:e.w≠3):six (es++[e])=six es:=by
 unfold six
 have h:sg e=0:=by unfold sg;rw[if_neg h1,if_neg h3]
 simp only[zkg,h,Int.zero_mul,Int.add_zero]
section
variable {P:Program}{w:World}{K:W.Frag}{mg:Str→Option Value}{base:Heap}
def zhB (K:W.Frag):Sp:=fun vs H Q _=>∃ (v:V) (r:Rnd) (C:Cell→Bool) (es:List Edge),vs=[v]∧rR r v H∧Can C es r∧es.length≤480∧(∀ e∈es,Bd 119 e.c.1∧Bd 119 e.c.2)∧∀ p H',Same H H'→H' p=some (.tup ((six es).map V.int))→Q (.ref p) H'
theorem zep (T : Txt P w K mg) (g_edges_of : Fn P w K mg base 6 "edges_of" ["one"] (zf2 K)) (g_sums_up_to : Fn P w K mg base 1 "sums_up_to" ["x", "y"] zla) (g_added : Fn P w K mg base 1 "added" ["sums", "others"] (spTwo K (· + ·))) (g_lessened : Fn P w K mg base 1 "lessened" ["sums", "others"] (spTwo K (· - ·)))
  (d:Df K mg "sums_within" za7 ["one"]):FnOk P w K mg base CX0 7 d.f d.fd ["one"] (zhB K):=by
 refine d.F.ok zaX (fun vs H Q E h=>?_) (fun cdv A outer s H vs Q E hr h=>?_)
 ·obtain⟨v,r,C,es,rfl,_⟩:=h
  rfl
 ·obtain⟨v,r,C,es,rfl,hv,hc,hlen,hB,k⟩:=h
  obtain⟨MNS,hNS,hms⟩:=T.iNO_SUMS
  refine⟨_,(zad (zao (i:=1) zaX.nd (by rfl) (Or.inl rfl) (zcY (v:=.ref MNS) rfl hNS rfl))
   (zad (zbw PassesOwn.never rfl (zaJ (zai g_edges_of.ok (hr.mono (by decide)) (by rfl) g_edges_of.m g_edges_of.kp g_edges_of.b .nil pass0 (pa_N (pv 0) zac))) (zbz (by rfl) (zah (zag (i:=2) zaX.nd (by rfl) (Or.inl rfl)) (zah (zag (i:=3) zaX.nd (by rfl) (Or.inl rfl)) (zah (zag (i:=4) zaX.nd (by rfl) (Or.inl rfl)) zaA))))
   (zaf (ps_if (zaz op_eq (pv 4) zae (zaw _))
   (zaf (zao (i:=1) zaX.nd (by rfl) (Or.inl rfl) (zai g_added.ok (hr.mono (by decide)) (by rfl) g_added.m g_added.kp g_added.b .nil pass0 (pa_N (pv 1) (zaj (zai g_sums_up_to.ok (hr.mono (by decide)) (by rfl) g_sums_up_to.m g_sums_up_to.kp g_sums_up_to.b .nil pass0 (pa_N (pv 2) (pa_N (pv 3) zac))) zac)))))
   (zaf (ps_if (zaz op_eq (pv 4) zae (zaw _))
   (zaf (zao (i:=1) zaX.nd (by rfl) (Or.inl rfl) (zai g_lessened.ok (hr.mono (by decide)) (by rfl) g_lessened.m g_lessened.kp g_lessened.b .nil pass0 (pa_N (pv 1) (zaj (zai g_sums_up_to.ok (hr.mono (by decide)) (by rfl) g_sums_up_to.m g_sums_up_to.kp g_sums_up_to.b .nil pass0 (pa_B (pe_op zbS (pv 2) zae) (pa_N (pv 3) zac))) zac)))))
   zaH)))))
   (zaf (zan (pv 1))))),?_⟩
  refine⟨_,rfl,v,r,C,es,rfl,hv,hc,hlen,fun pe H1 us hpe s1 e1 hw=>?_⟩
  refine⟨pe,rfl,⟨_,SqL.of e1⟩,?_⟩
  refine zaD (K:=K) (a:=pe) (xs:=us) (fun j σ H2=>∃ q o2 o3 o4,σ=[some v,some (.ref q),o2,o3,o4]∧Same H1 H2∧SqT K H2 q ((six (es.take j)).map V.int)∧((∃ f∈es.take j,f.w=1)→H2 q=some (.tup ((six (es.take j)).map V.int))))
   ⟨MNS,_,_,_,rfl,Same.refl _,hms H1,fun⟨f,hf,_⟩=>by simp at hf⟩ (fun j σ H2 _ ⟨_,_,_,_,_,s2,_⟩=>SqL.of (s2 _ _ e1)) ?_ ?_
  ·rintro j u σ H2 hj ⟨q,o2,o3,o4,rfl,s2,hq,hup⟩
   obtain⟨f,hf,bf,rfl,qf⟩:=hw.at hj
   obtain⟨bx,by'⟩:=hB f (List.mem_of_getElem? hf)
   refine⟨bf,_,rfl,SqT.of (s2 _ _ qf),rfl,_,_,rfl,_,_,rfl,_,_,rfl,rfl,?_⟩
   refine⟨_,rfl,rfl,_,rfl,?_⟩
   rw[zaE hf]
   refine ite2 (fun hy=>?_) (fun hn=>?_)
   ·have hw1 : f.w = 1 := by
     have:=of_decide_eq_true hy
     injection this with this
     lia
    rw[zme hw1]
    refine⟨_,rfl,_,rfl,_,rfl,f.c.1,f.c.2,rfl,bx.mono (by decide),by'.mono (by decide),fun p3 H3 hp3 s3 e3=>?_⟩
    refine⟨q,p3,_,_,rfl,s3.seqT hq,SqT.of e3,rfl,by rw[zgZ];decide,fun p4 H4 hp4 s4 e4=>?_⟩
    exact⟨p4,_,_,_,rfl,s2.trans (s3.trans s4),SqT.of e4,fun _=>e4⟩
   ·have hw1:f.w≠1:=fun z=>hn (by rw[z];rfl)
    refine⟨_,rfl,rfl,_,rfl,?_⟩
    refine ite2 (fun hy=>?_) (fun hn3=>?_)
    ·have hw3 : f.w = 3 := by
      have:=of_decide_eq_true hy
      injection this with this
      lia
     rw[zmg hw3]
     refine⟨_,rfl,_,rfl,_,_,rfl,rfl,_,rfl,f.c.1 - 1,f.c.2,rfl,bx.sub (show Bd 119 1 by unfold Bd;decide),by'.mono (by decide),fun p3 H3 hp3 s3 e3=>?_⟩
     refine⟨q,p3,_,_,rfl,s3.seqT hq,SqT.of e3,rfl,by rw[zgZ];decide,fun p4 H4 hp4 s4 e4=>?_⟩
     exact⟨p4,_,_,_,rfl,s2.trans (s3.trans s4),SqT.of e4,fun _=>e4⟩
    ·have hw3:f.w≠3:=fun z=>hn3 (by rw[z];rfl)
     rw[zmf hw1 hw3]
     exact⟨q,_,_,_,rfl,s2,hq,fun⟨g,hg,hw⟩=>hup ((List.mem_append.mp hg).elim (fun z=>⟨g,z,hw⟩) fun z=>absurd (by rw[← List.mem_singleton.mp z];exact hw) hw1)⟩
  ·rintro σ H2 ⟨q,o2,o3,o4,rfl,s2,hq,hup⟩
   rw[hw.1,List.take_length] at hup
   exact⟨_,rfl,k q H2 (s1.trans s2) (hup hc.cl.has1)⟩
end
open PySem L2 RP
def dC (L:List Cell):List (List Key×V):=L.map fun c=>(kC c,V.bl true)
theorem zeU (L:List Cell):(dC L).length=L.length:=by unfold dC;rw[List.length_map]
theorem zdj (c:Cell):∀ L:List Cell,(valV (dC L) (kC c)).isSome=isIn L c
 | []=>by simp[dC,valV,isIn]
 | d::L=>by
  have ih:=zdj c L
  unfold isIn at *
  by_cases e:d=c
  ·subst e
   simp[dC,valV]
  ·have e2:¬ kC d=kC c:=fun z=>e (zh1.mp z)
   have e3:¬ c=d:=fun z=>e z.symm
   have e4:valV (dC (d::L)) (kC c)=valV (dC L) (kC c):=by
    simp[dC,valV,List.find?_cons,e2]
   rw[e4,ih]
   simp[e3]
theorem zhL {L:List Cell}{c:Cell}(h:c ∉ L):putK (dC L) (kC c) (.bl true)=dC (L++[c]):=by
 rw[zkC]
 ·unfold dC;rw[List.map_append];rfl
 ·have:=zdj c L
  unfold isIn at this
  rw[decide_eq_false h] at this
  cases z:valV (dC L) (kC c) with
  | none=>rfl
  | some v=>rw[z] at this;cases this
theorem zmt {K:W.Frag}{H:Hp}{a:Addr}{vs:List V}{cs:List Cell}(e:SqL K H a vs) (h:VR vs cs cR H){q:Addr}{Q:VK}(f:H q=some (.lst [])) (k:Q (.bl (!decide (cs=[]))) H):rNeD K (.ref a) (.ref q) H Q:=by
 refine⟨lT (cs.map cI),lT [],zkz e h,.lst (SqL.of f) .nil,zf6 _,zf6 _,?_⟩
 cases cs with
 | nil=>exact k
 | cons c l=>exact k
def pR (q:V×V) (v:V) (H:Hp):Prop:=∃ b,v=.ref b∧H b=some (.tup [q.1,q.2])
theorem zfX:∀ (l:List (V×V)){σ:St}{H:Hp}{Q:List V→Hp→Prop},(∀ ts H',Same H H'→VR ts l pR H'→Q ts H')→tPrs l σ H Q
 | [],σ,H,Q,h=>h [] H (Same.refl _) VR.nil
 | (a,b)::r,σ,H,Q,h=>by
  refine⟨two,fun p hp=>?_⟩
  refine zfX r fun ts H' s' v'=>h _ _ ((Same.up hp).trans s') (VR.cons.mpr ⟨⟨p,rfl,s' _ _ zaa⟩,v'⟩)
theorem zga (l:List (V×V)) (hl:l.length≤sizeLine){D:Ends}{σ:St}{H:Hp}(k:∀ p H' ts,H p=none→Same H H'→H' p=some (.lst ts)→VR ts l pR H'→D.rt (.ref p) H'):tRet (tLst (tPrs l)) D σ H:=by
 show tPrs l σ H _
 refine zfX l fun ts H1 s1 v1=>⟨by rw[v1.1];exact hl,fun p hp=>?_⟩
 refine k p _ ts (s1.free hp) (s1.trans (Same.up hp)) zaa (v1.mono fun x v h=>?_)
 obtain⟨b,rfl,hb⟩:=h
 exact⟨b,rfl,Same.up hp _ _ hb⟩
def prsC (l:List Cell):List (V×V):=l.map fun q=>(.int q.1,.int q.2)
theorem VR.prsC {ts:List V}{l:List Cell}{H:Hp}(h:VR ts (prsC l) pR H):VR ts l cR H:=by
 refine⟨h.1.trans (List.length_map ..),fun i q v h1 h2=>?_⟩
 obtain⟨q',hq,b,rfl,hb'⟩:=h.at h2
 have:(RR.prsC l)[i]?=some (.int q.1,.int q.2):=by unfold RR.prsC;rw[List.getElem?_map,h1];rfl
 rw[this] at hq
 cases hq
 exact⟨b,rfl,hb'⟩
section
variable {P:Program}{w:World}{K:W.Frag}{mg:Str→Option Value}{base:Heap}
def zfe (S:List Nat):Sp:=fun vs H Q _=>vs=[]∧∀ p H' us,H p=none→Same H H'→H' p=some (.lst us)→VR us (S.map mv) cR H'→Q (.ref p) H'
theorem zhc (d:Df K mg "_law_four" zbf []):FnOk P w K mg base CX0 1 d.f d.fd [] (zfe S4):=by
 refine d.F.ok zf9 (fun vs H Q E h=>?_) (fun cdv A outer s H vs Q E hr h=>?_)
 ·obtain⟨rfl,_⟩:=h
  rfl
 ·obtain⟨rfl,k⟩:=h
  have hb:RetPs (zak zbf) (prsC (S4.map mv)):=.mk (.cons .int .int (.cons .int .int (.cons .neg .int (.cons .int .neg .nil))))
  revert hb
  generalize zak zbf=body
  intro hb
  have hl:(prsC (S4.map mv)).length≤sizeLine:=by decide
  generalize S4.map mv=ms at hb hl k
  exact⟨_,zdy hb,zga _ hl fun p H1 ts hp s1 e1 v1=>k p H1 ts hp s1 e1 v1.prsC⟩
theorem zgj (d:Df K mg "_law_eight" zaU []):FnOk P w K mg base CX0 1 d.f d.fd [] (zfe S8):=by
 refine d.F.ok zfk (fun vs H Q E h=>?_) (fun cdv A outer s H vs Q E hr h=>?_)
 ·obtain⟨rfl,_⟩:=h
  rfl
 ·obtain⟨rfl,k⟩:=h
  have hb:RetPs (zak zaU) (prsC (S8.map mv)):=.mk (.cons .int .int (.cons .int .int (.cons .int .int (.cons .neg .int (.cons .neg .int (.cons .neg .neg (.cons .int .neg (.cons .int .neg .nil))))))))
  revert hb
  generalize zak zaU=body
  intro hb
  have hl:(prsC (S8.map mv)).length≤sizeLine:=by decide
  generalize S8.map mv=ms at hb hl k
  exact⟨_,zdy hb,zga _ hl fun p H1 ts hp s1 e1 v1=>k p H1 ts hp s1 e1 v1.prsC⟩
def zle (K:W.Frag):Sp:=fun vs H Q _=>∃ (a:Addr) (cs:List Cell),vs=[.ref a]∧LR K H a cs cR∧cs.Nodup∧cs.length≤500∧∀ p H',H p=none→Same H H'→H' p=some (.dT (dC cs))→Q (.ref p) H'
theorem zhd (d:Df K mg "_law_dict" zbJ ["_law_cells"]):FnOk P w K mg base CX0 1 d.f d.fd ["_law_cells"] (zle K):=by
 refine d.F.ok zcF (fun vs H Q E h=>?_) (fun cdv A outer s H vs Q E hr h=>?_)
 ·obtain⟨a,cs,rfl,_⟩:=h
  rfl
 ·obtain⟨a,cs,rfl,hL,nd,hlen,k⟩:=h
  have hu1:=hu_of hr
  obtain⟨us,hq,hv⟩:=hL.vr
  refine⟨_,(zad (zao (i:=1) zcF.nd (by rfl) (Or.inl rfl) zdP)
   (zad (zbw PassesOwn.never rfl (zaJ (pv 0)) (zag (i:=2) zcF.nd (by rfl) (Or.inl rfl))
   (zaf (zfm hu1 (pv 1) (pv 2) pe_bl rfl)))
   (zaf (zan (pv 1))))),?_⟩
  refine fun p hp=>?_
  refine⟨_,rfl,a,rfl,⟨_,(Same.up hp).seq hq⟩,?_⟩
  refine zaD (K:=K) (a:=a) (xs:=us) (fun i σ H2=>∃ o,σ=[some (.ref a),some (.ref p),o]∧Same H H2∧H2 p=some (.dT (dC (cs.take i))))
   ⟨_,rfl,Same.up hp,zaa⟩ (fun i σ H2 _ ⟨_,_,s2,_⟩=>s2.seq hq) ?_ ?_
  ·rintro i v σ H2 hi ⟨o,rfl,s2,e2⟩
   obtain⟨c,hc,b,rfl,q⟩:=hv.at hi
   have hn:c ∉ cs.take i:=fun m=>by
    obtain⟨j,hj,ej⟩:=List.getElem_of_mem m
    rw[List.length_take] at hj
    rw[List.getElem_take] at ej
    have:=(List.getElem?_inj (i:=j) (j:=i) (by lia) nd).mp (by rw[hc,List.getElem?_eq_getElem (by lia),ej])
    lia
   refine⟨_,rfl,_,rfl,p,_,rfl,.inr ⟨_,kC c,b,e2,rfl,s2 _ _ q,zav (by rw[zeU,List.length_take];lia),rfl⟩,_,rfl,zas hp s2,?_⟩
   rw[zaa,zhL hn,zaE hc]
  ·rintro σ H2 ⟨o,rfl,s2,e2⟩
   rw[hv.1,List.take_length] at e2
   exact⟨_,rfl,k p H2 hp s2 e2⟩
end
open PySem L2 RP
structure Fld (D:Cell→Bool) (S:List Nat) (a:Cell) (F L:List Cell):Prop where
 nd:F.Nodup
 st:a∈F
 rch:∀ c∈F,Rch D S a c
 dom:∀ c∈F,c=a∨D c=true
 sub:∀ c∈L,c∈F
 cls:∀ c∈F,c∈L∨∀ s∈S,D (go c s)=true→go c s∈F
 le:L.length≤F.length
theorem Fld.done {D:Cell→Bool}{S:List Nat}{a:Cell}{F:List Cell}(h:Fld D S a F []) (c:Cell):c∈F ↔ Rch D S a c:=by
 refine⟨h.rch c,fun r=>?_⟩
 induction r with
 | refl=>exact h.st
 | step k hs hd ih =>
  rcases h.cls _ ih with z | z
  ·cases z
  ·exact z _ hs hd
theorem Fld.few {Ls:List Cell}{S:List Nat}{a:Cell}{F L:List Cell}(h:Fld (isIn Ls) S a F L):F.length≤Ls.length+1:=by
 have:=zaC (a:=F) (b:=a::Ls) h.nd fun c hc=>by
  rcases h.dom c hc with rfl | z
  ·exact List.mem_cons_self
  ·exact List.mem_cons_of_mem _ (of_decide_eq_true z)
 simpa using this
section
variable {P:Program}{w:World}{K:W.Frag}{mg:Str→Option Value}{base:Heap}
def spLot (K:W.Frag):Sp:=fun vs H Q _=>∃ (b t q:Addr) (a:Cell) (Ls:List Cell) (S:List Nat) (us:List V),vs=[.ref b,.ref t,.ref q]∧H b=some (.tup (cellT a))∧Rd H t (.dT (dC Ls))∧H q=some (.lst us)∧VR us (S.map mv) cR H∧Ls.length≤100000 ∧
 ∀ f H' F,H f=none→Same H H'→H' f=some (.dT (dC F))→F.Nodup→F.length≤Ls.length+1→(∀ c,c∈F ↔ Rch (isIn Ls) S a c)→Q (.ref f) H'
theorem Rd.same {H H':Hp}{a:Addr}{o:HO}(h:Rd H a o) (s:Same H H'):Rd H' a o:=by
 rcases h with h | ⟨u,h⟩
 ·exact .inl (s _ _ h)
 ·exact .inr ⟨u,s _ _ h⟩
def FI (H0:Hp) (D:Cell→Bool) (S:List Nat) (a:Cell) (f l:Addr) (H:Hp) (F L:List Cell):Prop :=
 Same H0 H∧H f=some (.dT (dC F))∧(∃ zs,H l=some (.lst zs)∧VR zs L cR H)∧Fld D S a F L
theorem ziw (d:Df K mg "_law_lot" zb1 ["_law_start","_law_there","_law_steps"]):FnOk P w K mg base CX0 1 d.f d.fd ["_law_start","_law_there","_law_steps"] (spLot K):=by
  refine d.F.ok zbF (fun vs H Q E h=>?_) (fun cdv A outer s H vs Q E hr h=>?_)
  · obtain⟨b,t,q,a,Ls,S,us,rfl,_⟩:=h
    rfl
  · obtain⟨b,t,q,a,Ls,S,us,rfl,hb,ht,hq,hv,hlen,k⟩:=h
    have hu1:=hu_of hr
    have hu64:=hr.units
    refine⟨_,(zad (zao (i:=3) zbF.nd (by rfl) (Or.inl rfl) (zkI hu1 (pv 0) pe_bl))
      (zad (zao (i:=4) zbF.nd (by rfl) (Or.inl rfl) (zbm (pa_N (pv 0) zac)))
      (zad (zhM PassesOwn.never (zaz (zdA hu64) (pv 4) (zbm zac) (zaw _))
      (zad (zcb (zmp PySem.F.plainAttrs_list PySem.F.slot_list_pop PySem.F.type_list_pop zmu (pv 4)) (zbz (by rfl) (zah (zag (i:=5) zbF.nd (by rfl) (Or.inl rfl)) (zah (zag (i:=6) zbF.nd (by rfl) (Or.inl rfl)) zaA))))
      (zaf (zbw PassesOwn.never rfl (zaJ (pv 2)) (zbz (by rfl) (zah (zag (i:=7) zbF.nd (by rfl) (Or.inl rfl)) (zah (zag (i:=8) zbF.nd (by rfl) (Or.inl rfl)) zaA)))
      (zaf (ps_if (zmk (zd3 (zlj hu1 (zaI (pa_B (pe_op zaG (pv 5) (pv 7)) (pa_B (pe_op zaG (pv 6) (pv 8)) zac))) (pv 1))) (zlM (zd3 (zcK hu1 (zaI (pa_B (pe_op zaG (pv 5) (pv 7)) (pa_B (pe_op zaG (pv 6) (pv 8)) zac))) (pv 3))))).pt
      (zad (zfm hu1 (pv 3) (zaI (pa_B (pe_op zaG (pv 5) (pv 7)) (pa_B (pe_op zaG (pv 6) (pv 8)) zac))) pe_bl rfl)
      (zaf (zco (pe_bm PySem.F.plainAttrs_list PySem.F.slot_list_append PySem.F.type_list_append zbX (pv 4) (pa_T (zaI (pa_B (pe_op zaG (pv 5) (pv 7)) (pa_B (pe_op zaG (pv 6) (pv 8)) zac))) zac)))))
      zaH))))))
      (zaf (zan (pv 3)))))),?_⟩
    have hσ:L2.start zeZ [V.ref b,V.ref t,V.ref q]=[some (.ref b),some (.ref t),some (.ref q),none,none,none,none,none,none]:=rfl
    rw[hσ]
    refine fun f hf=>?_
    have hfb:f≠b:=fun z=>by subst z;rw[hb] at hf;cases hf
    have b1:upd H f (.dT []) b=some (.tup (cellT a)):=by rw[zam (Ne.symm hfb)];exact hb
    refine⟨_,rfl,_,.inr ⟨[],kC a,b,zaa,rfl,b1,(by show 0<sizeLine;decide),rfl⟩,?_⟩
    have e0:putK ([]:List (List Key×V)) (kC a) (.bl true)=dC [a]:=zhL (L:=[]) (by simp)
    rw[e0,ziR]
    have s1:Same H (upd H f (.dT (dC [a]))):=Same.up hf
    have f1:upd H f (.dT (dC [a])) f=some (.dT (dC [a])):=zaa
    simp only[zaR,List.set_cons_succ,List.set_cons_zero]
    generalize upd H f (.dT (dC [a]))=H1 at s1 f1
    refine⟨_,rfl,(by show 1≤sizeLine;decide),fun l hl=>?_⟩
    have hl0:H l=none:=s1.free hl
    have hlf:l≠f:=fun z=>by subst z;rw[f1] at hl;cases hl
    have s2:Same H (upd H1 l (.lst [.ref b])):=s1.trans (Same.up hl)
    have f2:=Same.up (o:=.lst [.ref b]) hl _ _ f1
    have l2:upd H1 l (.lst [.ref b]) l=some (.lst [.ref b]):=zaa
    simp only[zaR,List.set_cons_succ,List.set_cons_zero]
    generalize upd H1 l (.lst [.ref b])=H2 at s2 f2 l2
    have hul:=hv.1
    rw[List.length_map] at hul
    refine⟨fun m σ H3=>∃ F L o5 o6 o7 o8,m=2*(Ls.length+1 - F.length)+L.length∧σ=[some (.ref b),some (.ref t),some (.ref q),some (.ref f),some (.ref l),o5,o6,o7,o8]∧FI H (isIn Ls) S a f l H3 F L,⟨_,[a],[a],_,_,_,_,rfl,rfl,s2,f2,⟨_,l2,VR.cons.mpr ⟨⟨b,rfl,s2 _ _ hb⟩,VR.nil⟩⟩,by simp,by simp,fun c hc=>?_,fun c hc=>.inl (by simpa using hc),fun c hc=>hc,fun c hc=>.inl hc,Nat.le_refl _⟩,?_⟩
    · rw[List.mem_singleton.mp hc];exact .refl
    · rintro m σ H3 ⟨F,L,o5,o6,o7,o8,rfl,rfl,s3,f3,⟨zs,l3,v3⟩,fld⟩
      refine⟨_,rfl,Nat.zero_le _,fun e he=>?_⟩
      have s4:=s3.trans (Same.up (o:=.lst []) he)
      have f4:=Same.up (o:=.lst []) he _ _ f3
      have l4:=Same.up (o:=.lst []) he _ _ l3
      have v4:=v3.mono fun x v h=>h.kt (KT.up (o:=.lst []) he)
      have e4:upd H3 e (.lst []) e=some (.lst []):=zaa
      generalize upd H3 e (.lst [])=H4 at s4 f4 l4 v4 e4
      refine zmt (SqL.of l4) v4 e4 ⟨_,rfl,?_⟩
      by_cases hL:L=[]
      · subst hL
        refine iteN (by simp) ?_
        exact⟨_,rfl,k f H4 F hf s4 f4 fld.nd fld.few fld.done⟩
      · refine iteY (by simp[hL]) ?_
        obtain⟨L',c,rfl⟩:∃ L' c,L=L'++[c]:=⟨L.dropLast,L.getLast hL,(List.dropLast_concat_getLast hL).symm⟩
        have zl:zs.length=L'.length+1:=by rw[v4.1];simp
        obtain⟨z,hz⟩:∃ z,zs[L'.length]?=some z:=⟨_,List.getElem?_eq_getElem (by lia)⟩
        obtain⟨c',hc',x,hx,ex⟩:=v4.at hz
        have:c'=c:=by rw[List.getElem?_append_right (Nat.le_refl _)] at hc';simpa using hc'.symm
        subst this
        subst hx
        refine⟨fun σ' H'=>∃ F2 L2 o5 o6 o7 o8,2*(Ls.length+1 - F2.length)+L2.length<2*(Ls.length+1 - F.length)+(L'++[c']).length∧σ'=[some (.ref b),some (.ref t),some (.ref q),some (.ref f),some (.ref l),o5,o6,o7,o8]∧FI H (isIn Ls) S a f l H' F2 L2,fun σ' H' ⟨F2,L2,o5,o6,o7,o8,h1,h2,h3⟩=>⟨_,h1,F2,L2,o5,o6,o7,o8,rfl,h2,h3⟩,?_⟩
        refine⟨_,rfl,.inl ⟨rfl,_,SqL.of l4⟩,l,zs,_,rfl,rfl,l4,(by rw[zl];exact hz),?_⟩
        have kl:KT H4 (upd H4 l (.lst zs.dropLast)):=KT.lst l4
        have s5:Same H (upd H4 l (.lst zs.dropLast)):=zas hl0 s4
        have f5:upd H4 l (.lst zs.dropLast) f=some (.dT (dC F)):=by rw[zam (Ne.symm hlf)];exact f4
        have l5:upd H4 l (.lst zs.dropLast) l=some (.lst zs.dropLast):=zaa
        have v5:VR zs.dropLast L' cR (upd H4 l (.lst zs.dropLast)):=by
          refine VR.mono (H:=H4) ⟨by rw[List.length_dropLast,zl];lia,fun i y v h1 h2=>?_⟩ fun x v h=>h.kt kl
          have hi:=(List.getElem?_eq_some_iff.mp h1).1
          rw[List.getElem?_dropLast] at h2
          split at h2
          · exact v4.2 i y v (by rw[List.getElem?_append_left hi];exact h1) h2
          · cases h2
        have ex5:=kl _ _ ex
        generalize upd H4 l (.lst zs.dropLast)=H5 at s5 f5 l5 v5 ex5
        have cF:c'∈F:=fld.sub c' (by simp)
        refine⟨x,_,rfl,SqT.of ex5,rfl,_,_,rfl,_,_,rfl,rfl,?_⟩
        refine⟨_,rfl,q,rfl,⟨_,SqL.of (s5 _ _ hq)⟩,?_⟩
        refine zaD (K := K) (a := q) (xs := us) (fun i σ H6 => ∃ F2 L2 o7 o8, σ = [some (.ref b), some (.ref t), some (.ref q), some (.ref f), some (.ref l), some (.int c'.1), some (.int c'.2), o7, o8] ∧ Same H H6 ∧ H6 f = some (.dT (dC F2)) ∧ (∃ zs, H6 l = some (.lst zs) ∧ VR zs L2 cR H6) ∧
            F2.Nodup∧a∈F2∧(∀ y∈F2,Rch (isIn Ls) S a y)∧(∀ y∈F2,y=a∨isIn Ls y=true)∧(∀ y∈L2,y∈F2)∧c'∈F2∧(∀ y∈F2,y∈L2∨y=c'∨∀ s∈S,isIn Ls (go y s)=true→go y s∈F2)∧(∀ j s,j<i→S[j]?=some s→isIn Ls (go c' s)=true→go c' s∈F2) ∧
            2*(Ls.length+1 - F2.length)+L2.length≤2*(Ls.length+1 - F.length)+L'.length∧L2.length<F2.length)
          ⟨F,L',_,_,rfl,s5,f5,⟨_,l5,v5⟩,fld.nd,fld.st,fld.rch,fld.dom,fun y hy=>fld.sub y (List.mem_append_left _ hy),cF,fun y hy=>?_,fun j s hj=>absurd hj (Nat.not_lt_zero _),Nat.le_refl _,(by have:=fld.le;rw[List.length_append,List.length_singleton] at this;lia)⟩
          (fun i σ H6 _ ⟨_,_,_,_,_,s6,_⟩=>SqL.of (s6 _ _ hq)) ?_ ?_
        · rcases fld.cls y hy with z | z
          · rcases List.mem_append.mp z with z | z
            · exact .inl z
            · exact .inr (.inl (List.mem_singleton.mp z))
          · exact .inr (.inr z)
        · rintro i v σ H6 hi ⟨F2,L2,o7,o8,rfl,s6,f6,⟨ys,l6,v6⟩,nd,st,rc,dm,sb,cf,cl,dn,hm,hlt⟩
          obtain⟨mm,hmm,g,rfl,gm⟩:=hv.at hi
          rw[List.getElem?_map] at hmm
          obtain⟨sn,hsn,rfl⟩:=Option.map_eq_some_iff.mp hmm
          have hsS:sn∈S:=List.mem_of_getElem? hsn
          have few:F2.length≤Ls.length+1:=Fld.few (S:=S) (a:=a) (L:=F2) ⟨nd,st,rc,dm,fun c h=>h,fun c h=>.inl h,Nat.le_refl _⟩
          refine⟨g,_,rfl,SqT.of (s6 _ _ gm),rfl,_,_,rfl,_,_,rfl,rfl,?_⟩
          have hgo:[V.int (c'.1+(mv sn).1),V.int (c'.2+(mv sn).2)]=(kC (go c' sn)).map kV:=rfl
          refine⟨_,rfl,_,rfl,_,_,rfl,rfl,_,rfl,_,rfl,_,_,rfl,rfl,two,fun p1 hp1=>?_⟩
          rw[hgo]
          have s7:=s6.trans (Same.up (o:=.tup ((kC (go c' sn)).map kV)) hp1)
          have f7:=Same.up (o:=.tup ((kC (go c' sn)).map kV)) hp1 _ _ f6
          have l7:=Same.up (o:=.tup ((kC (go c' sn)).map kV)) hp1 _ _ l6
          have v7:=v6.mono fun x v h=>h.kt (KT.up (o:=.tup ((kC (go c' sn)).map kV)) hp1)
          have g7:upd H6 p1 (.tup ((kC (go c' sn)).map kV)) p1=some (.tup ((kC (go c' sn)).map kV)):=zaa
          generalize upd H6 p1 (.tup ((kC (go c' sn)).map kV))=H7 at s7 f7 l7 v7 g7
          have stay:∀ H8,Same H H8→H8 f=some (.dT (dC F2))→H8 l=some (.lst ys)→VR ys L2 cR H8→(isIn Ls (go c' sn)=true→go c' sn∈F2)→∃ F2 L2 o7' o8',[some (V.ref b),some (.ref t),some (.ref q),some (.ref f),some (.ref l),some (.int c'.1),some (.int c'.2),some (.int (mv sn).1),some (.int (mv sn).2)]=[some (.ref b),some (.ref t),some (.ref q),some (.ref f),some (.ref l),some (.int c'.1),some (.int c'.2),o7',o8']∧Same H H8∧H8 f=some (.dT (dC F2))∧(∃ zs,H8 l=some (.lst zs)∧VR zs L2 cR H8) ∧
            F2.Nodup∧a∈F2∧(∀ y∈F2,Rch (isIn Ls) S a y)∧(∀ y∈F2,y=a∨isIn Ls y=true)∧(∀ y∈L2,y∈F2)∧c'∈F2∧(∀ y∈F2,y∈L2∨y=c'∨∀ s∈S,isIn Ls (go y s)=true→go y s∈F2)∧(∀ j s,j<i+1→S[j]?=some s→isIn Ls (go c' s)=true→go c' s∈F2) ∧
            2*(Ls.length+1 - F2.length)+L2.length≤2*(Ls.length+1 - F.length)+L'.length∧L2.length<F2.length:=fun H8 t1 t2 t3 t4 t5=>by
            refine⟨F2,L2,_,_,rfl,t1,t2,⟨_,t3,t4⟩,nd,st,rc,dm,sb,cf,cl,fun j s hj hs hd=>?_,hm,hlt⟩
            rcases Nat.lt_or_ge j i with z | z
            · exact dn j s z hs hd
            · have:j=i:=by lia
              subst this
              rw[hsn] at hs
              cases hs
              exact t5 hd
          refine⟨_,rfl,t,_,rfl,.inr ⟨_,_,p1,Rd.same ht s7,rfl,g7,rfl⟩,_,rfl,?_⟩
          rw[zdj]
          by_cases hD:isIn Ls (go c' sn)=true
          · refine iteY hD ?_
            refine⟨_,rfl,_,rfl,_,_,rfl,rfl,_,rfl,_,rfl,_,_,rfl,rfl,two,fun p2 hp2=>?_⟩
            rw[hgo]
            have s8:=s7.trans (Same.up (o:=.tup ((kC (go c' sn)).map kV)) hp2)
            have f8:=Same.up (o:=.tup ((kC (go c' sn)).map kV)) hp2 _ _ f7
            have l8:=Same.up (o:=.tup ((kC (go c' sn)).map kV)) hp2 _ _ l7
            have v8:=v7.mono fun x v h=>h.kt (KT.up (o:=.tup ((kC (go c' sn)).map kV)) hp2)
            have g8:upd H7 p2 (.tup ((kC (go c' sn)).map kV)) p2=some (.tup ((kC (go c' sn)).map kV)):=zaa
            generalize upd H7 p2 (.tup ((kC (go c' sn)).map kV))=H8 at s8 f8 l8 v8 g8
            refine⟨_,rfl,f,_,rfl,.inr ⟨_,_,p2,.inl f8,rfl,g8,rfl⟩,_,rfl,?_⟩
            rw[zdj]
            by_cases hF:go c' sn∈F2
            · refine iteN (by simp[isIn,hF]) ?_
              exact stay H8 s8 f8 l8 v8 fun _=>hF
            · refine iteY (by simp[isIn,hF]) ?_
              refine⟨_,rfl,_,rfl,_,rfl,_,_,rfl,rfl,_,rfl,_,rfl,_,_,rfl,rfl,two,fun p3 hp3=>?_⟩
              rw[hgo]
              have s9:=s8.trans (Same.up (o:=.tup ((kC (go c' sn)).map kV)) hp3)
              have f9:=Same.up (o:=.tup ((kC (go c' sn)).map kV)) hp3 _ _ f8
              have l9:=Same.up (o:=.tup ((kC (go c' sn)).map kV)) hp3 _ _ l8
              have v9:=v8.mono fun x v h=>h.kt (KT.up (o:=.tup ((kC (go c' sn)).map kV)) hp3)
              have g9:upd H8 p3 (.tup ((kC (go c' sn)).map kV)) p3=some (.tup ((kC (go c' sn)).map kV)):=zaa
              generalize upd H8 p3 (.tup ((kC (go c' sn)).map kV))=H9 at s9 f9 l9 v9 g9
              have kd:KT H9 (upd H9 f (.dT (dC (F2++[go c' sn])))):=KT.dct f9
              refine⟨f,_,rfl,.inr ⟨_,_,p3,f9,rfl,g9,(by rw[zeU,sizeLine_eq];lia),rfl⟩,?_⟩
              rw[zhL hF]
              have s10:Same H (upd H9 f (.dT (dC (F2++[go c' sn])))):=zas hf s9
              have f10:upd H9 f (.dT (dC (F2++[go c' sn]))) f=some (.dT (dC (F2++[go c' sn]))):=zaa
              have l10:upd H9 f (.dT (dC (F2++[go c' sn]))) l=some (.lst ys):=by rw[zam hlf];exact l9
              have v10:=v9.mono fun x v h=>h.kt kd
              generalize upd H9 f (.dT (dC (F2++[go c' sn])))=H10 at s10 f10 l10 v10
              refine⟨_,rfl,.inl ⟨rfl,_,SqL.of l10⟩,_,rfl,_,rfl,_,_,rfl,rfl,_,rfl,_,rfl,_,_,rfl,rfl,two,fun p4 hp4=>?_⟩
              rw[hgo]
              have s11:=s10.trans (Same.up (o:=.tup ((kC (go c' sn)).map kV)) hp4)
              have f11:=Same.up (o:=.tup ((kC (go c' sn)).map kV)) hp4 _ _ f10
              have l11:=Same.up (o:=.tup ((kC (go c' sn)).map kV)) hp4 _ _ l10
              have v11:=v10.mono fun x v h=>h.kt (KT.up (o:=.tup ((kC (go c' sn)).map kV)) hp4)
              have g11:cR (go c' sn) (.ref p4) (upd H10 p4 (.tup ((kC (go c' sn)).map kV))):=⟨p4,rfl,zaa⟩
              generalize upd H10 p4 (.tup ((kC (go c' sn)).map kV))=H11 at s11 f11 l11 v11 g11
              have nd3:(F2++[go c' sn]).Nodup:=by
                rw[List.nodup_append]
                exact⟨nd,by simp,fun u hu v hv e=>by rw[List.mem_singleton.mp hv] at e;exact hF (e ▸ hu)⟩
              have rc3:∀ y∈F2++[go c' sn],Rch (isIn Ls) S a y:=fun y hy=>by
                rcases List.mem_append.mp hy with z | z
                · exact rc y z
                · rw[List.mem_singleton.mp z];exact .step (rc c' cf) hsS hD
              have dm3:∀ y∈F2++[go c' sn],y=a∨isIn Ls y=true:=fun y hy=>by
                rcases List.mem_append.mp hy with z | z
                · exact dm y z
                · rw[List.mem_singleton.mp z];exact .inr hD
              have st3:a∈F2++[go c' sn]:=List.mem_append_left _ st
              have few3:(F2++[go c' sn]).length≤Ls.length+1:=Fld.few (S:=S) (a:=a) (L:=F2++[go c' sn]) ⟨nd3,st3,rc3,dm3,fun c h=>h,fun c h=>.inl h,Nat.le_refl _⟩
              rw[List.length_append,List.length_singleton] at few3
              have ysl:ys.length≤200000:=by
                have h1:ys.length=L2.length:=v11.1
                lia
              refine⟨l,ys,_,rfl,rfl,l11,(by rw[sizeLine_eq];lia),?_⟩
              have kl2:KT H11 (upd H11 l (.lst (ys++[.ref p4]))):=KT.lst l11
              refine⟨F2++[go c' sn],L2++[go c' sn],_,_,rfl,zas hl0 s11,(by rw[zam (Ne.symm hlf)];exact f11),⟨_,zaa,v11.snoc (fun x v h=>h.kt kl2) (g11.kt kl2)⟩,nd3,st3,rc3,dm3,fun y hy=>?_,List.mem_append_left _ cf,fun y hy=>?_,fun j s' hj hs hd=>?_,?_,?_⟩
              · rcases List.mem_append.mp hy with z | z
                · exact List.mem_append_left _ (sb y z)
                · exact List.mem_append_right _ z
              · rcases List.mem_append.mp hy with z | z
                · rcases cl y z with u | u | u
                  · exact .inl (List.mem_append_left _ u)
                  · exact .inr (.inl u)
                  · exact .inr (.inr fun s' hs' hd'=>List.mem_append_left _ (u s' hs' hd'))
                · exact .inl (List.mem_append_right _ z)
              · rcases Nat.lt_or_ge j i with z | z
                · exact List.mem_append_left _ (dn j s' z hs hd)
                · have:j=i:=by lia
                  subst this
                  rw[hsn] at hs
                  cases hs
                  simp
              · rw[List.length_append,List.length_append,List.length_singleton]
                lia
              · rw[List.length_append,List.length_append,List.length_singleton]
                lia
          · refine iteN (by simpa using hD) (iteF ?_)
            exact stay H7 s7 f7 l7 v7 fun z=>absurd z hD
        · rintro σ H6 ⟨F2,L2,o7,o8,rfl,s6,f6,hz6,nd,st,rc,dm,sb,cf,cl,dn,hm,hlt⟩
          refine⟨F2,L2,_,_,_,_,?_,rfl,s6,f6,hz6,nd,st,rc,dm,sb,fun y hy=>?_,by lia⟩
          · rw[List.length_append,List.length_singleton];lia
          · rcases cl y hy with z | rfl | z
            · exact .inl z
            · refine .inr fun s hs hd=>?_
              obtain⟨j,hj,ej⟩:=List.getElem_of_mem hs
              exact dn j s (by lia) (by rw[List.getElem?_eq_getElem hj,ej]) hd
            · exact .inr z
end
open PySem L2 RP
def Bf (H H':Hp) (f:Addr):Prop:=∀ z o,z≠f→H z=some o→H' z=some o
theorem Bf.trans {H H1 H2:Hp}{f:Addr}(a:Bf H H1 f) (b:Bf H1 H2 f):Bf H H2 f:=fun z o hz h=>b z o hz (a z o hz h)
theorem Bf.of {H H1:Hp}{f:Addr}(a:Same H H1):Bf H H1 f:=fun z o _ h=>a z o h
theorem Bf.same {H0 H H1:Hp}{f:Addr}(a:Bf H H1 f) (s:Same H0 H) (h:H0 f=none):Same H0 H1:=fun z o e=>a z o (zaq e h) (s z o e)
theorem Rd.dn {H:Hp}{a:Addr}{kvs:List (List Key×V)}(h:Rd H a (.dT kvs)){b:Addr}{xs:List V}(e:H b=some (.tup xs)):b≠a:=fun z=>by
 subst z
 rcases h with h | ⟨u,h⟩ <;> rw[h] at e <;> cases e
theorem Bf.kt {H H1:Hp}{f:Addr}{kvs:List (List Key×V)}(a:Bf H H1 f) (h:Rd H f (.dT kvs)):KT H H1:=fun b xs e=>a b _ (Rd.dn h e) e
def co (k:Nat) (c:Cell):Int:=if k=0 then c.1 else c.2
theorem zls {P:List Cell}{i:Nat}{kk:List Key}{v:V}(h:(dC P)[i]?=some (kk,v)):∃ c,P[i]?=some c∧kk=kC c:=by
 unfold dC at h
 rw[List.getElem?_map] at h
 obtain⟨c,hc,e⟩:=Option.map_eq_some_iff.mp h
 cases e
 exact⟨c,hc,rfl⟩
theorem zlu {K : W.Frag}(kk : Nat) (hk : kk < 2){i : Nat}{σ : St}{H : Hp}{Q : VK}{f : Addr}{P : List Cell}(hσ : σ[i]? = some (some (.ref f))) (hl : P.length ≤ 1000) (hf : Rd H f (.dT (dC P)))
    (k:∀ g H' od,H g=none→H' f=some (.frz od (.dT (dC P)))→Bf H H' f→H' g=some (.lst ((P.map (co kk)).map V.int))→Q (.ref g) H') :
    zeJ (zgs (tVar i)) [none] (gName 0) (fun x H Q=>Q true H) (tOp (rIxT K) (tVar 0) (tC (.int kk))) σ H Q:=by
  have main : ∀ (od : Obj) (H1 : Hp) (g : Addr), H1 g = none → H1 f = some (.frz od (.dT (dC P))) → (∀ H', Same H1 H' → H' g = some (.lst ((P.map (co kk)).map V.int)) → Q (.ref g) H') →
      zcq (Itd f od) (gName 0) (tIfs (fun x H Q=>Q true H) (zcC g (tOp (rIxT K) (tVar 0) (tC (.int kk))))) { nx:=fun _ H'=>Q (.ref g) H',rt:=fun _ _=>False } (selSt [none] σ) (upd H1 g (.lst [])):=fun od H1 g hg hf1 k'=>by
    refine zh4 (fun j σ H2=>∃ o,σ=[o]∧Same H1 H2∧H2 g=some (.lst (((P.take j).map (co kk)).map V.int))) ⟨_,rfl,Same.up hg,zaa⟩ (fun j σ H2 _ ⟨_,_,s2,_⟩=>s2 _ _ hf1) ?_ ?_
    · rintro j b kx v σ H2 hj hb ⟨o,rfl,s2,e2⟩
      obtain⟨c,hc,rfl⟩:=zls hj
      have hjl:=(List.getElem?_eq_some_iff.mp hc).1
      refine gN ?_
      have hat:atI ((kC c).map kV) (kk:Int)=some (.int (co kk c)):=by
        have:kk=0∨kk=1:=by lia
        rcases this with rfl | rfl <;> rfl
      refine⟨_,rfl,b,_,_,_,rfl,rfl,SqT.of hb,hat,_,e2,zav (by simp;lia),_,rfl,zas hg s2,?_⟩
      rw[zaa,zaE hc,List.map_append,List.map_append];rfl
    · rintro σ H2 ⟨o,rfl,s2,e2⟩
      rw[zeU,List.take_length] at e2
      exact k' H2 s2 e2
  refine⟨_,hσ,f,dC P,rfl,?_⟩
  rcases hf with hf | ⟨od,hf⟩
  · refine .inl ⟨hf,fun od g hg=>?_⟩
    have hgf:g≠f:=fun z=>by subst z;rw[zaa] at hg;cases hg
    refine main od _ g hg zaa fun H' s' e'=>k g H' od (by rw[zam hgf] at hg;exact hg) (s' _ _ zaa) (fun z o hz h=>s' z o (by rw[zam hz];exact h)) e'
  · refine .inr ⟨od,hf,fun g hg=>?_⟩
    exact main od _ g hg hf fun H' s' e'=>k g H' od hg (s' _ _ hf) (Bf.of s') e'
theorem zk6 {r:R2}{ta tb:TE}{σ:St}{H:Hp}{Q:VK}:tOp r ta tb σ H Q=ta σ H fun x H1=>tb σ H1 fun y H2=>r x y H2 Q:=rfl
theorem zk7 {r:List V→Hp→VK→Prop}{t:TA}{σ:St}{H:Hp}{Q:VK}:tCB r t σ H Q=t σ H fun vs H1=>r vs H1 Q:=rfl
theorem zfa {ta:TE}{tr:TA}{σ:St}{H:Hp}{Q:List V→Hp→Prop}:tCons ta tr σ H Q=ta σ H fun x H1=>tr σ H1 fun xs H2=>Q (x::xs) H2:=rfl
theorem zgS {σ:St}{H:Hp}{Q:List V→Hp→Prop}:tNil σ H Q=Q [] H:=rfl
theorem tC_eq {v:V}{σ:St}{H:Hp}{Q:VK}:tC v σ H Q=Q v H:=rfl
theorem zkc {K K' : W.Frag}(kk : Nat) (hk : kk < 2){i j : Nat}{u : TS}{D : Ends}{σ : St}{H : Hp}{f : Addr}{P : List Cell}(hσ : σ[i]? = some (some (.ref f))) (hl : P.length ≤ 1000) (hne : P ≠ []) (hf : Rd H f (.dT (dC P)))
  (k:∀ H' od m,H' f=some (.frz od (.dT (dC P)))→Bf H H' f→IsMin (P.map (co kk)) m→u D (σ.set j (some (.int (m - 1)))) H') :
  tSeq (tAsg (tOp (rI0 fun i j=>V.int (i - j)) (tCB (fun xs H Q=>∃ (p:Addr) (ns:List Int),xs=[.ref p]∧SqL K' H p (ns.map V.int)∧ns≠[]∧∀ m,IsMin ns m→Q (.int m) H)
   (tCons (zeJ (zgs (tVar i)) [none] (gName 0) (fun x H Q=>Q true H) (tOp (rIxT K) (tVar 0) (tC (.int kk)))) tNil)) (tC (.int 1))) (gName j)) u D σ H:=by
 unfold tSeq tAsg
 simp only[zk6,zk7,zfa,zgS,tC_eq,zaR]
 refine zlu (i:=i) (f:=f) (P:=P) kk hk hσ hl hf fun g H' od hg f' bf' e'=>?_
 exact⟨g,_,rfl,SqL.of e',fun z=>hne (List.map_eq_nil_iff.mp z),fun m hm=>⟨_,_,rfl,rfl,k H' od m f' bf' hm⟩⟩
theorem zjS {K K' : W.Frag}(kk : Nat) (hk : kk < 2){i a : Nat}{lo : Int}{g : TG}{tb : TS}{D : Ends}{σ : St}{H : Hp}{f : Addr}{P : List Cell}(ha : σ[a]? = some (some (.int lo))) (hσ : σ[i]? = some (some (.ref f))) (hl : P.length ≤ 1000) (hne : P ≠ []) (hf : Rd H f (.dT (dC P)))
  (k:∀ H' od m,H' f=some (.frz od (.dT (dC P)))→Bf H H' f→IsMax (P.map (co kk)) m→zcq (Itr lo (m+2 - lo).toNat) g tb D σ H') :
  tFor (iRngB (tCons (tVar a) (tCons (tOp (rI0 fun i j=>V.int (i+j)) (tCB (fun xs H Q=>∃ (p:Addr) (ns:List Int),xs=[.ref p]∧SqL K' H p (ns.map V.int)∧ns≠[]∧∀ m,IsMax ns m→Q (.int m) H)
   (tCons (zeJ (zgs (tVar i)) [none] (gName 0) (fun x H Q=>Q true H) (tOp (rIxT K) (tVar 0) (tC (.int kk)))) tNil)) (tC (.int 2))) tNil))) g tb D σ H:=by
 unfold tFor iRngB
 refine⟨_,ha,?_⟩
 simp only[zk6,zk7,zfa,zgS,tC_eq,zaR]
 refine zlu (i:=i) (f:=f) (P:=P) kk hk hσ hl hf fun g H' od hg f' bf' e'=>?_
 exact⟨g,_,rfl,SqL.of e',fun z=>hne (List.map_eq_nil_iff.mp z),fun m hm=>⟨_,_,rfl,rfl,_,_,rfl,k H' od m f' bf' hm⟩⟩
theorem KeyL.vr {H:Hp}{ts:List V}{P:List Cell}(h:KeyL H ts (dC P)):VR ts P cR H:=by
 refine⟨by rw[h.1,zeU],fun i c v h1 h2=>?_⟩
 obtain⟨b,rfl,hb⟩:=h.2 i v (kC c) (.bl true) h2 (by unfold dC;rw[List.getElem?_map,h1];rfl)
 exact⟨b,rfl,hb⟩
theorem ziH {i j : Nat}{σ : St}{H : Hp}{Q : VK}{f u : Addr}{Fr Ou : List Cell}(hσ : σ[i]? = some (some (.ref f))) (hu : σ[j]? = some (some (.ref u))) (hl : Fr.length ≤ 100000) (hf : Rd H f (.dT (dC Fr))) (hu' : Rd H u (.dT (dC Ou))) (hne : u ≠ f)
    (k:∀ g H' ts,H g=none→Bf H H' f→H' g=some (.lst ts)→VR ts (Fr.filter fun c=>!isIn Ou c) cR H'→Q (.ref g) H') :
    zeJ (zgs (tVar i)) [none,some j] (gName 0) (tB (zgT (tVar 0) (tVar 1))) (tVar 0) σ H Q:=by
  have hsel:selSt [none,some j] σ=[none,some (.ref u)]:=by
    unfold selSt
    simp[hu]
  have main : ∀ (od : Obj) (H1 : Hp) (g : Addr), H1 g = none → H1 f = some (.frz od (.dT (dC Fr))) → Rd H1 u (.dT (dC Ou)) → (∀ H' ts, Same H1 H' → H' g = some (.lst ts) → VR ts (Fr.filter fun c => !isIn Ou c) cR H' → Q (.ref g) H') →
      zcq (Itd f od) (gName 0) (tIfs (tB (zgT (tVar 0) (tVar 1))) (zcC g (tVar 0))) { nx:=fun _ H'=>Q (.ref g) H',rt:=fun _ _=>False } (selSt [none,some j] σ) (upd H1 g (.lst [])):=fun od H1 g hg hf1 hu1 k'=>by
    rw[hsel]
    refine zh4 (fun m σ H2=>∃ o ts,σ=[o,some (.ref u)]∧Same H1 H2∧H2 g=some (.lst ts)∧VR ts ((Fr.take m).filter fun c=>!isIn Ou c) cR H2) ⟨_,[],rfl,Same.up hg,zaa,VR.nil⟩ (fun m σ H2 _ ⟨_,_,_,s2,_⟩=>s2 _ _ hf1) ?_ ?_
    · rintro m b kx v σ H2 hm hb ⟨o,ts,rfl,s2,e2,v2⟩
      obtain⟨c,hc,rfl⟩:=zls hm
      have hml:=(List.getElem?_eq_some_iff.mp hc).1
      refine⟨_,rfl,_,rfl,u,_,rfl,.inr ⟨_,_,b,Rd.same hu1 s2,rfl,hb,rfl⟩,_,rfl,?_⟩
      rw[zdj]
      have e:(Fr.take (m+1)).filter (fun c=>!isIn Ou c)=(Fr.take m).filter (fun c=>!isIn Ou c)++(if (!isIn Ou c)=true then [c] else []):=by
        rw[zaE hc,List.filter_append]
        congr 1
        simp only[List.filter_cons,List.filter_nil]
      by_cases hi:isIn Ou c=true
      · refine iteN (by rw[hi];rfl) ?_
        refine⟨_,ts,rfl,s2,e2,?_⟩
        rw[e,hi];simpa using v2
      · have hi':isIn Ou c=false:=by simpa using hi
        refine iteY (by rw[hi'];rfl) ?_
        have tl:ts.length≤m:=by
          rw[v2.1]
          have:=List.length_filter_le (fun c=>!isIn Ou c) (Fr.take m)
          rw[List.length_take] at this
          lia
        have kl:KT H2 (upd H2 g (.lst (ts++[.ref b]))):=KT.lst e2
        refine⟨_,rfl,ts,e2,(by rw[sizeLine_eq];lia),_,_,rfl,zas hg s2,zaa,?_⟩
        rw[e,hi']
        exact v2.snoc (fun x v h=>h.kt kl) ⟨b,rfl,kl _ _ hb⟩
    · rintro σ H2 ⟨o,ts,rfl,s2,e2,v2⟩
      rw[zeU,List.take_length] at v2
      exact k' H2 ts s2 e2 v2
  refine⟨_,hσ,f,dC Fr,rfl,?_⟩
  rcases hf with hf | ⟨od,hf⟩
  · refine .inl ⟨hf,fun od g hg=>?_⟩
    have hgf:g≠f:=fun z=>by subst z;rw[zaa] at hg;cases hg
    have hu2:Rd (upd H f (.frz od (.dT (dC Fr)))) u (.dT (dC Ou)):=by
      rcases hu' with z | ⟨o,z⟩
      · exact .inl (by rw[zam hne];exact z)
      · exact .inr ⟨o,by rw[zam hne];exact z⟩
    refine main od _ g hg zaa hu2 fun H' ts s' e' v'=>k g H' ts (by rw[zam hgf] at hg;exact hg) (fun z o hz h=>s' z o (by rw[zam hz];exact h)) e' v'
  · refine .inr ⟨od,hf,fun g hg=>?_⟩
    exact main od _ g hg hf hu' fun H' ts s' e' v'=>k g H' ts hg (Bf.of s') e' v'
theorem zlY {P:List Cell}(kk:Nat) (h:P≠[]):P.map (co kk)≠[]:=fun z=>h (List.map_eq_nil_iff.mp z)
open PySem L2 RP
theorem Can.sum {C:Cell→Bool}{es:List Edge}{r:Rnd}(h:Can C es r):(r.so = "rim" ∧ (es.map (tt C)).sum=4)∨(r.so = "hole" ∧ (es.map (tt C)).sum=-4):=by
 have e:(es.map (tt C)).sum=(nL (wk C es):Int) - nS (wk C es):=by rw[nL_wk,nS_wk,← ze8]
 rw[h.so,e]
 unfold sortS
 rcases ziT h.cl with z | z
 ·left;rw[if_pos (by lia)];exact⟨rfl,z⟩
 ·right;rw[if_neg (by lia)];exact⟨rfl,z⟩
theorem zka {r:Rnd}(h:r.so = "hole"):begE r=⟨(r.x,r.y),2⟩:=by unfold begE;rw[h];rfl
theorem zlm {P:List Cell}{kk:Nat}{m:Int}(h:IsMin (P.map (co kk)) m):(∃ c∈P,co kk c=m)∧∀ c∈P,m≤co kk c:=⟨by obtain⟨c,hc,e⟩:=List.mem_map.mp h.1;exact⟨c,hc,e⟩,fun c hc=>h.2 _ (List.mem_map.mpr ⟨c,hc,rfl⟩)⟩
theorem zln {P:List Cell}{kk:Nat}{m:Int}(h:IsMax (P.map (co kk)) m):(∃ c∈P,co kk c=m)∧∀ c∈P,co kk c≤m:=⟨by obtain⟨c,hc,e⟩:=List.mem_map.mp h.1;exact⟨c,hc,e⟩,fun c hc=>h.2 _ (List.mem_map.mpr ⟨c,hc,rfl⟩)⟩
structure Grd (P:List Cell) (l lo r:Int) (i j:Nat) (Fr:List Cell):Prop where
 nd:Fr.Nodup
 iff:∀ c,c∈Fr ↔ c ∉ P∧l≤c.1∧c.1≤r∧lo≤c.2∧(c.2<lo+i∨(c.2=lo+i∧c.1<l+j))
theorem Grd.skip {P:List Cell}{l lo r:Int}{i j:Nat}{Fr:List Cell}(h:Grd P l lo r i j Fr) (hm:(l+(j:Int),lo+(i:Int))∈P):Grd P l lo r i (j+1) Fr:=⟨h.nd,fun c=>by
 rw[h.iff]
 constructor
 ·rintro⟨h1,h2,h3,h4,h5⟩
  exact⟨h1,h2,h3,h4,by lia⟩
 ·rintro⟨h1,h2,h3,h4,h5⟩
  refine⟨h1,h2,h3,h4,?_⟩
  rcases h5 with z | ⟨z,y⟩
  ·exact .inl z
  ·rcases Int.lt_or_le c.1 (l+j) with u | u
   ·exact .inr ⟨z,u⟩
   ·exfalso
    have:c=(l+(j:Int),lo+(i:Int)):=Prod.ext (by show c.1=l+j;lia) z
    rw[this] at h1;exact h1 hm⟩
theorem Grd.more {P:List Cell}{l lo r:Int}{i j:Nat}{Fr:List Cell}(h:Grd P l lo r i j Fr) (hm:(l+(j:Int),lo+(i:Int)) ∉ P) (hr:l+j≤r):(l+(j:Int),lo+(i:Int)) ∉ Fr∧Grd P l lo r i (j+1) (Fr++[(l+(j:Int),lo+(i:Int))]):=by
 have hn:(l+(j:Int),lo+(i:Int)) ∉ Fr:=fun m=>by
  have:=((h.iff _).mp m).2.2.2.2
  simp only at this
  lia
 refine⟨hn,?_,fun c=>?_⟩
 ·rw[List.nodup_append]
  exact⟨h.nd,by simp,fun u hu v hv e=>by rw[List.mem_singleton.mp hv] at e;exact hn (e ▸ hu)⟩
 ·rw[List.mem_append,List.mem_singleton,h.iff]
  constructor
  ·rintro (⟨h1,h2,h3,h4,h5⟩ | rfl)
   ·exact⟨h1,h2,h3,h4,by lia⟩
   ·exact⟨hm,by simp only;lia,hr,by simp only;lia,.inr ⟨rfl,by simp only;lia⟩⟩
  ·rintro⟨h1,h2,h3,h4,h5⟩
   rcases h5 with z | ⟨z,y⟩
   ·exact .inl ⟨h1,h2,h3,h4,.inl z⟩
   ·rcases Int.lt_or_le c.1 (l+j) with u | u
    ·exact .inl ⟨h1,h2,h3,h4,.inr ⟨z,u⟩⟩
    ·exact .inr (Prod.ext (by show c.1=l+j;lia) z)
theorem Grd.row {P:List Cell}{l lo r:Int}{i j:Nat}{Fr:List Cell}(h:Grd P l lo r i j Fr) (hr:r<l+j):Grd P l lo r (i+1) 0 Fr:=⟨h.nd,fun c=>by
 rw[h.iff]
 constructor
 ·rintro⟨h1,h2,h3,h4,h5⟩
  exact⟨h1,h2,h3,h4,by lia⟩
 ·rintro⟨h1,h2,h3,h4,h5⟩
  refine⟨h1,h2,h3,h4,by lia⟩⟩
section
variable {P:Program}{w:World}{K:W.Frag}{mg:Str→Option Value}{base:Heap}
def zhH (K:W.Frag):Sp:=fun vs H Q _=>∃ (t:Addr) (r:Rnd) (cs:List Cell) (es:List Edge),vs=[.ref t,.str r.so,.int r.x,.int r.y]∧Rd H t (.dT (dC cs))∧Can (isIn cs) es r∧cs.length≤120∧Boxed 120 cs ∧
 ∀ l H' ts L,Same H H'→H' l=some (.lst ts)→VR ts L cR H'→L.Nodup→L.length≤30000→(∀ c,c∈L ↔ wd es c≠0)→Q (.ref l) H'
theorem zfu (T : Txt P w K mg) (g__law_lot : Fn P w K mg base 1 "_law_lot" ["_law_start", "_law_there", "_law_steps"] (spLot K)) (g__law_eight : Fn P w K mg base 1 "_law_eight" [] (zfe S8)) (g__law_four : Fn P w K mg base 1 "_law_four" [] (zfe S4))
  (d:Df K mg "_law_within" zax ["_law_there","_law_sort","_law_x","_law_y"]):FnOk P w K mg base CX0 2 d.f d.fd ["_law_there","_law_sort","_law_x","_law_y"] (zhH K):=by
 refine d.F.ok zaM (fun vs H Q E h=>?_) (fun cdv A outer s H vs Q E hr h=>?_)
 ·obtain⟨t,r,cs,es,rfl,_⟩:=h
  rfl
 ·obtain⟨t,r,cs,es,rfl,ht,hc,hlen,hbox,k⟩:=h
  have hu1:=hu_of hr
  have hu64:=hr.units
  have nb0:(["_law_cell"]:List Str).Nodup:=by decide +kernel
  have nb1:(["_law_cell"]:List Str).Nodup:=by decide +kernel
  have nb2:(["_law_cell"]:List Str).Nodup:=by decide +kernel
  have nb3:(["_law_cell"]:List Str).Nodup:=by decide +kernel
  have nb4:(["_law_cell","_law_outside"]:List Str).Nodup:=by decide +kernel
  refine⟨_,(zad (zao (i:=4) zaM.nd (by rfl) (Or.inl rfl) (zai g__law_lot.ok (hr.mono (by decide)) (by rfl) g__law_lot.m g__law_lot.kp g__law_lot.b .nil pass0 (pa_T (zaI (pa_N (pv 2) (pa_N (pv 3) zac))) (pa_N (pv 0) (zaj (zfo g__law_eight.ok (hr.mono (by decide)) (by rfl) g__law_eight.m g__law_eight.kp g__law_eight.b .nil pass0) zac)))))
   (zad (zao (i:=5) zaM.nd (by rfl) (Or.inl rfl) (pe_op zbS (zaK (zgB rfl) (by rfl) T.nmin (by rfl) (zaj (zaV (osc:=zab zax) (N:=zbh) (N':=["_law_cell"]) (sel:=[none]) ⟨rfl,by decide +kernel,by decide +kernel,by decide +kernel,rfl,by decide +kernel⟩ (zdb (pv 4)) (fun _ _ _ _ _=>(zag (i:=0) nb0 (by rfl) (Or.inl rfl))) (fun _ _ _ _ _=>zb9) (fun _ _ _ _ _=>(pe_ix (zc1 (K:=K)) (pv 0) zae (fun _ _=>rfl)))) zac)) zae))
   (zad (zao (i:=6) zaM.nd (by rfl) (Or.inl rfl) (pe_op zbS (zaK (zgB rfl) (by rfl) T.nmin (by rfl) (zaj (zaV (osc:=zab zax) (N:=zbh) (N':=["_law_cell"]) (sel:=[none]) ⟨rfl,by decide +kernel,by decide +kernel,by decide +kernel,rfl,by decide +kernel⟩ (zdb (pv 4)) (fun _ _ _ _ _=>(zag (i:=0) nb1 (by rfl) (Or.inl rfl))) (fun _ _ _ _ _=>zb9) (fun _ _ _ _ _=>(pe_ix (zc1 (K:=K)) (pv 0) zae (fun _ _=>rfl)))) zac)) zae))
   (zad (zao (i:=7) zaM.nd (by rfl) (Or.inl rfl) zdP)
   (zad (zbw PassesOwn.never rfl (zgf (by rfl) T.nrange (pa_N (pv 6) (pa_B (pe_op zaG (zaK (zgC rfl) (by rfl) T.nmax (by rfl) (zaj (zaV (osc:=zab zax) (N:=zbh) (N':=["_law_cell"]) (sel:=[none]) ⟨rfl,by decide +kernel,by decide +kernel,by decide +kernel,rfl,by decide +kernel⟩ (zdb (pv 4)) (fun _ _ _ _ _=>(zag (i:=0) nb2 (by rfl) (Or.inl rfl))) (fun _ _ _ _ _=>zb9) (fun _ _ _ _ _=>(pe_ix (zc1 (K:=K)) (pv 0) zae (fun _ _=>rfl)))) zac)) zae) zac))) (zag (i:=8) zaM.nd (by rfl) (Or.inl rfl))
   (zaf (zbw PassesOwn.never rfl (zgf (by rfl) T.nrange (pa_N (pv 5) (pa_B (pe_op zaG (zaK (zgC rfl) (by rfl) T.nmax (by rfl) (zaj (zaV (osc:=zab zax) (N:=zbh) (N':=["_law_cell"]) (sel:=[none]) ⟨rfl,by decide +kernel,by decide +kernel,by decide +kernel,rfl,by decide +kernel⟩ (zdb (pv 4)) (fun _ _ _ _ _=>(zag (i:=0) nb3 (by rfl) (Or.inl rfl))) (fun _ _ _ _ _=>zb9) (fun _ _ _ _ _=>(pe_ix (zc1 (K:=K)) (pv 0) zae (fun _ _=>rfl)))) zac)) zae) zac))) (zag (i:=9) zaM.nd (by rfl) (Or.inl rfl))
   (zaf (ps_if (zd3 (zcK hu1 (zaI (pa_N (pv 9) (pa_N (pv 8) zac))) (pv 4)))
   (zaf (zfm hu1 (pv 7) (zaI (pa_N (pv 9) (pa_N (pv 8) zac))) pe_bl rfl))
   zaH)))))
   (zad (ps_if (zaz op_eq (pv 1) zd4 (zaw _))
   (zaf (zan (zbx (zdF rfl) (by rfl) T.nlist (by rfl) (zaj (zai g__law_lot.ok (hr.mono (by decide)) (by rfl) g__law_lot.m g__law_lot.kp g__law_lot.b .nil pass0 (pa_T (zaI (pa_N (pv 2) (pa_B (pe_op zaG (pv 3) zae) zac))) (pa_N (pv 7) (zaj (zfo g__law_four.ok (hr.mono (by decide)) (by rfl) g__law_four.m g__law_four.kp g__law_four.b .nil pass0) zac)))) zac))))
   zaH)
   (zad (zao (i:=10) zaM.nd (by rfl) (Or.inr rfl) (zai g__law_lot.ok (hr.mono (by decide)) (by rfl) g__law_lot.m g__law_lot.kp g__law_lot.b .nil pass0 (pa_T (zaI (pa_N (pv 5) (pa_N (pv 6) zac))) (pa_N (pv 7) (zaj (zfo g__law_four.ok (hr.mono (by decide)) (by rfl) g__law_four.m g__law_four.kp g__law_four.b .nil pass0) zac)))))
   (zaf (zan (pe_op zjv (zbx (zdF rfl) (by rfl) T.nlist (by rfl) (pa_N (pv 4) zac)) (zaV (osc:=zab zax) (N:=zbh) (N':=["_law_cell","_law_outside"]) (sel:=[none,some 10]) ⟨rfl,by decide +kernel,by decide +kernel,by decide +kernel,rfl,by decide +kernel⟩ (zdb (pv 7)) (fun _ _ _ _ _=>(zag (i:=0) nb4 (by rfl) (Or.inl rfl))) (fun _ _ _ _ _=>zcI (zd3 (zcK hu1 (pv 0) (pv 1)))) (fun _ _ _ _ _=>(pv 0))))))))))))),?_⟩
  have hσ:L2.start zbh [V.ref t,V.str r.so,V.int r.x,V.int r.y]=[some (.ref t),some (.str r.so),some (.int r.x),some (.int r.y),none,none,none,none,none,none,none]:=rfl
  rw[hσ]
  refine⟨_,rfl,_,rfl,two,fun b0 hb0=>?_⟩
  have s1:=Same.up (o:=.tup [.int r.x,.int r.y]) hb0
  have e1:upd H b0 (.tup [.int r.x,.int r.y]) b0=some (.tup (cellT (r.x,r.y))):=zaa
  generalize upd H b0 (.tup [.int r.x,.int r.y])=H1 at s1 e1
  refine⟨_,rfl,rfl,fun q1 H2 us hq1 s2 e2 v2=>?_⟩
  refine⟨b0,t,q1,(r.x,r.y),cs,S8,us,rfl,s2 _ _ e1,Rd.same ht (s1.trans s2),e2,v2,by lia,fun f H3 Pc hf s3 f3 ndP hlP hP=>?_⟩
  simp only[zaR,List.set_cons_succ,List.set_cons_zero]
  have s03:=s1.trans (s2.trans s3)
  have hf0:H f=none:=(s1.trans s2).free hf
  have b0P:(r.x,r.y)∈Pc:=(hP _).mpr .refl
  have Pne:Pc≠[]:=fun z=>by rw[z] at b0P;cases b0P
  have Pl:Pc.length≤121:=by lia
  have inC:∀ c∈Pc,c∈cs:=fun c h=>by
   have hE:=hc.cl.1.2.2.1 _ (List.mem_of_getElem? hc.cl.1.1)
   exact of_decide_eq_true (((hP c).mp h).dom (by exact hE.2.1))
  obtain⟨X,Y,W,G,hWG,hin⟩:=hbox
  refine zkc (i:=4) (f:=f) (P:=Pc) 0 (by decide) rfl (by lia) Pne (.inl f3) fun H4 od1 mx f4 bf4 hmx=>?_
  obtain⟨⟨cx,hcx,ecx⟩,mnx⟩:=zlm hmx
  simp only[List.set_cons_succ,List.set_cons_zero]
  refine zkc (i:=4) (f:=f) (P:=Pc) 1 (by decide) rfl (by lia) Pne (.inr ⟨od1,f4⟩) fun H5 od2 my f5 bf5 hmy=>?_
  obtain⟨⟨cy,hcy,ecy⟩,mny⟩:=zlm hmy
  simp only[List.set_cons_succ,List.set_cons_zero]
  refine fun fr hfr=>?_
  have bf35:=bf4.trans bf5
  have s05:Same H H5:=bf35.same s03 hf0
  have hfr0:H fr=none:=s05.free hfr
  have hff:fr≠f:=fun z=>by subst z;rw[f5] at hfr;cases hfr
  have s06:Same H (upd H5 fr (.dT [])):=s05.trans (Same.up hfr)
  have f6:=Same.up (o:=.dT []) hfr _ _ f5
  have r6:upd H5 fr (.dT []) fr=some (.dT (dC [])):=zaa
  simp only[zaR,List.set_cons_succ,List.set_cons_zero]
  generalize upd H5 fr (.dT [])=H6 at s06 f6 r6
  refine zjS (i:=4) (a:=6) (f:=f) (P:=Pc) 1 (by decide) rfl rfl (by lia) Pne (.inr ⟨od2,f6⟩) fun H7 od3 My f7 bf7 hMy=>?_
  obtain⟨⟨dy',hdy,edy⟩,mxy⟩:=zln hMy
  have s07:Same H H7:=bf7.same s06 hf0
  have r7:=bf7 _ _ hff r6
  have hMx:∃ Mx,IsMax (Pc.map (co 0)) Mx:=by
   have:∀ l:List Int,l≠[]→∃ M,IsMax l M:=by
    intro l
    induction l with
    | nil=>intro h;exact absurd rfl h
    | cons a l ih =>
     intro _
     by_cases hl:l=[]
     ·subst hl;exact⟨a,by simp,fun n hn=>by rw[List.mem_singleton.mp hn];exact Int.le_refl _⟩
     ·obtain⟨M,h1,h2⟩:=ih hl
      rcases Int.le_total a M with z | z
      ·exact⟨M, List.mem_cons_of_mem _ h1, fun n hn => by
        rcases List.mem_cons.mp hn with rfl | hn
        ·exact z
        ·exact h2 n hn⟩
      ·exact⟨a, List.mem_cons_self, fun n hn => by
        rcases List.mem_cons.mp hn with rfl | hn
        ·exact Int.le_refl _
        ·exact Int.le_trans (h2 n hn) z⟩
   exact this _ (zlY 0 Pne)
  obtain⟨Mx,hMx⟩:=hMx
  obtain⟨⟨dx',hdx,edx⟩,mxx⟩:=zln hMx
  have uniq:∀ M,IsMax (Pc.map (co 0)) M→M=Mx:=fun M h=>Int.le_antisymm (hMx.2 _ h.1) (h.2 _ hMx.1)
  have bx:=hin _ (inC _ hcx)
  have by':=hin _ (inC _ hcy)
  have bX:=hin _ (inC _ hdx)
  have bY:=hin _ (inC _ hdy)
  have le1:=mnx _ hdx
  have le2:=mny _ hdy
  simp only[co,if_true,if_false,Nat.one_ne_zero] at ecx ecy edx edy le1 le2
  have hW:W≤120:=by
   have h1:1≤G:=by lia
   have:=Nat.mul_le_mul_left W h1
   lia
  have hG:G≤120:=by
   have h1:1≤W:=by lia
   have:=Nat.mul_le_mul_right G h1
   lia
  have nW:(Mx+2 - (mx - 1)).toNat≤122:=by lia
  have nG:(My+2 - (my - 1)).toNat≤122:=by lia
  have BO:BoxOf Pc (mx - 1) (my - 1) (Mx+1) (My+1):=⟨fun c hc'=>by
   have a1:=mnx c hc'
   have a2:=mny c hc'
   have a3:=mxx c hc'
   have a4:=mxy c hc'
   simp only[co,if_true,if_false,Nat.one_ne_zero] at a1 a2 a3 a4
   lia,cy,hcy,by lia⟩
  refine zcm (lo:=my - 1) (n:=(My+2 - (my - 1)).toNat) (fun i σ H8=>∃ o8 o9 od Fr,σ=[some (.ref t),some (.str r.so),some (.int r.x),some (.int r.y),some (.ref f),some (.int (mx - 1)),some (.int (my - 1)),some (.ref fr),o8,o9,none]∧Same H H8∧H8 f=some (.frz od (.dT (dC Pc)))∧H8 fr=some (.dT (dC Fr))∧Grd Pc (mx - 1) (my - 1) (Mx+1) i 0 Fr∧Fr.length≤122*i)
   ⟨_,_,od3,[],rfl,s07,f7,r7,⟨by simp,fun c=>by simp;lia⟩,Nat.zero_le _⟩ ?_ ?_
  ·rintro i σ H8 hi ⟨o8,o9,od,Fr,rfl,s8,f8,r8,hg8,hl8⟩
   simp only[zaR,List.set_cons_succ,List.set_cons_zero]
   refine zjS (i:=4) (a:=5) (f:=f) (P:=Pc) 0 (by decide) rfl rfl (by lia) Pne (.inr ⟨od,f8⟩) fun H9 od4 M f9 bf9 hM=>?_
   rw[uniq M hM]
   have s9:Same H H9:=bf9.same s8 hf0
   have r9:=bf9 _ _ hff r8
   refine zcm (lo:=mx - 1) (n:=(Mx+2 - (mx - 1)).toNat) (fun j σ H10=>∃ o9 Fr,σ=[some (.ref t),some (.str r.so),some (.int r.x),some (.int r.y),some (.ref f),some (.int (mx - 1)),some (.int (my - 1)),some (.ref fr),some (.int (my - 1+(i:Int))),o9,none]∧Same H H10∧H10 f=some (.frz od4 (.dT (dC Pc)))∧H10 fr=some (.dT (dC Fr))∧Grd Pc (mx - 1) (my - 1) (Mx+1) i j Fr∧Fr.length≤122*i+j)
    ⟨_,Fr,rfl,s9,f9,r9,hg8,by lia⟩ ?_ ?_
   ·rintro j σ H10 hj ⟨o9,Fr,rfl,s10,f10,r10,hg10,hl10⟩
    simp only[zaR,List.set_cons_succ,List.set_cons_zero]
    refine⟨_,rfl,_,rfl,two,fun p1 hp1=>?_⟩
    obtain⟨nc,hnc⟩:∃ nc:Cell,nc=(mx - 1+(j:Int),my - 1+(i:Int)):=⟨_,rfl⟩
    have hcell:[V.int (mx - 1+(j:Int)),V.int (my - 1+(i:Int))]=(kC nc).map kV:=by rw[hnc];rfl
    rw[hcell]
    have s11:=s10.trans (Same.up (o:=.tup ((kC nc).map kV)) hp1)
    have f11:=Same.up (o:=.tup ((kC nc).map kV)) hp1 _ _ f10
    have r11:=Same.up (o:=.tup ((kC nc).map kV)) hp1 _ _ r10
    have g11:upd H10 p1 (.tup ((kC nc).map kV)) p1=some (.tup ((kC nc).map kV)):=zaa
    generalize upd H10 p1 (.tup ((kC nc).map kV))=H11 at s11 f11 r11 g11
    refine⟨_,rfl,f,_,rfl,.inr ⟨_,_,p1,.inr ⟨od4,f11⟩,rfl,g11,rfl⟩,_,rfl,?_⟩
    rw[zdj]
    by_cases hm:nc∈Pc
    ·refine iteN (by simp[isIn,hm]) ?_
     exact⟨_,Fr,rfl,s11,f11,r11,hg10.skip (by rw[← hnc];exact hm),by lia⟩
    ·refine iteY (by simp[isIn,hm]) ?_
     obtain⟨hn,hg⟩:=hg10.more (by rw[← hnc];exact hm) (by lia)
     rw[← hnc] at hn hg
     refine⟨_,rfl,_,rfl,_,rfl,two,fun p2 hp2=>?_⟩
     rw[hcell]
     have s12:=s11.trans (Same.up (o:=.tup ((kC nc).map kV)) hp2)
     have f12:=Same.up (o:=.tup ((kC nc).map kV)) hp2 _ _ f11
     have r12:=Same.up (o:=.tup ((kC nc).map kV)) hp2 _ _ r11
     have g12:upd H11 p2 (.tup ((kC nc).map kV)) p2=some (.tup ((kC nc).map kV)):=zaa
     generalize upd H11 p2 (.tup ((kC nc).map kV))=H12 at s12 f12 r12 g12
     refine⟨fr,_,rfl,.inr ⟨_,_,p2,r12,rfl,g12,(by
      have h4:122*i≤122*122:=Nat.mul_le_mul_left _ (by lia)
      rw[zeU,sizeLine_eq];lia),rfl⟩,?_⟩
     rw[zhL hn]
     refine⟨_,Fr++[nc],rfl,zas hfr0 s12,(by rw[zam (Ne.symm hff)];exact f12),zaa,hg,by rw[List.length_append,List.length_singleton];lia⟩
   ·rintro σ H10 ⟨o9,Fr,rfl,s10,f10,r10,hg10,hl10⟩
    exact⟨_,_,od4,Fr,rfl,s10,f10,r10,hg10.row (by lia),by rw[Nat.mul_succ];lia⟩
  ·rintro σ H8 ⟨o8,o9,od,Fr,rfl,s8,f8,r8,hg8,hl8⟩
   have hFl:Fr.length≤14884:=by
    have h4:122*(My+2 - (my - 1)).toNat≤122*122:=Nat.mul_le_mul_left _ nG
    lia
   have FO:FreeOf (isIn Fr) Pc (mx - 1) (my - 1) (Mx+1) (My+1):=⟨fun c=>by
    unfold isIn inBox
    rw[decide_eq_true_iff,hg8.iff]
    constructor
    ·rintro⟨h1,h2,h3,h4,h5⟩
     exact⟨⟨h2,h3,h4,by lia⟩,h1⟩
    ·rintro⟨⟨h2,h3,h4,h5⟩,h1⟩
     exact⟨h1,h2,h3,h4,by lia⟩⟩
   have hP':∀ c,c∈Pc ↔ Rch (isIn cs) S8 (begE r).c c:=hP
   have csum:=hc.sum
   have hz0:∀ c∈Pc,isIn cs c=true:=fun c h=>decide_eq_true (inC c h)
   rcases csum with⟨hso,hsum⟩ | ⟨hso,hsum⟩
   ·-- a rim
    refine⟨_,rfl,rfl,_,rfl,iteN (by rw[hso];decide) ?_⟩
    refine⟨_,rfl,_,rfl,two,fun b2 hb2=>?_⟩
    have s9:=s8.trans (Same.up (o:=.tup [.int (mx - 1),.int (my - 1)]) hb2)
    have f9:=Same.up (o:=.tup [.int (mx - 1),.int (my - 1)]) hb2 _ _ f8
    have r9:=Same.up (o:=.tup [.int (mx - 1),.int (my - 1)]) hb2 _ _ r8
    have e9:upd H8 b2 (.tup [.int (mx - 1),.int (my - 1)]) b2=some (.tup (cellT (mx - 1,my - 1))):=zaa
    generalize upd H8 b2 (.tup [.int (mx - 1),.int (my - 1)])=H9 at s9 f9 r9 e9
    refine⟨_,rfl,rfl,fun q2 H10 us2 hq2 s10 e10 v10=>?_⟩
    refine⟨b2,fr,q2,(mx - 1,my - 1),Fr,S4,us2,rfl,s10 _ _ e9,.inl (s10 _ _ r9),e10,v10,by lia,fun ou H11 Ou hou s11 o11 ndO hlO hO=>?_⟩
    simp only[zaR,List.set_cons_succ,List.set_cons_zero]
    have s911:=s10.trans s11
    have f11:=s911 _ _ f9
    have r11:=s911 _ _ r9
    have houf:ou≠fr:=fun z=>by subst z;rw[s10 _ _ r9] at hou;cases hou
    refine⟨_,rfl,f,_,rfl,.inr ⟨od,f11⟩,fun l1 ts1 hl1 hk1=>?_⟩
    have s12:=Same.up (o:=.lst ts1) hl1
    have v12:VR ts1 Pc cR (upd H11 l1 (.lst ts1)):=(KeyL.vr hk1).mono fun x v h=>h.kt (KT.up hl1)
    have e12:upd H11 l1 (.lst ts1) l1=some (.lst ts1):=zaa
    generalize upd H11 l1 (.lst ts1)=H12 at s12 v12 e12
    have hl1f:l1≠fr:=fun z=>by subst z;rw[r11] at hl1;cases hl1
    refine ziH (i:=7) (j:=10) (f:=fr) (u:=ou) (Fr:=Fr) (Ou:=Ou) rfl rfl (by lia) (.inl (s12 _ _ r11)) (.inl (s12 _ _ o11)) houf fun g H13 ts2 hg bf13 e13 v13=>?_
    have e12':=bf13 _ _ hl1f e12
    have v12':=v12.mono fun x v h=>h.kt (Bf.kt bf13 (.inl (s12 _ _ r11)))
    have s013:Same H H13:=bf13.same ((s9.trans s911).trans s12) hfr0
    refine⟨l1,g,ts1,ts2,rfl,rfl,e12',e13,(by
     have h1:ts1.length=Pc.length:=v12.1
     have h2:ts2.length≤Fr.length:=by rw[v13.1];exact List.length_filter_le _ _
     rw[sizeLine_eq];lia),fun p hp=>?_⟩
    have kp:KT H13 (upd H13 p (.lst (ts1++ts2))):=KT.up hp
    refine k p _ (ts1++ts2) (Pc++Fr.filter fun c=>!isIn Ou c) (s013.trans (Same.up hp)) zaa ((v12'.mono fun x v h=>h.kt kp).app (v13.mono fun x v h=>h.kt kp)) ?_ ?_ ?_
    ·rw[List.nodup_append]
     refine⟨ndP,hg8.nd.filter _,fun u hu v hv e=>?_⟩
     subst e
     exact ((hg8.iff u).mp (List.mem_filter.mp hv).1).1 hu
    ·rw[List.length_append]
     have:=List.length_filter_le (fun c=>!isIn Ou c) Fr
     lia
    ·intro c
     rw[List.mem_append,List.mem_filter]
     have bm:begE r∈es:=List.mem_of_getElem? hc.cl.1.1
     have ins:∀ e∈es,wd es e.c=1∧wd es (gap e)=0:=by
      rcases hc.cl.inside with⟨_,k⟩ | ⟨s,_⟩
      ·exact k
      ·lia
     have hbC:isIn cs (begE r).c=true:=(hc.cl.1.2.2.1 _ bm).2.1
     have pz:∀ x∈Pc,wd es x=1:=fun x hx=>(zdL hc.cl ((hP' x).mp hx) hbC).trans (ins _ bm).1
     constructor
     ·rintro (h | ⟨h1,h2⟩)
      ·rw[pz c h];decide
      ·have hD:isIn Fr c=true:=decide_eq_true h1
       intro hz
       have:=(zjf hc.cl hsum hP' BO FO hD).mpr hz
       have hm:=(hO c).mpr this
       simp[isIn,hm] at h2
     ·intro hz
      by_cases hp':c∈Pc
      ·exact .inl hp'
      ·right
       have hbx:=wd_in hc.cl (fun e he=>(hP' _).mpr (hc.cl.reach e he).1) BO hz
       have hD:isIn Fr c=true:=(FO.iff c).mpr ⟨⟨hbx.1,hbx.2.1,by lia,by lia⟩,hp'⟩
       refine⟨of_decide_eq_true hD,?_⟩
       have:c ∉ Ou:=fun m=>hz ((zjf hc.cl hsum hP' BO FO hD).mp ((hO c).mp m))
       simp[isIn,this]
   ·refine⟨_,rfl,rfl,_,rfl,iteY (by rw[hso];decide) ?_⟩
    refine⟨_,rfl,_,rfl,_,_,rfl,rfl,two,fun b2 hb2=>?_⟩
    have s9:=s8.trans (Same.up (o:=.tup [.int r.x,.int (r.y+1)]) hb2)
    have r9:=Same.up (o:=.tup [.int r.x,.int (r.y+1)]) hb2 _ _ r8
    have e9:upd H8 b2 (.tup [.int r.x,.int (r.y+1)]) b2=some (.tup (cellT (r.x,r.y+1))):=zaa
    generalize upd H8 b2 (.tup [.int r.x,.int (r.y+1)])=H9 at s9 r9 e9
    refine⟨_,rfl,rfl,fun q2 H10 us2 hq2 s10 e10 v10=>?_⟩
    refine⟨b2,fr,q2,(r.x,r.y+1),Fr,S4,us2,rfl,s10 _ _ e9,.inl (s10 _ _ r9),e10,v10,by lia,fun ou H11 Ou hou s11 o11 ndO hlO hO=>?_⟩
    refine⟨ou,_,rfl,.inl o11,fun l1 ts1 hl1 hk1=>?_⟩
    have v12:VR ts1 Ou cR (upd H11 l1 (.lst ts1)):=(KeyL.vr hk1).mono fun x v h=>h.kt (KT.up hl1)
    refine k l1 _ ts1 Ou ((s9.trans (s10.trans s11)).trans (Same.up hl1)) zaa v12 ndO (by lia) fun c=>?_
    rw[hO]
    have hgap:gap (begE r)=(r.x,r.y+1):=by rw[zka hso,gap2]
    rw[← hgap,zkQ hc.cl hsum hP' BO FO c]
    constructor
    ·intro z;rw[z];decide
    ·intro z
     rcases wd_0m hc.cl hsum c with y | y
     ·exact absurd y z
     ·exact y
end
open PySem L2 RP
theorem zhO {α:Type}(f:α→Int){a b:List α}(p:a.Perm b):(a.map f).sum=(b.map f).sum:=by
 induction p with
 | nil=>rfl
 | cons x _ ih=>rw[List.map_cons,List.sum_cons,ih,List.map_cons,List.sum_cons]
 | swap x y l=>simp only[List.map_cons,List.sum_cons];lia
 | trans _ _ i1 i2=>rw[i1,i2]
def sumC (f:Cell→Int) (l:List Cell):Int:=(l.map f).sum
theorem zdk (p:Cell→Bool) (f:Cell→Int):∀ l:List Cell,sumC f (l.filter p)+sumC f (l.filter fun c=>!p c)=sumC f l
 | []=>rfl
 | c::l=>by
  have ih:=zdk p f l
  unfold sumC at *
  cases h:p c with
  | true=>rw[List.filter_cons_of_pos h,List.filter_cons_of_neg (by simp[h]),List.map_cons,List.sum_cons,List.map_cons,List.sum_cons];lia
  | false=>rw[List.filter_cons_of_neg (by simp[h]),List.filter_cons_of_pos (by simp[h]),List.map_cons,List.sum_cons,List.map_cons,List.sum_cons];lia
theorem zhy (f g:Cell→Int):∀ l:List Cell,sumC (fun c=>f c - g c) l=sumC f l - sumC g l
 | []=>rfl
 | c::l=>by
  have ih:=zhy f g l
  unfold sumC at *
  rw[List.map_cons,List.sum_cons,ih,List.map_cons,List.sum_cons,List.map_cons,List.sum_cons];lia
def eastC (c:Cell):Cell:=(c.1+1,c.2)
def westC (c:Cell):Cell:=(c.1 - 1,c.2)
theorem zlw (f:Int→Int→Int) (a b:List Edge):SS f (a++b)=SS f a+SS f b:=by unfold SS;rw[List.map_append,List.sum_append]
theorem zif (f:Int→Int→Int) (cs:List Cell):∀ l:List Cell,SS f ((sides l).filter fun e=>!isIn cs (gap e))=sumC (fun c=>f c.1 c.2) (l.filter fun c=>!isIn cs (eastC c)) - sumC (fun c=>f (c.1 - 1) c.2) (l.filter fun c=>!isIn cs (westC c))
 | []=>rfl
 | c::l=>by
  have ih:=zif f cs l
  have e:sides (c::l)=[⟨c,0⟩,⟨c,1⟩,⟨c,2⟩,⟨c,3⟩]++sides l:=rfl
  rw[e,List.filter_append,zlw,ih]
  have g1:gap ⟨c,1⟩=eastC c:=by simp[gap,go,mv,eastC]
  have g3:gap ⟨c,3⟩=westC c:=by simp[gap,go,mv,westC];lia
  have h4:SS f (List.filter (fun e=>!isIn cs (gap e)) [⟨c,0⟩,⟨c,1⟩,⟨c,2⟩,⟨c,3⟩])=(if isIn cs (eastC c)=true then 0 else f c.1 c.2) - (if isIn cs (westC c)=true then 0 else f (c.1 - 1) c.2):=by
   simp only[List.filter_cons,List.filter_nil,g1,g3]
   cases isIn cs (gap ⟨c,0⟩) <;> cases isIn cs (eastC c) <;> cases isIn cs (gap ⟨c,2⟩) <;> cases isIn cs (westC c) <;> simp[SS,sg,xE] <;> lia
  rw[h4]
  cases h1:isIn cs (eastC c) <;> cases h3:isIn cs (westC c) <;> simp[List.filter_cons,h1,h3,sumC] <;> lia
theorem zi9 {cs:List Cell}(hn:cs.Nodup) (g:Cell→Int):sumC g (cs.filter fun c=>isIn cs (eastC c))=sumC (fun c=>g (westC c)) (cs.filter fun c=>isIn cs (westC c)):=by
 have we:∀ c,westC (eastC c)=c:=fun c=>Prod.ext (by show c.1+1 - 1=c.1;lia) rfl
 have ew:∀ c,eastC (westC c)=c:=fun c=>Prod.ext (by show c.1 - 1+1=c.1;lia) rfl
 have n1:((cs.filter fun c=>isIn cs (eastC c)).map eastC).Nodup:=List.Pairwise.map _ (fun a b hab e=>hab (by rw[← we a,e,we])) (List.Pairwise.filter _ hn)
 have n2:(cs.filter fun c=>isIn cs (westC c)).Nodup:=List.Pairwise.filter _ hn
 have pm:((cs.filter fun c=>isIn cs (eastC c)).map eastC).Perm (cs.filter fun c=>isIn cs (westC c)):=by
  refine (List.perm_ext_iff_of_nodup n1 n2).mpr fun c=>?_
  rw[List.mem_map,List.mem_filter]
  constructor
  ·rintro⟨x,hx,rfl⟩
   obtain⟨h1,h2⟩:=List.mem_filter.mp hx
   exact⟨of_decide_eq_true h2,by rw[we];exact decide_eq_true h1⟩
  ·rintro⟨h1,h2⟩
   exact⟨westC c,List.mem_filter.mpr ⟨of_decide_eq_true h2,by rw[ew];exact decide_eq_true h1⟩,ew c⟩
 have:=zhO (fun c=>g (westC c)) pm
 unfold sumC
 rw[← this,List.map_map]
 congr 1
 apply List.map_congr_left
 intro c _
 show g c=g (westC (eastC c))
 rw[we]
theorem zk1 {cs:List Cell}(hn:cs.Nodup) (f:Int→Int→Int):SS f (allE cs)=sumC (fun c=>f c.1 c.2 - f (c.1 - 1) c.2) cs:=by
 unfold allE
 rw[zif,zhy]
 have h1:=zdk (fun c=>isIn cs (eastC c)) (fun c=>f c.1 c.2) cs
 have h2:=zdk (fun c=>isIn cs (westC c)) (fun c=>f (c.1 - 1) c.2) cs
 have h3:=zi9 hn fun c=>f c.1 c.2
 have h4:sumC (fun c=>f (westC c).1 (westC c).2) (cs.filter fun c=>isIn cs (westC c))=sumC (fun c=>f (c.1 - 1) c.2) (cs.filter fun c=>isIn cs (westC c)):=rfl
 lia
def six0 (cs:List Cell):List Int:=[(cs.length:Int),sumC (fun c=>c.1) cs,sumC (fun c=>c.2) cs,sumC (fun c=>c.1*c.1) cs,sumC (fun c=>c.1*c.2) cs,sumC (fun c=>c.2*c.2) cs]
theorem zcd {f g:Cell→Int}{l:List Cell}(h:∀ c,f c=g c):sumC f l=sumC g l:=by unfold sumC;rw[show f=g from funext h]
theorem zhz:∀ l:List Cell,sumC (fun _=>1) l=(l.length:Int)
 | []=>rfl
 | c::l=>by have:=zhz l;unfold sumC at *;rw[List.map_cons,List.sum_cons,this,List.length_cons];lia
theorem zdX {cs:List Cell}(hn:cs.Nodup):six (allE cs)=six0 cs:=by
 unfold six six0
 have f1d:∀ x:Int,f1 x - f1 (x - 1)=x:=fun x=>by
  have h1:=f1_eq x
  have h2:=f1_eq (x - 1)
  have e:x*(x+1)=(x - 1)*(x - 1+1)+2*x:=by grind
  lia
 have f3d:∀ x:Int,f3 x - f3 (x - 1)=x*x:=fun x=>by
  have h1:=f3_eq x
  have h2:=f3_eq (x - 1)
  have e:x*(x+1)*(2*x+1)=(x - 1)*(x - 1+1)*(2*(x - 1)+1)+6*(x*x):=by grind
  lia
 simp only[zk1 hn]
 congr 1
 ·rw[← zhz];exact zcd fun c=>by lia
 congr 1
 ·exact zcd fun c=>f1d c.1
 congr 1
 ·exact zcd fun c=>by grind
 congr 1
 ·exact zcd fun c=>f3d c.1
 congr 1
 ·exact zcd fun c=>by rw[← Int.sub_mul,f1d]
 congr 1
 exact zcd fun c=>by grind
theorem zdN {a b:List Edge}(p:a.Perm b):six a=six b:=by
 have h:∀ f,SS f a=SS f b:=fun f=>zhO _ p
 unfold six
 rw[h,h,h,h,h,h]
theorem ziZ (f:Cell→Int) (l:List Cell) (c:Cell):sumC f (l++[c])=sumC f l+f c:=by unfold sumC;rw[List.map_append,List.sum_append];simp
open PySem L2 RP
theorem zdY:∀ {cs:List Cell},cs.Nodup→(sides cs).Nodup
 | [],_=>by simp[sides]
 | c::r,h=>by
  obtain⟨h1,h2⟩:=List.nodup_cons.mp h
  have e:sides (c::r)=(List.range 4).map (fun w=>(⟨c,w⟩:Edge))++sides r:=rfl
  rw[e,List.nodup_append]
  refine⟨List.Pairwise.map _ (fun a b hab z=>hab (by cases z;rfl)) List.nodup_range,zdY h2,fun x hx y hy z=>?_⟩
  obtain⟨w,_,rfl⟩:=List.mem_map.mp hx
  subst z
  exact h1 (zcL.mp hy).1
theorem zdt {cs:List Cell}(h:cs.Nodup):(allE cs).Nodup:=List.Pairwise.filter _ (zdY h)
section
variable {C:Cell→Bool}{b:Edge}{es:List Edge}{L:List Cell}
theorem zlF (h:Closed C b es) (hs:(es.map (tt C)).sum=4) (hn:L.Nodup) (hL:∀ c,c∈L ↔ wd es c≠0):six es=six0 L:=by
 rw[← zdX hn]
 refine zdN ((List.perm_ext_iff_of_nodup h.1.2.2.2 (zdt hn)).mpr fun e=>?_)
 rw[zdd]
 have ins:∀ e∈es,wd es e.c=1∧wd es (gap e)=0:=by
  rcases h.inside with⟨_,k⟩ | ⟨s,_⟩
  ·exact k
  ·lia
 have d1:∀ c,isIn L c=true ↔ wd es c=1:=fun c=>by
  unfold isIn
  rw[decide_eq_true_iff,hL]
  rcases wd_01 h hs c with z | z <;> rw[z] <;> simp
 have d0:∀ c,isIn L c=false ↔ wd es c=0:=fun c=>by
  unfold isIn
  rw[decide_eq_false_iff_not,hL]
  simp
 constructor
 ·intro he
  exact⟨(h.1.2.2.1 e he).1,(d1 _).mpr (ins e he).1,(d0 _).mpr (ins e he).2⟩
 ·rintro⟨hw,h1,h2⟩
  have k:=ze4 h e hw
  rw[(d1 _).mp h1,(d0 _).mp h2] at k
  unfold ind at k
  by_cases z:e∈es
  ·exact z
  ·rw[if_neg z] at k
   split at k <;> lia
theorem zhm {e:Edge}(hw:e.w<4):fac (fac e)=e:=by
 have h1:=zhk hw
 obtain⟨c,w⟩:=e
 have:fac (fac ⟨c,w⟩)=⟨gap (fac ⟨c,w⟩),((w+2) % 4+2) % 4⟩:=rfl
 rw[this,h1]
 simp only at hw ⊢
 congr 1
 lia
theorem zmJ (f:Int→Int→Int){es:List Edge}(h4:∀ e∈es,e.w<4):SS f (es.map fac)=- SS f es:=by
 unfold SS
 induction es with
 | nil=>rfl
 | cons e es ih =>
  have ih':=ih fun x hx=>h4 x (List.mem_cons_of_mem _ hx)
  have hw:=h4 e List.mem_cons_self
  have h1:sg (fac e)*f (xE (fac e)) (fac e).c.2=-(sg e*f (xE e) e.c.2):=by
   obtain⟨⟨x,y⟩,w⟩:=e
   simp only at hw
   rcases way4 hw with rfl | rfl | rfl | rfl <;> simp[fac,gap,go,mv,sg,xE]
   rw[show x+-1=x - 1 by lia]
  rw[List.map_cons,List.map_cons,List.sum_cons,List.map_cons,List.sum_cons,ih',h1]
  lia
theorem zks (h:Closed C b es) (hs:(es.map (tt C)).sum=-4) (hn:L.Nodup) (hL:∀ c,c∈L ↔ wd es c≠0):six es=(six0 L).map fun n=>0 - n:=by
 have h4:∀ e∈es,e.w<4:=fun e he=>(h.1.2.2.1 e he).1
 have ins:∀ e∈es,wd es e.c=0∧wd es (gap e)=-1:=by
  rcases h.inside with⟨s,_⟩ | ⟨_,k⟩
  ·lia
  ·exact k
 have d1:∀ c,isIn L c=true ↔ wd es c=-1:=fun c=>by
  unfold isIn
  rw[decide_eq_true_iff,hL]
  rcases wd_0m h hs c with z | z <;> rw[z] <;> simp
 have d0:∀ c,isIn L c=false ↔ wd es c=0:=fun c=>by
  unfold isIn
  rw[decide_eq_false_iff_not,hL]
  simp
 have nf:(es.map fac).Nodup:=by
  unfold List.Nodup
  rw[List.pairwise_map]
  refine h.1.2.2.2.imp_of_mem fun {a b} ha hb hab z=>hab ?_
  rw[← zhm (h4 a ha),z,zhm (h4 b hb)]
 have p:six (es.map fac)=six0 L:=by
  rw[← zdX hn]
  refine zdN ((List.perm_ext_iff_of_nodup nf (zdt hn)).mpr fun e=>?_)
  rw[zdd,List.mem_map]
  constructor
  ·rintro⟨e',he,rfl⟩
   refine⟨Nat.mod_lt _ (by decide),(d1 _).mpr (ins e' he).2,?_⟩
   rw[zhk (h4 e' he)]
   exact (d0 _).mpr (ins e' he).1
  ·rintro⟨hw,h1,h2⟩
   have k:=ze4 h e hw
   rw[(d1 _).mp h1,(d0 _).mp h2] at k
   refine⟨fac e,?_,zhm hw⟩
   unfold ind at k
   by_cases z:fac e∈es
   ·exact z
   ·rw[if_neg z] at k
    split at k <;> lia
 rw[← p]
 have hf:∀ f,SS f es=0 - SS f (es.map fac):=fun f=>by rw[zmJ f h4];lia
 unfold six
 simp only[List.map_cons,List.map_nil]
 rw[← hf,← hf,← hf,← hf,← hf,← hf]
theorem wd_bd (h:Closed C b es) (hB:∀ e∈es,Bd 118 e.c.1∧Bd 118 e.c.2){c:Cell}(hz:wd es c≠0):Bd 119 c.1∧Bd 119 c.2:=by
 obtain⟨e,he,f,hf,r1,r2,l1,l2,_,_⟩:=ziO h hz
 obtain⟨e1,e2⟩:=hB e he
 obtain⟨f1,f2⟩:=hB f hf
 refine⟨?_,by rw[← r1];exact e2.mono (by decide)⟩
 unfold Bd at *
 have hpw:(2:Nat) ^ 119=2*2 ^ 118:=by decide
 have h2:(1:Nat)≤2 ^ 118:=by decide
 unfold px at l1 l2
 rw[hpw]
 split at l1 <;> split at l2 <;> lia
end
open PySem L2 RP
theorem zi8 (a b:List Edge):six (a++b)=List.zipWith (·+·) (six a) (six b):=by
 unfold six
 simp only[zlw]
 rfl
theorem bd_of {k:Nat}{n:Int}(h:-(2 ^ k)<n∧n<2 ^ k):Bd k n:=by
 unfold Bd
 have e:((2 ^ k:Nat):Int)=2 ^ k:=by simp
 lia
def Near (es:List Edge):Prop:=∀ e∈es,Bd 119 e.c.1∧Bd 119 e.c.2
section
variable {P:Program}{w:World}{K:W.Frag}{mg:Str→Option Value}{base:Heap}
def zfd (K:W.Frag):Sp:=fun vs H Q _=>∃ (a:Addr) (us:List V) (R:List Rnd) (C:Cell→Bool) (ESS:List (List Edge)),vs=[.ref a]∧SqL K H a us∧VR us R rR H∧Al (fun r es=>Can C es r∧es.length≤480∧Near es) R ESS ∧
 ∀ q H',Same H H'→SqT K H' q ((six ESS.flatten).map V.int)→Q (.ref q) H'
theorem ziu (T:Txt P w K mg) (g_sums_within:Fn P w K mg base 7 "sums_within" ["one"] (zhB K)) (g_added:Fn P w K mg base 1 "added" ["sums","others"] (spTwo K (·+·))) (d:Df K mg "sums_of" zci ["some"]):FnOk P w K mg base CX0 8 d.f d.fd ["some"] (zfd K):=by
 refine d.F.ok zcO (fun vs H Q E h=>?_) (fun cdv A outer s H vs Q E hr h=>?_)
 ·obtain⟨a,us,R,C,ESS,rfl,_⟩:=h
  rfl
 ·obtain⟨a,us,R,C,ESS,rfl,hq,hv,hal,k⟩:=h
  obtain⟨MNS,hNS,hms⟩:=T.iNO_SUMS
  refine⟨_,(zad (zao (i:=1) zcO.nd (by rfl) (Or.inl rfl) (zcY (v:=.ref MNS) rfl hNS rfl))
   (zad (zbw PassesOwn.never rfl (zaJ (pv 0)) (zag (i:=2) zcO.nd (by rfl) (Or.inl rfl))
   (zaf (zao (i:=1) zcO.nd (by rfl) (Or.inl rfl) (zai g_added.ok (hr.mono (by decide)) (by rfl) g_added.m g_added.kp g_added.b .nil pass0 (pa_N (pv 1) (zaj (zai g_sums_within.ok (hr.mono (by decide)) (by rfl) g_sums_within.m g_sums_within.kp g_sums_within.b .nil pass0 (pa_N (pv 2) zac)) zac))))))
   (zaf (zan (pv 1))))),?_⟩
  refine⟨_,rfl,a,rfl,⟨_,hq⟩,?_⟩
  refine zaD (K:=K) (a:=a) (xs:=us) (fun i σ H2=>∃ q o2,σ=[some (.ref a),some (.ref q),o2]∧Same H H2∧SqT K H2 q ((six (ESS.take i).flatten).map V.int))
   ⟨MNS,_,rfl,Same.refl _,hms H⟩ (fun i σ H2 _ ⟨_,_,_,s2,_⟩=>s2.seq hq) ?_ ?_
  ·rintro i v σ H2 hi ⟨q,o2,rfl,s2,h2⟩
   obtain⟨r,hr',hx⟩:=hv.at hi
   have hil:i<ESS.length:=by rw[← hal.length];exact (List.getElem?_eq_some_iff.mp hr').1
   have ei:ESS[i]?=some ESS[i]:=List.getElem?_eq_getElem hil
   obtain⟨hc,hl,hB⟩:=hal.at ei hr'
   refine⟨_,rfl,_,rfl,v,r,C,ESS[i],rfl,hx.kt (KT.of s2),hc,hl,hB,fun p3 H3 s3 e3=>?_⟩
   refine⟨q,p3,_,_,rfl,s3.seqT h2,SqT.of e3,rfl,by rw[zgZ];decide,fun p4 H4 hp4 s4 e4=>?_⟩
   refine⟨p4,_,rfl,s2.trans (s3.trans s4),?_⟩
   rw[zaE ei,List.flatten_append,show [ESS[i]].flatten=ESS[i] by simp,zi8]
   exact SqT.of e4
  ·rintro σ H2 ⟨q,o2,rfl,s2,h2⟩
   rw[show us.length=ESS.length by rw[hv.1,hal.length],List.take_length] at h2
   exact⟨_,rfl,k q H2 s2 h2⟩
end
open PySem L2 RP
def zmL (H:Hp) (p:Addr) (t:Int):Prop:=∃ c:Int,H p=some (.lst [.int c,.int t])∧0≤t∧t<2 ^ 40
theorem cpow {i j:Int}(h:0≤j∧j≤1000000∧i.natAbs<2 ^ 64):CPow i j:=h
section
variable {P:Program}{w:World}{K:W.Frag}{mg:Str→Option Value}{base:Heap}
def zhI (K:W.Frag):Sp:=fun vs H Q _=>∃ (a:Addr) (ns:List Int) (k:Nat),vs=[.ref a,.int k]∧SqL K H a (ns.map V.int)∧∀ n,Q (.int n) H
theorem zet (T:Txt P w K mg) (d:Df K mg "_law_cell_at" za1 ["_law_script","_law_k"]):FnOk P w K mg base CX0 1 d.f d.fd ["_law_script","_law_k"] (zhI K):=by
 refine d.F.ok zd1 (fun vs H Q E h=>?_) (fun cdv A outer s H vs Q E hr h=>?_)
 ·obtain⟨a,ns,k,rfl,_⟩:=h
  rfl
 ·obtain⟨a,ns,i,rfl,hq,k⟩:=h
  refine⟨_,(zad (ps_if (zaz op_lt (pv 1) (zaK zbT (by rfl) T.nlen (by rfl) (pa_N (pv 0) zac)) (zaw _))
   (zaf (zan (pe_ix za2 (pv 0) (pv 1) (fun _ _=>rfl))))
   zaH)
   (zaf (zan zae))),?_⟩
  refine⟨_,rfl,_,rfl,a,_,rfl,.inl hq,_,_,rfl,rfl,_,rfl,?_⟩
  refine ite2 (fun hy=>?_) (fun hn=>k 0)
  have hlt:i<ns.length:=by
   have:=of_decide_eq_true hy
   rw[List.length_map] at this
   lia
  exact⟨_,rfl,_,rfl,a,_,_,_,rfl,rfl,hq,zap (v:=.int ns[i]) (by simp[hlt]),k _⟩
def zlb:Sp:=fun vs H Q _=>∃ (p:Addr) (t b:Int),vs=[.ref p,.int b]∧zmL H p t∧0<b∧b.natAbs.log2<9000∧∀ (n c:Int),0≤n→n<b→Q (.int n) (upd H p (.lst [.int c,.int (t+1)]))
theorem zhb (T:Txt P w K mg) (d:Df K mg "_law_take" zbI ["_law_pen","_law_base"]):FnOk P w K mg base CX0 1 d.f d.fd ["_law_pen","_law_base"] zlb:=by
 refine d.F.ok zb6 (fun vs H Q E h=>?_) (fun cdv A outer s H vs Q E hr h=>?_)
 ·obtain⟨p,t,b,rfl,_⟩:=h
  rfl
 ·obtain⟨p,t,b,rfl,⟨c,hp,ht0,ht1⟩,hb,hlog,k⟩:=h
  refine⟨_,(zad (zcb (pe_op zaG (pe_ix za2 (pv 0) zae (fun _ _=>rfl)) zae) (zhN (pv 0) zae zdO))
   (zad (ps_if (zaz op_ge (zaK zie (by rfl) T.nabs (by rfl) (zaj (pe_ix za2 (pv 0) zae (fun _ _=>rfl)) zac)) (pe_op zgh zae zae) (zaw _))
   (zad (zao (i:=2) zb6.nd (by rfl) (Or.inl rfl) (pe_op zbS (zaK zie (by rfl) T.nabs (by rfl) (zaj (pe_ix za2 (pv 0) zae (fun _ _=>rfl)) zac)) (pe_op zgh zae zae)))
   (zad (zcb (pe_op zaG (pe_op zgh zae zae) (pe_op zhR (pv 2) (pv 1))) (zhN (pv 0) zae zdO))
   (zaf (zan (pe_op zb7 (pv 2) (pv 1))))))
   zaH)
   (zad (zao (i:=3) zb6.nd (by rfl) (Or.inl rfl) (pe_op zaG (pe_op zcU (pe_op zb7 (pe_ix za2 (pv 0) zae (fun _ _=>rfl)) zae) zae) (pe_op zcU (pe_op zcU zae (pe_ix za2 (pv 0) zae (fun _ _=>rfl))) (pe_ix za2 (pv 0) zae (fun _ _=>rfl)))))
   (zad (zao (i:=3) zb6.nd (by rfl) (Or.inl rfl) (pe_op zb7 (pe_op zaG (pe_op zaG (pv 3) (pe_op zcU zae (pe_ix za2 (pv 0) zae (fun _ _=>rfl)))) zae) zae))
   (zad (zao (i:=3) zb6.nd (by rfl) (Or.inl rfl) (pe_op zb7 (pe_op zaG (pe_op zaG (pe_op zcU (pv 3) (pv 3)) (pe_op zcU zae (pv 3))) (pe_ix za2 (pv 0) zae (fun _ _=>rfl))) zae))
   (zaf (zan (pe_op zb7 (pe_op zfq (pv 3) zae) (pv 1))))))))),?_⟩
  refine⟨_,rfl,p,_,_,_,rfl,rfl,SqL.of hp,zap (j:=1) rfl,_,_,rfl,rfl,_,rfl,p,_,_,1,rfl,rfl,hp,rfl,?_⟩
  have h1:upd H p (.lst [.int c,.int (t+1)]) p=some (.lst [.int c,.int (t+1)]):=zaa
  have hmod:∀ z:Int,0≤z % b∧z % b<b:=fun z=>⟨Int.emod_nonneg _ (by lia),Int.emod_lt_of_pos _ hb⟩
  refine⟨_,rfl,p,_,_,_,rfl,rfl,SqL.of h1,zap (j:=0) rfl,c,rfl,_,_,rfl,rfl,(by refine cpow ?_;decide),_,_,rfl,rfl,_,rfl,?_⟩
  refine ite2 (fun _=>?_) (fun _=>?_)
  ·refine⟨_,rfl,p,_,_,_,rfl,rfl,SqL.of h1,zap (j:=0) rfl,c,rfl,_,_,rfl,rfl,(by refine cpow ?_;decide),_,_,rfl,rfl,?_⟩
   refine⟨_,_,rfl,rfl,(by refine cpow ?_;decide),_,rfl,_,rfl,_,_,rfl,rfl,⟨hb,hlog⟩,_,_,rfl,rfl,_,rfl,p,_,_,0,rfl,rfl,h1,rfl,?_⟩
   refine⟨_,rfl,_,rfl,_,_,rfl,rfl,hb,?_⟩
   rw[ziR]
   exact k _ _ (hmod _).1 (hmod _).2
  ·refine⟨_, rfl, p, _, _, _, rfl, rfl, SqL.of h1, zap (j := 0) rfl, _, _, rfl, rfl, (by show (0 : Int) < 2147483647; decide), _, _, rfl, rfl, .inr ⟨by decide, by decide⟩,
    _,rfl,p,_,_,_,rfl,rfl,SqL.of h1,zap (j:=1) rfl,_,_,rfl,rfl,.inl ⟨by decide,by decide⟩,_,rfl,p,_,_,_,rfl,rfl,SqL.of h1,zap (j:=1) rfl,_,_,rfl,rfl,.inr ⟨by lia,by lia⟩,_,_,rfl,rfl,?_⟩
   refine⟨_,rfl,_,rfl,p,_,_,_,rfl,rfl,SqL.of h1,zap (j:=1) rfl,_,_,rfl,rfl,.inl ⟨by decide,by decide⟩,_,_,rfl,rfl,_,_,rfl,rfl,_,_,rfl,rfl,(by show (0:Int)<2147483629;decide),?_⟩
   refine⟨_,rfl,_,rfl,_,_,rfl,rfl,.inl ⟨Int.lt_of_lt_of_le (show (-(2 ^ 64):Int)<0 by decide) (Int.emod_nonneg _ (by decide)),Int.lt_trans (Int.emod_lt_of_pos _ (by decide)) (by decide)⟩,_,rfl,_,_,rfl,rfl,.inl ⟨by decide,by decide⟩,_,_,rfl,rfl,
    _,rfl,p,_,_,_,rfl,rfl,SqL.of h1,zap (j:=1) rfl,_,_,rfl,rfl,_,_,rfl,rfl,(by show (0:Int)<2147483587;decide),?_⟩
   refine⟨_,rfl,_,_,rfl,rfl,⟨by decide,by decide⟩,_,rfl,_,_,rfl,rfl,hb,?_⟩
   exact k _ _ (hmod _).1 (hmod _).2
end
open PySem L2 RP
def HasB (H:Hp) (p:Addr) (n:Nat):Prop:=∃ c t:Int,H p=some (.lst [.int c,.int t])∧0≤t∧t+n<2 ^ 40
theorem HasB.le {H:Hp}{p:Addr}{n m:Nat}(h:HasB H p n) (hm:m≤n):HasB H p m:=let ⟨c,t,e,a,b⟩:=h;⟨c,t,e,a,by lia⟩
theorem HasB.same {H H':Hp}{p:Addr}{n:Nat}(h:HasB H p n) (s:Same H H'):HasB H' p n:=let ⟨c,t,e,a,b⟩:=h;⟨c,t,s _ _ e,a,b⟩
def But (H H':Hp) (p:Addr):Prop:=∀ z o,z≠p→H z=some o→H' z=some o
theorem But.refl (H:Hp) (p:Addr):But H H p:=fun _ _ _ h=>h
theorem But.trans {H H1 H2:Hp}{p:Addr}(a:But H H1 p) (b:But H1 H2 p):But H H2 p:=fun z o hz h=>b z o hz (a z o hz h)
theorem But.of {H H1:Hp}{p:Addr}(a:Same H H1):But H H1 p:=fun z o _ h=>a z o h
theorem But.free {H H1:Hp}{p q:Addr}{n:Nat}(a:But H H1 p) (h:HasB H p n) (hq:H1 q=none) (hp:HasB H1 p 0):H q=none:=by
 obtain⟨c,t,e,_⟩:=hp
 have hne:q≠p:=fun z=>by subst z;rw[e] at hq;cases hq
 cases x:H q with
 | none=>rfl
 | some o=>rw[a q o hne x] at hq;cases hq
theorem But.kt {H H1:Hp}{p:Addr}{n:Nat}(a:But H H1 p) (h:HasB H p n):KT H H1:=fun b xs e=>by
 obtain⟨c,t,ep,_⟩:=h
 exact a b _ (ne_of e ep (fun z=>nomatch z)) e
theorem zkq {A:Prop}{D:Int→Hp→Prop}(C:Int→Hp→Prop) (g:(∀ n H1,D n H1→C n H1)→A) (h:∀ n H1,D n H1→C n H1):A:=g h
theorem zbB {b:Int}(h0:0<b) (h:b≤1000):b.natAbs.log2<9000:=by
 refine (Nat.log2_lt (by lia)).mpr (Nat.lt_of_lt_of_le (show b.natAbs<2 ^ 10 by lia) (Nat.pow_le_pow_right (by decide) (by decide)))
section
variable {P:Program}{w:World}{K:W.Frag}{mg:Str→Option Value}{base:Heap}
def spTk:Sp:=fun vs H Q _=>∃ (p:Addr) (n:Nat) (b:Int),vs=[.ref p,.int b]∧HasB H p (n+1)∧0<b∧b.natAbs.log2<9000∧∀ (r:Int) (H':Hp),0≤r→r<b→But H H' p→HasB H' p n→Q (.int r) H'
theorem tk_of {f:Addr}{fd:FuncData}(h:FnOk P w K mg base CX0 1 f fd ["_law_pen","_law_base"] zlb):FnOk P w K mg base CX0 1 f fd ["_law_pen","_law_base"] spTk:=by
 refine h.imp fun vs H Q E h=>?_
 obtain⟨p,n,b,rfl,⟨c,t,e,h0,h1⟩,hb,hl,k⟩:=h
 refine⟨p,t,b,rfl,⟨c,e,h0,by lia⟩,hb,hl,fun r c' h2 h3=>k r _ h2 h3 (fun z o hz h=>by rw[zam hz];exact h) ⟨c',t+1,zaa,by lia,by lia⟩⟩
abbrev Tk (P:Program) (w:World) (K:W.Frag) (mg:Str→Option Value) (base:Heap):=Fn P w K mg base 1 "_law_take" ["_law_pen","_law_base"] spTk
def spFar:Sp:=fun vs H Q _=>∃ (p:Addr) (n:Nat),vs=[.ref p]∧HasB H p (n+3)∧∀ (r:Int) (H':Hp),-(2 ^ 104)<r∧r<2 ^ 104→But H H' p→HasB H' p n→Q (.int r) H'
theorem atI3 {a b c:V}{n:Int}(h0:0≤n) (h3:n<3):∃ v,atI [a,b,c] n=some v∧(v=a∨v=b∨v=c):=by
 have:n=0∨n=1∨n=2:=by lia
 rcases this with rfl | rfl | rfl
 ·exact⟨a,rfl,.inl rfl⟩
 ·exact⟨b,rfl,.inr (.inl rfl)⟩
 ·exact⟨c,rfl,.inr (.inr rfl)⟩
theorem zix (g__law_take:Tk P w K mg base) (d:Df K mg "_law_far" zb2 ["_law_pen"]):FnOk P w K mg base CX0 2 d.f d.fd ["_law_pen"] spFar:=by
 refine d.F.ok zd0 (fun vs H Q E h=>?_) (fun cdv A outer s H vs Q E hr h=>?_)
 ·obtain⟨p,n,rfl,_⟩:=h
  rfl
 ·obtain⟨p,n,rfl,hp,k⟩:=h
  refine⟨_,(zad (zao (i:=1) zd0.nd (by rfl) (Or.inl rfl) (zai g__law_take.ok (hr.mono (by decide)) (by rfl) g__law_take.m g__law_take.kp g__law_take.b .nil pass0 (pa_N (pv 0) (pa_C zae zac))))
   (zad (ps_if (zaz op_lt (pv 1) zae (zaw _))
   (zaf (zan (pe_ix za2 (zbm (pa_C zae (pa_B (pe_op zbS (zai g__law_take.ok (hr.mono (by decide)) (by rfl) g__law_take.m g__law_take.kp g__law_take.b .nil pass0 (pa_N (pv 0) (pa_C zae zac))) zae) (pa_B (pe_op zbS (zai g__law_take.ok (hr.mono (by decide)) (by rfl) g__law_take.m g__law_take.kp g__law_take.b .nil pass0 (pa_N (pv 0) (pa_C zae zac))) zae) zac)))) (pv 1) (fun _ _=>rfl))))
   zaH)
   (zaf (zan (pe_op zaG (pe_op zbS (zai g__law_take.ok (hr.mono (by decide)) (by rfl) g__law_take.m g__law_take.kp g__law_take.b .nil pass0 (pa_N (pv 0) (pa_B (pe_op zbS (pe_op zcU zae (pe_op zgh zae zae)) zae) zac))) (pe_op zgh zae zae)) zae))))),?_⟩
  refine⟨_,rfl,p,n+2,4,rfl,hp,by decide,zbB (by decide) (by decide),fun r H1 h0 h4 b1 p1=>?_⟩
  refine⟨_,rfl,_,_,rfl,rfl,_,rfl,?_⟩
  refine ite2 (fun hy=>?_) (fun hn=>?_)
  ·have h3:r<3:=of_decide_eq_true hy
   refine⟨_,rfl,p,n+1,41,rfl,p1,by decide,zbB (by decide) (by decide),fun r2 H2 x1 x2 b2 p2=>⟨_,_,rfl,rfl,?_⟩⟩
   refine⟨_,rfl,p,n,2000001,rfl,p2,by decide,by decide +kernel,fun r3 H3 y1 y2 b3 p3=>⟨_,_,rfl,rfl,three,fun l hl=>?_⟩⟩
   obtain⟨v,hv,hor⟩:=atI3 (a:=.int 0) (b:=.int (r2 - 20)) (c:=.int (r3 - 1000000)) h0 h3
   refine⟨_,rfl,l,_,_,v,rfl,rfl,SqL.of zaa,hv,?_⟩
   have fin:∀ z:Int,-(2 ^ 104)<z∧z<2 ^ 104→Q (.int z) (upd H3 l (.lst [.int 0,.int (r2 - 20),.int (r3 - 1000000)])):=fun z hz=>k z _ hz ((b1.trans (b2.trans b3)).trans (But.of (Same.up hl))) (p3.same (Same.up hl))
   rcases hor with z | z | z <;> rw[z] <;> exact fin _ (by lia)
  ·refine⟨_,rfl,_,_,rfl,rfl,(by refine cpow ?_;decide),_,_,rfl,rfl,.inl ⟨by decide,by decide⟩,_,_,rfl,rfl,p,n+1,_,rfl,p1,(by decide),(by decide +kernel),fun r2 H2 x1 x2 b2 p2=>?_⟩
   refine⟨_,_,rfl,rfl,(by refine cpow ?_;decide),_,_,rfl,rfl,_,_,rfl,rfl,?_⟩
   refine k _ _ ?_ (b1.trans b2) (p2.le (by lia))
   have x2':r2<2*10 ^ 30 - 799:=x2
   show -(2 ^ 104)<r2 - 10 ^ 30+400∧r2 - 10 ^ 30+400<2 ^ 104
   lia
def zi1:Sp:=fun vs H Q _=>∃ (p:Addr) (n:Nat) (way x y wd hg:Int),vs=[.ref p,.int way,.int x,.int y,.int wd,.int hg]∧0≤way∧HasB H p (n+1)∧∀ (b:Bool) (H':Hp),But H H' p→HasB H' p n→Q (.bl b) H'
theorem zd7 (T : Txt P w K mg) (g__law_take : Tk P w K mg base) (d : Df K mg "_law_is_there" zaQ ["_law_pen", "_law_way", "_law_x", "_law_y", "_law_wide", "_law_high"]) :
  FnOk P w K mg base CX0 2 d.f d.fd ["_law_pen","_law_way","_law_x","_law_y","_law_wide","_law_high"] zi1:=by
 refine d.F.ok zdI (fun vs H Q E h=>?_) (fun cdv A outer s H vs Q E hr h=>?_)
 ·obtain⟨p,n,way,x,y,wd,hg,rfl,_⟩:=h
  rfl
 ·obtain⟨p,n,way,x,y,wd,hg,rfl,hw,hp,k⟩:=h
  refine⟨_,(zad (ps_if (zaz op_eq (pv 1) zae (zaw _))
   (zaf (zan pe_bl))
   zaH)
   (zad (ps_if (zaz op_lt (pv 1) zae (zaw _))
   (zaf (zan (zca op_lt (zai g__law_take.ok (hr.mono (by decide)) (by rfl) g__law_take.m g__law_take.kp g__law_take.b .nil pass0 (pa_N (pv 0) (zaj (pe_ix za2 (zbm (pa_C zae (pa_C zae (pa_C zae zac)))) (pe_op zbS (pv 1) zae) (fun _ _=>rfl)) zac))) (pe_ix za2 (zbm (pa_C zae (pa_C zae (pa_C zae zac)))) (pe_op zbS (pv 1) zae) (fun _ _=>rfl)) (zaw _))))
   zaH)
   (zad (ps_if (zaz op_eq (pv 1) zae (zaw _))
   (zaf (zan (zca op_eq (pe_op zb7 (zaK (zj3 rfl) (by rfl) T.nmin (by rfl) (pa_N (pv 2) (pa_N (pv 3) (pa_B (pe_op zbS (pe_op zbS (pv 4) zae) (pv 2)) (pa_B (pe_op zbS (pe_op zbS (pv 5) zae) (pv 3)) zac))))) zae) zae (zaw _))))
   zaH)
   (zaf (zan (pe_or (zca op_eq (pe_op zb7 (pe_op zaG (pv 2) (pv 3)) zae) zae (zaw _)) (zhP (zca op_eq (zai g__law_take.ok (hr.mono (by decide)) (by rfl) g__law_take.m g__law_take.kp g__law_take.b .nil pass0 (pa_N (pv 0) (pa_C zae zac))) zae (zaw _))))))))),?_⟩
  have fin:∀ b,Q (.bl b) H:=fun b=>k b H (But.refl _ _) (hp.le (by lia))
  refine⟨_,rfl,rfl,_,rfl,?_⟩
  refine ite2 (fun _=>fin _) (fun hn0=>?_)
  refine⟨_,rfl,_,_,rfl,rfl,_,rfl,?_⟩
  refine ite2 (fun hy=>?_) (fun _=>?_)
  ·have h4:way<4:=of_decide_eq_true hy
   have hne:way≠0:=fun z=>hn0 (by rw[z];rfl)
   refine⟨_,rfl,three,fun l hl=>?_⟩
   obtain⟨v,hv,hor⟩:=atI3 (a:=V.int 2) (b:=V.int 5) (c:=V.int 4) (n:=way - 1) (by lia) (by lia)
   obtain⟨bb,rfl,hb0,hb1⟩:∃ bb:Int,v=.int bb∧0<bb∧bb≤1000:=by
    rcases hor with z | z | z
    ·exact⟨2,z,by decide,by decide⟩
    ·exact⟨5,z,by decide,by decide⟩
    ·exact⟨4,z,by decide,by decide⟩
   refine⟨_,rfl,_,_,rfl,rfl,l,_,_,_,rfl,rfl,SqL.of zaa,hv,p,n,bb,rfl,hp.same (Same.up hl),hb0,zbB hb0 hb1,fun r H1 _ _ b1 p1=>?_⟩
   refine⟨three,fun l2 hl2=>?_⟩
   obtain⟨v2,hv2,hor2⟩:=atI3 (a:=V.int 1) (b:=V.int 4) (c:=V.int 1) (n:=way - 1) (by lia) (by lia)
   obtain⟨b2,rfl⟩:∃ bb:Int,v2=.int bb:=by
    rcases hor2 with z | z | z
    ·exact⟨1,z⟩
    ·exact⟨4,z⟩
    ·exact⟨1,z⟩
   refine⟨_,rfl,_,_,rfl,rfl,l2,_,_,_,rfl,rfl,SqL.of zaa,hv2,_,_,rfl,rfl,?_⟩
   exact k _ _ (((But.of (Same.up hl)).trans b1).trans (But.of (Same.up hl2))) (p1.same (Same.up hl2))
  ·refine⟨_,rfl,rfl,_,rfl,?_⟩
   refine ite2 (fun _=>?_) (fun _=>?_)
   ·refine⟨_,rfl,_,rfl,_,rfl,_,_,rfl,rfl,_,rfl,_,_,rfl,rfl,_,rfl,_,_,rfl,rfl,_,rfl,_,_,rfl,rfl,_,_,_,_,rfl,fun z=>⟨_,_,rfl,rfl,(by show (0:Int)<2;decide),rfl,fin _⟩⟩
   ·refine⟨_,rfl,_,rfl,_,_,rfl,rfl,_,_,rfl,rfl,(by show (0:Int)<2;decide),rfl,_,rfl,?_⟩
    refine ite2 (fun _=>fin _) (fun _=>?_)
    refine⟨_,rfl,p,n,6,rfl,hp,by decide,zbB (by decide) (by decide),fun r H1 _ _ b1 p1=>⟨rfl,k _ _ b1 p1⟩⟩
end
open PySem L2 RP
def Bef (cs:List Cell) (x y:Int):Prop:=∀ c∈cs,c.2<y∨(c.2=y∧c.1<x)
theorem InOrd.snoc {cs:List Cell}{x y:Int}(h:InOrd cs) (b:Bef cs x y):InOrd (cs++[(x,y)]):=fun i c e h1 h2=>by
 have hi:i+1<(cs++[(x,y)]).length:=(List.getElem?_eq_some_iff.mp h2).1
 rw[List.length_append,List.length_singleton] at hi
 rw[List.getElem?_append_left (by lia)] at h1
 rcases Nat.lt_or_ge (i+1) cs.length with hl | hl
 ·rw[List.getElem?_append_left hl] at h2
  exact h i c e h1 h2
 ·rw[List.getElem?_append_right hl,show i+1 - cs.length=0 by lia] at h2
  cases h2
  have hb:=b c (List.mem_of_getElem? h1)
  rw[HT.lexLt_cons]
  rcases hb with z | ⟨z1,z2⟩
  ·rw[if_neg (by lia)];exact decide_eq_true z
  ·rw[if_pos z1,HT.lexLt_cons,if_neg (by lia)];exact decide_eq_true z2
section
variable {P:Program}{w:World}{K:W.Frag}{mg:Str→Option Value}{base:Heap}
def CellB (c:Cell):Prop:=(-(2 ^ 105)<c.1∧c.1<2 ^ 105)∧-(2 ^ 105)<c.2∧c.2<2 ^ 105
def zf0 (K:W.Frag):Sp:=fun vs H Q _=>∃ (p:Addr) (n m:Nat),vs=[.ref p,.int m]∧HasB H p (n+(20+m))∧1≤m∧m≤200 ∧
 ∀ (a:Addr) (cs:List Cell) (H':Hp),H a=none→But H H' p→HasB H' p n→LR K H' a cs cR→InOrd cs→Boxed m cs→cs.length≤m→(∀ c∈cs,CellB c)→Q (.ref a) H'
theorem zes (T : Txt P w K mg) (g__law_take : Tk P w K mg base) (g__law_far : Fn P w K mg base 2 "_law_far" ["_law_pen"] spFar)
    (g__law_is_there:Fn P w K mg base 2 "_law_is_there" ["_law_pen","_law_way","_law_x","_law_y","_law_wide","_law_high"] zi1) (d:Df K mg "_law_picture" za0 ["_law_pen","_law_most"]) :
    FnOk P w K mg base CX0 3 d.f d.fd ["_law_pen","_law_most"] (zf0 K):=by
  refine d.F.ok zaB (fun vs H Q E h=>?_) (fun cdv A outer s H vs Q E hr h=>?_)
  · obtain⟨p,n,m,rfl,_⟩:=h
    rfl
  · obtain⟨p,n,m,rfl,hp,hm1,hm,k⟩:=h
    refine⟨_,(zad (zao (i:=2) zaB.nd (by rfl) (Or.inl rfl) (pe_op zaG zae (zai g__law_take.ok (hr.mono (by decide)) (by rfl) g__law_take.m g__law_take.kp g__law_take.b .nil pass0 (pa_N (pv 0) (zaj (zfn (zaz op_gt (pv 1) zae (zaw _)) (pe_ix za2 (zbm (pa_C zae (pa_N (pv 1) zac))) (zbx zel (by rfl) T.nint (by rfl) (zaj (zca op_eq (zai g__law_take.ok (hr.mono (by decide)) (by rfl) g__law_take.m g__law_take.kp g__law_take.b .nil pass0 (pa_N (pv 0) (pa_C zae zac))) zae (zaw _)) zac)) (fun _ _=>rfl)) (pv 1)) zac)))))
      (zad (zao (i:=3) zaB.nd (by rfl) (Or.inl rfl) (pe_op zaG zae (zai g__law_take.ok (hr.mono (by decide)) (by rfl) g__law_take.m g__law_take.kp g__law_take.b .nil pass0 (pa_N (pv 0) (pa_B (pe_op zhR (pv 1) (pv 2)) zac)))))
      (zad (zao (i:=4) zaB.nd (by rfl) (Or.inl rfl) (zai g__law_take.ok (hr.mono (by decide)) (by rfl) g__law_take.m g__law_take.kp g__law_take.b .nil pass0 (pa_N (pv 0) (pa_C zae zac))))
      (zad (zao (i:=5) zaB.nd (by rfl) (Or.inl rfl) (zai g__law_far.ok (hr.mono (by decide)) (by rfl) g__law_far.m g__law_far.kp g__law_far.b .nil pass0 (pa_N (pv 0) zac)))
      (zad (zao (i:=6) zaB.nd (by rfl) (Or.inl rfl) (zai g__law_far.ok (hr.mono (by decide)) (by rfl) g__law_far.m g__law_far.kp g__law_far.b .nil pass0 (pa_N (pv 0) zac)))
      (zad (zao (i:=7) zaB.nd (by rfl) (Or.inl rfl) (zbm zac))
      (zad (zbw PassesOwn.never rfl (zda (by rfl) T.nrange (pa_N (pv 3) zac)) (zag (i:=8) zaB.nd (by rfl) (Or.inl rfl))
      (zaf (zbw PassesOwn.never rfl (zda (by rfl) T.nrange (pa_N (pv 2) zac)) (zag (i:=9) zaB.nd (by rfl) (Or.inl rfl))
      (zaf (ps_if (zdx (zai g__law_is_there.ok (hr.mono (by decide)) (by rfl) g__law_is_there.m g__law_is_there.kp g__law_is_there.b .nil pass0 (pa_N (pv 0) (pa_N (pv 4) (pa_N (pv 9) (pa_N (pv 8) (pa_N (pv 2) (pa_N (pv 3) zac))))))))
      (zaf (zco (pe_bm PySem.F.plainAttrs_list PySem.F.slot_list_append PySem.F.type_list_append zbX (pv 7) (pa_T (zaI (pa_B (pe_op zaG (pv 9) (pv 5)) (pa_B (pe_op zaG (pv 8) (pv 6)) zac))) zac))))
      zaH)))))
      (zaf (zan (pv 7)))))))))),?_⟩
    refine zkq (D:=fun r H1=>0≤r∧r<m∧But H H1 p∧HasB H1 p (n+(18+m))) ?C (fun share=>?g) ?h
    case g =>
      refine⟨_,rfl,_,rfl,_,_,rfl,rfl,_,rfl,?_⟩
      refine ite2 (fun hy=>?_) (fun hn=>?_)
      · have h12:(12:Int)<m:=of_decide_eq_true hy
        refine⟨_,rfl,two,fun l hl=>?_⟩
        refine⟨_,rfl,p,n+(19+m),4,rfl,(hp.same (Same.up hl)).le (by lia),by decide,zbB (by decide) (by decide),fun r H1 _ _ b1 p1=>?_⟩
        refine⟨rfl,.inr ⟨_,rfl,?_⟩⟩
        obtain⟨c0,t0,e0,_⟩:=hp
        have hlp:l≠p:=fun z=>by subst z;rw[e0] at hl;cases hl
        have l1:H1 l=some (.lst [.int 12,.int m]):=b1 _ _ hlp zaa
        obtain⟨v,hv,bb,rfl,hb0,hb1⟩:∃ v,atI [V.int 12,V.int (m:Int)] (if decide (V.int r=V.int 0)=true then 1 else 0)=some v∧∃ bb:Int,v=.int bb∧0<bb∧bb≤m:=by
          by_cases hz:decide (V.int r=V.int 0)=true
          · rw[if_pos hz];exact⟨_,rfl,m,rfl,by lia,by lia⟩
          · rw[if_neg hz];exact⟨_,rfl,12,rfl,by decide,by lia⟩
        refine⟨l,_,_,_,rfl,rfl,SqL.of l1,hv,p,n+(18+m),bb,rfl,p1.le (by lia),hb0,zbB hb0 (by lia),fun r2 H2 h0 h2 b2 p2=>?_⟩
        exact share r2 H2 ⟨h0,by lia,((But.of (Same.up hl)).trans b1).trans b2,p2⟩
      · refine⟨_,rfl,p,n+(18+m),m,rfl,hp.le (by lia),by lia,zbB (by lia) (by lia),fun r2 H2 h0 h2 b2 p2=>?_⟩
        exact share r2 H2 ⟨h0,h2,b2,p2⟩
    case h =>
      rintro r H1 ⟨h0,hrm,b1,p1⟩
      refine⟨_,_,rfl,rfl,?_⟩
      have hwd:0<1+r:=by lia
      obtain⟨W,hW⟩:∃ W:Nat,(1+r:Int)=W:=⟨(1+r).toNat,by lia⟩
      have hq1:1≤(m:Int) / (1+r):=Int.le_ediv_of_mul_le hwd (by lia)
      have hq2:(m:Int) / (1+r)≤m:=Int.ediv_le_self _ (by lia)
      have hq3:(1+r)*((m:Int) / (1+r))≤m:=Int.mul_ediv_self_le (by lia)
      refine⟨_,rfl,_,rfl,_,rfl,_,_,rfl,rfl,⟨hwd,zbB hwd (by lia)⟩,p,n+(17+m),_,rfl,p1.le (by lia),by lia,zbB (by lia) (by lia),fun r2 H2 h20 h2 b2 p2=>⟨_,_,rfl,rfl,?_⟩⟩
      obtain⟨G,hG⟩:∃ G:Nat,(1+r2:Int)=G:=⟨(1+r2).toNat,by lia⟩
      have hWG:W*G≤m:=by
        have h1:(1+r)*(1+r2)≤(1+r)*((m:Int) / (1+r)):=Int.mul_le_mul_of_nonneg_left (by lia) (by lia)
        rw[hW,hG] at h1
        rw[hW] at hq3
        have h2:((W*G:Nat):Int)≤m:=by
          rw[Int.natCast_mul];lia
        lia
      refine⟨_,rfl,p,n+(16+m),6,rfl,p2.le (by lia),by decide,zbB (by decide) (by decide),fun r3 H3 h30 _ b3 p3=>?_⟩
      refine⟨_,rfl,p,n+(13+m),rfl,p3.le (by lia),fun dx H4 fx b4 p4=>?_⟩
      refine⟨_,rfl,p,n+(10+m),rfl,p4.le (by lia),fun dy H5 fy b5 p5=>?_⟩
      refine⟨(by show 0≤sizeLine;decide),fun q hq=>?_⟩
      have b05:But H H5 p:=b1.trans (b2.trans (b3.trans (b4.trans b5)))
      have hq0:H q=none:=b05.free hp hq (p5.le (by lia))
      have hqp:q≠p:=fun z=>by
        obtain⟨c0,t0,e0,_⟩:=hp
        subst z;rw[e0] at hq0;cases hq0
      refine⟨_,rfl,1+r2,rfl,by lia,by lia,?_⟩
      have hGn:(1+r2:Int).toNat=G:=by lia
      have hWn:(1+r:Int).toNat=W:=by lia
      rw[hGn]
      refine zcm (lo := 0) (n := G) (fun i σ H6 => ∃ o8 o9 cs vs, σ = [some (.ref p), some (.int m), some (.int (1 + r)), some (.int (1 + r2)), some (.int r3), some (.int dx), some (.int dy), some (.ref q), o8, o9] ∧ But H H6 p ∧ HasB H6 p (n + (m - W * i)) ∧
          H6 q=some (.lst vs)∧VR vs cs cR H6∧InOrd cs∧(cs.length≤W*i∧(∀ c∈cs,dx≤c.1∧c.1<dx+W∧dy≤c.2))∧Bef cs dx (dy+i))
        ⟨_,_,[],[],rfl,b05.trans (But.of (Same.up hq)),(p5.same (Same.up hq)).le (by lia),zaa,VR.nil,(fun i c e h=>by simp at h),⟨Nat.zero_le _,fun c hc=>by cases hc⟩,(fun c hc=>by cases hc)⟩ ?_ ?_
      · rintro i σ H6 hi ⟨o8,o9,cs,vs,rfl,b6,p6,q6,hv,ho,hl,hbf⟩
        have hWi:W*i+W≤W*G:=by rw[← Nat.mul_succ];exact Nat.mul_le_mul_left _ hi
        refine⟨_,rfl,1+r,rfl,by lia,by lia,?_⟩
        rw[hWn]
        refine zcm (lo := 0) (n := W) (fun j σ H7 => ∃ o9 cs vs, σ = [some (.ref p), some (.int m), some (.int (1 + r)), some (.int (1 + r2)), some (.int r3), some (.int dx), some (.int dy), some (.ref q), some (.int (0 + (i : Int))), o9] ∧ But H H7 p ∧ HasB H7 p (n + (m - (W * i + j))) ∧
            H7 q=some (.lst vs)∧VR vs cs cR H7∧InOrd cs∧(cs.length≤W*i+j∧(∀ c∈cs,dx≤c.1∧c.1<dx+W∧dy≤c.2))∧Bef cs (dx+j) (dy+i))
          ⟨_,cs,vs,rfl,b6,p6,q6,hv,ho,hl,by simpa using hbf⟩ ?_ ?_
        · rintro j σ H7 hj ⟨o9,cs,vs,rfl,b7,p7,q7,hv,ho,⟨hl,hbox⟩,hbf⟩
          refine⟨_,rfl,_,rfl,_,rfl,_,rfl,_,rfl,_,rfl,p,n+(m - (W*i+j+1)),_,_,_,_,_,rfl,h30,p7.le (by lia),fun b H8 b8 p8=>⟨_,rfl,?_⟩⟩
          have q8:=b8 _ _ hqp q7
          have kt8:=b8.kt p7
          refine ite2 (fun _=>?_) (fun _=>?_)
          · have hvl:vs.length≤1000:=by rw[hv.1];lia
            refine⟨_,rfl,.inl ⟨rfl,_,SqL.of q8⟩,_,rfl,_,rfl,_,_,rfl,rfl,_,rfl,_,rfl,_,_,rfl,rfl,two,fun a ha=>?_⟩
            have haq:q≠a:=zaq q8 ha
            refine⟨q,vs,_,rfl,rfl,(by rw[zam haq];exact q8),zav hvl,?_⟩
            have hap:a≠p:=fun z=>by
              obtain⟨c0,t0,e0,_⟩:=p8
              subst z;rw[e0] at ha;cases ha
            obtain⟨nc,hnc⟩:∃ nc:Cell,nc=(dx+(j:Int),dy+(i:Int)):=⟨_,rfl⟩
            have hcell:[V.int (0+(j:Int)+dx),V.int (0+(i:Int)+dy)]=cellT nc:=by
              rw[hnc];unfold cellT
              rw[show 0+(j:Int)+dx=dx+j by lia,show 0+(i:Int)+dy=dy+i by lia]
            rw[hcell]
            have k2:KT (upd H8 a (.tup (cellT nc))) (upd (upd H8 a (.tup (cellT nc))) q (.lst (vs++[.ref a]))):=KT.lst (xs:=vs) (by rw[zam haq];exact q8)
            refine⟨_,cs++[nc],vs++[.ref a],rfl,(fun z o hz h=>?_),?_,zaa,?_,?_,?_,?_⟩
            · rw[zam (zaq h hq0)]
              exact Same.up ha _ _ (b8 _ _ hz (b7 _ _ hz h))
            · obtain⟨c0,t0,e0,h1,h2⟩:=p8
              refine⟨c0,t0,?_,h1,by lia⟩
              rw[zam (Ne.symm hqp),zam (Ne.symm hap)];exact e0
            · exact hv.snoc (fun x v hx=>hx.kt (kt8.trans ((KT.up ha).trans k2))) ⟨a,rfl,k2 _ _ zaa⟩
            · rw[hnc];exact ho.snoc hbf
            · refine⟨by rw[List.length_append,List.length_singleton];lia,fun c hc=>?_⟩
              rcases List.mem_append.mp hc with z | z
              · exact hbox c z
              · rw[List.mem_singleton.mp z,hnc]
                exact⟨by show dx≤dx+(j:Int);lia,by show dx+(j:Int)<dx+(W:Int);lia,by show dy≤dy+(i:Int);lia⟩
            · intro c hc
              rcases List.mem_append.mp hc with z | z
              · rcases hbf c z with y | ⟨y1,y2⟩
                · exact .inl y
                · exact .inr ⟨y1,by lia⟩
              · rw[List.mem_singleton.mp z,hnc]
                exact .inr ⟨rfl,by show dx+(j:Int)<dx+((j+1:Nat):Int);lia⟩
          · refine⟨_,cs,vs,rfl,b7.trans b8,p8.le (by lia),q8,hv.mono fun x v hx=>hx.kt kt8,ho,⟨by lia,hbox⟩,fun c hc=>?_⟩
            rcases hbf c hc with y | ⟨y1,y2⟩
            · exact .inl y
            · exact .inr ⟨y1,by lia⟩
        · rintro σ H7 ⟨o9,cs,vs,rfl,b7,p7,q7,hv,ho,⟨hl,hbox⟩,hbf⟩
          refine⟨_,_,cs,vs,rfl,b7,?_,q7,hv,ho,⟨by rw[Nat.mul_succ];exact hl,hbox⟩,fun c hc=>?_⟩
          · rw[Nat.mul_succ];exact p7
          · rcases hbf c hc with y | ⟨y1,y2⟩
            · exact .inl (by lia)
            · exact .inl (by lia)
      · rintro σ H6 ⟨o8,o9,cs,vs,rfl,b6,p6,q6,hv,ho,⟨hl,hbox⟩,hbf⟩
        have hcell:∀ c∈cs,dx≤c.1∧c.1<dx+W∧dy≤c.2∧c.2<dy+G:=fun c hc=>by
          obtain⟨x1,x2,x3⟩:=hbox c hc
          refine⟨x1,x2,x3,?_⟩
          rcases hbf c hc with y | ⟨y1,y2⟩
          · exact y
          · lia
        refine⟨_,rfl,k q cs H6 hq0 b6 (p6.le (by lia)) (LR.of q6 hv) ho ⟨dx,dy,W,G,hWG,hcell⟩ (by lia) fun c hc=>?_⟩
        obtain⟨x1,x2,x3,x4⟩:=hcell c hc
        have hW2:W≤200:=by lia
        have hG2:G≤200:=by lia
        unfold CellB
        lia
end
open PySem L2 RP
theorem zg5 {H0 H H':Hp}{p:Addr}(s:Same H0 H) (b:But H H' p) (hp:H0 p=none):Same H0 H':=fun z o h=>b z o (zaq h hp) (s z o h)
theorem Cans.short {C:Cell→Bool}{cs:List Cell}{ESS:List (List Edge)}{R:List Rnd}(h:Cans (isIn cs) ESS R):∀ es∈ESS,es.length≤4*cs.length:=fun es he=>by
 obtain⟨i,hi,ei⟩:=List.getElem_of_mem he
 have hr:i<R.length:=by rw[h.al.length];exact hi
 have:=h.al.at (i:=i) (by rw[List.getElem?_eq_getElem hi,ei]) (List.getElem?_eq_getElem hr)
 exact this.cl.1.short
theorem CellB.bd {c:Cell}(h:CellB c):Bd 105 c.1∧Bd 105 c.2:=⟨bd_of h.1,bd_of h.2⟩
theorem Boxed.le {m n:Nat}{cs:List Cell}(h:Boxed m cs) (hm:m≤n):Boxed n cs:=let ⟨x,y,w,g,a,b⟩:=h;⟨x,y,w,g,Nat.le_trans a hm,b⟩
theorem InOrd.pw {cs:List Cell}(h:InOrd cs):cs.Pairwise fun a b=>HT.lexLt [a.2,a.1] [b.2,b.1]=true:=by
 induction cs with
 | nil=>exact .nil
 | cons a r ih =>
  have ih':=ih fun i c d h1 h2=>h (i+1) c d (by simpa using h1) (by simpa using h2)
  refine List.pairwise_cons.mpr ⟨fun b hb=>?_,ih'⟩
  cases r with
  | nil=>cases hb
  | cons c r =>
   have h0:HT.lexLt [a.2,a.1] [c.2,c.1]=true:=h 0 a c rfl rfl
   rcases List.mem_cons.mp hb with rfl | hb
   ·exact h0
   ·exact HT.lexLt_trans h0 ((List.pairwise_cons.mp ih').1 b hb)
theorem InOrd.nodup {cs:List Cell}(h:InOrd cs):cs.Nodup:=h.pw.imp fun {a b} q e=>by
 subst e
 rw[HT.lexLt_irrefl] at q;cases q
def due6 (r:Rnd) (L:List Cell):List Int:=if r.so = "hole" then (six0 L).map fun n=>0 - n else six0 L
theorem zlG {C:Cell→Bool}{es:List Edge}{r:Rnd}(h:Can C es r){L:List Cell}(hn:L.Nodup) (hL:∀ c,c∈L ↔ wd es c≠0):six es=due6 r L:=by
 unfold due6
 rcases h.sum with⟨so,hs⟩ | ⟨so,hs⟩
 ·rw[if_neg (by rw[so];decide)];exact zlF h.cl hs hn hL
 ·rw[if_pos so];exact zks h.cl hs hn hL
theorem zkt (L:List Cell):(six0 L).length=6:=rfl
open PySem L2 RP
theorem six6:6≤sizeLine:=by decide
def num6 (c:Cell):List Int:=[1,c.1,c.2,c.1*c.1,c.1*c.2,c.2*c.2]
def addB (b:Int) (xs ys:List Int):List Int:=List.zipWith (fun x y=>x+b*y) xs ys
theorem zf5 (cs:List Cell) (c:Cell):six0 (cs++[c])=List.zipWith (·+·) (six0 cs) (num6 c):=by
 unfold six0
 simp only[ziZ,List.length_append,List.length_singleton]
 rfl
theorem zke (b:Int) (B0 B1 B2 B3 B4 B5:Int) (l:List Cell) (c:Cell):addB b [B0,B1,B2,B3,B4,B5] (six0 (l++[c]))=addB b (addB b [B0,B1,B2,B3,B4,B5] (six0 l)) (num6 c):=by
 rw[zf5]
 unfold addB six0 num6
 simp only[List.zipWith_cons_cons,List.zipWith_nil_left,Int.mul_add,Int.add_assoc]
theorem zk0 (b:Int) (B0 B1 B2 B3 B4 B5:Int):addB b [B0,B1,B2,B3,B4,B5] (six0 [])=[B0,B1,B2,B3,B4,B5]:=by
 unfold addB six0 sumC
 simp
def mixB (k:Int) (b n:List Int) (m:Nat):List Int:=addB k (b.take m) (n.take m)++b.drop m
def sgn (r:Rnd):Int:=if r.so = "hole" then -1 else 1
theorem zl0 (B0 B1 B2 B3 B4 B5:Int) (r:Rnd) (L:List Cell):addB (sgn r) [B0,B1,B2,B3,B4,B5] (six0 L)=List.zipWith (·+·) [B0,B1,B2,B3,B4,B5] (due6 r L):=by
 unfold sgn due6
 split
 ·unfold addB six0
  simp only[List.map_cons,List.map_nil,List.zipWith_cons_cons,List.zipWith_nil_left]
  simp[Int.sub_eq_add_neg]
 ·unfold addB six0
  simp
theorem zmh (r:Rnd):Bd 2 (sgn r):=by unfold sgn Bd;split <;> decide
theorem zlU {c:Cell}(h:Bd 119 c.1∧Bd 119 c.2):∀ n∈num6 c,Bd 240 n:=by
 intro n hn
 unfold num6 at hn
 simp only[List.mem_cons,List.not_mem_nil,or_false] at hn
 rcases hn with rfl | rfl | rfl | rfl | rfl | rfl
 ·unfold Bd;decide
 ·exact h.1.mono (by decide)
 ·exact h.2.mono (by decide)
 ·exact (h.1.mul h.1).mono (by decide)
 ·exact (h.1.mul h.2).mono (by decide)
 ·exact (h.2.mul h.2).mono (by decide)
section
variable {P:Program}{w:World}{K:W.Frag}{mg:Str→Option Value}{base:Heap}
def Ok1 (cs:List Cell) (r:Rnd) (es:List Edge):Prop:=Can (isIn cs) es r∧es.length≤480∧∀ e∈es,Bd 118 e.c.1∧Bd 118 e.c.2
def spDue (K:W.Frag):Sp:=fun vs H Q _=>∃ (t a:Addr) (cs:List Cell) (us:List V) (R:List Rnd) (ESS:List (List Edge)),vs=[.ref t,.ref a]∧Rd H t (.dT (dC cs))∧H a=some (.lst us)∧VR us R rR H∧Al (Ok1 cs) R ESS∧cs.length≤120∧Boxed 120 cs ∧
 ∀ p H',Same H H'→H' p=some (.tup ((six ESS.flatten).map V.int))→Q (.ref p) H'
theorem ziy (T:Txt P w K mg) (g__law_within:Fn P w K mg base 2 "_law_within" ["_law_there","_law_sort","_law_x","_law_y"] (zhH K)) (d:Df K mg "_law_due" zb3 ["_law_there","_law_some"]):FnOk P w K mg base CX0 3 d.f d.fd ["_law_there","_law_some"] (spDue K):=by
 refine d.F.ok zbo (fun vs H Q E h=>?_) (fun cdv A outer s H vs Q E hr h=>?_)
 ·obtain⟨t,a,cs,us,R,ESS,rfl,_⟩:=h
  rfl
 ·obtain⟨t,a,cs,us,R,ESS,rfl,ht,ha,hv,hal,hlen,hbox,k⟩:=h
  refine⟨_,(zad (zao (i:=2) zbo.nd (by rfl) (Or.inl rfl) (zbm (pa_C zae (pa_C zae (pa_C zae (pa_C zae (pa_C zae (pa_C zae zac))))))))
   (zad (zbw PassesOwn.never rfl (zaJ (pv 1)) (zag (i:=3) zbo.nd (by rfl) (Or.inl rfl))
   (zad (zao (i:=4) zbo.nd (by rfl) (Or.inl rfl) (pe_ix za2 (zbm (pa_C zae (pa_U (pe_un zfV zae) zac))) (zbx zel (by rfl) T.nint (by rfl) (zaj (zca op_eq (pe_ix zcB (pv 3) zae (fun _ _=>rfl)) zd4 (zaw _)) zac)) (fun _ _=>rfl)))
   (zaf (zbw PassesOwn.never rfl (zaJ (zai g__law_within.ok (hr.mono (by decide)) (by rfl) g__law_within.m g__law_within.kp g__law_within.b .nil pass0 (pa_N (pv 0) (zaj (pe_ix zcB (pv 3) zae (fun _ _=>rfl)) (zaj (pe_ix zcB (pv 3) zae (fun _ _=>rfl)) (zaj (pe_ix zcB (pv 3) zae (fun _ _=>rfl)) zac)))))) (zbz (by rfl) (zah (zag (i:=5) zbo.nd (by rfl) (Or.inl rfl)) (zah (zag (i:=6) zbo.nd (by rfl) (Or.inl rfl)) zaA)))
   (zaf (zbw PassesOwn.never rfl (zjp (by rfl) T.nenumerate (zaj (zbm (pa_C zae (pa_N (pv 5) (pa_N (pv 6) (pa_B (pe_op zbK (pv 5) (pv 5)) (pa_B (pe_op zbK (pv 5) (pv 6)) (pa_B (pe_op zbK (pv 6) (pv 6)) zac))))))) zac)) (zbz (by rfl) (zah (zag (i:=7) zbo.nd (by rfl) (Or.inl rfl)) (zah (zag (i:=8) zbo.nd (by rfl) (Or.inl rfl)) zaA)))
   (zaf (zcb (pe_op zaG (pe_ix za2 (pv 2) (pv 7) (fun _ _=>rfl)) (pe_op zbK (pv 4) (pv 8))) (zhN (pv 2) (pv 7) zdO)))))))))
   (zaf (zan (zbx zbY (by rfl) T.ntuple (by rfl) (pa_N (pv 2) zac)))))),?_⟩
  have hσ:L2.start ze0 [V.ref t,V.ref a]=[some (.ref t),some (.ref a),none,none,none,none,none,none,none]:=rfl
  rw[hσ]
  refine⟨six6,fun du hdu=>?_⟩
  have s1:=Same.up (o:=.lst [.int 0,.int 0,.int 0,.int 0,.int 0,.int 0]) hdu
  have e1:upd H du (.lst [.int 0,.int 0,.int 0,.int 0,.int 0,.int 0]) du=some (.lst ((six ([]:List (List Edge)).flatten).map V.int)):=zaa
  simp only[zaR,List.set_cons_succ,List.set_cons_zero]
  generalize upd H du (.lst [.int 0,.int 0,.int 0,.int 0,.int 0,.int 0])=H1 at s1 e1
  refine⟨_,rfl,a,rfl,⟨_,SqL.of (s1 _ _ ha)⟩,?_⟩
  refine zaD (K:=K) (a:=a) (xs:=us) (fun i σ H2=>∃ o3 o4 o5 o6 o7 o8,σ=[some (.ref t),some (.ref a),some (.ref du),o3,o4,o5,o6,o7,o8]∧Same H H2∧H2 du=some (.lst ((six (ESS.take i).flatten).map V.int)))
   ⟨_,_,_,_,_,_,rfl,s1,e1⟩ (fun i σ H2 _ ⟨_,_,_,_,_,_,_,s2,_⟩=>SqL.of (s2 _ _ ha)) ?_ ?_
  ·rintro i u σ H2 hi ⟨o3,o4,o5,o6,o7,o8,rfl,s2,e2⟩
   obtain⟨r,hr',hx⟩:=hv.at hi
   have hil:i<ESS.length:=by rw[← hal.length];exact (List.getElem?_eq_some_iff.mp hr').1
   have ei:ESS[i]?=some ESS[i]:=List.getElem?_eq_getElem hil
   obtain⟨hc,hl,hB⟩:=hal.at ei hr'
   obtain⟨x,b,rfl,q1,q2⟩:=id hx
   have q9:=s2 _ _ q1
   simp only[zaR,List.set_cons_succ,List.set_cons_zero]
   refine⟨_,rfl,two,fun l0 hl0=>?_⟩
   have s3:=Same.up (o:=.lst [.int 1,.int (-1)]) hl0
   have e3:upd H2 l0 (.lst [.int 1,.int (-1)]) l0=some (.lst [.int 1,.int (-1)]):=zaa
   have d3:=s3 _ _ e2
   generalize upd H2 l0 (.lst [.int 1,.int (-1)])=H3 at s3 e3 d3
   have q3:=s3 _ _ q9
   have hby:atI [V.int 1,V.int (-1)] (if decide (V.str r.so=V.str "hole")=true then 1 else 0)=some (.int (sgn r)):=by
    unfold sgn
    by_cases z:r.so = "hole"
    ·rw[z];rfl
    ·rw[if_neg z,decide_eq_false (by intro y;injection y with y;exact z y)];rfl
   refine⟨_,rfl,x,_,_,_,rfl,rfl,SqT.of q3,zap (j:=0) rfl,rfl,.inr ⟨_,rfl,l0,_,_,_,rfl,rfl,SqL.of e3,hby,?_⟩⟩
   simp only[zaR,List.set_cons_succ,List.set_cons_zero]
   refine⟨_,rfl,_,rfl,x,_,_,_,rfl,rfl,SqT.of q3,zap (j:=0) rfl,_,rfl,x,_,_,_,rfl,rfl,SqT.of q3,zap (j:=1) rfl,_,rfl,x,_,_,_,rfl,rfl,SqT.of q3,zap (j:=2) rfl,?_⟩
   have s03:=s2.trans s3
   refine⟨t,r,cs,ESS[i],rfl,Rd.same ht s03,hc,hlen,hbox,fun lw H4 ts L s4 e4 v4 ndL hlL hL=>?_⟩
   have dueE:=zlG hc ndL hL
   have s04:=s03.trans s4
   have d4:=s4 _ _ d3
   obtain⟨B0,B1,B2,B3,B4,B5,hs6⟩:∃ B0 B1 B2 B3 B4 B5,six (ESS.take i).flatten=[B0,B1,B2,B3,B4,B5]:=⟨_,_,_,_,_,_,rfl⟩
   rw[hs6] at d4
   have hlw:lw≠du:=fun z=>by rw[z,d4] at e4;injection e4 with e4;injection e4 with e4;have h1:=v4.at (i:=0) (v:=V.int B0) (by rw[← e4];rfl);obtain⟨_,_,_,y,_⟩:=h1;cases y
   refine⟨lw,rfl,⟨_,SqL.of e4⟩,?_⟩
   refine zaD (K:=K) (a:=lw) (xs:=ts) (fun m σ H5=>∃ o5 o6 o7 o8,σ=[some (.ref t),some (.ref a),some (.ref du),some (.ref x),some (.int (sgn r)),o5,o6,o7,o8]∧Same H H5∧(∀ b o,b≠du→H4 b=some o→H5 b=some o)∧H5 du=some (.lst ((addB (sgn r) [B0,B1,B2,B3,B4,B5] (six0 (L.take m))).map V.int)))
    ⟨_,_,_,_,rfl,s04,fun _ _ _ e=>e,by rw[List.take_zero,zk0];exact d4⟩ (fun m σ H5 _ ⟨_,_,_,_,_,_,k5,_⟩=>SqL.of (k5 _ _ hlw e4)) ?_ ?_
   ·rintro m y σ H5 hm ⟨o5,o6,o7,o8,rfl,s5,k5,e5⟩
    obtain⟨c,hcm,bc,rfl,qc⟩:=v4.at hm
    have qc5:=k5 _ _ (ne_of qc d4 (fun z=>nomatch z)) qc
    have hbd:=wd_bd hc.cl hB ((hL c).mp (List.mem_of_getElem? hcm))
    have hm2:∀ {p q:Int},Bd 119 p→Bd 119 q→p.natAbs<2 ^ 1000∧q.natAbs<2 ^ 1000:=fun hx hy=>hx.m hy (by decide) (by decide)
    refine⟨bc,_,rfl,SqT.of qc5,rfl,_,_,rfl,_,_,rfl,rfl,?_⟩
    refine⟨_,rfl,_,rfl,_,rfl,_,rfl,_,_,rfl,rfl,hm2 hbd.1 hbd.1,_,rfl,_,rfl,_,_,rfl,rfl,hm2 hbd.1 hbd.2,_,rfl,_,rfl,_,_,rfl,rfl,hm2 hbd.2 hbd.2,six6,fun l hl=>?_⟩
    have s6:=Same.up (o:=.lst ((num6 c).map V.int)) hl
    have e6:upd H5 l (.lst ((num6 c).map V.int)) l=some (.lst ((num6 c).map V.int)):=zaa
    have d6:=s6 _ _ e5
    have dl:l≠du:=fun z=>by rw[z,e5] at hl;cases hl
    change ∃ _,_
    have hfold:(HO.lst [V.int 1,V.int c.1,V.int c.2,V.int (c.1*c.1),V.int (c.1*c.2),V.int (c.2*c.2)])=.lst ((num6 c).map V.int):=rfl
    obtain⟨C0,C1,C2,C3,C4,C5,hs7⟩:∃ C0 C1 C2 C3 C4 C5,addB (sgn r) [B0,B1,B2,B3,B4,B5] (six0 (L.take m))=[C0,C1,C2,C3,C4,C5]:=⟨_,_,_,_,_,_,rfl⟩
    rw[hs7] at d6
    generalize hH6:upd H5 l (.lst ((num6 c).map V.int))=H6 at s6 e6 d6
    refine⟨l,rfl,⟨_,by rw[hfold,hH6];exact SqL.of e6⟩,?_⟩
    rw[hfold,hH6]
    have hnb:=zlU hbd
    refine zh3 (K:=K) (a:=l) (xs:=(num6 c).map V.int) (fun q σ H7=>∃ o7 o8,σ=[some (.ref t),some (.ref a),some (.ref du),some (.ref x),some (.int (sgn r)),some (.int c.1),some (.int c.2),o7,o8]∧Same H H7∧(∀ b o,b≠du→H6 b=some o→H7 b=some o)∧H7 du=some (.lst ((mixB (sgn r) [C0,C1,C2,C3,C4,C5] (num6 c) q).map V.int)))
     ⟨_,_,rfl,s5.trans s6,fun _ _ _ e=>e,d6⟩ (fun q σ H7 _ ⟨_,_,_,_,k7,_⟩=>SqL.of (k7 _ _ dl e6)) ?_ ?_
    ·rintro q y σ H7 p hy ⟨o7,o8,rfl,s7,k7,e7⟩ hp
     rw[List.getElem?_map] at hy
     obtain⟨n,hn,rfl⟩:=Option.map_eq_some_iff.mp hy
     have s8:=Same.up (o:=.tup [.int q,.int n]) hp
     have e8:upd H7 p (.tup [.int q,.int n]) p=some (.tup [.int q,.int n]):=zaa
     have d8:=s8 _ _ e7
     generalize upd H7 p (.tup [.int q,.int n])=H8 at s8 e8 d8 ⊢
     have fin:∀ L,Same H (upd H8 du (.lst L))∧∀ b o,b≠du→H6 b=some o→upd H8 du (.lst L) b=some o:=fun L=>⟨zas hdu (s7.trans s8),fun b o hb e=>by rw[zam hb];exact s8 _ _ (k7 b o hb e)⟩
     have hbm:(sgn r).natAbs<2 ^ 1000∧n.natAbs<2 ^ 1000:=(zmh r).m (hnb n (List.mem_of_getElem? hn)) (by decide) (by decide)
     refine⟨p,_,rfl,SqT.of e8,rfl,_,_,rfl,_,_,rfl,rfl,?_⟩
     have hq:q=0∨q=1∨q=2∨q=3∨q=4∨q=5:=by
      have:=(List.getElem?_eq_some_iff.mp hn).1
      simp[num6] at this
      lia
     rcases hq with rfl | rfl | rfl | rfl | rfl | rfl
     ·cases hn
      exact⟨_,rfl,_,rfl,du,_,_,_,rfl,rfl,SqL.of d8,zap (j:=0) rfl,_,rfl,_,rfl,_,_,rfl,rfl,hbm,_,_,rfl,rfl,_,rfl,_,rfl,du,_,_,0,rfl,rfl,d8,rfl,_,_,rfl,(fin _).1,(fin _).2,zaa⟩
     ·cases hn
      exact⟨_,rfl,_,rfl,du,_,_,_,rfl,rfl,SqL.of d8,zap (j:=1) rfl,_,rfl,_,rfl,_,_,rfl,rfl,hbm,_,_,rfl,rfl,_,rfl,_,rfl,du,_,_,1,rfl,rfl,d8,rfl,_,_,rfl,(fin _).1,(fin _).2,zaa⟩
     ·cases hn
      exact⟨_,rfl,_,rfl,du,_,_,_,rfl,rfl,SqL.of d8,zap (j:=2) rfl,_,rfl,_,rfl,_,_,rfl,rfl,hbm,_,_,rfl,rfl,_,rfl,_,rfl,du,_,_,2,rfl,rfl,d8,rfl,_,_,rfl,(fin _).1,(fin _).2,zaa⟩
     ·cases hn
      exact⟨_,rfl,_,rfl,du,_,_,_,rfl,rfl,SqL.of d8,zap (j:=3) rfl,_,rfl,_,rfl,_,_,rfl,rfl,hbm,_,_,rfl,rfl,_,rfl,_,rfl,du,_,_,3,rfl,rfl,d8,rfl,_,_,rfl,(fin _).1,(fin _).2,zaa⟩
     ·cases hn
      exact⟨_,rfl,_,rfl,du,_,_,_,rfl,rfl,SqL.of d8,zap (j:=4) rfl,_,rfl,_,rfl,_,_,rfl,rfl,hbm,_,_,rfl,rfl,_,rfl,_,rfl,du,_,_,4,rfl,rfl,d8,rfl,_,_,rfl,(fin _).1,(fin _).2,zaa⟩
     ·cases hn
      exact⟨_,rfl,_,rfl,du,_,_,_,rfl,rfl,SqL.of d8,zap (j:=5) rfl,_,rfl,_,rfl,_,_,rfl,rfl,hbm,_,_,rfl,rfl,_,rfl,_,rfl,du,_,_,5,rfl,rfl,d8,rfl,_,_,rfl,(fin _).1,(fin _).2,zaa⟩
    ·rintro σ H7 ⟨o7,o8,rfl,s7,k7,e7⟩
     refine⟨_,_,_,_,rfl,s7,fun b o hb e=>k7 b o hb (s6 _ _ (k5 b o hb e)),?_⟩
     rw[zaE hcm,zke,hs7]
     exact e7
   ·rintro σ H5 ⟨o5,o6,o7,o8,rfl,s5,k5,e5⟩
    rw[v4.1,List.take_length,zl0,← dueE,← hs6,← zi8] at e5
    refine⟨_,_,_,_,_,_,rfl,s5,?_⟩
    rw[zaE ei,List.flatten_append,show [ESS[i]].flatten=ESS[i] by simp]
    exact e5
  ·rintro σ H2 ⟨o3,o4,o5,o6,o7,o8,rfl,s2,e2⟩
   rw[show us.length=ESS.length by rw[hv.1,hal.length],List.take_length] at e2
   exact⟨_,rfl,du,_,rfl,.inl ⟨SqL.of e2,fun p hp=>k p _ (s2.trans (Same.up hp)) zaa⟩⟩
end
open PySem L2 RP
theorem VR.drop {α:Type}{vs:List V}{l:List α}{R:α→V→Hp→Prop}{H:Hp}(h:VR vs l R H) (j:Nat):VR (vs.drop j) (l.drop j) R H:=by
 refine⟨by rw[List.length_drop,List.length_drop,h.1],fun i x v h1 h2=>?_⟩
 rw[List.getElem?_drop] at h1 h2
 exact h.2 _ x v h1 h2
theorem VR.take {α:Type}{vs:List V}{l:List α}{R:α→V→Hp→Prop}{H:Hp}(h:VR vs l R H) (j:Nat):VR (vs.take j) (l.take j) R H:=by
 refine⟨by rw[List.length_take,List.length_take,h.1],fun i x v h1 h2=>?_⟩
 rw[List.getElem?_take] at h1 h2
 split at h1
 ·rw[if_pos (by assumption)] at h2
  exact h.2 _ x v h1 h2
 ·cases h1
theorem VR.rev {α:Type}{vs:List V}{l:List α}{R:α→V→Hp→Prop}{H:Hp}(h:VR vs l R H):VR vs.reverse l.reverse R H:=by
 refine⟨by rw[List.length_reverse,List.length_reverse,h.1],fun i x v h1 h2=>?_⟩
 have hi:i<l.length:=by have:=(List.getElem?_eq_some_iff.mp h1).1;rw[List.length_reverse] at this;exact this
 rw[List.getElem?_reverse hi] at h1
 rw[List.getElem?_reverse (by rw[h.1];exact hi),h.1] at h2
 exact h.2 _ x v h1 h2
def Few (H:Hp) (p:Addr) (R:List Rnd):Prop:=∃ us R',H p=some (.lst us)∧VR us R' rR H∧(∀ r∈R',r∈R)∧us.length≤500
theorem Few.same {H H':Hp}{p:Addr}{R:List Rnd}(h:Few H p R) (s:Same H H'):Few H' p R:=let ⟨us,R',e,v,q,l⟩:=h;⟨us,R',s _ _ e,v.mono fun x v h=>rR.kt h (KT.of s),q,l⟩
theorem zjY {us:List V}{R:List Rnd}{H:Hp}(h:VR us R rR H) (lo hi:Option Int):∃ R',VR (cutV us lo hi) R' rR H∧(∀ r∈R',r∈R)∧(cutV us lo hi).length≤us.length:=by
 unfold cutV
 refine⟨_,(h.drop _).take _,fun r hr=>List.mem_of_mem_drop (List.mem_of_mem_take hr),?_⟩
 rw[List.length_take,List.length_drop];lia
theorem al_of {α β:Type}{Q:α→β→Prop}:∀ {l:List α},(∀ a∈l,∃ b,Q a b)→∃ m,Al Q l m
 | [],_=>⟨[],.nil⟩
 | a::l,h=>by
  obtain⟨b,hb⟩:=h a List.mem_cons_self
  obtain⟨m,hm⟩:=al_of (l:=l) fun x hx=>h x (List.mem_cons_of_mem _ hx)
  exact⟨b::m,.cons hb hm⟩
theorem zkd {α β:Type}{Q Q':α→β→Prop}(i:∀ a b,Q a b→Q' a b){l:List α}{m:List β}(h:Al Q l m):Al Q' l m:=by
 induction h with
 | nil=>exact .nil
 | cons a _ ih=>exact .cons (i _ _ a) ih
theorem Ok1.near {cs:List Cell}(r:Rnd) (es:List Edge) (h:Ok1 cs r es):Can (isIn cs) es r∧es.length≤480∧Near es:=⟨h.1,h.2.1,fun e he=>⟨(h.2.2 e he).1.mono (by decide),(h.2.2 e he).2.mono (by decide)⟩⟩
section
variable {P:Program}{w:World}{K:W.Frag}{mg:Str→Option Value}{base:Heap}
theorem zgy {K' K'' : W.Frag}{i : Nat}{so : Str}{σ : St}{H : Hp}{Q : VK}{a : Addr}{us : List V}{R : List Rnd}(hσ : σ[i]? = some (some (.ref a))) (ha : H a = some (.lst us)) (hv : VR us R rR H) (hl : us.length ≤ 500)
  (k:∀ g H',Same H H'→Few H' g R→Q (.ref g) H') :
  zeJ (iList K' (tVar i)) [none] (gName 0) (tTest (tOp rEq (tOp (rIxT K'') (tVar 0) (tC (.int 0))) (tC (.str so)))) (tVar 0) σ H Q:=by
 refine⟨_,hσ,a,rfl,⟨_,SqL.of ha⟩,fun g hg=>?_⟩
 refine zaD (K:=K') (a:=a) (xs:=us) (fun m σ H2=>∃ o ts R',σ=[o]∧Same H H2∧H2 g=some (.lst ts)∧VR ts R' rR H2∧(∀ r∈R',r∈R)∧ts.length≤m)
  ⟨_,[],[],rfl,Same.up hg,zaa,VR.nil,(fun r h=>nomatch h),Nat.le_refl _⟩ (fun m σ H2 _ ⟨_,_,_,_,s2,_⟩=>SqL.of (s2 _ _ ha)) ?_ ?_
 ·rintro m u σ H2 hm ⟨o,ts,R',rfl,s2,e2,v2,hR,hl2⟩
  have hml:=(List.getElem?_eq_some_iff.mp hm).1
  obtain⟨r,hr',hx⟩:=hv.at hm
  obtain⟨x,b,rfl,q1,q2⟩:=id hx
  refine⟨_,rfl,x,_,_,_,rfl,rfl,SqT.of (s2 _ _ q1),zap (j:=0) rfl,rfl,_,rfl,?_⟩
  refine ite2 (fun _=>?_) (fun _=>?_)
  ·have kl:KT H2 (upd H2 g (.lst (ts++[.ref x]))):=KT.lst e2
   refine⟨_,rfl,ts,e2,zav (by lia),_,ts++[.ref x],R'++[r],rfl,zas hg s2,zaa,v2.snoc (fun y v h=>rR.kt h kl) (rR.kt hx ((KT.of s2).trans kl)),fun y hy=>?_,by rw[List.length_append,List.length_singleton];lia⟩
   rcases List.mem_append.mp hy with z | z
   ·exact hR y z
   ·rw[List.mem_singleton.mp z];exact List.mem_of_getElem? hr'
  ·exact⟨_,ts,R',rfl,s2,e2,v2,hR,by lia⟩
 ·rintro σ H2 ⟨o,ts,R',rfl,s2,e2,v2,hR,hl2⟩
  exact k g H2 s2 ⟨ts,R',e2,v2,hR,by lia⟩
def zi3 (K:W.Frag):Sp:=fun vs H Q _=>∃ (t a:Addr) (cs:List Cell) (us:List V) (R:List Rnd),vs=[.ref t,.ref a]∧Rd H t (.dT (dC cs))∧H a=some (.lst us)∧VR us R rR H∧us.length≤500∧(∀ r∈R,∃ es,Ok1 cs r es)∧cs.length≤120∧Boxed 120 cs ∧
 ∀ H',Same H H'→Q (.bl true) H'
theorem zdc (g_sums_of:Fn P w K mg base 8 "sums_of" ["some"] (zfd K)) (g__law_due:Fn P w K mg base 3 "_law_due" ["_law_there","_law_some"] (spDue K)) (d:Df K mg "_law_parts_right" zau ["_law_there","_law_some"]):FnOk P w K mg base CX0 9 d.f d.fd ["_law_there","_law_some"] (zi3 K):=by
 refine d.F.ok za6 (fun vs H Q E h=>?_) (fun cdv A outer s H vs Q E hr h=>?_)
 ·obtain⟨t,a,cs,us,R,rfl,_⟩:=h
  rfl
 ·obtain⟨t,a,cs,us,R,rfl,ht,ha,hv,hl,hR,hlen,hbox,k⟩:=h
  have hu64:=hr.units
  have nb0:(["_law_one"]:List Str).Nodup:=by decide +kernel
  have nb1:(["_law_one"]:List Str).Nodup:=by decide +kernel
  refine⟨_,(zad (zao (i:=2) za6.nd (by rfl) (Or.inl rfl) (zcP zdW (pv 1) zdn (zdm zae)))
   (zad (zao (i:=3) za6.nd (by rfl) (Or.inl rfl) (zbm (zaj (zaV (osc:=zab zau) (N:=zbn) (N':=["_law_one"]) (sel:=[none]) ⟨rfl,by decide +kernel,by decide +kernel,by decide +kernel,rfl,by decide +kernel⟩ (zaJ (pv 2)) (fun _ _ _ _ _=>(zag (i:=0) nb1 (by rfl) (Or.inl rfl))) (fun _ _ _ _ _=>zcI (zaz op_eq (pe_ix (zc1 (K:=K)) (pv 0) zae (fun _ _=>rfl)) zd4 (zaw _))) (fun _ _ _ _ _=>(pv 0))) (zaj (zaV (osc:=zab zau) (N:=zbn) (N':=["_law_one"]) (sel:=[none]) ⟨rfl,by decide +kernel,by decide +kernel,by decide +kernel,rfl,by decide +kernel⟩ (zaJ (pv 2)) (fun _ _ _ _ _=>(zag (i:=0) nb0 (by rfl) (Or.inl rfl))) (fun _ _ _ _ _=>zcI (zaz op_eq (pe_ix (zc1 (K:=K)) (pv 0) zae (fun _ _=>rfl)) zd4 (zaw _))) (fun _ _ _ _ _=>(pv 0))) (zaj (zcP zdW (pv 2) (zdm zae) zdn) (zaj (zjr (zcP zdW (pv 2) (zdm zae) zdn) (pe_un zfV zae)) zac))))))
   (zad (zbw PassesOwn.never rfl (zaJ (pv 3)) (zag (i:=4) za6.nd (by rfl) (Or.inl rfl))
   (zaf (ps_if (zaz (zdA hu64) (zai g_sums_of.ok (hr.mono (by decide)) (by rfl) g_sums_of.m g_sums_of.kp g_sums_of.b .nil pass0 (pa_N (pv 4) zac)) (zai g__law_due.ok (hr.mono (by decide)) (by rfl) g__law_due.m g__law_due.kp g__law_due.b .nil pass0 (pa_N (pv 0) (pa_N (pv 4) zac))) (zaw _))
   (zaf (zan pe_bl))
   zaH)))
   (zaf (zan pe_bl))))),?_⟩
  have hσ:L2.start zbn [V.ref t,V.ref a]=[some (.ref t),some (.ref a),none,none,none]:=rfl
  rw[hσ]
  refine⟨_,rfl,_,rfl,a,us,rfl,SqL.of ha,fun fw hfw=>?_⟩
  obtain⟨Rf,vf,hRf,hlf⟩:=zjY hv none (some 6)
  generalize cutV us none (some 6)=uf at vf hlf
  have s1:=Same.up (o:=.lst uf) hfw
  have e1:upd H fw (.lst uf) fw=some (.lst uf):=zaa
  have v1:=vf.mono fun x v h=>rR.kt h (KT.of s1)
  simp only[zaR,List.set_cons_succ,List.set_cons_zero]
  generalize upd H fw (.lst uf)=H1 at s1 e1 v1
  unfold tSeq tAsg tLst
  simp only[zfa,zgS]
  refine zgy (i:=2) (R:=Rf) rfl e1 v1 (by lia) fun g1 H2 s2 hF1=>?_
  refine zgy (i:=2) (R:=Rf) rfl (s2 _ _ e1) (v1.mono fun x v h=>rR.kt h (KT.of s2)) (by lia) fun g2 H3 s3 hF2=>?_
  have s13:=s2.trans s3
  have e3:=s13 _ _ e1
  have v3:=v1.mono fun x v h=>rR.kt h (KT.of s13)
  refine⟨_,rfl,_,rfl,fw,uf,rfl,SqL.of e3,fun g3 hg3=>?_⟩
  obtain⟨R3,v3',hR3,hl3⟩:=zjY v3 (some 1) none
  have hF3:Few (upd H3 g3 (.lst (cutV uf (some 1) none))) g3 Rf:=⟨_,R3,zaa,v3'.mono fun x v h=>rR.kt h (KT.up hg3),hR3,by lia⟩
  have s4:=Same.up (o:=.lst (cutV uf (some 1) none)) hg3
  generalize upd H3 g3 (.lst (cutV uf (some 1) none))=H4 at s4 hF3
  have e4:=s4 _ _ e3
  have v4:=v3.mono fun x v h=>rR.kt h (KT.of s4)
  refine⟨_,rfl,_,rfl,fw,uf,rfl,SqL.of e4,fun g5 hg5=>?_⟩
  obtain⟨R5,v5',hR5,hl5⟩:=zjY v4 (some 2) none
  generalize cutV uf (some 2) none=u5 at v5' hl5
  have s5:=Same.up (o:=.lst u5) hg5
  have e5:upd H4 g5 (.lst u5) g5=some (.lst u5):=zaa
  have v5:=v5'.mono fun x v h=>rR.kt h (KT.of s5)
  generalize upd H4 g5 (.lst u5)=H5 at s5 e5 v5
  refine⟨_,rfl,rfl,g5,u5,rfl,SqL.of e5,fun g6 hg6=>?_⟩
  have hF4:Few (upd H5 g6 (.lst u5.reverse)) g6 Rf:=⟨_,R5.reverse,zaa,v5.rev.mono fun x v h=>rR.kt h (KT.up hg6),fun r hr=>hR5 r (List.mem_reverse.mp hr),by rw[List.length_reverse];lia⟩
  have s6:=Same.up (o:=.lst u5.reverse) hg6
  generalize upd H5 g6 (.lst u5.reverse)=H6 at s6 hF4
  refine⟨(by show 4≤sizeLine;decide),fun pp hpp=>?_⟩
  have s7:=Same.up (o:=.lst [.ref g1,.ref g2,.ref g3,.ref g6]) hpp
  have e7:upd H6 pp (.lst [.ref g1,.ref g2,.ref g3,.ref g6]) pp=some (.lst [.ref g1,.ref g2,.ref g3,.ref g6]):=zaa
  simp only[zaR,List.set_cons_succ,List.set_cons_zero]
  generalize upd H6 pp (.lst [.ref g1,.ref g2,.ref g3,.ref g6])=H7 at s7 e7
  have s47:=s5.trans (s6.trans s7)
  have s37:=s4.trans s47
  have s07:=s1.trans (s13.trans s37)
  have F1:=hF1.same (s3.trans s37)
  have F2:=hF2.same s37
  have F3:=hF3.same s47
  have F4:=hF4.same s7
  refine⟨_,rfl,pp,rfl,⟨_,SqL.of e7⟩,?_⟩
  refine zaD (K:=K) (a:=pp) (xs:=[.ref g1,.ref g2,.ref g3,.ref g6]) (fun m σ H8=>∃ o,σ=[some (.ref t),some (.ref a),some (.ref fw),some (.ref pp),o]∧Same H7 H8) ⟨_,rfl,Same.refl _⟩ (fun m σ H8 _ ⟨_,_,s8⟩=>SqL.of (s8 _ _ e7)) ?_ ?_
  ·rintro m u σ H8 hm ⟨o,rfl,s8⟩
   obtain⟨g,rfl,hF⟩:∃ g,u=.ref g∧Few H7 g Rf:=by
    have hm4:=(List.getElem?_eq_some_iff.mp hm).1
    simp at hm4
    have:m=0∨m=1∨m=2∨m=3:=by lia
    rcases this with rfl | rfl | rfl | rfl <;> cases hm
    ·exact⟨_,rfl,F1⟩
    ·exact⟨_,rfl,F2⟩
    ·exact⟨_,rfl,F3⟩
    ·exact⟨_,rfl,F4⟩
   obtain⟨ug,Rg,eg,vg,hRg,hlg⟩:=hF.same s8
   obtain⟨ESS,hal⟩:=al_of (Q:=Ok1 cs) (l:=Rg) fun r hr=>hR r (hRf r (hRg r hr))
   simp only[zaR,List.set_cons_succ,List.set_cons_zero]
   refine⟨_,rfl,g,ug,Rg,isIn cs,ESS,rfl,SqL.of eg,vg,zkd Ok1.near hal,fun q H9 s9 h9=>?_⟩
   have s89:=s8.trans s9
   refine⟨_,rfl,_,rfl,t,g,cs,ug,Rg,ESS,rfl,Rd.same ht (s07.trans s89),s9 _ _ eg,vg.mono fun x v h=>rR.kt h (KT.of s9),hal,hlen,hbox,fun p H10 s10 e10=>?_⟩
   refine⟨tI (six ESS.flatten),tI (six ESS.flatten),.tup (s10.seqT h9) (RDs.ints _),.tup (SqT.of e10) (RDs.ints _),zaF _,zaF _,_,rfl,iteN (by rw[zcW,decide_eq_true rfl];rfl) ?_⟩
   exact⟨_,rfl,s89.trans s10⟩
  ·rintro σ H8 ⟨o,rfl,s8⟩
   exact k H8 (s07.trans s8)
end
open PySem L2 RP
section
variable {P:Program}{w:World}{K:W.Frag}{mg:Str→Option Value}{base:Heap}
def zhC (K:W.Frag):Sp:=fun vs H Q _=>∃ (a:Addr) (ns:List Int),vs=[.ref a,.int ns.length]∧SqT K H a (ns.map V.int)∧ns.length≤10∧∀ H',Same H H'→Q (.bl true) H'
theorem zfv (T:Txt P w K mg) (d:Df K mg "_law_wholes" zaT ["_law_found","_law_many"]):FnOk P w K mg base CX0 1 d.f d.fd ["_law_found","_law_many"] (zhC K):=by
 refine d.F.ok zeo (fun vs H Q E h=>?_) (fun cdv A outer s H vs Q E hr h=>?_)
 ·obtain⟨a,ns,rfl,_⟩:=h
  rfl
 ·obtain⟨a,ns,rfl,ha,hl,k⟩:=h
  have nb0:(["_law_one"]:List Str).Nodup:=by decide +kernel
  refine⟨_,(zad (ps_if (pw_or (zge (zdx (zaK zj6 (by rfl) T.nisinstance (by rfl) (pa_N (pv 0) (pa_N (zg7 (v:=.ty "tuple") (by rfl) T.ntuple (by rfl) rfl) zac))))) (zjh (zaz op_ne (zaK zbT (by rfl) T.nlen (by rfl) (pa_N (pv 0) zac)) (pv 1) (zaw _)))).pt
   (zaf (zan pe_bl))
   zaH)
   (zaf (zan (zaK (zj7 rfl) (by rfl) T.nall (by rfl) (zaj (zaV (osc:=zab zaT) (N:=zdh) (N':=["_law_one"]) (sel:=[none]) ⟨rfl,by decide +kernel,by decide +kernel,by decide +kernel,rfl,by decide +kernel⟩ (zjn (pv 0)) (fun _ _ _ _ _=>(zag (i:=0) nb0 (by rfl) (Or.inl rfl))) (fun _ _ _ _ _=>zb9) (fun _ _ _ _ _=>(zjs (zaK (zgE (K:=K)) (by rfl) T.nisinstance (by rfl) (pa_N (pv 0) (pa_N (zg7 (v:=.ty "int") (by rfl) T.nint (by rfl) rfl) zac))) (zhP (zmo (zaK (zgE (K:=K)) (by rfl) T.nisinstance (by rfl) (pa_N (pv 0) (pa_N (zg7 (v:=.ty "bool") (by rfl) T.nbool (by rfl) rfl) zac)))))))) zac))))),?_⟩
  refine⟨_,rfl,a,_,"tuple",true,rfl,ha,zhY _ _,_,rfl,iteF ?_⟩
  refine⟨_,rfl,a,_,rfl,.inr ha,_,rfl,rfl,_,rfl,iteN (by simp) ?_⟩
  refine⟨_,rfl,a,rfl,⟨_,ha⟩,fun q hq=>?_⟩
  refine zhl (K:=K) (a:=a) (xs:=ns.map V.int) (fun j σ H9=>∃ o,σ=[o]∧Same H H9∧H9 q=some (.lst ((List.replicate j true).map V.bl)))
   ⟨_,rfl,Same.up hq,zaa⟩ (fun j σ H9 _ ⟨_,_,s9,_⟩=>s9.seqT ha) ?_ ?_
  ·rintro j v σ H9 hj ⟨o,rfl,s9,e9⟩
   have hjl:j<ns.length:=by have:=(List.getElem?_eq_some_iff.mp hj).1;rw[List.length_map] at this;exact this
   rw[List.getElem?_map] at hj
   obtain⟨n,hn,rfl⟩:=Option.map_eq_some_iff.mp hj
   refine gN ?_
   refine⟨_,rfl,.int n,"int",_,true,rfl,.int n,zhY _ _,_,rfl,iteT ?_⟩
   refine⟨_,rfl,.int n,"bool",_,false,rfl,.int n,zgp _,_,rfl,?_⟩
   refine⟨_,e9,zav (by simp;lia),_,rfl,zas hq s9,?_⟩
   rw[zaa,List.replicate_succ',List.map_append];rfl
  ·rintro σ H9 ⟨o,rfl,s9,e9⟩
   refine⟨q,List.replicate (ns.map V.int).length true,rfl,SqL.of e9,?_⟩
   rw[show (List.replicate (ns.map V.int).length true).all id=true by simp]
   exact k H9 s9
end
open PySem L2 RP
def mixed (b n:List Int) (m:Nat):List Int:=List.zipWith (·+·) (b.take m) (n.take m)++b.drop m
theorem Cans.six {cs:List Cell}{ESS:List (List Edge)}{R:List Rnd}(h:Cans (isIn cs) ESS R) (hn:cs.Nodup):six ESS.flatten=six0 cs:=by
 rw[← zdX hn]
 exact zdN ((List.perm_ext_iff_of_nodup h.nd (zdt hn)).mpr fun e=>by rw[zdd];exact h.all e)
theorem zmI {α β:Type}{Q:α→β→Prop}{l:List α}{m:List β}(h:Al Q l m):Al Q l.reverse m.reverse:=by
 have app:∀ {l l':List α} {m m':List β},Al Q l m→Al Q l' m'→Al Q (l++l') (m++m'):=fun {l l' m m'} h k=>by
  induction h with
  | nil=>exact k
  | cons a _ ih=>exact .cons a ih
 induction h with
 | nil=>exact .nil
 | cons a _ ih=>rw[List.reverse_cons,List.reverse_cons];exact app ih (.cons a .nil)
theorem zkS {α:Type}(l:List (List α)):l.reverse.flatten.Perm l.flatten:=(List.reverse_perm l).flatten
section
variable {P:Program}{w:World}{K:W.Frag}{mg:Str→Option Value}{base:Heap}
def spLaw (K:W.Frag):Sp:=fun vs H Q _=>∃ (a:Addr) (ns:List Int),vs=[.ref a]∧SqL K H a (ns.map V.int)∧ns.length≤63∧∀ H',Q (.bl true) H'
theorem zms (T : Txt P w K mg) (g__law_cell_at : Fn P w K mg base 1 "_law_cell_at" ["_law_script", "_law_k"] (zhI K)) (g__law_picture : Fn P w K mg base 3 "_law_picture" ["_law_pen", "_law_most"] (zf0 K))
  (g_rounds:Fn P w K mg base 7 "rounds" ["picture"] (zhG K)) (g_sums_of:Fn P w K mg base 8 "sums_of" ["some"] (zfd K)) (g__law_dict:Fn P w K mg base 1 "_law_dict" ["_law_cells"] (zle K))
  (g__law_parts_right:Fn P w K mg base 9 "_law_parts_right" ["_law_there","_law_some"] (zi3 K)) (g__law_wholes:Fn P w K mg base 1 "_law_wholes" ["_law_found","_law_many"] (zhC K))
  (d:Df K mg "law" s_law ["_law_script"]):FnOk P w K mg base CX0 10 d.f d.fd ["_law_script"] (spLaw K):=by
 refine d.F.ok zcD (fun vs H Q E h=>?_) (fun cdv A outer s H vs Q E hr h=>?_)
 ·obtain⟨a,ns,rfl,_⟩:=h
  rfl
 ·obtain⟨a,ns,rfl,hS,hlen,k⟩:=h
  have hu64:=hr.units
  refine⟨_,(zad (ps_if (zaz (zdA hu64) (zai g_sums_of.ok (hr.mono (by decide)) (by rfl) g_sums_of.m g_sums_of.kp g_sums_of.b .nil pass0 (zaj (zbm zac) zac)) (zaI (pa_C zae (pa_C zae (pa_C zae (pa_C zae (pa_C zae (pa_C zae zac))))))) (zaw _))
   (zaf (zan pe_bl))
   zaH)
   (zad (zbw PassesOwn.never rfl (zda (by rfl) T.nrange (zaj (zaK (zj5 rfl) (by rfl) T.nmax (by rfl) (pa_C zae (zaj (zaK (zj4 rfl) (by rfl) T.nmin (by rfl) (pa_C zae (zaj (zaK zbT (by rfl) T.nlen (by rfl) (pa_N (pv 0) zac)) zac))) zac))) zac)) (zag (i:=1) zcD.nd (by rfl) (Or.inl rfl))
   (zad (zao (i:=2) zcD.nd (by rfl) (Or.inl rfl) (zai g__law_picture.ok (hr.mono (by decide)) (by rfl) g__law_picture.m g__law_picture.kp g__law_picture.b .nil pass0 (zaj (zbm (zaj (zai g__law_cell_at.ok (hr.mono (by decide)) (by rfl) g__law_cell_at.m g__law_cell_at.kp g__law_cell_at.b .nil pass0 (pa_N (pv 0) (pa_N (pv 1) zac))) (pa_C zae zac))) (zaj (pe_ix za2 (zbm (pa_C zae (pa_C zae zac))) (zbx zel (by rfl) T.nint (by rfl) (zaj (zca op_gt (pv 1) zae (zaw _)) zac)) (fun _ _=>rfl)) zac))))
   (zad (zao (i:=3) zcD.nd (by rfl) (Or.inl rfl) (zbm (pa_C zae (pa_C zae (pa_C zae (pa_C zae (pa_C zae (pa_C zae zac))))))))
   (zad (zbw PassesOwn.never rfl (zaJ (pv 2)) (zbz (by rfl) (zah (zag (i:=4) zcD.nd (by rfl) (Or.inl rfl)) (zah (zag (i:=5) zcD.nd (by rfl) (Or.inl rfl)) zaA)))
   (zaf (zbw PassesOwn.never rfl (zjp (by rfl) T.nenumerate (zaj (zbm (pa_C zae (pa_N (pv 4) (pa_N (pv 5) (pa_B (pe_op zbK (pv 4) (pv 4)) (pa_B (pe_op zbK (pv 4) (pv 5)) (pa_B (pe_op zbK (pv 5) (pv 5)) zac))))))) zac)) (zbz (by rfl) (zah (zag (i:=6) zcD.nd (by rfl) (Or.inl rfl)) (zah (zag (i:=7) zcD.nd (by rfl) (Or.inl rfl)) zaA)))
   (zaf (zcb (pe_op zaG (pe_ix za2 (pv 3) (pv 6) (fun _ _=>rfl)) (pv 7)) (zhN (pv 3) (pv 6) zdO))))))
   (zad (zao (i:=8) zcD.nd (by rfl) (Or.inl rfl) (zai g_rounds.ok (hr.mono (by decide)) (by rfl) g_rounds.m g_rounds.kp g_rounds.b .nil pass0 (pa_N (pv 2) zac)))
   (zad (zao (i:=9) zcD.nd (by rfl) (Or.inl rfl) (zbx zgD (by rfl) T.nlist (by rfl) (pa_N (pv 8) zac)))
   (zad (zao (i:=10) zcD.nd (by rfl) (Or.inl rfl) (zai g_sums_of.ok (hr.mono (by decide)) (by rfl) g_sums_of.m g_sums_of.kp g_sums_of.b .nil pass0 (pa_N (pv 8) zac)))
   (zad (ps_if (pw_or (zge (zdx (zai g__law_wholes.ok (hr.mono (by decide)) (by rfl) g__law_wholes.m g__law_wholes.kp g__law_wholes.b .nil pass0 (pa_N (pv 10) (pa_C zae zac))))) (pw_or (zaz (zdA hu64) (pv 10) (zbx zbY (by rfl) T.ntuple (by rfl) (pa_N (pv 3) zac)) (zaw _)) (pw_or (zaz (zdA hu64) (zai g_sums_of.ok (hr.mono (by decide)) (by rfl) g_sums_of.m g_sums_of.kp g_sums_of.b .nil pass0 (zaj (zjr (pv 8) (pe_un zfV zae)) zac)) (pv 10) (zaw _)) (zjh (zaz (zdA hu64) (pv 8) (pv 9) (zaw _)))))).pt
   (zaf (zan pe_bl))
   zaH)
   (zaf (ps_if (zge (zdx (zai g__law_parts_right.ok (hr.mono (by decide)) (by rfl) g__law_parts_right.m g__law_parts_right.kp g__law_parts_right.b .nil pass0 (zaj (zai g__law_dict.ok (hr.mono (by decide)) (by rfl) g__law_dict.m g__law_dict.kp g__law_dict.b .nil pass0 (pa_N (pv 2) zac)) (pa_N (pv 8) zac)))))
   (zaf (zan pe_bl))
   zaH))))))))))
   (zaf (zan pe_bl)))),?_⟩
  have hσ:L2.start N_law [V.ref a]=[some (.ref a),none,none,none,none,none,none,none,none,none,none]:=rfl
  rw[hσ]
  refine⟨Nat.zero_le _,fun p1 h1=>?_⟩
  have s1:=Same.up (o:=.lst []) h1
  have e1:upd H p1 (.lst []) p1=some (.lst []):=zaa
  generalize upd H p1 (.lst [])=H1 at s1 e1
  refine⟨p1,[],[],fun _=>false,[],rfl,SqL.of e1,VR.nil,.nil,fun q2 H2 s2 h2=>⟨six6,fun p3 h3=>?_⟩⟩
  have s3:=Same.up (o:=.tup [.int 0,.int 0,.int 0,.int 0,.int 0,.int 0]) h3
  have e3:upd H2 p3 (.tup [.int 0,.int 0,.int 0,.int 0,.int 0,.int 0]) p3=some (.tup ((six ([]:List (List Edge)).flatten).map V.int)):=zaa
  generalize upd H2 p3 (.tup [.int 0,.int 0,.int 0,.int 0,.int 0,.int 0])=H3 at s3 e3
  refine⟨tI (six ([]:List (List Edge)).flatten),tI (six ([]:List (List Edge)).flatten),.tup (s3.seqT h2) (RDs.ints _),.tup (SqT.of e3) (RDs.ints _),zaF _,zaF _,_,rfl,iteN (by rw[zcW,decide_eq_true rfl];rfl) ?_⟩
  have s03:=s1.trans (s2.trans s3)
  refine⟨_,rfl,a,_,rfl,.inl (s03.seq hS),_,_,rfl,_,_,rfl,_,rfl,?_,?_,?_⟩
  ·split <;> lia
  ·split
   ·split <;> lia
   ·decide
  refine zcm (lo:=0) (fun i σ H3=>∃ o1 o2 o3 o4 o5 o6 o7 o8 o9 o10,σ=[some (.ref a),o1,o2,o3,o4,o5,o6,o7,o8,o9,o10]∧Same H H3) ⟨_,_,_,_,_,_,_,_,_,_,rfl,s03⟩ ?_ ?_
  ·rintro i σ H3 hi ⟨o1,o2,o3,o4,o5,o6,o7,o8,o9,o10,rfl,s3⟩
   refine⟨_,rfl,_,rfl,a,ns,i,(by rw[show ((0:Int)+(i:Int))=(i:Int) by lia];rfl),s3.seq hS,fun c=>⟨two,fun p hp=>?_⟩⟩
   have hp0:H p=none:=s3.free hp
   have sp:Same H (upd H3 p (.lst [.int c,.int 0])):=s3.trans (Same.up hp)
   have pen0:HasB (upd H3 p (.lst [.int c,.int 0])) p 1000:=⟨c,0,zaa,by decide,by decide⟩
   generalize upd H3 p (.lst [.int c,.int 0])=H4 at sp pen0
   refine⟨two,fun l hl=>?_⟩
   refine⟨_,rfl,_,_,rfl,rfl,.inr ⟨_,rfl,?_⟩⟩
   obtain⟨v,hv,m,rfl,hm1,hm⟩:∃ v,atI [V.int 120,V.int 40] (if decide ((0:Int)<0+(i:Int))=true then 1 else 0)=some v∧∃ m:Nat,v=.int m∧1≤m∧m≤120:=by
    by_cases hz:decide ((0:Int)<0+(i:Int))=true
    ·rw[if_pos hz];exact⟨_,rfl,40,rfl,by decide,by decide⟩
    ·rw[if_neg hz];exact⟨_,rfl,120,rfl,by decide,by decide⟩
   have penl:=pen0.same (Same.up (o:=.lst [.int 120,.int 40]) hl)
   refine⟨l,_,_,_,rfl,rfl,SqL.of zaa,hv,p,400,m,rfl,penl.le (by lia),hm1,by lia,fun ap cs H5 hap b5 p5 hLR hord hbox hcl hcb=>?_⟩
   have s5:Same H H5:=zg5 (sp.trans (Same.up hl)) b5 hp0
   have nd:=hord.nodup
   obtain⟨cvs,hq5,hn5,hc5⟩:=id hLR
   have hv5:VR cvs cs cR H5:=⟨hn5,hc5⟩
   refine⟨six6,fun du hdu=>?_⟩
   have s6:=Same.up (o:=.lst [.int 0,.int 0,.int 0,.int 0,.int 0,.int 0]) hdu
   have e6:upd H5 du (.lst [.int 0,.int 0,.int 0,.int 0,.int 0,.int 0]) du=some (.lst ((six0 []).map V.int)):=zaa
   simp only[zaR,List.set_cons_succ,List.set_cons_zero]
   generalize upd H5 du (.lst [.int 0,.int 0,.int 0,.int 0,.int 0,.int 0])=H6 at s6 e6
   refine⟨_,rfl,ap,rfl,⟨_,s6.seq hq5⟩,?_⟩
   refine zaD (K:=K) (a:=ap) (xs:=cvs) (fun j σ H7=>∃ o4 o5 o6 o7,σ=[some (.ref a),some (.int (0+(i:Int))),some (.ref ap),some (.ref du),o4,o5,o6,o7,o8,o9,o10]∧Same H5 H7∧H7 du=some (.lst ((six0 (cs.take j)).map V.int)))
    ⟨_,_,_,_,rfl,s6,e6⟩ (fun j σ H7 _ ⟨_,_,_,_,_,s7,_⟩=>s7.seq hq5) ?_ ?_
   ·rintro j u σ H7 hj ⟨o4,o5,o6,o7,rfl,s7,e7⟩
    obtain⟨c,hc,bc,rfl,qc⟩:=hv5.at hj
    have hbd:=(hcb c (List.mem_of_getElem? hc)).bd
    have b1:Bd 119 c.1:=hbd.1.mono (by decide)
    have b2:Bd 119 c.2:=hbd.2.mono (by decide)
    have hm2:∀ {p q:Int},Bd 119 p→Bd 119 q→p.natAbs<2 ^ 1000∧q.natAbs<2 ^ 1000:=fun hx hy=>hx.m hy (by decide) (by decide)
    refine⟨bc,_,rfl,SqT.of (s7 _ _ qc),rfl,_,_,rfl,_,_,rfl,rfl,?_⟩
    refine⟨_,rfl,_,rfl,_,rfl,_,rfl,_,_,rfl,rfl,hm2 b1 b1,_,rfl,_,rfl,_,_,rfl,rfl,hm2 b1 b2,_,rfl,_,rfl,_,_,rfl,rfl,hm2 b2 b2,six6,fun l2 hl2=>?_⟩
    have s8:=Same.up (o:=.lst ((num6 c).map V.int)) hl2
    have e8:upd H7 l2 (.lst ((num6 c).map V.int)) l2=some (.lst ((num6 c).map V.int)):=zaa
    have d8:=s8 _ _ e7
    have dl:l2≠du:=fun z=>by rw[z,e7] at hl2;cases hl2
    have hfold:(HO.lst [V.int 1,V.int c.1,V.int c.2,V.int (c.1*c.1),V.int (c.1*c.2),V.int (c.2*c.2)])=.lst ((num6 c).map V.int):=rfl
    obtain⟨B0,B1,B2,B3,B4,B5,hs6⟩:∃ B0 B1 B2 B3 B4 B5,six0 (cs.take j)=[B0,B1,B2,B3,B4,B5]:=⟨_,_,_,_,_,_,rfl⟩
    rw[hs6] at d8
    change ∃ _,_
    generalize hH8:upd H7 l2 (.lst ((num6 c).map V.int))=H8 at s8 e8 d8
    refine⟨l2,rfl,⟨_,by rw[hfold,hH8];exact SqL.of e8⟩,?_⟩
    rw[hfold,hH8]
    refine zh3 (K:=K) (a:=l2) (xs:=(num6 c).map V.int) (fun q σ H9=>∃ o6 o7,σ=[some (.ref a),some (.int (0+(i:Int))),some (.ref ap),some (.ref du),some (.int c.1),some (.int c.2),o6,o7,o8,o9,o10]∧Same H5 H9∧(∀ b o,b≠du→H8 b=some o→H9 b=some o)∧H9 du=some (.lst ((mixed [B0,B1,B2,B3,B4,B5] (num6 c) q).map V.int)))
     ⟨_,_,rfl,s7.trans s8,fun _ _ _ e=>e,d8⟩ (fun q σ H9 _ ⟨_,_,_,_,k9,_⟩=>SqL.of (k9 _ _ dl e8)) ?_ ?_
    ·rintro q y σ H9 pp hy ⟨o6,o7,rfl,s9,k9,e9⟩ hpp
     rw[List.getElem?_map] at hy
     obtain⟨n,hn,rfl⟩:=Option.map_eq_some_iff.mp hy
     have s10:=Same.up (o:=.tup [.int q,.int n]) hpp
     have e10:upd H9 pp (.tup [.int q,.int n]) pp=some (.tup [.int q,.int n]):=zaa
     have d10:=s10 _ _ e9
     generalize upd H9 pp (.tup [.int q,.int n])=H10 at s10 e10 d10 ⊢
     have fin:∀ L,Same H5 (upd H10 du (.lst L))∧∀ b o,b≠du→H8 b=some o→upd H10 du (.lst L) b=some o:=fun L=>⟨zas hdu (s9.trans s10),fun b o hb e=>by rw[zam hb];exact s10 _ _ (k9 b o hb e)⟩
     refine⟨pp,_,rfl,SqT.of e10,rfl,_,_,rfl,_,_,rfl,rfl,?_⟩
     have hq:q=0∨q=1∨q=2∨q=3∨q=4∨q=5:=by
      have:=(List.getElem?_eq_some_iff.mp hn).1
      simp[num6] at this
      lia
     rcases hq with rfl | rfl | rfl | rfl | rfl | rfl
     ·cases hn
      exact⟨_,rfl,_,rfl,du,_,_,_,rfl,rfl,SqL.of d10,zap (j:=0) rfl,_,rfl,_,_,rfl,rfl,_,rfl,_,rfl,du,_,_,0,rfl,rfl,d10,rfl,_,_,rfl,(fin _).1,(fin _).2,zaa⟩
     ·cases hn
      exact⟨_,rfl,_,rfl,du,_,_,_,rfl,rfl,SqL.of d10,zap (j:=1) rfl,_,rfl,_,_,rfl,rfl,_,rfl,_,rfl,du,_,_,1,rfl,rfl,d10,rfl,_,_,rfl,(fin _).1,(fin _).2,zaa⟩
     ·cases hn
      exact⟨_,rfl,_,rfl,du,_,_,_,rfl,rfl,SqL.of d10,zap (j:=2) rfl,_,rfl,_,_,rfl,rfl,_,rfl,_,rfl,du,_,_,2,rfl,rfl,d10,rfl,_,_,rfl,(fin _).1,(fin _).2,zaa⟩
     ·cases hn
      exact⟨_,rfl,_,rfl,du,_,_,_,rfl,rfl,SqL.of d10,zap (j:=3) rfl,_,rfl,_,_,rfl,rfl,_,rfl,_,rfl,du,_,_,3,rfl,rfl,d10,rfl,_,_,rfl,(fin _).1,(fin _).2,zaa⟩
     ·cases hn
      exact⟨_,rfl,_,rfl,du,_,_,_,rfl,rfl,SqL.of d10,zap (j:=4) rfl,_,rfl,_,_,rfl,rfl,_,rfl,_,rfl,du,_,_,4,rfl,rfl,d10,rfl,_,_,rfl,(fin _).1,(fin _).2,zaa⟩
     ·cases hn
      exact⟨_,rfl,_,rfl,du,_,_,_,rfl,rfl,SqL.of d10,zap (j:=5) rfl,_,rfl,_,_,rfl,rfl,_,rfl,_,rfl,du,_,_,5,rfl,rfl,d10,rfl,_,_,rfl,(fin _).1,(fin _).2,zaa⟩
    ·rintro σ H9 ⟨o6,o7,rfl,s9,k9,e9⟩
     refine⟨_,_,_,_,rfl,s9,?_⟩
     rw[zaE hc,zf5,hs6]
     exact e9
   ·rintro σ H7 ⟨o4,o5,o6,o7,rfl,s7,e7⟩
    rw[hn5,List.take_length] at e7
    have hv7:=hv5.mono fun x v h=>h.kt (KT.of s7)
    refine⟨_,rfl,ap,cs,rfl,⟨cvs,s7.seq hq5,hv7⟩,hord,by lia,hbox.slim hm,fun pr H8 rv R R0 hpr s8 e8 hvr hpm _ hwh=>?_⟩
    obtain⟨ESS,hcan⟩:=hwh.cans hpm
    have hES:=hcan.short (C:=isIn cs)
    have hok:Al (Ok1 cs) R ESS:=Al.of hcan.al.length fun j r es he hr'=>by
     have hc1:=hcan.al.at he hr'
     have hcb':∀ e∈es,CellB e.c:=fun e he=>hcb e.c (of_decide_eq_true (hc1.cl.1.2.2.1 e he).2.1)
     exact⟨hc1,(by have:=hES es (List.mem_of_getElem? he);lia),fun e he=>⟨(hcb' e he).bd.1.mono (by decide),(hcb' e he).bd.2.mono (by decide)⟩⟩
    have hrl:rv.length≤500:=by
     have h1:rv.length=R.length:=hvr.1
     have h2:R.length≤cs.length:=by rw[hpm.length_eq];exact hwh.few
     lia
    have so:∀ r∈R,SoOk r:=fun r h=>hwh.so r (hpm.mem_iff.mp h)
    have hsix:=hcan.six nd
    refine⟨_,rfl,pr,rv,rfl,.inl (SqL.of e8),fun lh hlh=>?_⟩
    have s9:=Same.up (o:=.lst rv) hlh
    have e9:upd H8 lh (.lst rv) lh=some (.lst rv):=zaa
    simp only[zaR,List.set_cons_succ,List.set_cons_zero]
    generalize upd H8 lh (.lst rv)=H9 at s9 e9
    refine⟨_,rfl,pr,rv,R,isIn cs,ESS,rfl,SqL.of (s9 _ _ e8),hvr.mono (fun x v h=>rR.kt h (KT.of s9)),zkd Ok1.near hok,fun q H10 s10 h10=>?_⟩
    rw[hsix] at h10
    simp only[zaR,List.set_cons_succ,List.set_cons_zero]
    refine⟨_,rfl,q,six0 cs,rfl,h10,(by rw[zkt];decide),fun H11 s11=>⟨_,rfl,iteF ?_⟩⟩
    have s911:=s10.trans s11
    have s811:=s9.trans s911
    have e7':=(s8.trans s811) _ _ e7
    refine⟨_,rfl,_,rfl,du,_,rfl,.inl ⟨SqL.of e7',fun p12 h12=>?_⟩⟩
    have s12:=Same.up (o:=.tup ((six0 cs).map V.int)) h12
    have e12:upd H11 p12 (.tup ((six0 cs).map V.int)) p12=some (.tup ((six0 cs).map V.int)):=zaa
    generalize upd H11 p12 (.tup ((six0 cs).map V.int))=H12 at s12 e12
    have h12':=(s11.trans s12).seqT h10
    refine⟨tI (six0 cs),tI (six0 cs),.tup h12' (RDs.ints _),.tup (SqT.of e12) (RDs.ints _),zaF _,zaF _,_,rfl,iteN (by rw[zcW,decide_eq_true rfl];rfl) ?_⟩
    have s812:=s811.trans s12
    refine⟨_,rfl,_,rfl,rfl,pr,rv,rfl,SqL.of (s812 _ _ e8),fun g hg=>?_⟩
    have s13:=Same.up (o:=.lst rv.reverse) hg
    have e13:upd H12 g (.lst rv.reverse) g=some (.lst rv.reverse):=zaa
    generalize upd H12 g (.lst rv.reverse)=H13 at s13 e13
    have s813:=s812.trans s13
    refine⟨g,rv.reverse,R.reverse,isIn cs,ESS.reverse,rfl,SqL.of e13,(hvr.rev).mono (fun x v h=>rR.kt h (KT.of s813)),zkd Ok1.near (zmI hok),fun q2 H14 s14 h14=>?_⟩
    rw[zdN (zkS ESS),hsix] at h14
    refine⟨_,rfl,tI (six0 cs),tI (six0 cs),.tup h14 (RDs.ints _),.tup ((s13.trans s14).seqT h12') (RDs.ints _),zaF _,zaF _,_,rfl,iteN (by rw[zcW,decide_eq_true rfl];rfl) ?_⟩
    have s814:=s813.trans s14
    have s914:=s911.trans (s12.trans (s13.trans s14))
    have vr14:=hvr.mono fun x v h=>rR.kt h (KT.of s814)
    refine⟨_,rfl,_,rfl,lR R,lR R,zgd (SqL.of (s814 _ _ e8)) vr14,zgd (SqL.of (s914 _ _ e9)) vr14,zf7 so,zf7 so,_,rfl,iteN (by rw[zmC];simp) ?_⟩
    have s714:=s8.trans s814
    refine⟨_,rfl,ap,cs,rfl,⟨cvs,(s7.trans s714).seq hq5,hv7.mono fun x v h=>h.kt (KT.of s714)⟩,nd,by lia,fun td H15 htd s15 e15=>?_⟩
    refine⟨_,rfl,td,pr,cs,rv,R,rfl,.inl e15,(s814.trans s15) _ _ e8,hvr.mono (fun x v h=>rR.kt h (KT.of (s814.trans s15))),hrl,fun r hr=>?_,by lia,hbox.le hm,fun H16 s16=>⟨_,rfl,iteF ?_⟩⟩
    ·obtain⟨j,hj,ej⟩:=List.getElem_of_mem hr
     have hjE:j<ESS.length:=by rw[← hok.length];exact hj
     exact⟨ESS[j],hok.at (List.getElem?_eq_getElem hjE) (by rw[List.getElem?_eq_getElem hj,ej])⟩
    ·exact⟨_,_,_,_,_,_,_,_,_,_,rfl,s5.trans (s7.trans (s714.trans (s15.trans s16)))⟩
  ·rintro σ H3 ⟨o1,o2,o3,o4,o5,o6,o7,o8,o9,o10,rfl,s3⟩
   exact k H3
end
open PySem L2 RP
theorem all_mk {l : W.OpenLaw}{w : World}{K : W.Frag}{h : Heap}{mg : Str → Option Value}{fa : Addr}(X : K.In h) (G : h.Ns mainGlobals mg) (hfa : mg "law" = some (.ref fa))
  {f0:Addr} {od0 an0:Option Addr} {sl0:Array (Option Value)} {oc0 kV0 dc0 pm0 cd0 ct0:Value}
  (a0:W.nsIn K mainGlobals "cell_order" = some (some (.ref f0))) (l0:K.lookup f0=some ⟨oc0,od0,.func (W.fnOf "cell_order" "cell_order" (zal zbu) (zak zbu) (zab zbu) .none kV0 dc0 pm0 an0 cd0 ct0),sl0⟩) (c0:W.codeIn K cd0 "cell_order" = true) (k0:W.keepIn K (.ref f0)=true)
  {f1:Addr} {od1 an1:Option Addr} {sl1:Array (Option Value)} {oc1 kV1 dc1 pm1 cd1 ct1:Value}
  (a1:W.nsIn K mainGlobals "ask_picture" = some (some (.ref f1))) (l1:K.lookup f1=some ⟨oc1,od1,.func (W.fnOf "ask_picture" "ask_picture" (zal zbd) (zak zbd) (zab zbd) .none kV1 dc1 pm1 an1 cd1 ct1),sl1⟩) (c1:W.codeIn K cd1 "ask_picture" = true) (k1:W.keepIn K (.ref f1)=true)
  {f2:Addr} {od2 an2:Option Addr} {sl2:Array (Option Value)} {oc2 kV2 dc2 pm2 cd2 ct2:Value}
  (a2:W.nsIn K mainGlobals "gone" = some (some (.ref f2))) (l2:K.lookup f2=some ⟨oc2,od2,.func (W.fnOf "gone" "gone" (zal zd2) (zak zd2) (zab zd2) .none kV2 dc2 pm2 an2 cd2 ct2),sl2⟩) (c2:W.codeIn K cd2 "gone" = true) (k2:W.keepIn K (.ref f2)=true)
  {f3:Addr} {od3 an3:Option Addr} {sl3:Array (Option Value)} {oc3 kV3 dc3 pm3 cd3 ct3:Value}
  (a3:W.nsIn K mainGlobals "cell_table" = some (some (.ref f3))) (l3:K.lookup f3=some ⟨oc3,od3,.func (W.fnOf "cell_table" "cell_table" (zal za5) (zak za5) (zab za5) .none kV3 dc3 pm3 an3 cd3 ct3),sl3⟩) (c3:W.codeIn K cd3 "cell_table" = true) (k3:W.keepIn K (.ref f3)=true)
  {f4:Addr} {od4 an4:Option Addr} {sl4:Array (Option Value)} {oc4 kV4 dc4 pm4 cd4 ct4:Value}
  (a4:W.nsIn K mainGlobals "gap_beside" = some (some (.ref f4))) (l4:K.lookup f4=some ⟨oc4,od4,.func (W.fnOf "gap_beside" "gap_beside" (zal zbs) (zak zbs) (zab zbs) .none kV4 dc4 pm4 an4 cd4 ct4),sl4⟩) (c4:W.codeIn K cd4 "gap_beside" = true) (k4:W.keepIn K (.ref f4)=true)
  {f5:Addr} {od5 an5:Option Addr} {sl5:Array (Option Value)} {oc5 kV5 dc5 pm5 cd5 ct5:Value}
  (a5:W.nsIn K mainGlobals "all_edges" = some (some (.ref f5))) (l5:K.lookup f5=some ⟨oc5,od5,.func (W.fnOf "all_edges" "all_edges" (zal zbe) (zak zbe) (zab zbe) .none kV5 dc5 pm5 an5 cd5 ct5),sl5⟩) (c5:W.codeIn K cd5 "all_edges" = true) (k5:W.keepIn K (.ref f5)=true)
  {f6:Addr} {od6 an6:Option Addr} {sl6:Array (Option Value)} {oc6 kV6 dc6 pm6 cd6 ct6:Value}
  (a6:W.nsIn K mainGlobals "straight_step" = some (some (.ref f6))) (l6:K.lookup f6=some ⟨oc6,od6,.func (W.fnOf "straight_step" "straight_step" (zal zaP) (zak zaP) (zab zaP) .none kV6 dc6 pm6 an6 cd6 ct6),sl6⟩) (c6:W.codeIn K cd6 "straight_step" = true) (k6:W.keepIn K (.ref f6)=true)
  {f7:Addr} {od7 an7:Option Addr} {sl7:Array (Option Value)} {oc7 kV7 dc7 pm7 cd7 ct7:Value}
  (a7:W.nsIn K mainGlobals "slant_step" = some (some (.ref f7))) (l7:K.lookup f7=some ⟨oc7,od7,.func (W.fnOf "slant_step" "slant_step" (zal zbr) (zak zbr) (zab zbr) .none kV7 dc7 pm7 an7 cd7 ct7),sl7⟩) (c7:W.codeIn K cd7 "slant_step" = true) (k7:W.keepIn K (.ref f7)=true)
  {f8:Addr} {od8 an8:Option Addr} {sl8:Array (Option Value)} {oc8 kV8 dc8 pm8 cd8 ct8:Value}
  (a8:W.nsIn K mainGlobals "step_behind" = some (some (.ref f8))) (l8:K.lookup f8=some ⟨oc8,od8,.func (W.fnOf "step_behind" "step_behind" (zal za8) (zak za8) (zab za8) .none kV8 dc8 pm8 an8 cd8 ct8),sl8⟩) (c8:W.codeIn K cd8 "step_behind" = true) (k8:W.keepIn K (.ref f8)=true)
  {f9:Addr} {od9 an9:Option Addr} {sl9:Array (Option Value)} {oc9 kV9 dc9 pm9 cd9 ct9:Value}
  (a9:W.nsIn K mainGlobals "is_slant" = some (some (.ref f9))) (l9:K.lookup f9=some ⟨oc9,od9,.func (W.fnOf "is_slant" "is_slant" (zal zb0) (zak zb0) (zab zb0) .none kV9 dc9 pm9 an9 cd9 ct9),sl9⟩) (c9:W.codeIn K cd9 "is_slant" = true) (k9:W.keepIn K (.ref f9)=true)
  {f10:Addr} {od10 an10:Option Addr} {sl10:Array (Option Value)} {oc10 kV10 dc10 pm10 cd10 ct10:Value}
  (a10:W.nsIn K mainGlobals "edge_behind" = some (some (.ref f10))) (l10:K.lookup f10=some ⟨oc10,od10,.func (W.fnOf "edge_behind" "edge_behind" (zal zbb) (zak zbb) (zab zbb) .none kV10 dc10 pm10 an10 cd10 ct10),sl10⟩) (c10:W.codeIn K cd10 "edge_behind" = true) (k10:W.keepIn K (.ref f10)=true)
  {f11:Addr} {od11 an11:Option Addr} {sl11:Array (Option Value)} {oc11 kV11 dc11 pm11 cd11 ct11:Value}
  (a11:W.nsIn K mainGlobals "walk_from" = some (some (.ref f11))) (l11:K.lookup f11=some ⟨oc11,od11,.func (W.fnOf "walk_from" "walk_from" (zal zbG) (zak zbG) (zab zbG) .none kV11 dc11 pm11 an11 cd11 ct11),sl11⟩) (c11:W.codeIn K cd11 "walk_from" = true) (k11:W.keepIn K (.ref f11)=true)
  {f12:Addr} {od12 an12:Option Addr} {sl12:Array (Option Value)} {oc12 kV12 dc12 pm12 cd12 ct12:Value}
  (a12:W.nsIn K mainGlobals "lefts_and_slants" = some (some (.ref f12))) (l12:K.lookup f12=some ⟨oc12,od12,.func (W.fnOf "lefts_and_slants" "lefts_and_slants" (zal zat) (zak zat) (zab zat) .none kV12 dc12 pm12 an12 cd12 ct12),sl12⟩) (c12:W.codeIn K cd12 "lefts_and_slants" = true) (k12:W.keepIn K (.ref f12)=true)
  {f13:Addr} {od13 an13:Option Addr} {sl13:Array (Option Value)} {oc13 kV13 dc13 pm13 cd13 ct13:Value}
  (a13:W.nsIn K mainGlobals "lefts_less_slants" = some (some (.ref f13))) (l13:K.lookup f13=some ⟨oc13,od13,.func (W.fnOf "lefts_less_slants" "lefts_less_slants" (zal zay) (zak zay) (zab zay) .none kV13 dc13 pm13 an13 cd13 ct13),sl13⟩) (c13:W.codeIn K cd13 "lefts_less_slants" = true) (k13:W.keepIn K (.ref f13)=true)
  {f14:Addr} {od14 an14:Option Addr} {sl14:Array (Option Value)} {oc14 kV14 dc14 pm14 cd14 ct14:Value}
  (a14:W.nsIn K mainGlobals "sort_of" = some (some (.ref f14))) (l14:K.lookup f14=some ⟨oc14,od14,.func (W.fnOf "sort_of" "sort_of" (zal zcj) (zak zcj) (zab zcj) .none kV14 dc14 pm14 an14 cd14 ct14),sl14⟩) (c14:W.codeIn K cd14 "sort_of" = true) (k14:W.keepIn K (.ref f14)=true)
  {f15:Addr} {od15 an15:Option Addr} {sl15:Array (Option Value)} {oc15 kV15 dc15 pm15 cd15 ct15:Value}
  (a15:W.nsIn K mainGlobals "begin_of" = some (some (.ref f15))) (l15:K.lookup f15=some ⟨oc15,od15,.func (W.fnOf "begin_of" "begin_of" (zal zbR) (zak zbR) (zab zbR) .none kV15 dc15 pm15 an15 cd15 ct15),sl15⟩) (c15:W.codeIn K cd15 "begin_of" = true) (k15:W.keepIn K (.ref f15)=true)
  {f16:Addr} {od16 an16:Option Addr} {sl16:Array (Option Value)} {oc16 kV16 dc16 pm16 cd16 ct16:Value}
  (a16:W.nsIn K mainGlobals "round_of" = some (some (.ref f16))) (l16:K.lookup f16=some ⟨oc16,od16,.func (W.fnOf "round_of" "round_of" (zal zbk) (zak zbk) (zab zbk) .none kV16 dc16 pm16 an16 cd16 ct16),sl16⟩) (c16:W.codeIn K cd16 "round_of" = true) (k16:W.keepIn K (.ref f16)=true)
  {f17:Addr} {od17 an17:Option Addr} {sl17:Array (Option Value)} {oc17 kV17 dc17 pm17 cd17 ct17:Value}
  (a17:W.nsIn K mainGlobals "round_order" = some (some (.ref f17))) (l17:K.lookup f17=some ⟨oc17,od17,.func (W.fnOf "round_order" "round_order" (zal za9) (zak za9) (zab za9) .none kV17 dc17 pm17 an17 cd17 ct17),sl17⟩) (c17:W.codeIn K cd17 "round_order" = true) (k17:W.keepIn K (.ref f17)=true)
  {f18:Addr} {od18 an18:Option Addr} {sl18:Array (Option Value)} {oc18 kV18 dc18 pm18 cd18 ct18:Value}
  (a18:W.nsIn K mainGlobals "rounds_along" = some (some (.ref f18))) (l18:K.lookup f18=some ⟨oc18,od18,.func (W.fnOf "rounds_along" "rounds_along" (zal zaZ) (zak zaZ) (zab zaZ) .none kV18 dc18 pm18 an18 cd18 ct18),sl18⟩) (c18:W.codeIn K cd18 "rounds_along" = true) (k18:W.keepIn K (.ref f18)=true)
  {f19:Addr} {od19 an19:Option Addr} {sl19:Array (Option Value)} {oc19 kV19 dc19 pm19 cd19 ct19:Value}
  (a19:W.nsIn K mainGlobals "rounds" = some (some (.ref f19))) (l19:K.lookup f19=some ⟨oc19,od19,.func (W.fnOf "rounds" "rounds" (zal zcw) (zak zcw) (zab zcw) .none kV19 dc19 pm19 an19 cd19 ct19),sl19⟩) (c19:W.codeIn K cd19 "rounds" = true) (k19:W.keepIn K (.ref f19)=true)
  {f20:Addr} {od20 an20:Option Addr} {sl20:Array (Option Value)} {oc20 kV20 dc20 pm20 cd20 ct20:Value}
  (a20:W.nsIn K mainGlobals "begin_edge" = some (some (.ref f20))) (l20:K.lookup f20=some ⟨oc20,od20,.func (W.fnOf "begin_edge" "begin_edge" (zal zbv) (zak zbv) (zab zbv) .none kV20 dc20 pm20 an20 cd20 ct20),sl20⟩) (c20:W.codeIn K cd20 "begin_edge" = true) (k20:W.keepIn K (.ref f20)=true)
  {f21:Addr} {od21 an21:Option Addr} {sl21:Array (Option Value)} {oc21 kV21 dc21 pm21 cd21 ct21:Value}
  (a21:W.nsIn K mainGlobals "way_for" = some (some (.ref f21))) (l21:K.lookup f21=some ⟨oc21,od21,.func (W.fnOf "way_for" "way_for" (zal zcf) (zak zcf) (zab zcf) .none kV21 dc21 pm21 an21 cd21 ct21),sl21⟩) (c21:W.codeIn K cd21 "way_for" = true) (k21:W.keepIn K (.ref f21)=true)
  {f22:Addr} {od22 an22:Option Addr} {sl22:Array (Option Value)} {oc22 kV22 dc22 pm22 cd22 ct22:Value}
  (a22:W.nsIn K mainGlobals "deeds_along" = some (some (.ref f22))) (l22:K.lookup f22=some ⟨oc22,od22,.func (W.fnOf "deeds_along" "deeds_along" (zal zbc) (zak zbc) (zab zbc) .none kV22 dc22 pm22 an22 cd22 ct22),sl22⟩) (c22:W.codeIn K cd22 "deeds_along" = true) (k22:W.keepIn K (.ref f22)=true)
  {f23:Addr} {od23 an23:Option Addr} {sl23:Array (Option Value)} {oc23 kV23 dc23 pm23 cd23 ct23:Value}
  (a23:W.nsIn K mainGlobals "walk_by" = some (some (.ref f23))) (l23:K.lookup f23=some ⟨oc23,od23,.func (W.fnOf "walk_by" "walk_by" (zal zch) (zak zch) (zab zch) .none kV23 dc23 pm23 an23 cd23 ct23),sl23⟩) (c23:W.codeIn K cd23 "walk_by" = true) (k23:W.keepIn K (.ref f23)=true)
  {f24:Addr} {od24 an24:Option Addr} {sl24:Array (Option Value)} {oc24 kV24 dc24 pm24 cd24 ct24:Value}
  (a24:W.nsIn K mainGlobals "walk_along" = some (some (.ref f24))) (l24:K.lookup f24=some ⟨oc24,od24,.func (W.fnOf "walk_along" "walk_along" (zal zbp) (zak zbp) (zab zbp) .none kV24 dc24 pm24 an24 cd24 ct24),sl24⟩) (c24:W.codeIn K cd24 "walk_along" = true) (k24:W.keepIn K (.ref f24)=true)
  {f25:Addr} {od25 an25:Option Addr} {sl25:Array (Option Value)} {oc25 kV25 dc25 pm25 cd25 ct25:Value}
  (a25:W.nsIn K mainGlobals "seen_between" = some (some (.ref f25))) (l25:K.lookup f25=some ⟨oc25,od25,.func (W.fnOf "seen_between" "seen_between" (zal zaY) (zak zaY) (zab zaY) .none kV25 dc25 pm25 an25 cd25 ct25),sl25⟩) (c25:W.codeIn K cd25 "seen_between" = true) (k25:W.keepIn K (.ref f25)=true)
  {f26:Addr} {od26 an26:Option Addr} {sl26:Array (Option Value)} {oc26 kV26 dc26 pm26 cd26 ct26:Value}
  (a26:W.nsIn K mainGlobals "gainsaid_at" = some (some (.ref f26))) (l26:K.lookup f26=some ⟨oc26,od26,.func (W.fnOf "gainsaid_at" "gainsaid_at" (zal zba) (zak zba) (zab zba) .none kV26 dc26 pm26 an26 cd26 ct26),sl26⟩) (c26:W.codeIn K cd26 "gainsaid_at" = true) (k26:W.keepIn K (.ref f26)=true)
  {f27:Addr} {od27 an27:Option Addr} {sl27:Array (Option Value)} {oc27 kV27 dc27 pm27 cd27 ct27:Value}
  (a27:W.nsIn K mainGlobals "comes_back" = some (some (.ref f27))) (l27:K.lookup f27=some ⟨oc27,od27,.func (W.fnOf "comes_back" "comes_back" (zal zbt) (zak zbt) (zab zbt) .none kV27 dc27 pm27 an27 cd27 ct27),sl27⟩) (c27:W.codeIn K cd27 "comes_back" = true) (k27:W.keepIn K (.ref f27)=true)
  {f28:Addr} {od28 an28:Option Addr} {sl28:Array (Option Value)} {oc28 kV28 dc28 pm28 cd28 ct28:Value}
  (a28:W.nsIn K mainGlobals "is_closed" = some (some (.ref f28))) (l28:K.lookup f28=some ⟨oc28,od28,.func (W.fnOf "is_closed" "is_closed" (zal zbH) (zak zbH) (zab zbH) .none kV28 dc28 pm28 an28 cd28 ct28),sl28⟩) (c28:W.codeIn K cd28 "is_closed" = true) (k28:W.keepIn K (.ref f28)=true)
  {f29:Addr} {od29 an29:Option Addr} {sl29:Array (Option Value)} {oc29 kV29 dc29 pm29 cd29 ct29:Value}
  (a29:W.nsIn K mainGlobals "walk_of" = some (some (.ref f29))) (l29:K.lookup f29=some ⟨oc29,od29,.func (W.fnOf "walk_of" "walk_of" (zal zcg) (zak zcg) (zab zcg) .none kV29 dc29 pm29 an29 cd29 ct29),sl29⟩) (c29:W.codeIn K cd29 "walk_of" = true) (k29:W.keepIn K (.ref f29)=true)
  {f30:Addr} {od30 an30:Option Addr} {sl30:Array (Option Value)} {oc30 kV30 dc30 pm30 cd30 ct30:Value}
  (a30:W.nsIn K mainGlobals "edges_of" = some (some (.ref f30))) (l30:K.lookup f30=some ⟨oc30,od30,.func (W.fnOf "edges_of" "edges_of" (zal zbQ) (zak zbQ) (zab zbQ) .none kV30 dc30 pm30 an30 cd30 ct30),sl30⟩) (c30:W.codeIn K cd30 "edges_of" = true) (k30:W.keepIn K (.ref f30)=true)
  {f31:Addr} {od31 an31:Option Addr} {sl31:Array (Option Value)} {oc31 kV31 dc31 pm31 cd31 ct31:Value}
  (a31:W.nsIn K mainGlobals "sums_up_to" = some (some (.ref f31))) (l31:K.lookup f31=some ⟨oc31,od31,.func (W.fnOf "sums_up_to" "sums_up_to" (zal zbq) (zak zbq) (zab zbq) .none kV31 dc31 pm31 an31 cd31 ct31),sl31⟩) (c31:W.codeIn K cd31 "sums_up_to" = true) (k31:W.keepIn K (.ref f31)=true)
  {f32:Addr} {od32 an32:Option Addr} {sl32:Array (Option Value)} {oc32 kV32 dc32 pm32 cd32 ct32:Value}
  (a32:W.nsIn K mainGlobals "added" = some (some (.ref f32))) (l32:K.lookup f32=some ⟨oc32,od32,.func (W.fnOf "added" "added" (zal zcG) (zak zcG) (zab zcG) .none kV32 dc32 pm32 an32 cd32 ct32),sl32⟩) (c32:W.codeIn K cd32 "added" = true) (k32:W.keepIn K (.ref f32)=true)
  {f33:Addr} {od33 an33:Option Addr} {sl33:Array (Option Value)} {oc33 kV33 dc33 pm33 cd33 ct33:Value}
  (a33:W.nsIn K mainGlobals "lessened" = some (some (.ref f33))) (l33:K.lookup f33=some ⟨oc33,od33,.func (W.fnOf "lessened" "lessened" (zal zbP) (zak zbP) (zab zbP) .none kV33 dc33 pm33 an33 cd33 ct33),sl33⟩) (c33:W.codeIn K cd33 "lessened" = true) (k33:W.keepIn K (.ref f33)=true)
  {f34:Addr} {od34 an34:Option Addr} {sl34:Array (Option Value)} {oc34 kV34 dc34 pm34 cd34 ct34:Value}
  (a34:W.nsIn K mainGlobals "sums_within" = some (some (.ref f34))) (l34:K.lookup f34=some ⟨oc34,od34,.func (W.fnOf "sums_within" "sums_within" (zal za7) (zak za7) (zab za7) .none kV34 dc34 pm34 an34 cd34 ct34),sl34⟩) (c34:W.codeIn K cd34 "sums_within" = true) (k34:W.keepIn K (.ref f34)=true)
  {f35:Addr} {od35 an35:Option Addr} {sl35:Array (Option Value)} {oc35 kV35 dc35 pm35 cd35 ct35:Value}
  (a35:W.nsIn K mainGlobals "sums_of" = some (some (.ref f35))) (l35:K.lookup f35=some ⟨oc35,od35,.func (W.fnOf "sums_of" "sums_of" (zal zci) (zak zci) (zab zci) .none kV35 dc35 pm35 an35 cd35 ct35),sl35⟩) (c35:W.codeIn K cd35 "sums_of" = true) (k35:W.keepIn K (.ref f35)=true)
  {f36:Addr} {od36 an36:Option Addr} {sl36:Array (Option Value)} {oc36 kV36 dc36 pm36 cd36 ct36:Value}
  (a36:W.nsIn K mainGlobals "_law_cell_at" = some (some (.ref f36))) (l36:K.lookup f36=some ⟨oc36,od36,.func (W.fnOf "_law_cell_at" "_law_cell_at" (zal za1) (zak za1) (zab za1) .none kV36 dc36 pm36 an36 cd36 ct36),sl36⟩) (c36:W.codeIn K cd36 "_law_cell_at" = true) (k36:W.keepIn K (.ref f36)=true)
  {f37:Addr} {od37 an37:Option Addr} {sl37:Array (Option Value)} {oc37 kV37 dc37 pm37 cd37 ct37:Value}
  (a37:W.nsIn K mainGlobals "_law_take" = some (some (.ref f37))) (l37:K.lookup f37=some ⟨oc37,od37,.func (W.fnOf "_law_take" "_law_take" (zal zbI) (zak zbI) (zab zbI) .none kV37 dc37 pm37 an37 cd37 ct37),sl37⟩) (c37:W.codeIn K cd37 "_law_take" = true) (k37:W.keepIn K (.ref f37)=true)
  {f38:Addr} {od38 an38:Option Addr} {sl38:Array (Option Value)} {oc38 kV38 dc38 pm38 cd38 ct38:Value}
  (a38:W.nsIn K mainGlobals "_law_far" = some (some (.ref f38))) (l38:K.lookup f38=some ⟨oc38,od38,.func (W.fnOf "_law_far" "_law_far" (zal zb2) (zak zb2) (zab zb2) .none kV38 dc38 pm38 an38 cd38 ct38),sl38⟩) (c38:W.codeIn K cd38 "_law_far" = true) (k38:W.keepIn K (.ref f38)=true)
  {f39:Addr} {od39 an39:Option Addr} {sl39:Array (Option Value)} {oc39 kV39 dc39 pm39 cd39 ct39:Value}
  (a39:W.nsIn K mainGlobals "_law_is_there" = some (some (.ref f39))) (l39:K.lookup f39=some ⟨oc39,od39,.func (W.fnOf "_law_is_there" "_law_is_there" (zal zaQ) (zak zaQ) (zab zaQ) .none kV39 dc39 pm39 an39 cd39 ct39),sl39⟩) (c39:W.codeIn K cd39 "_law_is_there" = true) (k39:W.keepIn K (.ref f39)=true)
  {f40:Addr} {od40 an40:Option Addr} {sl40:Array (Option Value)} {oc40 kV40 dc40 pm40 cd40 ct40:Value}
  (a40:W.nsIn K mainGlobals "_law_picture" = some (some (.ref f40))) (l40:K.lookup f40=some ⟨oc40,od40,.func (W.fnOf "_law_picture" "_law_picture" (zal za0) (zak za0) (zab za0) .none kV40 dc40 pm40 an40 cd40 ct40),sl40⟩) (c40:W.codeIn K cd40 "_law_picture" = true) (k40:W.keepIn K (.ref f40)=true)
  {f41:Addr} {od41 an41:Option Addr} {sl41:Array (Option Value)} {oc41 kV41 dc41 pm41 cd41 ct41:Value}
  (a41:W.nsIn K mainGlobals "_law_lot" = some (some (.ref f41))) (l41:K.lookup f41=some ⟨oc41,od41,.func (W.fnOf "_law_lot" "_law_lot" (zal zb1) (zak zb1) (zab zb1) .none kV41 dc41 pm41 an41 cd41 ct41),sl41⟩) (c41:W.codeIn K cd41 "_law_lot" = true) (k41:W.keepIn K (.ref f41)=true)
  {f42:Addr} {od42 an42:Option Addr} {sl42:Array (Option Value)} {oc42 kV42 dc42 pm42 cd42 ct42:Value}
  (a42:W.nsIn K mainGlobals "_law_four" = some (some (.ref f42))) (l42:K.lookup f42=some ⟨oc42,od42,.func (W.fnOf "_law_four" "_law_four" (zal zbf) (zak zbf) (zab zbf) .none kV42 dc42 pm42 an42 cd42 ct42),sl42⟩) (c42:W.codeIn K cd42 "_law_four" = true) (k42:W.keepIn K (.ref f42)=true)
  {f43:Addr} {od43 an43:Option Addr} {sl43:Array (Option Value)} {oc43 kV43 dc43 pm43 cd43 ct43:Value}
  (a43:W.nsIn K mainGlobals "_law_eight" = some (some (.ref f43))) (l43:K.lookup f43=some ⟨oc43,od43,.func (W.fnOf "_law_eight" "_law_eight" (zal zaU) (zak zaU) (zab zaU) .none kV43 dc43 pm43 an43 cd43 ct43),sl43⟩) (c43:W.codeIn K cd43 "_law_eight" = true) (k43:W.keepIn K (.ref f43)=true)
  {f44:Addr} {od44 an44:Option Addr} {sl44:Array (Option Value)} {oc44 kV44 dc44 pm44 cd44 ct44:Value}
  (a44:W.nsIn K mainGlobals "_law_dict" = some (some (.ref f44))) (l44:K.lookup f44=some ⟨oc44,od44,.func (W.fnOf "_law_dict" "_law_dict" (zal zbJ) (zak zbJ) (zab zbJ) .none kV44 dc44 pm44 an44 cd44 ct44),sl44⟩) (c44:W.codeIn K cd44 "_law_dict" = true) (k44:W.keepIn K (.ref f44)=true)
  {f45:Addr} {od45 an45:Option Addr} {sl45:Array (Option Value)} {oc45 kV45 dc45 pm45 cd45 ct45:Value}
  (a45:W.nsIn K mainGlobals "_law_within" = some (some (.ref f45))) (l45:K.lookup f45=some ⟨oc45,od45,.func (W.fnOf "_law_within" "_law_within" (zal zax) (zak zax) (zab zax) .none kV45 dc45 pm45 an45 cd45 ct45),sl45⟩) (c45:W.codeIn K cd45 "_law_within" = true) (k45:W.keepIn K (.ref f45)=true)
  {f46:Addr} {od46 an46:Option Addr} {sl46:Array (Option Value)} {oc46 kV46 dc46 pm46 cd46 ct46:Value}
  (a46:W.nsIn K mainGlobals "_law_wholes" = some (some (.ref f46))) (l46:K.lookup f46=some ⟨oc46,od46,.func (W.fnOf "_law_wholes" "_law_wholes" (zal zaT) (zak zaT) (zab zaT) .none kV46 dc46 pm46 an46 cd46 ct46),sl46⟩) (c46:W.codeIn K cd46 "_law_wholes" = true) (k46:W.keepIn K (.ref f46)=true)
  {f47:Addr} {od47 an47:Option Addr} {sl47:Array (Option Value)} {oc47 kV47 dc47 pm47 cd47 ct47:Value}
  (a47:W.nsIn K mainGlobals "_law_due" = some (some (.ref f47))) (l47:K.lookup f47=some ⟨oc47,od47,.func (W.fnOf "_law_due" "_law_due" (zal zb3) (zak zb3) (zab zb3) .none kV47 dc47 pm47 an47 cd47 ct47),sl47⟩) (c47:W.codeIn K cd47 "_law_due" = true) (k47:W.keepIn K (.ref f47)=true)
  {f48:Addr} {od48 an48:Option Addr} {sl48:Array (Option Value)} {oc48 kV48 dc48 pm48 cd48 ct48:Value}
  (a48:W.nsIn K mainGlobals "_law_parts_right" = some (some (.ref f48))) (l48:K.lookup f48=some ⟨oc48,od48,.func (W.fnOf "_law_parts_right" "_law_parts_right" (zal zau) (zak zau) (zab zau) .none kV48 dc48 pm48 an48 cd48 ct48),sl48⟩) (c48:W.codeIn K cd48 "_law_parts_right" = true) (k48:W.keepIn K (.ref f48)=true)
  {f49:Addr} {od49 an49:Option Addr} {sl49:Array (Option Value)} {oc49 kV49 dc49 pm49 cd49 ct49:Value}
  (a49:W.nsIn K mainGlobals "law" = some (some (.ref f49))) (l49:K.lookup f49=some ⟨oc49,od49,.func (W.fnOf "law" "law" (zal s_law) (zak s_law) (zab s_law) .none kV49 dc49 pm49 an49 cd49 ct49),sl49⟩) (c49:W.codeIn K cd49 "law" = true) (k49:W.keepIn K (.ref f49)=true)
  {M m0 m1 m2 m3 m4 m5 m6 m7:Addr} {odM:Option Addr} {nM:Nat} {slM:Array (Option Value)}
  (aM:W.nsIn K mainGlobals "MOVES" = some (some (.ref M))) (lM:K.lookup M=some ⟨.type "tuple",odM,.seq #[.ref m0,.ref m1,.ref m2,.ref m3,.ref m4,.ref m5,.ref m6,.ref m7] nM,slM⟩)
  {odm0:Option Addr} {nm0:Nat} {slm0:Array (Option Value)} {tm0 um0:Tok} (x0:K.lookup m0=some ⟨.type "tuple",odm0,.seq #[.int (1) tm0,.int (0) um0] nm0,slm0⟩)
  {odm1:Option Addr} {nm1:Nat} {slm1:Array (Option Value)} {tm1 um1:Tok} (x1:K.lookup m1=some ⟨.type "tuple",odm1,.seq #[.int (1) tm1,.int (1) um1] nm1,slm1⟩)
  {odm2:Option Addr} {nm2:Nat} {slm2:Array (Option Value)} {tm2 um2:Tok} (x2:K.lookup m2=some ⟨.type "tuple",odm2,.seq #[.int (0) tm2,.int (1) um2] nm2,slm2⟩)
  {odm3:Option Addr} {nm3:Nat} {slm3:Array (Option Value)} {tm3 um3:Tok} (x3:K.lookup m3=some ⟨.type "tuple",odm3,.seq #[.int (-1) tm3,.int (1) um3] nm3,slm3⟩)
  {odm4:Option Addr} {nm4:Nat} {slm4:Array (Option Value)} {tm4 um4:Tok} (x4:K.lookup m4=some ⟨.type "tuple",odm4,.seq #[.int (-1) tm4,.int (0) um4] nm4,slm4⟩)
  {odm5:Option Addr} {nm5:Nat} {slm5:Array (Option Value)} {tm5 um5:Tok} (x5:K.lookup m5=some ⟨.type "tuple",odm5,.seq #[.int (-1) tm5,.int (-1) um5] nm5,slm5⟩)
  {odm6:Option Addr} {nm6:Nat} {slm6:Array (Option Value)} {tm6 um6:Tok} (x6:K.lookup m6=some ⟨.type "tuple",odm6,.seq #[.int (0) tm6,.int (-1) um6] nm6,slm6⟩)
  {odm7:Option Addr} {nm7:Nat} {slm7:Array (Option Value)} {tm7 um7:Tok} (x7:K.lookup m7=some ⟨.type "tuple",odm7,.seq #[.int (1) tm7,.int (-1) um7] nm7,slm7⟩)
  {B:Addr} {t1 t2 t3 t4:Tok} {nB:Nat} (aB:W.nsIn K mainGlobals "BEGIN_WAYS" = some (some (.ref B))) (lB:K.lookup B=some ⟨.type "dict",none,.dict #[⟨PyData.keyHash w.params "rim",.str "rim" t1,.int 0 t2⟩,⟨PyData.keyHash w.params "hole",.str "hole" t3,.int 2 t4⟩] nB,#[]⟩)
  {B2:Addr} {u1 u2 u3 u4:Tok} {nB2:Nat} (aB2:W.nsIn K mainGlobals "MORE_LEFTS" = some (some (.ref B2))) (lB2:K.lookup B2=some ⟨.type "dict",none,.dict #[⟨PyData.keyHash w.params "rim",.str "rim" u1,.int 4 u2⟩,⟨PyData.keyHash w.params "hole",.str "hole" u3,.int (-4) u4⟩] nB2,#[]⟩)
  {MNO_SUMS:Addr} {odNO_SUMS:Option Addr} {nNO_SUMS:Nat} {slNO_SUMS:Array (Option Value)} {tNO_SUMS0 tNO_SUMS1 tNO_SUMS2 tNO_SUMS3 tNO_SUMS4 tNO_SUMS5:Tok}
  (aNO_SUMS:W.nsIn K mainGlobals "NO_SUMS" = some (some (.ref MNO_SUMS))) (lNO_SUMS:K.lookup MNO_SUMS=some ⟨.type "tuple",odNO_SUMS,.seq #[.int (0) tNO_SUMS0,.int (0) tNO_SUMS1,.int (0) tNO_SUMS2,.int (0) tNO_SUMS3,.int (0) tNO_SUMS4,.int (0) tNO_SUMS5] nNO_SUMS,slNO_SUMS⟩)
  (z_range:W.nsIn K mainGlobals "range" = some none)
  (z_len:W.nsIn K mainGlobals "len" = some none)
  (z_min:W.nsIn K mainGlobals "min" = some none)
  (z_max:W.nsIn K mainGlobals "max" = some none)
  (z_sorted:W.nsIn K mainGlobals "sorted" = some none)
  (z_tuple:W.nsIn K mainGlobals "tuple" = some none)
  (z_int:W.nsIn K mainGlobals "int" = some none)
  (z_bool:W.nsIn K mainGlobals "bool" = some none)
  (z_abs:W.nsIn K mainGlobals "abs" = some none)
  (z_all:W.nsIn K mainGlobals "all" = some none)
  (z_any:W.nsIn K mainGlobals "any" = some none)
  (z_isinstance:W.nsIn K mainGlobals "isinstance" = some none)
  (z_zip:W.nsIn K mainGlobals "zip" = some none)
  (z_list:W.nsIn K mainGlobals "list" = some none)
  (z_enumerate:W.nsIn K mainGlobals "enumerate" = some none) :
  ∃ fd:FuncData,(∀ (s:Shared) (v:Value),BindsTo s fd ⟨[v],[]⟩ [("_law_script",v)])∧∀ base:Heap,K.In base→base.Ns mainGlobals mg→FnOk l.prog w K mg base CX0 10 fa fd ["_law_script"] (spLaw K):=by
 have e:=hfa.symm.trans (W.mg_of X G a49)
 cases e
 have moves:∃ M,mg "MOVES" = some (.ref M)∧∀ H,∃ ms:List Addr,SqT K H M (ms.map V.ref)∧ms.length=8∧∀ (i:Nat) a,ms[i]?=some a→SqT K H a [.int (mv i).1,.int (mv i).2]:=by
  refine⟨M,W.mg_of X G aM,fun H=>⟨[m0,m1,m2,m3,m4,m5,m6,m7],.inr ⟨_,_,_,lM,rfl,rfl,(by show 8≤sizeLine;decide),.cons rfl (.cons rfl (.cons rfl (.cons rfl (.cons rfl (.cons rfl (.cons rfl (.cons rfl .nil)))))))⟩,rfl,fun i a e=>?_⟩⟩
  match i,e with
  | 0,e=>cases e;exact .inr ⟨_,_,_,x0,rfl,rfl,(by show 2≤sizeLine;decide),.cons ⟨_,rfl⟩ (.cons ⟨_,rfl⟩ .nil)⟩
  | 1,e=>cases e;exact .inr ⟨_,_,_,x1,rfl,rfl,(by show 2≤sizeLine;decide),.cons ⟨_,rfl⟩ (.cons ⟨_,rfl⟩ .nil)⟩
  | 2,e=>cases e;exact .inr ⟨_,_,_,x2,rfl,rfl,(by show 2≤sizeLine;decide),.cons ⟨_,rfl⟩ (.cons ⟨_,rfl⟩ .nil)⟩
  | 3,e=>cases e;exact .inr ⟨_,_,_,x3,rfl,rfl,(by show 2≤sizeLine;decide),.cons ⟨_,rfl⟩ (.cons ⟨_,rfl⟩ .nil)⟩
  | 4,e=>cases e;exact .inr ⟨_,_,_,x4,rfl,rfl,(by show 2≤sizeLine;decide),.cons ⟨_,rfl⟩ (.cons ⟨_,rfl⟩ .nil)⟩
  | 5,e=>cases e;exact .inr ⟨_,_,_,x5,rfl,rfl,(by show 2≤sizeLine;decide),.cons ⟨_,rfl⟩ (.cons ⟨_,rfl⟩ .nil)⟩
  | 6,e=>cases e;exact .inr ⟨_,_,_,x6,rfl,rfl,(by show 2≤sizeLine;decide),.cons ⟨_,rfl⟩ (.cons ⟨_,rfl⟩ .nil)⟩
  | 7,e=>cases e;exact .inr ⟨_,_,_,x7,rfl,rfl,(by show 2≤sizeLine;decide),.cons ⟨_,rfl⟩ (.cons ⟨_,rfl⟩ .nil)⟩
  | i+8,e=>exact absurd (List.getElem?_eq_some_iff.mp e).1 (by simp)
 have ways:Ways l.prog w K mg:=⟨⟨B,t1,t2,t3,t4,nB,W.mg_of X G aB,lB⟩⟩
 have hiNO_SUMS:∃ M,mg "NO_SUMS" = some (.ref M)∧∀ H,SqT K H M [.int (0),.int (0),.int (0),.int (0),.int (0),.int (0)]:=⟨MNO_SUMS,W.mg_of X G aNO_SUMS,fun H=>.inr ⟨_,_,_,lNO_SUMS,rfl,rfl,(by show 6≤sizeLine;decide),(.cons ⟨_,rfl⟩ (.cons ⟨_,rfl⟩ (.cons ⟨_,rfl⟩ (.cons ⟨_,rfl⟩ (.cons ⟨_,rfl⟩ (.cons ⟨_,rfl⟩ .nil))))))⟩⟩
 have T:Txt l.prog w K mg:={ moves:=moves,ways:=ways,more:=⟨⟨B2,u1,u2,u3,u4,nB2,W.mg_of X G aB2,lB2⟩⟩,iNO_SUMS:=hiNO_SUMS,nrange:=W.mg_none_of X G z_range,nlen:=W.mg_none_of X G z_len,nmin:=W.mg_none_of X G z_min,nmax:=W.mg_none_of X G z_max,nsorted:=W.mg_none_of X G z_sorted,ntuple:=W.mg_none_of X G z_tuple,nint:=W.mg_none_of X G z_int,nbool:=W.mg_none_of X G z_bool,nabs:=W.mg_none_of X G z_abs,nall:=W.mg_none_of X G z_all,nany:=W.mg_none_of X G z_any,nisinstance:=W.mg_none_of X G z_isinstance,nzip:=W.mg_none_of X G z_zip,nlist:=W.mg_none_of X G z_list,nenumerate:=W.mg_none_of X G z_enumerate }
 have F0:=zar (st:=zbu) l0 c0 k0
 have b0:=F0.binds (ps:=["cell"]) fun _ _ _ _ _ _ us hl=>match us,hl with | [_],_=>rfl
 have d_cell_order:Df K mg "cell_order" zbu ["cell"]:=⟨f0,_,F0,W.mg_of X G a0,b0⟩
 have F1:=zar (st:=zbd) l1 c1 k1
 have b1:=F1.binds (ps:=["picture"]) fun _ _ _ _ _ _ us hl=>match us,hl with | [_],_=>rfl
 have d_ask_picture:Df K mg "ask_picture" zbd ["picture"]:=⟨f1,_,F1,W.mg_of X G a1,b1⟩
 have F2:=zar (st:=zd2) l2 c2 k2
 have b2:=F2.binds (ps:=["x","y","step"]) fun _ _ _ _ _ _ us hl=>match us,hl with | [_,_,_],_=>rfl
 have d_gone:Df K mg "gone" zd2 ["x","y","step"]:=⟨f2,_,F2,W.mg_of X G a2,b2⟩
 have F3:=zar (st:=za5) l3 c3 k3
 have b3:=F3.binds (ps:=["picture"]) fun _ _ _ _ _ _ us hl=>match us,hl with | [_],_=>rfl
 have d_cell_table:Df K mg "cell_table" za5 ["picture"]:=⟨f3,_,F3,W.mg_of X G a3,b3⟩
 have F4:=zar (st:=zbs) l4 c4 k4
 have b4:=F4.binds (ps:=["edge"]) fun _ _ _ _ _ _ us hl=>match us,hl with | [_],_=>rfl
 have d_gap_beside:Df K mg "gap_beside" zbs ["edge"]:=⟨f4,_,F4,W.mg_of X G a4,b4⟩
 have F5:=zar (st:=zbe) l5 c5 k5
 have b5:=F5.binds (ps:=["picture"]) fun _ _ _ _ _ _ us hl=>match us,hl with | [_],_=>rfl
 have d_all_edges:Df K mg "all_edges" zbe ["picture"]:=⟨f5,_,F5,W.mg_of X G a5,b5⟩
 have F6:=zar (st:=zaP) l6 c6 k6
 have b6:=F6.binds (ps:=["way"]) fun _ _ _ _ _ _ us hl=>match us,hl with | [_],_=>rfl
 have d_straight_step:Df K mg "straight_step" zaP ["way"]:=⟨f6,_,F6,W.mg_of X G a6,b6⟩
 have F7:=zar (st:=zbr) l7 c7 k7
 have b7:=F7.binds (ps:=["way"]) fun _ _ _ _ _ _ us hl=>match us,hl with | [_],_=>rfl
 have d_slant_step:Df K mg "slant_step" zbr ["way"]:=⟨f7,_,F7,W.mg_of X G a7,b7⟩
 have F8:=zar (st:=za8) l8 c8 k8
 have b8:=F8.binds (ps:=["table","edge"]) fun _ _ _ _ _ _ us hl=>match us,hl with | [_,_],_=>rfl
 have d_step_behind:Df K mg "step_behind" za8 ["table","edge"]:=⟨f8,_,F8,W.mg_of X G a8,b8⟩
 have F9:=zar (st:=zb0) l9 c9 k9
 have b9:=F9.binds (ps:=["step"]) fun _ _ _ _ _ _ us hl=>match us,hl with | [_],_=>rfl
 have d_is_slant:Df K mg "is_slant" zb0 ["step"]:=⟨f9,_,F9,W.mg_of X G a9,b9⟩
 have F10:=zar (st:=zbb) l10 c10 k10
 have b10:=F10.binds (ps:=["edge","step"]) fun _ _ _ _ _ _ us hl=>match us,hl with | [_,_],_=>rfl
 have d_edge_behind:Df K mg "edge_behind" zbb ["edge","step"]:=⟨f10,_,F10,W.mg_of X G a10,b10⟩
 have F11:=zar (st:=zbG) l11 c11 k11
 have b11:=F11.binds (ps:=["table","begin"]) fun _ _ _ _ _ _ us hl=>match us,hl with | [_,_],_=>rfl
 have d_walk_from:Df K mg "walk_from" zbG ["table","begin"]:=⟨f11,_,F11,W.mg_of X G a11,b11⟩
 have F12:=zar (st:=zat) l12 c12 k12
 have b12:=F12.binds (ps:=["walk"]) fun _ _ _ _ _ _ us hl=>match us,hl with | [_],_=>rfl
 have d_lefts_and_slants:Df K mg "lefts_and_slants" zat ["walk"]:=⟨f12,_,F12,W.mg_of X G a12,b12⟩
 have F13:=zar (st:=zay) l13 c13 k13
 have b13:=F13.binds (ps:=["walk"]) fun _ _ _ _ _ _ us hl=>match us,hl with | [_],_=>rfl
 have d_lefts_less_slants:Df K mg "lefts_less_slants" zay ["walk"]:=⟨f13,_,F13,W.mg_of X G a13,b13⟩
 have F14:=zar (st:=zcj) l14 c14 k14
 have b14:=F14.binds (ps:=["walk"]) fun _ _ _ _ _ _ us hl=>match us,hl with | [_],_=>rfl
 have d_sort_of:Df K mg "sort_of" zcj ["walk"]:=⟨f14,_,F14,W.mg_of X G a14,b14⟩
 have F15:=zar (st:=zbR) l15 c15 k15
 have b15:=F15.binds (ps:=["walk","sort"]) fun _ _ _ _ _ _ us hl=>match us,hl with | [_,_],_=>rfl
 have d_begin_of:Df K mg "begin_of" zbR ["walk","sort"]:=⟨f15,_,F15,W.mg_of X G a15,b15⟩
 have F16:=zar (st:=zbk) l16 c16 k16
 have b16:=F16.binds (ps:=["walk"]) fun _ _ _ _ _ _ us hl=>match us,hl with | [_],_=>rfl
 have d_round_of:Df K mg "round_of" zbk ["walk"]:=⟨f16,_,F16,W.mg_of X G a16,b16⟩
 have F17:=zar (st:=za9) l17 c17 k17
 have b17:=F17.binds (ps:=["one"]) fun _ _ _ _ _ _ us hl=>match us,hl with | [_],_=>rfl
 have d_round_order:Df K mg "round_order" za9 ["one"]:=⟨f17,_,F17,W.mg_of X G a17,b17⟩
 have F18:=zar (st:=zaZ) l18 c18 k18
 have b18:=F18.binds (ps:=["table","edges"]) fun _ _ _ _ _ _ us hl=>match us,hl with | [_,_],_=>rfl
 have d_rounds_along:Df K mg "rounds_along" zaZ ["table","edges"]:=⟨f18,_,F18,W.mg_of X G a18,b18⟩
 have F19:=zar (st:=zcw) l19 c19 k19
 have b19:=F19.binds (ps:=["picture"]) fun _ _ _ _ _ _ us hl=>match us,hl with | [_],_=>rfl
 have d_rounds:Df K mg "rounds" zcw ["picture"]:=⟨f19,_,F19,W.mg_of X G a19,b19⟩
 have F20:=zar (st:=zbv) l20 c20 k20
 have b20:=F20.binds (ps:=["one"]) fun _ _ _ _ _ _ us hl=>match us,hl with | [_],_=>rfl
 have d_begin_edge:Df K mg "begin_edge" zbv ["one"]:=⟨f20,_,F20,W.mg_of X G a20,b20⟩
 have F21:=zar (st:=zcf) l21 c21 k21
 have b21:=F21.binds (ps:=["step"]) fun _ _ _ _ _ _ us hl=>match us,hl with | [_],_=>rfl
 have d_way_for:Df K mg "way_for" zcf ["step"]:=⟨f21,_,F21,W.mg_of X G a21,b21⟩
 have F22:=zar (st:=zbc) l22 c22 k22
 have b22:=F22.binds (ps:=["begin_way","row"]) fun _ _ _ _ _ _ us hl=>match us,hl with | [_,_],_=>rfl
 have d_deeds_along:Df K mg "deeds_along" zbc ["begin_way","row"]:=⟨f22,_,F22,W.mg_of X G a22,b22⟩
 have F23:=zar (st:=zch) l23 c23 k23
 have b23:=F23.binds (ps:=["begin","deeds"]) fun _ _ _ _ _ _ us hl=>match us,hl with | [_,_],_=>rfl
 have d_walk_by:Df K mg "walk_by" zch ["begin","deeds"]:=⟨f23,_,F23,W.mg_of X G a23,b23⟩
 have F24:=zar (st:=zbp) l24 c24 k24
 have b24:=F24.binds (ps:=["begin","row"]) fun _ _ _ _ _ _ us hl=>match us,hl with | [_,_],_=>rfl
 have d_walk_along:Df K mg "walk_along" zbp ["begin","row"]:=⟨f24,_,F24,W.mg_of X G a24,b24⟩
 have F25:=zar (st:=zaY) l25 c25 k25
 have b25:=F25.binds (ps:=["edge","step"]) fun _ _ _ _ _ _ us hl=>match us,hl with | [_,_],_=>rfl
 have d_seen_between:Df K mg "seen_between" zaY ["edge","step"]:=⟨f25,_,F25,W.mg_of X G a25,b25⟩
 have F26:=zar (st:=zba) l26 c26 k26
 have b26:=F26.binds (ps:=["walk"]) fun _ _ _ _ _ _ us hl=>match us,hl with | [_],_=>rfl
 have d_gainsaid_at:Df K mg "gainsaid_at" zba ["walk"]:=⟨f26,_,F26,W.mg_of X G a26,b26⟩
 have F27:=zar (st:=zbt) l27 c27 k27
 have b27:=F27.binds (ps:=["walk"]) fun _ _ _ _ _ _ us hl=>match us,hl with | [_],_=>rfl
 have d_comes_back:Df K mg "comes_back" zbt ["walk"]:=⟨f27,_,F27,W.mg_of X G a27,b27⟩
 have F28:=zar (st:=zbH) l28 c28 k28
 have b28:=F28.binds (ps:=["walk","sort"]) fun _ _ _ _ _ _ us hl=>match us,hl with | [_,_],_=>rfl
 have d_is_closed:Df K mg "is_closed" zbH ["walk","sort"]:=⟨f28,_,F28,W.mg_of X G a28,b28⟩
 have F29:=zar (st:=zcg) l29 c29 k29
 have b29:=F29.binds (ps:=["one"]) fun _ _ _ _ _ _ us hl=>match us,hl with | [_],_=>rfl
 have d_walk_of:Df K mg "walk_of" zcg ["one"]:=⟨f29,_,F29,W.mg_of X G a29,b29⟩
 have F30:=zar (st:=zbQ) l30 c30 k30
 have b30:=F30.binds (ps:=["one"]) fun _ _ _ _ _ _ us hl=>match us,hl with | [_],_=>rfl
 have d_edges_of:Df K mg "edges_of" zbQ ["one"]:=⟨f30,_,F30,W.mg_of X G a30,b30⟩
 have F31:=zar (st:=zbq) l31 c31 k31
 have b31:=F31.binds (ps:=["x","y"]) fun _ _ _ _ _ _ us hl=>match us,hl with | [_,_],_=>rfl
 have d_sums_up_to:Df K mg "sums_up_to" zbq ["x","y"]:=⟨f31,_,F31,W.mg_of X G a31,b31⟩
 have F32:=zar (st:=zcG) l32 c32 k32
 have b32:=F32.binds (ps:=["sums","others"]) fun _ _ _ _ _ _ us hl=>match us,hl with | [_,_],_=>rfl
 have d_added:Df K mg "added" zcG ["sums","others"]:=⟨f32,_,F32,W.mg_of X G a32,b32⟩
 have F33:=zar (st:=zbP) l33 c33 k33
 have b33:=F33.binds (ps:=["sums","others"]) fun _ _ _ _ _ _ us hl=>match us,hl with | [_,_],_=>rfl
 have d_lessened:Df K mg "lessened" zbP ["sums","others"]:=⟨f33,_,F33,W.mg_of X G a33,b33⟩
 have F34:=zar (st:=za7) l34 c34 k34
 have b34:=F34.binds (ps:=["one"]) fun _ _ _ _ _ _ us hl=>match us,hl with | [_],_=>rfl
 have d_sums_within:Df K mg "sums_within" za7 ["one"]:=⟨f34,_,F34,W.mg_of X G a34,b34⟩
 have F35:=zar (st:=zci) l35 c35 k35
 have b35:=F35.binds (ps:=["some"]) fun _ _ _ _ _ _ us hl=>match us,hl with | [_],_=>rfl
 have d_sums_of:Df K mg "sums_of" zci ["some"]:=⟨f35,_,F35,W.mg_of X G a35,b35⟩
 have F36:=zar (st:=za1) l36 c36 k36
 have b36:=F36.binds (ps:=["_law_script","_law_k"]) fun _ _ _ _ _ _ us hl=>match us,hl with | [_,_],_=>rfl
 have d__law_cell_at:Df K mg "_law_cell_at" za1 ["_law_script","_law_k"]:=⟨f36,_,F36,W.mg_of X G a36,b36⟩
 have F37:=zar (st:=zbI) l37 c37 k37
 have b37:=F37.binds (ps:=["_law_pen","_law_base"]) fun _ _ _ _ _ _ us hl=>match us,hl with | [_,_],_=>rfl
 have d__law_take:Df K mg "_law_take" zbI ["_law_pen","_law_base"]:=⟨f37,_,F37,W.mg_of X G a37,b37⟩
 have F38:=zar (st:=zb2) l38 c38 k38
 have b38:=F38.binds (ps:=["_law_pen"]) fun _ _ _ _ _ _ us hl=>match us,hl with | [_],_=>rfl
 have d__law_far:Df K mg "_law_far" zb2 ["_law_pen"]:=⟨f38,_,F38,W.mg_of X G a38,b38⟩
 have F39:=zar (st:=zaQ) l39 c39 k39
 have b39:=F39.binds (ps:=["_law_pen","_law_way","_law_x","_law_y","_law_wide","_law_high"]) fun _ _ _ _ _ _ us hl=>match us,hl with | [_,_,_,_,_,_],_=>rfl
 have d__law_is_there:Df K mg "_law_is_there" zaQ ["_law_pen","_law_way","_law_x","_law_y","_law_wide","_law_high"]:=⟨f39,_,F39,W.mg_of X G a39,b39⟩
 have F40:=zar (st:=za0) l40 c40 k40
 have b40:=F40.binds (ps:=["_law_pen","_law_most"]) fun _ _ _ _ _ _ us hl=>match us,hl with | [_,_],_=>rfl
 have d__law_picture:Df K mg "_law_picture" za0 ["_law_pen","_law_most"]:=⟨f40,_,F40,W.mg_of X G a40,b40⟩
 have F41:=zar (st:=zb1) l41 c41 k41
 have b41:=F41.binds (ps:=["_law_start","_law_there","_law_steps"]) fun _ _ _ _ _ _ us hl=>match us,hl with | [_,_,_],_=>rfl
 have d__law_lot:Df K mg "_law_lot" zb1 ["_law_start","_law_there","_law_steps"]:=⟨f41,_,F41,W.mg_of X G a41,b41⟩
 have F42:=zar (st:=zbf) l42 c42 k42
 have b42:=F42.binds (ps:=[]) fun _ _ _ _ _ _ us hl=>match us,hl with | [],_=>rfl
 have d__law_four:Df K mg "_law_four" zbf []:=⟨f42,_,F42,W.mg_of X G a42,b42⟩
 have F43:=zar (st:=zaU) l43 c43 k43
 have b43:=F43.binds (ps:=[]) fun _ _ _ _ _ _ us hl=>match us,hl with | [],_=>rfl
 have d__law_eight:Df K mg "_law_eight" zaU []:=⟨f43,_,F43,W.mg_of X G a43,b43⟩
 have F44:=zar (st:=zbJ) l44 c44 k44
 have b44:=F44.binds (ps:=["_law_cells"]) fun _ _ _ _ _ _ us hl=>match us,hl with | [_],_=>rfl
 have d__law_dict:Df K mg "_law_dict" zbJ ["_law_cells"]:=⟨f44,_,F44,W.mg_of X G a44,b44⟩
 have F45:=zar (st:=zax) l45 c45 k45
 have b45:=F45.binds (ps:=["_law_there","_law_sort","_law_x","_law_y"]) fun _ _ _ _ _ _ us hl=>match us,hl with | [_,_,_,_],_=>rfl
 have d__law_within:Df K mg "_law_within" zax ["_law_there","_law_sort","_law_x","_law_y"]:=⟨f45,_,F45,W.mg_of X G a45,b45⟩
 have F46:=zar (st:=zaT) l46 c46 k46
 have b46:=F46.binds (ps:=["_law_found","_law_many"]) fun _ _ _ _ _ _ us hl=>match us,hl with | [_,_],_=>rfl
 have d__law_wholes:Df K mg "_law_wholes" zaT ["_law_found","_law_many"]:=⟨f46,_,F46,W.mg_of X G a46,b46⟩
 have F47:=zar (st:=zb3) l47 c47 k47
 have b47:=F47.binds (ps:=["_law_there","_law_some"]) fun _ _ _ _ _ _ us hl=>match us,hl with | [_,_],_=>rfl
 have d__law_due:Df K mg "_law_due" zb3 ["_law_there","_law_some"]:=⟨f47,_,F47,W.mg_of X G a47,b47⟩
 have F48:=zar (st:=zau) l48 c48 k48
 have b48:=F48.binds (ps:=["_law_there","_law_some"]) fun _ _ _ _ _ _ us hl=>match us,hl with | [_,_],_=>rfl
 have d__law_parts_right:Df K mg "_law_parts_right" zau ["_law_there","_law_some"]:=⟨f48,_,F48,W.mg_of X G a48,b48⟩
 have F49:=zar (st:=s_law) l49 c49 k49
 have b49:=F49.binds (ps:=["_law_script"]) fun _ _ _ _ _ _ us hl=>match us,hl with | [_],_=>rfl
 refine⟨W.fnOf "law" "law" (zal s_law) (zak s_law) (zab s_law) .none kV49 dc49 pm49 an49 cd49 ct49,fun s v=>.of_eq rfl,fun base _ _=>?_⟩
 have g_cell_order:=d_cell_order.fn (P:=l.prog) (w:=w) (base:=base) (zfz d_cell_order)
 have g_gone:=d_gone.fn (P:=l.prog) (w:=w) (base:=base) (zlQ T d_gone)
 have g_straight_step:=d_straight_step.fn (P:=l.prog) (w:=w) (base:=base) (zdJ d_straight_step)
 have g_slant_step:=d_slant_step.fn (P:=l.prog) (w:=w) (base:=base) (zft d_slant_step)
 have g_is_slant:=d_is_slant.fn (P:=l.prog) (w:=w) (base:=base) (zhe d_is_slant)
 have g_gap_beside:=d_gap_beside.fn (P:=l.prog) (w:=w) (base:=base) (zfw g_gone d_gap_beside)
 have g_ask_picture:=d_ask_picture.fn (P:=l.prog) (w:=w) (base:=base) (zex T g_cell_order d_ask_picture)
 have g_cell_table:=d_cell_table.fn (P:=l.prog) (w:=w) (base:=base) (zfy d_cell_table)
 have g_step_behind:=d_step_behind.fn (P:=l.prog) (w:=w) (base:=base) (zeq g_gone g_slant_step g_straight_step d_step_behind)
 have g_edge_behind:=d_edge_behind.fn (P:=l.prog) (w:=w) (base:=base) (zev g_gone g_is_slant d_edge_behind)
 have g_all_edges:=d_all_edges.fn (P:=l.prog) (w:=w) (base:=base) (zgl T g_cell_table g_gap_beside d_all_edges)
 have g_walk_from:=d_walk_from.fn (P:=l.prog) (w:=w) (base:=base) (zgi g_step_behind g_edge_behind d_walk_from)
 have g_lefts_and_slants:=d_lefts_and_slants.fn (P:=l.prog) (w:=w) (base:=base) (zcZ T g_is_slant d_lefts_and_slants)
 have g_lefts_less_slants:=d_lefts_less_slants.fn (P:=l.prog) (w:=w) (base:=base) (zcS g_lefts_and_slants d_lefts_less_slants)
 have g_sort_of:=d_sort_of.fn (P:=l.prog) (w:=w) (base:=base) (ziv g_lefts_less_slants d_sort_of)
 have g_begin_of:=d_begin_of.fn (P:=l.prog) (w:=w) (base:=base) (zhg T g_cell_order d_begin_of)
 have g_round_of:=d_round_of.fn (P:=l.prog) (w:=w) (base:=base) (zg9 T g_sort_of g_begin_of d_round_of)
 have g_round_order:=d_round_order.fn (P:=l.prog) (w:=w) (base:=base) (zer d_round_order)
 have g_rounds_along:=d_rounds_along.fn (P:=l.prog) (w:=w) (base:=base) (zd6 T g_walk_from g_round_of g_round_order d_rounds_along)
 have g_rounds:=d_rounds.fn (P:=l.prog) (w:=w) (base:=base) (zjw T g_ask_picture g_cell_table g_all_edges g_rounds_along d_rounds)
 have g_begin_edge:=d_begin_edge.fn (P:=l.prog) (w:=w) (base:=base) (zfA T d_begin_edge)
 have g_way_for:=d_way_for.fn (P:=l.prog) (w:=w) (base:=base) (zir d_way_for)
 have g_deeds_along:=d_deeds_along.fn (P:=l.prog) (w:=w) (base:=base) (zew g_way_for d_deeds_along)
 have g_walk_by:=d_walk_by.fn (P:=l.prog) (w:=w) (base:=base) (zit g_edge_behind d_walk_by)
 have g_walk_along:=d_walk_along.fn (P:=l.prog) (w:=w) (base:=base) (zfr g_walk_by g_deeds_along d_walk_along)
 have g_seen_between:=d_seen_between.fn (P:=l.prog) (w:=w) (base:=base) (zd5 g_edge_behind g_gap_beside g_is_slant g_gone g_slant_step g_straight_step d_seen_between)
 have g_gainsaid_at:=d_gainsaid_at.fn (P:=l.prog) (w:=w) (base:=base) (zeu g_seen_between d_gainsaid_at)
 have g_comes_back:=d_comes_back.fn (P:=l.prog) (w:=w) (base:=base) (zfx g_edge_behind d_comes_back)
 have g_is_closed:=d_is_closed.fn (P:=l.prog) (w:=w) (base:=base) (zgk T g_comes_back g_lefts_less_slants d_is_closed)
 have g_walk_of:=d_walk_of.fn (P:=l.prog) (w:=w) (base:=base) (zis g_begin_edge g_walk_along g_gainsaid_at g_is_closed g_begin_of d_walk_of)
 have g_edges_of:=d_edges_of.fn (P:=l.prog) (w:=w) (base:=base) (zhf g_walk_of d_edges_of)
 have g_sums_up_to:=d_sums_up_to.fn (P:=l.prog) (w:=w) (base:=base) (zfs d_sums_up_to)
 have g_added:=d_added.fn (P:=l.prog) (w:=w) (base:=base) (zkL T d_added)
 have g_lessened:=d_lessened.fn (P:=l.prog) (w:=w) (base:=base) (zha T d_lessened)
 have g_sums_within:=d_sums_within.fn (P:=l.prog) (w:=w) (base:=base) (zep T g_edges_of g_sums_up_to g_added g_lessened d_sums_within)
 have g__law_wholes:=d__law_wholes.fn (P:=l.prog) (w:=w) (base:=base) (zfv T d__law_wholes)
 have g__law_four:=d__law_four.fn (P:=l.prog) (w:=w) (base:=base) (zhc d__law_four)
 have g__law_eight:=d__law_eight.fn (P:=l.prog) (w:=w) (base:=base) (zgj d__law_eight)
 have g__law_lot:=d__law_lot.fn (P:=l.prog) (w:=w) (base:=base) (ziw d__law_lot)
 have g__law_dict:=d__law_dict.fn (P:=l.prog) (w:=w) (base:=base) (zhd d__law_dict)
 have g__law_within:=d__law_within.fn (P:=l.prog) (w:=w) (base:=base) (zfu T g__law_lot g__law_eight g__law_four d__law_within)
 have g_sums_of:=d_sums_of.fn (P:=l.prog) (w:=w) (base:=base) (ziu T g_sums_within g_added d_sums_of)
 have g__law_due:=d__law_due.fn (P:=l.prog) (w:=w) (base:=base) (ziy T g__law_within d__law_due)
 have g__law_parts_right:=d__law_parts_right.fn (P:=l.prog) (w:=w) (base:=base) (zdc g_sums_of g__law_due d__law_parts_right)
 have g__law_cell_at:=d__law_cell_at.fn (P:=l.prog) (w:=w) (base:=base) (zet T d__law_cell_at)
 have g__law_take:=d__law_take.fn (P:=l.prog) (w:=w) (base:=base) (tk_of (zhb T d__law_take))
 have g__law_far:=d__law_far.fn (P:=l.prog) (w:=w) (base:=base) (zix g__law_take d__law_far)
 have g__law_is_there:=d__law_is_there.fn (P:=l.prog) (w:=w) (base:=base) (zd7 T g__law_take d__law_is_there)
 have g__law_picture:=d__law_picture.fn (P:=l.prog) (w:=w) (base:=base) (zes T g__law_take g__law_far g__law_is_there d__law_picture)
 exact zms T g__law_cell_at g__law_picture g_rounds g_sums_of g__law_dict g__law_parts_right g__law_wholes ⟨_,_,F49,W.mg_of X G a49,b49⟩
theorem walk {l : W.OpenLaw}{q : Program}{loose : List Str}{XP : (Str → Option Value) → Heap → Prop}{YP : World → Heap → Prop}{d : DefRec}{K : Params → W.Frag}(hn : l.most = some 63) (hdf : d.params.defaults = [])
  (hY:∀ (w:World) (h:Heap),YP w h→(K w.params).In h)
  (F:∀ (w:World) (mg:Str→Option Value) (fa:Addr) (h:Heap),(K w.params).In h→h.Ns mainGlobals mg→mg d.name=some (.ref fa) →
   ∃ fd:FuncData,(∀ (s:Shared) (u:Value),BindsTo s fd ⟨[u],[]⟩ [("_law_script",u)])∧∀ base:Heap,(K w.params).In base→base.Ns mainGlobals mg→FnOk l.prog w (K w.params) mg base CX0 10 fa fd ["_law_script"] (spLaw (K w.params))) :
  W.WalkO q loose XP YP l.row.toRowW d [] (fun f vs=>PySem.call f vs) :=
 L2.walk_of (n:=63) (k:=10) (x:="_law_script") (CX:=fun _=>CX0) (sp:=fun w=>spLaw (K w.params)) hn (by decide) hdf ⟨rfl,by decide,by decide⟩ hY F (fun _ _ a ns hl _ hS=>⟨a,ns,rfl,hS,hl,fun _=>rfl⟩) fun _ _ _ _ _ z=>z
end RR
namespace PySem.W.Fast
def tw10075867362771194156:=()
def tw17999031121273837897:=()
def tw6168140921096389952:=()
def tw2020028297632303596:=()
def tw5833709992830940437:=()
def tw16723939929004620320:=()
def tw1975357222670488340:=()
def tw9821393137435489548:=()
def tw17452519289614024587:=()
def tw17763897685359181960:=()
def tw5153413106572221787:=()
def tw6064506943218543517:=()
def tw10791769891932316816:=()
def tw17464665217040502831:=()
def tw8245694074502658276:=()
def tw16575800208543164456:=()
def tw11912985143422568742:=()
def tw2355152388715576244:=()
def tw12324516841767494124:=()
def tw9164421753409606566:=()
def tw11042602132849258591:=()
def tw10543734728777870724:=()
def tw15225816610785294271:=()
def tw17301325523137548038:=()
def tw11604497363591523111:=()
def tw10650976511726890905:=()
def tw660808436272520959:=()
def tw15682118168394847634:=()
def tw16181809666441180808:=()
def tw566300016814020514:=()
def tw16088586688737806393:=()
def tw9165359976604550709:=()
def tw3829220591854455122:=()
def tw9329700708977378555:=()
def tw4137780376797808280:=()
def tw8295397158828599809:=()
def tw18248232504204109165:=()
def tw11280471922635181230:=()
def tw18199633463736342301:=()
def tw17680213682821594169:=()
def tw17857592083661375632:=()
def tw12181564285736758885:=()
def tw9300078612753137410:=()
def tw633141468553898931:=()
def tw5822930890466113926:=()
def tw3452168874720147243:=()
def tw4837589236758087257:=()
def tw15508624310828175254:=()
def tw13780157031177963135:=()
def tw15647070416484267568:=()
def tw14149403623650188256:=()
def tw14985098719688762432:=()
def tw14857458122667529235:=()
def tw12158662312332536986:=()
def tw906574534677759343:=()
def tw14236998436473312013:=()
def tw7313669725570689686:=()
def tw16890291440072337658:=()
def tw12890716825070422580:=()
def tw958510843606061601:=()
def tw2944130700266196642:=()
def tw6346229712439597735:=()
def tw1069315111488574585:=()
def tw7981033725072338634:=()
def tw11456108109416751841:=()
def tw10535738146369275696:=()
def tw6210544498618228266:=()
def tw4751681466694266547:=()
def tw1207031320328664540:=()
def tw16258414854434090680:=()
def tw18177891175803239013:=()
def tw6081468426451150823:=()
def tw9901236990896994645:=()
def tw12299979862629204670:=()
def tw6478634110192686088:=()
def tw1037969368978435653:=()
def tw12550203064660794916:=()
def tw9606215595172928295:=()
def tw1113059515551042147:=()
def tw10862423310194257087:=()
def tw8652721456895918870:=()
def tw892576699681264158:=()
def tw6555284579670404312:=()
def tw16911505121735442566:=()
def tw1250253322361651096:=()
def tw5726218018136193822:=()
def tw7589379854462116901:=()
def tw6136848755858046308:=()
def tw4760322060053263980:=()
def tw16804161763494135296:=()
def tw17897988486009794838:=()
def tw4670791820422221150:=()
def tw1175008369481476315:=()
def tw15070330688523048325:=()
def tw2177175696176221286:=()
def tw17844764173844076374:=()
def tw11341157638499136856:=()
def tw7273817274406819609:=()
def tw1904205435567908174:=()
def tw10447126040241389997:=()
def tw7244677814883632527:=()
def tw6037396189470519352:=()
def tw11246069630278067908:=()
def tw4659345325849483546:=()
def tw14090997793866513253:=()
def tw6534570379201592293:=()
def tw18183097124192837615:=()
def tw12407865052547246307:=()
def tw16273451536098849008:=()
def tw11244911368042411896:=()
def tw9908396430160471616:=()
def tw14279988522480536470:=()
def tw2038791624245486808:=()
def tw5045515691891256967:=()
def tw15008605892450480116:=()
def tw3550758631473188027:=()
def tw11806837968709282038:=()
def tw7267231120108997799:=()
def tw13959513817103853402:=()
def tw7447706361199644127:=()
def tw1860884674357387430:=()
def tw17143583357797558693:=()
def tw1637464953767088959:=()
def tw8876614050505879503:=()
def tw10913127098727185656:=()
def tw15058187370862909936:=()
def tw3550326353862777771:=()
def tw15341159903639425232:=()
def tw16900166819688153576:=()
def tw10261377965644639716:=()
def tw10629574374188162674:=()
def tw11295058866937839098:=()
def tw13400189710568709878:=()
def tw5915537449582360657:=()
def tw13801612272263582410:=()
def tw11873070031525363441:=()
def tw8724103103634595001:=()
def tw12423985887802618360:=()
def tw10724839841076745627:=()
def tw16843081985777393795:=()
def tw9429181109353985696:=()
def tw13959061483798444992:=()
def tw8674078104643800192:=()
def tw12066425143770868825:=()
def tw16100054744787061882:=()
def tw2608747660715877780:=()
def tw8346670192597614067:=()
def tw8420471088371848361:=()
def tw7877722441379125691:=()
def tw7479568645333513997:=()
def tw4665537843642709833:=()
def tw10580697318771976603:=()
def tw9529491654049689016:=()
def tw3361943195446099659:=()
def tw9549952946048525383:=()
def tw3496982606047959655:=()
def tw5456219999735229942:=()
def tw15796258198485386001:=()
def tw4814695807402574795:=()
def tw12492474835633565773:=()
def tw12194567333174640041:=()
def tw7585197350006648560:=()
def tw14374697395845763706:=()
def tw8278876608219251025:=()
def tw1033181913870012389:=()
def tw9177272425669626469:=()
def tw4227577665575949832:=()
def tw7703262243210290687:=()
def tw6679073410429708655:=()
def tw12624605198029874165:=()
def tw8209030654265689596:=()
def tw17691702699012148028:=()
def tw7835562995001368292:=()
def tw467347070044943966:=()
def tw1165382760802265755:=()
def tw7820195158838018255:=()
def tw3595775661614025337:=()
def tw10498636700026974809:=()
def tw5091177764888157657:=()
def tw17343668885683268794:=()
def tw5740311423451467142:=()
def tw2180793679785544651:=()
def tw12026654845222083472:=()
def tw14517307337971506936:=()
def tw15735442958569331250:=()
def tw13581715473995571813:=()
def tw16955419176722367540:=()
def tw16120662419800433032:=()
def tw3152025237720666927:=()
def tw2363244397004616746:=()
def tw8558301168956950843:=()
def tw5700289325877080611:=()
def tw1240278482718964867:=()
def tw13306664656562563179:=()
def tw6178783956351127888:=()
def tw9839219092251050685:=()
def tw17010202246047079131:=()
def tw9249622058993851808:=()
def tw12408065529523548445:=()
def tw10991630641837914953:=()
def tw6901979079212955519:=()
def tw17012065684878821226:=()
def tw4692522522293321849:=()
def tw12157958407706637884:=()
def tw16958638106368715033:=()
def tw14691959906627376369:=()
def tw13302861014424177624:=()
def tw4615343649900784193:=()
def tw15932089879892806277:=()
def tw7295047155723138930:=()
def tw11982882803993956299:=()
def tw1841594306098243471:=()
def tw8450360709367224317:=()
def tw236177030042094036:=()
def tw13516242934231717425:=()
def tw10374327628932349660:=()
def tw14006887528428727034:=()
def tw3461575280030292337:=()
def tw12444376929353048449:=()
def tw13713091420468005285:=()
def tw14042100382093844541:=()
end PySem.W.Fast
open PySem PySem.W PyProof.Rows
set_option maxRecDepth 100000 in
set_option maxHeartbeats 0 in
theorem PySem.Challenge.cw_rimsteps_k41_whole_sums_of_pictures_holds : PySem.Challenge.rw_rimsteps_k41_whole_sums_of_pictures.Holds := by
 w_on;o_law;k_head;(case hw=>w_witness2)
 k_fill
 refine RR.walk (l:=PySem.Challenge.rw_rimsteps_k41_whole_sums_of_pictures) rfl rfl (fun w h Y=>W.kIn_of Y) ?F
 case F =>
  intro w mg fa h KX G hmg
  refine' RR.all_mk KX G hmg ?a0 ?l0 ?c0 ?k0 ?a1 ?l1 ?c1 ?k1 ?a2 ?l2 ?c2 ?k2 ?a3 ?l3 ?c3 ?k3 ?a4 ?l4 ?c4 ?k4 ?a5 ?l5 ?c5 ?k5 ?a6 ?l6 ?c6 ?k6 ?a7 ?l7 ?c7 ?k7 ?a8 ?l8 ?c8 ?k8 ?a9 ?l9 ?c9 ?k9 ?a10 ?l10 ?c10 ?k10 ?a11 ?l11 ?c11 ?k11 ?a12 ?l12 ?c12 ?k12 ?a13 ?l13 ?c13 ?k13 ?a14 ?l14 ?c14 ?k14 ?a15 ?l15 ?c15 ?k15 ?a16 ?l16 ?c16 ?k16 ?a17 ?l17 ?c17 ?k17 ?a18 ?l18 ?c18 ?k18 ?a19 ?l19 ?c19 ?k19 ?a20 ?l20 ?c20 ?k20 ?a21 ?l21 ?c21 ?k21 ?a22 ?l22 ?c22 ?k22 ?a23 ?l23 ?c23 ?k23 ?a24 ?l24 ?c24 ?k24 ?a25 ?l25 ?c25 ?k25 ?a26 ?l26 ?c26 ?k26 ?a27 ?l27 ?c27 ?k27 ?a28 ?l28 ?c28 ?k28 ?a29 ?l29 ?c29 ?k29 ?a30 ?l30 ?c30 ?k30 ?a31 ?l31 ?c31 ?k31 ?a32 ?l32 ?c32 ?k32 ?a33 ?l33 ?c33 ?k33 ?a34 ?l34 ?c34 ?k34 ?a35 ?l35 ?c35 ?k35 ?a36 ?l36 ?c36 ?k36 ?a37 ?l37 ?c37 ?k37 ?a38 ?l38 ?c38 ?k38 ?a39 ?l39 ?c39 ?k39 ?a40 ?l40 ?c40 ?k40 ?a41 ?l41 ?c41 ?k41 ?a42 ?l42 ?c42 ?k42 ?a43 ?l43 ?c43 ?k43 ?a44 ?l44 ?c44 ?k44 ?a45 ?l45 ?c45 ?k45 ?a46 ?l46 ?c46 ?k46 ?a47 ?l47 ?c47 ?k47 ?a48 ?l48 ?c48 ?k48 ?a49 ?l49 ?c49 ?k49 ?aM ?lM ?x0 ?x1 ?x2 ?x3 ?x4 ?x5 ?x6 ?x7 ?aB ?lB ?aB2 ?lB2 ?aNO_SUMS ?lNO_SUMS ?z_range ?z_len ?z_min ?z_max ?z_sorted ?z_tuple ?z_int ?z_bool ?z_abs ?z_all ?z_any ?z_isinstance ?z_zip ?z_list ?z_enumerate
  (case a0=>k_is)
  (case l0=>k_is)
  (case c0=>k_is)
  (case k0=>k_is)
  (case a1=>k_is)
  (case l1=>k_is)
  (case c1=>k_is)
  (case k1=>k_is)
  (case a2=>k_is)
  (case l2=>k_is)
  (case c2=>k_is)
  (case k2=>k_is)
  (case a3=>k_is)
  (case l3=>k_is)
  (case c3=>k_is)
  (case k3=>k_is)
  (case a4=>k_is)
  (case l4=>k_is)
  (case c4=>k_is)
  (case k4=>k_is)
  (case a5=>k_is)
  (case l5=>k_is)
  (case c5=>k_is)
  (case k5=>k_is)
  (case a6=>k_is)
  (case l6=>k_is)
  (case c6=>k_is)
  (case k6=>k_is)
  (case a7=>k_is)
  (case l7=>k_is)
  (case c7=>k_is)
  (case k7=>k_is)
  (case a8=>k_is)
  (case l8=>k_is)
  (case c8=>k_is)
  (case k8=>k_is)
  (case a9=>k_is)
  (case l9=>k_is)
  (case c9=>k_is)
  (case k9=>k_is)
  (case a10=>k_is)
  (case l10=>k_is)
  (case c10=>k_is)
  (case k10=>k_is)
  (case a11=>k_is)
  (case l11=>k_is)
  (case c11=>k_is)
  (case k11=>k_is)
  (case a12=>k_is)
  (case l12=>k_is)
  (case c12=>k_is)
  (case k12=>k_is)
  (case a13=>k_is)
  (case l13=>k_is)
  (case c13=>k_is)
  (case k13=>k_is)
  (case a14=>k_is)
  (case l14=>k_is)
  (case c14=>k_is)
  (case k14=>k_is)
  (case a15=>k_is)
  (case l15=>k_is)
  (case c15=>k_is)
  (case k15=>k_is)
  (case a16=>k_is)
  (case l16=>k_is)
  (case c16=>k_is)
  (case k16=>k_is)
  (case a17=>k_is)
  (case l17=>k_is)
  (case c17=>k_is)
  (case k17=>k_is)
  (case a18=>k_is)
  (case l18=>k_is)
  (case c18=>k_is)
  (case k18=>k_is)
  (case a19=>k_is)
  (case l19=>k_is)
  (case c19=>k_is)
  (case k19=>k_is)
  (case a20=>k_is)
  (case l20=>k_is)
  (case c20=>k_is)
  (case k20=>k_is)
  (case a21=>k_is)
  (case l21=>k_is)
  (case c21=>k_is)
  (case k21=>k_is)
  (case a22=>k_is)
  (case l22=>k_is)
  (case c22=>k_is)
  (case k22=>k_is)
  (case a23=>k_is)
  (case l23=>k_is)
  (case c23=>k_is)
  (case k23=>k_is)
  (case a24=>k_is)
  (case l24=>k_is)
  (case c24=>k_is)
  (case k24=>k_is)
  (case a25=>k_is)
  (case l25=>k_is)
  (case c25=>k_is)
  (case k25=>k_is)
  (case a26=>k_is)
  (case l26=>k_is)
  (case c26=>k_is)
  (case k26=>k_is)
  (case a27=>k_is)
  (case l27=>k_is)
  (case c27=>k_is)
  (case k27=>k_is)
  (case a28=>k_is)
  (case l28=>k_is)
  (case c28=>k_is)
  (case k28=>k_is)
  (case a29=>k_is)
  (case l29=>k_is)
  (case c29=>k_is)
  (case k29=>k_is)
  (case a30=>k_is)
  (case l30=>k_is)
  (case c30=>k_is)
  (case k30=>k_is)
  (case a31=>k_is)
  (case l31=>k_is)
  (case c31=>k_is)
  (case k31=>k_is)
  (case a32=>k_is)
  (case l32=>k_is)
  (case c32=>k_is)
  (case k32=>k_is)
  (case a33=>k_is)
  (case l33=>k_is)
  (case c33=>k_is)
  (case k33=>k_is)
  (case a34=>k_is)
  (case l34=>k_is)
  (case c34=>k_is)
  (case k34=>k_is)
  (case a35=>k_is)
  (case l35=>k_is)
  (case c35=>k_is)
  (case k35=>k_is)
  (case a36=>k_is)
  (case l36=>k_is)
  (case c36=>k_is)
  (case k36=>k_is)
  (case a37=>k_is)
  (case l37=>k_is)
  (case c37=>k_is)
  (case k37=>k_is)
  (case a38=>k_is)
  (case l38=>k_is)
  (case c38=>k_is)
  (case k38=>k_is)
  (case a39=>k_is)
  (case l39=>k_is)
  (case c39=>k_is)
  (case k39=>k_is)
  (case a40=>k_is)
  (case l40=>k_is)
  (case c40=>k_is)
  (case k40=>k_is)
  (case a41=>k_is)
  (case l41=>k_is)
  (case c41=>k_is)
  (case k41=>k_is)
  (case a42=>k_is)
  (case l42=>k_is)
  (case c42=>k_is)
  (case k42=>k_is)
  (case a43=>k_is)
  (case l43=>k_is)
  (case c43=>k_is)
  (case k43=>k_is)
  (case a44=>k_is)
  (case l44=>k_is)
  (case c44=>k_is)
  (case k44=>k_is)
  (case a45=>k_is)
  (case l45=>k_is)
  (case c45=>k_is)
  (case k45=>k_is)
  (case a46=>k_is)
  (case l46=>k_is)
  (case c46=>k_is)
  (case k46=>k_is)
  (case a47=>k_is)
  (case l47=>k_is)
  (case c47=>k_is)
  (case k47=>k_is)
  (case a48=>k_is)
  (case l48=>k_is)
  (case c48=>k_is)
  (case k48=>k_is)
  (case a49=>k_is)
  (case l49=>k_is)
  (case c49=>k_is)
  (case k49=>k_is)
  (case aM=>k_is)
  (case lM=>k_is)
  (case x0=>k_is)
  (case x1=>k_is)
  (case x2=>k_is)
  (case x3=>k_is)
  (case x4=>k_is)
  (case x5=>k_is)
  (case x6=>k_is)
  (case x7=>k_is)
  (case aB=>k_is)
  (case lB=>k_is)
  (case aB2=>k_is)
  (case lB2=>k_is)
  (case aNO_SUMS=>k_is)
  (case lNO_SUMS=>k_is)
  (case z_range=>k_is)
  (case z_len=>k_is)
  (case z_min=>k_is)
  (case z_max=>k_is)
  (case z_sorted=>k_is)
  (case z_tuple=>k_is)
  (case z_int=>k_is)
  (case z_bool=>k_is)
  (case z_abs=>k_is)
  (case z_all=>k_is)
  (case z_any=>k_is)
  (case z_isinstance=>k_is)
  (case z_zip=>k_is)
  (case z_list=>k_is)
  (case z_enumerate=>k_is)

import PyProof.Rows.All
import Wide.All
import OpenK.AllK
import Wide.FinOn
import Lean
import PyProof.EqAt
import PyProof.EqKinds
import PyProof.TupleCall
import PySem.Challenge.RW_rimsteps_k13_whole_told_back
set_option Elab.async false
set_option linter.all false
set_option maxRecDepth 100000
namespace L2
open PySem PySem.Spec PyProof.Rows
abbrev Key:=Sum Int Str
def keyIs:Key→Value→Bool
 | .inl k,v=>Value.isInt k v
 | .inr x,v=>Value.isStrOf x v
def keyH (w:World):Key→Int
 | .inl k=>hashInt k
 | .inr x=>hashStr w x
theorem zaS:∀ {k:Key}{v:Value},keyIs k v=true→(∃ i t,k=Sum.inl i∧v=Value.int i t)∨(∃ x t,k=Sum.inr x∧v=Value.str x t)
 | .inl i,v,h=>by
  obtain⟨t,e⟩:=Value.isInt_shape (k:=i) (v:=v) h
  exact .inl ⟨i,t,rfl,e⟩
 | .inr x,v,h=>by
  obtain⟨t,e⟩:=Value.isStrOf_shape (x:=x) (v:=v) h
  exact .inr ⟨x,t,rfl,e⟩
theorem zi0 (i:Int) (t:Tok):keyIs (.inl i) (.int i t)=true:=by simp[keyIs,Value.isInt]
theorem ziZ (x:Str) (t:Tok):keyIs (.inr x) (.str x t)=true:=by simp[keyIs,Value.isStrOf]
theorem zlX (a b:Int):decide ((Sum.inl a:Key)=Sum.inl b)=(a == b):=by
 by_cases e:a=b
 ·subst e;simp
 ·have h:¬ (Sum.inl a:Key)=Sum.inl b:=fun q=>e (Sum.inl.inj q)
  rw[decide_eq_false h]
  exact (beq_eq_false_iff_ne.mpr e).symm
theorem zlU (a b:Str):decide ((Sum.inr a:Key)=Sum.inr b)=decide (a=b):=by
 by_cases e:a=b
 ·subst e;simp
 ·have h:¬ (Sum.inr a:Key)=Sum.inr b:=fun q=>e (Sum.inr.inj q)
  rw[decide_eq_false h,decide_eq_false e]
theorem zlW (a:Int) (b:Str):decide ((Sum.inl a:Key)=Sum.inr b)=false:=decide_eq_false (fun q=>nomatch q)
theorem zlV (a:Str) (b:Int):decide ((Sum.inr a:Key)=Sum.inl b)=false:=decide_eq_false (fun q=>nomatch q)
def zaC (prog:Program) (w:World):PySem.KeyKind prog w Key where
 is:=keyIs
 hash:=keyH w
 inj:=fun v a b ha hb=>by
  rcases zaS ha with⟨i,t,rfl,rfl⟩ | ⟨x,t,rfl,rfl⟩
  ·rcases zaS hb with⟨j,u,rfl,e⟩ | ⟨y,u,rfl,e⟩
   ·injection e with e1 _;rw[e1]
   ·exact nomatch e
  ·rcases zaS hb with⟨j,u,rfl,e⟩ | ⟨y,u,rfl,e⟩
   ·exact nomatch e
   ·injection e with e1 _;rw[e1]
 byValue:=fun k v h=>by
  rcases zaS h with⟨i,t,rfl,rfl⟩ | ⟨x,t,rfl,rfl⟩ <;> rfl
 pyHash:=fun hv h=>by
  rcases zaS hv with⟨i,t,rfl,rfl⟩ | ⟨x,t,rfl,rfl⟩
  ·exact wpAny_pyHash_int h
  ·exact wpAny_pyHash_str h
 eqBool:=fun hu hv h=>by
  rcases zaS hu with⟨i,t,rfl,rfl⟩ | ⟨x,t,rfl,rfl⟩
  ·rcases zaS hv with⟨j,u,rfl,rfl⟩ | ⟨y,u,rfl,rfl⟩
   ·rw[zlX] at h;exact wpAny_eqBool_int h
   ·rw[zlW] at h;exact SeqAt.EqAt.int_str i t y u _ _ _ _ h
  ·rcases zaS hv with⟨j,u,rfl,rfl⟩ | ⟨y,u,rfl,rfl⟩
   ·rw[zlV] at h;exact SeqAt.EqAt.str_int x t j u _ _ _ _ h
   ·rw[zlU] at h;exact wpAny_eqBool_str h
 «strs»:=fun k x t v h=>by
  rcases zaS h with⟨i,u,rfl,e⟩ | ⟨y,u,rfl,e⟩
  ·exact nomatch e
  ·injection e with e1 _
   subst e1
   cases v <;> rfl
theorem zgG (prog:Program) (w:World) (i:Int) (t:Tok):(zaC prog w).is (.inl i) (.int i t)=true:=zi0 i t
theorem zb7 (prog:Program) (w:World) (x:Str) (t:Tok):(zaC prog w).is (.inr x) (.str x t)=true:=ziZ x t
inductive V where
 | non | bl (b:Bool) | int (i:Int) | str (x:Str) | byt (b:Array UInt8) | flt (b:UInt64) | ref (a:Addr) | ty (n:String)
 deriving DecidableEq
def RelV:V→Value→Prop
 | .non,u=>u=Value.none
 | .bl b,u=>u=Value.bool b
 | .int i,u=>∃ t,u=Value.int i t
 | .str x,u=>∃ t,u=Value.str x t
 | .byt b,u=>∃ t,u=Value.bytes b t
 | .flt b,u=>∃ t,u=Value.float b t
 | .ref a,u=>u=Value.ref a
 | .ty n,u=>u=Value.type n
abbrev Vals:List V→List Value→Prop:=Paired RelV
theorem Vals.length {xs:List V}{us:List Value}(r:Vals xs us):xs.length=us.length:=Paired.length r
theorem Vals.get:∀ {xs:List V}{us:List Value}{i:Nat}{x:V},Vals xs us→xs[i]?=some x→∃ u,us[i]?=some u∧RelV x u
 | _,_,_,_,.nil,e=>by simp at e
 | _,_,0,_,.cons r _,e=>by simp at e;subst e;exact⟨_,rfl,r⟩
 | _,_,i+1,x,.cons _ t,e=>by
  obtain⟨u,h1,h2⟩:=Vals.get (i:=i) (x:=x) t (by simpa using e)
  exact⟨u,by simpa using h1,h2⟩
theorem Vals.append:∀ {xs ys:List V}{us ws:List Value},Vals xs us→Vals ys ws→Vals (xs++ys) (us++ws)
 | _,_,_,_,.nil,s=>s
 | _,_,_,_,.cons r t,s=>.cons r (Vals.append t s)
theorem Vals.take:∀ {xs:List V}{us:List Value}(n:Nat),Vals xs us→Vals (xs.take n) (us.take n)
 | _,_,0,_=>.nil
 | _,_,_+1,.nil=>.nil
 | _,_,n+1,.cons r t=>.cons r (Vals.take n t)
theorem Vals.drop:∀ {xs:List V}{us:List Value}(n:Nat),Vals xs us→Vals (xs.drop n) (us.drop n)
 | _,_,0,r=>r
 | _,_,_+1,.nil=>.nil
 | _,_,n+1,.cons _ t=>Vals.drop n t
def RelO:Option V→Option Value→Prop
 | some v,some u=>RelV v u
 | none,none=>True
 | _,_=>False
def KV {κ:Type}:List (κ×V)→List (κ×Value)→Prop:=Paired fun (p:κ×V) (q:κ×Value)=>p.1=q.1∧RelV p.2 q.2
def kV:Key→V
 | .inl i=>.int i
 | .inr x=>.str x
inductive HO where
 /-- a list -/
 | lst (xs:List V)
 /-- a tuple (never changes) -/
 | tup (xs:List V)
 /-- a dict whose keys are ints and texts;one whose keys are tuples of ints and texts (the empty one is both) -/
 | dK (kvs:List (Key×V)) | dT (kvs:List (List Key×V))
 /-- a set of ints: its members,its size -/
 | set (S:Int→Bool) (n:Nat)
 /-- an instance of the class at C,its dict at dx,its attributes -/
 | ins (C dx:Addr) (fs:List (Str×V))
 /-- the dict of the instance at x -/
 | own (x:Addr)
 /-- the dict of an exception -/
 | xd (fs:List (Str×V))
 /-- a bound method,f of x -/
 | met (f x:Addr)
 /-- a range object lo,lo+1,.. below hi -/
 | rng (lo hi:Int)
 /-- a thing that is known to the object (the script;a dict while a loop walks it): read,never written while it is so -/
 | frz (o:Obj) (u:HO)
 /-- a code object's table -/
 | tbl (ps:Array Value)
 /-- any other thing,by what is true of its one object (a def of one's own: SetO a S n:=HO.ext fun h=>..) -/
 | ext (φ:Heap→Prop)
abbrev Hp:=Addr→Option HO
def upd (H:Hp) (a:Addr) (o:HO):Hp:=fun b=>if b=a then some o else H b
theorem zaa {H:Hp}{a:Addr}{o:HO}:upd H a o a=some o:=by unfold upd;rw[if_pos rfl]
theorem zaj {H:Hp}{a b:Addr}{o:HO}(h:b≠a):upd H a o b=H b:=by unfold upd;rw[if_neg h]
theorem ne_of {H:Hp}{a b:Addr}{o u:HO}(h:H a=some o) (h':H b=some u) (d:o≠u):a≠b:=by
 intro e;subst e;rw[h] at h';exact d (Option.some.inj h')
theorem zar {H:Hp}{a b:Addr}{o:HO}(h:H a=some o) (h':H b=none):a≠b:=by
 intro e;subst e;rw[h] at h';cases h'
section
variable (P:Program) (w:World)
def ObjOk (H:Hp) (h:Heap) (a:Addr):HO→Prop
  | .lst xs=>xs.length≤sizeLine∧∃ (its:List Value) (n:Nat),Vals xs its∧h.get? a=some { cls:=.type "list",data:=.seq its.toArray n }
  | .tup xs=>xs.length≤sizeLine∧∃ its:List Value,Vals xs its∧IsTup h a its.toArray
  | .dK kvs=>kvs.length≤sizeLine∧(a == sysModules)=false∧∃ vs,KV kvs vs∧h.DictOf (zaC P w) a vs
  | .dT kvs => kvs.length ≤ sizeLine ∧ (a == sysModules) = false ∧ ∃ xs : List (List Key × Addr × Value),
      Paired (fun (p:List Key×V) (q:List Key×Addr×Value)=>p.1=q.1∧H q.2.1=some (.tup (p.1.map kV))∧RelV p.2 q.2.2) kvs xs ∧
      ∃ o es ep,h.get? a=some o∧o.ExactDict∧o.data=.dict es ep∧es.toList=xs.map (entryOfKey (tupleKind (zaC P w)))∧(xs.map (·.1)).Nodup
  | .set S n=>h.SetOf (intKind P w) a S n
  | .ins C dx fs => H dx = some (.own a) ∧ fs.length ≤ 1000 ∧ dx ≠ a ∧ h.get? a = some (W.instObj C dx) ∧
      ∃ mA,h.Ns1 dx mA∧(∀ f,RelO (fs.lookup f) (mA f))∧PySem.Within mA (fs.map (·.1))
  | .own _=>∃ o,h.get? a=some o
  | .xd fs=>∃ mA,h.Ns1 a mA∧∀ f,RelO (fs.lookup f) (mA f)
  | .rng lo hi=>∃ t u v,h.get? a=some { cls:=.type "range",data:=.fields #[.int lo t,.int hi u,.int 1 v] }
  | .frz o u=>h.get? a=some o∧ObjOk H h a u
  | .tbl ps=>h.get? a=some { cls:=.none,data:=.fields ps }
  | .met f x=>h.get? a=some (W.methodObj (.ref f) (.ref x))
  | .ext φ=>φ h∧(∃ o,h.get? a=some o)∧∀ h1 h2:Heap,φ h1→(∀ o,h1.get? a=some o→h2.get? a=some o)→φ h2
def HOk (H:Hp) (h:Heap):Prop:=∀ a o,H a=some o→ObjOk P w H h a o
end
section
variable {P:Program}{w:World}{H H':Hp}{h h':Heap}{a:Addr}{o:HO}
theorem ObjOk.lt (x:ObjOk P w H h a o):a<h.objs.size:=by
 cases o with
 | lst xs=>obtain⟨_,_,_,_,e⟩:=x;exact Heap.lt_size e
 | tup xs=>obtain⟨_,_,_,p⟩:=x;exact p.lt
 | dK kvs=>obtain⟨_,_,_,_,o,_,_,e,_⟩:=x;exact Heap.lt_size e
 | dT kvs=>obtain⟨_,_,_,_,o,_,_,e,_⟩:=x;exact Heap.lt_size e
 | set S n=>obtain⟨o,_,_,_,e,_⟩:=x;exact Heap.lt_size e
 | ins C dx fs=>obtain⟨_,_,_,e,_⟩:=x;exact Heap.lt_size e
 | own y=>obtain⟨_,e⟩:=x;exact Heap.lt_size e
 | xd fs=>obtain⟨_,⟨_,_,_,e,_⟩,_⟩:=x;exact Heap.lt_size e
 | rng lo hi=>obtain⟨_,_,_,e⟩:=x;exact Heap.lt_size e
 | frz ob u=>obtain⟨e,_⟩:=x;exact Heap.lt_size e
 | tbl ps=>exact Heap.lt_size (show h.get? a=some _ from x)
 | met f y=>exact Heap.lt_size (show h.get? a=some _ from x)
 | ext φ=>obtain⟨_,⟨_,e⟩,_⟩:=x;exact Heap.lt_size e
theorem Paired.mapP {α β:Type}{F G:α→β→Prop}:∀ {l₁:List α}{l₂:List β},Paired F l₁ l₂→(∀ a b,F a b→G a b)→Paired G l₁ l₂
 | _,_,.nil,_=>.nil
 | _,_,.cons r t,f=>.cons (f _ _ r) (Paired.mapP t f)
theorem ObjOk.stay (x : ObjOk P w H h a o) (k : ∀ b u, (b = a ∨ H b = some (.own a)) → h.get? b = some u → h'.get? b = some u)
  (ho:∀ b,H b=some (.own a)→H' b=some (.own a)) (ht:∀ b xs,H b=some (.tup xs)→H' b=some (.tup xs)):ObjOk P w H' h' a o:=by
 induction o with
 | lst xs=>obtain⟨z,its,n,r,e⟩:=x;exact⟨z,its,n,r,k _ _ (.inl rfl) e⟩
 | tup xs=>obtain⟨z,its,r,ob,e,c⟩:=x;exact⟨z,its,r,ob,k _ _ (.inl rfl) e,c⟩
 | dK kvs=>obtain⟨z,y,vs,r,ob,es,ep,e,c⟩:=x;exact⟨z,y,vs,r,ob,es,ep,k _ _ (.inl rfl) e,c⟩
 | dT kvs =>
  obtain⟨z,y,xs,r,ob,es,ep,e,c⟩:=x
  exact⟨z,y,xs,Paired.mapP r fun p q z=>⟨z.1,ht _ _ z.2.1,z.2.2⟩,ob,es,ep,k _ _ (.inl rfl) e,c⟩
 | set S n=>obtain⟨ob,es,ep,t,e,c⟩:=x;exact⟨ob,es,ep,t,k _ _ (.inl rfl) e,c⟩
 | ins C dx fs =>
  obtain⟨d,z,ne,e,mA,⟨od,es,ep,e2,c⟩,r⟩:=x
  exact⟨ho _ d,z,ne,k _ _ (.inl rfl) e,mA,⟨od,es,ep,k _ _ (.inr d) e2,c⟩,r⟩
 | own y=>obtain⟨ob,e⟩:=x;exact⟨ob,k _ _ (.inl rfl) e⟩
 | xd fs=>obtain⟨mA,⟨od,es,ep,e,c⟩,r⟩:=x;exact⟨mA,⟨od,es,ep,k _ _ (.inl rfl) e,c⟩,r⟩
 | rng lo hi=>obtain⟨t,u,v,e⟩:=x;exact⟨t,u,v,k _ _ (.inl rfl) e⟩
 | frz ob u ih=>obtain⟨e,q⟩:=x;exact⟨k _ _ (.inl rfl) e,ih q⟩
 | tbl ps =>
  have e:h.get? a=some { cls:=.none,data:=.fields ps }:=x
  show h'.get? a=some { cls:=.none,data:=.fields ps }
  exact k a _ (.inl rfl) e
 | met f y =>
  have e:h.get? a=some (W.methodObj (.ref f) (.ref y)):=x
  show h'.get? a=some (W.methodObj (.ref f) (.ref y))
  exact k a _ (.inl rfl) e
 | ext φ=>obtain⟨p,⟨o,e⟩,st⟩:=x;exact⟨st _ _ p fun o q=>k _ _ (.inl rfl) q,⟨o,k _ _ (.inl rfl) e⟩,st⟩
theorem HOk.lt (x:HOk P w H h) (e:H a=some o):a<h.objs.size:=(x a o e).lt
theorem HOk.fresh (x:HOk P w H h) (e:h.objs.size≤a):H a=none:=by
 cases q:H a with
 | none=>rfl
 | some u=>exact absurd (Nat.lt_of_lt_of_le (x.lt q) e) (Nat.lt_irrefl _)
theorem HOk.kept (x:HOk P w H h) (k:∀ b u,h.get? b=some u→h'.get? b=some u):HOk P w H h':=fun a o e =>
 (x a o e).stay (fun b u _ q=>k b u q) (fun _ q=>q) fun _ _ q=>q
theorem HOk.laid (x:HOk P w H h) (k:∀ b u,h.get? b=some u→h'.get? b=some u) (hp:h.objs.size≤a) (new:ObjOk P w (upd H a o) h' a o):HOk P w (upd H a o) h':=fun b u e=>by
 have hn:=x.fresh hp
 by_cases hb:b=a
 ·subst hb;rw[zaa] at e;cases e;exact new
 ·rw[zaj hb] at e
  exact (x b u e).stay (fun c v _ q=>k c v q) (fun c q=>by rw[zaj (zar q hn)];exact q) fun c xs q=>by rw[zaj (zar q hn)];exact q
end
def Rd (H:Hp) (a:Addr) (u:HO):Prop:=H a=some u∨∃ o,H a=some (.frz o u)
theorem Rd.of {H:Hp}{a:Addr}{u:HO}(h:H a=some u):Rd H a u:=.inl h
theorem Rd.ok {P:Program}{w:World}{H:Hp}{h:Heap}{a:Addr}{u:HO}(r:Rd H a u) (x:HOk P w H h):ObjOk P w H h a u:=by
 rcases r with r | ⟨o,r⟩
 ·exact x a u r
 ·obtain⟨_,q⟩:=x a _ r
  exact q
def Mut:Option HO→Prop
 | some (.lst _)=>True
 | some (.dK _)=>True
 | some (.dT _)=>True
 | some (.set _ _)=>True
 | some (.ins _ _ _)=>True
 | some (.ext _)=>True
 | _=>False
section
variable {P:Program}{w:World}{H:Hp}{h h':Heap}{x e:Addr}{o':HO}
theorem HOk.write (ok : HOk P w H h) (mu : Mut (H x)) (he : e = x ∨ H e = some (.own x)) (k : ∀ b u, b ≠ e → h.get? b = some u → h'.get? b = some u) (heo : ∃ u, h'.get? e = some u)
  (new:ObjOk P w (upd H x o') h' x o'):HOk P w (upd H x o') h':=fun b u q=>by
 have nown:∀ c y,H c=some (.own y)→c≠x:=fun c y r z=>by subst z;rw[r] at mu;exact mu
 have ntup:∀ c xs,H c=some (.tup xs)→c≠x:=fun c xs r z=>by subst z;rw[r] at mu;exact mu
 by_cases hb:b=x
 ·subst hb;rw[zaa] at q;cases q;exact new
 ·rw[zaj hb] at q
  by_cases hbe:b=e
  ·have q' : H b = some (.own x) := by
    rcases he with z | z
    ·exact absurd (hbe.trans z) hb
    ·rw[hbe];exact z
   rw[q] at q';cases q'
   obtain⟨v,hv⟩:=heo
   exact⟨v,by rw[hbe];exact hv⟩
  ·refine (ok b u q).stay (fun c v hc r=>k c v ?_ r) (fun c r=>by rw[zaj (nown c b r)];exact r) fun c xs r=>by rw[zaj (ntup c xs r)];exact r
   rcases hc with rfl | hc
   ·exact hbe
   ·rintro rfl
    rcases he with z | z
    ·exact nown c b hc z
    ·rw[hc] at z;cases z;exact hb rfl
end
structure Un (fs ex:List Addr) (H H':Hp) (h h':Heap):Prop where
 keep:∀ b o,h.get? b=some o→H b=none→b ∉ fs→b ∉ ex→h'.get? b=some o
 slot:∀ b o,h.get? b=some o→H b=none→b∈fs→b ∉ ex→∃ sl,h'.get? b=some { o with slots:=sl }
 free:∀ b o,h.get? b=some o→H b=none→b ∉ ex→H' b=none
 there:∀ b o,h.get? b=some o→b ∉ ex→∃ o',h'.get? b=some o'
 tups:∀ b xs,H b=some (.tup xs)→H' b=some (.tup xs)
 frzs:∀ b o u,H b=some (.frz o u)→H' b=some (.frz o u)
 tbls:∀ b ps,H b=some (.tbl ps)→∃ more,H' b=some (.tbl (ps++more))
section
variable {fs fs' ex ex':List Addr}{H H1 H2:Hp}{h h1 h2 h':Heap}{a x e:Addr}{o:HO}
theorem Un.any (u:Un fs ex H H1 h h1){b:Addr}{ob:Obj}(q:h.get? b=some ob) (n:H b=none) (hx:b ∉ ex):∃ sl,h1.get? b=some { ob with slots:=sl }:=by
 by_cases hb:b∈fs
 ·exact u.slot b ob q n hb hx
 ·exact⟨ob.slots,u.keep b ob q n hb hx⟩
theorem Un.kept (k:∀ b u,h.get? b=some u→h'.get? b=some u):Un fs ex H H h h' :=
 ⟨fun b ob q _ _ _=>k b ob q,fun b ob q _ _ _=>⟨ob.slots,k b ob q⟩,fun _ _ _ n _=>n,fun b ob q _=>⟨ob,k b ob q⟩,fun _ _ q=>q,fun _ _ _ q=>q,fun _ ps q=>⟨#[],by rw[q];simp⟩⟩
theorem Un.refl:Un fs ex H H h h:=Un.kept fun _ _ q=>q
theorem Un.laid (k:∀ b u,h.get? b=some u→h'.get? b=some u) (hp:h.objs.size≤a) (hn:H a=none):Un fs ex H (upd H a o) h h' where
 keep:=fun b u q _ _ _=>k b u q
 slot:=fun b u q _ _ _=>⟨u.slots,k b u q⟩
 free:=fun b u q n _=>by rw[zaj (Nat.ne_of_lt (Nat.lt_of_lt_of_le (Heap.lt_size q) hp))];exact n
 there:=fun b u q _=>⟨u,k b u q⟩
 tups:=fun b xs q=>by rw[zaj (zar q hn)];exact q
 frzs:=fun b u xs q=>by rw[zaj (zar q hn)];exact q
 tbls:=fun b ps q=>⟨#[],by rw[zaj (zar q hn),q];simp⟩
theorem Un.write (mu:Mut (H x)) (he:e=x∨H e=some (.own x)) (k:∀ b u,b≠e→h.get? b=some u→h'.get? b=some u) (heo:∃ u,h'.get? e=some u):Un fs ex H (upd H x o) h h':=by
 have hx:∀ b,H b=none→b≠x:=fun b n z=>by subst z;rw[n] at mu;exact mu
 have hb:∀ b,H b=none→b≠e:=fun b n z=>by
  subst z
  rcases he with r | r
  ·exact hx b n r
  ·rw[n] at r;cases r
 have hm:∀ b u,H b=some u→¬ Mut (some u)→b≠x:=fun b u q nm z=>by subst z;rw[q] at mu;exact nm mu
 refine⟨fun b u q n _ _=>k b u (hb b n) q,fun b u q n _ _=>⟨u.slots,k b u (hb b n) q⟩,fun b u q n _=>by rw[zaj (hx b n)];exact n,fun b u q _=>?_,
  fun b xs q=>by rw[zaj (hm b _ q fun z=>z)];exact q,fun b u xs q=>by rw[zaj (hm b _ q fun z=>z)];exact q,fun b ps q=>⟨#[],by rw[zaj (hm b _ q fun z=>z),q];simp⟩⟩
 by_cases hbe:b=e
 ·subst hbe;exact heo
 ·exact⟨u,k b u hbe q⟩
end
def trk (h:Heap) (H:Hp):List Addr:=(List.range h.objs.size).filter fun a=>(H a).isSome
def hidT (h:Heap) (H:Hp):Heap:=W.hideAll h (trk h H)
theorem zi8 (h:Heap) (H:Hp):(hidT h H).objs.size=h.objs.size:=W.hideAll_size _ _
theorem zj3 {h:Heap}{H:Hp}{b:Addr}{o:Obj}(e:h.get? b=some o) (n:H b=none):(hidT h H).get? b=some o :=
 W.hideAll_get _ e fun hm=>by
  have q:(H b).isSome=true:=(List.mem_filter.mp hm).2
  rw[n] at q;simp at q
theorem zk5 {h:Heap}{H:Hp}{b:Addr}{o:Obj}(e:(hidT h H).get? b=some o):h.get? b=some o∧H b=none:=by
 have e':h.get? b=some o:=W.of_hideAll (trk h H) e
 refine⟨e',?_⟩
 cases q:H b with
 | none=>rfl
 | some x =>
  have hm:b∈trk h H:=List.mem_filter.mpr ⟨List.mem_range.mpr (Heap.lt_size e'),by simp[q]⟩
  have z:(hidT h H).get? b=none:=W.hideAll_none (trk h H) hm
  rw[z] at e;cases e
def zlo (g h:Heap) (L:Addr):List (Addr×Obj):=(List.range h.objs.size).filterMap fun a=>if a=L∨(g.get? a).isSome=true then none else (h.get? a).map fun o=>(a,o)
def rest (g h:Heap) (L d:Addr):List (Addr×Obj):=(zlo g h L).filter fun p=>decide (p.1≠d)
structure Mod (K:W.Frag) (mg:Str→Option Value) (base:Heap):Prop where
 kin:K.In base
 glob:base.Ns mainGlobals mg
 blt:∃ mb,base.Ns builtinsNs mb∧∀ x:Str,x ≠ "__name__" → mb x=bootBuiltins x
 nolimit:base.NoLimit
structure Cx where
 prog:Program
 w:World
 K:W.Frag
 mg:Str→Option Value
 base:Heap
 A:Around
 N:List Str
 s₀:Shared
 H₀:Hp
 env:Env
 outer:List Env
 stack:List Env
 ex:List Addr
 fn:Str→Bool
 calm:Bool
 pn:List (Addr×Obj)
 xe:Value→Shared→Prop
def frs (l:List Env):List Addr:=l.filterMap (·.frame)
abbrev Cx.fs (X:Cx):List Addr:=frs X.outer
def Vis (sc:Scope) (x:Str):Prop:=sc.names.lookup x=some .local∨sc.names.lookup x=some .cell∨sc.names.lookup x=some .free
def Loc (sc:Scope) (x:Str):Prop:=sc.names.lookup x=some .local∨sc.names.lookup x=some .cell
def Look (env:Env) (h:Heap) (m:Str→Option Value) (x:Str) (u:Value):Prop :=
 (env.kindOf x=some .local∧m x=some u)∨((env.kindOf x=some .cell∨env.kindOf x=some .free)∧∃ c,env.cells.lookup x=some c∧h.IsCell c (some u))
structure Cx.Ok (X:Cx):Prop where
 mod:Mod X.K X.mg X.base
 kind:X.env.scope.kind=.function
 glob:X.env.globals=mainGlobals
 blt:X.env.builtins=builtinsNs
 above:X.s₀.heap.objs.size≤X.env.locals
 inj:∀ x y c,X.env.cells.lookup x=some c→X.env.cells.lookup y=some c→x=y
 has:∀ x,(X.env.kindOf x=some .cell∨X.env.kindOf x=some .free)→∃ c,X.env.cells.lookup x=some c
 cab:∀ x c,X.fn x=true→X.env.cells.lookup x=some c→X.s₀.heap.objs.size≤c
 hd:X.calm=true→X.A.handled=none
 frames:X.A.frames=some X.stack
 stk:X.stack=X.outer∨(X.stack=X.env::X.outer∧X.env.frame=some X.env.locals)
 exf:∀ b∈X.ex,b≠X.env.locals∧∀ x c,X.env.cells.lookup x=some c→c≠b
 bs:∀ b o,X.base.get? b=some o→X.s₀.heap.get? b=some o∧X.H₀ b=none
 bsz:X.base.objs.size≤X.s₀.heap.objs.size
 noex:∀ b o,X.base.get? b=some o→b ∉ X.ex
 exfs:∀ b∈X.ex,b ∉ X.fs
 funs:X.s₀.heap.FunFrames X.base X.outer
 frf:∀ b∈X.fs,X.H₀ b=none
structure Inv (X:Cx) (pins:List (Addr×Obj)) (σ:List (Option V)) (H:Hp) (s:Shared):Prop where
 ok:X.Ok
 os:s.os=X.s₀.os
 bare:AllBare s.gens
 base:Un X.fs X.ex X.H₀ H X.s₀.heap s.heap
 loc:∃ m,s.heap.Ns X.env.locals m∧∀ (i:Nat) (x:Str) (v:V),X.N[i]?=some x→σ[i]?=some (some v)→Vis X.env.scope x→∃ u,RelV v u∧Look X.env s.heap m x u
 cell:∀ x c,X.env.cells.lookup x=some c→∃ v,s.heap.IsCell c v
 free:H X.env.locals=none
 freeC:∀ x c,X.env.cells.lookup x=some c→H c=none
 pin:∀ p∈X.pn++pins,s.heap.get? p.1=some p.2∧H p.1=none∧p.1≠X.env.locals∧p.1 ∉ X.fs∧∀ v,p.2.data≠.cell v
 hok:HOk X.prog X.w H s.heap
 len:σ.length=X.N.length
section
variable {X:Cx}{pins:List (Addr×Obj)}{σ:List (Option V)}{H H':Hp}{s:Shared}{h':Heap}
theorem Cx.Ok.nofr (ok:X.Ok){b:Addr}{o:Obj}(e:X.base.get? b=some o):b ∉ X.fs:=fun hb=>by
 have:=(ok.funs.mem hb).1
 rw[e] at this;cases this
theorem Inv.bs (I:Inv X pins σ H s):∀ b o,X.base.get? b=some o→s.heap.get? b=some o∧H b=none:=fun b o e =>
 ⟨I.base.keep b o (I.ok.bs b o e).1 (I.ok.bs b o e).2 (I.ok.nofr e) (I.ok.noex b o e),I.base.free b o (I.ok.bs b o e).1 (I.ok.bs b o e).2 (I.ok.noex b o e)⟩
theorem Inv.bk (I:Inv X pins σ H s):∀ b o,X.base.get? b=some o→s.heap.get? b=some o:=fun b o e=>(I.bs b o e).1
theorem Inv.mod (I:Inv X pins σ H s):Mod X.K X.mg X.base:=I.ok.mod
theorem Inv.kIn (I:Inv X pins σ H s):X.K.In s.heap:=I.ok.mod.kin.keeps I.bk
theorem Inv.lt (I:Inv X pins σ H s):X.env.locals<s.heap.objs.size:=let ⟨_,hn,_⟩:=I.loc;hn.lt
theorem Inv.sz (I:Inv X pins σ H s):X.s₀.heap.objs.size≤s.heap.objs.size:=Nat.le_trans I.ok.above (Nat.le_of_lt I.lt)
theorem Inv.nofs (I:Inv X pins σ H s){a:Addr}(h:s.heap.objs.size≤a):a ∉ X.fs:=fun hb=>by
 obtain⟨_,o,ho,_⟩:=I.ok.funs.mem hb
 exact absurd (Nat.lt_of_lt_of_le (Heap.lt_size ho) (Nat.le_trans I.sz h)) (Nat.lt_irrefl _)
theorem Inv.cne (I:Inv X pins σ H s):∀ x c,X.env.cells.lookup x=some c→c≠X.env.locals:=fun x c e z=>by
 obtain⟨v,o,ho,hd⟩:=I.cell x c e
 obtain⟨m,⟨o',es,ep,ho',hd',_⟩,_⟩:=I.loc
 rw[z,ho'] at ho;cases ho;rw[hd'] at hd;cases hd
theorem Inv.funs (I:Inv X pins σ H s):s.heap.FunFrames X.base X.outer:=by
 have all:∀ (l:List Env),(∀ b∈frs l,b∈X.fs)→X.s₀.heap.FunFrames X.base l→s.heap.FunFrames X.base l:=by
  intro l
  induction l with
  | nil=>intro _ _;trivial
  | cons env r ih =>
   intro hs hl
   obtain⟨hk,⟨L,o,hf,hn,ho,hd⟩,hr⟩:=hl
   have hL:L∈X.fs:=hs L (by unfold frs;rw[List.filterMap_cons,hf];exact List.mem_cons_self)
   obtain⟨sl,e⟩:=I.base.slot L o ho (I.ok.frf L hL) hL fun z=>I.ok.exfs L z hL
   exact⟨hk,⟨L,_,hf,hn,e,hd⟩,ih (fun b hb=>hs b (by unfold frs;rw[List.filterMap_cons,hf];exact List.mem_cons_of_mem _ hb)) hr⟩
 exact all X.outer (fun _ hb=>hb) I.ok.funs
theorem Inv.stack (I:Inv X pins σ H s):s.heap.FunFrames X.base X.stack:=by
 rcases I.ok.stk with e | ⟨e,hf⟩
 ·rw[e];exact I.funs
 ·rw[e]
  obtain⟨m,hn,_⟩:=I.loc
  refine .cons (by rw[I.ok.kind];decide) hf hn ?_ I.funs
  exact Heap.get?_none_of_le (Nat.le_trans I.ok.bsz I.ok.above)
theorem Inv.stkSub (I:Inv X pins σ H s):∀ b∈frs X.stack,b∈X.env.locals::X.fs:=fun b hb=>by
 rcases I.ok.stk with e | ⟨e,hf⟩
 ·rw[e] at hb;exact List.mem_cons_of_mem _ hb
 ·rw[e] at hb
  unfold frs at hb
  rw[List.filterMap_cons,hf] at hb
  exact hb
theorem Inv.stkFree (I:Inv X pins σ H s):∀ b∈frs X.stack,H b=none:=fun b hb=>by
 rcases List.mem_cons.mp (I.stkSub b hb) with e | hb
 ·rw[e];exact I.free
 ·obtain⟨_,o,ho,_⟩:=I.ok.funs.mem hb
  exact I.base.free b o ho (I.ok.frf b hb) fun z=>I.ok.exfs b z hb
theorem Inv.step {g' : Array GenState}{t' : Nat}{d' : Drawn}{ch : List Addr}(I : Inv X pins σ H s)
  (hch:∀ b∈ch,(b∈X.ex∨X.s₀.heap.objs.size≤b)∧b≠X.env.locals∧(∀ x c,X.env.cells.lookup x=some c→c≠b)∧∀ p∈X.pn++pins,p.1≠b)
  (keep:∀ b o,b≠X.env.locals→b ∉ X.fs→b ∉ ch→s.heap.get? b=some o→H b=none→h'.get? b=some o)
  (slot:∀ b o,b≠X.env.locals→b∈X.fs→b ∉ ch→s.heap.get? b=some o→H b=none→∃ sl,h'.get? b=some { o with slots:=sl }) (free:∀ b o,b ∉ ch→s.heap.get? b=some o→H b=none→H' b=none)
  (there:∀ b o,b ∉ ch→s.heap.get? b=some o→∃ o',h'.get? b=some o')
  (tups:∀ b xs,H b=some (.tup xs)→H' b=some (.tup xs)) (frzs:∀ b o u,H b=some (.frz o u)→H' b=some (.frz o u)) (tbls:∀ b ps,H b=some (.tbl ps)→∃ more,H' b=some (.tbl (ps++more)))
  (ns:∀ m,s.heap.Ns X.env.locals m→h'.Ns X.env.locals m) (hok:HOk X.prog X.w H' h') (hg:AllBare g') :
  Inv X pins σ H' { s with heap:=h',gens:=g',drawn:=d',toks:=t' }:=by
 have neL:∀ b o,X.s₀.heap.get? b=some o→b≠X.env.locals:=fun b o e=>Nat.ne_of_lt (Nat.lt_of_lt_of_le (Heap.lt_size e) I.ok.above)
 have neC:∀ b o,X.s₀.heap.get? b=some o→b ∉ X.ex→b ∉ ch:=fun b o e hx hb=>by
  rcases (hch b hb).1 with z | z
  ·exact hx z
  ·exact absurd (Nat.lt_of_lt_of_le (Heap.lt_size e) z) (Nat.lt_irrefl _)
 have cellK:∀ x c,X.env.cells.lookup x=some c→∀ v,s.heap.IsCell c v→h'.IsCell c v:=fun x c e v ⟨o,ho,hd⟩=>by
  have nch:c ∉ ch:=fun z=>(hch c z).2.2.1 x c e rfl
  by_cases hc:c∈X.fs
  ·obtain⟨sl,q⟩:=slot c o (I.cne x c e) hc nch ho (I.freeC x c e)
   exact⟨_,q,hd⟩
  ·exact⟨o,keep c o (I.cne x c e) hc nch ho (I.freeC x c e),hd⟩
 refine⟨I.ok,I.os,hg,⟨fun b o e n hb hx=>?_,fun b o e n hb hx=>?_,fun b o e n hx=>?_,fun b o e hx=>?_,fun b xs e=>tups b xs (I.base.tups b xs e),fun b o xs e=>frzs b o xs (I.base.frzs b o xs e),fun b ps e=>?_⟩,?_,fun x c e=>?_,?_,fun x c e=>?_,fun p hp=>?_,hok,I.len⟩
 ·exact keep b o (neL b o e) hb (neC b o e hx) (I.base.keep b o e n hb hx) (I.base.free b o e n hx)
 ·obtain⟨sl,e1⟩:=I.base.slot b o e n hb hx
  obtain⟨sl',e2⟩:=slot b _ (neL b o e) hb (neC b o e hx) e1 (I.base.free b o e n hx)
  exact⟨sl',e2⟩
 ·obtain⟨o',e1⟩:=I.base.there b o e hx
  exact free b o' (neC b o e hx) e1 (I.base.free b o e n hx)
 ·obtain⟨o',e1⟩:=I.base.there b o e hx
  exact there b o' (neC b o e hx) e1
 ·obtain⟨m1,e1⟩:=I.base.tbls b ps e
  obtain⟨m2,e2⟩:=tbls b _ e1
  exact⟨m1++m2,by rw[e2,Array.append_assoc]⟩
 ·obtain⟨m,hn,hl⟩:=I.loc
  refine⟨m,ns m hn,fun i x v e1 e2 e3=>?_⟩
  obtain⟨u,r,l⟩:=hl i x v e1 e2 e3
  refine⟨u,r,?_⟩
  rcases l with l | ⟨k,c,e,z⟩
  ·exact .inl l
  ·exact .inr ⟨k,c,e,cellK x c e _ z⟩
 ·obtain⟨v,z⟩:=I.cell x c e
  exact⟨v,cellK x c e v z⟩
 ·obtain⟨m,⟨o,_,_,ho,_⟩,_⟩:=I.loc
  exact free _ o (fun z=>(hch _ z).2.1 rfl) ho I.free
 ·obtain⟨v,o,ho,hd⟩:=I.cell x c e
  exact free c o (fun z=>(hch c z).2.2.1 x c e rfl) ho (I.freeC x c e)
 ·obtain⟨e,n,ne,nf,d⟩:=I.pin p hp
  have nch:p.1 ∉ ch:=fun z=>(hch p.1 z).2.2.2 p hp rfl
  exact⟨keep p.1 p.2 ne nf nch e n,free p.1 p.2 nch e n,ne,nf,d⟩
theorem Inv.un {t':Nat}(I:Inv X pins σ H s) (u:Un X.fs [] H H' s.heap h') (hok:HOk X.prog X.w H' h'):Inv X pins σ H' { s with heap:=h',toks:=t' }:=by
 obtain⟨m,⟨o,es,ep,ho,r⟩,_⟩:=id I.loc
 obtain⟨sl,hL⟩:=u.any ho I.free (by simp)
 exact I.step (g':=s.gens) (d':=s.drawn) (ch:=[]) (fun _ z=>nomatch z) (fun b o _ hb _ e n=>u.keep b o e n hb (by simp)) (fun b o _ hb _ e n=>u.slot b o e n hb (by simp)) (fun b o _ e n=>u.free b o e n (by simp)) (fun b o _ e=>u.there b o e (by simp)) u.tups u.frzs u.tbls (fun m' hm=>by
  obtain⟨o',es',ep',ho',r'⟩:=hm
  rw[ho] at ho';cases ho'
  exact⟨_,es',ep',hL,r'⟩) hok I.bare
theorem Inv.call {g' : Array GenState}{t' : Nat}{d' : Drawn}{ch : List Addr}(I : Inv X pins σ H s) (u : Un (frs X.stack) ch H H' s.heap h') (hok : HOk X.prog X.w H' h') (hg : AllBare g')
  (hch:∀ b∈ch,(b∈X.ex∨X.s₀.heap.objs.size≤b)∧b≠X.env.locals∧(∀ x c,X.env.cells.lookup x=some c→c≠b)∧∀ p∈X.pn++pins,p.1≠b) :
  Inv X pins σ H' { s with heap:=h',gens:=g',drawn:=d',toks:=t' }:=by
 obtain⟨m,⟨o,es,ep,ho,r⟩,_⟩:=id I.loc
 obtain⟨sl,hL⟩:=u.any ho I.free fun z=>(hch _ z).2.1 rfl
 exact I.step (ch:=ch) hch (fun b o hL hb hc e n=>u.keep b o e n (fun z=>(List.mem_cons.mp (I.stkSub b z)).elim hL hb) hc) (fun b o _ _ hc e n=>u.any e n hc) (fun b o hc e n=>u.free b o e n hc) (fun b o hc e=>u.there b o e hc) u.tups u.frzs u.tbls (fun m' hm=>by
  obtain⟨o',es',ep',ho',r'⟩:=hm
  rw[ho] at ho';cases ho'
  exact⟨_,es',ep',hL,r'⟩) hok hg
theorem Inv.turned {t' : Nat}{it : Addr}(I : Inv X pins σ H s) (k : ∀ b o, b ≠ it → s.heap.get? b = some o → h'.get? b = some o) (hn : H it = none) (hL : it ≠ X.env.locals)
  (h1:it∈X.ex∨X.s₀.heap.objs.size≤it) (h2:∀ x c,X.env.cells.lookup x=some c→c≠it) (h3:∀ p∈X.pn++pins,p.1≠it):Inv X pins σ H { s with heap:=h',toks:=t' }:=by
 have nit:∀ b u,H b=some u→b≠it:=fun b u e z=>by rw[z,hn] at e;cases e
 refine I.step (g':=s.gens) (d':=s.drawn) (ch:=[it]) (fun b hb=>?_) (fun b o _ _ hc e _=>k b o (fun z=>hc (by simp[z])) e) (fun b o _ _ hc e _=>⟨o.slots,k b o (fun z=>hc (by simp[z])) e⟩) (fun _ _ _ _ n=>n)
  (fun b o hc e=>⟨o,k b o (fun z=>hc (by simp[z])) e⟩) (fun _ _ e=>e) (fun _ _ _ e=>e) (fun b ps e=>⟨#[],by rw[e];simp⟩) (fun m hm=>?_) (fun b u e=>?_) I.bare
 ·have e:b=it:=by simpa using hb
  subst e
  exact⟨h1,hL,h2,h3⟩
 ·obtain⟨o,es,ep,ho,r⟩:=hm
  exact⟨o,es,ep,k _ o (Ne.symm hL) ho,r⟩
 ·refine (I.hok b u e).stay (fun c v hc q=>k c v ?_ q) (fun _ q=>q) fun _ _ q=>q
  rcases hc with z | z
  ·rw[z];exact nit b u e
  ·exact nit c _ z
theorem Inv.tok (I:Inv X pins σ H s) (t:Nat):Inv X pins σ H { s with toks:=t }:=I.un (h':=s.heap) (t':=t) Un.refl I.hok
theorem Inv.kept {t':Nat}(I:Inv X pins σ H s) (k:∀ b u,s.heap.get? b=some u→h'.get? b=some u):Inv X pins σ H { s with heap:=h',toks:=t' }:=I.un (Un.kept k) (I.hok.kept k)
theorem Inv.laid {a : Addr}{o : HO}{t' : Nat}(I : Inv X pins σ H s) (k : ∀ b u, s.heap.get? b = some u → h'.get? b = some u) (hp : s.heap.objs.size ≤ a) (new : ObjOk X.prog X.w (upd H a o) h' a o) :
  Inv X pins σ (upd H a o) { s with heap:=h',toks:=t' }:=I.un (Un.laid k hp (I.hok.fresh hp)) (I.hok.laid k hp new)
theorem Inv.write {x e : Addr}{o : HO}{t' : Nat}(I : Inv X pins σ H s) (mu : Mut (H x)) (he : e = x ∨ H e = some (.own x)) (k : ∀ b u, b ≠ e → s.heap.get? b = some u → h'.get? b = some u) (heo : ∃ u, h'.get? e = some u)
  (new:ObjOk X.prog X.w (upd H x o) h' x o):Inv X pins σ (upd H x o) { s with heap:=h',toks:=t' }:=I.un (Un.write mu he k heo) (I.hok.write mu he k heo new)
theorem Inv.pins_of {pins':List (Addr×Obj)}(I:Inv X pins σ H s) (h:∀ p∈pins',s.heap.get? p.1=some p.2∧H p.1=none∧p.1≠X.env.locals∧p.1 ∉ X.fs∧∀ v,p.2.data≠.cell v):Inv X pins' σ H s :=
 ⟨I.ok,I.os,I.bare,I.base,I.loc,I.cell,I.free,I.freeC,fun p hp=>(List.mem_append.mp hp).elim (fun z=>I.pin p (List.mem_append_left _ z)) (h p),I.hok,I.len⟩
theorem zhb {N:List Str}(hN:N.Nodup){i j:Nat}{x:Str}(a:N[i]?=some x) (b:N[j]?=some x):i=j:=by
 obtain⟨h1,e1⟩:=List.getElem?_eq_some_iff.mp a
 obtain⟨h2,e2⟩:=List.getElem?_eq_some_iff.mp b
 exact (List.getElem_inj hN).mp (e1.trans e2.symm)
theorem zfw {M : Model}{A : Around}{E : Value → Shared → Prop}{i : Nat}{x : Str}{v : V}{u : Value}{Q : Unit → Shared → Prop}(I : Inv X pins σ H s) (hN : X.N.Nodup) (hi : X.N[i]? = some x) (hx : Loc X.env.scope x) (r : RelV v u)
  (h:∀ s',Inv X pins (σ.set i (some v)) H s'→(∃ a,Heap.SameBut a s.heap s'.heap∧(a=X.env.locals∨X.env.cells.lookup x=some a))→Q () s') (hf:X.fn x=true∨X.env.scope.names.lookup x=some .local:=by first | exact .inl rfl | exact .inr rfl | assumption):wpAny M A (storeName X.env x u) Q E s:=by
 obtain⟨m,hn,hl⟩:=id I.loc
 have hcls:(X.env.scope.kind == .class || (X.env.scope.kind == .module && X.env.locals != X.env.globals))=false:=by rw[I.ok.kind];rfl
 have hiσ:i<σ.length:=by rw[I.len];exact (List.getElem?_eq_some_iff.mp hi).1
 have cne:=I.cne
 have tracked:∀ {a:Addr} {h':Heap},(∃ o,s.heap.get? a=some o∧H a=none)→Heap.SameBut a s.heap h'→HOk X.prog X.w H h':=fun {a h'} ha hs b ob e=>by
  obtain⟨_,_,hfree⟩:=ha
  refine (I.hok b ob e).stay (fun c w' hc q=>(hs.2 c ?_).trans q) (fun _ q=>q) fun _ _ q=>q
  rintro rfl
  rcases hc with rfl | hc
  ·rw[hfree] at e;cases e
  ·rw[hfree] at hc;cases hc
 rcases hx with hk | hk
 ·refine wpAny_storeName_local hk hn (fun h' hn' hs=>?_) hcls
  obtain⟨oL,_,_,hoL,_⟩:=id hn
  refine h _ ⟨I.ok,I.os,I.bare,⟨fun b o e n hb hx=>?_,fun b o e n hb hx=>?_,I.base.free,fun b o e hx=>?_,I.base.tups,I.base.frzs,I.base.tbls⟩,⟨_,hn',fun j y v' e1 e2 e3=>?_⟩,fun y c e=>?_,I.free,I.freeC,fun p hp=>?_,tracked ⟨oL,hoL,I.free⟩ hs,by simpa using I.len⟩ ⟨_,hs,.inl rfl⟩
  ·exact (hs.2 b (Nat.ne_of_lt (Nat.lt_of_lt_of_le (Heap.lt_size e) I.ok.above))).trans (I.base.keep b o e n hb hx)
  ·obtain⟨sl,e1⟩:=I.base.slot b o e n hb hx
   exact⟨sl,(hs.2 b (Nat.ne_of_lt (Nat.lt_of_lt_of_le (Heap.lt_size e) I.ok.above))).trans e1⟩
  ·obtain⟨o',e1⟩:=I.base.there b o e hx
   exact⟨o',(hs.2 b (Nat.ne_of_lt (Nat.lt_of_lt_of_le (Heap.lt_size e) I.ok.above))).trans e1⟩
  ·by_cases hj:j=i
   ·subst hj
    rw[hi] at e1;cases e1
    rw[List.getElem?_set_self hiσ] at e2
    cases e2
    exact⟨u,r,.inl ⟨hk,by simp⟩⟩
   ·rw[List.getElem?_set_ne (Ne.symm hj)] at e2
    obtain⟨u',r',q⟩:=hl j y v' e1 e2 e3
    refine⟨u',r',?_⟩
    rcases q with⟨k,e⟩ | ⟨k,c,e,z⟩
    ·refine .inl ⟨k,?_⟩
     have:y≠x:=fun e=>hj (zhb hN e1 (e ▸ hi))
     simp[this,e]
    ·exact .inr ⟨k,c,e,z.sameBut hs (cne y c e)⟩
  ·obtain⟨w',z⟩:=I.cell y c e
   exact⟨w',z.sameBut hs (cne y c e)⟩
  ·obtain⟨e,n,ne,nf,d⟩:=I.pin p hp
   exact⟨(hs.2 p.1 ne).trans e,n,ne,nf,d⟩
 ·have hfn : X.fn x = true := by
   rcases hf with z | z
   ·exact z
   ·rw[z] at hk;cases hk
  obtain⟨c,hc⟩:=I.ok.has x (.inl hk)
  obtain⟨w',z⟩:=I.cell x c hc
  refine wpAny_storeName_cell I.ok.kind hk hc z (fun h' hc' hs=>?_)
  obtain⟨oc,hoc,hocd⟩:=id z
  refine h { s with heap:=h' } ⟨I.ok,I.os,I.bare,⟨fun b o e n hb hx=>?_,fun b o e n hb hx=>?_,I.base.free,fun b o e hx=>?_,I.base.tups,I.base.frzs,I.base.tbls⟩,⟨m,hn.sameBut hs (Ne.symm (cne x c hc)),fun j y v' e1 e2 e3=>?_⟩,fun y c' e=>?_,I.free,I.freeC,fun p hp=>?_,tracked ⟨oc,hoc,I.freeC x c hc⟩ hs,by simpa using I.len⟩ ⟨c,hs,.inr hc⟩
  ·exact (hs.2 b (Nat.ne_of_lt (Nat.lt_of_lt_of_le (Heap.lt_size e) (I.ok.cab x c hfn hc)))).trans (I.base.keep b o e n hb hx)
  ·obtain⟨sl,e1⟩:=I.base.slot b o e n hb hx
   exact⟨sl,(hs.2 b (Nat.ne_of_lt (Nat.lt_of_lt_of_le (Heap.lt_size e) (I.ok.cab x c hfn hc)))).trans e1⟩
  ·obtain⟨o',e1⟩:=I.base.there b o e hx
   exact⟨o',(hs.2 b (Nat.ne_of_lt (Nat.lt_of_lt_of_le (Heap.lt_size e) (I.ok.cab x c hfn hc)))).trans e1⟩
  ·by_cases hj:j=i
   ·subst hj
    rw[hi] at e1;cases e1
    rw[List.getElem?_set_self hiσ] at e2
    cases e2
    exact⟨u,r,.inr ⟨.inl hk,c,hc,hc'⟩⟩
   ·rw[List.getElem?_set_ne (Ne.symm hj)] at e2
    obtain⟨u',r',q⟩:=hl j y v' e1 e2 e3
    refine⟨u',r',?_⟩
    rcases q with q | ⟨k,c',e,z'⟩
    ·exact .inl q
    ·refine .inr ⟨k,c',e,z'.sameBut hs ?_⟩
     rintro rfl
     exact hj (zhb hN e1 (I.ok.inj _ _ _ e hc ▸ hi))
  ·by_cases hcc:c'=c
   ·subst hcc;exact⟨_,hc'⟩
   ·obtain⟨w2,z2⟩:=I.cell y c' e
    exact⟨w2,z2.sameBut hs hcc⟩
  ·obtain⟨e,n,ne,nf,d⟩:=I.pin p hp
   refine⟨(hs.2 p.1 ?_).trans e,n,ne,nf,d⟩
   intro q
   rw[q,hoc] at e
   have q':oc=p.2:=Option.some.inj e
   exact d w' (by rw[← q'];exact hocd)
theorem zeL {M : Model}{A : Around}{E : Value → Shared → Prop}{i : Nat}{x : Str}{v : V}{u : Value}{Q : Unit → Shared → Prop}(I : Inv X pins σ H s) (hN : X.N.Nodup) (hi : X.N[i]? = some x) (hx : Loc X.env.scope x) (r : RelV v u)
  (h:∀ s',Inv X pins (σ.set i (some v)) H s'→Q () s') (hf:X.fn x=true∨X.env.scope.names.lookup x=some .local:=by first | exact .inl rfl | exact .inr rfl | assumption):wpAny M A (storeName X.env x u) Q E s :=
 zfw I hN hi hx r (fun s' I' _=>h s' I') hf
theorem Inv.call' {s' : Shared}{ch : List Addr}(I : Inv X pins σ H s) (ho : s'.os = s.os) (u : Un (frs X.stack) ch H H' s.heap s'.heap) (hok : HOk X.prog X.w H' s'.heap) (hg : AllBare s'.gens)
  (hch:∀ b∈ch,(b∈X.ex∨X.s₀.heap.objs.size≤b)∧b≠X.env.locals∧(∀ x c,X.env.cells.lookup x=some c→c≠b)∧∀ p∈X.pn++pins,p.1≠b):Inv X pins σ H' s':=by
 obtain⟨h',g',d',t',o'⟩:=s'
 have e:o'=s.os:=ho
 subst e
 exact I.call (g':=g') (t':=t') (d':=d') u hok hg hch
end
abbrev XK:=Value→Option Addr→Hp→Prop
abbrev St:=List (Option V)
abbrev VK:=V→Hp→Prop
abbrev TE:=St→Hp→VK→Prop
abbrev TT:=St→Hp→(Bool→Hp→Prop)→Prop
abbrev TA:=St→Hp→(List V→Hp→Prop)→Prop
structure Ends where
 nx:St→Hp→Prop
 rt:VK
 bk:St→Hp→Prop:=fun _ _=>False
 ct:St→Hp→Prop:=fun _ _=>False
abbrev TS:=Ends→St→Hp→Prop
def EP (X:Cx) (pins:List (Addr×Obj)) (σ:St) (Q:VK) (u:Value) (s':Shared):Prop:=∃ v H',Inv X pins σ H' s'∧RelV v u∧Q v H'
def TP (X:Cx) (pins:List (Addr×Obj)) (σ:St) (Q:Bool→Hp→Prop) (b:Bool) (s':Shared):Prop:=∃ H',Inv X pins σ H' s'∧Q b H'
def AP (X:Cx) (pins:List (Addr×Obj)) (σ:St) (Q:List V→Hp→Prop) (us:List Value) (s':Shared):Prop:=∃ vs H',Inv X pins σ H' s'∧Vals vs us∧Q vs H'
def SP (X:Cx) (pins:List (Addr×Obj)) (D:Ends) (f:Flow) (s':Shared):Prop :=
 match f with
 | .next=>∃ σ' H',Inv X pins σ' H' s'∧D.nx σ' H'
 | .brk=>∃ σ' H',Inv X pins σ' H' s'∧D.bk σ' H'
 | .cont=>∃ σ' H',Inv X pins σ' H' s'∧D.ct σ' H'
 | .ret u=>∃ v σ' H',Inv X pins σ' H' s'∧RelV v u∧D.rt v H'
def PE (X:Cx) (e:Expr) (t:TE):Prop :=
 ∀ (pins:List (Addr×Obj)) (s:Shared) (σ:St) (H:Hp) (Q:VK),Inv X pins σ H s→t σ H Q→wpAny (model X.prog X.w) X.A (eval e X.env) (EP X pins σ Q) X.xe s
def PT (X:Cx) (e:Expr) (t:TT):Prop :=
 ∀ (pins:List (Addr×Obj)) (s:Shared) (σ:St) (H:Hp) (Q:Bool→Hp→Prop),Inv X pins σ H s→t σ H Q→wpAny (model X.prog X.w) X.A (isTrue e X.env (eval e X.env)) (TP X pins σ Q) X.xe s
def PW (X:Cx) (e:Expr) (t:TT):Prop :=
 ∀ (whole:Sem Value) (pins:List (Addr×Obj)) (s:Shared) (σ:St) (H:Hp) (Q:Bool→Hp→Prop),Inv X pins σ H s→t σ H Q→wpAny (model X.prog X.w) X.A (isTrue e X.env whole) (TP X pins σ Q) X.xe s
theorem PW.pt {X:Cx}{e:Expr}{t:TT}(h:PW X e t):PT X e t:=h _
def PA (X:Cx) (es:List Expr) (t:TA):Prop :=
 ∀ (pos:Pos) (pins:List (Addr×Obj)) (s:Shared) (σ:St) (H:Hp) (Q:List V→Hp→Prop),Inv X pins σ H s→t σ H Q→wpAny (model X.prog X.w) X.A (spliced (backTo pos (starEach es X.env))) (AP X pins σ Q) X.xe s
def PS (X:Cx) (st:Stmt) (t:TS):Prop :=
 ∀ (pins:List (Addr×Obj)) (s:Shared) (σ:St) (H:Hp) (D:Ends),Inv X pins σ H s→t D σ H→wpAny (model X.prog X.w) X.A (exec st X.env) (SP X pins D) X.xe s
def PSs (X:Cx) (st:List Stmt) (t:TS):Prop :=
 ∀ (pins:List (Addr×Obj)) (s:Shared) (σ:St) (H:Hp) (D:Ends),Inv X pins σ H s→t D σ H→wpAny (model X.prog X.w) X.A (execs st X.env) (SP X pins D) X.xe s
theorem thn {α:Type}{t:Sem α}{Q Q':α→Shared→Prop}{M:Model}{A:Around}{E:Value→Shared→Prop}{s:Shared}(h:wpAny M A t Q E s) (hQ:∀ a s,Q a s→Q' a s):wpAny M A t Q' E s:=wpAny_mono h hQ fun _ _ x=>x
section
variable {X:Cx}
def tVar (i:Nat):TE:=fun σ H Q=>∃ v,σ[i]?=some (some v)∧Q v H
def tC (v:V):TE:=fun _ H Q=>Q v H
theorem zlM {i:Nat}{x:Str}{pos:Pos}(hN:X.N[i]?=some x) (hv:Vis X.env.scope x) (hd:(x == ("__debug__" : Str))=false:=by decide) (hcd:(x == ("__classdict__" : Str))=false:=by decide):PE X (.Name x pos) (tVar i):=by
 intro pins s σ H Q I h
 obtain⟨v,e,h⟩:=h
 obtain⟨m,hn,hl⟩:=I.loc
 obtain⟨u,r,l⟩:=hl i x v hN e hv
 have fin:EP X pins σ Q u s:=⟨v,H,I,r,h⟩
 rcases l with⟨hk,hm⟩ | ⟨hk,c,hc,hcell⟩
 ·exact wpAny_Name (wpAny_loadName_local I.ok.kind hk hn hm fin) hd
 ·rcases hk with hk | hk
  ·exact wpAny_Name (wpAny_loadName_cell I.ok.kind hk hc hcell fin) hd
  ·exact wpAny_Name (wpAny_loadName_free I.ok.kind hk hc hcell fin hcd) hd
theorem zak {i j pos}:PE X (.Constant (.int i) j pos) (tC (.int i)):=fun _ _ _ H _ I h=>wpAny_Constant_int ⟨.int i,H,I.tok _,⟨_,rfl⟩,h⟩
theorem pe_bl {b j pos}:PE X (.Constant (.bool b) j pos) (tC (.bl b)):=fun _ _ _ H _ I h=>Constant_bool ⟨.bl b,H,I,rfl,h⟩
theorem zci {j pos}:PE X (.Constant .none j pos) (tC .non):=fun _ _ _ H _ I h=>Constant_none ⟨.non,H,I,rfl,h⟩
theorem zg4 {x j pos}:PE X (.Constant (.str x) j pos) (tC (.str x)):=fun _ _ _ H _ I h=>Calls.Constant_str ⟨.str x,H,I.tok _,⟨_,rfl⟩,h⟩
def Gl (X:Cx) (x:Str):Prop:=X.env.kindOf x=some .globalImplicit
theorem ziY {E : Value → Shared → Prop}{pins : List (Addr × Obj)}{s : Shared}{σ : St}{H : Hp}{x : Str}{u : Value}{pos : Pos}{Q : Value → Shared → Prop}(I : Inv X pins σ H s) (hg : Gl X x) (hm : X.mg x = some u) (h : Q u s)
  (hd:(x == ("__debug__" : Str))=false:=by decide):wpAny (model X.prog X.w) X.A (eval (.Name x pos) X.env) Q E s :=
 Calls.Name_function_global I.ok.kind hg (Calls.loadGlobal_global (by rw[I.ok.glob];exact I.mod.glob.keeps I.bk) hm h) hd
theorem zcz {E : Value → Shared → Prop}{pins : List (Addr × Obj)}{s : Shared}{σ : St}{H : Hp}{x : Str}{u : Value}{pos : Pos}{Q : Value → Shared → Prop}(I : Inv X pins σ H s) (hg : Gl X x) (hm : X.mg x = none) (hv : bootBuiltins x = some u) (h : Q u s)
  (hn:x ≠ "__name__":=by decide) (hd:(x == ("__debug__" : Str))=false:=by decide):wpAny (model X.prog X.w) X.A (eval (.Name x pos) X.env) Q E s:=by
 obtain⟨mb,h1,h2⟩:=I.mod.blt
 exact Calls.Name_function_global I.ok.kind hg (Calls.loadGlobal_builtin (by rw[I.ok.glob];exact I.mod.glob.keeps I.bk) hm (by rw[I.ok.blt];exact h1.keeps I.bk) ((h2 x hn).trans hv) h) hd
theorem zdL {x:Str}{v:V}{u:Value}{pos:Pos}(hg:Gl X x) (hm:X.mg x=some u) (r:RelV v u) (hd:(x == ("__debug__" : Str))=false:=by decide):PE X (.Name x pos) (tC v) :=
 fun _ _ _ H _ I h=>ziY I hg hm ⟨v,H,I,r,h⟩ hd
theorem zk1 {x:Str}{v:V}{u:Value}{pos:Pos}(hg:Gl X x) (hm:X.mg x=none) (hv:bootBuiltins x=some u) (r:RelV v u) (hn:x ≠ "__name__":=by decide) (hd:(x == ("__debug__" : Str))=false:=by decide):PE X (.Name x pos) (tC v) :=
 fun _ _ _ H _ I h=>zcz I hg hm hv ⟨v,H,I,r,h⟩ hn hd
variable {a b:Expr}{ta tb:TE}{pos:Pos}
def PC (X:Cx) (op:CmpOp) (a b:Expr) (t:TE):Prop :=
 ∀ (pins:List (Addr×Obj)) (s:Shared) (σ:St) (H:Hp) (Q:VK),Inv X pins σ H s→t σ H Q →
  wpAny (model X.prog X.w) X.A (eval a X.env) (fun v s₁=>wpAny (model X.prog X.w) X.A (eval b X.env) (fun u s₂=>wpAny (model X.prog X.w) X.A (compareOp op v u) (EP X pins σ Q) X.xe s₂) X.xe s₁) X.xe s
def tB (t:TE):TT:=fun σ H Q=>t σ H fun x H1=>∃ c,x=.bl c∧Q c H1
theorem zix {op:CmpOp}{t:TE}(h:PC X op a b t) (h1:behindInMarks op b=false:=by first | exact nobehind _ (by decide) (by decide) | rfl):PT X (.Compare a [op] [b] pos) (tB t):=by
 intro pins s σ H Q I hw
 refine wpAny_isTrue_Compare1 (thn (h pins s σ H _ I hw) fun v s1 h1=>thn h1 fun u s2 h2=>thn h2 fun c s3 ⟨x,H1,I1,r1,q1⟩=>?_) h1
 obtain⟨d,rfl,q⟩:=q1
 cases r1
 exact wpAny_truthy_bool ⟨H1,I1,q⟩
theorem zfH {e:Expr}{t:TE}(h:PE X e t) (he:∀ whole,isTrue e X.env whole=(do let v ← whole;standAt e.pos;holding [v] (truthy v)):=by intro _;rfl):PT X e (tB t):=by
 intro pins s σ H Q I hw
 refine isTrue_plain (thn (h pins s σ H _ I hw) fun v s1 ⟨x,H1,I1,r1,q1⟩=>?_) (he _)
 obtain⟨d,rfl,q⟩:=q1
 cases r1
 exact wpAny_truthy_bool ⟨H1,I1,q⟩
variable {tA tB':TT}{rest:List Expr}
def tOr (t u:TT):TT:=fun σ H Q=>t σ H fun c H1=>if c=true then Q true H1 else u σ H1 Q
def tNot (t:TT):TT:=fun σ H Q=>t σ H fun c H1=>Q (!c) H1
theorem zku (ha:PT X a tA):PW X (.BoolOp .Or [a] pos) tA:=by
 intro wh pins s σ H Q I h
 refine isTrue_or (thn (ha pins s σ H Q I h) fun c s1 e=>?_)
 cases c with
 | false=>exact isTrue_or_nil e
 | true=>exact e
theorem pw_or (ha:PT X a tA) (hb:PW X (.BoolOp .Or (b::rest) pos) tB'):PW X (.BoolOp .Or (a::b::rest) pos) (tOr tA tB'):=by
 intro wh pins s σ H Q I h
 refine isTrue_or (thn (ha pins s σ H _ I h) fun c s1 ⟨H1,I1,q1⟩=>?_)
 cases c with
 | true=>exact⟨H1,I1,q1⟩
 | false=>exact hb wh pins s1 σ H1 Q I1 q1
theorem ziw (ha:PT X a tA):PT X (.UnaryOp .Not a pos) (tNot tA):=by
 intro pins s σ H Q I h
 exact isTrue_not (ha pins s σ H (fun c H1=>Q (!c) H1) I h)
def tAndV (ta tb:TE):TE:=fun σ H Q=>ta σ H fun x H1=>∃ c,x=.bl c∧if c=true then tb σ H1 Q else Q (.bl false) H1
theorem ziH {op}{t:TE}(h:PE X a t):PE X (.BoolOp op [a] pos) t:=fun pins s σ H Q I hw=>BoolOp_one (h pins s σ H Q I hw)
theorem ziI (ha:PE X a ta) (hb:PE X (.BoolOp .And (b::rest) pos) tb):PE X (.BoolOp .And (a::b::rest) pos) (tAndV ta tb):=by
 intro pins s σ H Q I h
 refine BoolOp_and (thn (ha pins s σ H _ I h) fun v s1 ⟨x,H1,I1,r1,q1⟩=>?_)
 obtain⟨c,rfl,q1⟩:=q1
 cases r1
 refine wpAny_truthy_bool ?_
 cases c with
 | true=>exact hb pins s1 σ H1 Q I1 q1
 | false=>exact⟨.bl false,H1,I1,rfl,q1⟩
def tIf (t:TT) (ta tb:TE):TE:=fun σ H Q=>t σ H fun c H1=>if c=true then ta σ H1 Q else tb σ H1 Q
theorem zeY {c:Expr}(hc:PT X c tA) (ha:PE X a ta) (hb:PE X b tb):PE X (.IfExp c a b pos) (tIf tA ta tb):=by
 intro pins s σ H Q I h
 refine wpAny_IfExp (thn (hc pins s σ H _ I h) fun d s1 ⟨H1,I1,q1⟩=>?_)
 cases d with
 | true=>exact ha pins s1 σ H1 Q I1 q1
 | false=>exact hb pins s1 σ H1 Q I1 q1
end
def SqL (K:W.Frag) (H:Hp) (a:Addr) (xs:List V):Prop :=
 Rd H a (.lst xs) ∨
  ∃ (o:Obj) (its:Array Value) (n:Nat),K.lookup a=some o∧o.cls=.type "list" ∧ o.dict=none∧o.data=.seq its n∧its.size≤sizeLine∧Vals xs its.toList
def SqT (K:W.Frag) (H:Hp) (a:Addr) (xs:List V):Prop :=
 Rd H a (.tup xs) ∨
  ∃ (o:Obj) (its:Array Value) (n:Nat),K.lookup a=some o∧o.cls=.type "tuple" ∧ o.data=.seq its n∧its.size≤sizeLine∧Vals xs its.toList
def absV:Value→Option V
 | .none=>some .non
 | .bool b=>some (.bl b)
 | .int i _=>some (.int i)
 | .str x _=>some (.str x)
 | .bytes b _=>some (.byt b)
 | .float b _=>some (.flt b)
 | .ref a=>some (.ref a)
 | .type n=>some (.ty n)
 | _=>none
theorem RelV.abs {x:V}{u:Value}(r:RelV x u):absV u=some x:=by
 cases x with
 | non=>cases r;rfl
 | bl _=>cases r;rfl
 | int _=>obtain⟨t,rfl⟩:=r;rfl
 | str _=>obtain⟨t,rfl⟩:=r;rfl
 | byt _=>obtain⟨t,rfl⟩:=r;rfl
 | flt _=>obtain⟨t,rfl⟩:=r;rfl
 | ref _=>cases r;rfl
 | ty _=>cases r;rfl
theorem RelV.inj {x y:V}{u:Value}(r:RelV x u) (q:RelV y u):x=y:=Option.some.inj (r.abs.symm.trans q.abs)
theorem Vals.inj:∀ {xs ys:List V}{us:List Value},Vals xs us→Vals ys us→xs=ys
 | _,_,_,.nil,.nil=>rfl
 | _,_,_,.cons r t,.cons r' t'=>by rw[r.inj r',Vals.inj t t']
section
variable {X:Cx}{pins:List (Addr×Obj)}{σ:St}{H:Hp}{s:Shared}{a:Addr}{xs ys:List V}
theorem SqL.of {K:W.Frag}(h:H a=some (.lst xs)):SqL K H a xs:=.inl (.inl h)
theorem SqT.of {K:W.Frag}(h:H a=some (.tup xs)):SqT K H a xs:=.inl (.inl h)
theorem Inv.list (I:Inv X pins σ H s) (h:SqL X.K H a xs):∃ its:List Value,Vals xs its∧PlainL s.heap a its.toArray∧xs.length≤sizeLine:=by
 rcases h with h | ⟨o,its,n,hk,hc,hd,hs,hz,r⟩
 ·obtain⟨z,its,n,r,e⟩:=h.ok I.hok
  exact⟨its,r,⟨_,n,e,rfl,rfl,rfl⟩,z⟩
 ·refine⟨its.toList,r,⟨o,n,I.kIn a o hk,hc,hd,by simpa using hs⟩,?_⟩
  have e:=r.length
  simp only[Array.length_toList] at e
  lia
theorem Inv.tuple (I:Inv X pins σ H s) (h:SqT X.K H a xs):∃ its:List Value,Vals xs its∧IsTup s.heap a its.toArray∧xs.length≤sizeLine:=by
 rcases h with h | ⟨o,its,n,hk,hc,hs,hz,r⟩
 ·obtain⟨z,its,r,p⟩:=h.ok I.hok
  exact⟨its,r,p,z⟩
 ·refine⟨its.toList,r,⟨o,I.kIn a o hk,hc,n,by simpa using hs⟩,?_⟩
  have e:=r.length
  simp only[Array.length_toList] at e
  lia
theorem Inv.list_inj (I:Inv X pins σ H s) (h:SqL X.K H a xs) (h':SqL X.K H a ys):xs=ys:=by
 obtain⟨its,r,⟨o,n,e,_,_,d⟩,_⟩:=I.list h
 obtain⟨its',r',⟨o',n',e',_,_,d'⟩,_⟩:=I.list h'
 rw[e] at e';cases e'
 rw[d] at d'
 injection d' with d1 _
 have:its=its':=by simpa using congrArg Array.toList d1
 subst this
 exact r.inj r'
theorem Inv.tuple_inj (I:Inv X pins σ H s) (h:SqT X.K H a xs) (h':SqT X.K H a ys):xs=ys:=by
 obtain⟨its,r,⟨o,e,_,n,d⟩,_⟩:=I.tuple h
 obtain⟨its',r',⟨o',e',_,n',d'⟩,_⟩:=I.tuple h'
 rw[e] at e';cases e'
 rw[d] at d'
 injection d' with d1 _
 have:its=its':=by simpa using congrArg Array.toList d1
 subst this
 exact r.inj r'
end
abbrev Cx.wish (X:Cx) (E:Value→Shared→Prop):Cx:={ X with xe:=E }
abbrev Cx.nox (X:Cx):Cx:=X.wish fun _ _=>False
theorem Cx.Ok.wish {X:Cx}(ok:X.Ok) (E:Value→Shared→Prop):(X.wish E).Ok :=
 ⟨ok.mod,ok.kind,ok.glob,ok.blt,ok.above,ok.inj,ok.has,ok.cab,ok.hd,ok.frames,ok.stk,ok.exf,ok.bs,ok.bsz,ok.noex,ok.exfs,ok.funs,ok.frf⟩
theorem Cx.Ok.unwish {X:Cx}{E:Value→Shared→Prop}(ok:(X.wish E).Ok):X.Ok :=
 ⟨ok.mod,ok.kind,ok.glob,ok.blt,ok.above,ok.inj,ok.has,ok.cab,ok.hd,ok.frames,ok.stk,ok.exf,ok.bs,ok.bsz,ok.noex,ok.exfs,ok.funs,ok.frf⟩
section
variable {X:Cx}{pins:List (Addr×Obj)}{σ:St}{H:Hp}{s:Shared}{E:Value→Shared→Prop}
theorem Inv.wish (I:Inv X pins σ H s) (E:Value→Shared→Prop):Inv (X.wish E) pins σ H s:=⟨I.ok.wish E,I.os,I.bare,I.base,I.loc,I.cell,I.free,I.freeC,I.pin,I.hok,I.len⟩
theorem Inv.unwish (I:Inv (X.wish E) pins σ H s):Inv X pins σ H s:=⟨I.ok.unwish,I.os,I.bare,I.base,I.loc,I.cell,I.free,I.freeC,I.pin,I.hok,I.len⟩
theorem SP.unwish {D:Ends}{f:Flow}{s':Shared}(h:SP (X.wish E) pins D f s'):SP X pins D f s':=by
 cases f with
 | next=>obtain⟨σ',H',I,q⟩:=h;exact⟨σ',H',I.unwish,q⟩
 | brk=>obtain⟨σ',H',I,q⟩:=h;exact⟨σ',H',I.unwish,q⟩
 | cont=>obtain⟨σ',H',I,q⟩:=h;exact⟨σ',H',I.unwish,q⟩
 | ret u=>obtain⟨v,σ',H',I,r,q⟩:=h;exact⟨v,σ',H',I.unwish,r,q⟩
theorem PSs.nox {st:List Stmt}{t:TS}(h:PSs X.nox st t):PSs X st t:=fun pins s σ H D I hw =>
 wpAny_mono (h pins s σ H D (I.wish _) hw) (fun _ _ q=>q.unwish) fun _ _ z=>False.elim z
end
section
variable {X:Cx}{st:Stmt}{rest:List Stmt}{t u:TS}{e:Expr}{te:TE}{pos:Pos}
def tNext:TS:=fun D σ H=>D.nx σ H
def tSeq (t u:TS):TS:=fun D σ H=>t { D with nx:=u D } σ H
theorem za9:PSs X [] tNext:=fun _ _ σ H _ I h=>wpAny_execs_nil ⟨σ,H,I,h⟩
theorem zac (h1:PS X st t) (h2:PSs X rest u):PSs X (st::rest) (tSeq t u):=by
 intro pins s σ H D I h
 refine wpAny_execs_cons (thn (h1 pins s σ H { D with nx:=u D } I h) fun f s1 q=>?_)
 cases f with
 | next =>
  obtain⟨σ',H',I',q⟩:=q
  exact h2 pins s1 σ' H' D I' q
 | ret v=>exact q
 | brk=>exact q
 | cont=>exact q
theorem zag (h1:PS X st t):PSs X [st] t:=by
 intro pins s σ H D I h
 refine wpAny_execs_cons (thn (h1 pins s σ H D I h) fun f s1 q=>?_)
 cases f with
 | next=>exact wpAny_execs_nil q
 | ret v=>exact q
 | brk=>exact q
 | cont=>exact q
theorem Inv.quiet {pins:List (Addr×Obj)}{σ:St}{H:Hp}{s:Shared}(I:Inv X pins σ H s):interactive X.env=false:=by simp[interactive,I.ok.kind]
def tDrop (te:TE):TS:=fun D σ H=>te σ H fun _ H1=>D.nx σ H1
theorem zbv (he:PE X e te) (hs:swapsWith e none pos.line X.env=pure false:=by rfl):PS X (.Expr e pos) (tDrop te):=by
 intro pins s σ H D I h
 exact wpAny_Expr_any (thn (he pins s σ H _ I h) fun v s1 ⟨x,H1,I1,r1,q1⟩=>⟨σ,H1,I1,q1⟩) I.quiet hs
def tRet (te:TE):TS:=fun D σ H=>te σ H D.rt
theorem zat (he:PE X e te):PS X (.Return (some e) pos) (tRet te):=by
 intro pins s σ H D I h
 exact wpAny_Return_some (thn (he pins s σ H _ I h) fun v s1 ⟨x,H1,I1,r1,q1⟩=>⟨x,σ,H1,I1,r1,q1⟩)
def tIfS (c:TT) (t u:TS):TS:=fun D σ H=>c σ H fun b H1=>if b=true then t D σ H1 else u D σ H1
theorem ps_if {c:Expr}{a b:List Stmt}{tc:TT}(hc:PT X c tc) (ha:PSs X a t) (hb:PSs X b u):PS X (.If c a b pos) (tIfS tc t u):=by
 intro pins s σ H D I h
 refine wpAny_If (thn (hc pins s σ H _ I h) fun d s1 ⟨H1,I1,q1⟩=>?_)
 cases d with
 | true=>exact ha pins s1 σ H1 D I1 q1
 | false=>exact hb pins s1 σ H1 D I1 q1
def zlv:TS:=fun _ _ _=>False
theorem zdy:PS X st zlv:=fun _ _ _ _ _ _ h=>h.elim
end
abbrev TG:=V→St→Hp→(St→Hp→Prop)→Prop
abbrev TGs:=List V→St→Hp→(St→Hp→Prop)→Prop
def PG (X:Cx) (target:Expr) (t:TG):Prop :=
 ∀ (pins:List (Addr×Obj)) (s:Shared) (σ:St) (H:Hp) (v:V) (u:Value) (Q:St→Hp→Prop),Inv X pins σ H s→RelV v u→t v σ H Q →
  wpAny (model X.prog X.w) X.A (assign target X.env u) (fun _ s'=>∃ σ' H',Inv X pins σ' H' s'∧Q σ' H') X.xe s
def PGs (X:Cx) (ts:List Expr) (t:TGs):Prop :=
 ∀ (pins:List (Addr×Obj)) (s:Shared) (σ:St) (H:Hp) (vs:List V) (us:List Value) (Q:St→Hp→Prop),Inv X pins σ H s→Vals vs us→t vs σ H Q →
  wpAny (model X.prog X.w) X.A (assignInOrder ((assignEach ts X.env).map (·.2)) us) (fun _ s'=>∃ σ' H',Inv X pins σ' H' s'∧Q σ' H') X.xe s
abbrev TIp:=V→V→Hp→VK→Prop
def PIp (X:Cx) (op:Operator) (t:TIp):Prop :=
 ∀ (pins:List (Addr×Obj)) (s:Shared) (σ:St) (H:Hp) (x y:V) (v u:Value) (Q:VK),Inv X pins σ H s→RelV x v→RelV y u→t x y H Q →
  wpAny (model X.prog X.w) X.A (inplaceOp op v u) (EP X pins σ Q) X.xe s
section
variable {X:Cx}{pos:Pos}
def gName (i:Nat):TG:=fun v σ H Q=>Q (σ.set i (some v)) H
theorem zaf {i:Nat}{x:Str}(hN:X.N.Nodup) (hi:X.N[i]?=some x) (hx:Loc X.env.scope x) (hf:X.fn x=true∨X.env.scope.names.lookup x=some .local:=by first | exact .inl rfl | exact .inr rfl | assumption):PG X (.Name x pos) (gName i):=by
 intro pins s σ H v u Q I r h
 exact wpAny_assign_Name (zeL I hN hi hx r (fun s' I'=>⟨_,H,I',h⟩) hf)
def gNil:TGs:=fun vs σ H Q=>vs=[]∧Q σ H
def gCons (t:TG) (u:TGs):TGs:=fun vs σ H Q=>∃ v r,vs=v::r∧t v σ H fun σ' H'=>u r σ' H' Q
theorem zay:PGs X [] gNil:=by
 intro pins s σ H vs us Q I r h
 obtain⟨e,h⟩:=h
 subst e
 cases r
 exact assignInOrder_nil ⟨σ,H,I,h⟩
theorem zae {e : Expr}{es : List Expr}{t : TG}{u : TGs}(h1 : PG X e t) (h2 : PGs X es u)
  (hs:(assignEach (e::es) X.env).map (·.2)=assign e X.env::(assignEach es X.env).map (·.2):=by rfl):PGs X (e::es) (gCons t u):=by
 intro pins s σ H vs us Q I r h
 obtain⟨v,vr,e1,h⟩:=h
 subst e1
 cases r with
 | cons r rr =>
  rw[hs]
  refine assignInOrder_cons (thn (h1 pins s σ H _ _ _ I r h) fun _ s1 ⟨σ1,H1,I1,q1⟩=>?_)
  exact h2 pins s1 σ1 H1 _ _ Q I1 rr q1
def gTup (K:W.Frag) (n:Nat) (t:TGs):TG:=fun v σ H Q=>∃ a xs,v=.ref a∧SqT K H a xs∧xs.length=n∧t xs σ H Q
theorem zbL {es : List Expr}{k : Nat}{t : TGs}{n : Nat}(hc : X.calm = true) (h : PGs X es t)
  (hn:(assignEach es X.env).length=n:=by rfl) (hst:(assignEach es X.env).findIdx? (·.1)=none:=by rfl):PG X (.Tuple es k pos) (gTup X.K n t):=by
 intro pins s σ H v u Q I r hw
 obtain⟨a,xs,e1,hq,hl,hw⟩:=hw
 subst e1
 cases r
 obtain⟨its,rv,ht,hz⟩:=I.tuple hq
 refine assign_Tuple_tuple (I.ok.hd hc) ht (by simp[hn,← hl,rv.length]) hst fun h' hx=>?_
 have I1:Inv X pins σ H { s with heap:=h' }:=I.kept (t':=s.toks) fun b o e=>hx b o (Nat.ne_of_lt (Heap.lt_size e)) e
 exact h pins _ σ H xs _ Q I1 (by simpa using rv) hw
def tAsg (te:TE) (g:TG):TS:=fun D σ H=>te σ H fun x H1=>g x σ H1 D.nx
theorem zct {tg e : Expr}{te : TE}{g : TG}(he : PE X e te) (hg : PG X tg g) (hs : swapsWithSole [tg] e pos.line X.env = pure false := by rfl) (hw : swappedStores [tg] e X.env = pure none := by rfl)
  (h1:(assignEach [tg] X.env).map (·.2)=[assign tg X.env]:=by rfl):PS X (.Assign [tg] e pos) (tAsg te g):=by
 intro pins s σ H D I h
 refine wpAny_Assign_stores (thn (he pins s σ H _ I h) fun v s1 ⟨x,H1,I1,r1,q1⟩=>?_) hs hw
 rw[h1]
 exact thn (hg pins s1 σ H1 x v _ I1 r1 q1) fun _ s2 q=>q
theorem zaq {i : Nat}{x : Str}{e : Expr}{te : TE}{pos' : Pos}(hN : X.N.Nodup) (hi : X.N[i]? = some x) (hx : Loc X.env.scope x) (he : PE X e te) (hs : swapsWith e (some (.Name x pos')) pos.line X.env = pure false := by rfl) (hf : X.fn x = true ∨ X.env.scope.names.lookup x = some .local := by first | exact .inl rfl | exact .inr rfl | assumption) :
  PS X (.Assign [.Name x pos'] e pos) (tAsg te (gName i)):=by
 intro pins s σ H D I h
 refine wpAny_Assign_Name (thn (he pins s σ H _ I h) fun v s1 ⟨y,H1,I1,r1,q1⟩=>?_) hs
 exact zeL I1 hN hi hx r1 (fun s2 I2=>⟨_,H1,I2,q1⟩) hf
def tAug (i:Nat) (te:TE) (ti:TIp):TS:=fun D σ H=>∃ x,σ[i]?=some (some x)∧te σ H fun y H1=>ti x y H1 fun z H2=>D.nx (σ.set i (some z)) H2
theorem zlK {i : Nat}{x : Str}{e : Expr}{te : TE}{op : Operator}{ti : TIp}{pos' : Pos}(hN : X.N.Nodup) (hi : X.N[i]? = some x) (hx : Loc X.env.scope x) (he : PE X e te) (ho : PIp X op ti) (hf : X.fn x = true ∨ X.env.scope.names.lookup x = some .local := by first | exact .inl rfl | exact .inr rfl | assumption) :
  PS X (.AugAssign (.Name x pos') op e pos) (tAug i te ti):=by
 intro pins s σ H D I h
 obtain⟨v,e1,h⟩:=h
 obtain⟨m,hn,hl⟩:=I.loc
 have vis:Vis X.env.scope x:=by rcases hx with k | k;exact .inl k;exact .inr (.inl k)
 obtain⟨u,r,l⟩:=hl i x v hi e1 vis
 refine wpAny_AugAssign_Name ?_
 have go:wpAny (model X.prog X.w) X.A (eval e X.env) (fun w s₂=>wpAny (model X.prog X.w) X.A (inplaceOp op u w) (fun r s₃=>wpAny (model X.prog X.w) X.A (storeName X.env x r) (fun _=>SP X pins D .next) X.xe s₃) X.xe s₂) X.xe s:=by
  refine thn (he pins s σ H _ I h) fun w s1 ⟨y,H1,I1,r1,q1⟩=>?_
  refine thn (ho pins s1 σ H1 v y u w _ I1 r r1 q1) fun z s2 ⟨zv,H2,I2,r2,q2⟩=>?_
  exact zeL I2 hN hi hx r2 (fun s3 I3=>⟨_,H2,I3,q2⟩) hf
 rcases l with⟨hk,hm⟩ | ⟨hk,c,hc,hcell⟩
 ·exact wpAny_loadName_local I.ok.kind hk hn hm go
 ·rcases hk with hk | hk
  ·exact wpAny_loadName_cell I.ok.kind hk hc hcell go
  ·rcases hx with k | k
   ·have:X.env.scope.names.lookup x=some .free:=hk
    rw[k] at this;cases this
   ·have:X.env.scope.names.lookup x=some .free:=hk
    rw[k] at this;cases this
def ipI (f:Int→Int→Int):TIp:=fun x y H Q=>∃ i j,x=.int i∧y=.int j∧Q (.int (f i j)) H
theorem zlY:PIp X .Add (ipI fun i j=>i+j):=by
 intro pins s σ H x y v u Q I r1 r2 h
 obtain⟨i,j,e1,e2,q⟩:=h
 subst e1;subst e2
 obtain⟨t,rfl⟩:=r1
 obtain⟨t',rfl⟩:=r2
 exact iadd_int ⟨.int _,H,I.tok _,⟨_,rfl⟩,q⟩
end
section
variable {X:Cx}{pos:Pos}
def zki (c:TT) (tb:TS):TS:=fun D σ H=>∃ W:Nat→St→Hp→Prop,(∃ m,W m σ H)∧∀ m σ H,W m σ H →
 c σ H fun b H1=>if b=true then ∃ N:St→Hp→Prop,(∀ σ' H',N σ' H'→∃ m',m'<m∧W m' σ' H')∧tb { D with nx:=N,ct:=N,bk:=D.nx } σ H1 else D.nx σ H1
theorem zjP {c:Expr}{body:List Stmt}{tc:TT}{tb:TS}(hp:PassesOwn (model X.prog X.w) X.A X.env X.xe) (hc:PT X c tc) (hb:PSs X body tb):PS X (.While c body [] pos) (zki tc tb):=by
 intro pins s σ H D I h
 obtain⟨W,⟨m0,w0⟩,turn⟩:=h
 refine wpAny_While (codeAny_whileLoop (fun n s'=>∃ σ' H',Inv X pins σ' H' s'∧W n σ' H') ?_ m0 ⟨σ,H,I,w0⟩)
 rintro n s1 ⟨σ1,H1,I1,w1⟩
 refine wpAny_passesOwn hp (thn (hc pins s1 σ1 H1 _ I1 (turn n σ1 H1 w1)) fun b s2 ⟨H2,I2,q2⟩=>?_)
 cases b with
 | true =>
  obtain⟨N,hN,q2⟩:=q2
  rw[if_pos rfl]
  refine wpAny_passesOwn hp (thn (hb pins s2 σ1 H2 _ I2 q2) fun f s3 q3=>?_)
  cases f with
  | next =>
   obtain⟨σ3,H3,I3,n3⟩:=q3
   obtain⟨m',hm,w3⟩:=hN σ3 H3 n3
   exact⟨m',hm,σ3,H3,I3,w3⟩
  | cont =>
   obtain⟨σ3,H3,I3,n3⟩:=q3
   obtain⟨m',hm,w3⟩:=hN σ3 H3 n3
   exact⟨m',hm,σ3,H3,I3,w3⟩
  | brk=>exact q3
  | ret v=>exact q3
 | false =>
  rw[if_neg Bool.false_ne_true]
  exact wpAny_execs_nil ⟨σ1,H2,I2,q2⟩
end
structure It where
 go:Nat→Hp→Prop
 yld:Nat→Hp→V→Hp→Prop
 stop:Nat→Hp→Prop
def FpOk (X:Cx) (pins:List (Addr×Obj)) (H:Hp) (b:Addr):Prop :=
 H b=none∧b≠X.env.locals∧b ∉ X.fs∧(b∈X.ex∨X.s₀.heap.objs.size≤b)∧(∀ x c,X.env.cells.lookup x=some c→c≠b)∧∀ p∈X.pn++pins,p.1≠b
theorem Inv.fpOk {X:Cx}{pins:List (Addr×Obj)}{σ:St}{H H':Hp}{s:Shared}{b:Addr}(I:Inv X pins σ H s) (hb:s.heap.objs.size≤b) (hn:H' b=none):FpOk X pins H' b:=by
 refine⟨hn,Nat.ne_of_gt (Nat.lt_of_lt_of_le I.lt hb),I.nofs hb,.inr (Nat.le_trans I.sz hb),fun x c e z=>?_,fun p hp z=>?_⟩
 ·obtain⟨v,q⟩:=I.cell x c e
  exact absurd (Nat.lt_of_lt_of_le q.lt (by rw[z];exact hb)) (Nat.lt_irrefl _)
 ·exact absurd (Nat.lt_of_lt_of_le (Heap.lt_size (I.pin p hp).1) (by rw[z];exact hb)) (Nat.lt_irrefl _)
structure Turn (P:Program) (w:World) (K:W.Frag) (tg:Expr) (J:It) (fp:List Addr) (it:Addr) (tn:Nat→Heap→Prop):Prop where
 mem:it∈fp
 obj:∀ i h,tn i h→∀ b∈fp,∃ o,h.get? b=some o∧∀ v,o.data≠.cell v
 keep:∀ i h h',tn i h→(∀ b∈fp,∀ o,h.get? b=some o→h'.get? b=some o)→tn i h'
 item:∀ (X:Cx),X.prog=P→X.w=w→X.K=K→X.calm=true→∀ (i:Nat) (pins:List (Addr×Obj)) (s:Shared) (σ:St) (H:Hp) (E:Value→Shared→Prop),Inv X pins σ H s→(∀ b∈fp,FpOk X pins H b)→tn i s.heap→J.go i H →
  wpAny (model P w) X.A (pyNext (.ref it)) (fun r s1=>∃ u,r=some u ∧
   wpAny (model P w) X.A (letOwnedTupleGo tg (.ref it) u) (fun _ s2=>∃ x H',Inv X pins σ H' s2∧RelV x u∧J.yld i H x H'∧tn (i+1) s2.heap∧∀ b∈fp,H' b=none) E s1) E s
 done:∀ (X:Cx),X.prog=P→X.w=w→X.K=K→X.calm=true→∀ (i:Nat) (pins:List (Addr×Obj)) (s:Shared) (σ:St) (H:Hp) (E:Value→Shared→Prop),Inv X pins σ H s→(∀ b∈fp,FpOk X pins H b)→tn i s.heap→J.stop i H →
  wpAny (model P w) X.A (pyNext (.ref it)) (fun r s1=>r=none∧Inv X pins σ H s1) E s
 self:∀ (A:Around) (i:Nat) (s:Shared) (Q:Value→Shared→Prop) (E:Value→Shared→Prop),tn i s.heap→Q (.ref it) s→wpAny (model P w) A (pyIter (.ref it)) Q E s
abbrev TI:=St→Hp→(It→Hp→Prop)→Prop
def PIE (X:Cx) (pins:List (Addr×Obj)) (σ:St) (tg:Expr) (R:It→Hp→Prop) (itv:Value) (s2:Shared):Prop :=
 ∃ (it:Addr) (fp:List Addr) (tn:Nat→Heap→Prop) (J:It) (H':Hp),itv=.ref it∧Inv X pins σ H' s2∧Turn X.prog X.w X.K tg J fp it tn∧tn 0 s2.heap∧(∀ b∈fp,FpOk X pins H' b)∧R J H'
def PI (X:Cx) (tg iter:Expr) (wi:TI):Prop :=
 ∀ (pins:List (Addr×Obj)) (s:Shared) (σ:St) (H:Hp) (R:It→Hp→Prop),Inv X pins σ H s→wi σ H R →
  wpAny (model X.prog X.w) X.A (eval iter X.env) (fun v s1=>wpAny (model X.prog X.w) X.A (pyIter v) (PIE X pins σ tg R) X.xe s1) X.xe s
theorem go_of {M : Model}{A : Around}{E : Value → Shared → Prop}{s : Shared}{tg : Expr}{it : Addr}{u : Value}{o : Obj}{n : String}{vs : Array Value}{Q : Unit → Shared → Prop}(ho : s.heap.get? it = some o) (hc : o.cls = .type n) (hd : o.data = .fields vs)
    (hn:["enumerate","zip","dict_itemiterator","dict_reverseitemiterator","odict_iterator","itertools.zip_longest","itertools.pairwise"].contains n=false) (hQ:Q () s):wpAny M A (letOwnedTupleGo tg (.ref it) u) Q E s:=by
  unfold letOwnedTupleGo
  cases tg <;> first
    | exact wpAny_pure hQ
    | (cases u <;> first
        | exact wpAny_pure hQ
        | (refine wpAny_bind (wpAny_load ho ?_)
           rw[hc,hd]
           show wpAny M A (if (["enumerate","zip","dict_itemiterator","dict_reverseitemiterator","odict_iterator","itertools.zip_longest","itertools.pairwise"].contains n && vs[0]? == some (rawInt _))=true then _ else _) Q E s
           rw[if_neg (by intro h;rw[hn,Bool.false_and] at h;cases h)]
           exact wpAny_pure hQ))
def Itl (K:W.Frag) (a:Addr):It :=
 ⟨fun i H=>∃ xs x,SqL K H a xs∧xs[i]?=some x,fun i H x H'=>H'=H∧∀ xs,SqL K H a xs→xs[i]?=some x,fun i H=>∃ xs,SqL K H a xs∧xs.length≤i⟩
def Itt (K:W.Frag) (a:Addr):It :=
 ⟨fun i H=>∃ xs x,SqT K H a xs∧xs[i]?=some x,fun i H x H'=>H'=H∧∀ xs,SqT K H a xs→xs[i]?=some x,fun i H=>∃ xs,SqT K H a xs∧xs.length≤i⟩
def Itr (lo:Int) (n:Nat):It:=⟨fun i _=>i<n,fun i H x H'=>H'=H∧x=.int (lo+i),fun i _=>n≤i⟩
theorem zic {P:Program}{w:World}{K:W.Frag}{tg:Expr}(a it:Addr):Turn P w K tg (Itl K a) [it] it (fun i h=>h.IsListIter it a i) where
 mem:=by simp
 obj:=fun i h st b hb=>by
  have e:b=it:=by simpa using hb
  subst e
  obtain⟨o,e,c,d⟩:=st
  exact⟨o,e,fun v z=>by rw[d] at z;cases z⟩
 keep:=fun i h h' st k=>st.at fun o e=>k it (by simp) o e
 item:=by
  intro X hP hw hK hc i pins s σ H E I hf st hg
  subst hP hw hK
  obtain⟨xs,x,hq,hx⟩:=hg
  obtain⟨its,rv,p,hz⟩:=I.list hq
  obtain⟨u,hu,ru⟩:=rv.get hx
  obtain⟨f0,f1,f2,f3,f4,f5⟩:=hf it (by simp)
  refine wpAny_pyNext_list_item st p.isList (x:=u) (by simpa using hu) fun h' st' sb=>?_
  have I1:Inv X pins σ H { s with heap:=h' }:=I.turned (t':=s.toks) (fun b o hb e=>(sb.2 b hb).trans e) f0 f1 f3 f4 f5
  obtain⟨o,e,c,d⟩:=id st'
  exact⟨u,rfl,go_of (s:={ s with heap:=h' }) e c d (by decide) ⟨x,H,I1,ru,⟨rfl,fun ys hy=>by rw[I.list_inj hy hq];exact hx⟩,st',fun b hb=>(hf b hb).1⟩⟩
 done:=by
  intro X hP hw hK hc i pins s σ H E I hf st hg
  subst hP hw hK
  obtain⟨xs,hq,hx⟩:=hg
  obtain⟨its,rv,p,hz⟩:=I.list hq
  obtain⟨f0,f1,f2,f3,f4,f5⟩:=hf it (by simp)
  have hl:=rv.length
  exact wpAny_pyNext_list_end (I.ok.hd hc) st p.isList (by simp;lia) fun h' eb=>⟨rfl,I.turned (t':=s.toks) (fun b o hb e=>eb b o hb e) f0 f1 f3 f4 f5⟩
 self:=fun _ _ _ _ _ st h=>wpAny_pyIter_listiter st h
theorem zhx {P:Program}{w:World}{K:W.Frag}{tg:Expr}(a it:Addr):Turn P w K tg (Itt K a) [it] it (fun i h=>h.IsTupleIter it a i) where
 mem:=by simp
 obj:=fun i h st b hb=>by
  have e:b=it:=by simpa using hb
  subst e
  obtain⟨o,e,c,d⟩:=st
  exact⟨o,e,fun v z=>by rw[d] at z;cases z⟩
 keep:=fun i h h' st k=>st.at fun o e=>k it (by simp) o e
 item:=by
  intro X hP hw hK hc i pins s σ H E I hf st hg
  subst hP hw hK
  obtain⟨xs,x,hq,hx⟩:=hg
  obtain⟨its,rv,p,hz⟩:=I.tuple hq
  obtain⟨u,hu,ru⟩:=rv.get hx
  obtain⟨f0,f1,f2,f3,f4,f5⟩:=hf it (by simp)
  refine wpAny_pyNext_tuple_item st (show s.heap.IsTuple a its.toArray from p) (x:=u) (by simpa using hu) fun h' st' sb=>?_
  have I1:Inv X pins σ H { s with heap:=h' }:=I.turned (t':=s.toks) (fun b o hb e=>(sb.2 b hb).trans e) f0 f1 f3 f4 f5
  obtain⟨o,e,c,d⟩:=id st'
  exact⟨u,rfl,go_of (s:={ s with heap:=h' }) e c d (by decide) ⟨x,H,I1,ru,⟨rfl,fun ys hy=>by rw[I.tuple_inj hy hq];exact hx⟩,st',fun b hb=>(hf b hb).1⟩⟩
 done:=by
  intro X hP hw hK hc i pins s σ H E I hf st hg
  subst hP hw hK
  obtain⟨xs,hq,hx⟩:=hg
  obtain⟨its,rv,p,hz⟩:=I.tuple hq
  obtain⟨f0,f1,f2,f3,f4,f5⟩:=hf it (by simp)
  have hl:=rv.length
  exact wpAny_pyNext_tuple_end (I.ok.hd hc) st (show s.heap.IsTuple a its.toArray from p) (by simp;lia) fun h' eb=>⟨rfl,I.turned (t':=s.toks) (fun b o hb e=>eb b o hb e) f0 f1 f3 f4 f5⟩
 self:=fun _ _ _ _ _ st h=>wpAny_pyIter_tupleiter st h
theorem zep {P:Program}{w:World}{K:W.Frag}{tg:Expr}(it:Addr) (lo:Int) (n:Nat):Turn P w K tg (Itr lo n) [it] it (fun i h=>IsRangeIter h it (lo+(i:Nat)*1) ((n:Int) - (i:Nat)) 1) where
 mem:=by simp
 obj:=fun i h st b hb=>by
  have e:b=it:=by simpa using hb
  subst e
  exact⟨_,st,fun v z=>by
   have z':Data.fields _=Data.cell v:=z
   cases z'⟩
 keep:=fun i h h' st k=>k it (by simp) _ st
 item:=by
  intro X hP hw hK hc i pins s σ H E I hf st hg
  subst hP hw hK
  obtain⟨f0,f1,f2,f3,f4,f5⟩:=hf it (by simp)
  have W:=Walks.range (prog:=X.prog) (w:=X.w) (I.ok.hd hc) it lo 1 n
  refine W.item i s _ _ hg st fun v h' tk hv st' kk=>?_
  obtain⟨t,rfl⟩:=hv
  have I1:Inv X pins σ H { s with heap:=h',toks:=tk }:=I.turned (fun b o hb e=>kk b o (by simpa using hb) e) f0 f1 f3 f4 f5
  refine⟨_,rfl,go_of (s:={ s with heap:=h',toks:=tk }) (n:="range_iterator") st' rfl rfl (by decide) ⟨.int (lo+i),H,I1,⟨t,?_⟩,⟨rfl,rfl⟩,st',fun b hb=>(hf b hb).1⟩⟩
  rw[Int.mul_one]
 done:=by
  intro X hP hw hK hc i pins s σ H E I hf st hg
  subst hP hw hK
  obtain⟨f0,f1,f2,f3,f4,f5⟩:=hf it (by simp)
  exact wpAny_pyNext_range_end (I.ok.hd hc) st (by have:n≤i:=hg;lia) fun h' eb=>⟨rfl,I.turned (t':=s.toks) (fun b o hb e=>eb b o hb e) f0 f1 f3 f4 f5⟩
 self:=fun _ _ _ _ _ st h=>wpAny_pyIter_rangeiter st h
section
variable {X:Cx}{tg:Expr}
def iList (K:W.Frag) (tl:TE):TI:=fun σ H R=>tl σ H fun x H1=>∃ a,x=.ref a∧(∃ xs,SqL K H1 a xs)∧R (Itl K a) H1
def iTup (K:W.Frag) (tl:TE):TI:=fun σ H R=>tl σ H fun x H1=>∃ a,x=.ref a∧(∃ xs,SqT K H1 a xs)∧R (Itt K a) H1
theorem zba {l:Expr}{tl:TE}(hl:PE X l tl):PI X tg l (iList X.K tl):=by
 intro pins s σ H R I h
 refine thn (hl pins s σ H _ I h) fun v s1 ⟨x,H1,I1,r1,q1⟩=>?_
 obtain⟨a,e,⟨xs,hq⟩,q⟩:=q1
 subst e
 cases r1
 obtain⟨its,rv,p,hz⟩:=I1.list hq
 refine wpAny_pyIter_list p.isList ?_
 refine⟨s1.heap.objs.size,[s1.heap.objs.size],_,_,H1,rfl,I1.kept (t':=s1.toks) fun b o e=>Heap.get?_push_of_some _ e,zic a _,⟨_,Heap.get?_push_size _ rfl,rfl,rfl⟩,fun b hb=>?_,q⟩
 have e:b=s1.heap.objs.size:=by simpa using hb
 subst e
 exact I1.fpOk (Nat.le_refl _) (I1.hok.fresh (Nat.le_refl _))
theorem zkw {l:Expr}{tl:TE}(hl:PE X l tl):PI X tg l (iTup X.K tl):=by
 intro pins s σ H R I h
 refine thn (hl pins s σ H _ I h) fun v s1 ⟨x,H1,I1,r1,q1⟩=>?_
 obtain⟨a,e,⟨xs,hq⟩,q⟩:=q1
 subst e
 cases r1
 obtain⟨its,rv,p,hz⟩:=I1.tuple hq
 refine wpAny_pyIter_tuple (show s1.heap.IsTuple a its.toArray from p) ?_
 refine⟨s1.heap.objs.size,[s1.heap.objs.size],_,_,H1,rfl,I1.kept (t':=s1.toks) fun b o e=>Heap.get?_push_of_some _ e,zhx a _,⟨_,Heap.get?_push_size _ rfl,rfl,rfl⟩,fun b hb=>?_,q⟩
 have e:b=s1.heap.objs.size:=by simpa using hb
 subst e
 exact I1.fpOk (Nat.le_refl _) (I1.hok.fresh (Nat.le_refl _))
theorem zg3 {pins : List (Addr × Obj)}{σ : St}{H : Hp}{s : Shared}{R : It → Hp → Prop}{E : Value → Shared → Prop}{lo hi : Int}{t u v : Tok}{tk : Nat}(I : Inv X pins σ H s) (h1 : -(2 ^ 62) ≤ lo) (h2 : lo < 2 ^ 62) (h3 : -(2 ^ 62) ≤ hi) (h4 : hi < 2 ^ 62)
  (q:R (Itr lo (hi - lo).toNat) H):wpAny (model X.prog X.w) X.A (pyIter (.ref s.heap.objs.size)) (PIE X pins σ tg R) E { s with heap:=s.heap.push { cls:=.type "range",data:=.fields #[.int lo t,.int hi u,.int 1 v] },toks:=tk }:=by
 refine wpAny_pyIter_range (IsRange.new ..) (small_one h1 h2 h3 h4) ?_
 have I1:Inv X pins σ H { s with heap:=s.heap.push { cls:=.type "range",data:=.fields #[.int lo t,.int hi u,.int 1 v] },toks:=tk }:=I.kept fun b o e=>Heap.get?_push_of_some _ e
 refine⟨(s.heap.push { cls:=.type "range",data:=.fields #[.int lo t,.int hi u,.int 1 v] }).objs.size,[(s.heap.push { cls:=.type "range",data:=.fields #[.int lo t,.int hi u,.int 1 v] }).objs.size],_,_,H,rfl,
  I1.kept (t':=tk) fun b o e=>Heap.get?_push_of_some _ e,zep _ lo (hi - lo).toNat,?_,fun b hb=>?_,q⟩
 ·have e1:lo+((0:Nat):Int)*1=lo:=by simp
  have e2:(((hi - lo).toNat:Nat):Int) - ((0:Nat):Int)=Builtin.Range.rangeSize lo hi 1:=by rw[rangeSize_one];split <;> lia
  show IsRangeIter _ _ (lo+((0:Nat):Int)*1) ((((hi - lo).toNat:Nat):Int) - ((0:Nat):Int)) 1
  rw[e1,e2]
  exact Heap.get?_push_size _ rfl
 ·have e:b=(s.heap.push { cls:=.type "range",data:=.fields #[.int lo t,.int hi u,.int 1 v] }).objs.size:=by simpa using hb
  subst e
  exact I1.fpOk (Nat.le_refl _) (I1.hok.fresh (Nat.le_refl _))
def iRng1 (ta:TA):TI:=fun σ H R=>ta σ H fun vs H1=>∃ j:Int,vs=[.int j]∧-(2 ^ 62)≤j∧j<2 ^ 62∧R (Itr 0 j.toNat) H1
def iRng2 (ta:TA):TI:=fun σ H R=>ta σ H fun vs H1=>∃ i j:Int,vs=[.int i,.int j]∧(-(2 ^ 62)≤i∧i<2 ^ 62∧-(2 ^ 62)≤j∧j<2 ^ 62)∧R (Itr i (j - i).toNat) H1
theorem zc3 {a:Expr}{ta:TA}{p pos:Pos}(hg:Gl X "range") (hm:X.mg "range" = none) (ha:PA X [a] ta) (hs:starEach [a] X.env=[(false,eval a X.env)]:=by rfl):PI X tg (.Call (.Name "range" p) [a] [] pos) (iRng1 ta):=by
 intro pins s σ H R I h
 refine Call_ (zcz I hg hm boot_range (PyProof.Rows.callWith_type1 (thn (ha pos pins s σ H _ I h) fun us s1 ⟨vs,H1,I1,r1,q1⟩=>?_) hs rfl))
 obtain⟨j,e,q1,q2,q⟩:=q1
 subst e
 cases r1 with
 | cons r rr =>
  cases rr
  obtain⟨t,rfl⟩:=r
  exact call_range_1 (zg3 I1 (by lia) (by lia) q1 q2 (by simpa using q))
theorem ziF {a b : Expr}{ta : TA}{p pos : Pos}(hg : Gl X "range") (hm : X.mg "range" = none) (ha : PA X [a, b] ta) (hs : starEach [a, b] X.env = [(false, eval a X.env), (false, eval b X.env)] := by rfl) (hs2 : starEach [b] X.env = [(false, eval b X.env)] := by rfl) :
  PI X tg (.Call (.Name "range" p) [a,b] [] pos) (iRng2 ta):=by
 intro pins s σ H R I h
 refine Call_ (zcz I hg hm boot_range (PyProof.Rows.callWith_type1 (thn (ha pos pins s σ H _ I h) fun us s1 ⟨vs,H1,I1,r1,q1⟩=>?_) (by rw[hs,hs2]) (by rw[hs2];rfl)))
 obtain⟨i,j,e,⟨q1,q2,q3,q4⟩,q⟩:=q1
 subst e
 cases r1 with
 | cons r rr =>
  cases rr with
  | cons r' rr =>
   cases rr
   obtain⟨t,rfl⟩:=r
   obtain⟨t',rfl⟩:=r'
   exact call_range_2 (zg3 I1 q1 q2 q3 q4 q)
def tFor (wi:TI) (g:TG) (tb:TS):TS:=fun D σ H=>wi σ H fun J H1=>∃ W:Nat→Nat→St→Hp→Prop,(∃ m,W 0 m σ H1)∧∀ i m σ H,W i m σ H →
 (J.stop i H∧D.nx σ H)∨(J.go i H∧∃ N:St→Hp→Prop,(∀ σ' H',N σ' H'→∃ m',m'<m∧W (i+1) m' σ' H')∧∀ x H',J.yld i H x H'→g x σ H' fun σ2 H2=>tb { D with nx:=N,ct:=N,bk:=D.nx } σ2 H2)
def zdi (fp:List Addr) (h:Heap):List (Addr×Obj):=fp.filterMap fun b=>(h.get? b).map fun o=>(b,o)
theorem za8 {fp:List Addr}{h:Heap}{b:Addr}{o:Obj}(hb:b∈fp) (e:h.get? b=some o):(b,o)∈zdi fp h:=List.mem_filterMap.mpr ⟨b,hb,by rw[e];rfl⟩
theorem ziN {fp:List Addr}{h:Heap}{p:Addr×Obj}(hp:p∈zdi fp h):p.1∈fp∧h.get? p.1=some p.2:=by
 obtain⟨b,hb,e⟩:=List.mem_filterMap.mp hp
 cases q:h.get? b with
 | none=>rw[q] at e;cases e
 | some o =>
  rw[q] at e
  have e':(b,o)=p:=Option.some.inj e
  subst e'
  exact⟨hb,q⟩
theorem Inv.pinned {pins:List (Addr×Obj)}{σ:St}{H:Hp}{s:Shared}{fp:List Addr}(I:Inv X pins σ H s) (hf:∀ b∈fp,FpOk X pins H b) (ho:∀ b∈fp,∃ o,s.heap.get? b=some o∧∀ v,o.data≠.cell v):Inv X (pins++zdi fp s.heap) σ H s :=
 I.pins_of fun p hp=>(List.mem_append.mp hp).elim (fun z=>I.pin p (List.mem_append_right _ z)) fun z=>by
  obtain⟨hb,e⟩:=ziN z
  obtain⟨f0,f1,f2,_⟩:=hf p.1 hb
  obtain⟨o,e',d⟩:=ho p.1 hb
  rw[e] at e';cases e'
  exact⟨e,f0,f1,f2,d⟩
theorem Inv.unpinned {pins pl:List (Addr×Obj)}{σ:St}{H:Hp}{s:Shared}(I:Inv X (pins++pl) σ H s):Inv X pins σ H s:=I.pins_of fun p hp=>I.pin p (List.mem_append_right _ (List.mem_append_left _ hp))
theorem zbX {iter : Expr}{body : List Stmt}{wi : TI}{g : TG}{tb : TS}{pos : Pos}(hp : PassesOwn (model X.prog X.w) X.A X.env X.xe) (hc : X.calm = true) (hi : PI X tg iter wi) (hg : PG X tg g) (hb : PSs X body tb)
  (hs:∀ x,foldedSetIterable iter X.env x=pure x:=by intro _;rfl):PS X (.For tg iter body [] pos) (tFor wi g tb):=by
 intro pins s σ H D I h
 refine wpAny_For (thn (hi pins s σ H _ I h) fun v s1 h1=>thn h1 fun itv s2 h2=>?_) hs
 obtain⟨it,fp,tn,J,H2,e,I2,T,st2,f2,W,⟨m0,w0⟩,turn⟩:=h2
 subst e
 have stat:∀ {H':Hp},(∀ b∈fp,H' b=none)→∀ b∈fp,FpOk X pins H' b:=fun hn b hb=>⟨hn b hb,(f2 b hb).2⟩
 refine codeAny_forLoop_any (fun n s'=>∃ i σ' H',Inv X pins σ' H' s'∧tn i s'.heap∧(∀ b∈fp,H' b=none)∧W i n σ' H') ?_ m0 ⟨0,σ,H2,I2,st2,fun b hb=>(f2 b hb).1,w0⟩
 rintro n s3 ⟨i,σ3,H3,I3,st3,fr3,w3⟩
 rcases turn i n σ3 H3 w3 with⟨stop,qn⟩ | ⟨go,N,hN,step⟩
 ·refine wpAny_passesOwn hp (thn (T.done X rfl rfl rfl hc i pins s3 σ3 H3 X.xe I3 (stat fr3) st3 stop) fun r s4 ⟨hr,I4⟩=>?_)
  subst hr
  exact wpAny_execs_nil ⟨σ3,H3,I4,qn⟩
 ·refine wpAny_passesOwn hp (thn (T.item X rfl rfl rfl hc i pins s3 σ3 H3 X.xe I3 (stat fr3) st3 go) fun r s4 ⟨u,hr,h4⟩=>?_)
  subst hr
  refine wpAny_passesOwn hp (thn h4 fun _ s5 ⟨x,H5,I5,r5,y5,st5,fr5⟩=>?_)
  have I5':=I5.pinned (stat fr5) (T.obj _ _ st5)
  refine wpAny_passesOwn hp (thn (hg _ s5 σ3 H5 x u _ I5' r5 (step x H5 y5)) fun _ s6 ⟨σ6,H6,I6,q6⟩=>?_)
  refine wpAny_passesOwn hp (thn (hb _ s6 σ6 H6 _ I6 q6) fun f s7 q7=>?_)
  have again:∀ {σ7:St} {H7:Hp},Inv X (pins++zdi fp s5.heap) σ7 H7 s7→N σ7 H7→∃ m,m<n∧∃ i σ' H',Inv X pins σ' H' s7∧tn i s7.heap∧(∀ b∈fp,H' b=none)∧W i m σ' H':=fun {σ7 H7} I7 n7=>by
   obtain⟨m',hm,w7⟩:=hN σ7 H7 n7
   refine⟨m',hm,i+1,σ7,H7,I7.unpinned,T.keep _ _ _ st5 fun b hb o e=>(I7.pin (b,o) (List.mem_append_right _ (List.mem_append_right _ (za8 hb e)))).1,fun b hb=>?_,w7⟩
   obtain⟨o,e,d⟩:=T.obj _ _ st5 b hb
   exact (I7.pin (b,o) (List.mem_append_right _ (List.mem_append_right _ (za8 hb e)))).2.1
  cases f with
  | next=>obtain⟨σ7,H7,I7,n7⟩:=q7;exact again I7 n7
  | cont=>obtain⟨σ7,H7,I7,n7⟩:=q7;exact again I7 n7
  | brk=>obtain⟨σ7,H7,I7,q7⟩:=q7;exact⟨σ7,H7,I7.unpinned,q7⟩
  | ret v=>obtain⟨x7,σ7,H7,I7,r7,q7⟩:=q7;exact⟨x7,σ7,H7,I7.unpinned,r7,q7⟩
end
theorem zaD {K : W.Frag}{a : Addr}{xs : List V}{g : TG}{tb : TS}{D : Ends}{σ : St}{H : Hp}(Pv : Nat → St → Hp → Prop) (h0 : Pv 0 σ H) (hl : ∀ i σ H, i ≤ xs.length → Pv i σ H → SqL K H a xs)
  (hs:∀ i x σ H,xs[i]?=some x→Pv i σ H→g x σ H fun σ2 H2=>tb { D with nx:=Pv (i+1),ct:=Pv (i+1),bk:=D.nx } σ2 H2) (hd:∀ σ H,Pv xs.length σ H→D.nx σ H) :
  ∃ W:Nat→Nat→St→Hp→Prop,(∃ m,W 0 m σ H)∧∀ i m σ H,W i m σ H →
   ((Itl K a).stop i H∧D.nx σ H)∨((Itl K a).go i H∧∃ N:St→Hp→Prop,(∀ σ' H',N σ' H'→∃ m',m'<m∧W (i+1) m' σ' H')∧∀ x H',(Itl K a).yld i H x H'→g x σ H' fun σ2 H2=>tb { D with nx:=N,ct:=N,bk:=D.nx } σ2 H2):=by
 refine⟨fun i m σ H=>m=xs.length - i∧i≤xs.length∧Pv i σ H,⟨xs.length,by simp,Nat.zero_le _,h0⟩,?_⟩
 rintro i m σ H ⟨rfl,hi,p⟩
 have q:=hl i σ H hi p
 by_cases hlt:i<xs.length
 ·refine .inr ⟨⟨xs,xs[i],q,by simp[hlt]⟩,Pv (i+1),fun σ' H' p'=>⟨xs.length - (i+1),by lia,rfl,hlt,p'⟩,fun x H' y=>?_⟩
  obtain⟨e,y⟩:=y
  subst e
  exact hs i x σ _ (y xs q) p
 ·have e:i=xs.length:=by lia
  subst e
  exact .inl ⟨⟨xs,q,Nat.le_refl _⟩,hd σ H p⟩
theorem zjb {K : W.Frag}{a : Addr}{xs : List V}{g : TG}{tb : TS}{D : Ends}{σ : St}{H : Hp}(Pv : Nat → St → Hp → Prop) (h0 : Pv 0 σ H) (hl : ∀ i σ H, i ≤ xs.length → Pv i σ H → SqT K H a xs)
  (hs:∀ i x σ H,xs[i]?=some x→Pv i σ H→g x σ H fun σ2 H2=>tb { D with nx:=Pv (i+1),ct:=Pv (i+1),bk:=D.nx } σ2 H2) (hd:∀ σ H,Pv xs.length σ H→D.nx σ H) :
  ∃ W:Nat→Nat→St→Hp→Prop,(∃ m,W 0 m σ H)∧∀ i m σ H,W i m σ H →
   ((Itt K a).stop i H∧D.nx σ H)∨((Itt K a).go i H∧∃ N:St→Hp→Prop,(∀ σ' H',N σ' H'→∃ m',m'<m∧W (i+1) m' σ' H')∧∀ x H',(Itt K a).yld i H x H'→g x σ H' fun σ2 H2=>tb { D with nx:=N,ct:=N,bk:=D.nx } σ2 H2):=by
 refine⟨fun i m σ H=>m=xs.length - i∧i≤xs.length∧Pv i σ H,⟨xs.length,by simp,Nat.zero_le _,h0⟩,?_⟩
 rintro i m σ H ⟨rfl,hi,p⟩
 have q:=hl i σ H hi p
 by_cases hlt:i<xs.length
 ·refine .inr ⟨⟨xs,xs[i],q,by simp[hlt]⟩,Pv (i+1),fun σ' H' p'=>⟨xs.length - (i+1),by lia,rfl,hlt,p'⟩,fun x H' y=>?_⟩
  obtain⟨e,y⟩:=y
  subst e
  exact hs i x σ _ (y xs q) p
 ·have e:i=xs.length:=by lia
  subst e
  exact .inl ⟨⟨xs,q,Nat.le_refl _⟩,hd σ H p⟩
theorem zck {lo : Int}{n : Nat}{g : TG}{tb : TS}{D : Ends}{σ : St}{H : Hp}(Pv : Nat → St → Hp → Prop) (h0 : Pv 0 σ H)
  (hs:∀ i σ H,i<n→Pv i σ H→g (.int (lo+i)) σ H fun σ2 H2=>tb { D with nx:=Pv (i+1),ct:=Pv (i+1),bk:=D.nx } σ2 H2) (hd:∀ σ H,Pv n σ H→D.nx σ H) :
  ∃ W:Nat→Nat→St→Hp→Prop,(∃ m,W 0 m σ H)∧∀ i m σ H,W i m σ H →
   ((Itr lo n).stop i H∧D.nx σ H)∨((Itr lo n).go i H∧∃ N:St→Hp→Prop,(∀ σ' H',N σ' H'→∃ m',m'<m∧W (i+1) m' σ' H')∧∀ x H',(Itr lo n).yld i H x H'→g x σ H' fun σ2 H2=>tb { D with nx:=N,ct:=N,bk:=D.nx } σ2 H2):=by
 refine⟨fun i m σ H=>m=n - i∧i≤n∧Pv i σ H,⟨n,by simp,Nat.zero_le _,h0⟩,?_⟩
 rintro i m σ H ⟨rfl,hi,p⟩
 by_cases hlt:i<n
 ·refine .inr ⟨hlt,Pv (i+1),fun σ' H' p'=>⟨n - (i+1),by lia,rfl,hlt,p'⟩,fun x H' y=>?_⟩
  obtain⟨e,y⟩:=y
  subst e y
  exact hs i σ _ hlt p
 ·have e:i=n:=by lia
  subst e
  exact .inl ⟨Nat.le_refl _,hd σ H p⟩
theorem zjE {c : TT}{tb : TS}{D : Ends}{σ : St}{H : Hp}(Pv : St → Hp → Prop) (μ : St → Hp → Nat) (h0 : Pv σ H)
  (hs:∀ σ H,Pv σ H→c σ H fun b H1=>if b=true then tb { D with nx:=fun σ' H'=>Pv σ' H'∧μ σ' H'<μ σ H,ct:=fun σ' H'=>Pv σ' H'∧μ σ' H'<μ σ H,bk:=D.nx } σ H1 else D.nx σ H1)
  (mono:∀ σ H Q Q',(∀ b H1,Q b H1→Q' b H1)→c σ H Q→c σ H Q'):zki c tb D σ H:=by
 refine⟨fun m σ H=>m=μ σ H∧Pv σ H,⟨_,rfl,h0⟩,?_⟩
 rintro m σ H ⟨rfl,p⟩
 refine mono σ H _ _ (fun b H1 q=>?_) (hs σ H p)
 cases b with
 | true=>exact⟨_,fun σ' H' ⟨p',l⟩=>⟨_,l,rfl,p'⟩,q⟩
 | false=>exact q
abbrev R2:=V→V→Hp→VK→Prop
def OpR (X:Cx) (f:Value→Value→Sem Value) (r:R2):Prop :=
 ∀ (pins:List (Addr×Obj)) (s:Shared) (σ:St) (H:Hp) (x y:V) (v u:Value) (Q:VK),Inv X pins σ H s→RelV x v→RelV y u→r x y H Q →
  wpAny (model X.prog X.w) X.A (f v u) (EP X pins σ Q) X.xe s
def UnR (X:Cx) (f:Value→Sem Value) (r:V→Hp→VK→Prop):Prop :=
 ∀ (pins:List (Addr×Obj)) (s:Shared) (σ:St) (H:Hp) (x:V) (v:Value) (Q:VK),Inv X pins σ H s→RelV x v→r x H Q →
  wpAny (model X.prog X.w) X.A (f v) (EP X pins σ Q) X.xe s
def CallR (X:Cx) (f:Value) (r:List V→Hp→VK→Prop):Prop :=
 ∀ (pins:List (Addr×Obj)) (s:Shared) (σ:St) (H:Hp) (xs:List V) (us:List Value) (Q:VK),Inv X pins σ H s→Vals xs us→r xs H Q →
  wpAny (model X.prog X.w) X.A (call f us) (EP X pins σ Q) X.xe s
def TruR (X:Cx) (r:V→Hp→(Bool→Hp→Prop)→Prop):Prop :=
 ∀ (pins:List (Addr×Obj)) (s:Shared) (σ:St) (H:Hp) (x:V) (v:Value) (Q:Bool→Hp→Prop),Inv X pins σ H s→RelV x v→r x H Q →
  wpAny (model X.prog X.w) X.A (truthy v) (TP X pins σ Q) X.xe s
def tOp (r:R2) (ta tb:TE):TE:=fun σ H Q=>ta σ H fun x H1=>tb σ H1 fun y H2=>r x y H2 Q
def tUn (r:V→Hp→VK→Prop) (ta:TE):TE:=fun σ H Q=>ta σ H fun x H1=>r x H1 Q
def rI (C:Int→Int→Prop) (g:Int→Int→V):R2:=fun x y H Q=>∃ i j,x=.int i∧y=.int j∧C i j∧Q (g i j) H
def rI0 (g:Int→Int→V):R2:=fun x y H Q=>∃ i j,x=.int i∧y=.int j∧Q (g i j) H
def rU (g:Int→V):V→Hp→VK→Prop:=fun x H Q=>∃ i,x=.int i∧Q (g i) H
section
variable {X:Cx}{a b c:Expr}{ta tb tc:TE}{pos:Pos}
theorem binT (ha : PE X a ta) (hb : PE X b tb){pins : List (Addr × Obj)}{s : Shared}{σ : St}{H : Hp}{R : V → V → Hp → Prop}(I : Inv X pins σ H s)
  (h:ta σ H fun x H1=>tb σ H1 fun y H2=>R x y H2) {Q:Value→Shared→Prop} {f:Value→Value→Sem Value}
  (hf:∀ v u s2 x y H2,Inv X pins σ H2 s2→RelV x v→RelV y u→R x y H2→wpAny (model X.prog X.w) X.A (f v u) Q X.xe s2) :
  wpAny (model X.prog X.w) X.A (eval a X.env) (fun v s₁=>wpAny (model X.prog X.w) X.A (eval b X.env) (fun u s₂=>wpAny (model X.prog X.w) X.A (f v u) Q X.xe s₂) X.xe s₁) X.xe s:=by
 refine thn (ha pins s σ H _ I h) fun v s1 ⟨x,H1,I1,r1,q1⟩=>?_
 refine thn (hb pins s1 σ H1 _ I1 q1) fun u s2 ⟨y,H2,I2,r2,q2⟩=>?_
 exact hf v u s2 x y H2 I2 r1 r2 q2
theorem pe_op {op:Operator}{r:R2}(ho:OpR X (binaryOp op) r) (ha:PE X a ta) (hb:PE X b tb):PE X (.BinOp a op b pos) (tOp r ta tb):=by
 intro pins s σ H Q I h
 exact wpAny_BinOp (binT ha hb I h fun v u s2 x y H2 I2 rx ry q=>ho pins s2 σ H2 x y v u Q I2 rx ry q)
theorem pe_un {op:UnaryOp}{r:V→Hp→VK→Prop}(ho:UnR X (unaryOp op) r) (ha:PE X a ta):PE X (.UnaryOp op a pos) (tUn r ta):=by
 intro pins s σ H Q I h
 exact UnaryOp_ (thn (ha pins s σ H _ I h) fun v s1 ⟨x,H1,I1,r1,q1⟩=>ho pins s1 σ H1 x v Q I1 r1 q1)
theorem opI {f : Value → Value → Sem Value}{C : Int → Int → Prop}{g : Int → Int → Int}
  (rule:∀ (i j:Int) (t u:Tok) (s:Shared) (Q:Value→Shared→Prop) (E:Value→Shared→Prop),C i j→Q (.int (g i j) s.toks) { s with toks:=s.toks+1 }→wpAny (model X.prog X.w) X.A (f (.int i t) (.int j u)) Q E s) :
  OpR X f (rI C fun i j=>.int (g i j)):=by
 intro pins s σ H x y v u Q I rx ry h
 obtain⟨i,j,rfl,rfl,hc,q⟩:=h
 obtain⟨t,rfl⟩:=rx
 obtain⟨t',rfl⟩:=ry
 exact rule i j t t' s _ _ hc ⟨.int (g i j),H,I.tok _,⟨_,rfl⟩,q⟩
theorem opI0 {f : Value → Value → Sem Value}{g : Int → Int → Int}
  (rule:∀ (i j:Int) (t u:Tok) (s:Shared) (Q:Value→Shared→Prop) (E:Value→Shared→Prop),Q (.int (g i j) s.toks) { s with toks:=s.toks+1 }→wpAny (model X.prog X.w) X.A (f (.int i t) (.int j u)) Q E s) :
  OpR X f (rI0 fun i j=>.int (g i j)):=by
 intro pins s σ H x y v u Q I rx ry h
 obtain⟨i,j,rfl,rfl,q⟩:=h
 obtain⟨t,rfl⟩:=rx
 obtain⟨t',rfl⟩:=ry
 exact rule i j t t' s _ _ ⟨.int (g i j),H,I.tok _,⟨_,rfl⟩,q⟩
theorem opB0 {f : Value → Value → Sem Value}{g : Int → Int → Bool}
  (rule:∀ (i j:Int) (t u:Tok) (s:Shared) (Q:Value→Shared→Prop) (E:Value→Shared→Prop),Q (.bool (g i j)) s→wpAny (model X.prog X.w) X.A (f (.int i t) (.int j u)) Q E s) :
  OpR X f (rI0 fun i j=>.bl (g i j)):=by
 intro pins s σ H x y v u Q I rx ry h
 obtain⟨i,j,rfl,rfl,q⟩:=h
 obtain⟨t,rfl⟩:=rx
 obtain⟨t',rfl⟩:=ry
 exact rule i j t t' s _ _ ⟨.bl (g i j),H,I,rfl,q⟩
def CDiv (i j:Int):Prop:=0<j∧j<1073741824
def CPow (i j:Int):Prop:=0≤j∧j≤1000000∧i.natAbs<2 ^ 64
def CMul (i j:Int):Prop:=(-(2 ^ 64)<i∧i<2 ^ 64)∨(-(2 ^ 64)<j∧j<2 ^ 64)
theorem CMul.ok {i j:Int}(h:CMul i j):IntMulOk i j:=by
 rcases h with⟨h1,h2⟩ | ⟨h1,h2⟩
 ·exact .of_left (intBits_le_64 h1 h2)
 ·exact .of_right (intBits_le_64 h1 h2)
theorem zbI:OpR X (binaryOp .Add) (rI0 fun i j=>.int (i+j)):=opI0 fun _ _ _ _ _ _ _ q=>add_int q
theorem zdj:OpR X (binaryOp .Sub) (rI0 fun i j=>.int (i - j)):=opI0 fun _ _ _ _ _ _ _ q=>sub_int q
theorem zc4:OpR X (binaryOp .Mult) (rI CMul fun i j=>.int (i*j)):=opI fun _ _ _ _ _ _ _ hc q=>mul_int q hc.ok
theorem zgz:OpR X (binaryOp .FloorDiv) (rI CDiv fun i j=>.int (i / j)):=opI fun i j _ _ _ _ _ hc q=>by
 have h1:(0:Int)<j:=hc.1
 have h2:j<1073741824:=hc.2
 exact floordiv_int (by lia) (by rw[Int.fdiv_eq_ediv_of_nonneg i (by lia)];exact q) (.inl (PyProof.noPylong_small (by lia)))
theorem zbM:OpR X (binaryOp .Mod) (rI (fun _ j=>0<j) fun i j=>.int (i % j)):=opI fun i j _ _ _ _ _ hc q=>by
 have h1:(0:Int)<j:=hc
 exact mod_int' (by lia) (by rw[Int.fmod_eq_emod_of_nonneg i (by lia)];exact q)
theorem ziK:OpR X (binaryOp .Pow) (rI CPow fun i j=>.int (i ^ j.toNat)):=opI fun _ _ _ _ _ _ _ hc q=>pow_int_small hc.1 hc.2.1 hc.2.2 q
theorem unI {f : Value → Sem Value}{g : Int → Int}
  (rule:∀ (i:Int) (t:Tok) (s:Shared) (Q:Value→Shared→Prop) (E:Value→Shared→Prop),Q (.int (g i) s.toks) { s with toks:=s.toks+1 }→wpAny (model X.prog X.w) X.A (f (.int i t)) Q E s) :
  UnR X f (rU fun i=>.int (g i)):=by
 intro pins s σ H x v Q I rx h
 obtain⟨i,rfl,q⟩:=h
 obtain⟨t,rfl⟩:=rx
 exact rule i t s _ _ ⟨.int (g i),H,I.tok _,⟨_,rfl⟩,q⟩
theorem zkg:UnR X (unaryOp .USub) (rU fun i=>.int (-i)):=unI fun _ _ _ _ _ q=>neg_int q
end
def scal:V→V→Bool
 | .non,.non=>true | .non,.int _=>true | .int _,.non=>true | .non,.bl _=>true | .bl _,.non=>true | .non,.str _=>true | .str _,.non=>true
 | .int _,.int _=>true | .bl _,.bl _=>true | .str _,.str _=>true | .byt _,.byt _=>true
 | .int _,.str _=>true | .str _,.int _=>true | .bl _,.str _=>true | .str _,.bl _=>true
 | _,_=>false
def rEq:R2:=fun x y H Q=>scal x y=true∧Q (.bl (decide (x=y))) H
def rNe:R2:=fun x y H Q=>scal x y=true∧Q (.bl (!decide (x=y))) H
theorem zjk {i j:Int}:decide (V.int i=V.int j)=(i == j):=by
 rw[Bool.eq_iff_iff]
 simp
theorem zkE {i j:Bool}:decide (V.bl i=V.bl j)=(i == j):=by
 rw[Bool.eq_iff_iff]
 simp
theorem zjj {i j:Str}:decide (V.str i=V.str j)=(i == j):=by
 rw[Bool.eq_iff_iff]
 simp
theorem zjl {i j:Array UInt8}:decide (V.byt i=V.byt j)=(i.toList == j.toList):=by
 rw[Bool.eq_iff_iff]
 cases i
 cases j
 simp
section
variable {X:Cx}{a b c:Expr}{ta tb tc:TE}{pos:Pos}
theorem zaH {pins:List (Addr×Obj)}{σ:St}{H:Hp}{s:Shared}{Q:VK}{k k':Bool}(I:Inv X pins σ H s) (q:Q (.bl k) H) (e:k=k'):EP X pins σ Q (.bool k') s:=by
 subst e
 exact⟨.bl k,H,I,rfl,q⟩
theorem op_eq:OpR X (compareOp .Eq) rEq:=by
 intro pins s σ H x y v u Q I rx ry h
 obtain⟨hs,q⟩:=h
 cases x with
 | non =>
  cases rx
  cases y with
  | non=>cases ry;exact PySem.EqNone.eq_none_none (zaH I q (by simp))
  | bl j=>cases ry;exact PySem.EqNone.eq_none_bool (zaH I q (by simp))
  | int j=>obtain⟨t',rfl⟩:=ry;exact PySem.EqNone.eq_none_int (zaH I q (by simp))
  | str j=>obtain⟨t',rfl⟩:=ry;exact PySem.EqNone.eq_none_str (zaH I q (by simp))
  | _=>exact absurd (show false=true from hs) Bool.false_ne_true
 | bl i =>
  cases rx
  cases y with
  | non=>cases ry;exact PySem.EqNone.eq_bool_none (zaH I q (by simp))
  | bl j=>cases ry;exact eq_bool (zaH I q zkE)
  | str j=>obtain⟨t',rfl⟩:=ry;exact PySem.EqMixed.eq_bool_str (zaH I q (by simp))
  | _=>exact absurd (show false=true from hs) Bool.false_ne_true
 | int i =>
  obtain⟨t,rfl⟩:=rx
  cases y with
  | non=>cases ry;exact PySem.EqNone.eq_int_none (zaH I q (by simp))
  | int j=>obtain⟨t',rfl⟩:=ry;exact eq_int (zaH I q zjk)
  | str j=>obtain⟨t',rfl⟩:=ry;exact PySem.EqMixed.eq_int_str (zaH I q (by simp))
  | _=>exact absurd (show false=true from hs) Bool.false_ne_true
 | str i =>
  obtain⟨t,rfl⟩:=rx
  cases y with
  | non=>cases ry;exact PySem.EqNone.eq_str_none (zaH I q (by simp))
  | bl j=>cases ry;exact PySem.EqMixed.eq_str_bool (zaH I q (by simp))
  | int j=>obtain⟨t',rfl⟩:=ry;exact PySem.EqMixed.eq_str_int (zaH I q (by simp))
  | str j=>obtain⟨t',rfl⟩:=ry;exact eq_str (zaH I q zjj)
  | _=>exact absurd (show false=true from hs) Bool.false_ne_true
 | byt i =>
  obtain⟨t,rfl⟩:=rx
  cases y with
  | byt j=>obtain⟨t',rfl⟩:=ry;exact W.eq_bytes (zaH I q zjl)
  | _=>exact absurd (show false=true from hs) Bool.false_ne_true
 | _=>cases y <;> exact absurd (show false=true from hs) Bool.false_ne_true
theorem op_ne:OpR X (compareOp .NotEq) rNe:=by
 intro pins s σ H x y v u Q I rx ry h
 obtain⟨hs,q⟩:=h
 cases x with
 | non =>
  cases rx
  cases y with
  | non=>cases ry;exact PySem.EqNone.ne_none_none (zaH I q (by simp))
  | bl j=>cases ry;exact PySem.EqNone.ne_none_bool (zaH I q (by simp))
  | int j=>obtain⟨t',rfl⟩:=ry;exact PySem.EqNone.ne_none_int (zaH I q (by simp))
  | str j=>obtain⟨t',rfl⟩:=ry;exact PySem.EqNone.ne_none_str (zaH I q (by simp))
  | _=>exact absurd (show false=true from hs) Bool.false_ne_true
 | bl i =>
  cases rx
  cases y with
  | non=>cases ry;exact PySem.EqNone.ne_bool_none (zaH I q (by simp))
  | bl j=>cases ry;exact ne_bool (zaH I q (congrArg not zkE))
  | str j=>obtain⟨t',rfl⟩:=ry;exact PySem.EqMixed.ne_bool_str (zaH I q (by simp))
  | _=>exact absurd (show false=true from hs) Bool.false_ne_true
 | int i =>
  obtain⟨t,rfl⟩:=rx
  cases y with
  | non=>cases ry;exact PySem.EqNone.ne_int_none (zaH I q (by simp))
  | int j=>obtain⟨t',rfl⟩:=ry;exact ne_int (zaH I q (congrArg not zjk))
  | str j=>obtain⟨t',rfl⟩:=ry;exact PySem.EqMixed.ne_int_str (zaH I q (by simp))
  | _=>exact absurd (show false=true from hs) Bool.false_ne_true
 | str i =>
  obtain⟨t,rfl⟩:=rx
  cases y with
  | non=>cases ry;exact PySem.EqNone.ne_str_none (zaH I q (by simp))
  | bl j=>cases ry;exact PySem.EqMixed.ne_str_bool (zaH I q (by simp))
  | int j=>obtain⟨t',rfl⟩:=ry;exact PySem.EqMixed.ne_str_int (zaH I q (by simp))
  | str j=>obtain⟨t',rfl⟩:=ry;exact ne_str (zaH I q (congrArg not zjj))
  | _=>exact absurd (show false=true from hs) Bool.false_ne_true
 | byt i =>
  obtain⟨t,rfl⟩:=rx
  cases y with
  | byt j=>obtain⟨t',rfl⟩:=ry;exact W.ne_bytes (zaH I q (congrArg not zjl))
  | _=>exact absurd (show false=true from hs) Bool.false_ne_true
 | _=>cases y <;> exact absurd (show false=true from hs) Bool.false_ne_true
theorem op_lt:OpR X (compareOp .Lt) (rI0 fun i j=>.bl (decide (i<j))):=opB0 fun _ _ _ _ _ _ _ q=>lt_int q
theorem op_le:OpR X (compareOp .LtE) (rI0 fun i j=>.bl (decide (i≤j))):=opB0 fun _ _ _ _ _ _ _ q=>le_int q
theorem op_gt:OpR X (compareOp .Gt) (rI0 fun i j=>.bl (decide (j<i))):=opB0 fun _ _ _ _ _ _ _ q=>gt_int q
theorem op_ge:OpR X (compareOp .GtE) (rI0 fun i j=>.bl (decide (j≤i))):=opB0 fun _ _ _ _ _ _ _ q=>ge_int q
theorem ziL:OpR X (compareOp .Is) (fun x y H Q=>y=.non∧Q (.bl (decide (x=.non))) H):=by
 intro pins s σ H x y v u Q I rx ry h
 obtain⟨rfl,q⟩:=h
 cases ry
 refine is_none_gen (zaH I q ?_)
 cases x <;> first
  | (cases rx;rfl)
  | (obtain⟨t,rfl⟩:=rx;rfl)
theorem zdM:OpR X (compareOp .IsNot) (fun x y H Q=>y=.non∧Q (.bl (!decide (x=.non))) H):=by
 intro pins s σ H x y v u Q I rx ry h
 obtain⟨rfl,q⟩:=h
 cases ry
 refine isnot_none_gen (zaH I q ?_)
 cases x <;> first
  | (cases rx;rfl)
  | (obtain⟨t,rfl⟩:=rx;rfl)
theorem zaz (b:Expr){op:CmpOp}(h:op≠.In:=by decide) (h2:op≠.NotIn:=by decide):behindInMarks op b=false:=by
 have e1:(op == CmpOp.In)=false:=by cases op <;> first | rfl | exact absurd rfl h
 have e2:(op == CmpOp.NotIn)=false:=by cases op <;> first | rfl | exact absurd rfl h2
 cases b <;> simp[behindInMarks,e1,e2]
theorem zco {op:CmpOp}{r:R2}(ho:OpR X (compareOp op) r) (ha:PE X a ta) (hb:PE X b tb) (hm:behindInMarks op b=false):PE X (.Compare a [op] [b] pos) (tOp r ta tb):=by
 intro pins s σ H Q I h
 exact wpAny_Compare1 (binT ha hb I h fun v u s2 x y H2 I2 rx ry q=>ho pins s2 σ H2 x y v u Q I2 rx ry q) hm
def tTest (t:TE):TT:=fun σ H Q=>t σ H fun x H'=>∃ k,x=.bl k∧Q k H'
theorem zaB {op:CmpOp}{r:R2}(ho:OpR X (compareOp op) r) (ha:PE X a ta) (hb:PE X b tb) (hm:behindInMarks op b=false):PT X (.Compare a [op] [b] pos) (tTest (tOp r ta tb)):=by
 intro pins s σ H Q I h
 refine wpAny_isTrue_Compare1 (thn (ha pins s σ H _ I h) fun v s1 ⟨x,H1,I1,r1,q1⟩=>thn (hb pins s1 σ H1 _ I1 q1) fun u s2 ⟨y,H2,I2,r2,q2⟩ =>
  thn (ho pins s2 σ H2 x y v u _ I2 r1 r2 q2) fun c s3 ⟨z,H3,I3,r3,k,e,q3⟩=>?_) hm
 subst e
 cases r3
 exact wpAny_truthy_bool ⟨H3,I3,q3⟩
def TruV (K:W.Frag) (x:V) (H:Hp) (k:Bool):Prop :=
 match x with
 | .non=>k=false
 | .bl b=>k=b
 | .int i=>k=(i != 0)
 | .str y=>y.length≤sizeLine∧k=((y.length:Int) != 0)
 | .byt y=>y.size≤sizeLine∧k=((y.size:Int) != 0)
 | .ref p=>(∃ xs,SqL K H p xs∧k=!xs.isEmpty)∨(∃ xs,SqT K H p xs∧k=!xs.isEmpty)∨∃ kvs,H p=some (.dK kvs)∧k=!kvs.isEmpty
 | _=>False
theorem zhO {κ:Type}{kvs:List (κ×V)}{vs:List (κ×Value)}(r:KV kvs vs):(!vs.isEmpty)=!kvs.isEmpty:=by
 cases r <;> rfl
theorem zez {xs:List V}{its:List Value}(r:Vals xs its):(!its.toArray.isEmpty)=!xs.isEmpty:=by
 cases r <;> simp
theorem zhf:(sizeLine:Nat)<2 ^ 63:=by rw[sizeLine_eq];decide
theorem zlt:TruR X (fun x H Q=>∃ k,TruV X.K x H k∧Q k H):=by
 intro pins s σ H x v Q I rx h
 obtain⟨k,e,q⟩:=h
 have hl:=zhf
 have hs:sizeLine=16777216:=sizeLine_eq
 cases x with
 | non =>
  cases rx
  have e':k=false:=e
  subst e'
  exact truthy_none ⟨H,I,q⟩
 | bl b =>
  cases rx
  have e':k=b:=e
  subst e'
  exact wpAny_truthy_bool ⟨H,I,q⟩
 | int i =>
  obtain⟨t,rfl⟩:=rx
  have e':k=(i != 0):=e
  subst e'
  exact PySem.P.truthy_int ⟨H,I,q⟩
 | str y =>
  obtain⟨t,rfl⟩:=rx
  obtain⟨hy,e'⟩:y.length≤sizeLine∧k=((y.length:Int) != 0):=e
  subst e'
  exact PySem.P.truthy_str (by lia) ⟨H,I.tok _,q⟩
 | byt y =>
  obtain⟨t,rfl⟩:=rx
  obtain⟨hy,e'⟩:y.size≤sizeLine∧k=((y.size:Int) != 0):=e
  subst e'
  exact W.truthy_bytes (by lia) ⟨H,I.tok _,q⟩
 | ref p =>
  cases rx
  have e':(∃ xs,SqL X.K H p xs∧k=!xs.isEmpty)∨(∃ xs,SqT X.K H p xs∧k=!xs.isEmpty)∨∃ kvs,H p=some (.dK kvs)∧k=!kvs.isEmpty:=e
  rcases e' with⟨xs,hx,e'⟩ | ⟨xs,hx,e'⟩ | ⟨kvs,hx,e'⟩
  ·subst e'
   obtain⟨its,r,pl,hz⟩:=I.list hx
   have hlen:=r.length
   exact wpAny_truthy_list pl.isList (by simp only[List.size_toArray];lia) ⟨H,I.tok _,by rw[zez r];exact q⟩
  ·subst e'
   obtain⟨its,r,pl,hz⟩:=I.tuple hx
   have hlen:=r.length
   exact truthy_tuple pl (by simp only[List.size_toArray];lia) ⟨H,I.tok _,by rw[zez r];exact q⟩
  ·subst e'
   obtain⟨hz,hS,vs,r,m⟩:kvs.length≤sizeLine∧(p == sysModules)=false∧∃ vs,KV kvs vs∧s.heap.DictOf (zaC X.prog X.w) p vs:=I.hok p _ hx
   have hlen:kvs.length=vs.length:=Paired.length r
   exact wpAny_truthy_dict hS m (by lia) ⟨H,I.tok _,by rw[zhO r];exact q⟩
 | _=>exact (show False from e).elim
theorem zjO (ha : PE X a ta) (he : ∀ whole, isTrue a X.env whole = (do let v ← whole; standAt a.pos; holding [v] (truthy v))) :
  PT X a (fun σ H Q=>ta σ H fun x H'=>∃ k,TruV X.K x H' k∧Q k H'):=by
 intro pins s σ H Q I h
 exact isTrue_plain (thn (ha pins s σ H _ I h) fun v s1 ⟨x,H1,I1,r1,q1⟩=>zlt pins s1 σ H1 x v Q I1 r1 q1) (he _)
theorem vals1 {x:V}{us:List Value}(r:Vals [x] us):∃ u,us=[u]∧RelV x u:=by
 cases r with
 | cons r1 r2=>cases r2;exact⟨_,rfl,r1⟩
theorem vals2 {x y:V}{us:List Value}(r:Vals [x,y] us):∃ u w',us=[u,w']∧RelV x u∧RelV y w':=by
 cases r with
 | cons r1 r2 =>
  cases r2 with
  | cons r3 r4=>cases r4;exact⟨_,_,rfl,r1,r3⟩
theorem zjt (hc:X.calm=true):CallR X (.builtin "min") (fun xs H Q=>∃ i j,xs=[.int i,.int j]∧Q (.int (if j<i then j else i)) H):=by
 intro pins s σ H xs us Q I r h
 obtain⟨i,j,rfl,q⟩:=h
 obtain⟨u,w',rfl,⟨t,rfl⟩,⟨t',rfl⟩⟩:=vals2 r
 refine min_two_ints (I.ok.hd hc) fun h' tk k=>⟨_,H,I.kept k,?_,q⟩
 by_cases hj:j<i
 ·rw[if_pos hj,if_pos hj];exact⟨_,rfl⟩
 ·rw[if_neg hj,if_neg hj];exact⟨_,rfl⟩
end
structure ObjM (h:Heap) (x dx C:Addr) (mA:Str→Option Value):Prop where
 obj:h.get? x=some (W.instObj C dx)
 ns:h.Ns1 dx mA
 ne:dx≠x
theorem ziW {h:Heap}{dx:Addr}{mA:Str→Option Value}(n:h.Ns1 dx mA):∃ od,h.get? dx=some od∧∀ name,W.lookIn name od=some (mA name):=by
 obtain⟨o,es,ep,ho,hd,hk,_,hm⟩:=n
 refine⟨o,ho,fun name=>?_⟩
 have e:=hm name
 unfold nsFind findBy at e
 rw[← Array.find?_toList] at e
 unfold W.lookIn
 rw[hd]
 dsimp only
 split
 ·rename_i y q
  rw[q] at e
  exact congrArg some e
 ·rename_i q
  rw[q] at e
  have a:es.toList.any (·.refKey)=false:=by
   rw[List.any_eq_false]
   intro y hy
   obtain⟨z,t,hkey⟩:=hk y (Array.mem_toList_iff.mp hy)
   simp[DictEntry.refKey,hkey]
  have a':¬ es.toList.any (·.refKey)=true:=by rw[a];exact Bool.false_ne_true
  rw[if_neg a']
  exact congrArg some e
theorem ObjM.look {h:Heap}{x dx C:Addr}{mA:Str→Option Value}(I:ObjM h x dx C mA):∃ od,W.InstAt h x (W.instObj C dx) C (some od)∧∀ name,W.lookIn name od=some (mA name) :=
 let ⟨od,ho,hl⟩:=ziW I.ns
 ⟨od,⟨I.obj,rfl,rfl,ho⟩,hl⟩
section
variable {prog:Program}{w:World}{A:Around}{E:Value→Shared→Prop}{s:Shared}{K:W.Frag}{x dx C f:Addr}{mA:Str→Option Value}{name:Str}{v:Value}
end
theorem RelO.some_of {v:V}{o:Option Value}(r:RelO (some v) o):∃ u,o=some u∧RelV v u:=by
 cases o with
 | none=>exact (show False from r).elim
 | some u=>exact⟨u,rfl,r⟩
section
variable {P:Program}{w:World}{H H':Hp}{h h':Heap}{a C dx:Addr}{fs fs':List (Str×V)}
theorem zli (hok:HOk P w H h) (e:H a=some (.ins C dx fs)):∃ mA,ObjM h a dx C mA∧(∀ f,RelO (fs.lookup f) (mA f))∧PySem.Within mA (fs.map (·.1))∧fs.length≤1000∧H dx=some (.own a):=by
 obtain⟨d,z,ne,ob,mA,n,r,q⟩:=(show ObjOk P w H h a (.ins C dx fs) from hok a _ e)
 exact⟨mA,⟨ob,n,ne⟩,r,q,z,d⟩
end
structure Cls (K:W.Frag) (C:Addr):Prop where
 pg:W.plainGet K C Str.empty=true
 hd:W.hasDictIn K C=true
 po:W.plainOver K C=true
 sa:W.findIn K (.ref C) "__setattr__" = some (some (.builtin "object.__setattr__"))
theorem Cls.get {K:W.Frag}{C:Addr}(c:Cls K C) (f:Str):W.plainGet K C f=true:=c.pg
structure Con (K:W.Frag) (C:Addr) (f:Str) (v:V) (u:Value):Prop where
 at_:W.findIn K (.ref C) f=some (some u)
 rel:RelV v u
 get:W.specialIn K u "__get__" = some none
 cp:W.copiedNames.contains f=false
structure Meth (K:W.Frag) (C:Addr) (m:Str) (f:Addr):Prop where
 at_:W.findIn K (.ref C) m=some (some (.ref f))
 fn:W.isFn K (.ref f)=true
 kp:W.keepIn K (.ref f)=true
section
variable {X:Cx}{pins:List (Addr×Obj)}{σ:St}{H:Hp}{s:Shared}{a C dx:Addr}{fs:List (Str×V)}{f:Str}{v:V}{A:Around}{E:Value→Shared→Prop}
end
section
variable {X:Cx}{o e value:Expr}{f:Str}{pos pos' tpos:Pos}{ta tv:TE}
end
section
variable {X:Cx}{pins:List (Addr×Obj)}{σ:St}{H:Hp}{s:Shared}{A:Around}{E:Value→Shared→Prop}{Q:Value→Shared→Prop}{c:Value}{b:Bool}
inductive TyOf (K:W.Frag) (H:Hp):V→Value→Prop where
  | non:TyOf K H .non (.type "NoneType")
  | bl (x:Bool):TyOf K H (.bl x) (.type "bool")
  | int (i:Int):TyOf K H (.int i) (.type "int")
  | str (x:Str):TyOf K H (.str x) (.type "str")
  | flt (x:UInt64):TyOf K H (.flt x) (.type "float")
  | lst {a:Addr} {xs:List V} (e:H a=some (.lst xs)):TyOf K H (.ref a) (.type "list")
  | frz {a:Addr} {o:Obj} {xs:List V} (e:H a=some (.frz o (.lst xs))):TyOf K H (.ref a) (.type "list")
  | tup {a:Addr} {xs:List V} (e:H a=some (.tup xs)):TyOf K H (.ref a) (.type "tuple")
  | dK {a:Addr} {kvs:List (Key×V)} (e:H a=some (.dK kvs)):TyOf K H (.ref a) (.type "dict")
  | dT {a:Addr} {kvs:List (List Key×V)} (e:H a=some (.dT kvs)):TyOf K H (.ref a) (.type "dict")
  | ins {a C dx : Addr} {fs : List (Str × V)} (e : H a = some (.ins C dx fs)) (cl : Cls K C) (ha : W.findIn K (.ref C) "__class__" = some (some (.builtin "object.__class__")))
      (hn:W.specialIn K (.builtin "object.__class__") "__get__" = some (some (.builtin "getset_descriptor.__get__"))) (htk:W.takesIn K (.builtin "object.__class__")=some true)
      (hm:W.mroIn K C (.type "object")=some true):TyOf K H (.ref a) (.ref C)
theorem zi4 {x : V}{u t : Value}(I : Inv X pins σ H s) (rx : RelV x u) (ty : TyOf X.K H x t) (e : W.kitOne X.K t c = some b) (h : ∀ tk, Q (.bool b) { s with toks := tk }) :
  wpAny (model X.prog X.w) A (call (.builtin "isinstance") [u,c]) Q E s:=by
 cases ty with
 | non=>cases (show u=Value.none from rx);exact W.kia_one W.kitx_none I.kIn True.intro e (fun z=>nomatch z) h
 | bl y=>cases (show u=Value.bool y from rx);exact W.kia_one W.kitx_bool I.kIn True.intro e (fun z=>nomatch z) h
 | int i=>obtain⟨t,q⟩:=(show ∃ t,u=Value.int i t from rx);cases q;exact W.kia_one W.kitx_int I.kIn True.intro e (fun z=>nomatch z) h
 | str y=>obtain⟨t,q⟩:=(show ∃ t,u=Value.str y t from rx);cases q;exact W.kia_one W.kitx_str I.kIn True.intro e (fun z=>nomatch z) h
 | flt y=>obtain⟨t,q⟩:=(show ∃ t,u=Value.float y t from rx);cases q;exact W.kia_one W.kitx_float I.kIn True.intro e (fun z=>nomatch z) h
 | @lst a xs ea =>
  cases (show u=Value.ref a from rx)
  obtain⟨_,_,n,_,h1⟩:=(show ObjOk X.prog X.w H s.heap a (.lst xs) from I.hok a _ ea)
  exact W.kia_one W.kitx_list I.kIn ⟨_,h1,rfl⟩ e (fun z=>nomatch z) h
 | @frz a ob xs ea =>
  cases (show u=Value.ref a from rx)
  obtain⟨_,_,_,n,_,h1⟩:=(show ObjOk X.prog X.w H s.heap a (.frz ob (.lst xs)) from I.hok a _ ea)
  exact W.kia_one W.kitx_list I.kIn ⟨_,h1,rfl⟩ e (fun z=>nomatch z) h
 | @tup a xs ea =>
  cases (show u=Value.ref a from rx)
  obtain⟨_,_,_,p⟩:=(show ObjOk X.prog X.w H s.heap a (.tup xs) from I.hok a _ ea)
  obtain⟨o,h1,h2,_⟩:=p
  exact W.kia_one W.kitx_tuple I.kIn ⟨o,h1,h2⟩ e (fun z=>nomatch z) h
 | @dK a kvs ea =>
  cases (show u=Value.ref a from rx)
  obtain⟨_,_,vs,_,p⟩:=(show ObjOk X.prog X.w H s.heap a (.dK kvs) from I.hok a _ ea)
  obtain⟨o,es,ep,h1,h2,_⟩:=p
  exact W.kia_one W.kitx_dict I.kIn ⟨o,h1,h2.1⟩ e (fun z=>nomatch z) h
 | @dT a kvs ea =>
  cases (show u=Value.ref a from rx)
  obtain⟨_,_,xs,_,o,es,ep,h1,h2,_⟩:=(show ObjOk X.prog X.w H s.heap a (.dT kvs) from I.hok a _ ea)
  exact W.kia_one W.kitx_dict I.kIn ⟨o,h1,h2.1⟩ e (fun z=>nomatch z) h
 | @ins a C dx fs ea cl ha hn htk hm =>
  cases (show u=Value.ref a from rx)
  obtain⟨mA,O,_⟩:=zli I.hok ea
  obtain⟨od,J,_⟩:=O.look
  exact W.kia_one (W.kitx_own (cl.get _) cl.hd ha hn htk hm) I.kIn J e (fun z=>nomatch z) h
end
structure Room (k:Nat) (A:Around):Prop where
 hd:A.handled=none
 dp:A.depth+3*k+5<recursionLimit
 un:A.units+16*k+200<cLine
theorem Room.mono {j k:Nat}{A:Around}(r:Room k A) (h:j≤k):Room j A:=⟨r.hd,by have:=r.dp;lia,by have:=r.un;lia⟩
theorem Room.deeper {k:Nat}{A:Around}(r:Room (k+1) A) (env:Env):Room k (A.deeper env) :=
 ⟨r.hd,by have:=r.dp;show A.depth+1+3*k+5<_;lia,by have:=r.un;show A.units+3+16*k+200<_;lia⟩
theorem Room.in1 {k:Nat}{A:Around}(r:Room (k+1) A):Room k A.in1 :=
 ⟨r.hd,by have:=r.dp;show A.depth+3*k+5<_;lia,by have:=r.un;show A.units+1+16*k+200<_;lia⟩
theorem Room.depth {k:Nat}{A:Around}(r:Room k A):A.depth<recursionLimit:=by have:=r.dp;lia
theorem Room.units {k:Nat}{A:Around}(r:Room k A):A.units+64<cLine:=by have:=r.un;lia
theorem Room.units0 {k:Nat}{A:Around}(r:Room k A):A.units<cLine:=by have:=r.un;lia
def tNil:TA:=fun _ H Q=>Q [] H
def tCons (ta:TE) (tr:TA):TA:=fun σ H Q=>ta σ H fun x H1=>tr σ H1 fun xs H2=>Q (x::xs) H2
section
variable {X:Cx}{e:Expr}{es:List Expr}{te:TE}{t:TA}{pos:Pos}
theorem zad:PA X [] tNil:=fun _ _ _ _ H Q I h=>Calls.spliced_nil ⟨[],H,I,.nil,h⟩
theorem zam (ha:PE X e te) (hr:PA X es t) (hs:starEach (e::es) X.env=(false,eval e X.env)::starEach es X.env:=by rfl):PA X (e::es) (tCons te t):=by
 intro pos pins s σ H Q I h
 rw[hs]
 show wpAny _ _ (spliced ((false,eval e X.env)::backTo pos (starEach es X.env))) _ _ s
 refine Calls.spliced_cons (thn (ha pins s σ H _ I h) fun u s1 ⟨x,H1,I1,r1,q1⟩=>?_)
 exact thn (hr pos pins s1 σ H1 _ I1 q1) fun us s2 ⟨xs,H2,I2,r2,q2⟩=>⟨x::xs,H2,I2,.cons r1 r2,q2⟩
def tTup (t:TA):TE:=fun σ H Q=>t σ H fun xs H1=>xs.length≤sizeLine∧∀ p,H1 p=none→Q (.ref p) (upd H1 p (.tup xs))
def tLst (t:TA):TE:=fun σ H Q=>t σ H fun xs H1=>xs.length≤sizeLine∧∀ p,H1 p=none→Q (.ref p) (upd H1 p (.lst xs))
theorem zbj {x1}(h:PA X es t):PE X (.Tuple es x1 pos) (tTup t):=by
 intro pins s σ H Q I hq
 refine wpAny_Tuple_spliced (thn (h pos pins s σ H _ I hq) fun us s1 ⟨xs,H1,I1,r,z,q⟩=>⟨by rw[← r.length];exact z,?_⟩)
 have hf:H1 s1.heap.objs.size=none:=I1.hok.fresh (Nat.le_refl _)
 refine⟨.ref s1.heap.objs.size,upd H1 s1.heap.objs.size (.tup xs),I1.laid (t':=s1.toks) (fun b u e=>Heap.get?_push_of_some _ e) (Nat.le_refl _) ?_,rfl,q _ hf⟩
 exact⟨z,us,r,⟨_,Heap.get?_push_size _ rfl,rfl,_,rfl⟩⟩
theorem zcj (h:PA X es t):PE X (.List es pos) (tLst t):=by
 intro pins s σ H Q I hq
 refine wpAny_List_spliced (thn (h pos pins s σ H _ I hq) fun us s1 ⟨xs,H1,I1,r,z,q⟩=>⟨by rw[← r.length];exact z,?_⟩)
 have hf:H1 s1.heap.objs.size=none:=I1.hok.fresh (Nat.le_refl _)
 refine⟨.ref s1.heap.objs.size,upd H1 s1.heap.objs.size (.lst xs),I1.laid (t':=s1.toks) (fun b u e=>Heap.get?_push_of_some _ e) (Nat.le_refl _) ?_,rfl,q _ hf⟩
 exact⟨z,us,0,r,Heap.get?_push_size _ rfl⟩
end
abbrev Sp:=List V→Hp→VK→XK→Prop
abbrev CXT:=List Env→Hp→Shared→XK→Value→Shared→Prop
structure Env0 (P:Program) (w:World) (K:W.Frag) (mg:Str→Option Value) (base:Heap) (A:Around) (outer:List Env) (s:Shared) (H:Hp):Prop where
 frames:A.frames=some outer
 mod:Mod K mg base
 bs:∀ b o,base.get? b=some o→s.heap.get? b=some o∧H b=none
 bsz:base.objs.size≤s.heap.objs.size
 funs:s.heap.FunFrames base outer
 frf:∀ b∈frs outer,H b=none
 hok:HOk P w H s.heap
 bare:AllBare s.gens
def CE (outer:List Env) (P:Program) (w:World) (H:Hp) (s:Shared) (Q:VK) (u:Value) (s':Shared):Prop :=
 ∃ v H',s'.os=s.os∧AllBare s'.gens∧Un (frs outer) [] H H' s.heap s'.heap∧HOk P w H' s'.heap∧RelV v u∧Q v H'
def CR (CX:CXT) (outer:List Env) (P:Program) (w:World) (H:Hp) (s:Shared) (Q:VK) (E:XK) (r:Result) (s':Shared):Prop :=
 match r with
 | .ok (.ret u)=>CE outer P w H s Q u s'
 | .ok _=>False
 | .error e=>CX outer H s E e s'
structure FnOk (P:Program) (w:World) (K:W.Frag) (mg:Str→Option Value) (base:Heap) (CX:CXT) (k:Nat) (f:Addr) (fd:FuncData) (ps:List Str) (sp:Sp):Prop where
 len:∀ vs H Q E,sp vs H Q E→vs.length=ps.length
 run:∀ (A:Around) (outer:List Env) (s:Shared) (H:Hp) (args:Args) (us:List Value) (vs:List V) (Q:VK) (E:XK),Room k A→Env0 P w K mg base A outer s H→BindsTo s fd args (ps.zip us)→Vals vs us→sp vs H Q E →
  codeAny (model P w) A (.call (.ref f) args) (CR CX outer P w H s Q E) s
theorem Env0.in1 {P : Program}{w : World}{K : W.Frag}{mg : Str → Option Value}{base : Heap}{A : Around}{outer : List Env}{s : Shared}{H : Hp}(e : Env0 P w K mg base A outer s H) :
  Env0 P w K mg base A.in1 outer s H:=⟨e.frames,e.mod,e.bs,e.bsz,e.funs,e.frf,e.hok,e.bare⟩
section
variable {X:Cx}{pins:List (Addr×Obj)}{σ:St}{H:Hp}{s s':Shared}
theorem Inv.env0 (I:Inv X pins σ H s):Env0 X.prog X.w X.K X.mg X.base X.A X.stack s H :=
 ⟨I.ok.frames,I.ok.mod,I.bs,Nat.le_trans I.ok.bsz I.sz,I.stack,I.stkFree,I.hok,I.bare⟩
theorem Inv.after {Q:VK}{u:Value}(I:Inv X pins σ H s) (h:CE X.stack X.prog X.w H s Q u s'):EP X pins σ Q u s':=by
 obtain⟨v,H',os,bare,un,hok,r,q⟩:=h
 obtain⟨hh,g,d,t,os'⟩:=s'
 obtain rfl:os'=s.os:=os
 exact⟨v,H',I.call (h':=hh) (g':=g) (d':=d) (t':=t) (ch:=[]) un hok bare (fun b z=>absurd z (by simp)),r,q⟩
end
def tCall (sp:Sp) (dvs:List V) (E:XK) (t:TA):TE:=fun σ H Q=>t σ H fun vs H1=>sp (vs++dvs) H1 Q E
def Binds (K:W.Frag) (fd:FuncData) (ps:List Str) (ds:List Value):Prop :=
 ∀ (s:Shared) (us:List Value),K.In s.heap→(us++ds).length=ps.length→BindsTo s fd ⟨us,[]⟩ (ps.zip (us++ds))
theorem Binds.all {K:W.Frag}{fd:FuncData}{ps:List Str}(h:∀ us:List Value,us.length=ps.length→bindArgs fd ⟨us,[]⟩=pure (ps.zip us)):Binds K fd ps []:=fun s us _ hl=>by
 rw[List.append_nil] at hl ⊢
 exact .of_eq (h us hl)
def zjw (CX:CXT) (X:Cx) (E:XK):Prop:=∀ (pins:List (Addr×Obj)) (σ:St) (H:Hp) (s:Shared) (e:Value) (s':Shared),Inv X pins σ H s→CX X.stack H s E e s'→X.xe e s'
section
variable {X:Cx}{CX:CXT}{k:Nat}{f C:Addr}{fd:FuncData}{ps:List Str}{sp:Sp}{dvs:List V}{ds:List Value}{E:XK}{x m:Str}{p pos apos:Pos}{e o:Expr}{es:List Expr}{ta:TE}{t:TA}
theorem zlG {pins : List (Addr × Obj)}{σ : St}{H : Hp}{s : Shared}{Q : VK}{us : List Value}{vs : List V}(F : FnOk X.prog X.w X.K X.mg X.base CX k f fd ps sp) (hr : Room k X.A) (hb : Binds X.K fd ps ds) (hd : Vals dvs ds) (hx : zjw CX X E)
  (I:Inv X pins σ H s) (r:Vals vs us) (h:sp (vs++dvs) H Q E):wpAny (model X.prog X.w) X.A (call (.ref f) us) (EP X pins σ Q) X.xe s:=by
 have r2:Vals (vs++dvs) (us++ds):=r.append hd
 have hl:(us++ds).length=ps.length:=by rw[← r2.length];exact F.len _ _ _ _ h
 refine wpAny_call (codeAny_mono (F.run X.A X.stack s H ⟨us,[]⟩ (us++ds) (vs++dvs) Q E hr I.env0 (hb s us I.kIn hl) r2 h) fun r s' hq=>?_)
 cases r with
 | error e=>exact hx pins σ H s e s' I hq
 | ok fl =>
  cases fl with
  | ret u=>exact I.after hq
  | next=>exact False.elim hq
  | brk=>exact False.elim hq
  | cont=>exact False.elim hq
theorem zah (F : FnOk X.prog X.w X.K X.mg X.base CX k f fd ps sp) (hr : Room k X.A) (hg : Gl X x) (hm : X.mg x = some (.ref f)) (hk : W.keepIn X.K (.ref f) = true) (hb : Binds X.K fd ps ds) (hd : Vals dvs ds) (hx : zjw CX X E)
  (ha:PA X (e::es) t) (hdb:(x == ("__debug__" : Str))=false:=by decide) (he:starEach (e::es) X.env=(false,eval e X.env)::starEach es X.env:=by rfl) (hpl:(backTo pos (starEach es X.env)).any (·.1)=false:=by rfl) :
  PE X (.Call (.Name x p) (e::es) [] pos) (tCall sp dvs E t):=by
 intro pins s σ H Q I h
 refine wpAny_Call_Name_kw (ziY I hg hm ?_ hdb)
 refine W.callWith_K (h₀:=X.base) I.ok.mod.kin hk (thn (ha pos pins s σ H _ I h) fun us s1 ⟨vs,H1,I1,r,q⟩=>⟨I1.kIn,?_⟩) he hpl
 exact zlG F hr hb hd hx I1 r q
structure Mk (K:W.Frag) (C f:Addr):Prop where
 makes:W.makesIn K C=true
 init:W.findIn K (.ref C) "__init__" = some (some (.ref f))
 fn:W.isFn K (.ref f)=true
 kp:W.keepIn K (.ref C)=true
end
def PK (X:Cx) (kws:List Keyword) (t:TA):Prop :=
 ∀ (pos:Pos) (pins:List (Addr×Obj)) (s:Shared) (σ:St) (H:Hp) (Q:List V→Hp→Prop),Inv X pins σ H s→t σ H Q→wpAny (model X.prog X.w) X.A (evalAll ((backToKw pos (keywordEach kws X.env)).map (·.2))) (AP X pins σ Q) X.xe s
section
variable {X:Cx}{CX:CXT}{k:Nat}{f C:Addr}{fd:FuncData}{ps ks:List Str}{sp:Sp}{E:XK}{x m:Str}{p pos apos kpos:Pos}{e o:Expr}{es:List Expr}{kws:List Keyword}{te ta:TE}{t tk:TA}{nm:Option Str}
theorem zkv:PK X [] tNil:=fun _ _ _ _ H Q I h=>wpAny_evalAll_nil ⟨[],H,I,.nil,h⟩
theorem ziC (ha:PE X e te) (hr:PK X kws t):PK X (⟨nm,e,kpos⟩::kws) (tCons te t):=by
 intro pos pins s σ H Q I h
 show wpAny _ _ (evalAll ((do let v ← eval e X.env;standAt pos;pure v)::(backToKw pos (keywordEach kws X.env)).map (·.2))) _ _ s
 refine wpAny_evalAll_cons (wpAny_bind (thn (ha pins s σ H _ I h) fun u s1 ⟨x,H1,I1,r1,q1⟩=>wpAny_bind (wpAny_standAt (wpAny_pure ?_))))
 exact thn (hr pos pins s1 σ H1 _ I1 q1) fun us s2 ⟨xs,H2,I2,r2,q2⟩=>⟨x::xs,H2,I2,.cons r1 r2,q2⟩
structure KBinds (K:W.Frag) (fd:FuncData) (ps ks:List Str) (g:List Value→List Value→List Value) (gV:List V→List V→List V):Prop where
 to:∀ (s:Shared) (us ws:List Value),K.In s.heap→(g us ws).length=ps.length→BindsTo s fd ⟨us,ks.zip ws⟩ (ps.zip (g us ws))
 rel:∀ {vs:List V} {us:List Value} {zs:List V} {ws:List Value},Vals vs us→Vals zs ws→Vals (gV vs zs) (g us ws)
variable {g:List Value→List Value→List Value}{gV:List V→List V→List V}
end
structure FnScope (N P:List Str) (sc:Scope):Prop where
 kind:sc.kind=.function
 co:sc.isCoroutine=false
 gen:sc.isGenerator=false
 nd:N.Nodup
 pre:N.take P.length=P
 par:∀ x∈P,sc.names.lookup x=some .local∨sc.names.lookup x=some .cell
 nofree:∀ y∈sc.names,y.2≠.free
theorem zf7 {kindOf:Str→Option NameKind}{x:Str}:∀ {binds:List (Str×Value)}{m:Str→Option Value},(∀ v,(x,v) ∉ binds)→bindL kindOf binds m x=m x
 | [],_,_=>rfl
 | (n,v)::r,m,h=>by
  unfold bindL
  rw[zf7 fun w hw=>h w (List.mem_cons_of_mem _ hw)]
  split
  ·have:x≠n:=by rintro rfl;exact h v List.mem_cons_self
   simp[this]
  ·rfl
theorem zf9 {kindOf:Str→Option NameKind}{x:Str}:∀ {binds:List (Str×Value)}{m:Str→Option Value},(∀ v,(x,v) ∉ binds)→bindC kindOf binds m x=m x
 | [],_,_=>rfl
 | (n,v)::r,m,h=>by
  unfold bindC
  rw[zf9 fun w hw=>h w (List.mem_cons_of_mem _ hw)]
  split
  ·rfl
  ·have:x≠n:=by rintro rfl;exact h v List.mem_cons_self
   simp[this]
theorem zf8 {kindOf : Str → Option NameKind}{x : Str}{v : Value} : ∀ {P : List Str}{vs : List Value}{i : Nat}{m : Str → Option Value}, P.Nodup → P[i]? = some x → vs[i]? = some v → kindOf x = some .local →
  bindL kindOf (P.zip vs) m x=some v
 | [],_,_,_,_,h,_,_=>by simp at h
 | _::_,[],_,_,_,_,h,_=>by simp at h
 | p::P,w::vs,0,m,nd,h1,h2,hk=>by
  simp at h1 h2;subst h1;subst h2
  show bindL kindOf ((p,w)::P.zip vs) m p=_
  unfold bindL
  rw[zf7 fun v hv=>(List.nodup_cons.mp nd).1 (List.of_mem_zip hv).1,if_pos hk]
  simp
 | p::P,w::vs,i+1,m,nd,h1,h2,hk=>by
  show bindL kindOf ((p,w)::P.zip vs) m x=_
  unfold bindL
  exact zf8 (i:=i) (List.nodup_cons.mp nd).2 (by simpa using h1) (by simpa using h2) hk
theorem zga {kindOf : Str → Option NameKind}{x : Str}{v : Value} : ∀ {P : List Str}{vs : List Value}{i : Nat}{m : Str → Option Value}, P.Nodup → P[i]? = some x → vs[i]? = some v → kindOf x ≠ some .local →
  bindC kindOf (P.zip vs) m x=some v
 | [],_,_,_,_,h,_,_=>by simp at h
 | _::_,[],_,_,_,_,h,_=>by simp at h
 | p::P,w::vs,0,m,nd,h1,h2,hk=>by
  simp at h1 h2;subst h1;subst h2
  show bindC kindOf ((p,w)::P.zip vs) m p=_
  unfold bindC
  rw[zf9 fun v hv=>(List.nodup_cons.mp nd).1 (List.of_mem_zip hv).1,if_neg hk]
  simp
 | p::P,w::vs,i+1,m,nd,h1,h2,hk=>by
  show bindC kindOf ((p,w)::P.zip vs) m x=_
  unfold bindC
  exact zga (i:=i) (List.nodup_cons.mp nd).2 (by simpa using h1) (by simpa using h2) hk
def start (N:List Str) (vs:List V):St:=vs.map some++List.replicate (N.length - vs.length) none
def cxOf (CX:CXT) (P:Program) (w:World) (K:W.Frag) (mg:Str→Option Value) (base:Heap) (N:List Str) (qual:Str) (scope:Scope) (f:Addr) (cd:Value) (A:Around) (outer:List Env) (s:Shared) (H:Hp) (E:XK):Cx where
 prog:=P
 w:=w
 K:=K
 mg:=mg
 base:=base
 A:=A.deeper (envOfC qual scope s.heap.objs.size f cd)
 N:=N
 s₀:=s
 H₀:=H
 env:=envOfC qual scope s.heap.objs.size f cd
 outer:=outer
 stack:=envOfC qual scope s.heap.objs.size f cd::outer
 ex:=[]
 calm:=true
 fn:=fun _=>true
 pn:=[]
 xe:=fun e s'=>wpAny (model P w) (A.deeper (envOfC qual scope s.heap.objs.size f cd)) (leaving (envOfC qual scope s.heap.objs.size f cd) e) (fun _ s''=>CX outer H s E e s'') (fun e' s''=>CX outer H s E e' s'') s'
theorem zhv {sc:Scope}{n:Nat}{x:Str}(h:sc.names.lookup x=some .cell):∃ c,(cellsFrom n sc.names []).lookup x=some c:=by
 have q:=W.cellsFrom_some sc.names n [] (.inl h)
 exact Option.isSome_iff_exists.mp q
theorem zi6 {CX : CXT}{P : Program}{w : World}{K : W.Frag}{mg : Str → Option Value}{base : Heap}{N ps : List Str}{qual : Str}{scope : Scope}{f : Addr}{cd : Value}{A : Around}{outer : List Env}{s s1 : Shared}{H : Hp}{E : XK}{us : List Value}{vs : List V}
  (S:FnScope N ps scope) (hd:A.handled=none) (e0:Env0 P w K mg base A outer s H) (hl:vs.length=ps.length) (r:Vals vs us)
  (x:InCallC s s.heap.objs.size (bindL (envOfC qual scope s.heap.objs.size f cd).kindOf (ps.zip us) fun _=>none) (cellsFrom (s.heap.objs.size+1) scope.names []) (bindC (envOfC qual scope s.heap.objs.size f cd).kindOf (ps.zip us) fun _=>none) s1) :
  Inv (cxOf CX P w K mg base N qual scope f cd A outer s H E) [] (start N vs) H s1:=by
 have hpl:ps.length≤N.length:=by have:=congrArg List.length S.pre;rw[List.length_take] at this;lia
 obtain⟨h1,tk,rfl,hk⟩:=x.done
 have noA:∀ b:Addr,b ∉ (cxOf CX P w K mg base N qual scope f cd A outer s H E).ex:=fun b z=>absurd (show b∈([]:List Addr) from z) (by simp)
 refine⟨⟨e0.mod,S.kind,rfl,rfl,Nat.le_refl _,fun y z c h1 h2=>?_,fun y hy=>?_,fun y c _ h=>?_,fun _=>hd,Around.frames_deeper e0.frames,.inr ⟨rfl,rfl⟩,fun b z=>absurd z (noA b),e0.bs,e0.bsz,fun b _ _=>noA b,fun b z=>absurd z (noA b),e0.funs,e0.frf⟩,
  rfl,e0.bare,Un.kept hk,⟨_,x.toInCall.ns,fun i y v h1 h2 h3=>?_⟩,fun y c h=>⟨_,x.cell y c h⟩,e0.hok.fresh (Nat.le_refl _),fun y c h=>?_,fun p hp=>absurd (show p∈([]:List (Addr×Obj)) from hp) (by simp),e0.hok.kept hk,?_⟩
 ·exact name_of_addr x.apart (PySem.mem_of_lookup h1) (PySem.mem_of_lookup h2)
 ·have hy:scope.names.lookup y=some .cell∨scope.names.lookup y=some .free:=hy
  rcases hy with hy | hy
  ·exact zhv hy
  ·exact absurd rfl (S.nofree _ (PySem.mem_of_lookup hy))
 ·exact Nat.le_of_lt (x.above y c (PySem.mem_of_lookup h))
 ·have hi : i < vs.length := by
   unfold start at h2
   by_cases hi:i<vs.length
   ·exact hi
   ·rw[List.getElem?_append_right (by simpa using hi)] at h2
    rw[List.getElem?_replicate] at h2
    split at h2 <;> cases h2
  have ha:vs[i]?=some v:=by
   unfold start at h2
   rw[List.getElem?_append_left (by simpa using hi),List.getElem?_map] at h2
   cases e:vs[i]? with
   | none=>rw[e] at h2;cases h2
   | some a=>rw[e] at h2;cases h2;rfl
  obtain⟨u,hu,rv⟩:=r.get ha
  have hp:ps[i]?=some y:=by
   rw[← S.pre,List.getElem?_take_of_lt (by lia)];exact h1
  have ndP:ps.Nodup:=by rw[← S.pre];exact S.nd.sublist (List.take_sublist _ _)
  refine⟨u,rv,?_⟩
  rcases S.par y (List.mem_of_getElem? hp) with k | k
  ·exact .inl ⟨k,zf8 ndP hp hu k⟩
  ·obtain⟨c,e⟩:=zhv (n:=s.heap.objs.size+1) k
   refine .inr ⟨.inl k,c,e,?_⟩
   have q:=x.cell y c e
   rw[zga ndP hp hu (by show scope.names.lookup y≠_;rw[k];decide)] at q
   exact q
 ·exact e0.hok.fresh (Nat.le_of_lt (x.above y c (PySem.mem_of_lookup h)))
 ·unfold start
  show _=N.length
  rw[List.length_append,List.length_map,List.length_replicate]
  lia
theorem fn_of {CX : CXT}{P : Program}{w : World}{K : W.Frag}{mg : Str → Option Value}{base : Heap}{k : Nat}{f : Addr}{name qual : Str}{params : Arguments}{body : List Stmt}{scope : Scope}{dV kV doc pm cdv ct oc : Value}{an od : Option Addr}
  {osl:Array (Option Value)} {N ps:List Str} {sp:Sp} (lk:K.lookup f=some ⟨oc,od,.func (W.fnOf name qual params body scope dV kV doc pm an cdv ct),osl⟩) (hcd:W.codeIn K cdv qual=true) (S:FnScope N ps scope)
  (len:∀ vs H Q E,sp vs H Q E→vs.length=ps.length)
  (hbody:∀ (A:Around) (outer:List Env) (s:Shared) (H:Hp) (vs:List V) (Q:VK) (E:XK),Room k (A.deeper (envOfC qual scope s.heap.objs.size f cdv))→sp vs H Q E →
   ∃ t,PSs (cxOf CX P w K mg base N qual scope f cdv A outer s H E) body t∧t { nx:=fun _ H'=>Q .non H',rt:=Q } (start N vs) H) :
  FnOk P w K mg base CX (k+1) f (W.fnOf name qual params body scope dV kV doc pm an cdv ct) ps sp:=by
 refine⟨len,fun A outer s H args us vs Q E hr e0 hb r hsp=>?_⟩
 have hl:=len _ _ _ _ hsp
 have KX:K.In s.heap:=e0.mod.kin.keeps fun b o e=>(e0.bs b o e).1
 have lim:s.heap.NoLimit:=e0.mod.nolimit.keeps fun b o e=>(e0.bs b o e).1
 have hkind:∀ y∈ps.zip us,scope.names.lookup y.1=some .local∨(scope.names.lookup y.1=some .cell∧((cellsFrom (s.heap.objs.size+1) scope.names []).lookup y.1).isSome=true):=fun⟨n,v⟩ hy=>by
  rcases S.par n (List.of_mem_zip hy).1 with q | q
  ·exact .inl q
  ·exact .inr ⟨q,W.cellsFrom_some _ _ _ (.inl q)⟩
 refine codeAny_call_function hr.depth (KX _ _ lk) rfl S.co S.gen rfl (W.codeRec_of KX hcd) (hb _ _ _ _ ?_)
 refine wpAny_newFunctionEnv_cells S.kind hkind fun env he s1 x=>?_
 subst he
 refine⟨lim.keeps x.toInCall.keep,codeAny_func ?_⟩
 obtain⟨t,ht,hq⟩:=hbody A outer s H vs Q E (hr.deeper _) hsp
 have I:Inv (cxOf CX P w K mg base N qual scope f cdv A outer s H E) [] (start N vs) H s1:=zi6 S hr.hd e0 hl r x
 refine wpAny_mono (ht [] s1 (start N vs) H _ I hq) (fun fl s' hs=>?_) fun e s' hs=>hs
 have fin:∀ {σ':St} {H':Hp} {v:V} {u:Value},Inv (cxOf CX P w K mg base N qual scope f cdv A outer s H E) [] σ' H' s'→RelV v u→Q v H'→CE outer P w H s Q u s' :=
  fun {σ' H' v u} J rv q=>⟨v,H',J.os,J.bare,J.base,J.hok,rv,q⟩
 cases fl with
 | ret u =>
  obtain⟨v,σ',H',J,rv,q⟩:=hs
  exact fin J rv q
 | next =>
  obtain⟨σ',H',J,q⟩:=hs
  exact fin (v:=V.non) (u:=Value.none) J rfl q
 | brk =>
  obtain⟨_,_,_,q⟩:=hs
  exact False.elim q
 | cont =>
  obtain⟨_,_,_,q⟩:=hs
  exact False.elim q
section
variable {X:Cx}{x:Str}{p pos:Pos}{e:Expr}{es:List Expr}{t:TA}{id T:String}{r:List V→Hp→VK→Prop}
def tCB (r:List V→Hp→VK→Prop) (t:TA):TE:=fun σ H Q=>t σ H fun vs H1=>r vs H1 Q
theorem zbb (hc : CallR X (.builtin id) r) (hg : Gl X x) (hm : X.mg x = none) (hv : bootBuiltins x = some (.builtin id)) (ha : PA X (e :: es) t) (hn : x ≠ "__name__" := by decide) (hdb : (x == ("__debug__" : Str)) = false := by decide)
  (he:starEach (e::es) X.env=(false,eval e X.env)::starEach es X.env:=by rfl) (hpl:(backTo pos (starEach es X.env)).any (·.1)=false:=by rfl):PE X (.Call (.Name x p) (e::es) [] pos) (tCB r t):=by
 intro pins s σ H Q I h
 refine wpAny_Call_Name_kw (zcz I hg hm hv ?_ hn hdb)
 exact PyProof.Rows.callWith_builtin1 (thn (ha pos pins s σ H _ I h) fun us s1 ⟨vs,H1,I1,r1,q1⟩=>hc pins s1 σ H1 vs us Q I1 r1 q1) he hpl
theorem zfJ (hc : CallR X (.type T) r) (hg : Gl X x) (hm : X.mg x = none) (hv : bootBuiltins x = some (.type T)) (ha : PA X (e :: es) t) (hn : x ≠ "__name__" := by decide) (hdb : (x == ("__debug__" : Str)) = false := by decide)
  (he:starEach (e::es) X.env=(false,eval e X.env)::starEach es X.env:=by rfl) (hpl:(backTo pos (starEach es X.env)).any (·.1)=false:=by rfl):PE X (.Call (.Name x p) (e::es) [] pos) (tCB r t):=by
 intro pins s σ H Q I h
 refine wpAny_Call_Name_kw (zcz I hg hm hv ?_ hn hdb)
 exact PyProof.Rows.callWith_type1 (thn (ha pos pins s σ H _ I h) fun us s1 ⟨vs,H1,I1,r1,q1⟩=>hc pins s1 σ H1 vs us Q I1 r1 q1) he hpl
end
section
variable {κ:Type} [DecidableEq κ]
def valV (kvs:List (κ×V)) (k:κ):Option V:=(kvs.find? fun kv=>decide (kv.1=k)).map (·.2)
def putK (kvs:List (κ×V)) (k:κ) (v:V):List (κ×V) :=
 if (kvs.any fun kv=>decide (kv.1=k))=true then kvs.map (fun kv=>if kv.1=k then (kv.1,v) else kv) else kvs++[(k,v)]
theorem zbD {p:κ×V}{r:List (κ×V)}{k:κ}(e:p.1=k):valV (p::r) k=some p.2:=by simp[valV,List.find?_cons,e]
theorem zbE {p:κ×V}{r:List (κ×V)}{k:κ}(e:¬ p.1=k):valV (p::r) k=valV r k:=by simp[valV,List.find?_cons,e]
theorem zcB (k:κ):∀ kvs:List (κ×V),(kvs.any fun kv=>decide (kv.1=k))=(valV kvs k).isSome
 | []=>rfl
 | p::r=>by
  rw[List.any_cons]
  by_cases e:p.1=k
  ·simp only[zbD e,decide_eq_true e,Bool.true_or,Option.isSome_some]
  ·rw[zbE e,decide_eq_false e,Bool.false_or];exact zcB k r
theorem zgP (k j:κ) (y:V):∀ kvs:List (κ×V),valV (kvs.map fun kv=>if kv.1=k then (kv.1,y) else kv) j=(valV kvs j).map fun x=>if j=k then y else x
 | []=>rfl
 | p::r=>by
  have ih:=zgP k j y r
  rw[List.map_cons]
  by_cases h:p.1=k
  ·rw[if_pos h]
   by_cases e:p.1=j
   ·rw[zbD (p:=(p.1,y)) e,zbD e,Option.map_some,if_pos (e.symm.trans h)]
   ·rw[zbE (p:=(p.1,y)) e,zbE e,ih]
  ·rw[if_neg h]
   by_cases e:p.1=j
   ·rw[zbD (p:=p) e,zbD e,Option.map_some,if_neg (fun z=>h (e.trans z))]
   ·rw[zbE (p:=p) e,zbE e,ih]
theorem zfr (k j:κ) (y:V):∀ kvs:List (κ×V),valV kvs k=none→valV (kvs++[(k,y)]) j=if j=k then some y else valV kvs j
 | [],_=>by
  by_cases e:k=j
  ·rw[if_pos e.symm];exact zbD (p:=(k,y)) e
  ·rw[if_neg (fun z=>e z.symm)];exact zbE (p:=(k,y)) e
 | p::r,hn=>by
  rw[List.cons_append]
  have hk:¬ p.1=k:=fun z=>by rw[zbD z] at hn;cases hn
  rw[zbE hk] at hn
  have ih:=zfr k j y r hn
  by_cases e:p.1=j
  ·rw[zbD e,zbD e,if_neg (fun z=>hk (e.trans z))]
  ·rw[zbE e,zbE e,ih]
theorem zcA (kvs:List (κ×V)) (k j:κ) (y:V):valV (putK kvs k y) j=if j=k then some y else valV kvs j:=by
 unfold putK
 by_cases a:(kvs.any fun kv=>decide (kv.1=k))=true
 ·rw[if_pos a,zgP]
  rw[zcB] at a
  by_cases e:j=k
  ·obtain⟨x,hx⟩:=Option.isSome_iff_exists.mp a
   rw[if_pos e,e,hx,Option.map_some,if_pos rfl]
  ·rw[if_neg e]
   cases valV kvs j with
   | none=>rfl
   | some x=>rw[Option.map_some,if_neg e]
 ·rw[if_neg a]
  refine zfr k j y kvs ?_
  rw[zcB] at a
  cases q:valV kvs k with
  | none=>rfl
  | some x=>rw[q] at a;exact (a rfl).elim
theorem zaR (kvs:List (κ×V)) (k:κ) (v:V):(putK kvs k v).length≤kvs.length+1:=by
 unfold putK
 split
 ·rw[List.length_map];lia
 ·rw[List.length_append,List.length_cons,List.length_nil];lia
theorem zeW {kvs:List (κ×V)}{k:κ}(v:V) (h:valV kvs k=none):putK kvs k v=kvs++[(k,v)]:=by
 unfold putK
 rw[zcB,h]
 exact if_neg (by decide)
theorem RelO.isSome_eq {o:Option V}{u:Option Value}(r:RelO o u):o.isSome=u.isSome:=by
 cases o with
 | none=>cases u with
  | none=>rfl
  | some _=>exact (show False from r).elim
 | some _=>cases u with
  | none=>exact (show False from r).elim
  | some _=>rfl
theorem RelO.getD {o:Option V}{u:Option Value}{d:V}{d':Value}(r:RelO o u) (rd:RelV d d'):RelV (o.getD d) (u.getD d'):=by
 cases o with
 | none=>cases u with
  | none=>exact rd
  | some _=>exact (show False from r).elim
 | some _=>cases u with
  | none=>exact (show False from r).elim
  | some _=>exact r
theorem KV.val {kvs:List (κ×V)}{vs:List (κ×Value)}(r:KV kvs vs) (k:κ):RelO (valV kvs k) (valueAt vs k):=by
 unfold KV at r
 induction r with
 | nil=>exact True.intro
 | @cons p q ps qs h t ih =>
  obtain⟨h1,h2⟩:=h
  by_cases e:p.1=k
  ·have e':q.1=k:=h1.symm.trans e
   have b:valueAt (q::qs) k=some q.2:=by simp[valueAt,List.find?_cons,e']
   rw[zbD e,b];exact h2
  ·have e':¬ q.1=k:=fun z=>e (h1.trans z)
   have b:valueAt (q::qs) k=valueAt qs k:=by simp[valueAt,List.find?_cons,e']
   rw[zbE e,b];exact ih
theorem KV.any {kvs:List (κ×V)}{vs:List (κ×Value)}(r:KV kvs vs) (k:κ):(kvs.any fun kv=>decide (kv.1=k))=vs.any fun kv=>decide (kv.1=k):=by
 unfold KV at r
 induction r with
 | nil=>rfl
 | cons h t ih=>rw[List.any_cons,List.any_cons,ih,h.1]
theorem KV.repl {kvs : List (κ × V)}{vs : List (κ × Value)}(r : KV kvs vs) (k : κ){y : V}{u : Value}(ry : RelV y u) :
  KV (kvs.map fun kv=>if kv.1=k then (kv.1,y) else kv) (vs.map fun kv=>if kv.1=k then (kv.1,u) else kv):=by
 unfold KV at r ⊢
 induction r with
 | nil=>exact .nil
 | @cons p q ps qs h t ih =>
  rw[List.map_cons,List.map_cons]
  refine .cons ?_ ih
  obtain⟨h1,h2⟩:=h
  by_cases e:p.1=k
  ·rw[if_pos e,if_pos (h1.symm.trans e)];exact⟨h1,ry⟩
  ·rw[if_neg e,if_neg (fun z=>e (h1.trans z))];exact⟨h1,h2⟩
theorem KV.put {kvs:List (κ×V)}{vs:List (κ×Value)}(r:KV kvs vs) (k:κ){y:V}{u:Value}(ry:RelV y u):KV (putK kvs k y) (stored vs k u):=by
 unfold putK stored
 rw[r.any k]
 by_cases e:(vs.any fun kv=>decide (kv.1=k))=true
 ·rw[if_pos e,if_pos e];exact r.repl k ry
 ·rw[if_neg e,if_neg e];exact Paired.snoc r ⟨rfl,ry⟩
theorem KV.length {kvs:List (κ×V)}{vs:List (κ×Value)}(r:KV kvs vs):kvs.length=vs.length:=Paired.length r
end
theorem kV_is {P:Program}{w:World}{k:Key}{u:Value}(r:RelV (kV k) u):(zaC P w).is k u=true:=by
 cases k with
 | inl i=>obtain⟨t,e⟩:=(show ∃ t,u=Value.int i t from r);subst e;exact zgG P w i t
 | inr x=>obtain⟨t,e⟩:=(show ∃ t,u=Value.str x t from r);subst e;exact zb7 P w x t
theorem zfU {P:Program}{w:World}:∀ {ks:List Key}{us:List Value},Vals (ks.map kV) us→ItemsAre (zaC P w) ks us
 | [],_,r=>by rw[List.map_nil] at r;cases r;exact .nil
 | k::ks,_,r=>by
  rw[List.map_cons] at r
  cases r with
  | cons h t=>exact .cons (kV_is h) (zfU t)
abbrev KT (H:Hp):List (List Key×V)→List (List Key×Addr×Value)→Prop:=Paired fun p q=>p.1=q.1∧H q.2.1=some (.tup (p.1.map kV))∧RelV p.2 q.2.2
theorem KT.val {H:Hp}{kvs:List (List Key×V)}{xs:List (List Key×Addr×Value)}(r:KT H kvs xs) (k:List Key):RelO (valV kvs k) ((atKey xs k).map (·.2)):=by
 induction r with
 | nil=>exact True.intro
 | @cons p q ps qs h t ih =>
  obtain⟨h1,_,h2⟩:=h
  by_cases e:p.1=k
  ·have e':q.1=k:=h1.symm.trans e
   have b:atKey (q::qs) k=some q.2:=by simp[atKey,List.find?_cons,e']
   rw[zbD e,b];exact h2
  ·have e':¬ q.1=k:=fun z=>e (h1.trans z)
   have b:atKey (q::qs) k=atKey qs k:=by simp[atKey,List.find?_cons,e']
   rw[zbE e,b];exact ih
theorem KT.repl {H : Hp}{kvs : List (List Key × V)}{xs : List (List Key × Addr × Value)}(r : KT H kvs xs) (k : List Key){y : V}{u : Value}(ry : RelV y u) :
  KT H (kvs.map fun kv=>if kv.1=k then (kv.1,y) else kv) (xs.map (putAt k u)):=by
 induction r with
 | nil=>exact .nil
 | @cons p q ps qs h t ih =>
  rw[List.map_cons,List.map_cons]
  refine .cons ?_ ih
  obtain⟨h1,h2,h3⟩:=h
  unfold putAt
  by_cases e:p.1=k
  ·rw[if_pos e,if_pos (h1.symm.trans e)];exact⟨h1,h2,ry⟩
  ·rw[if_neg e,if_neg (fun z=>e (h1.trans z))];exact⟨h1,h2,h3⟩
theorem KT.put {H : Hp}{kvs : List (List Key × V)}{xs : List (List Key × Addr × Value)}(r : KT H kvs xs) (k : List Key){b : Addr}{y : V}{u : Value}(hb : H b = some (.tup (k.map kV))) (ry : RelV y u) :
  KT H (putK kvs k y) (storedH xs k b u):=by
 have e:(kvs.any fun kv=>decide (kv.1=k))=(atKey xs k).isSome:=by
  rw[zcB,(r.val k).isSome_eq,Option.isSome_map]
 unfold putK storedH
 rw[e]
 by_cases q:(atKey xs k).isSome=true
 ·rw[if_pos q,if_pos q];exact r.repl k ry
 ·rw[if_neg q,if_neg q];exact Paired.snoc r ⟨rfl,hb,ry⟩
theorem KT.keeps {H H':Hp}{kvs:List (List Key×V)}{xs:List (List Key×Addr×Value)}(r:KT H kvs xs) (ht:∀ b ys,H b=some (.tup ys)→H' b=some (.tup ys)):KT H' kvs xs :=
 Paired.mapP r fun _ _ z=>⟨z.1,ht _ _ z.2.1,z.2.2⟩
section
variable {P:Program}{w:World}{H:Hp}{h:Heap}{a:Addr}
theorem rd_of {u:HO}(ok:HOk P w H h) (e:Rd H a u):ObjOk P w H h a u:=e.ok ok
theorem dk_rd {kvs:List (Key×V)}(ok:HOk P w H h) (e:Rd H a (.dK kvs)):kvs.length≤sizeLine∧(a == sysModules)=false∧∃ vs,KV kvs vs∧h.DictOf (zaC P w) a vs :=
 show ObjOk P w H h a (.dK kvs) from rd_of ok e
theorem dk_of {kvs:List (Key×V)}(ok:HOk P w H h) (e:H a=some (.dK kvs)):kvs.length≤sizeLine∧(a == sysModules)=false∧∃ vs,KV kvs vs∧h.DictOf (zaC P w) a vs:=dk_rd ok (.inl e)
theorem zdl {ks:List Key}(ok:HOk P w H h) (e:H a=some (.tup (ks.map kV))):(tupleKind (zaC P w)).is h ks a:=by
 obtain⟨_,its,r,o,h1,h2,n,h3⟩:=(show ObjOk P w H h a (.tup (ks.map kV)) from ok a _ e)
 exact⟨o,its.toArray,n,h1,h2,h3,by simpa using zfU r⟩
theorem dt_rd {kvs : List (List Key × V)}(ok : HOk P w H h) (e : Rd H a (.dT kvs)) : kvs.length ≤ sizeLine ∧ (a == sysModules) = false ∧
  ∃ xs,KT H kvs xs∧h.DictOfH (tupleKind (zaC P w)) a xs:=by
 obtain⟨z,y,xs,r,o,es,ep,h1,h2,h3,h4,h5⟩:=(show ObjOk P w H h a (.dT kvs) from rd_of ok e)
 refine⟨z,y,xs,r,o,es,ep,h1,h2,h3,h4,fun x hx=>?_,h5⟩
 have all:∀ {l:List (List Key×V)} {m:List (List Key×Addr×Value)},KT H l m→∀ x∈m,(tupleKind (zaC P w)).is h x.1 x.2.1:=by
  intro l m q
  induction q with
  | nil=>intro x hx;exact nomatch hx
  | @cons p q ps qs hq t ih =>
   intro x hx
   rcases List.mem_cons.mp hx with e | hx
   ·subst e
    exact zdl ok (by rw[← hq.1];exact hq.2.1)
   ·exact ih x hx
 exact all r x hx
theorem dt_of {kvs : List (List Key × V)}(ok : HOk P w H h) (e : H a = some (.dT kvs)) : kvs.length ≤ sizeLine ∧ (a == sysModules) = false ∧
  ∃ xs,KT H kvs xs∧h.DictOfH (tupleKind (zaC P w)) a xs:=dt_rd ok (.inl e)
end
def DGet (H:Hp) (a:Addr) (y:V) (r:Option V):Prop :=
 (∃ kvs k,Rd H a (.dK kvs)∧y=kV k∧r=valV kvs k)∨∃ kvs k b,Rd H a (.dT kvs)∧y=.ref b∧H b=some (.tup (k.map kV))∧r=valV kvs k
def DPut (H:Hp) (a:Addr) (y v:V) (H':Hp):Prop :=
 (∃ kvs k,H a=some (.dK kvs)∧y=kV k∧kvs.length<sizeLine∧H'=upd H a (.dK (putK kvs k v))) ∨
 ∃ kvs k b,H a=some (.dT kvs)∧y=.ref b∧H b=some (.tup (k.map kV))∧kvs.length<sizeLine∧H'=upd H a (.dT (putK kvs k v))
theorem DGet.k {H:Hp}{a:Addr}{kvs:List (Key×V)}{k:Key}(e:H a=some (.dK kvs)):DGet H a (kV k) (valV kvs k):=.inl ⟨kvs,k,.inl e,rfl,rfl⟩
section
variable {X:Cx}{pins:List (Addr×Obj)}{σ:St}{H:Hp}{s:Shared}{a:Addr}{y v:V}{u r:Value}{o:Option V}{A:Around}{E:Value→Shared→Prop}
theorem Inv.big (I:Inv X pins σ H s):sysModules<s.heap.objs.size:=by
 have h:mainGlobals<s.heap.objs.size:=(I.mod.glob.keeps I.bk).lt
 exact Nat.lt_trans (by decide) h
theorem zjo {Q : Value → Shared → Prop}(hu : A.units + 1 < cLine) (I : Inv X pins σ H s) (g : DGet H a y (some v)) (ry : RelV y u) (h : ∀ w' s', Inv X pins σ H s' → RelV v w' → Q w' s') :
  wpAny (model X.prog X.w) A (getItem (.ref a) u) Q E s:=by
 rcases g with⟨kvs,k,e,ey,l⟩ | ⟨kvs,k,b,e,ey,eb,l⟩
 ·subst ey
  obtain⟨z,hd,vs,rel,dd⟩:=dk_rd I.hok e
  obtain⟨w',hw,rw'⟩:=RelO.some_of (v:=v) (o:=valueAt vs k) (by rw[l];exact rel.val k)
  exact wpAny_getItem_of (kV_is ry) dd.mapOf hw (h w' _ (I.tok _) rw')
 ·subst ey
  cases (show u=Value.ref b from ry)
  obtain⟨z,hd,xs,rel,dd⟩:=dt_rd I.hok e
  obtain⟨w',hw,rw'⟩:=RelO.some_of (v:=v) (o:=(atKey xs k).map (·.2)) (by rw[l];exact rel.val k)
  obtain⟨p,hp,hp2⟩:=Option.map_eq_some_iff.mp hw
  refine wpAny_getItem_heap (tupleKind_room_in1 hu) (zdl I.hok eb) dd hp ?_
  rw[hp2]
  exact h w' _ (I.tok _) rw'
theorem d_in {Q : Value → Shared → Prop}(hu : A.units + 1 < cLine) (I : Inv X pins σ H s) (g : DGet H a y o) (ry : RelV y u) (h : ∀ s', Inv X pins σ H s' → Q (.bool o.isSome) s') :
  wpAny (model X.prog X.w) A (compareOp .In u (.ref a)) Q E s:=by
 rcases g with⟨kvs,k,e,ey,l⟩ | ⟨kvs,k,b,e,ey,eb,l⟩
 ·subst ey
  obtain⟨z,hd,vs,rel,dd⟩:=dk_rd I.hok e
  refine wpAny_in_of (kV_is ry) hd dd.mapOf ?_
  rw[← (rel.val k).isSome_eq,← l]
  exact h _ (I.tok _)
 ·subst ey
  cases (show u=Value.ref b from ry)
  obtain⟨z,hd,xs,rel,dd⟩:=dt_rd I.hok e
  refine wpAny_in_heap (tupleKind_room_in1 hu) (zdl I.hok eb) hd dd ?_
  have q:=(rel.val k).isSome_eq
  rw[Option.isSome_map] at q
  rw[← q,← l]
  exact h _ (I.tok _)
theorem zlk {Q : Value → Shared → Prop}(hu : A.units + 1 < cLine) (I : Inv X pins σ H s) (g : DGet H a y o) (ry : RelV y u) (h : ∀ s', Inv X pins σ H s' → Q (.bool (!o.isSome)) s') :
  wpAny (model X.prog X.w) A (compareOp .NotIn u (.ref a)) Q E s:=by
 rcases g with⟨kvs,k,e,ey,l⟩ | ⟨kvs,k,b,e,ey,eb,l⟩
 ·subst ey
  obtain⟨z,hd,vs,rel,dd⟩:=dk_rd I.hok e
  refine wpAny_notIn_of (kV_is ry) hd dd.mapOf ?_
  rw[← (rel.val k).isSome_eq,← l]
  exact h _ (I.tok _)
 ·subst ey
  cases (show u=Value.ref b from ry)
  obtain⟨z,hd,xs,rel,dd⟩:=dt_rd I.hok e
  refine wpAny_notIn_heap (tupleKind_room_in1 hu) (zdl I.hok eb) hd dd ?_
  have q:=(rel.val k).isSome_eq
  rw[Option.isSome_map] at q
  rw[← q,← l]
  exact h _ (I.tok _)
theorem zdc {h' : Heap}{t' : Nat}{ob : HO}(I : Inv X pins σ H s) (mu : Mut (H a)) (hs : Heap.SameBut a s.heap h') (he : ∃ q, h'.get? a = some q) (new : ObjOk X.prog X.w (upd H a ob) h' a ob) :
  Inv X pins σ (upd H a ob) { s with heap:=h',toks:=t' } :=
 I.write (x:=a) (e:=a) mu (.inl rfl) (fun b q hb z=>(hs.2 b hb).trans z) he new
theorem zjh {P : Program}{w : World}{H' : Hp}{h' : Heap}{kvs : List (Key × V)}{vs : List (Key × Value)}(z : kvs.length ≤ sizeLine) (hd : (a == sysModules) = false) (rel : KV kvs vs) (dd : h'.DictOf (zaC P w) a vs) :
  ObjOk P w H' h' a (.dK kvs):=⟨z,hd,vs,rel,dd⟩
theorem zjn {H' : Hp}{Q : Unit → Shared → Prop}(hu : A.units + 1 < cLine) (I : Inv X pins σ H s) (g : DPut H a y v H') (ry : RelV y u) (rv : RelV v r) (h : ∀ s', Inv X pins σ H' s' → Q () s') :
  wpAny (model X.prog X.w) A (setItem (.ref a) u r) Q E s:=by
 rcases g with⟨kvs,k,e,ey,l,eH⟩ | ⟨kvs,k,b,e,ey,eb,l,eH⟩
 ·subst ey eH
  obtain⟨z,hd,vs,rel,dd⟩:=dk_of I.hok e
  have hz:vs.length≤sizeLine:=by rw[← rel.length];exact z
  have hl:(putK kvs k v).length≤sizeLine:=by have:=zaR kvs k v;lia
  refine wpAny_setItem_pairs (hsz:=hz) (kV_is ry) dd fun h' dd' hs=>h _ ?_
  have he:∃ q,h'.get? a=some q:=let ⟨q,_,_,hq,_⟩:=dd';⟨q,hq⟩
  exact zdc I (by rw[e];exact True.intro) hs he (zjh hl hd (rel.put k rv) dd')
 ·subst ey eH
  cases (show u=Value.ref b from ry)
  obtain⟨z,hd,xs,rel,dd⟩:=dt_of I.hok e
  have hz:xs.length≤sizeLine:=by rw[← Paired.length rel];exact z
  have hl:(putK kvs k v).length≤sizeLine:=by have:=zaR kvs k v;lia
  refine wpAny_setItem_heap (hsz:=hz) (tupleKind_room_in1 hu) (zdl I.hok eb) dd fun h' dd' hs=>h _ ?_
  obtain⟨q,es,ep,hq,h2,h3,h4,_,h5⟩:=dd'
  refine zdc I (by rw[e];exact True.intro) hs ⟨q,hq⟩ ⟨hl,hd,_,(rel.put k eb rv).keeps fun c ys ec=>?_,q,es,ep,hq,h2,h3,h4,h5⟩
  rw[zaj (ne_of ec e (fun z=>nomatch z))]
  exact ec
end
section
variable {X:Cx}{pins:List (Addr×Obj)}{σ:St}{H:Hp}{s:Shared}{a:Addr}{kvs:List (Key×V)}{k:Key}{u:Value}{A:Around}{E:Value→Shared→Prop}
end
def NoSl (i:Expr):Prop:=∀ ov iv,subscripted i false ov iv=operate [ov,iv] (getItem ov iv)
theorem zgn {prog : Program}{w : World}{A : Around}{E : Value → Shared → Prop}{s : Shared}{env : Env}{value slice : Expr}{pos : Pos}{T id : String}{Q : Value → Shared → Prop}
  (hl:typeLookup (.type T) "__getitem__" = pure (some (.builtin id))) (hs:NoSl slice)
  (h:wpAny (model prog w) A (eval value env) (fun o s₁=>wpAny (model prog w) A (eval slice env) (fun i s₂=>s₂.TypeIs o T∧wpAny (model prog w) A (getItem o i) Q E s₂) E s₁) E s) :
  wpAny (model prog w) A (eval (.Subscript value slice pos) env) Q E s:=by
 refine Subscript_ (wpAny_mono h (fun o s₁ h₁=>wpAny_mono h₁ (fun i s₂ h₂=>?_) fun _ _ x=>x) fun _ _ x=>x)
 obtain⟨hT,h₂⟩:=h₂
 unfold subscriptTail
 refine wpAny_bind ?_
 rw[getitemInPython_of_ne hT.not_modules]
 refine wpAny_bind (wpAny_specialOf hT hl ?_)
 have fin:wpAny (model prog w) A (subscripted slice false o i) (fun r s₃=>wpAny (model prog w) A (letTemporaryGo value o r >>= fun _=>pure r) Q E s₃) E s₂:=by
  rw[hs o i]
  exact wpAny_operating (wpAny_mono h₂ (fun r s₃ h₃=>wpAny_bind (wpAny_letTemporaryGo (wpAny_pure h₃))) fun _ _ x=>x)
 first
  | exact wpAny_pure (wpAny_bind fin)
  | exact wpAny_bind (wpAny_pure (wpAny_bind fin))
  | exact wpAny_bind fin
theorem zgI {X:Cx}{pins:List (Addr×Obj)}{σ:St}{H:Hp}{s:Shared}{a:Addr}{y:V}{o:Option V}(I:Inv X pins σ H s) (g:DGet H a y o):s.TypeIs (.ref a) "dict":=by
 rcases g with⟨kvs,k,e,_,_⟩ | ⟨kvs,k,b,e,_,_,_⟩
 ·obtain⟨_,_,vs,_,dd⟩:=dk_rd I.hok e
  exact dd.typeIs
 ·obtain⟨_,_,xs,_,dd⟩:=dt_rd I.hok e
  exact dd.typeIs
def tDGet (td ty:TE):TE:=fun σ H Q=>td σ H fun x H1=>ty σ H1 fun y H2=>∃ a v,x=.ref a∧DGet H2 a y (some v)∧Q v H2
def tDIn (ty td:TE):TE:=fun σ H Q=>ty σ H fun y H1=>td σ H1 fun x H2=>∃ a o,x=.ref a∧DGet H2 a y o∧Q (.bl o.isSome) H2
def zkN (ty td:TE):TE:=fun σ H Q=>ty σ H fun y H1=>td σ H1 fun x H2=>∃ a o,x=.ref a∧DGet H2 a y o∧Q (.bl (!o.isSome)) H2
def sDPut (td ty tv:TE):TS:=fun D σ H=>tv σ H fun v H1=>td σ H1 fun x H2=>ty σ H2 fun y H3=>∃ a H4,x=.ref a∧DPut H3 a y v H4∧D.nx σ H4
section
variable {X:Cx}{o i e value:Expr}{pos pos' tpos:Pos}{td ty tv:TE}
theorem zk0 (hu:X.A.units+1<cLine) (ho:PE X o td) (hi:PE X i ty) (hs:NoSl i):PE X (.Subscript o i pos) (tDGet td ty):=by
 intro pins s σ H Q I h
 refine zgn PySem.F.slot_dict_getitem.lookup hs (thn (ho pins s σ H _ I h) fun u s1 ⟨x,H1,I1,rx,q1⟩=>thn (hi pins s1 σ H1 _ I1 q1) fun iv s2 ⟨y,H2,I2,ry,a,v,ex,g,q2⟩=>?_)
 subst ex
 obtain rfl:u=Value.ref a:=rx
 exact⟨zgI I2 g,zjo hu I2 g ry fun w' s3 I3 rw'=>⟨v,H2,I3,rw',q2⟩⟩
theorem zlP (hu:X.A.units+1<cLine) (hi:PE X i ty) (ho:PE X o td):PC X .In i o (tDIn ty td):=by
 intro pins s σ H Q I h
 refine thn (hi pins s σ H _ I h) fun iv s1 ⟨y,H1,I1,ry,q1⟩=>thn (ho pins s1 σ H1 _ I1 q1) fun u s2 ⟨x,H2,I2,rx,a,ov,ex,g,q2⟩=>?_
 subst ex
 obtain rfl:u=Value.ref a:=rx
 exact d_in hu I2 g ry fun s3 I3=>⟨.bl ov.isSome,H2,I3,rfl,q2⟩
theorem zfK (hu:X.A.units+1<cLine) (hi:PE X i ty) (ho:PE X o td):PC X .NotIn i o (zkN ty td):=by
 intro pins s σ H Q I h
 refine thn (hi pins s σ H _ I h) fun iv s1 ⟨y,H1,I1,ry,q1⟩=>thn (ho pins s1 σ H1 _ I1 q1) fun u s2 ⟨x,H2,I2,rx,a,ov,ex,g,q2⟩=>?_
 subst ex
 obtain rfl:u=Value.ref a:=rx
 exact zlk hu I2 g ry fun s3 I3=>⟨.bl (!ov.isSome),H2,I3,rfl,q2⟩
theorem ziy (hu : X.A.units + 1 < cLine) (ho : PE X o td) (hi : PE X i ty) (hv : PE X value tv) (hs : swapsWith value (some (.Subscript o i pos')) pos.line X.env = pure false) :
  PS X (.Assign [.Subscript o i pos'] value pos) (sDPut td ty tv):=by
 intro pins s σ H D I h
 refine wpAny_Assign_Subscript (thn (hv pins s σ H _ I h) fun r s1 ⟨v,H1,I1,rv,q1⟩=>thn (ho pins s1 σ H1 _ I1 q1) fun u s2 ⟨x,H2,I2,rx,q2⟩=>thn (hi pins s2 σ H2 _ I2 q2) fun iv s3 ⟨y,H3,I3,ry,a,H4,ex,g,q3⟩=>?_) hs
 subst ex
 obtain rfl:u=Value.ref a:=rx
 exact zjn hu I3 g ry rv fun s4 I4=>⟨σ,H4,I4,q3⟩
end
theorem zj8 {P:Program}{w:World}{H:Hp}(h:Heap) (hb:sysModules<h.objs.size):ObjOk P w H (h.push { cls:=.type "dict",data:=.dict #[] }) h.objs.size (.dK []) :=
 ⟨Nat.zero_le _,beq_eq_false_iff_ne.mpr (Ne.symm (Nat.ne_of_lt hb)),[],.nil,Heap.DictOf.new h⟩
theorem zhp {P:Program}{w:World}{H:Hp}(h:Heap) (hb:sysModules<h.objs.size):ObjOk P w H (h.push { cls:=.type "dict",data:=.dict #[] }) h.objs.size (.dT []) :=
 ⟨Nat.zero_le _,beq_eq_false_iff_ne.mpr (Ne.symm (Nat.ne_of_lt hb)),[],.nil,_,#[],0,Heap.get?_push_size _ rfl,⟨rfl,rfl,rfl⟩,rfl,rfl,List.nodup_nil⟩
def zlz:TE:=fun _ H Q=>∀ p,H p=none→Q (.ref p) (upd H p (.dK []))
def zly:TE:=fun _ H Q=>∀ p,H p=none→Q (.ref p) (upd H p (.dT []))
section
variable {X:Cx}{pos:Pos}
theorem zjT:PE X (.Dict [] [] pos) zlz:=fun pins s σ H Q I h =>
 wpAny_Dict_empty ⟨.ref s.heap.objs.size,_,I.laid (a:=s.heap.objs.size) (o:=.dK []) (t':=s.toks) (fun _ _ q=>Heap.get?_push_of_some _ q) (Nat.le_refl _) (zj8 s.heap I.big),rfl,h _ (I.hok.fresh (Nat.le_refl _))⟩
theorem zeZ:PE X (.Dict [] [] pos) zly:=fun pins s σ H Q I h =>
 wpAny_Dict_empty ⟨.ref s.heap.objs.size,_,I.laid (a:=s.heap.objs.size) (o:=.dT []) (t':=s.toks) (fun _ _ q=>Heap.get?_push_of_some _ q) (Nat.le_refl _) (zhp s.heap I.big),rfl,h _ (I.hok.fresh (Nat.le_refl _))⟩
end
structure M1 (X:Cx) (o:Expr) (m:Str) (apos:Pos) (e:Expr) (cpos:Pos):Prop where
 base:attributeBase o m X.env (eval o X.env)=eval o X.env
 few:((backTo cpos (starEach [e] X.env)).all (fun x=>!x.1) && (backToKw cpos (keywordEach [] X.env)).all (fun x=>x.1.isSome)
  && decide (([e]:List Expr).length+([]:List Keyword).length+(if ([]:List Keyword).isEmpty then 0 else 1)<30))=true
 line:(apos.endLine == cpos.line)=true
 trees:backTo cpos (starEach [e] X.env)=[(false,eval e X.env)]
structure M2 (X:Cx) (o:Expr) (m:Str) (apos:Pos) (e f:Expr) (cpos:Pos):Prop where
 base:attributeBase o m X.env (eval o X.env)=eval o X.env
 few:((backTo cpos (starEach [e,f] X.env)).all (fun x=>!x.1) && (backToKw cpos (keywordEach [] X.env)).all (fun x=>x.1.isSome)
  && decide (([e,f]:List Expr).length+([]:List Keyword).length+(if ([]:List Keyword).isEmpty then 0 else 1)<30))=true
 line:(apos.endLine == cpos.line)=true
 trees:backTo cpos (starEach [e,f] X.env)=[(false,eval e X.env),(false,eval f X.env)]
def IsD (H:Hp) (a:Addr):Prop:=(∃ kvs,Rd H a (.dK kvs))∨∃ kvs,Rd H a (.dT kvs)
theorem zi5 {X : Cx}{pins : List (Addr × Obj)}{σ : St}{H : Hp}{s : Shared}{a : Addr}(I : Inv X pins σ H s) (d : IsD H a) :
  s.TypeIs (.ref a) "dict" ∧ (∀ b,Value.ref a=.ref b→∃ ob,s.heap.get? b=some ob∧ob.dict=none)∧(a == sysModules)=false:=by
 rcases d with⟨kvs,e⟩ | ⟨kvs,e⟩
 ·obtain⟨_,hd,vs,_,dd⟩:=dk_rd I.hok e
  refine⟨dd.typeIs,fun b q=>?_,hd⟩
  cases q
  obtain⟨ob,_,_,h1,h2,_⟩:=dd
  exact⟨ob,h1,h2.2.1⟩
 ·obtain⟨_,hd,xs,_,dd⟩:=dt_rd I.hok e
  refine⟨dd.typeIs,fun b q=>?_,hd⟩
  cases q
  obtain⟨ob,_,_,h1,h2,_⟩:=dd
  exact⟨ob,h1,h2.2.1⟩
section
variable {X:Cx}{pins:List (Addr×Obj)}{σ:St}{H:Hp}{s:Shared}{a:Addr}{y d:V}{u r:Value}{o:Option V}{A:Around}{E:Value→Shared→Prop}
theorem zl0 {Q : Value → Shared → Prop}(hu : A.units + 1 < cLine) (I : Inv X pins σ H s) (g : DGet H a y o) (ry : RelV y u) (rd : RelV d r) (h : ∀ w' s', Inv X pins σ H s' → RelV (o.getD d) w' → Q w' s') :
  wpAny (model X.prog X.w) A (call (.builtin "dict.get") [.ref a,u,r]) Q E s:=by
 rcases g with⟨kvs,k,e,ey,l⟩ | ⟨kvs,k,b,e,ey,eb,l⟩
 ·subst ey
  obtain⟨z,hd,vs,rel,dd⟩:=dk_rd I.hok e
  refine call_meetsIn PySem.F.slot_dict_get dd.typeIs PySem.F.entry_dict_get (PySem.F.args_dict_get_3 _ _ _) (meets_dict_get_default (zaC X.prog X.w) a (kV_is ry) hd r) ⟨_,dd.mapOf,h _ _ (I.tok _) ?_⟩
  rw[l]
  exact (rel.val k).getD rd
 ·subst ey
  cases (show u=Value.ref b from ry)
  obtain⟨z,hd,xs,rel,dd⟩:=dt_rd I.hok e
  refine call_meetsIn PySem.F.slot_dict_get dd.typeIs PySem.F.entry_dict_get (PySem.F.args_dict_get_3 _ _ _) (meetsH_dict_get_default (tupleKind (zaC X.prog X.w)) a b hd r) ⟨tupleKind_room_in1 hu,k,xs,zdl I.hok eb,dd,h _ _ (I.tok _) ?_⟩
  rw[l]
  exact (rel.val k).getD rd
end
def zlA (td ty tx:TE):TE:=fun σ H Q=>td σ H fun x H1=>∃ a,x=.ref a∧IsD H1 a∧ty σ H1 fun y H2=>tx σ H2 fun z H3=>∃ o,DGet H3 a y o∧Q (o.getD z) H3
section
variable {X:Cx}{o e f:Expr}{apos cpos:Pos}{td ty tx:TE}
theorem zjU (hu:X.A.units+1<cLine) (ho:PE X o td) (he:PE X e ty) (hf:PE X f tx) (m:M2 X o "get" apos e f cpos):PE X (.Call (.Attribute o "get" apos) [e,f] [] cpos) (zlA td ty tx):=by
 intro pins s σ H Q I h
 refine wpAny_Call_method m.base m.few m.line PySem.F.plainAttrs_dict PySem.F.slot_dict_get PySem.F.type_dict_get (thn (ho pins s σ H _ I h) fun u s1 ⟨x,H1,I1,rx,a,ex,d,q1⟩=>?_)
 subst ex
 obtain rfl:u=Value.ref a:=rx
 obtain⟨t1,t2,_⟩:=zi5 I1 d
 refine⟨t1,t2,?_⟩
 rw[m.trees]
 refine Calls.callWith_builtin rfl (Calls.evalArgs_plain (Calls.spliced_cons (thn (he pins s1 σ H1 _ I1 q1) fun iv s2 ⟨y,H2,I2,ry,q2⟩ =>
  Calls.spliced_cons (thn (hf pins s2 σ H2 _ I2 q2) fun fv s3 ⟨z,H3,I3,rz,ov,g,q3⟩=>Calls.spliced_nil ?_))))
 exact zl0 hu I3 g ry rz fun w' s4 I4 rw'=>⟨_,H3,I4,rw',q3⟩
end
section
variable {X:Cx}{pins:List (Addr×Obj)}{σ:St}{H:Hp}{s:Shared}{a:Addr}{kvs:List (Key×V)}{A:Around}{E:Value→Shared→Prop}
end
section
variable {X:Cx}{pins:List (Addr×Obj)}{σ:St}{H:Hp}{s:Shared}{a:Addr}{y:V}{u:Value}{A:Around}{E:Value→Shared→Prop}
end
end L2
namespace HT
open PySem PyProof.Rows
def lexLt:List Int→List Int→Bool
 | [],[]=>false
 | [],_::_=>true
 | _::_,[]=>false
 | x::xs,y::ys=>if x=y then lexLt xs ys else decide (x<y)
theorem lexLt_cons (x y:Int) (xs ys:List Int):lexLt (x::xs) (y::ys)=if x=y then lexLt xs ys else decide (x<y):=rfl
theorem lexLt_nil_nil:lexLt [] []=false:=rfl
theorem zef (y:Int) (ys:List Int):lexLt [] (y::ys)=true:=rfl
theorem zeg (x:Int) (xs:List Int):lexLt (x::xs) []=false:=rfl
theorem zhl (A:Around) (s:Shared) (a:Int) (t:Tok) (c:Int) (u:Tok):∃ e,SeqAt.EqAt A s (.int a t) (.int c u) e∧(e=true ↔ a=c) :=
 ⟨(a == c),SeqAt.EqAt.int_int a t c u,by simp⟩
theorem zjM (A : Around) (s : Shared) (a : Int) (t : Tok) (c : Int) (u : Tok) (prog : Program) (w : World) (E : Value → Shared → Prop) (Q : Value → Shared → Prop) (h : Q (.bool (decide (a < c))) s) :
  wpAny (model prog w) A (richCompare .Lt (.int a t) (.int c u)) Q E s :=
 (PyProof.Rows.lt_int h:wpAny (model prog w) A (compareOp .Lt (.int a t) (.int c u)) Q E s)
section
open PySem.SeqAt
open PySem.AutoSeq1 (wpAny_loadPart')
open PySem.MeetsSeq PySem.MeetsSeq2 PySem.MeetsSeq3
theorem zeH (l b : Addr) (items items2 : Array Value) (n n2 : Nat) (dd dd2 : Option Addr) (sl sl2 : Array (Option Value)) (ns ms : List Int) (hi : IntsAre items.toList ns) (hj : IntsAre items2.toList ms) :
  Meets (Builtin.«tuple.__lt__» ⟨[.ref l,.ref b],[]⟩)
   (fun _ R s=>s.heap.get? l=some { cls:=.type "tuple",dict:=dd,data:=.seq items n,slots:=sl }∧s.heap.get? b=some { cls:=.type "tuple",dict:=dd2,data:=.seq items2 n2,slots:=sl2 } ∧
    R (.ok (.ret (.bool (lexLt ns ms)))) s) :=
 .of_wp fun prog w A R s h=>by
  obtain⟨hp,g,d,tk,os⟩:=s;obtain⟨hl,hb,h⟩:=h
  have f2:=AutoSeq1.sub_tuple_tuple
  have z1:items.size=ns.length:=by rw[← hi.length];simp
  have z2:items2.size=ms.length:=by rw[← hj.length];simp
  wp_walk using wpAny_loadPart' hl,wpAny_loadPart' hb,wpAny_forIn_list _ (fun rest b s'=>b.1=none∧s'=⟨hp,g,d,tk,os⟩∧∃ (vs ws:List Value) (ns' ms':List Int),rest=vs.zip ws ∧
   IntsAre vs ns'∧IntsAre ws ms'∧ns'.length+items2.size=ms'.length+items.size∧R (.ok (.ret (.bool (lexLt ns' ms')))) ⟨hp,g,d,tk,os⟩) _
  case turn =>
   rintro⟨y,x⟩ rest b s' ⟨hb',rfl,vs,ws,ns',ms',hz,hvi,hwi,hlen,hR⟩
   cases hvi with
   | nil=>rw[List.zip_nil_left] at hz;cases hz
   | cons a t hvi' =>
    cases hwi with
    | nil=>rw[List.zip_nil_right] at hz;cases hz
    | cons c u hwi' =>
     rw[List.zip_cons_cons] at hz
     injection hz with hyx hrest
     injection hyx with hy hx
     subst hy hx
     rw[lexLt_cons] at hR
     simp only[List.length_cons] at hlen
     obtain⟨e,he,hiff⟩:=zhl A.in1 ⟨hp,g,d,tk,os⟩ a t c u
     refine wpAny_bind (he prog w _ _ ?_)
     cases e with
     | true =>
      rw[if_pos (hiff.mp rfl)] at hR
      wp_walk
      exact⟨rfl,rfl,_,_,_,_,hrest,hvi',hwi',by lia,hR⟩
     | false =>
      rw[if_neg (fun q=>absurd (hiff.mpr q) Bool.false_ne_true)] at hR
      have hri:=zjM A.in1 ⟨hp,g,d,tk,os⟩ a t c u prog w
      wp_walk using hri
      exact⟨_,rfl,by simpa using hR⟩
  case fin =>
   rintro⟨b1,b2⟩ s' ⟨hb',rfl,vs,ws,ns',ms',hz,hvi,hwi,hlen,hR⟩
   simp only at hb'
   subst hb'
   have hv:lexLt ns' ms'=decide (items.size<items2.size):=by
    cases hvi with
    | nil =>
     cases hwi with
     | nil =>
      simp only[List.length_nil] at hlen
      rw[lexLt_nil_nil]
      exact (decide_eq_false (by lia)).symm
     | cons c u hw =>
      simp only[List.length_nil,List.length_cons] at hlen
      rw[zef]
      exact (decide_eq_true (by lia)).symm
    | cons a t hv =>
     cases hwi with
     | nil =>
      simp only[List.length_nil,List.length_cons] at hlen
      rw[zeg]
      exact (decide_eq_false (by lia)).symm
     | cons c u hw =>
      rw[List.zip_cons_cons] at hz
      cases hz
   rw[hv] at hR
   wp_walk
   exact⟨_,rfl,by simpa[Builtin.Tuple.tupleCompareSizes] using hR⟩
  case h =>
   exact⟨rfl,rfl,items.toList,items2.toList,ns,ms,rfl,hi,hj,by lia,h⟩
end
section
variable {prog:Program}{w:World}{A:Around}{E:Value→Shared→Prop}{s:Shared}
theorem lt_tupInts {l b : Addr}{items items2 : Array Value}{ns ms : List Int}{Q : Value → Shared → Prop}(hl : IsTup s.heap l items) (hb : IsTup s.heap b items2) (hi : IntsAre items.toList ns) (hj : IntsAre items2.toList ms)
  (hu:A.units<cLine) (h:Q (.bool (lexLt ns ms)) s):wpAny (model prog w) A (compareOp .Lt (.ref l) (.ref b)) Q E s:=by
 obtain⟨⟨cls,dd,data,sl⟩,ho,hc,n,hd⟩:=id hl
 obtain⟨⟨cls2,dd2,data2,sl2⟩,ho2,hc2,n2,hd2⟩:=id hb
 simp only at hc hd hc2 hd2
 subst hc hd hc2 hd2
 exact richCompare_meets_room (op:=.Lt) ⟨_,ho,rfl⟩ ⟨_,ho2,rfl⟩ PySem.F.slot_tuple_lt PySem.F.entry_tuple_lt (PySem.F.args_tuple_lt_2 _ _) (zeH l b items items2 n n2 dd dd2 sl sl2 ns ms hi hj)
  ⟨ho,ho2,show Value.bool (lexLt ns ms)≠Value.notImplemented∧Q (.bool (lexLt ns ms)) s from ⟨(fun x=>nomatch x),h⟩⟩ hu
def sIx (n d:Nat):Option Int→Nat
 | none=>d
 | some v=>if v<0 then (v+(n:Int)).toNat else min v.toNat n
theorem zlF (n d:Nat) (hd:d≤n) (o:Option Int):sIx n d o≤n:=by
 cases o with
 | none=>exact hd
 | some v =>
  show (if v<0 then (v+(n:Int)).toNat else min v.toNat n)≤n
  by_cases hv:v<0
  ·rw[if_pos hv];lia
  ·rw[if_neg hv];exact Nat.min_le_right _ _
theorem zjr (v:Int) (n d:Nat):(if v<0 then max (v+(n:Int)) 0 else min v (n:Int))=((sIx n d (some v):Nat):Int):=by
 show (if v<0 then max (v+(n:Int)) 0 else min v (n:Int))=(((if v<0 then (v+(n:Int)).toNat else min v.toNat n):Nat):Int)
 by_cases hv:v<0
 ·simp only[if_pos hv];lia
 ·simp only[if_neg hv];lia
theorem zhX (lo hi:Option Int) (n:Nat):Builtin.Slice.sliceAdjust lo hi 1 (n:Int)=(((sIx n 0 lo:Nat):Int),((sIx n n hi:Nat):Int)):=by
 have h1:¬ ((1:Int)<0):=by lia
 unfold Builtin.Slice.sliceAdjust
 simp only[h1,if_false]
 refine Prod.ext ?_ ?_
 ·cases lo with
  | none=>rfl
  | some v=>exact zjr v n 0
 ·cases hi with
  | none=>rfl
  | some v=>exact zjr v n n
theorem zhE (i j:Nat):Builtin.Slice.slicePlaces (i:Int) (j:Int) 1=j - i:=by
 unfold Builtin.Slice.slicePlaces
 have h1:(1:Int) > 0:=by lia
 simp only[h1,if_true,Int.ediv_one]
 split <;> lia
theorem zev {v:Value}{o:Option Int}{Q:Option Int→Shared→Prop}(p:IsPart v o) (h:Q o s):wpAny (model prog w) A (Builtin.Slice.slicePartIndex v) Q E s:=by
 cases p with
 | none=>exact slicePart_none h
 | int i t=>exact slicePart_int h
theorem zcs {sl : Addr}{vl vu : Value}{lo hi : Option Int}{n : Nat}{Q : Int × Int × Nat → Shared → Prop}(hs : s.heap.IsSliceOf sl vl vu .none) (pl : IsPart vl lo) (pu : IsPart vu hi)
  (h:Q (((sIx n 0 lo:Nat):Int),1,sIx n n hi - sIx n 0 lo) s):wpAny (model prog w) A (Builtin.Slice.sliceApplied (.ref sl) (pure (n:Int))) Q E s:=by
 obtain⟨os,hos,hcs,hds⟩:=id hs
 unfold Builtin.Slice.sliceApplied Builtin.Slice.sliceFields
 refine wpAny_bind (wpAny_bind (wpAny_field hos hds (x:=vl) rfl (wpAny_bind (wpAny_field hos hds (x:=vu) rfl (wpAny_bind (wpAny_field hos hds (x:=.none) rfl (wpAny_pure ?_)))))))
 refine wpAny_bind (slicePart_none ?_)
 show wpAny _ _ (if ((1:Int) == 0)=true then _ else _) _ _ s
 rw[if_neg (by decide)]
 refine wpAny_bind (zev pl (wpAny_bind (zev pu (wpAny_bind (wpAny_pure ?_)))))
 show wpAny _ _ (match Builtin.Slice.sliceAdjust lo hi 1 (n:Int) with | (lo,hi)=>pure (lo,(1:Int),Builtin.Slice.slicePlaces lo hi 1)) _ _ s
 rw[zhX lo hi n]
 show wpAny _ _ (pure (((sIx n 0 lo:Nat):Int),(1:Int),Builtin.Slice.slicePlaces ((sIx n 0 lo:Nat):Int) ((sIx n n hi:Nat):Int) 1)) _ _ s
 rw[zhE]
 exact wpAny_pure h
theorem zjQ (xs:Array Value) (i k:Nat):((List.range k).filterMap fun (m:Nat)=>xs[((i:Int)+(m:Int)*1).toNat]?).toArray=((xs.toList.drop i).take k).toArray:=by
 have e:(fun (m:Nat)=>xs[((i:Int)+(m:Int)*1).toNat]?)=fun m=>xs[i+m]?:=by
  funext m
  have:((i:Int)+(m:Int)*1).toNat=i+m:=by lia
  rw[this]
 rw[e]
 have:=pick_run xs i k
 rw[List.filterMap_map] at this
 have e2:((fun x=>xs[x]?) ∘ fun x=>i+x)=fun m=>xs[i+m]?:=rfl
 rw[e2] at this
 rw[this]
theorem getItem_tuple_cut {t sl : Addr}{items : Array Value}{vl vu : Value}{lo hi : Option Int}{Q : Value → Shared → Prop}(ht : IsTup s.heap t items) (hs : s.heap.IsSliceOf sl vl vu .none) (pl : IsPart vl lo) (pu : IsPart vu hi)
  (hw:¬ (sIx items.size 0 lo=0∧sIx items.size items.size hi=items.size))
  (h:Q (.ref s.heap.objs.size) { s with heap:=s.heap.push { cls:=.type "tuple",data:=.seq ((items.toList.drop (sIx items.size 0 lo)).take (sIx items.size items.size hi - sIx items.size 0 lo)).toArray } })
  (hsz:items.size≤sizeLine):wpAny (model prog w) A (getItem (.ref t) (.ref sl)) Q E s:=by
 have htake:sizeOk (.seq ((items.toList.drop (sIx items.size 0 lo)).take (sIx items.size items.size hi - sIx items.size 0 lo)).toArray):=by
  show ((items.toList.drop (sIx items.size 0 lo)).take (sIx items.size items.size hi - sIx items.size 0 lo)).toArray.size≤sizeLine
  rw[List.size_toArray,List.length_take,List.length_drop,Array.length_toList]
  lia
 have hj:sIx items.size items.size hi≤items.size:=zlF _ _ (Nat.le_refl _) hi
 obtain⟨os,hos,hcs,hds⟩:=id hs
 have hTs:s.TypeIs (.ref sl) "slice":=⟨os,hos,hcs⟩
 unfold getItem
 try with_reducible refine wpAny_holding ?_
 first | refine wpAny_bind (wpAny_pure ?_) | skip
 refine wpAny_bind (wpAny_sequenceKey ht.typeIs (by decide) ?_)
 refine wpAny_bind (wpAny_callSpecial?_slot (name:=Str.ofString "__getitem__") ht.typeIs PyProof.Rows.slot_tuple_getitem
  (wpAny_call_entry PyProof.Rows.slot_tuple_getitem ht.typeIs entry_tuple_getitem ?_ (args_tuple_getitem _ _)))
 show wpAny _ _ (Builtin.Tuple.tupleItemsOf (.ref t) >>= _) _ _ s
 refine wpAny_bind (tupleItemsOf_ ht ?_)
 refine wpAny_bind (wpAny_typeOf hTs ?_)
 rw[if_pos (by decide)]
 refine wpAny_bind (zcs hs pl pu ?_)
 have hno:¬ ((((sIx items.size 0 lo:Nat):Int) == 0 && (1:Int) == 1 && (sIx items.size items.size hi - sIx items.size 0 lo) == items.size)=true):=by
  intro q
  rw[Bool.and_eq_true,Bool.and_eq_true] at q
  have q1:((sIx items.size 0 lo:Nat):Int)=0:=eq_of_beq q.1.1
  have q2:sIx items.size items.size hi - sIx items.size 0 lo=items.size:=eq_of_beq q.2
  exact hw ⟨by lia,by lia⟩
 show wpAny _ _ (if (((sIx items.size 0 lo:Nat):Int) == 0 && (1:Int) == 1 && (sIx items.size items.size hi - sIx items.size 0 lo) == items.size)=true then _ else _) _ _ s
 rw[if_neg hno,zjQ]
 first
  | exact wpAny_bind (m:=Builtin.Tuple.tupleExact _) (wpAny_newObj_type (wpAny_pure ⟨_,rfl,wpAny_pure h⟩) htake)
  | exact wpAny_bind (m:=Builtin.Tuple.tupleExact _) (wpAny_newObj_type (wpAny_bind (wpAny_pure (wpAny_pure ⟨_,rfl,wpAny_pure h⟩))) htake)
  | exact wpAny_bind (wpAny_bind (m:=Builtin.Tuple.tupleExact _) (wpAny_newObj_type (wpAny_pure (wpAny_pure ⟨_,rfl,wpAny_pure h⟩)) htake))
  | exact wpAny_bind (wpAny_bind (m:=Builtin.Tuple.tupleExact _) (wpAny_newObj_type (wpAny_pure ⟨_,rfl,wpAny_pure h⟩) htake))
end
end HT
namespace L2
open PySem PySem.Spec PyProof.Rows
abbrev TO:=St→Hp→(Option Int→Hp→Prop)→Prop
def PO (X:Cx) (e:Option Expr) (t:TO):Prop :=
 ∀ (pins:List (Addr×Obj)) (s:Shared) (σ:St) (H:Hp) (Q:Option Int→Hp→Prop),Inv X pins σ H s→t σ H Q →
  wpAny (model X.prog X.w) X.A (evalPart e X.env) (fun u s'=>∃ o H',Inv X pins σ H' s'∧IsPart u o∧Q o H') X.xe s
def zkM:TO:=fun _ H Q=>Q none H
def tPart (t:TE):TO:=fun σ H Q=>t σ H fun x H1=>∃ i,x=.int i∧Q (some i) H1
theorem zb0 {ns:List Int}:∀ {us:List Value},Vals (ns.map V.int) us→IntsAre us ns:=by
 induction ns with
 | nil=>intro us r;rw[List.map_nil] at r;cases r;exact .nil
 | cons n ns ih =>
  intro us r
  rw[List.map_cons] at r
  cases r with
  | cons r1 r2 =>
   obtain⟨t,e⟩:=r1
   subst e
   exact .cons n t (ih r2)
section
variable {X:Cx}{e:Expr}{te:TE}{lo hi:Option Expr}{tl th:TO}{pos p2:Pos}
theorem zgx:PO X none zkM:=by
 intro pins s σ H Q I h
 rw[evalPart_none]
 exact wpAny_pure ⟨none,H,I,.none,h⟩
theorem zgw (h:PE X e te):PO X (some e) (tPart te):=by
 intro pins s σ H Q I hw
 rw[evalPart_some]
 refine thn (h pins s σ H _ I hw) fun u s1 ⟨x,H1,I1,r1,q1⟩=>?_
 obtain⟨i,rfl,q⟩:=q1
 obtain⟨t,rfl⟩:=r1
 exact⟨some i,H1,I1,.int i t,q⟩
def SlR (X:Cx) (r:V→Option Int→Option Int→Hp→VK→Prop):Prop :=
 ∀ (pins:List (Addr×Obj)) (s:Shared) (σ:St) (H:Hp) (x:V) (v vl vu:Value) (lo hi:Option Int) (sl:Addr) (Q:VK),Inv X pins σ H s→RelV x v→s.heap.IsSliceOf sl vl vu .none→IsPart vl lo→IsPart vu hi→r x lo hi H Q →
  ∃ T id,typeLookup (.type T) "__getitem__" = pure (some (.builtin id))∧s.TypeIs v T∧wpAny (model X.prog X.w) X.A (getItem v (.ref sl)) (EP X pins σ Q) X.xe s
def tSl (r:V→Option Int→Option Int→Hp→VK→Prop) (te:TE) (tl th:TO):TE:=fun σ H Q=>te σ H fun x H1=>tl σ H1 fun l H2=>th σ H2 fun u H3=>r x l u H3 Q
theorem zeX {r:V→Option Int→Option Int→Hp→VK→Prop}(hr:SlR X r) (he:PE X e te) (hl:PO X lo tl) (hu:PO X hi th):PE X (.Subscript e (.Slice lo hi none p2) pos) (tSl r te tl th):=by
 intro pins s σ H Q I h
 refine Subscript_ (thn (he pins s σ H _ I h) fun v s1 ⟨x,H1,I1,r1,q1⟩=>?_)
 refine wpAny_Slice (thn (hl pins s1 σ H1 _ I1 q1) fun vl s2 ⟨l,H2,I2,pl,q2⟩=>thn (hu pins s2 σ H2 _ I2 q2) fun vu s3 ⟨u,H3,I3,pu,q3⟩=>?_)
 rw[evalPart_none]
 refine wpAny_pure ?_
 have I4:Inv X pins σ H3 { s3 with heap:=s3.heap.push { cls:=.type "slice",data:=.fields #[vl,vu,.none] } }:=I3.kept (t':=s3.toks) fun b ob q=>Heap.get?_push_of_some _ q
 obtain⟨T,id,hT,ht,hg⟩:=hr pins { s3 with heap:=s3.heap.push { cls:=.type "slice",data:=.fields #[vl,vu,.none] } } σ H3 x v vl vu l u s3.heap.objs.size Q I4 r1 (Heap.IsSliceOf.new ..) pl pu q3
 show wpAny (model X.prog X.w) X.A (subscriptTail e (.Slice lo hi none p2) v (.ref s3.heap.objs.size)) (EP X pins σ Q) X.xe { s3 with heap:=s3.heap.push { cls:=.type "slice",data:=.fields #[vl,vu,.none] } }
 exact tail_any (ops:=[.ref s3.heap.objs.size,v]) ht hT hg (by with_unfolding_all rfl)
def cutV (xs:List V) (lo hi:Option Int):List V:=(xs.drop (HT.sIx xs.length 0 lo)).take (HT.sIx xs.length xs.length hi - HT.sIx xs.length 0 lo)
theorem zd2 (xs:List V) (lo hi:Option Int):(cutV xs lo hi).length≤xs.length:=by
 unfold cutV
 rw[List.length_take,List.length_drop]
 lia
def rSlT (K:W.Frag):V→Option Int→Option Int→Hp→VK→Prop:=fun x lo hi H Q=>∃ a xs,x=.ref a∧SqT K H a xs ∧
 ¬ (HT.sIx xs.length 0 lo=0∧HT.sIx xs.length xs.length hi=xs.length)∧∀ p,H p=none→Q (.ref p) (upd H p (.tup (cutV xs lo hi)))
theorem zlD:SlR X (rSlT X.K):=by
 intro pins s σ H x v vl vu lo hi sl Q I rx hs pl pu h
 obtain⟨a,xs,rfl,hx,hw,q⟩:=h
 cases rx
 obtain⟨its,r,ht,hz⟩:=I.tuple hx
 have hlen:its.toArray.size=xs.length:=by rw[List.size_toArray];exact r.length.symm
 refine⟨"tuple",_,PyProof.Rows.slot_tuple_getitem.lookup,ht.typeIs,?_⟩
 refine HT.getItem_tuple_cut ht hs pl pu (by rw[hlen];exact hw) ?_ (by rw[hlen];exact hz)
 rw[hlen]
 refine⟨.ref s.heap.objs.size,_,I.laid (t':=s.toks) (o:=.tup (cutV xs lo hi)) (fun b ob q=>Heap.get?_push_of_some _ q) (Nat.le_refl _) ?_,rfl,q _ (I.hok.fresh (Nat.le_refl _))⟩
 exact⟨Nat.le_trans (zd2 xs lo hi) hz,_,(r.drop (HT.sIx xs.length 0 lo)).take (HT.sIx xs.length xs.length hi - HT.sIx xs.length 0 lo),IsTup.new _ _⟩
end
def ixN (n:Nat) (i:Int):Option Nat:=if 0≤i then (if i<n then some i.toNat else none) else if -(n:Int)≤i then some (i+n).toNat else none
def atI {α:Type}(xs:List α) (i:Int):Option α:=(ixN xs.length i).bind fun j=>xs[j]?
theorem zlg {n:Nat}{i:Int}{j:Nat}(h:ixN n i=some j):seqIndex? i n=some j∧j<n∧-(n:Int)≤i∧i<n:=by
 unfold ixN at h
 by_cases h0:0≤i
 ·rw[if_pos h0] at h
  by_cases h1:i<n
  ·rw[if_pos h1] at h
   have e:i.toNat=j:=Option.some.inj h
   exact⟨by rw[seqIndex_of h0 h1,e],by lia,by lia,h1⟩
  ·rw[if_neg h1] at h;cases h
 ·rw[if_neg h0] at h
  by_cases h1:-(n:Int)≤i
  ·rw[if_pos h1] at h
   have e:(i+n).toNat=j:=Option.some.inj h
   exact⟨by rw[seqIndex_neg (by lia) h1,e],by lia,h1,by lia⟩
  ·rw[if_neg h1] at h;cases h
theorem zju {α:Type}{xs:List α}{i:Int}{v:α}(h:atI xs i=some v):∃ j,seqIndex? i xs.length=some j∧xs[j]?=some v∧j<xs.length∧-(xs.length:Int)≤i∧i<xs.length:=by
 unfold atI at h
 cases e:ixN xs.length i with
 | none=>rw[e] at h;cases h
 | some j =>
  rw[e] at h
  obtain⟨h1,h2,h3,h4⟩:=zlg e
  exact⟨j,h1,h,h2,h3,h4⟩
theorem zbm {α:Type}{xs:List α}{j:Nat}{v:α}(h:xs[j]?=some v):atI xs (j:Int)=some v:=by
 have hj:j<xs.length:=(List.getElem?_eq_some_iff.mp h).1
 have e:ixN xs.length (j:Int)=some j:=by
  unfold ixN
  rw[if_pos (by lia),if_pos (by lia)];simp
 unfold atI;rw[e];exact h
def zlq (b:Expr):Prop:=∀ o i,subscripted b false o i=operate [o,i] (getItem o i)
def IxR (X:Cx) (r:R2):Prop :=
 ∀ (value slice:Expr) (pins:List (Addr×Obj)) (s:Shared) (σ:St) (H:Hp) (x y:V) (v u:Value) (Q:VK),Inv X pins σ H s→RelV x v→RelV y u→r x y H Q →
  subscripted slice false v u=operate [v,u] (getItem v u)→wpAny (model X.prog X.w) X.A (subscriptTail value slice v u) (EP X pins σ Q) X.xe s
def MtR (X:Cx) (id:String) (r:V→List V→Hp→VK→Prop):Prop :=
 ∀ (pins:List (Addr×Obj)) (s:Shared) (σ:St) (H:Hp) (x:V) (xs:List V) (v:Value) (us:List Value) (Q:VK),Inv X pins σ H s→RelV x v→Vals xs us→r x xs H Q →
  wpAny (model X.prog X.w) X.A (call (.builtin id) (v::us)) (EP X pins σ Q) X.xe s
section
variable {X:Cx}{a b:Expr}{ta tb:TE}{pos:Pos}
theorem pe_ix {r:R2}(hr:IxR X r) (ha:PE X a ta) (hb:PE X b tb) (hs:zlq b):PE X (.Subscript a b pos) (tOp r ta tb):=by
 intro pins s σ H Q I h
 exact Subscript_ (binT ha hb I h fun v u s2 x y H2 I2 rx ry q=>hr a b pins s2 σ H2 x y v u Q I2 rx ry q (hs _ _))
def rIxL (K:W.Frag):R2:=fun x y H Q=>∃ p xs i v,x=.ref p∧y=.int i∧SqL K H p xs∧atI xs i=some v∧Q v H
def rIxT (K:W.Frag):R2:=fun x y H Q=>∃ p xs i v,x=.ref p∧y=.int i∧SqT K H p xs∧atI xs i=some v∧Q v H
theorem zcp:IxR X (rIxL X.K):=by
 intro value slice pins s σ H x y v u Q I rx ry h hs
 obtain⟨p,xs,i,z,rfl,rfl,hq,he,q⟩:=h
 cases rx
 obtain⟨t,rfl⟩:=ry
 obtain⟨its,r,pl,hz⟩:=I.list hq
 obtain⟨j,h1,h2,h3,h4,h5⟩:=zju he
 obtain⟨w,ew,rw'⟩:=r.get h2
 have hl:=r.length
 have hn:=zhf
 have fin:EP X pins σ Q w s:=⟨z,H,I,rw',q⟩
 by_cases h0:0≤i
 ·have hj : i.toNat = j := by
   rw[seqIndex_of h0 h5] at h1
   exact Option.some.inj h1
  exact item_listR pl.isList h0 (by lia) (by rw[hj];simpa using ew) fin hs
 ·have hj : (i + (its.toArray.size : Int)).toNat = j := by
   rw[seqIndex_neg (by lia) h4] at h1
   rw[List.size_toArray,← hl]
   exact Option.some.inj h1
  exact subscriptTail_builtinR (x:=w) pl.isList.typeIs slot_list_getitem.lookup
   (wpAny_getItem_list_neg (Q:=fun r s'=>r=w∧EP X pins σ Q r s') pl.isList (by lia) (by rw[List.size_toArray] <;> lia) (by lia) (by rw[hj];simpa using ew) ⟨rfl,fin⟩) hs
theorem zc5:IxR X (rIxT X.K):=by
 intro value slice pins s σ H x y v u Q I rx ry h hs
 obtain⟨p,xs,i,z,rfl,rfl,hq,he,q⟩:=h
 cases rx
 obtain⟨t,rfl⟩:=ry
 obtain⟨its,r,pl,hz⟩:=I.tuple hq
 obtain⟨j,h1,h2,h3,h4,h5⟩:=zju he
 obtain⟨w,ew,rw'⟩:=r.get h2
 have hl:=r.length
 have hn:=zhf
 have fin:EP X pins σ Q w s:=⟨z,H,I,rw',q⟩
 exact subscriptTail_builtinR (x:=w) pl.typeIs slot_tuple_getitem.lookup
  (getItem_tuple (j:=j) (Q:=fun r s'=>r=w∧EP X pins σ Q r s') pl (by lia) (by lia) (by rw[List.size_toArray,← hl];exact h1) (by simpa using ew) ⟨rfl,fin⟩) hs
theorem zfC (lo hi:Option Int) (n:Nat):(sliceBounds lo hi none n).1=((HT.sIx n 0 lo:Nat):Int)∧(sliceBounds lo hi none n).2.1=((HT.sIx n n hi:Nat):Int)∧(sliceBounds lo hi none n).2.2=1:=by
 refine⟨?_,?_,rfl⟩
 ·cases lo with
  | none=>simp[sliceBounds,HT.sIx]
  | some i =>
   simp only[sliceBounds,HT.sIx,Option.getD_none,show (1:Int) > 0 by decide,if_true]
   by_cases h:i<0
   ·simp only[h,if_true] <;> lia
   ·simp only[h,if_false] <;> lia
 ·cases hi with
  | none=>simp[sliceBounds,HT.sIx]
  | some i =>
   simp only[sliceBounds,HT.sIx,Option.getD_none,show (1:Int) > 0 by decide,if_true]
   by_cases h:i<0
   ·simp only[h,if_true] <;> lia
   ·simp only[h,if_false] <;> lia
theorem zeO (its:List Value) (lo hi:Option Int):slicePick its.toArray lo hi none=((its.drop (HT.sIx its.length 0 lo)).take (HT.sIx its.length its.length hi - HT.sIx its.length 0 lo)).toArray:=by
 obtain⟨h1,h2,h3⟩:=zfC lo hi its.toArray.size
 unfold slicePick
 rw[h1,h2,h3]
 simp only[sliceRange_one,pick_run,List.size_toArray] <;> rfl
def rSlL (K:W.Frag):V→Option Int→Option Int→Hp→VK→Prop:=fun x lo hi H Q=>∃ a xs,x=.ref a∧SqL K H a xs∧∀ p,H p=none→Q (.ref p) (upd H p (.lst (cutV xs lo hi)))
theorem zim:SlR X (rSlL X.K):=by
 intro pins s σ H x v vl vu lo hi sl Q I rx hs pl pu h
 obtain⟨a,xs,rfl,hx,q⟩:=h
 cases rx
 obtain⟨its,r,ht,hz⟩:=I.list hx
 have hlen:=r.length
 refine⟨"list",_,slot_list_getitem.lookup,ht.isList.typeIs,?_⟩
 refine wpAny_getItem_list_slice ht.isList hs pl pu .none (by simp) ?_ (by rw[List.size_toArray] <;> lia)
 rw[zeO,← hlen]
 refine⟨.ref s.heap.objs.size,_,I.laid (t':=s.toks) (o:=.lst (cutV xs lo hi)) (fun b ob q=>Heap.get?_push_of_some _ q) (Nat.le_refl _) ?_,rfl,q _ (I.hok.fresh (Nat.le_refl _))⟩
 exact⟨Nat.le_trans (zd2 xs lo hi) hz,_,0,(r.drop (HT.sIx xs.length 0 lo)).take (HT.sIx xs.length xs.length hi - HT.sIx xs.length 0 lo),Heap.get?_push_size _ rfl⟩
theorem zaI:CallR X (.builtin "len") (fun xs H Q=>∃ p ys,xs=[.ref p]∧(SqL X.K H p ys∨SqT X.K H p ys)∧Q (.int ys.length) H):=by
 intro pins s σ H xs us Q I r h
 obtain⟨p,ys,rfl,hq,q⟩:=h
 obtain⟨u,rfl,rx⟩:=vals1 r
 cases rx
 have hn:=zhf
 rcases hq with hq | hq
 ·obtain⟨its,r',pl,hz⟩:=I.list hq
  have hlen:=r'.length
  exact Calls.call_len_list pl.isList (by simp only[List.size_toArray] <;> lia) ⟨.int ys.length,H,I.tok _,⟨s.toks+1,by rw[List.size_toArray,hlen]⟩,q⟩
 ·obtain⟨its,r',pl,hz⟩:=I.tuple hq
  have hlen:=r'.length
  exact len_tuple pl (by simp only[List.size_toArray] <;> lia) ⟨.int ys.length,H,I.tok _,⟨s.toks+1,by rw[List.size_toArray,hlen]⟩,q⟩
theorem zf5:CallR X (.type "list") (fun xs H Q=>∃ p ys,xs=[.ref p]∧(SqL X.K H p ys∨SqT X.K H p ys)∧∀ l,H l=none→Q (.ref l) (upd H l (.lst ys))):=by
  intro pins s σ H xs us Q I r h
  obtain⟨p,ys,rfl,hq,q⟩:=h
  obtain⟨u,rfl,rx⟩:=vals1 r
  cases rx
  have fin : ∀ (its : List Value), Vals ys its → ys.length ≤ sizeLine → ∀ (h' : Heap) (c' : Nat), (∀ b o', s.heap.get? b = some o' → h'.get? b = some o') →
      h'.get? s.heap.objs.size=some { cls:=.type "list",dict:=none,data:=.seq its.toArray c',slots:=#[] }→EP X pins σ Q (.ref s.heap.objs.size) { s with heap:=h' }:=fun its r' hz h' c' kp e =>
    ⟨.ref s.heap.objs.size,_,I.laid (t':=s.toks) kp (Nat.le_refl _) (show ObjOk X.prog X.w _ h' _ (.lst ys) from ⟨hz,its,c',r',e⟩),rfl,q _ (I.hok.fresh (Nat.le_refl _))⟩
  rcases hq with hq | hq
  · obtain⟨its,r',pl,hz⟩:=I.list hq
    have hlen:=r'.length
    obtain⟨o,ho,hc,n,hd⟩:=pl.isList
    exact call_list_seq p (.inl rfl) ho hc hd (fun h' c' kp e=>fin its r' hz h' c' kp e) (by simp only[List.size_toArray] <;> lia)
  · obtain⟨its,r',pl,hz⟩:=I.tuple hq
    have hlen:=r'.length
    obtain⟨o,ho,hc,n,hd⟩:=pl
    exact call_list_seq p (.inr rfl) ho hc hd (fun h' c' kp e=>fin its r' hz h' c' kp e) (by simp only[List.size_toArray] <;> lia)
theorem zfi:CallR X (.type "tuple") (fun xs H Q=>∃ p ys,xs=[.ref p]∧((SqL X.K H p ys∧∀ l,H l=none→Q (.ref l) (upd H l (.tup ys)))∨(SqT X.K H p ys∧Q (.ref p) H))):=by
 intro pins s σ H xs us Q I r h
 obtain⟨p,ys,rfl,h⟩:=h
 obtain⟨u,rfl,rx⟩:=vals1 r
 cases rx
 rcases h with⟨hq,q⟩ | ⟨hq,q⟩
 ·obtain⟨its,r',pl,hz⟩:=I.list hq
  have hlen:=r'.length
  refine call_tuple_list pl.isList (fun h' kp=>?_) (by simp only[List.size_toArray] <;> lia)
  have I1:Inv X pins σ H { s with heap:=h' }:=I.kept (t':=s.toks) kp
  have I2:Inv X pins σ (upd H h'.objs.size (.tup ys)) { s with heap:=h'.push { cls:=.type "tuple",data:=.seq its.toArray } } :=
   I1.laid (t':=s.toks) (fun b o e=>Heap.get?_push_of_some _ e) (Nat.le_refl _) (show ObjOk X.prog X.w _ _ _ (.tup ys) from ⟨hz,its,r',IsTup.new _ _⟩)
  exact⟨.ref h'.objs.size,_,I2,rfl,q _ (I1.hok.fresh (Nat.le_refl _))⟩
 ·obtain⟨its,r',pl,hz⟩:=I.tuple hq
  exact call_tuple_same pl ⟨.ref p,H,I,rfl,q⟩
def tyV (K:W.Frag) (T:String) (x:V) (H:Hp):Prop:=match x with
  | .str _=>T = "str"
  | .int _=>T = "int"
  | .ref p => (T = "list" ∧ ∃ xs, SqL K H p xs) ∨ (T = "tuple" ∧ ∃ o, K.lookup p = some o ∧ o.cls = .type "tuple" ∧ o.dict = none) ∨
      (T = "dict" ∧ ((∃ kvs,H p=some (.dK kvs))∨∃ kvs,H p=some (.dT kvs)))∨(T = "set" ∧ ∃ S n,H p=some (.set S n))
  | _=>False
theorem zkh {pins : List (Addr × Obj)}{σ : St}{H : Hp}{s : Shared}{T : String}{x : V}{v : Value}(I : Inv X pins σ H s) (r : RelV x v) (ty : tyV X.K T x H) :
  s.TypeIs v T∧∀ a,v=.ref a→∃ ob,s.heap.get? a=some ob∧ob.dict=none:=by
 cases x with
 | str z =>
  obtain⟨t,rfl⟩:=r
  cases (show T = "str" from ty)
  exact⟨typeIs_str s z t,fun _ e=>nomatch e⟩
 | int i =>
  obtain⟨t,rfl⟩:=r
  cases (show T = "int" from ty)
  exact⟨typeIs_int s i t,fun _ e=>nomatch e⟩
 | ref p =>
  cases r
  rcases ty with⟨rfl,xs,hq⟩ | ⟨rfl,o,hk,hc,hd⟩ | ⟨rfl,hk⟩ | ⟨rfl,S,n,hk⟩
  ·obtain⟨its,_,pl,_⟩:=I.list hq
   refine⟨pl.isList.typeIs,fun a e=>?_⟩
   cases e
   obtain⟨o,n,e,c,hd,_⟩:=pl
   exact⟨o,e,hd⟩
  ·refine⟨⟨o,I.kIn p o hk,hc⟩,fun a e=>?_⟩
   cases e
   exact⟨o,I.kIn _ o hk,hd⟩
  ·have z : ∃ o, s.heap.get? p = some o ∧ o.ExactDict := by
    rcases hk with⟨kvs,hk⟩ | ⟨kvs,hk⟩
    ·obtain⟨_,_,_,_,o,_,_,e,ex,_⟩:=I.hok p _ hk
     exact⟨o,e,ex⟩
    ·obtain⟨_,_,_,_,o,_,_,e,ex,_⟩:=I.hok p _ hk
     exact⟨o,e,ex⟩
   obtain⟨o,e,ex⟩:=z
   refine⟨⟨o,e,ex.1⟩,fun a e2=>?_⟩
   cases e2
   exact⟨o,e,ex.2.1⟩
  ·obtain⟨o,_,_,_,e,ex,_⟩:=I.hok p _ hk
   refine⟨⟨o,e,ex.1⟩,fun a e2=>?_⟩
   cases e2
   exact⟨o,e,ex.2.1⟩
 | _=>exact False.elim ty
def tBM0 (K:W.Frag) (T:String) (r:V→List V→Hp→VK→Prop) (to:TE):TE:=fun σ H Q=>to σ H fun x H1=>tyV K T x H1∧r x [] H1 Q
def tBM (K:W.Frag) (T:String) (r:V→List V→Hp→VK→Prop) (to:TE) (t:TA):TE:=fun σ H Q=>to σ H fun x H1=>tyV K T x H1∧t σ H1 fun xs H2=>r x xs H2 Q
variable {o e:Expr}{es:List Expr}{to:TE}{t:TA}{name:Str}{apos cpos:Pos}{T id:String}{r:V→List V→Hp→VK→Prop}
theorem zlO (pa : PlainAttrs T) (slot : Slot T name id) (hty : typeOf (.builtin id) = pure (.type "method_descriptor")) (hm : MtR X id r) (ho : PE X o to)
  (hbase:attributeBase o name X.env (eval o X.env)=eval o X.env:=by rfl) (hline:(apos.endLine == cpos.line)=true:=by rfl):PE X (.Call (.Attribute o name apos) [] [] cpos) (tBM0 X.K T r to):=by
 intro pins s σ H Q I h
 refine wpAny_Call_method0_late hbase hline (thn (ho pins s σ H _ I h) fun v s1 ⟨x,H1,I1,r1,ty,q1⟩=>?_)
 obtain⟨h1,h2⟩:=zkh I1 r1 ty
 exact⟨T,id,pa,slot,hty,h1,h2,Calls.callWith_builtin rfl (PySem.evalArgs_none (hm pins s1 σ H1 x [] v [] Q I1 r1 .nil q1))⟩
theorem pe_bm (pa : PlainAttrs T) (slot : Slot T name id) (hty : typeOf (.builtin id) = pure (.type "method_descriptor")) (hm : MtR X id r) (ho : PE X o to) (ha : PA X (e :: es) t)
  (hbase:attributeBase o name X.env (eval o X.env)=eval o X.env:=by rfl)
  (hfew:((backTo cpos (starEach (e::es) X.env)).all (fun x=>!x.1) && (backToKw cpos (keywordEach [] X.env)).all (fun x=>x.1.isSome)
   && decide ((e::es).length+([]:List Keyword).length+(if ([]:List Keyword).isEmpty then 0 else 1)<30))=true:=by rfl)
  (hline:(apos.endLine == cpos.line)=true:=by rfl) (hs:starEach (e::es) X.env=(false,eval e X.env)::starEach es X.env:=by rfl) (hplain:(backTo cpos (starEach es X.env)).any (·.1)=false:=by rfl) :
  PE X (.Call (.Attribute o name apos) (e::es) [] cpos) (tBM X.K T r to t):=by
 intro pins s σ H Q I h
 refine wpAny_Call_method_late hbase hfew hline rfl (thn (ho pins s σ H _ I h) fun v s1 ⟨x,H1,I1,r1,ty,q1⟩=>?_)
 obtain⟨h1,h2⟩:=zkh I1 r1 ty
 refine⟨T,id,pa,slot,hty,h1,h2,?_⟩
 have hA:=ha cpos pins s1 σ H1 _ I1 q1
 rw[hs] at hA ⊢
 refine Calls.callWith_builtin (by show (false || (backTo cpos (starEach es X.env)).any (·.1))=false;rw[hplain] <;> rfl) (Calls.evalArgs_plain ?_)
 exact thn hA fun us s2 ⟨vs,H2,I2,r2,q2⟩=>hm pins s2 σ H2 x vs v us Q I2 r1 r2 q2
/- xs.append(e),list.index on a module's tuple .. are MtR facts of 06m -/
end
def MtM (X:Cx) (id:String) (r:V→List V→Hp→VK→Prop):Prop :=
 ∀ (pins:List (Addr×Obj)) (s:Shared) (σ:St) (H:Hp) (x:V) (xs:List V) (v:Value) (us:List Value) (Q:VK),Inv X pins σ H s→RelV x v→Vals xs us→r x xs H Q →
  wpAny (model X.prog X.w) X.A (call (.builtin id) (v::us)) (EP X pins σ Q) X.xe s
theorem Vals.one:∀ {x:V}{us:List Value},Vals [x] us→∃ u,us=[u]∧RelV x u
 | _,_,.cons r .nil=>⟨_,rfl,r⟩
theorem Vals.zero:∀ {us:List Value},Vals [] us→us=[]
 | _,.nil=>rfl
theorem Vals.rep {xs:List V}{us:List Value}(h:Vals xs us):∀ k:Nat,Vals (List.replicate k xs).flatten (List.replicate k us).flatten
 | 0=>.nil
 | k+1=>by
  rw[List.replicate_succ,List.replicate_succ,List.flatten_cons,List.flatten_cons]
  exact Vals.append h (Vals.rep h k)
theorem zfV (its : List Value) : ∀ (k : Nat) (acc : List Value),
  List.foldl (fun x1 x2=>x1++x2) acc.toArray (List.replicate k its.toArray)=(acc++(List.replicate k its).flatten).toArray
 | 0,acc=>by simp
 | k+1,acc=>by
  have e:acc.toArray++its.toArray=(acc++its).toArray:=by simp
  have e2:(acc++its)++(List.replicate k its).flatten=acc++(List.replicate (k+1) its).flatten:=by
   rw[List.replicate_succ,List.flatten_cons,List.append_assoc]
  rw[← e2,← zfV its k (acc++its),← e,List.replicate_succ,List.foldl_cons]
section
variable {X:Cx}{pins:List (Addr×Obj)}{σ:St}{H:Hp}{s:Shared}{l b:Addr}{xs ys zs:List V}
theorem Inv.lset {its its' : List Value}{n : Nat}{f : Array Value → Array Value}{t' : Nat}(I : Inv X pins σ H s) (hH : H l = some (.lst xs))
  (e:s.heap.get? l=some { cls:=.type "list",data:=.seq its.toArray n }) (hf:f its.toArray=its'.toArray) (hv:Vals ys its') (hz:ys.length≤sizeLine) :
  Inv X pins σ (upd H l (.lst ys)) { s with heap:=s.heap.update l (Obj.mapSeq f),toks:=t' }:=by
 have q:=PySem.IsL.update e f
 rw[hf] at q
 refine I.write (x:=l) (e:=l) (by rw[hH];exact trivial) (.inl rfl) (fun b' u hb hu=>(Heap.get?_update_other s.heap (Obj.mapSeq f) (Ne.symm hb)).trans hu) ⟨_,q⟩ ?_
 exact⟨hz,its',_,hv,q⟩
theorem Inv.lnew {its : List Value}{t' : Nat}(I : Inv X pins σ H s) (hv : Vals ys its) (hz : ys.length ≤ sizeLine) :
  Inv X pins σ (upd H s.heap.objs.size (.lst ys)) { s with heap:=s.heap.push { cls:=.type "list",data:=.seq its.toArray },toks:=t' } :=
 I.laid (fun _ _ q=>Heap.get?_push_of_some _ q) (Nat.le_refl _) ⟨hz,its,0,hv,Heap.get?_push_size _ rfl⟩
theorem Inv.fresh (I:Inv X pins σ H s):H s.heap.objs.size=none:=I.hok.fresh (Nat.le_refl _)
theorem Inv.lstM (I:Inv X pins σ H s) (hH:H l=some (.lst xs)):xs.length≤sizeLine∧∃ (its:List Value) (n:Nat),Vals xs its∧xs.length=its.length∧s.heap.get? l=some { cls:=.type "list",data:=.seq its.toArray n }:=by
 obtain⟨z,its,n,r,e⟩:=I.hok l _ hH
 exact⟨z,its,n,r,r.length,e⟩
theorem zg9 {n:Nat}(h:n≤sizeLine):Builtin.List.listTooLong n=false:=by
 unfold Builtin.List.listTooLong
 exact decide_eq_false (by lia)
end
section
variable {X:Cx}
def zkY:V→List V→Hp→VK→Prop:=fun x vs H Q=>∃ l xs y,x=.ref l∧vs=[y]∧H l=some (.lst xs)∧xs.length<sizeLine∧Q .non (upd H l (.lst (xs++[y])))
theorem zbk:MtM X "list.append" zkY:=by
 intro pins s σ H x vs v us Q I rx rv h
 obtain⟨l,xs,y,rfl,rfl,hH,hz,q⟩:=h
 cases rx
 obtain⟨u,rfl,ru⟩:=rv.one
 obtain⟨z,its,n,r,hl,e⟩:=I.lstM hH
 refine call_meets F.slot_list_append ⟨_,e,rfl⟩ F.entry_list_append (F.args_list_append_2 _ _) (PySem.list_append l its.toArray n u (by rw[List.size_toArray];lia)) ⟨e,?_⟩
 refine⟨.non,_,I.lset (its':=its++[u]) hH e (by simp) (r.append (.cons ru .nil)) ?_,rfl,q⟩
 rw[List.length_append,List.length_singleton]
 lia
def zkX:V→List V→Hp→VK→Prop:=fun x vs H Q=>∃ l b xs zs,x=.ref l∧vs=[.ref b]∧H l=some (.lst xs)∧H b=some (.lst zs)∧xs.length+zs.length≤sizeLine∧Q .non (upd H l (.lst (xs++zs)))
theorem zdT:MtM X "list.extend" zkX:=by
 intro pins s σ H x vs v us Q I rx rv h
 obtain⟨l,b,xs,zs,rfl,rfl,hH,hB,hz,q⟩:=h
 cases rx
 obtain⟨u,rfl,ru⟩:=rv.one
 cases ru
 obtain⟨z,its,n,r,hl,e⟩:=I.lstM hH
 obtain⟨z2,its2,n2,r2,hl2,e2⟩:=I.lstM hB
 have hsz:its.toArray.size+its2.toArray.size≤sizeLine:=by rw[List.size_toArray,List.size_toArray];lia
 have hlong:¬ (!its.toArray.isEmpty && Builtin.List.listTooLong (its.toArray.size+its2.toArray.size))=true:=by
  rw[zg9 hsz,Bool.and_false]
  exact Bool.false_ne_true
 refine call_meets F.slot_list_extend ⟨_,e,rfl⟩ F.entry_list_extend (F.args_list_extend_2 _ _)
  (AutoSeq1.list_extend_list_list_0 l its.toArray n b its2.toArray n2 hlong (by rw[List.size_toArray];lia) (by lia)) ⟨e,e2,?_⟩
 refine⟨.non,_,I.lset (its':=its++its2) hH e (by simp) (r.append r2) ?_,rfl,q⟩
 rw[List.length_append]
 lia
def zlJ:V→List V→Hp→VK→Prop:=fun x vs H Q=>∃ l xs,x=.ref l∧vs=[]∧H l=some (.lst xs)∧Q .non (upd H l (.lst []))
theorem zjY:MtM X "list.clear" zlJ:=by
 intro pins s σ H x vs v us Q I rx rv h
 obtain⟨l,xs,rfl,rfl,hH,q⟩:=h
 cases rx
 have hus:=rv.zero
 subst hus
 obtain⟨z,its,n,r,hl,e⟩:=I.lstM hH
 refine call_meets F.slot_list_clear ⟨_,e,rfl⟩ F.entry_list_clear (F.args_list_clear_1 _) (AutoSeq1.list_clear_list_0 l its.toArray n (by rw[List.size_toArray];lia)) ⟨e,?_⟩
 exact⟨.non,_,I.lset (its':=[]) (ys:=[]) hH e rfl .nil (Nat.zero_le _),rfl,q⟩
def rCat:R2:=fun x y H Q=>∃ l b xs zs,x=.ref l∧y=.ref b∧H l=some (.lst xs)∧H b=some (.lst zs)∧xs.length+zs.length≤sizeLine∧∀ p,H p=none→Q (.ref p) (upd H p (.lst (xs++zs)))
theorem zky:OpR X (binaryOp .Add) rCat:=by
 intro pins s σ H x y v u Q I rx ry h
 obtain⟨l,b,xs,zs,rfl,rfl,hH,hB,hz,q⟩:=h
 cases rx
 cases ry
 obtain⟨z,its,n,r,hl,e⟩:=I.lstM hH
 obtain⟨z2,its2,n2,r2,hl2,e2⟩:=I.lstM hB
 refine PySem.P.add_list e e2 ?_ (by rw[List.size_toArray,List.size_toArray];lia)
 have ea:its.toArray++its2.toArray=(its++its2).toArray:=by simp
 rw[ea]
 exact⟨.ref _,_,I.lnew (t':=s.toks) (r.append r2) (by rw[List.length_append];lia),rfl,q _ I.fresh⟩
def rRep:R2:=fun x y H Q=>∃ l k xs,x=.ref l∧y=.int k∧H l=some (.lst xs)∧-(2 ^ 63)≤k∧k<2 ^ 63∧xs.length*k.toNat≤sizeLine ∧
 ∀ p,H p=none→Q (.ref p) (upd H p (.lst (List.replicate k.toNat xs).flatten))
theorem zlc {α:Type}(xs:List α) (k:Nat):(List.replicate k xs).flatten.length=k*xs.length:=by
 induction k with
 | zero=>simp
 | succ k ih=>rw[List.replicate_succ,List.flatten_cons,List.length_append,ih,Nat.succ_mul,Nat.add_comm]
theorem zkx:OpR X (binaryOp .Mult) rRep:=by
 intro pins s σ H x y v u Q I rx ry h
 obtain⟨l,k,xs,rfl,rfl,hH,h1,h2,hz,q⟩:=h
 cases rx
 obtain⟨t,rfl⟩:=ry
 obtain⟨z,its,n,r,hl,e⟩:=I.lstM hH
 have hlen:its.toArray.size*k.toNat≤sizeLine:=by rw[List.size_toArray,← hl];exact hz
 have hcap:¬ its.toArray.size*k.toNat > (2 ^ 63 - 1) / 8:=by
  have:(sizeLine:Nat)≤(2 ^ 63 - 1) / 8:=by decide
  lia
 have hfit:¬ (!Builtin.List.listFitsIndex k)=true:=by
  rw[fitsIndex_both h1 h2]
  exact Bool.false_ne_true
 have hlong:¬ Builtin.List.listTooLong (its.toArray.size*k.toNat)=true:=by
  rw[zg9 hlen]
  exact Bool.false_ne_true
 have hnew:List.foldl (fun x1 x2=>x1++x2) #[] (List.replicate (if its.toArray.isEmpty=true then 0 else k.toNat) its.toArray)=(List.replicate k.toNat its).flatten.toArray:=by
  have f0:∀ m:Nat,List.foldl (fun x1 x2=>x1++x2) #[] (List.replicate m its.toArray)=(List.replicate m its).flatten.toArray:=fun m=>by
   have:=zfV its m []
   rw[List.nil_append] at this
   exact this
  rw[f0]
  cases its with
  | nil=>simp
  | cons a r'=>rw[if_neg (by simp)]
 refine wpAny_binaryOp_repeat_ref (T:="list") (U:="int") (by decide) ⟨_,e,rfl⟩ (fun s'=>typeIs_int s' k t) noFill_list_mul F.fills_int_mul F.slot_int_rmul repeat_list F.slot_int_index.lookup
  (call_meets F.slot_int_rmul (typeIs_int s k t) F.entry_int_rmul (F.args_int_rmul_2 _ _) (int___rmul___int_list k t l its.toArray n)
   ⟨e,rfl,⟨_,e,rfl⟩,call_meets F.slot_list_mul ⟨_,e,rfl⟩ F.entry_list_mul (F.args_list_mul_2 _ _) (AutoListH.list___mul___list_int_3 l its.toArray n k t hfit hcap hlong) ⟨e,?_⟩⟩)
 rw[hnew]
 exact⟨.ref _,_,I.lnew (t':=s.toks) (r.rep k.toNat) (by rw[zlc,Nat.mul_comm];exact hz),rfl,q _ I.fresh⟩
end
section
variable {prog:Program}{w:World}{A:Around}{E:Value→Shared→Prop}{s:Shared}
set_option maxRecDepth 100000 in
end
section
variable {X:Cx}
end
end L2
namespace Att
open PySem PySem.W PySem.Calls PyProof.Rows
theorem zdU {P:Params}{h:Heap}:∀ (ns:List Int) (vs:List Value),WellAll P h vs (ns.map WData.int)→IntsAre vs ns:=by
 intro ns
 induction ns with
 | nil =>
  intro vs w
  rw[List.map_nil] at w
  cases w
  exact .nil
 | cons n ns ih =>
  intro vs w
  rw[List.map_cons] at w
  cases w with
  | cons a b =>
   cases a
   exact .cons _ _ (ih _ b)
theorem zin {l : OpenLaw}{n : Nat}(hn : l.most = some n){P : Params}{h : Heap}{args : List WData}{vals : List Value}
  (hpre:l.row.toRowW.claim.pre args=true) (hwl:WellAll P h vals args) :
  ∃ a vs ns,vals=[Value.ref a]∧args=[WData.list (ns.map WData.int)]∧h.get? a=some { cls:=.type "list",data:=.seq vs.toArray }∧IntsAre vs ns∧ns.length≤n:=by
 have hsh:WShape.hasAll [] args [.list .int]=true:=(pre_splitW hpre).1
 have hc:l.pre.holds [] { args:=args }=true:=(pre_splitW hpre).2
 obtain⟨d,r,rfl,h1,h2⟩:=hasAllW_cons hsh
 obtain rfl:=hasAllW_nil h2
 obtain⟨xs,rfl,h3⟩:=hasW_list h1
 obtain⟨ns,rfl⟩:=items_int h3
 have hlen:ns.length≤n:=by
  unfold OpenLaw.pre at hc
  have h4:(WTm.not (.lt (.lit (.int (n:Int))) (.len (.arg 0)))).holds [] { args:=[.list (ns.map .int)] }=true:=by
   have h4:=(holds_andW hc).1
   rw[hn] at h4
   exact h4
  have h5:=condW_of h4 (w_not (w_lt w_lit (w_len_list (w_arg rfl))))
  rw[List.length_map] at h5
  refine Nat.le_of_not_lt fun q=>?_
  have q':(n:Int)<((ns.length:Nat):Int):=by lia
  first
   | (rw[decide_eq_true q'] at h5;exact absurd h5 (by decide))
   | (simp at h5;lia)
 cases hwl with
 | cons w1 w2 =>
  cases w2
  cases w1 with
  | list ho hall=>exact⟨_,_,ns,rfl,rfl,ho,zdU ns _ hall,hlen⟩
theorem ziB (l:OpenLaw) (args:List WData):l.row.toRowW.claim.post args (.bool true) args=true :=
 postW_of (r:=l.row.toRowW) (X:=(true == true))
  (show WShape.has [] (.bool true) .bool=true by first | rfl | decide | simp[WShape.has,WShape.arms,WShape.armsAll])
  (show (WTm.eq .res (.lit (.bool true))).value [] { args:=args,res:=some (.bool true),after:=args }=some (.bool (true == true)) from w_eq_bool (w_res rfl) w_lit) rfl
theorem attach_call {l : OpenLaw}{n : Nat}{q : Program}{loose : List Str}{XP : (Str → Option Value) → Heap → Prop}{YP : World → Heap → Prop}{d : DefRec}
  (hn:l.most=some n) (hdf:d.params.defaults=[])
  (call:∀ (w:World) (s₀ s₁:Shared) (mg mb:Str→Option Value) (fa:Addr) (o:Obj) (pm cd doc:Value) (a:Addr) (vs:List Value) (ns:List Int),
   Ground q loose [] XP w s₀ mg mb s₁.heap→YP w s₁.heap →
   s₁.heap.get? fa=some o→o.data=.func (docDef d.name d.params d.body d.scope pm cd doc)→s₁.heap.CodeRec cd d.name→mg d.name=some (.ref fa) →
   s₁.heap.get? a=some { cls:=.type "list",data:=.seq vs.toArray }→IntsAre vs ns→ns.length≤n→s₁.gens=#[] →
   codeAny (model l.prog w) callerA (.call (.ref fa) ⟨[.ref a],[]⟩) (fun r s'=>r=.ok (.ret (.bool true))∧OldK s₁.heap s'.heap∧s'.os=s₁.os∧AllBare s'.gens) s₁) :
  WalkO q loose XP YP l.row.toRowW d [] (fun f vs=>PySem.call f vs):=by
 intro w s₀ s₁ mg mb G Y fa o pm cd doc dV kV ho hd hcd hD hmg hg args vals as hpre hlay hrd hwl hlo
 obtain rfl:dV=.none:=Dflts.none hD hdf
 obtain rfl:kV=.none:=Dflts.noKw hD
 obtain⟨a,vs,ns,rfl,rfl,hobj,hints,hlen⟩:=zin hn hpre hwl
 refine enter_call (codeAny_mono (call w s₀ s₁ mg mb fa o pm cd doc a vs ns G Y ho (fd_plain hd) hcd hmg hobj hints hlen hg) fun r s' hq=>?_)
 obtain⟨rfl,h2,h3,h4⟩:=hq
 exact⟨.inl ⟨.bool true,.bool true,[],rfl,fun _=>rfl,.bool true,ziB l _,fun _=>⟨List.Pairwise.nil,fun _ hm=>(nomatch hm)⟩⟩,h2,h3,h4⟩
section
variable {prog:Program}{w:World}{A:Around}{E:Value→Shared→Prop}{s:Shared}{K:Frag}
def zma (h:Heap) (L d:Addr):List (Addr×Obj):=(List.range h.objs.size).filterMap fun a=>if a=L∨a=d then none else (h.get? a).map fun o=>(a,o)
end
end Att
namespace L2
open PySem PySem.Spec PyProof.Rows
theorem zcW:∀ {vs:List Value}{ns:List Int},IntsAre vs ns→Vals (ns.map V.int) vs
 | _,_,.nil=>.nil
 | _,_,.cons n t h=>.cons ⟨t,rfl⟩ (zcW h)
def Only (H:Hp):Prop:=∀ b,H b=none∨∃ o xs,H b=some (.frz o (.lst xs))
theorem zjZ {P : Program}{w : World}{K : W.Frag}{mg mb : Str → Option Value}{CX : CXT}{k : Nat}{fa a : Addr}{fd : FuncData}{x : Str}{sp : Sp}{s₁ : Shared}{vs : List Value}{ns : List Int}
    (KX:K.In s₁.heap) (hns:s₁.heap.Ns mainGlobals mg) (hb:s₁.heap.Ns builtinsNs mb) (hbb:∀ x:Str,x ≠ "__name__" → mb x=bootBuiltins x) (hlim:s₁.heap.NoLimit) (hg:s₁.gens=#[])
    (ha:s₁.heap.get? a=some { cls:=.type "list",data:=.seq vs.toArray }) (hi:IntsAre vs ns) (hl:ns.length≤sizeLine) (hr:Room k callerA)
    (F:∀ base:Heap,K.In base→base.Ns mainGlobals mg→FnOk P w K mg base CX k fa fd [x] sp) (hbind:∀ (s:Shared) (u:Value),BindsTo s fd ⟨[u],[]⟩ [(x,u)])
    (hsp:∀ H:Hp,Only H→SqL K H a (ns.map V.int)→sp [.ref a] H (fun v _=>v=.bl true) fun _ _ _=>False)
    (hCX:∀ H e s',CX [] H s₁ (fun _ _ _=>False) e s'→False) :
    codeAny (model P w) callerA (.call (.ref fa) ⟨[.ref a],[]⟩) (fun r s'=>r=.ok (.ret (.bool true))∧OldK s₁.heap s'.heap∧s'.os=s₁.os∧AllBare s'.gens) s₁:=by
  have rv:=zcW hi
  have lenV:=hi.length
  have core : ∀ H : Hp, Only H → SqL K H a (ns.map V.int) → HOk P w H s₁.heap → (∀ b, H b ≠ none → b = a) → (H a ≠ none → K.lookup a = none) →
      codeAny (model P w) callerA (.call (.ref fa) ⟨[.ref a],[]⟩) (fun r s'=>r=.ok (.ret (.bool true))∧OldK s₁.heap s'.heap∧s'.os=s₁.os∧AllBare s'.gens) s₁:=by
    intro H hO hS hok hA hK
    have base_of:∀ {b:Addr} {o:Obj},s₁.heap.get? b=some o→H b=none→(hidT s₁.heap H).get? b=some o:=fun e n=>zj3 e n
    have noA:∀ {b:Addr} {o:Obj} {es:Array DictEntry} {ep:Nat},s₁.heap.get? b=some o→o.data=.dict es ep→H b=none:=fun {b o es ep} e d=>by
      cases q:H b with
      | none=>rfl
      | some u =>
        have e':b=a:=hA b (by rw[q];simp)
        subst e'
        rw[ha] at e;cases e
        have d':Data.seq vs.toArray _=Data.dict es ep:=d
        cases d'
    have nsK:∀ {b:Addr} {m:Str→Option Value},s₁.heap.Ns b m→(hidT s₁.heap H).Ns b m:=fun {b m} ⟨o,es,ep,e,d,r⟩=>⟨o,es,ep,base_of e (noA e d),d,r⟩
    have hKb:K.In (hidT s₁.heap H):=fun b o e=>base_of (KX b o e) (by
      cases q:H b with
      | none=>rfl
      | some u =>
        have e':b=a:=hA b (by rw[q];simp)
        subst e'
        rw[hK (by rw[q];simp)] at e;cases e)
    have hM:Mod K mg (hidT s₁.heap H):=⟨hKb,nsK hns,⟨mb,nsK hb,hbb⟩,let ⟨mc,h1,h2⟩:=hlim;⟨mc,nsK h1,h2⟩⟩
    have e0:Env0 P w K mg (hidT s₁.heap H) callerA [] s₁ H:=⟨rfl,hM,fun b o e=>zk5 e,Nat.le_of_eq (zi8 _ _),trivial,fun b hb=>absurd (show b∈([]:List Addr) from hb) (by simp),hok,.of_eq hg⟩
    refine codeAny_mono ((F _ hKb (nsK hns)).run callerA [] s₁ H ⟨[.ref a],[]⟩ [.ref a] [.ref a] _ _ hr e0 (hbind s₁ (.ref a)) (.cons rfl .nil) (hsp H hO hS)) fun r s' h=>?_
    cases r with
    | error e=>exact (hCX H e s' h).elim
    | ok fl =>
      cases fl with
      | next=>exact False.elim h
      | brk=>exact False.elim h
      | cont=>exact False.elim h
      | ret u =>
        obtain⟨v,H',os,bare,un,hok',r',q⟩:=h
        have q':v=.bl true:=q
        subst q'
        obtain rfl:u=Value.bool true:=r'
        refine⟨rfl,OldK.of_keep fun b o e=>?_,os,bare⟩
        cases q:H b with
        | none=>exact un.keep b o e q (by intro z;exact absurd (show b∈([]:List Addr) from z) (by simp)) (by simp)
        | some u =>
          rcases hO b with z | ⟨ob,xs,z⟩
          · rw[q] at z;cases z
          · have z2:=un.frzs b ob _ z
            obtain⟨e1,_⟩:=hok b _ z
            obtain⟨e2,_⟩:=hok' b _ z2
            rw[e] at e1;cases e1
            exact e2
  cases hk:K.lookup a with
  | some o =>
    have e:=KX a o hk
    rw[ha] at e
    cases e
    refine core (fun _=>none) (fun _=>.inl rfl) (.inr ⟨_,vs.toArray,_,hk,rfl,rfl,rfl,by rw[List.size_toArray,lenV];exact hl,by simpa using rv⟩) (fun b u z=>by have z':(none:Option HO)=some u:=z;cases z') (fun b z=>absurd rfl z) fun z=>absurd rfl z
  | none =>
    refine core (fun b=>if b=a then some (.frz { cls:=.type "list",data:=.seq vs.toArray } (.lst (ns.map V.int))) else none) (fun b=>?_) (.inl (.inr ⟨{ cls:=.type "list",data:=.seq vs.toArray },if_pos rfl⟩)) (fun b u z=>?_) (fun b z=>?_) fun _=>hk
    · by_cases hb:b=a
      · exact .inr ⟨_,_,if_pos hb⟩
      · exact .inl (if_neg hb)
    · by_cases hb:b=a
      · have z':=(if_pos hb).symm.trans z
        cases z'
        subst hb
        exact⟨ha,by rw[List.length_map];exact hl,vs,_,rv,ha⟩
      · have z':=(if_neg hb).symm.trans z
        cases z'
    · by_cases hb:b=a
      · exact hb
      · exact absurd (if_neg hb) z
abbrev KOf {K:W.Frag}{h:Heap}(_:K.In h):W.Frag:=K
theorem walk_of {l : W.OpenLaw}{n k : Nat}{q : Program}{loose : List Str}{XP : (Str → Option Value) → Heap → Prop}{YP : World → Heap → Prop}{d : DefRec}{K : Params → W.Frag}{CX : World → CXT}{sp : World → Sp}{x : Str}
  (hn:l.most=some n) (hn2:n≤sizeLine) (hdf:d.params.defaults=[]) (hr:Room k callerA)
  (hY:∀ (w:World) (h:Heap),YP w h→(K w.params).In h)
  (F:∀ (w:World) (mg:Str→Option Value) (fa:Addr) (h:Heap),(K w.params).In h→h.Ns mainGlobals mg→mg d.name=some (.ref fa) →
   ∃ fd:FuncData,(∀ (s:Shared) (u:Value),BindsTo s fd ⟨[u],[]⟩ [(x,u)]) ∧
    ∀ base:Heap,(K w.params).In base→base.Ns mainGlobals mg→FnOk l.prog w (K w.params) mg base (CX w) k fa fd [x] (sp w))
  (hsp:∀ (w:World) (H:Hp) (a:Addr) (ns:List Int),ns.length≤n→Only H→SqL (K w.params) H a (ns.map V.int)→sp w [.ref a] H (fun v _=>v=.bl true) fun _ _ _=>False)
  (hCX:∀ (w:World) (H:Hp) (s:Shared) (e:Value) (s':Shared),CX w [] H s (fun _ _ _=>False) e s'→False) :
  W.WalkO q loose XP YP l.row.toRowW d [] (fun f vs=>PySem.call f vs):=by
 refine Att.attach_call hn hdf fun w s₀ s₁ mg mb fa o pm cd doc a vs ns G Y ho hd hcd hmg hobj hints hlen hg=>?_
 have KX:=hY w _ Y
 obtain⟨fd,hb,hF⟩:=F w mg fa _ KX G.T.g hmg
 exact zjZ KX G.T.g G.T.b G.T.builtins G.T.nolimit hg hobj hints (Nat.le_trans hlen hn2) hr hF hb (fun H hO hS=>hsp w H a ns hlen hO hS) fun H e s'=>hCX w H s₁ e s'
end L2
/- THE LAST THEOREM (shape; LID, My.* are yours):
  My.Adr: a structure of the addresses that your layer names (classes,functions);My.Txt K t: a structure (Prop) of the equations over K;
  My.txt_mk:{K} {implicit addresses ..} (e1:nsIn K mainGlobals "law" = some (some (.ref f))) (e2:K.lookup f=some ⟨oc,od,.func (fnOf "law" "law" params body scope dV kV doc pm an cdv ct),sl⟩) (e3:codeIn K cdv "law" = true) ..:∃ t,My.Txt K t
set_option maxRecDepth 100000 in
set_option maxHeartbeats 0 in
theorem PySem.Challenge.cw_LID_holds : PySem.Challenge.rw_LID.Holds := by
 w_on;o_law;k_head;(case hw=>w_witness2)
 k_fill
 refine L2.walk_of (l:=PySem.Challenge.rw_LID) (n:=63) (k:=40) (x:="script") (CX:=fun w=>..) (sp:=fun _=>My.sp_law) rfl (by decide) rfl ⟨rfl,by decide,by decide⟩ (fun w h Y=>W.kIn_of Y) ?F ?S ?C
 case F =>
  intro w mg fa h KX G hmg
  have T:∃ t,My.Txt (L2.KOf KX) t:=by
   dsimp only[L2.KOf]                          -- K must stand as «<heap const> w.params» for k_is
   refine' My.txt_mk ?e1 ?e2 ?e3 ..
   (case e1=>W.k_is)                    -- in the order: a name -> its address -> its object -> its parts
   (case e2=>W.k_is)
   ..
  obtain⟨t,T⟩:=T
  have e0:=hmg.symm.trans (W.mg_of KX G T.law)
  cases e0                                       -- fa is the law's own address
  exact⟨_,fun s u=>.of_eq rfl,fun base kb nb=>My.law_fn T kb nb⟩     -- if «.of_eq rfl» comes too early: refine' ⟨_,?b,fun base kb nb=>My.law_fn T kb nb⟩;exact fun s u=>.of_eq rfl
 case S=>exact fun w H a ns hl hO hS=>..
 case C=>exact ..
(the tactic k_is has no namespace: write k_is) -/
namespace L2
open PySem PySem.Spec PyProof.Rows
def zan (s:Stmt):Arguments:=match s with
 | .FunctionDef _ a _ _ _ _ _ _ _ _=>a
 | _=>{ posonlyargs:=[],args:=[],vararg:=none,kwonlyargs:=[],kw_defaults:=[],kwarg:=none,defaults:=[] }
def zal (s:Stmt):List Stmt:=match s with
 | .FunctionDef _ _ b _ _ _ _ _ _ _=>b
 | _=>[]
def zab (s:Stmt):Scope:=match s with
 | .FunctionDef _ _ _ _ _ _ sc _ _ _=>sc
 | _=>{ kind:=.function,names:=[],isGenerator:=false,isCoroutine:=false }
abbrev CX0:CXT:=fun _ _ _ _ _ _=>False
abbrev E0:XK:=fun _ _ _=>False
theorem pass0 {X:Cx}:zjw CX0 X E0:=fun _ _ _ _ _ _ _ h=>h.elim
structure Fun (K:W.Frag) (x qual:Str) (st:Stmt) (f:Addr) (fd:FuncData):Prop where
 ex:∃ (oc:Value) (od:Option Addr) (kV doc pm:Value) (an:Option Addr) (cdv ct:Value) (osl:Array (Option Value)),
  fd=W.fnOf x qual (zan st) (zal st) (zab st) .none kV doc pm an cdv ct∧K.lookup f=some ⟨oc,od,.func fd,osl⟩∧W.codeIn K cdv qual=true
 kp:W.keepIn K (.ref f)=true
section
variable {P:Program}{w:World}{K:W.Frag}{mg:Str→Option Value}{base:Heap}
theorem Fun.ok {x qual : Str}{st : Stmt}{f : Addr}{fd : FuncData}{N ps : List Str}{k : Nat}{sp : Sp}(F : Fun K x qual st f fd) (S : FnScope N ps (zab st)) (len : ∀ vs H Q E, sp vs H Q E → vs.length = ps.length)
  (hbody:∀ (cdv:Value) (A:Around) (outer:List Env) (s:Shared) (H:Hp) (vs:List V) (Q:VK) (E:XK),Room k (A.deeper (envOfC qual (zab st) s.heap.objs.size f cdv))→sp vs H Q E →
   ∃ t,PSs (cxOf CX0 P w K mg base N qual (zab st) f cdv A outer s H E).nox (zal st) t∧t { nx:=fun _ H'=>Q .non H',rt:=Q } (start N vs) H):FnOk P w K mg base CX0 (k+1) f fd ps sp:=by
 obtain⟨oc,od,kV,doc,pm,an,cdv,ct,osl,rfl,lk,hcd⟩:=F.ex
 refine fn_of lk hcd S len fun A outer s H vs Q E hr hsp=>?_
 obtain⟨t,h,q⟩:=hbody cdv A outer s H vs Q E hr hsp
 exact⟨t,h.nox,q⟩
theorem Fun.binds {x qual : Str}{st : Stmt}{f : Addr}{fd : FuncData}{ps : List Str}(F : Fun K x qual st f fd)
  (h:∀ (kV doc pm:Value) (an:Option Addr) (cdv ct:Value) (us:List Value),us.length=ps.length→bindArgs (W.fnOf x qual (zan st) (zal st) (zab st) .none kV doc pm an cdv ct) ⟨us,[]⟩=pure (ps.zip us)):Binds K fd ps []:=by
 obtain⟨oc,od,kV,doc,pm,an,cdv,ct,osl,rfl,lk,hcd⟩:=F.ex
 exact .all (h kV doc pm an cdv ct)
theorem zax {x qual : Str}{st : Stmt}{f : Addr}{oc : Value}{od an : Option Addr}{osl : Array (Option Value)}{kV doc pm cdv ct : Value}(l : K.lookup f = some ⟨oc, od, .func (W.fnOf x qual (zan st) (zal st) (zab st) .none kV doc pm an cdv ct), osl⟩)
  (c:W.codeIn K cdv qual=true) (k:W.keepIn K (.ref f)=true):Fun K x qual st f (W.fnOf x qual (zan st) (zal st) (zab st) .none kV doc pm an cdv ct):=⟨⟨oc,od,kV,doc,pm,an,cdv,ct,osl,rfl,l,c⟩,k⟩
end
theorem hu_of {A:Around}{k:Nat}(hr:Room k A):A.units+1<cLine:=Nat.lt_of_le_of_lt (Nat.add_le_add_left (by decide:1≤64) _) hr.units
theorem zap {n:Nat}(h:n≤1000):n<sizeLine:=Nat.lt_of_le_of_lt h (by decide)
section
variable {X:Cx}
theorem pv (i : Nat){x : Str}{pos : Pos}(hN : X.N[i]? = some x := by rfl) (hv : Vis X.env.scope x := by first | exact Or.inl rfl | exact Or.inr (Or.inl rfl) | exact Or.inr (Or.inr rfl)) (hd : (x == ("__debug__" : Str)) = false := by decide)
  (hcd:(x == ("__classdict__" : Str))=false:=by decide):PE X (.Name x pos) (tVar i):=zlM hN hv hd hcd
end
theorem iteF {A B:Prop}(h:B):if false=true then A else B:=by
 rw[if_neg Bool.false_ne_true]
 exact h
theorem iteT {A B:Prop}(h:A):if true=true then A else B:=by
 rw[if_pos rfl]
 exact h
theorem ite2 {c A B:Prop} [Decidable c] (h1:c→A) (h2:¬ c→B):if c then A else B:=by
 by_cases h:c
 ·rw[if_pos h]
  exact h1 h
 ·rw[if_neg h]
  exact h2 h
def Same (H H':Hp):Prop:=∀ b o,H b=some o→H' b=some o
theorem Same.refl (H:Hp):Same H H:=fun _ _ h=>h
theorem Same.trans {H H1 H2:Hp}(a:Same H H1) (b:Same H1 H2):Same H H2:=fun c o h=>b c o (a c o h)
theorem Same.free {H H':Hp}(e:Same H H'){l:Addr}(h:H' l=Option.none):H l=Option.none:=by
 cases q:H l with
 | none=>rfl
 | some o =>
  rw[e l o q] at h
  cases h
theorem Same.seq {K:W.Frag}{H H':Hp}{a:Addr}{xs:List V}(e:Same H H') (h:SqL K H a xs):SqL K H' a xs:=by
 rcases h with (h | ⟨o,h⟩) | h
 ·exact .inl (.inl (e _ _ h))
 ·exact .inl (.inr ⟨o,e _ _ h⟩)
 ·exact .inr h
section
variable {κ:Type} [DecidableEq κ]
theorem zjI {kvs:List (κ×V)}{k:κ}(h:valV kvs k=none):¬ k∈kvs.map (·.1):=by
 intro m
 obtain⟨p,hp,e⟩:=List.mem_map.mp m
 have q:(kvs.any fun kv=>decide (kv.1=k))=true:=List.any_eq_true.mpr ⟨p,hp,decide_eq_true e⟩
 rw[zcB,h] at q
 exact absurd q (by simp)
theorem ziO:∀ {l:List κ}{k:κ},l.Nodup→¬ k∈l→(l++[k]).Nodup
 | [],k,_,_=>by simp
 | a::r,k,h,hk=>by
  obtain⟨h1,h2⟩:=List.nodup_cons.mp h
  show (a::(r++[k])).Nodup
  refine List.nodup_cons.mpr ⟨fun m=>?_,ziO h2 fun m=>hk (List.mem_cons.mpr (Or.inr m))⟩
  rcases List.mem_append.mp m with q | q
  ·exact h1 q
  ·exact hk (List.mem_cons.mpr (Or.inl (List.mem_singleton.mp q).symm))
theorem zk9 {kvs:List (κ×V)}{k:κ}(v:V) (hn:(kvs.map (·.1)).Nodup) (h:valV kvs k=none):((putK kvs k v).map (·.1)).Nodup:=by
 rw[zeW v h,List.map_append]
 exact ziO hn (zjI h)
end
end L2
set_option maxHeartbeats 4000000
namespace L2
open PySem PySem.Spec PyProof.Rows
def zcH (J:It) (g:TG) (tb:TS):TS:=fun D σ H=>∃ W:Nat→Nat→St→Hp→Prop,(∃ m,W 0 m σ H)∧∀ i m σ H,W i m σ H →
 (J.stop i H∧D.nx σ H)∨(J.go i H∧∃ N:St→Hp→Prop,(∀ σ' H',N σ' H'→∃ m',m'<m∧W (i+1) m' σ' H')∧∀ x H',J.yld i H x H'→g x σ H' fun σ2 H2=>tb { D with nx:=N,ct:=N,bk:=D.nx } σ2 H2)
def PTs (X:Cx) (ifs:List Expr) (t:TT):Prop :=
 ∀ (pins:List (Addr×Obj)) (s:Shared) (σ:St) (H:Hp) (Q:Bool→Hp→Prop),Inv X pins σ H s→t σ H Q →
  wpAny (model X.prog X.w) X.A (forIn ifs true fun c r=>if r=true then do let ok ← isTrue c X.env (eval c X.env);pure (ForInStep.yield ok) else pure (ForInStep.yield r)) (TP X pins σ Q) X.xe s
theorem zc9 {X:Cx}:PTs X [] (fun _ H Q=>Q true H):=fun pins s σ H Q I h=>wpAny_pure ⟨H,I,h⟩
theorem zcN {X:Cx}{c:Expr}{t:TT}(hc:PT X c t):PTs X [c] t:=fun pins s σ H Q I h=>wpAny_tests_one (hc pins s σ H Q I h)
def PB (X:Cx) (inner:Sem Unit) (t:TS):Prop :=
 ∀ (pins:List (Addr×Obj)) (s:Shared) (σ:St) (H:Hp) (D:Ends),Inv X pins σ H s→t D σ H→wpAny (model X.prog X.w) X.A inner (fun _ s'=>∃ σ' H',Inv X pins σ' H' s'∧D.nx σ' H') X.xe s
def tIfs (tt:TT) (tb:TS):TS:=fun D σ H=>tt σ H fun b H1=>if b=true then tb D σ H1 else D.nx σ H1
theorem zc6 {X : Cx}{e tg : Expr}{d : Nat}{ifs : List Expr}{p : Pos}{acc : Value}{inner : Sem Unit}{g : TG}{tt : TT}{tb : TS}{it : Addr}{fp : List Addr}{tn : Nat → Heap → Prop}{J : It}
  {pins:List (Addr×Obj)} {s:Shared} {σ:St} {H:Hp} {D:Ends} {R:Result→Shared→Prop}
  (hq:(Code.compLoop e d (.ref it) acc X.env).quiet=true)
  (hden:(model X.prog X.w).den (.compLoop e d (.ref it) acc X.env)=(compTurn e d (.ref it) acc X.env).onRaise (fun x=>do noteFrame x X.env;theTreesLotGoes x))
  (hT:compTurn e d (.ref it) acc X.env=(do
   standAt p
   match ← pyNext (.ref it) with
   | none=>pure (.done .next)
   | some v =>
    letOwnedTupleGo tg (.ref it) v
    assign tg X.env v
    let mut ok:=true
    for c in ifs do
     if ok then ok ← isTrue c X.env (eval c X.env)
    if ok then
     inner
    again (.compLoop e d (.ref it) acc X.env)))
  (hA:∀ (B:Around) {α:Type} {t:Sem α} {Q:α→Shared→Prop} {E:Value→Shared→Prop} {s:Shared},B=X.A.under (.compLoop e d (.ref it) acc X.env)→wpAny (model X.prog X.w) X.A t Q E s→wpAny (model X.prog X.w) B t Q E s)
  (hc:X.calm=true) (hx:X.xe=fun _ _=>False) (hg:PG X tg g) (ht:PTs X ifs tt) (hb:PB X inner tb)
  (I:Inv X pins σ H s) (T:Turn X.prog X.w X.K tg J fp it tn) (st:tn 0 s.heap) (f:∀ b∈fp,FpOk X pins H b) (W:zcH J g (tIfs tt tb) D σ H)
  (hR:∀ fl s',(∃ σ' H',Inv X pins σ' H' s'∧(∀ b∈fp,H' b=none)∧D.nx σ' H')→R (.ok fl) s') :
  codeAny (model X.prog X.w) X.A (.compLoop e d (.ref it) acc X.env) R s:=by
 obtain⟨W,⟨m0,w0⟩,turn⟩:=W
 have stat:∀ {H':Hp},(∀ b∈fp,H' b=none)→∀ b∈fp,FpOk X pins H' b:=fun hn b hb=>⟨hn b hb,(f b hb).2⟩
 refine codeAny_loop hq (fun n s'=>∃ i σ' H',Inv X pins σ' H' s'∧tn i s'.heap∧(∀ b∈fp,H' b=none)∧W i n σ' H') ?_ m0 ⟨0,σ,H,I,st,fun b hb=>(f b hb).1,w0⟩
 rintro n s3 ⟨i,σ3,H3,I3,st3,fr3,w3⟩
 refine hA _ rfl ?_
 rw[hden]
 refine wpAny_noted (wpAny_noRaise ?_)
 rw[hT]
 refine wpAny_bind (wpAny_standAt ?_)
 have nx:∀ {α:Type} {t:Sem α} {Q:α→Shared→Prop} {s:Shared},wpAny (model X.prog X.w) X.A t Q X.xe s→wpAny (model X.prog X.w) X.A t Q (fun _ _=>False) s:=fun {α t Q s} h=>by
  rw[hx] at h
  exact h
 rcases turn i n σ3 H3 w3 with⟨stop,qn⟩ | ⟨go,N,hN,step⟩
 ·refine wpAny_bind (thn (T.done X rfl rfl rfl hc i pins s3 σ3 H3 _ I3 (stat fr3) st3 stop) fun r s4 ⟨hr,I4⟩=>?_)
  subst hr
  exact wpAny_pure (hR _ _ ⟨σ3,H3,I4,fr3,qn⟩)
 ·refine wpAny_bind (thn (T.item X rfl rfl rfl hc i pins s3 σ3 H3 _ I3 (stat fr3) st3 go) fun r s4 ⟨u,hr,h4⟩=>?_)
  subst hr
  refine wpAny_bind (thn h4 fun _ s5 ⟨x,H5,I5,r5,y5,st5,fr5⟩=>?_)
  have I5':=I5.pinned (stat fr5) (T.obj _ _ st5)
  have again:∀ {σ7:St} {H7:Hp} {s7:Shared},Inv X (pins++zdi fp s5.heap) σ7 H7 s7→N σ7 H7→∃ m,m<n∧∃ i σ' H',Inv X pins σ' H' s7∧tn i s7.heap∧(∀ b∈fp,H' b=none)∧W i m σ' H':=fun {σ7 H7 s7} I7 n7=>by
   obtain⟨m',hm,w7⟩:=hN σ7 H7 n7
   refine⟨m',hm,i+1,σ7,H7,I7.unpinned,T.keep _ _ _ st5 fun b hb o e=>(I7.pin (b,o) (List.mem_append_right _ (List.mem_append_right _ (za8 hb e)))).1,fun b hb=>?_,w7⟩
   obtain⟨o,e,d⟩:=T.obj _ _ st5 b hb
   exact (I7.pin (b,o) (List.mem_append_right _ (List.mem_append_right _ (za8 hb e)))).2.1
  refine wpAny_bind (thn (nx (hg _ s5 σ3 H5 x u _ I5' r5 (step x H5 y5))) fun _ s6 ⟨σ6,H6,I6,q6⟩=>?_)
  refine wpAny_bind (thn (nx (ht _ s6 σ6 H6 _ I6 q6)) fun ok s7 ⟨H7,I7,q7⟩=>?_)
  cases ok with
  | false =>
   exact wpAny_pure ⟨rfl,again I7 q7⟩
  | true =>
   refine wpAny_bind (thn (nx (hb _ s7 σ6 H7 _ I7 q7)) fun _ s8 ⟨σ8,H8,I8,q8⟩=>?_)
   exact wpAny_pure ⟨rfl,again I8 q8⟩
abbrev blk (X:Cx) (sc:Scope) (cl:List (Str×Addr)) (C:Addr) (N':List Str) (s0:Shared) (H0:Hp) (ex:List Addr):Cx :=
 { X with N:=N',s₀:=s0,H₀:=H0,env:=compEnvC sc cl C X.env,outer:=X.stack,stack:=X.stack,ex:=ex,fn:=fun _=>false,pn:=[],xe:=fun _ _=>False }
structure BlkOk (osc:Scope) (N:List Str) (sc:Scope) (N':List Str) (sel:List (Option Nat)):Prop where
 kind:sc.kind=.function
 nocell:∀ y∈sc.names,y.2≠.cell
 names:∀ y∈sc.names,y.2=.local→sc.names.lookup y.1=some .local
 free:∀ y∈sc.names,y.2=.free→osc.names.lookup y.1=some .cell∨osc.names.lookup y.1=some .free
 len:sel.length=N'.length
 sel:∀ p∈sel.zip N',∀ i∈p.1,N[i]?=some p.2∧sc.names.lookup p.2=some .free
def selSt (sel:List (Option Nat)) (σ:St):St:=sel.map fun o=>o.bind fun i=>(σ[i]?).join
theorem zcS {env : Env} : ∀ (names : List (Str × NameKind)) (acc : List (Str × Addr)), (∀ y ∈ names, y.2 = .free → ∃ c, env.cells.lookup y.1 = some c) →
  ∃ cl,(forIn names acc fun (x:Str×NameKind) (r:List (Str×Addr))=>(if (x.2 == .free)=true then do let c ← cellOf env x.1;pure (ForInStep.yield ((x.1,c)::r)) else pure (ForInStep.yield r):Sem (ForInStep (List (Str×Addr)))))=pure cl ∧
   (∀ x c,cl.lookup x=some c→acc.lookup x=some c∨(env.cells.lookup x=some c∧(x,NameKind.free)∈names))∧(∀ y∈names,y.2=.free→∃ c,cl.lookup y.1=some c)∧(∀ x c,acc.lookup x=some c→∃ c',cl.lookup x=some c')
 | [],acc,_=>⟨acc,rfl,fun _ _ h=>.inl h,(fun _ h=>nomatch h),fun x c h=>⟨c,h⟩⟩
 | (n,k)::r,acc,h=>by
  by_cases hk:k=.free
  ·subst hk
   obtain⟨c,hc⟩:=h (n,.free) List.mem_cons_self rfl
   obtain⟨cl,e,h1,h2,h3⟩:=zcS r ((n,c)::acc) fun y hy=>h y (List.mem_cons_of_mem _ hy)
   refine⟨cl,?_,fun x c' hx=>?_,fun y hy hf=>?_,fun x c' hx=>?_⟩
   ·rw[List.forIn_cons]
    have e1:cellOf env n=pure c:=by unfold cellOf;rw[hc]
    simp only[beq_self_eq_true,if_true,e1,pure_bind]
    exact e
   ·rcases h1 x c' hx with q | ⟨q,m⟩
    ·by_cases hn:x=n
     ·subst hn
      rw[List.lookup_cons,beq_self_eq_true] at q
      cases q
      exact .inr ⟨hc,List.mem_cons_self⟩
     ·have hb:(x == n)=false:=by simpa using hn
      rw[List.lookup_cons,hb] at q
      exact .inl q
    ·exact .inr ⟨q,List.mem_cons_of_mem _ m⟩
   ·rcases List.mem_cons.mp hy with z | z
    ·subst z
     exact h3 n c (by rw[List.lookup_cons,beq_self_eq_true])
    ·exact h2 y z hf
   ·by_cases hn:x=n
    ·subst hn;exact h3 x c (by rw[List.lookup_cons,beq_self_eq_true])
    ·have hb:(x == n)=false:=by simpa using hn
     exact h3 x c' (by rw[List.lookup_cons,hb];exact hx)
  ·obtain⟨cl,e,h1,h2,h3⟩:=zcS r acc fun y hy=>h y (List.mem_cons_of_mem _ hy)
   refine⟨cl,?_,fun x c' hx=>?_,fun y hy hf=>?_,h3⟩
   ·rw[List.forIn_cons]
    have hb:(k == NameKind.free)=false:=by simpa using hk
    simp only[hb,Bool.false_eq_true,if_false,pure_bind]
    exact e
   ·rcases h1 x c' hx with q | ⟨q,m⟩
    ·exact .inl q
    ·exact .inr ⟨q,List.mem_cons_of_mem _ m⟩
   ·rcases List.mem_cons.mp hy with z | z
    ·subst z;exact absurd hf hk
    ·exact h2 y z hf
structure Clo (env:Env) (sc:Scope) (cl:List (Str×Addr)):Prop where
 run:closureFor sc env=pure cl
 old:∀ x c,cl.lookup x=some c→env.cells.lookup x=some c∧(x,NameKind.free)∈sc.names
 has:∀ y∈sc.names,y.2=.free→∃ c,cl.lookup y.1=some c
theorem zjq {X:Cx}{osc:Scope}{N:List Str}{sc:Scope}{N':List Str}{sel:List (Option Nat)}(ok:X.Ok) (B:BlkOk osc N sc N' sel) (ho:X.env.scope=osc):∃ cl,Clo X.env sc cl:=by
 have hc:∀ y∈sc.names,y.2=.free→∃ c,X.env.cells.lookup y.1=some c:=fun y hy hf=>ok.has y.1 (by
  show X.env.scope.names.lookup y.1=_∨X.env.scope.names.lookup y.1=_
  rw[ho];exact B.free y hy hf)
 obtain⟨cl,e,h1,h2,_⟩:=zcS (env:=X.env) sc.names [] hc
 refine⟨cl,?_,fun x c h=>?_,h2⟩
 ·unfold closureFor
  have e':=e
  show (do let r ← forIn sc.names [] _;pure r)=_
  simp only[bind_pure]
  exact e'
 ·rcases h1 x c h with q | q
  ·cases q
  ·exact q
theorem zcc {env : Env} : ∀ {names : List (Str × NameKind)}{x : Str}{k : NameKind}, (names.map fun (n, k) => if (k == NameKind.free && env.scope.kind == .function && env.kindOf n == some .cell) then (n, NameKind.cell) else (n, k)).lookup x = some k →
  ∃ k',(x,k')∈names∧(k=k'∨(k=.cell∧k'=.free))
 | [],x,k,h=>nomatch h
 | (n,j)::r,x,k,h=>by
  have ih:=@zcc env r x k
  have h:List.lookup x ((if (j == NameKind.free && env.scope.kind == .function && env.kindOf n == some .cell)=true then (n,NameKind.cell) else (n,j))::_)=some k:=h
  by_cases hx:x=n
  ·subst hx
   by_cases hc:(j == NameKind.free && env.scope.kind == .function && env.kindOf x == some .cell)=true
   ·rw[if_pos hc,List.lookup_cons,beq_self_eq_true] at h
    cases h
    refine⟨j,List.mem_cons_self,.inr ⟨rfl,?_⟩⟩
    simp only[Bool.and_eq_true,beq_iff_eq] at hc
    exact hc.1.1
   ·rw[if_neg hc,List.lookup_cons,beq_self_eq_true] at h
    cases h
    exact⟨j,List.mem_cons_self,.inl rfl⟩
  ·have hb:(x == n)=false:=by simpa using hx
   have h':List.lookup x (r.map fun (n,k)=>if (k == NameKind.free && env.scope.kind == .function && env.kindOf n == some .cell) then (n,NameKind.cell) else (n,k))=some k:=by
    by_cases hc:(j == NameKind.free && env.scope.kind == .function && env.kindOf n == some .cell)=true
    ·rw[if_pos hc,List.lookup_cons,hb] at h;exact h
    ·rw[if_neg hc,List.lookup_cons,hb] at h;exact h
   obtain⟨k',m,e⟩:=ih h'
   exact⟨k',List.mem_cons_of_mem _ m,e⟩
theorem zb8 {env : Env} : ∀ {names : List (Str × NameKind)}{x : Str}, names.lookup x = some .free →
  (names.map fun (n,k)=>if (k == NameKind.free && env.scope.kind == .function && env.kindOf n == some .cell) then (n,NameKind.cell) else (n,k)).lookup x=some .cell ∨
  (names.map fun (n,k)=>if (k == NameKind.free && env.scope.kind == .function && env.kindOf n == some .cell) then (n,NameKind.cell) else (n,k)).lookup x=some .free
 | [],x,h=>nomatch h
 | (n,j)::r,x,h=>by
  have ih:=@zb8 env r x
  rw[List.lookup_cons] at h
  show List.lookup x ((if (j == NameKind.free && env.scope.kind == .function && env.kindOf n == some .cell)=true then (n,NameKind.cell) else (n,j))::_)=_∨List.lookup x ((if (j == NameKind.free && env.scope.kind == .function && env.kindOf n == some .cell)=true then (n,NameKind.cell) else (n,j))::_)=_
  cases hx:x == n with
  | true =>
   rw[hx] at h
   cases h
   by_cases hc:(NameKind.free == NameKind.free && env.scope.kind == .function && env.kindOf n == some .cell)=true
   ·rw[if_pos hc,List.lookup_cons,hx];exact .inl rfl
   ·rw[if_neg hc,List.lookup_cons,hx];exact .inr rfl
  | false =>
   rw[hx] at h
   by_cases hc:(j == NameKind.free && env.scope.kind == .function && env.kindOf n == some .cell)=true
   ·rw[if_pos hc,List.lookup_cons,hx];exact ih h
   ·rw[if_neg hc,List.lookup_cons,hx];exact ih h
section
variable {X:Cx}{osc:Scope}{N:List Str}{sc:Scope}{N':List Str}{sel:List (Option Nat)}{cl:List (Str×Addr)}{pins:List (Addr×Obj)}{σ:St}{H:Hp}{s:Shared}{fp:List Addr}
theorem zlh {h' : Heap}{ob : Obj}{tk : Nat}(B : BlkOk osc N sc N' sel) (ho : X.env.scope = osc) (hN : X.N = N) (Cl : Clo X.env sc cl) (I : Inv X pins σ H s)
    (f:∀ b∈fp,FpOk X pins H b) (fo:∀ b∈fp,∃ o,s.heap.get? b=some o) (hns:h'.Ns s.heap.objs.size (fun _=>none)) (hsb:Heap.SameBut s.heap.objs.size (s.heap.push ob) h') :
    Inv (blk X sc cl s.heap.objs.size N' s H fp) [] (selSt sel σ) H { s with heap:=h',toks:=tk }:=by
  have old:∀ b o,s.heap.get? b=some o→h'.get? b=some o:=fun b o e=>(hsb.2 b (Nat.ne_of_lt (Heap.lt_size e))).trans (Heap.get?_push_of_some _ e)
  have bel:∀ b∈fp,b<s.heap.objs.size:=fun b hb=>by
    obtain⟨o,e⟩:=fo b hb
    exact Heap.lt_size e
  have kk:∀ x,(compEnvC sc cl s.heap.objs.size X.env).kindOf x=some .cell∨(compEnvC sc cl s.heap.objs.size X.env).kindOf x=some .free→(x,NameKind.free)∈sc.names:=fun x hx=>by
    rcases hx with hx | hx
    · obtain⟨k',m,e⟩:=zcc hx
      rcases e with e | ⟨_,e⟩
      · subst e;exact absurd rfl (B.nocell _ m)
      · subst e;exact m
    · obtain⟨k',m,e⟩:=zcc hx
      rcases e with e | ⟨e,_⟩
      · subst e;exact m
      · cases e
  refine⟨⟨I.mod, B.kind, I.ok.glob, I.ok.blt, Nat.le_refl _, fun x y c e1 e2 => I.ok.inj x y c (Cl.old x c e1).1 (Cl.old y c e2).1, fun x hx => Cl.has _ (kk x hx) rfl, fun x c z => absurd z (by intro q; cases q), I.ok.hd, I.ok.frames, .inl rfl,
      fun b hb=>⟨Nat.ne_of_lt (bel b hb),fun x c e=>(f b hb).2.2.2.2.1 x c (Cl.old x c e).1⟩,I.bs,Nat.le_trans I.ok.bsz I.sz,fun b o e hb=>?_,fun b hb hs=>?_,I.stack,I.stkFree⟩,
    rfl,I.bare,Un.kept old,⟨_,hns,fun j x v e1 e2 e3=>?_⟩,fun x c e=>?_,I.hok.fresh (Nat.le_refl _),fun x c e=>I.freeC x c (Cl.old x c e).1,fun p hp=>absurd (show p∈([]:List (Addr×Obj)) from hp) (by simp),I.hok.kept old,?_⟩
  · rcases (f b hb).2.2.2.1 with z | z
    · exact I.ok.noex b o e z
    · exact absurd (Nat.lt_of_lt_of_le (Heap.lt_size e) (Nat.le_trans I.ok.bsz z)) (Nat.lt_irrefl _)
  · obtain⟨_,f1,f2,_⟩:=f b hb
    rcases List.mem_cons.mp (I.stkSub b hs) with z | z
    · exact f1 z
    · exact f2 z
  · have e2' : ((sel[j]?).map fun o => o.bind fun i => (σ[i]?).join) = some (some v) := by
      have:=e2
      unfold selSt at this
      rw[List.getElem?_map] at this
      exact this
    cases hj:sel[j]? with
    | none=>rw[hj] at e2';cases e2'
    | some o =>
      rw[hj] at e2'
      cases o with
      | none=>cases e2'
      | some i =>
        have e4:(σ[i]?).join=some v:=Option.some.inj e2'
        have e5:σ[i]?=some (some v):=by
          cases q:σ[i]? with
          | none=>rw[q] at e4;cases e4
          | some z=>rw[q] at e4;exact congrArg some e4
        have hz:(some i,x)∈sel.zip N':=by
          refine List.mem_of_getElem? (i:=j) ?_
          rw[List.getElem?_zip_eq_some]
          exact⟨hj,e1⟩
        obtain⟨g1,g2⟩:=B.sel _ hz i rfl
        obtain⟨m,hn,hl⟩:=I.loc
        have m2:(x,NameKind.free)∈sc.names:=PySem.mem_of_lookup g2
        have k2:X.env.kindOf x=some .cell∨X.env.kindOf x=some .free:=by
          show X.env.scope.names.lookup x=_∨X.env.scope.names.lookup x=_
          rw[ho];exact B.free _ m2 rfl
        have v2:Vis X.env.scope x:=by
          rcases k2 with z | z
          · exact .inr (.inl z)
          · exact .inr (.inr z)
        obtain⟨u,r,l⟩:=hl i x v (by rw[hN];exact g1) e5 v2
        refine⟨u,r,?_⟩
        rcases l with⟨l,_⟩ | ⟨_,c,e6,hc⟩
        · rcases k2 with z | z <;> (rw[l] at z;cases z)
        · obtain⟨c',hc'⟩:=Cl.has _ m2 rfl
          have e7:=(Cl.old x c' hc').1
          rw[e6] at e7
          cases e7
          exact .inr ⟨zb8 g2,c,hc',hc.keeps old⟩
  · obtain⟨v,hc⟩:=I.cell x c (Cl.old x c e).1
    exact⟨v,hc.keeps old⟩
  · show (selSt sel σ).length=N'.length
    unfold selSt
    rw[List.length_map,B.len]
theorem zlm {C:Addr}{H':Hp}{σ':St}{s':Shared}(I:Inv X pins σ H s) (f:∀ b∈fp,FpOk X pins H b) (I':Inv (blk X sc cl C N' s H fp) [] σ' H' s'):Inv X pins σ H' s' :=
 I.call' (ch:=fp) I'.os I'.base I'.hok I'.bare fun b hb=>by
  obtain⟨_,f1,_,f3,f4,f5⟩:=f b hb
  exact⟨f3,f1,f4,f5⟩
end
section
variable {X:Cx}
def zcY (p:Addr) (te:TE):TS:=fun D σ H=>te σ H fun v H1=>∃ xs,H1 p=some (.lst xs)∧xs.length<sizeLine∧D.nx σ (upd H1 p (.lst (xs++[v])))
theorem ziJ {p:Addr}{elt:Expr}{te:TE}(he:PE X elt te):PB X (do let _ ← call (.builtin "list.append") [.ref p,← eval elt X.env]) (zcY p te):=by
 intro pins s σ H D I h
 refine wpAny_bind (thn (he pins s σ H _ I h) fun v s1 ⟨x,H1,I1,r1,xs,e1,hl,q⟩=>?_)
 refine wpAny_bind (thn (zbk pins s1 σ H1 (.ref p) [x] (.ref p) [v] (fun z H2=>D.nx σ H2) I1 rfl (.cons r1 .nil) ⟨p,xs,x,rfl,rfl,e1,hl,q⟩) fun u s2 ⟨z,H2,I2,_,q2⟩=>?_)
 exact wpAny_pure ⟨σ,H2,I2,q2⟩
def zgR (p:Addr) (tk tv:TE):TS:=fun D σ H=>tk σ H fun y H1=>tv σ H1 fun v H2=>∃ H3,DPut H2 p y v H3∧D.nx σ H3
theorem d_set {pins : List (Addr × Obj)}{σ : St}{H H' : Hp}{s : Shared}{a : Addr}{y v : V}{u r : Value}{A : Around}{E : Value → Shared → Prop}{Q : Unit → Shared → Prop}(hu : A.units + 1 < cLine) (I : Inv X pins σ H s) (g : DPut H a y v H') (ry : RelV y u) (rv : RelV v r) (h : ∀ s', Inv X pins σ H' s' → Q () s') :
  wpAny (model X.prog X.w) A (dictSet a u r) Q E s:=by
 rcases g with⟨kvs,k,e,ey,l,eH⟩ | ⟨kvs,k,b,e,ey,eb,l,eH⟩
 ·subst ey eH
  obtain⟨z,hd,vs,rel,dd⟩:=dk_of I.hok e
  have hz:vs.length≤sizeLine:=by rw[← rel.length];exact z
  have hl:(putK kvs k v).length≤sizeLine:=by have:=zaR kvs k v;lia
  refine wpAny_dictSet_pairs (hsz:=hz) (kV_is ry) dd fun h' dd' hs=>h _ ?_
  have he:∃ q,h'.get? a=some q:=let ⟨q,_,_,hq,_⟩:=dd';⟨q,hq⟩
  exact zdc I (by rw[e];exact True.intro) hs he (zjh hl hd (rel.put k rv) dd')
 ·subst ey eH
  cases (show u=Value.ref b from ry)
  obtain⟨z,hd,xs,rel,dd⟩:=dt_of I.hok e
  have hz:xs.length≤sizeLine:=by rw[← Paired.length rel];exact z
  have hl:(putK kvs k v).length≤sizeLine:=by have:=zaR kvs k v;lia
  have hr:(tupleKind (zaC X.prog X.w)).room A:=by
   show A.units<cLine
   lia
  refine wpAny_dictSet_heap (hsz:=hz) hr (zdl I.hok eb) dd fun h' dd' hs=>h _ ?_
  obtain⟨q,es,ep,hq,h2,h3,h4,_,h5⟩:=dd'
  refine zdc I (by rw[e];exact True.intro) hs ⟨q,hq⟩ ⟨hl,hd,_,(rel.put k eb rv).keeps fun c ys ec=>?_,q,es,ep,hq,h2,h3,h4,h5⟩
  rw[zaj (ne_of ec e (fun z=>nomatch z))]
  exact ec
theorem zk3 {p : Addr}{kx vx : Expr}{tk tv : TE}(hu : X.A.units + 1 < cLine) (hk : PE X kx tk) (hv : PE X vx tv) :
    PB X (do
        let kv ← eval kx X.env
        let vv ← holding [kv] (eval vx X.env)
        match Value.ref p with
        | .ref d=>do
          standAt { kx.pos with endLine:=vx.pos.endLine,endCol:=vx.pos.endCol }
          holding [kv,vv] (dictSet d kv vv)
        | _=>unsupported "internal:dictcomp") (zgR p tk tv):=by
  intro pins s σ H D I h
  refine wpAny_bind (thn (hk pins s σ H _ I h) fun kv s1 ⟨y,H1,I1,r1,q1⟩=>?_)
  refine wpAny_bind (wpAny_holding (thn (hv pins s1 σ H1 _ I1 q1) fun vv s2 ⟨v,H2,I2,r2,H3,g,q⟩=>?_))
  refine wpAny_bind (wpAny_standAt (wpAny_holding (d_set hu I2 g r1 r2 fun s3 I3=>⟨σ,H3,I3,q⟩)))
end
section
variable {X:Cx}{osc:Scope}{N:List Str}{sc:Scope}{N':List Str}{sel:List (Option Nat)}{pos:Pos}{elt kx vx tg iter:Expr}{ifs:List Expr}{wi:TI}{g:TG}{tt:TT}{te tk tv:TE}
def InBlk (X:Cx) (sc:Scope) (N':List Str) (P:Cx→Prop):Prop:=∀ cl C s0 H0 ex,P (blk X sc cl C N' s0 H0 ex)
theorem zd3 {e : Expr}{inner : Env → Addr → Sem Unit}{tb : Addr → TS}{use : Option (Value → Sem Unit)}{pins : List (Addr × Obj)}{s : Shared}{σ : St}{H : Hp}{J : It}{it : Addr}{fp : List Addr}{tn : Nat → Heap → Prop}{o0 : HO}{ob : Obj}
    {D:Addr→Ends} {Q:Value→Shared→Prop}
    (B:BlkOk osc N sc N' sel) (ho:X.env.scope=osc) (hN:X.N=N) (hc:X.calm=true)
    (hstart:∀ (acc:Value) (env:Env) (R:Result→Shared→Prop) (s:Shared),codeAny (model X.prog X.w) X.A (.compLoop e 0 (.ref it) acc env) R s→wpAny (model X.prog X.w) X.A (pyIter (.ref it)) (fun it' s'=>codeAny (model X.prog X.w) X.A (.compLoop e 0 it' acc env) R s') (notedBy (model X.prog X.w) X.A env fun x s'=>R (.error x) s') s→codeAny (model X.prog X.w) X.A (.compStart e 0 (.ref it) acc env) R s)
    (hloop:∀ cl C s0 H0 ex p pins s σ H Dn R,Inv (blk X sc cl C N' s0 H0 ex) pins σ H s→tn 0 s.heap→(∀ b∈fp,FpOk (blk X sc cl C N' s0 H0 ex) pins H b)→zcH J g (tIfs tt (tb p)) Dn σ H →
      (∀ fl s',(∃ σ' H',Inv (blk X sc cl C N' s0 H0 ex) pins σ' H' s'∧(∀ b∈fp,H' b=none)∧Dn.nx σ' H')→R (.ok fl) s')→codeAny (model X.prog X.w) X.A (.compLoop e 0 (.ref it) (.ref p) (compEnvC sc cl C X.env)) R s)
    (I:Inv X pins σ H s) (T:Turn X.prog X.w X.K tg J fp it tn) (st:tn 0 s.heap) (f:∀ b∈fp,FpOk X pins H b)
    (hnew:ObjOk X.prog X.w (upd H s.heap.objs.size o0) (s.heap.push ob) s.heap.objs.size o0) (hfree:ob.isFreed=false)
    (h:zcH J g (tIfs tt (tb s.heap.objs.size)) (D s.heap.objs.size) (selSt sel σ) (upd H s.heap.objs.size o0))
    (hend:∀ C H' s',Inv X pins σ H' s'→FpOk X pins H' C→(∃ m,s'.heap.Ns C m)→(∃ σ',(D s.heap.objs.size).nx σ' H')→compPost (model X.prog X.w) X.A X.xe use Q (.ref s.heap.objs.size) C (.ok .next) s') (tk:Nat)
    (cl:List (Str×Addr)) (Cl:Clo X.env sc cl) (E:Value→Shared→Prop) :
    wpAny (model X.prog X.w) X.A (newFunctionEnv sc X.env.globals cl [] X.env.qual none .none (some X.env)) (fun cenv s₄ =>
        codeAny (model X.prog X.w) X.A (.compStart e 0 (.ref it) (.ref s.heap.objs.size) { cenv with scope:=relabel sc X.env }) (compPost (model X.prog X.w) X.A X.xe use Q (.ref s.heap.objs.size) cenv.locals) s₄) E { s with heap:=s.heap.push ob,toks:=tk }:=by
  have grow:∀ b o,s.heap.get? b=some o→(s.heap.push ob).get? b=some o:=fun _ _ q=>Heap.get?_push_of_some _ q
  have I1:Inv X pins σ (upd H s.heap.objs.size o0) { s with heap:=s.heap.push ob,toks:=tk }:=I.laid grow (Nat.le_refl _) hnew
  have bel:∀ b∈fp,∃ o,s.heap.get? b=some o:=fun b hb=>let ⟨o,e,_⟩:=T.obj _ _ st b hb;⟨o,e⟩
  have f1:∀ b∈fp,FpOk X pins (upd H s.heap.objs.size o0) b:=fun b hb=>by
    obtain⟨o,e⟩:=bel b hb
    refine⟨?_,(f b hb).2⟩
    rw[zaj (Nat.ne_of_lt (Heap.lt_size e))]
    exact (f b hb).1
  refine wpAny_newFunctionEnv (s:={ s with heap:=s.heap.push ob,toks:=tk }) B.nocell (by intro x hx;cases hx) (fun h1 hns hsb=>?_) B.kind
  have I2:=zlh (tk:=tk) B ho hN Cl I1 f1 (fun b hb=>let ⟨o,e⟩:=bel b hb;⟨o,grow b o e⟩) hns hsb
  have old:∀ b o,s.heap.get? b=some o→h1.get? b=some o:=fun b o e=>(hsb.2 b (Nat.ne_of_lt (Heap.lt_size (grow b o e)))).trans (Heap.get?_push_of_some _ (grow b o e))
  have st1:tn 0 h1:=T.keep _ _ _ st fun b _ o e=>old b o e
  have f2:∀ b∈fp,FpOk (blk X sc cl (s.heap.push ob).objs.size N' { s with heap:=s.heap.push ob,toks:=tk } (upd H s.heap.objs.size o0) fp) [] (upd H s.heap.objs.size o0) b:=fun b hb=>by
    obtain⟨g0,g1,g2,g3,g4,g5⟩:=f1 b hb
    obtain⟨o,e⟩:=bel b hb
    refine⟨g0,Nat.ne_of_lt (Heap.lt_size (grow b o e)),fun z=>?_,.inl hb,fun x c e=>g4 x c (Cl.old x c e).1,fun p hp=>absurd (show p∈([]:List (Addr×Obj)) from hp) (by simp)⟩
    rcases List.mem_cons.mp (I1.stkSub b z) with q | q
    · exact g1 q
    · exact g2 q
  have loop:=hloop cl _ _ _ _ s.heap.objs.size [] _ _ _ (D s.heap.objs.size) (compPost (model X.prog X.w) X.A X.xe use Q (.ref s.heap.objs.size) (s.heap.push ob).objs.size) I2 st1 f2 h fun fl s' ⟨σ',H',I',fr',q'⟩=>by
    have I3:=zlm I1 f1 I'
    have hC:FpOk X pins H' (s.heap.push ob).objs.size:=I1.fpOk (Nat.le_refl _) I'.free
    obtain⟨m,hn,_⟩:=I'.loc
    have:=hend _ H' s' I3 hC ⟨m,hn⟩ ⟨σ',q'⟩
    cases use <;> exact this
  exact hstart _ _ _ _ loop (T.self _ 0 _ _ _ st1 loop)
end
section
variable {X:Cx}{osc:Scope}{N:List Str}{sc:Scope}{N':List Str}{sel:List (Option Nat)}{pos:Pos}{elt kx vx tg iter:Expr}{ifs:List Expr}{wi:TI}{g:TG}{tt:TT}{te tk tv:TE}
theorem zhQ {it : Addr}{fp : List Addr}{tn : Nat → Heap → Prop}{J : It}(T : Turn X.prog X.w X.K tg J fp it tn) (hc : X.calm = true) (hg : InBlk X sc N' fun Y => PG Y tg g) (ht : InBlk X sc N' fun Y => PTs Y ifs tt) (he : InBlk X sc N' fun Y => PE Y elt te) :
  ∀ cl C s0 H0 ex p pins s σ H Dn R,Inv (blk X sc cl C N' s0 H0 ex) pins σ H s→tn 0 s.heap→(∀ b∈fp,FpOk (blk X sc cl C N' s0 H0 ex) pins H b)→zcH J g (tIfs tt (zcY p te)) Dn σ H →
   (∀ fl s',(∃ σ' H',Inv (blk X sc cl C N' s0 H0 ex) pins σ' H' s'∧(∀ b∈fp,H' b=none)∧Dn.nx σ' H')→R (.ok fl) s')→codeAny (model X.prog X.w) X.A (.compLoop (.ListComp elt [⟨tg,iter,ifs,0⟩] sc pos) 0 (.ref it) (.ref p) (compEnvC sc cl C X.env)) R s :=
 fun cl C s0 H0 ex p pins s σ H Dn R I st f W hR =>
  zc6 (X:=blk X sc cl C N' s0 H0 ex) (p:=iter.pos) (inner:=do let _ ← call (.builtin "list.append") [.ref p,← eval elt (compEnvC sc cl C X.env)]) rfl rfl rfl (fun B {α t Q E s} h w=>by subst h;exact w) hc rfl (hg _ _ _ _ _) (ht _ _ _ _ _) (ziJ (he _ _ _ _ _)) I T st f W hR
def zlB (wi:TI) (sel:List (Option Nat)) (g:TG) (tt:TT) (te:TE):TE:=fun σ H Q=>wi σ H fun J H1=>∀ p,H1 p=none →
 zcH J g (tIfs tt (zcY p te)) { nx:=fun _ H'=>Q (.ref p) H',rt:=fun _ _=>False } (selSt sel σ) (upd H1 p (.lst []))
theorem Inv.let_go {pins:List (Addr×Obj)}{σ:St}{H:Hp}{s:Shared}{C:Addr}{h':Heap}(I:Inv X pins σ H s) (f:FpOk X pins H C) (hs:Heap.SameBut C s.heap h'):Inv X pins σ H { s with heap:=h' }:=by
 obtain⟨f0,f1,_,f3,f4,f5⟩:=f
 exact I.turned (t':=s.toks) (fun b o hb e=>(hs.2 b hb).trans e) f0 f1 f3 f4 f5
theorem ziU {P:Program}{w:World}{H:Hp}{h:Heap}:ObjOk P w (upd H h.objs.size (.lst [])) (h.push { cls:=.type "list",dict:=none,data:=.seq ([]:List Value).toArray }) h.objs.size (.lst []) :=
 ⟨Nat.zero_le _,[],_,.nil,Heap.get?_push_size _ rfl⟩
theorem zbT (B : BlkOk osc N sc N' sel) (hi : PI X tg iter wi) (hg : InBlk X sc N' fun Y => PG Y tg g) (ht : InBlk X sc N' fun Y => PTs Y ifs tt) (he : InBlk X sc N' fun Y => PE Y elt te)
  (ho:X.env.scope=osc:=by rfl) (hN:X.N=N:=by rfl) (hc:X.calm=true:=by rfl) (hs:∀ x,foldedSetIterable iter X.env x=pure x:=by intro _;rfl) :
  PE X (.ListComp elt [⟨tg,iter,ifs,0⟩] sc pos) (zlB wi sel g tt te):=by
 intro pins s σ H Q I h
 obtain⟨cl,Cl⟩:=zjq I.ok B ho
 rw[eval_ListComp]
 refine wpAny_comprehension_free (use:=none) rfl hs Cl.run B.kind B.names (thn (hi pins s σ H _ I h) fun v s1 h1=>thn h1 fun itv s2 h2=>?_)
 obtain⟨it,fp,tn,J,H2,e,I2,T,st2,f2,h2⟩:=h2
 subst e
 refine wpAny_newObj_type (zd3 (e:=.ListComp elt [⟨tg,iter,ifs,0⟩] sc pos) (inner:=fun _ _=>pure ()) (D:=fun p=>{ nx:=fun _ H'=>Q (.ref p) H',rt:=fun _ _=>False }) (tb:=fun p=>zcY p te) (use:=none) B ho hN hc (fun acc env R s a b=>codeAny_compStart_list a b)
  (zhQ (iter:=iter) (pos:=pos) T hc hg ht he) I2 T st2 f2 ziU rfl (h2 _ (I2.hok.fresh (Nat.le_refl _))) (fun C H' s' I3 fC hn hq=>?_) s2.toks cl Cl X.xe)
 obtain⟨m,hn⟩:=hn
 obtain⟨_,hq⟩:=hq
 exact⟨m,hn,fun h' hs'=>⟨.ref s2.heap.objs.size,H',I3.let_go fC hs',rfl,hq⟩⟩
theorem zhR {it : Addr}{fp : List Addr}{tn : Nat → Heap → Prop}{J : It}(hu : X.A.units + 1 < cLine) (T : Turn X.prog X.w X.K tg J fp it tn) (hc : X.calm = true) (hg : InBlk X sc N' fun Y => PG Y tg g) (ht : InBlk X sc N' fun Y => PTs Y ifs tt) (hk : InBlk X sc N' fun Y => PE Y kx tk) (hv : InBlk X sc N' fun Y => PE Y vx tv) :
  ∀ cl C s0 H0 ex p pins s σ H Dn R,Inv (blk X sc cl C N' s0 H0 ex) pins σ H s→tn 0 s.heap→(∀ b∈fp,FpOk (blk X sc cl C N' s0 H0 ex) pins H b)→zcH J g (tIfs tt (zgR p tk tv)) Dn σ H →
   (∀ fl s',(∃ σ' H',Inv (blk X sc cl C N' s0 H0 ex) pins σ' H' s'∧(∀ b∈fp,H' b=none)∧Dn.nx σ' H')→R (.ok fl) s')→codeAny (model X.prog X.w) X.A (.compLoop (.DictComp kx vx [⟨tg,iter,ifs,0⟩] sc pos) 0 (.ref it) (.ref p) (compEnvC sc cl C X.env)) R s :=
 fun cl C s0 H0 ex p pins s σ H Dn R I st f W hR =>
  zc6 (X:=blk X sc cl C N' s0 H0 ex) (p:=iter.pos) rfl rfl rfl (fun B {α t Q E s} h w=>by subst h;exact w) hc rfl (hg _ _ _ _ _) (ht _ _ _ _ _) (zk3 (X:=blk X sc cl C N' s0 H0 ex) hu (hk _ _ _ _ _) (hv _ _ _ _ _)) I T st f W hR
def zlC (wi:TI) (sel:List (Option Nat)) (g:TG) (tt:TT) (tk tv:TE):TE:=fun σ H Q=>wi σ H fun J H1=>∀ p,H1 p=none →
 zcH J g (tIfs tt (zgR p tk tv)) { nx:=fun _ H'=>Q (.ref p) H',rt:=fun _ _=>False } (selSt sel σ) (upd H1 p (.dT []))
theorem zjV (hu : X.A.units + 1 < cLine) (B : BlkOk osc N sc N' sel) (hi : PI X tg iter wi) (hg : InBlk X sc N' fun Y => PG Y tg g) (ht : InBlk X sc N' fun Y => PTs Y ifs tt) (hk : InBlk X sc N' fun Y => PE Y kx tk) (hv : InBlk X sc N' fun Y => PE Y vx tv)
  (ho:X.env.scope=osc:=by rfl) (hN:X.N=N:=by rfl) (hc:X.calm=true:=by rfl) (hs:∀ x,foldedSetIterable iter X.env x=pure x:=by intro _;rfl) :
  PE X (.DictComp kx vx [⟨tg,iter,ifs,0⟩] sc pos) (zlC wi sel g tt tk tv):=by
 intro pins s σ H Q I h
 obtain⟨cl,Cl⟩:=zjq I.ok B ho
 show wpAny _ X.A (comprehension (.DictComp kx vx [⟨tg,iter,ifs,0⟩] sc pos) sc X.env _ newDict false (eval iter X.env)) _ _ s
 refine wpAny_comprehension_free (use:=none) rfl hs Cl.run B.kind B.names (thn (hi pins s σ H _ I h) fun v s1 h1=>thn h1 fun itv s2 h2=>?_)
 obtain⟨it,fp,tn,J,H2,e,I2,T,st2,f2,h2⟩:=h2
 subst e
 refine wpAny_newObj_type (zd3 (e:=.DictComp kx vx [⟨tg,iter,ifs,0⟩] sc pos) (inner:=fun _ _=>pure ()) (D:=fun p=>{ nx:=fun _ H'=>Q (.ref p) H',rt:=fun _ _=>False }) (tb:=fun p=>zgR p tk tv) (use:=none) B ho hN hc (fun acc env R s a b=>codeAny_compStart_dict a b)
  (zhR (iter:=iter) (pos:=pos) hu T hc hg ht hk hv) I2 T st2 f2 (zhp s2.heap I2.big) rfl (h2 _ (I2.hok.fresh (Nat.le_refl _))) (fun C H' s' I3 fC hn hq=>?_) s2.toks cl Cl X.xe)
 obtain⟨m,hn⟩:=hn
 obtain⟨_,hq⟩:=hq
 exact⟨m,hn,fun h' hs'=>⟨.ref s2.heap.objs.size,H',I3.let_go fC hs',rfl,hq⟩⟩
end
mutual
inductive RD (K:W.Frag) (H:Hp):V→PyData→Prop where
 | non:RD K H .non .none
 | bl (b:Bool):RD K H (.bl b) (.bool b)
 | int (i:Int):RD K H (.int i) (.int i)
 | str (x:Str):RD K H (.str x) (.str x)
 | lst {a:Addr} {xs:List V} {ds:List PyData}:SqL K H a xs→RDs K H xs ds→RD K H (.ref a) (.list ds)
 | tup {a:Addr} {xs:List V} {ds:List PyData}:SqT K H a xs→RDs K H xs ds→RD K H (.ref a) (.tuple ds)
inductive RDs (K:W.Frag) (H:Hp):List V→List PyData→Prop where
 | nil:RDs K H [] []
 | cons {x:V} {xs:List V} {d:PyData} {ds:List PyData}:RD K H x d→RDs K H xs ds→RDs K H (x::xs) (d::ds)
end
section
variable {X:Cx}{pins:List (Addr×Obj)}{σ:St}{H:Hp}{s:Shared}
mutual
theorem Inv.reads (I:Inv X pins σ H s):∀ {v:V}{d:PyData}{u:Value},RD X.K H v d→RelV v u→∃ as,Reads s.heap u d as
 | _,_,_,.non,r=>by cases (show _=Value.none from r);exact⟨_,.none⟩
 | _,_,_,.bl b,r=>by cases (show _=Value.bool b from r);exact⟨_,.bool b⟩
 | _,_,_,.int i,r=>by obtain⟨t,rfl⟩:=r;exact⟨_,.int i t⟩
 | _,_,_,.str x,r=>by obtain⟨t,rfl⟩:=r;exact⟨_,.str x t⟩
 | _,_,_,.lst (a:=a) hq hs,r=>by
  cases (show _=Value.ref a from r)
  obtain⟨its,rv,p,hz⟩:=I.list hq
  obtain⟨as,ra⟩:=I.readsAll hs rv
  obtain⟨o,ho,hc,n,hd⟩:=p.isList
  exact⟨_,.list ho hc hd (by simpa using ra)⟩
 | _,_,_,.tup (a:=a) hq hs,r=>by
  cases (show _=Value.ref a from r)
  obtain⟨its,rv,p,hz⟩:=I.tuple hq
  obtain⟨as,ra⟩:=I.readsAll hs rv
  obtain⟨o,ho,hc,n,hd⟩:=p
  exact⟨_,.tuple ho hc hd (by simpa using ra)⟩
theorem Inv.readsAll (I:Inv X pins σ H s):∀ {vs:List V}{ds:List PyData}{us:List Value},RDs X.K H vs ds→Vals vs us→∃ as,ReadsAll s.heap us ds as
 | _,_,_,.nil,r=>by cases r;exact⟨_,.nil⟩
 | _,_,_,.cons h t,.cons r rr=>by
  obtain⟨as,h1⟩:=I.reads h r
  obtain⟨bs,h2⟩:=I.readsAll t rr
  exact⟨_,.cons h1 h2⟩
end
end
theorem RDs.ints {K:W.Frag}{H:Hp}:∀ (ns:List Int),RDs K H (ns.map V.int) (ns.map PyData.int)
 | []=>.nil
 | n::r=>.cons (.int n) (RDs.ints r)
mutual
theorem RD.mono {K:W.Frag}{H H':Hp}(hl:∀ a xs,SqL K H a xs→SqL K H' a xs) (ht:∀ a xs,SqT K H a xs→SqT K H' a xs):∀ {v:V}{d:PyData},RD K H v d→RD K H' v d
 | _,_,.non=>.non
 | _,_,.bl b=>.bl b
 | _,_,.int i=>.int i
 | _,_,.str x=>.str x
 | _,_,.lst h t=>.lst (hl _ _ h) (RDs.mono hl ht t)
 | _,_,.tup h t=>.tup (ht _ _ h) (RDs.mono hl ht t)
theorem RDs.mono {K:W.Frag}{H H':Hp}(hl:∀ a xs,SqL K H a xs→SqL K H' a xs) (ht:∀ a xs,SqT K H a xs→SqT K H' a xs):∀ {v:List V}{d:List PyData},RDs K H v d→RDs K H' v d
 | _,_,.nil=>.nil
 | _,_,.cons h t=>.cons (RD.mono hl ht h) (RDs.mono hl ht t)
end
def rEqD (K:W.Frag):R2:=fun x y H Q=>∃ d e,RD K H x d∧RD K H y e∧SeqAt.shaped d=true∧SeqAt.shaped e=true∧Q (.bl (PyData.eqv d e)) H
def rNeD (K:W.Frag):R2:=fun x y H Q=>∃ d e,RD K H x d∧RD K H y e∧SeqAt.shaped d=true∧SeqAt.shaped e=true∧Q (.bl (!PyData.eqv d e)) H
section
variable {X:Cx}
theorem zg8 (hu:X.A.units+64<cLine):OpR X (compareOp .Eq) (rEqD X.K):=by
 intro pins s σ H x y v u Q I rx ry h
 obtain⟨d,e,hd,he,sd,se,q⟩:=h
 obtain⟨as,ra⟩:=I.reads hd rx
 obtain⟨bs,rb⟩:=I.reads he ry
 exact SeqAt.compareEq_shaped ra rb sd se hu ⟨.bl _,H,I,rfl,q⟩
theorem zex (hu:X.A.units+64<cLine):OpR X (compareOp .NotEq) (rNeD X.K):=by
 intro pins s σ H x y v u Q I rx ry h
 obtain⟨d,e,hd,he,sd,se,q⟩:=h
 obtain⟨as,ra⟩:=I.reads hd rx
 obtain⟨bs,rb⟩:=I.reads he ry
 exact SeqAt.compareNe_shaped ra rb sd se hu ⟨.bl _,H,I,rfl,q⟩
theorem zf4 {ds:List PyData}(h:∀ e∈ds,SeqAt.shaped e=true):PyData.canLayAll0 ds=true:=by
 induction ds with
 | nil=>rfl
 | cons d r ih=>rw[PyData.canLayAll0,SeqAt.canLay_of_shaped (h d List.mem_cons_self),ih fun e he=>h e (List.mem_cons_of_mem _ he)];rfl
theorem zdY:∀ ns ms:List Int,PyData.eqvAll (ns.map PyData.int) (ms.map PyData.int)=decide (ns=ms)
 | [],[]=>rfl
 | [],_::_=>rfl
 | _::_,[]=>rfl
 | n::r,m::t=>by
  show (n == m && PyData.eqvAll (r.map PyData.int) (t.map PyData.int))=_
  rw[zdY r t]
  by_cases e:n=m
  ·subst e;by_cases e2:r=t <;> simp[e2]
  ·simp[e]
theorem zcq:∀ ns:List Int,PyData.depthAll (ns.map PyData.int)=0
 | []=>rfl
 | n::r=>by show max 0 (PyData.depthAll (r.map PyData.int))=0;rw[zcq r];rfl
theorem zcJ:∀ ns:List Int,PyData.canLayAll0 (ns.map PyData.int)=true
 | []=>rfl
 | n::r=>by show (true && PyData.canLayAll0 (r.map PyData.int))=true;rw[zcJ r];rfl
def tI (ns:List Int):PyData:=.tuple (ns.map .int)
theorem zdX (ns ms:List Int):PyData.eqv (tI ns) (tI ms)=decide (ns=ms):=zdY ns ms
theorem zbn (ns:List Int):SeqAt.shaped (tI ns)=true:=by
 unfold SeqAt.shaped tI
 rw[PyData.canLay0,zcJ,PyData.depth,zcq];rfl
end
section
variable {prog:Program}{w:World}{A:Around}{E:Value→Shared→Prop}{s:Shared}
theorem zf0 {it t : Addr}{items : Array Value}(hne : t ≠ it) : ∀ (n i : Nat) (s : Shared) (Q : List Value → Shared → Prop), s.heap.IsListIter it t i → s.heap.IsList t items → i + n ≤ items.size →
  (∀ h',h'.IsListIter it t (i+n)→Heap.SameBut it s.heap h'→Q ((items.toList.drop i).take n) { s with heap:=h' })→wpAny (model prog w) A (draw (.ref it) n) Q E s
 | 0,i,s,Q,hit,_,_,hQ=>by
  show wpAny _ _ (pure []) Q E s
  exact wpAny_pure (by simpa using hQ s.heap hit (Heap.SameBut.refl ..))
 | n+1,i,s,Q,hit,ht,hle,hQ=>by
  have hlt:i<items.size:=by lia
  show wpAny _ _ (pyNext (.ref it) >>= _) Q E s
  refine wpAny_bind (wpAny_pyNext_list_item hit ht (x:=items[i]) (by simp[hlt]) fun h₁ hit₁ hs₁=>?_)
  refine wpAny_bind (wpAny_holding (zf0 hne n (i+1) _ _ hit₁ (ht.extBut hs₁.extBut hne) (by lia) fun h₂ hit₂ hs₂=>wpAny_pure ?_))
  have hd:items.toList.drop i=items[i]::items.toList.drop (i+1):=by simp[List.drop_eq_getElem_cons,hlt]
  have:=hQ h₂ (by rw[show i+(n+1)=i+1+n by lia];exact hit₂) (hs₁.trans hs₂)
  rw[hd,List.take_succ_cons] at this
  exact this
theorem zdq {t : Addr}{items : Array Value}{Q : List Value → Shared → Prop}(hh : A.handled = none) (ht : s.heap.IsList t items)
  (hQ:∀ h',Heap.ExtBut s.heap.objs.size s.heap h'→Q items.toList { s with heap:=h' }):wpAny (model prog w) A (unpackItems (.ref t) items.size none) Q E s:=by
 have hlt:t≠s.heap.objs.size:=by obtain⟨o,ho,_⟩:=ht;exact Nat.ne_of_lt (Heap.lt_size ho)
 unfold unpackItems
 refine wpAny_bind ?_
 ·unfold notIterableAtAll
  refine wpAny_bind (wpAny_specialOf ht.typeIs PySem.F.slot_list_iter.lookup ?_)
  refine wpAny_pure ?_
  simp only[Bool.false_eq_true,if_false]
  refine wpAny_bind (wpAny_holding (wpAny_pyIter_list ht ?_))
  refine wpAny_bind (wpAny_holding (zf0 hlt items.size 0 _ _ ⟨_,Heap.get?_push_size _ rfl,rfl,rfl⟩ (ht.push _) (by lia) fun h₁ hit₁ hs₁=>?_))
  have hall:List.take items.size (List.drop 0 items.toList)=items.toList:=by
   rw[List.drop_zero];exact List.take_of_length_le (by simp)
  rw[hall]
  rw[if_neg (by simp)]
  have ht₁:h₁.IsList t items:=(ht.push _).extBut hs₁.extBut hlt
  refine wpAny_bind (wpAny_holding (wpAny_pyNext_list_end hh hit₁ ht₁ (by simp) fun h₂ he₂=>?_))
  simp only[Option.isSome_none,Bool.false_eq_true,if_false]
  refine wpAny_pure (hQ h₂ fun b o hb e=>he₂ b o hb (hs₁.extBut b o hb (Heap.get?_push_of_some _ e)))
theorem zdd {env : Env}{elts : List Expr} {x1}{pos : Pos}{t : Addr}{items : Array Value}{Q : Unit → Shared → Prop}(hh : A.handled = none) (ht : s.heap.IsList t items)
  (hn:(assignEach elts env).length=items.size) (hstar:(assignEach elts env).findIdx? (·.1)=none)
  (h:∀ h',Heap.ExtBut s.heap.objs.size s.heap h'→wpAny (model prog w) A (assignInOrder ((assignEach elts env).map (·.2)) items.toList) Q E { s with heap:=h' }) :
  wpAny (model prog w) A (assign (.Tuple elts x1 pos) env (.ref t)) Q E s:=by
 rw[assign_Tuple]
 refine wpAny_bind (wpAny_standAt ?_)
 unfold unpack
 rw[hn,hstar]
 exact wpAny_bind (wpAny_holding (zdq hh ht h))
end
section
variable {X:Cx}{pos:Pos}
def gLst (K:W.Frag) (n:Nat) (t:TGs):TG:=fun v σ H Q=>∃ a xs,v=.ref a∧SqL K H a xs∧xs.length=n∧t xs σ H Q
theorem zlL {es : List Expr}{k : Nat}{t : TGs}{n : Nat}(hc : X.calm = true) (h : PGs X es t)
  (hn:(assignEach es X.env).length=n:=by rfl) (hst:(assignEach es X.env).findIdx? (·.1)=none:=by rfl):PG X (.Tuple es k pos) (gLst X.K n t):=by
 intro pins s σ H v u Q I r hw
 obtain⟨a,xs,e1,hq,hl,hw⟩:=hw
 subst e1
 cases r
 obtain⟨its,rv,ht,hz⟩:=I.list hq
 refine zdd (I.ok.hd hc) ht.isList (by simp[hn,← hl,rv.length]) hst fun h' hx=>?_
 have I1:Inv X pins σ H { s with heap:=h' }:=I.kept (t':=s.toks) fun b o e=>hx b o (Nat.ne_of_lt (Heap.lt_size e)) e
 exact h pins _ σ H xs _ Q I1 (by simpa using rv) hw
def CDivB (i j:Int):Prop:=0<j∧j.natAbs.log2<9000
theorem zjW:OpR X (binaryOp .FloorDiv) (rI CDivB fun i j=>.int (i / j)):=opI fun i j _ _ _ _ _ hc q=>by
 have e:i.fdiv j=i / j:=Int.fdiv_eq_ediv_of_nonneg i (Int.le_of_lt hc.1)
 rw[← e] at q
 exact floordiv_int (by have:=hc.1;lia) q (.inl (PyProof.noPylong_of_log2 hc.2))
end
section
variable {X:Cx}
theorem zka:CallR X (.builtin "isinstance") (fun xs H Q=>∃ x T t b,xs=[x,.ty T]∧TyOf X.K H x t∧W.kitOne X.K t (.type T)=some b∧Q (.bl b) H):=by
 intro pins s σ H xs us Q I r h
 obtain⟨x,T,t,b,rfl,ty,e,q⟩:=h
 obtain⟨u,w',rfl,ru,rw'⟩:=vals2 r
 cases (show w'=Value.type T from rw')
 exact zi4 I ru ty e fun tk=>⟨.bl b,H,I.tok tk,rfl,q⟩
theorem zj0 (K:W.Frag) (T:String):W.kitOne K (.type T) (.type T)=some true:=by
 unfold W.kitOne;rw[if_pos (by simp)]
end
end L2
namespace HT
open PySem PyProof.Rows
def lexLe:List Int→List Int→Bool
 | [],[]=>true
 | [],_::_=>true
 | _::_,[]=>false
 | x::xs,y::ys=>if x=y then lexLe xs ys else decide (x≤y)
theorem zey (x y:Int) (xs ys:List Int):lexLe (x::xs) (y::ys)=if x=y then lexLe xs ys else decide (x≤y):=rfl
theorem zfb:lexLe [] []=true:=rfl
theorem zeh (y:Int) (ys:List Int):lexLe [] (y::ys)=true:=rfl
theorem zei (x:Int) (xs:List Int):lexLe (x::xs) []=false:=rfl
theorem zjN (A : Around) (s : Shared) (a : Int) (t : Tok) (c : Int) (u : Tok) (prog : Program) (w : World) (E : Value → Shared → Prop) (Q : Value → Shared → Prop) (h : Q (.bool (decide (a ≤ c))) s) :
  wpAny (model prog w) A (richCompare .LtE (.int a t) (.int c u)) Q E s :=
 (PyProof.Rows.le_int h:wpAny (model prog w) A (compareOp .LtE (.int a t) (.int c u)) Q E s)
section
open PySem.SeqAt
open PySem.AutoSeq1 (wpAny_loadPart')
open PySem.MeetsSeq PySem.MeetsSeq2 PySem.MeetsSeq3
theorem zeI (l b : Addr) (items items2 : Array Value) (n n2 : Nat) (dd dd2 : Option Addr) (sl sl2 : Array (Option Value)) (ns ms : List Int) (hi : IntsAre items.toList ns) (hj : IntsAre items2.toList ms) :
  Meets (Builtin.«tuple.__le__» ⟨[.ref l,.ref b],[]⟩)
   (fun _ R s=>s.heap.get? l=some { cls:=.type "tuple",dict:=dd,data:=.seq items n,slots:=sl }∧s.heap.get? b=some { cls:=.type "tuple",dict:=dd2,data:=.seq items2 n2,slots:=sl2 } ∧
    R (.ok (.ret (.bool (lexLe ns ms)))) s) :=
 .of_wp fun prog w A R s h=>by
  obtain⟨hp,g,d,tk,os⟩:=s;obtain⟨hl,hb,h⟩:=h
  have f2:=AutoSeq1.sub_tuple_tuple
  have z1:items.size=ns.length:=by rw[← hi.length];simp
  have z2:items2.size=ms.length:=by rw[← hj.length];simp
  wp_walk using wpAny_loadPart' hl,wpAny_loadPart' hb,wpAny_forIn_list _ (fun rest b s'=>b.1=none∧s'=⟨hp,g,d,tk,os⟩∧∃ (vs ws:List Value) (ns' ms':List Int),rest=vs.zip ws ∧
   IntsAre vs ns'∧IntsAre ws ms'∧ns'.length+items2.size=ms'.length+items.size∧R (.ok (.ret (.bool (lexLe ns' ms')))) ⟨hp,g,d,tk,os⟩) _
  case turn =>
   rintro⟨y,x⟩ rest b s' ⟨hb',rfl,vs,ws,ns',ms',hz,hvi,hwi,hlen,hR⟩
   cases hvi with
   | nil=>rw[List.zip_nil_left] at hz;cases hz
   | cons a t hvi' =>
    cases hwi with
    | nil=>rw[List.zip_nil_right] at hz;cases hz
    | cons c u hwi' =>
     rw[List.zip_cons_cons] at hz
     injection hz with hyx hrest
     injection hyx with hy hx
     subst hy hx
     rw[zey] at hR
     simp only[List.length_cons] at hlen
     obtain⟨e,he,hiff⟩:=zhl A.in1 ⟨hp,g,d,tk,os⟩ a t c u
     refine wpAny_bind (he prog w _ _ ?_)
     cases e with
     | true =>
      rw[if_pos (hiff.mp rfl)] at hR
      wp_walk
      exact⟨rfl,rfl,_,_,_,_,hrest,hvi',hwi',by lia,hR⟩
     | false =>
      rw[if_neg (fun q=>absurd (hiff.mpr q) Bool.false_ne_true)] at hR
      have hri:=zjN A.in1 ⟨hp,g,d,tk,os⟩ a t c u prog w
      wp_walk using hri
      exact⟨_,rfl,by simpa using hR⟩
  case fin =>
   rintro⟨b1,b2⟩ s' ⟨hb',rfl,vs,ws,ns',ms',hz,hvi,hwi,hlen,hR⟩
   simp only at hb'
   subst hb'
   have hv:lexLe ns' ms'=decide (items.size≤items2.size):=by
    cases hvi with
    | nil =>
     cases hwi with
     | nil =>
      simp only[List.length_nil] at hlen
      rw[zfb]
      exact (decide_eq_true (by lia)).symm
     | cons c u hw =>
      simp only[List.length_nil,List.length_cons] at hlen
      rw[zeh]
      exact (decide_eq_true (by lia)).symm
    | cons a t hv =>
     cases hwi with
     | nil =>
      simp only[List.length_nil,List.length_cons] at hlen
      rw[zei]
      exact (decide_eq_false (by lia)).symm
     | cons c u hw =>
      rw[List.zip_cons_cons] at hz
      cases hz
   rw[hv] at hR
   wp_walk
   exact⟨_,rfl,by simpa[Builtin.Tuple.tupleCompareSizes] using hR⟩
  case h =>
   exact⟨rfl,rfl,items.toList,items2.toList,ns,ms,rfl,hi,hj,by lia,h⟩
end
section
variable {prog:Program}{w:World}{A:Around}{E:Value→Shared→Prop}{s:Shared}
theorem le_tupInts {l b : Addr}{items items2 : Array Value}{ns ms : List Int}{Q : Value → Shared → Prop}(hl : IsTup s.heap l items) (hb : IsTup s.heap b items2) (hi : IntsAre items.toList ns) (hj : IntsAre items2.toList ms)
  (hu:A.units<cLine) (h:Q (.bool (lexLe ns ms)) s):wpAny (model prog w) A (compareOp .LtE (.ref l) (.ref b)) Q E s:=by
 obtain⟨⟨cls,dd,data,sl⟩,ho,hc,n,hd⟩:=id hl
 obtain⟨⟨cls2,dd2,data2,sl2⟩,ho2,hc2,n2,hd2⟩:=id hb
 simp only at hc hd hc2 hd2
 subst hc hd hc2 hd2
 exact richCompare_meets_room (op:=.LtE) ⟨_,ho,rfl⟩ ⟨_,ho2,rfl⟩ PySem.F.slot_tuple_le PySem.F.entry_tuple_le (PySem.F.args_tuple_le_2 _ _) (zeI l b items items2 n n2 dd dd2 sl sl2 ns ms hi hj)
  ⟨ho,ho2,show Value.bool (lexLe ns ms)≠Value.notImplemented∧Q (.bool (lexLe ns ms)) s from ⟨(fun x=>nomatch x),h⟩⟩ hu
end
end HT
namespace L2
open PySem PySem.Spec PyProof.Rows
section
variable {X:Cx}
def rLeT (K:W.Frag):R2:=fun x y H Q=>∃ a b ns ms,x=.ref a∧y=.ref b∧SqT K H a (ns.map V.int)∧SqT K H b (ms.map V.int)∧Q (.bl (HT.lexLe ns ms)) H
theorem zlQ (hu:X.A.units<cLine):OpR X (compareOp .LtE) (rLeT X.K):=by
 intro pins s σ H x y v u Q I rx ry h
 obtain⟨a,b,ns,ms,rfl,rfl,ha,hb,q⟩:=h
 cases rx
 cases ry
 obtain⟨its,r1,p1,_⟩:=I.tuple ha
 obtain⟨its2,r2,p2,_⟩:=I.tuple hb
 have i1:IntsAre its.toArray.toList ns:=zb0 r1
 have i2:IntsAre its2.toArray.toList ms:=zb0 r2
 exact HT.le_tupInts p1 p2 i1 i2 hu ⟨.bl (HT.lexLe ns ms),H,I,rfl,q⟩
end
section
variable {X:Cx}
def zkW (K:W.Frag):V→List V→Hp→VK→Prop:=fun x vs H Q=>∃ p xs y d ds j e,x=.ref p∧vs=[y]∧SqL K H p xs∧RD K H y d∧RDs K H xs ds∧SeqAt.shaped d=true∧(∀ e∈ds,SeqAt.shaped e=true) ∧
 ds[j]?=some e∧PyData.eqv e d=true∧(∀ m e',m<j→ds[m]?=some e'→PyData.eqv e' d=false)∧Q (.int (j:Nat)) H
theorem ziP (hu:X.A.units+65<cLine):MtR X "list.index" (zkW X.K):=by
 intro pins s σ H x vs v us Q I rx rv h
 obtain⟨p,xs,y,d,ds,j,e,rfl,rfl,hq,hd,hds,sd,sds,hj,he,hno,q⟩:=h
 cases rx
 obtain⟨u,rfl,ru⟩:=rv.one
 obtain⟨its,r,pl,hz⟩:=I.list hq
 obtain⟨as,ra⟩:=I.reads hd ru
 obtain⟨bs,rb⟩:=I.readsAll hds r
 have hlay:=zf4 sds
 have hmap:=SeqAt.readsAll_map ds _ _ hlay rb
 have hlen:its.length=ds.length:=by rw[← hmap,List.length_map]
 have hj':j<ds.length:=(List.getElem?_eq_some_iff.mp hj).1
 have rd:∀ m (hm:m<its.length),ds[m]?=some (SeqAt.readOf s.heap its[m]):=fun m hm=>by
  rw[← hmap,List.getElem?_map,List.getElem?_eq_getElem hm];rfl
 obtain⟨⟨cls,dd,data,sl⟩,ho,hc,n,hdat⟩:=pl.isList
 simp only at hc hdat
 subst hc hdat
 have hsz:xs.length≤sizeLine:=hz
 have hl2:its.length=xs.length:=r.length.symm
 refine call_meets PySem.F.slot_list_index ⟨_,ho,rfl⟩ PySem.F.entry_list_index (PySem.F.args_list_index_2 _ _)
  (SeqAt.list_indexAt p its.toArray n dd sl u (fun z=>PyData.eqv (SeqAt.readOf s.heap z) d) j (by simpa[hlen] using hj') (by have:=sizeLine_eq;lia) ?_ ?_)
  ⟨ho,SeqAt.items_eqAt (vs:=its.toArray) rb ra hlay (SeqAt.canLay_of_shaped sd) (PyProof.Rows.room_in_shaped sd hu),?_⟩
 ·have:=rd j (by lia)
  rw[hj] at this
  have e1:=Option.some.inj this
  show PyData.eqv (SeqAt.readOf s.heap its[j]) d=true
  rw[← e1];exact he
 ·intro m hm hlt
  have hm':m<its.length:=by simpa using hm
  exact hno m _ hlt (rd m hm')
 ·exact⟨.int (j:Nat),H,I.tok _,⟨_,rfl⟩,q⟩
end
section
variable {X:Cx}{k:Nat}{f:Addr}{fd:FuncData}{ps:List Str}{sp:Sp}{pins:List (Addr×Obj)}{σ:St}
theorem zir {H : Hp}{s : Shared}{Q : VK}{us : List Value}{vs : List V}{E : Value → Shared → Prop}(F : FnOk X.prog X.w X.K X.mg X.base CX0 k f fd ps sp) (hr : Room (k + 1) X.A) (hb : Binds X.K fd ps [])
  (I:Inv X pins σ H s) (r:Vals vs us) (h:sp vs H Q E0):wpAny (model X.prog X.w) X.A.in1 (call (.ref f) us) (EP X pins σ Q) E s:=by
 have hl:(us++[]).length=ps.length:=by rw[List.append_nil,← r.length];exact F.len _ _ _ _ h
 have hb':=hb s us I.kIn hl
 rw[List.append_nil] at hb'
 refine wpAny_call (codeAny_mono (F.run X.A.in1 X.stack s H ⟨us,[]⟩ us vs Q E0 hr.in1 I.env0.in1 hb' r h) fun r s' hq=>?_)
 cases r with
 | error e=>exact False.elim hq
 | ok fl =>
  cases fl with
  | ret u=>exact I.after hq
  | next=>exact False.elim hq
  | brk=>exact False.elim hq
  | cont=>exact False.elim hq
theorem Inv.moved {H:Hp}{s:Shared}{b:Addr}{h':Heap}{t':Nat}(I:Inv X pins σ H s) (fb:FpOk X pins H b) (hk:∀ c o,c ∉ [b]→s.heap.get? c=some o→h'.get? c=some o):Inv X pins σ H { s with heap:=h',toks:=t' } :=
 I.turned (fun c o hc e=>hk c o (fun z=>hc (List.mem_singleton.mp z)) e) fb.1 fb.2.1 fb.2.2.2.1 fb.2.2.2.2.1 fb.2.2.2.2.2
theorem FpOk.again {H H':Hp}{b:Addr}(fb:FpOk X pins H b) (hn:H' b=none):FpOk X pins H' b:=⟨hn,fb.2⟩
structure MK (X:Cx) (pins:List (Addr×Obj)) (σ:St) (H:Hp) (s:Shared) (it st l:Addr) (j:Nat) (vb kb:Value):Prop where
 inv:Inv X pins σ H s
 fi:FpOk X pins H it
 fs:FpOk X pins H st
 ne:st≠it
 iter:s.heap.IsListIter it l j
 hold:∃ c,s.heap.get? st=some (seqObj "list" #[vb,kb] c)
def Least (κ:Nat→List Int) (n i:Nat):Prop:=∀ j,j<n→HT.lexLt (κ j) (κ i)=false∧(j<i→HT.lexLt (κ i) (κ j)=true)
end
end L2
namespace HT
theorem lexLt_irrefl:∀ a:List Int,lexLt a a=false
 | []=>rfl
 | x::r=>by rw[lexLt_cons,if_pos rfl];exact lexLt_irrefl r
theorem lexLt_trans:∀ {a b c:List Int},lexLt a b=true→lexLt b c=true→lexLt a c=true
 | [],[],_,h,_=>by cases h
 | [],_::_,[],_,h=>by cases h
 | [],_::_,_::_,_,_=>rfl
 | _::_,[],_,h,_=>by cases h
 | _::_,_::_,[],_,h=>by cases h
 | x::a,y::b,z::c,h,g=>by
  rw[lexLt_cons] at h g ⊢
  by_cases e1:x=y
  ·subst e1
   rw[if_pos rfl] at h
   by_cases e2:x=z
   ·subst e2;rw[if_pos rfl] at g ⊢;exact lexLt_trans h g
   ·rw[if_neg e2] at g ⊢;exact g
  ·rw[if_neg e1] at h
   have h':x<y:=by simpa using h
   by_cases e2:y=z
   ·subst e2;rw[if_neg e1];exact h
   ·rw[if_neg e2] at g
    have g':y<z:=by simpa using g
    rw[if_neg (by lia)]
    exact decide_eq_true (by lia)
theorem lexLt_total:∀ {a b:List Int},lexLt a b=false→lexLt b a=false→a=b
 | [],[],_,_=>rfl
 | [],_::_,h,_=>by cases h
 | _::_,[],_,h=>by cases h
 | x::a,y::b,h,g=>by
  rw[lexLt_cons] at h g
  by_cases e:x=y
  ·subst e
   rw[if_pos rfl] at h g
   rw[lexLt_total h g]
  ·rw[if_neg e] at h
   rw[if_neg (Ne.symm e)] at g
   have h':¬ x<y:=by simpa using h
   have g':¬ y<x:=by simpa using g
   lia
theorem lexLe_eq:∀ a b:List Int,lexLe a b=!lexLt b a
 | [],[]=>rfl
 | [],_::_=>rfl
 | _::_,[]=>rfl
 | x::a,y::b=>by
  rw[zey,lexLt_cons]
  by_cases e:x=y
  ·subst e;rw[if_pos rfl,if_pos rfl];exact lexLe_eq a b
  ·rw[if_neg e,if_neg (Ne.symm e)]
   by_cases g:x≤y
   ·rw[decide_eq_true g,decide_eq_false (by lia)];rfl
   ·rw[decide_eq_false g,decide_eq_true (by lia)];rfl
theorem lexLt_of_not_lt_lt {a b c:List Int}(h:lexLt b a=false) (g:lexLt b c=true):lexLt a c=true:=by
 cases e:lexLt a b with
 | true=>exact lexLt_trans e g
 | false=>rw[lexLt_total e h];exact g
theorem lexLt_asym {a b:List Int}(h:lexLt a b=true):lexLt b a=false:=by
 cases e:lexLt b a with
 | false=>rfl
 | true=>have:=lexLt_trans h e;rw[lexLt_irrefl] at this;cases this
end HT
namespace L2
open PySem PySem.Spec PyProof.Rows
section
variable {X:Cx}{k:Nat}{f:Addr}{fd:FuncData}{ps:List Str}{sp:Sp}{pins:List (Addr×Obj)}{σ:St}{H0:Hp}{Q:VK}{l it st:Addr}{xs:List V}{κ:Nat→List Int}
def MKR (X:Cx) (pins:List (Addr×Obj)) (σ:St) (Q:VK):Result→Shared→Prop:=fun r s'=>match r with
 | .ok (.ret v)=>EP X pins σ Q v s'
 | .ok _=>False
 | .error e=>X.xe e s'
theorem zcE {xs:Array Value}{c:Nat}:∀ v,(seqObj "list" xs c).data≠.cell v:=fun v h=>by cases h
theorem zdS {h:Heap}{it l:Addr}{j:Nat}(hi:h.IsListIter it l j):∃ o,h.get? it=some o∧∀ v,o.data≠.cell v:=by
 obtain⟨o,ho,_,hd⟩:=hi
 exact⟨o,ho,fun v z=>by rw[hd] at z;cases z⟩
theorem zjK {H : Hp}{s : Shared}{Q1 : VK}{u : Value}{x : V}{E : Value → Shared → Prop}{j : Nat}{vb kb : Value}(F : FnOk X.prog X.w X.K X.mg X.base CX0 k f fd ps sp) (hr : Room (k + 1) X.A) (hb : Binds X.K fd ps [])
    (M:MK X pins σ H s it st l j vb kb) (r:RelV x u) (h:sp [x] H Q1 E0):wpAny (model X.prog X.w) X.A.in1 (call (.ref f) [u]) (fun v s'=>∃ y H',RelV y v∧Q1 y H'∧MK X pins σ H' s' it st l j vb kb) E s:=by
  obtain⟨c,hc⟩:=M.hold
  obtain⟨oi,hoi,ci,di⟩:=id M.iter
  have I1 : Inv X (pins ++ zdi [it, st] s.heap) σ H s := M.inv.pinned (fun b hb => by
      rcases List.mem_cons.mp hb with rfl | hb
      · exact M.fi
      · rw[List.mem_singleton.mp hb];exact M.fs) (fun b hb=>by
      rcases List.mem_cons.mp hb with rfl | hb
      · exact zdS M.iter
      · rw[List.mem_singleton.mp hb];exact⟨_,hc,zcE⟩)
  refine wpAny_mono (zir F hr hb I1 (.cons r .nil) h) (fun v s' hv=>?_) fun _ _ e=>e
  obtain⟨y,H',I2,ry,q⟩:=hv
  have p1:=I2.pin (it,oi) (List.mem_append_right _ (List.mem_append_right _ (za8 (by simp) hoi)))
  have p2:=I2.pin (st,seqObj "list" #[vb,kb] c) (List.mem_append_right _ (List.mem_append_right _ (za8 (by simp) hc)))
  exact⟨y,H',ry,q,I2.unpinned,M.fi.again p1.2.1,M.fs.again p2.2.1,M.ne,⟨oi,p1.1,ci,di⟩,c,p2.1⟩
theorem zlb {H : Hp}{s : Shared}{a b : Addr}{ns ms : List Int}{E : Value → Shared → Prop}{Q1 : Value → Shared → Prop}(hu : X.A.units + 1 < cLine) (I : Inv X pins σ H s) (ha : SqT X.K H a (ns.map V.int)) (hb : SqT X.K H b (ms.map V.int)) (q : Q1 (.bool (HT.lexLt ns ms)) s) :
  wpAny (model X.prog X.w) X.A.in1 (richCompare .Lt (.ref a) (.ref b)) Q1 E s:=by
 obtain⟨its,r1,p1,_⟩:=I.tuple ha
 obtain⟨its2,r2,p2,_⟩:=I.tuple hb
 exact (HT.lt_tupInts p1 p2 (zb0 r1) (zb0 r2) hu q:wpAny (model X.prog X.w) X.A.in1 (compareOp .Lt (.ref a) (.ref b)) Q1 E s)
theorem MK.set {H:Hp}{s:Shared}{j:Nat}{vb kb v kv:Value}(M:MK X pins σ H s it st l j vb kb):MK X pins σ H { s with heap:=s.heap.update st (Obj.mapSeq fun _=>#[v,kv]) } it st l j v kv:=by
 obtain⟨c,hc⟩:=M.hold
 have sb:=Heap.SameBut.update s.heap st (Obj.mapSeq fun _=>#[v,kv])
 obtain⟨oi,hoi,ci,di⟩:=id M.iter
 exact⟨M.inv.moved (t':=s.toks) M.fs (fun b o hb e=>(sb.2 b fun z=>hb (by simp[z])).trans e),M.fi,M.fs,M.ne,⟨oi,(sb.2 it M.ne.symm).trans hoi,ci,di⟩,_,get?_update_seq hc fun _=>#[v,kv]⟩
theorem Least.next {n i:Nat}(h:Least κ n i) (e:HT.lexLt (κ n) (κ i)=false) (hi:i<n):Least κ (n+1) i:=fun j hj=>by
 by_cases z:j=n
 ·subst z;exact⟨e,fun q=>absurd q (by lia)⟩
 ·exact h j (by lia)
theorem Least.take {n i:Nat}(h:Least κ n i) (e:HT.lexLt (κ n) (κ i)=true) (hi:i<n):Least κ (n+1) n:=fun j hj=>by
 by_cases z:j=n
 ·subst z;exact⟨HT.lexLt_irrefl _,fun q=>absurd q (by lia)⟩
 ·have g:=(h j (by lia)).1
  have t:HT.lexLt (κ n) (κ j)=true:=by
   cases q:HT.lexLt (κ i) (κ j) with
   | true=>exact HT.lexLt_trans e q
   | false=>rw[← HT.lexLt_total q g];exact e
  exact⟨HT.lexLt_asym t,fun _=>t⟩
theorem Room.un1 {n:Nat}{A:Around}(r:Room n A):A.units+1<cLine:=by have:=r.units;lia
theorem Same.seqT {K:W.Frag}{H H':Hp}{a:Addr}{xs:List V}(e:Same H H') (h:SqT K H a xs):SqT K H' a xs:=by
 rcases h with (h | ⟨o,h⟩) | h
 ·exact .inl (.inl (e _ _ h))
 ·exact .inl (.inr ⟨o,e _ _ h⟩)
 ·exact .inr h
theorem ziQ (hh : X.A.handled = none) (F : FnOk X.prog X.w X.K X.mg X.base CX0 k f fd ps sp) (hr : Room (k + 1) X.A) (hb : Binds X.K fd ps [])
  (turn:∀ i x H,xs[i]?=some x→Same H0 H→sp [x] H (fun v H'=>Same H H'∧∃ a,v=.ref a∧SqT X.K H' a ((κ i).map V.int)) E0)
  (hl:SqL X.K H0 l xs) (hli:l≠it) (hQ:∀ i x H',xs[i]?=some x→Least κ xs.length i→Same H0 H'→Q x H') :
  ∀ (r j i:Nat) (H:Hp) (s:Shared) (vb:Value) (xb:V) (b:Addr),xs.length - (j+1)=r→j+1≤xs.length→Same H0 H→MK X pins σ H s it st l (j+1) vb (.ref b)→xs[i]?=some xb→RelV xb vb→SqT X.K H b ((κ i).map V.int)→i≤j→Least κ (j+1) i →
   codeAny (model X.prog X.w) X.A (.builtin "min.loop" ⟨[.ref it,.ref f,.ref st],[]⟩) (MKR X pins σ Q) s:=by
 have nm:(toString "min" ++ toString ".loop" : String) = "min.loop":=by decide
 intro r
 induction r with
 | zero =>
  intro j i H s vb xb b hr0 hj hS M hxb rb kb' hij best
  have hend:j+1=xs.length:=by lia
  obtain⟨its,rv,pl,hz⟩:=M.inv.list (hS.seq hl)
  have hlen:its.length=xs.length:=rv.length.symm
  have W:=Walks.list (prog:=X.prog) (w:=X.w) (A:=X.A.in1) hh it l hli its.toArray
  obtain⟨c,hc⟩:=M.hold
  refine codeAny_builtin PySem.F.entry_min_loop ?_
  rw[Around.under_plainId PySem.F.plain_min_loop _]
  show wpAny _ X.A.in1 (seqItems? (.ref st) >>= _) _ _ _
  refine wpAny_bind (wpAny_seqItems hc rfl ?_)
  show wpAny _ X.A.in1 (tryCatch (pyNext (.ref it)) _ >>= _) _ _ _
  refine wpAny_bind (wpAny_tryCatch (W.done _ _ _ ⟨by rw[List.size_toArray,hlen,← hend];exact M.iter,pl.isList⟩ fun h1 tk1 hk1=>?_))
  have I1:=M.inv.moved (t':=tk1) M.fi hk1
  have hc1:=hk1 st _ (by simpa using M.ne) hc
  have sb:=Heap.SameBut.update h1 st (Obj.mapSeq fun _=>(#[]:Array Value))
  show wpAny _ X.A.in1 (updateSeq st (fun _=>#[]) >>= _) _ _ _
  refine wpAny_bind ?_
  refine wpAny_updateSeq hc1 rfl (wpAny_bind (wpAny_letGo (wpAny_pure ?_)))
  have I2:Inv X pins σ H { s with heap:=h1.update st (Obj.mapSeq fun _=>(#[]:Array Value)),toks:=tk1 }:=I1.moved (s:={ s with heap:=h1,toks:=tk1 }) (t':=tk1) M.fs (fun b o hb e=>(sb.2 b fun z=>hb (by simp[z])).trans e)
  exact⟨xb,H,I2,rb,hQ i xb H hxb (by rw[← hend];exact best) hS⟩
 | succ r ih =>
  intro j i H s vb xb b hr0 hj hS M hxb rb kb' hij best
  have hlt:j+1<xs.length:=by lia
  obtain⟨its,rv,pl,hz⟩:=M.inv.list (hS.seq hl)
  have hlen:its.length=xs.length:=rv.length.symm
  have W:=Walks.list (prog:=X.prog) (w:=X.w) (A:=X.A.in1) hh it l hli its.toArray
  obtain⟨c,hc⟩:=M.hold
  refine codeAny_builtin PySem.F.entry_min_loop ?_
  rw[Around.under_plainId PySem.F.plain_min_loop _]
  show wpAny _ X.A.in1 (seqItems? (.ref st) >>= _) _ _ _
  refine wpAny_bind (wpAny_seqItems hc rfl ?_)
  show wpAny _ X.A.in1 (tryCatch (pyNext (.ref it)) _ >>= _) _ _ _
  refine wpAny_bind (wpAny_tryCatch (W.item (j+1) _ _ _ (by rw[List.size_toArray,hlen];exact hlt) ⟨M.iter,pl.isList⟩ fun v h1 tk1 hP hst1 hk1=>?_))
  have hv:its[j+1]?=some v:=by simpa using hP
  obtain⟨x,hx⟩:∃ x,xs[j+1]?=some x:=⟨_,List.getElem?_eq_getElem hlt⟩
  obtain⟨v',hv',rx⟩:=rv.get hx
  rw[hv] at hv'
  cases hv'
  have M1:MK X pins σ H { s with heap:=h1,toks:=tk1 } it st l (j+1+1) vb (.ref b):=⟨M.inv.moved (t':=tk1) M.fi hk1,M.fi,M.fs,M.ne,hst1.1,c,hk1 st _ (by simpa using M.ne) hc⟩
  show wpAny _ X.A.in1 (tryCatch (holding [v] (call (.ref f) [v])) _ >>= _) _ _ _
  refine wpAny_bind (wpAny_tryCatch (wpAny_holding (wpAny_mono (zjK F hr hb M1 rx (turn (j+1) x H hx hS) (E:=fun _ _=>False)) (fun kv s2 he=>?_) fun _ _ hF=>hF.elim)))
  obtain⟨y,H2,ry,⟨hS2,a2,ey,ka2⟩,M2⟩:=he
  subst ey
  cases (show kv=Value.ref a2 from ry)
  have hS3:=hS.trans hS2
  have kb2:SqT X.K H2 b ((κ i).map V.int):=hS2.seqT kb'
  show wpAny _ X.A.in1 (tryCatch (holding [v,.ref a2] (richCompare .Lt (.ref a2) (.ref b) >>= _)) _ >>= _) _ _ _
  refine wpAny_bind (wpAny_tryCatch (wpAny_holding (wpAny_bind (zlb hr.un1 M2.inv ka2 kb2 ?_))))
  refine wpAny_bind (wpAny_holding (wpAny_truthy_bool ?_))
  refine wpAny_bind (wpAny_letGo (wpAny_pure ?_))
  obtain⟨c2,hc2⟩:=M2.hold
  by_cases hbt:HT.lexLt (κ (j+1)) (κ i)=true
  ·simp only[hbt,if_true]
   refine wpAny_bind ?_
   refine wpAny_updateSeq hc2 rfl (wpAny_bind (wpAny_letGo ?_))
   rw[nm]
   exact wpAny_pure ⟨plainId_quiet PySem.F.plain_min_loop _,ih (j+1) (j+1) H2 _ v _ a2 (by lia) hlt hS3 M2.set hx rx ka2 (Nat.le_refl _) (best.take hbt (by lia))⟩
  ·have hbf:HT.lexLt (κ (j+1)) (κ i)=false:=by simpa using hbt
   simp only[hbf,Bool.false_eq_true,if_false]
   refine wpAny_bind (wpAny_letGo ?_)
   rw[nm]
   exact wpAny_pure ⟨plainId_quiet PySem.F.plain_min_loop _,ih (j+1) i H2 _ vb _ b (by lia) hlt hS3 M2 hxb rb kb2 (by lia) (best.next hbf (by lia))⟩
end
section
variable {X:Cx}{k:Nat}{f:Addr}{fd:FuncData}{ps:List Str}{sp:Sp}{pins:List (Addr×Obj)}{σ:St}{H0:Hp}{Q:VK}{l it st:Addr}{xs:List V}{κ:Nat→List Int}
structure MK0 (X:Cx) (pins:List (Addr×Obj)) (σ:St) (H:Hp) (s:Shared) (it st l:Addr) (j:Nat):Prop where
 inv:Inv X pins σ H s
 fi:FpOk X pins H it
 fs:FpOk X pins H st
 ne:st≠it
 iter:s.heap.IsListIter it l j
 hold:∃ c,s.heap.get? st=some (seqObj "list" #[] c)
theorem zis {H : Hp}{s : Shared}{Q1 : VK}{u : Value}{x : V}{E : Value → Shared → Prop}{j : Nat}(F : FnOk X.prog X.w X.K X.mg X.base CX0 k f fd ps sp) (hr : Room (k + 1) X.A) (hb : Binds X.K fd ps [])
    (M:MK0 X pins σ H s it st l j) (r:RelV x u) (h:sp [x] H Q1 E0):wpAny (model X.prog X.w) X.A.in1 (call (.ref f) [u]) (fun v s'=>∃ y H',RelV y v∧Q1 y H'∧MK0 X pins σ H' s' it st l j) E s:=by
  obtain⟨c,hc⟩:=M.hold
  obtain⟨oi,hoi,ci,di⟩:=id M.iter
  have I1 : Inv X (pins ++ zdi [it, st] s.heap) σ H s := M.inv.pinned (fun b hb => by
      rcases List.mem_cons.mp hb with rfl | hb
      · exact M.fi
      · rw[List.mem_singleton.mp hb];exact M.fs) (fun b hb=>by
      rcases List.mem_cons.mp hb with rfl | hb
      · exact zdS M.iter
      · rw[List.mem_singleton.mp hb];exact⟨_,hc,zcE⟩)
  refine wpAny_mono (zir F hr hb I1 (.cons r .nil) h) (fun v s' hv=>?_) fun _ _ e=>e
  obtain⟨y,H',I2,ry,q⟩:=hv
  have p1:=I2.pin (it,oi) (List.mem_append_right _ (List.mem_append_right _ (za8 (by simp) hoi)))
  have p2:=I2.pin (st,seqObj "list" #[] c) (List.mem_append_right _ (List.mem_append_right _ (za8 (by simp) hc)))
  exact⟨y,H',ry,q,I2.unpinned,M.fi.again p1.2.1,M.fs.again p2.2.1,M.ne,⟨oi,p1.1,ci,di⟩,c,p2.1⟩
theorem MK0.set {H:Hp}{s:Shared}{j:Nat}{v kv:Value}(M:MK0 X pins σ H s it st l j):MK X pins σ H { s with heap:=s.heap.update st (Obj.mapSeq fun _=>#[v,kv]) } it st l j v kv:=by
 obtain⟨c,hc⟩:=M.hold
 have sb:=Heap.SameBut.update s.heap st (Obj.mapSeq fun _=>#[v,kv])
 obtain⟨oi,hoi,ci,di⟩:=id M.iter
 exact⟨M.inv.moved (t':=s.toks) M.fs (fun b o hb e=>(sb.2 b fun z=>hb (by simp[z])).trans e),M.fi,M.fs,M.ne,⟨oi,(sb.2 it M.ne.symm).trans hoi,ci,di⟩,_,get?_update_seq hc fun _=>#[v,kv]⟩
theorem zjs {s : Shared}(hh : X.A.handled = none) (F : FnOk X.prog X.w X.K X.mg X.base CX0 k f fd ps sp) (hr : Room (k + 1) X.A) (hb : Binds X.K fd ps [])
  (turn:∀ i x H,xs[i]?=some x→Same H0 H→sp [x] H (fun v H'=>Same H H'∧∃ a,v=.ref a∧SqT X.K H' a ((κ i).map V.int)) E0)
  (hl:SqL X.K H0 l xs) (hne:0<xs.length) (hQ:∀ i x H',xs[i]?=some x→Least κ xs.length i→Same H0 H'→Q x H') (I:Inv X pins σ H0 s) :
  wpAny (model X.prog X.w) X.A (call (.builtin "min") [.ref l] [(Str.ofString "key",.ref f)]) (EP X pins σ Q) X.xe s:=by
 have nm:(toString "min" ++ toString ".loop" : String) = "min.loop":=by decide
 obtain⟨its,rv,pl,hz⟩:=I.list hl
 have hlen:its.length=xs.length:=rv.length.symm
 have hll:l<s.heap.objs.size:=by obtain⟨o,ho,_⟩:=pl.isList;exact Heap.lt_size ho
 refine kmk_tree PySem.F.kind_min PySem.F.plain_min PySem.F.entry_min (kmk_min_key _ _) ?_
 show wpAny _ X.A.in1 (Builtin.Builtins.bindParams "min" ["key","default"] 0 ⟨[],[(Str.ofString "key",.ref f)]⟩ >>= _) _ _ s
 refine wpAny_bind (wpAny_of_eq (show Builtin.Builtins.bindParams "min" ["key","default"] 0 ⟨[],[(Str.ofString "key",.ref f)]⟩=pure [some (.ref f),none] from rfl) ?_)
 refine wpAny_bind (wpAny_pure ?_)
 refine wpAny_bind (wpAny_pyIter_list pl.isList ?_)
 refine wpAny_bind (wpAny_newList ?_ (Nat.zero_le _))
 rw[nm]
 refine wpAny_pure ⟨plainId_quiet PySem.F.plain_min_loop _,?_⟩
 have keep:∀ b o,s.heap.get? b=some o→((s.heap.push { cls:=.type "list_iterator",data:=.fields #[.ref l,.int 0 0] }).push (seqObj "list" #[] 0)).get? b=some o:=fun b o e=>Heap.get?_push_of_some _ (Heap.get?_push_of_some _ e)
 have gi:((s.heap.push { cls:=.type "list_iterator",data:=.fields #[.ref l,.int 0 0] }).push (seqObj "list" #[] 0)).get? s.heap.objs.size=some { cls:=.type "list_iterator",data:=.fields #[.ref l,.int 0 0] }:=Heap.get?_push_of_some _ (Heap.get?_push_size _ rfl)
 have hsS:(s.heap.push { cls:=.type "list_iterator",data:=.fields #[.ref l,.int 0 0] }).objs.size=s.heap.objs.size+1:=size_push' ..
 have gs:((s.heap.push { cls:=.type "list_iterator",data:=.fields #[.ref l,.int 0 0] }).push (seqObj "list" #[] 0)).get? (s.heap.objs.size+1)=some (seqObj "list" #[] 0):=by rw[← hsS];exact Heap.get?_push_size _ rfl
 rw[hsS]
 have I1:Inv X pins σ H0 { s with heap:=(s.heap.push { cls:=.type "list_iterator",data:=.fields #[.ref l,.int 0 0] }).push (seqObj "list" #[] 0) }:=I.kept (t':=s.toks) keep
 have fi:FpOk X pins H0 s.heap.objs.size:=I.fpOk (Nat.le_refl _) (I.hok.fresh (Nat.le_refl _))
 have fs:FpOk X pins H0 (s.heap.objs.size+1):=I.fpOk (Nat.le_succ _) (I.hok.fresh (Nat.le_succ _))
 have M0:MK0 X pins σ H0 _ s.heap.objs.size (s.heap.objs.size+1) l 0:=⟨I1,fi,fs,Nat.ne_of_gt (Nat.lt_succ_self _),⟨_,gi,rfl,rfl⟩,⟨0,gs⟩⟩
 have hli:l≠s.heap.objs.size:=Nat.ne_of_lt hll
 have W:=Walks.list (prog:=X.prog) (w:=X.w) (A:=X.A.in1) hh s.heap.objs.size l hli its.toArray
 refine codeAny_builtin PySem.F.entry_min_loop ?_
 rw[Around.under_plainId PySem.F.plain_min_loop _]
 show wpAny _ X.A.in1 (seqItems? (.ref _) >>= _) _ _ _
 refine wpAny_bind (wpAny_seqItems gs rfl ?_)
 show wpAny _ X.A.in1 (tryCatch (pyNext (.ref s.heap.objs.size)) _ >>= _) _ _ _
 obtain⟨its2,rv2,pl2,_⟩:=I1.list hl
 refine wpAny_bind (wpAny_tryCatch (W.item 0 _ _ _ (by rw[List.size_toArray,hlen];exact hne) ⟨M0.iter,pl.isList.at fun o e=>keep _ _ e⟩ fun v h1 tk1 hP hst1 hk1=>?_))
 have hv:its[0]?=some v:=by simpa using hP
 obtain⟨x,hx⟩:∃ x,xs[0]?=some x:=⟨_,List.getElem?_eq_getElem hne⟩
 obtain⟨v',hv',rx⟩:=rv.get hx
 rw[hv] at hv'
 cases hv'
 have M1:MK0 X pins σ H0 { s with heap:=h1,toks:=tk1 } s.heap.objs.size (s.heap.objs.size+1) l 1:=⟨I1.moved (t':=tk1) fi hk1,fi,fs,M0.ne,hst1.1,0,hk1 _ _ (by simp) gs⟩
 show wpAny _ X.A.in1 (tryCatch (holding [v] (call (.ref f) [v])) _ >>= _) _ _ _
 refine wpAny_bind (wpAny_tryCatch (wpAny_holding (wpAny_mono (zis F hr hb M1 rx (turn 0 x H0 hx (Same.refl _)) (E:=fun _ _=>False)) (fun kv s2 he=>?_) fun _ _ hF=>hF.elim)))
 obtain⟨y,H2,ry,⟨hS2,a2,ey,ka2⟩,M2⟩:=he
 subst ey
 cases (show kv=Value.ref a2 from ry)
 obtain⟨c2,hc2⟩:=M2.hold
 show wpAny _ X.A.in1 (updateSeq (s.heap.objs.size+1) (fun _=>#[v,.ref a2]) >>= _) _ _ _
 refine wpAny_bind ?_
 refine wpAny_updateSeq hc2 rfl ?_
 rw[nm]
 refine wpAny_pure ⟨plainId_quiet PySem.F.plain_min_loop _,?_⟩
 exact codeAny_mono (ziQ hh F hr hb turn hl hli hQ _ 0 0 H2 _ v _ a2 rfl hne hS2 M2.set hx rx ka2 (Nat.le_refl _) (fun j hj=>by
  have e:j=0:=by lia
  subst e
  exact⟨HT.lexLt_irrefl _,fun z=>absurd z (Nat.lt_irrefl _)⟩)) fun r s' hr'=>hr'
end
end L2
namespace RK
open PySem PySem.W PyProof.Rows
variable {n:Nat}{ans:Nat→Nat→Bool}
def Pm (n:Nat) (p:Array Nat):Prop:=p.Perm (List.toArray (List.range n))
inductive Col:Value→Value→Int→Int→Prop where
 | int (a:Int) (t:Tok) (b:Int) (u:Tok):Col (.int a t) (.int b u) a b
 | bl (p q:Bool):Col (.bool p) (.bool q) (b2i p) (b2i q)
inductive Cols:List Value→List Value→List Int→List Int→Prop where
 | nil:Cols [] [] [] []
 | cons {u v:Value} {us vs:List Value} {a b:Int} {as bs:List Int}:Col u v a b→Cols us vs as bs→Cols (u::us) (v::vs) (a::as) (b::bs)
section
variable {prog:Program}{w:World}{A:Around}{s:Shared}{Q:Bool→Shared→Prop}
theorem zkF {u v:Value}{a b:Int}(c:Col u v a b){E:Value→Shared→Prop}(h:Q (decide (a=b)) s):wpAny (model prog w) A (eqBool u v) Q E s:=by
 cases c with
 | int _ t _ u =>
  refine wpAny_eqBool_int ?_
  rw[show (a == b)=decide (a=b) from by rw[Bool.beq_eq_decide_eq]];exact h
 | bl p q =>
  refine SeqAt.EqAt.bool_bool p q prog w E Q ?_
  have e:(p == q)=decide (b2i p=b2i q):=by cases p <;> cases q <;> decide
  rw[e];exact h
theorem zl2 {u v:Value}{a b:Int}(c:Col u v a b){E:Value→Shared→Prop}(h:Q (decide (a<b)) s):wpAny (model prog w) A (oneLt' false u v) Q E s:=by
 cases c with
 | int _ t _ u=>exact kat_one _ _ (lt_int (show W.BoolBack Q (.bool (decide (a<b))) s from h))
 | bl p q=>exact kat_one _ _ (lt_bool (show W.BoolBack Q (.bool (decide (b2i p<b2i q))) s from h))
theorem zhh {bb:Bool}:∀ {us vs:List Value}{as bs:List Int}(i:Nat),Cols us vs as bs→Q (HT.lexLt as bs) s→KatLex prog w A bb false Q (us.zip vs) (i+1) s
 | _,_,_,_,_,.nil,h=>kat_nil h
 | _,_,_,_,i,.cons (a:=a) (b:=b) (as:=as) (bs:=bs) c r,h=>by
  rw[HT.lexLt_cons] at h
  refine kat_cons (zkF c ?_)
  by_cases e:a=b
  ·rw[decide_eq_true e]
   rw[if_pos e] at h
   exact kat_yes (zhh (i+1) r h)
  ·rw[decide_eq_false e]
   rw[if_neg e] at h
   refine kat_no ?_
   rw[show (bb && (i+1 == 0))=false by simp]
   exact zl2 c h
theorem kat_cols0 {us vs:List Value}{as bs:List Int}{a b:Int}{t u:Tok}(r:Cols us vs as bs) (h:Q (HT.lexLt (a::as) (b::bs)) s):KatLex prog w A true false Q ((Value.int a t::us).zip (Value.int b u::vs)) 0 s:=by
 rw[HT.lexLt_cons] at h
 refine kat_cons (zkF (.int a t b u) ?_)
 by_cases e:a=b
 ·rw[decide_eq_true e]
  rw[if_pos e] at h
  exact kat_yes (zhh 0 r h)
 ·rw[decide_eq_false e]
  rw[if_neg e] at h
  exact kat_no (oneLt_int h)
end
end RK
namespace L2
open PySem PySem.Spec PyProof.Rows
section
variable {X:Cx}{k:Nat}{f:Addr}{fd:FuncData}{ps:List Str}{sp:Sp}{pins:List (Addr×Obj)}{σ:St}{H0:Hp}{Q:VK}
theorem Inv.adopt {H : Hp}{s : Shared}{D : Addr}{o : HO}{h' : Heap}{t' : Nat}(I : Inv X pins σ H s) (fb : FpOk X pins H D) (hk : ∀ b u, b ≠ D → s.heap.get? b = some u → h'.get? b = some u) (heo : ∃ u, h'.get? D = some u)
  (new:ObjOk X.prog X.w (upd H D o) h' D o):Inv X pins σ (upd H D o) { s with heap:=h',toks:=t' }:=by
 have hn:=fb.1
 have nit:∀ b u,H b=some u→b≠D:=fun b u e z=>by rw[z,hn] at e;cases e
 refine I.step (g':=s.gens) (d':=s.drawn) (ch:=[D]) (fun b hb=>?_) (fun b u _ _ hc e _=>hk b u (fun z=>hc (by simp[z])) e) (fun b u _ _ hc e _=>⟨u.slots,hk b u (fun z=>hc (by simp[z])) e⟩)
  (fun b u hc _ n=>by rw[zaj (fun z=>hc (by simp[z]))];exact n)
  (fun b u hc e=>⟨u,hk b u (fun z=>hc (by simp[z])) e⟩) (fun b xs e=>by rw[zaj (nit _ _ e)];exact e) (fun b u xs e=>by rw[zaj (nit _ _ e)];exact e) (fun b ps e=>⟨#[],by rw[zaj (nit _ _ e),e];simp⟩) (fun m hm=>?_) (fun b u e=>?_) I.bare
 ·have e:b=D:=by simpa using hb
  subst e
  exact⟨fb.2.2.2.1,fb.2.1,fb.2.2.2.2.1,fb.2.2.2.2.2⟩
 ·obtain⟨u,es,ep,ho,r⟩:=hm
  exact⟨u,es,ep,hk _ u (Ne.symm fb.2.1) ho,r⟩
 ·by_cases hb:b=D
  ·subst hb;rw[zaa] at e;cases e;exact new
  ·rw[zaj hb] at e
   refine (I.hok b u e).stay (fun c v hc q=>hk c v ?_ q) (fun c q=>by rw[zaj (nit _ _ q)];exact q) fun c xs q=>by rw[zaj (nit _ _ q)];exact q
   rcases hc with z | z
   ·rw[z];exact nit b u e
   ·exact nit c _ z
theorem zkU {H : Hp}{s : Shared}{Q : VK}{us : List Value}{vs : List V}{E : Value → Shared → Prop}(F : FnOk X.prog X.w X.K X.mg X.base CX0 k f fd ps sp) (hr : Room (k + 1 + 1) X.A) (hb : Binds X.K fd ps [])
  (I:Inv X pins σ H s) (r:Vals vs us) (h:sp vs H Q E0):wpAny (model X.prog X.w) X.A.in1.in1 (call (.ref f) us) (EP X pins σ Q) E s:=by
 have hl:(us++[]).length=ps.length:=by rw[List.append_nil,← r.length];exact F.len _ _ _ _ h
 have hb':=hb s us I.kIn hl
 rw[List.append_nil] at hb'
 refine wpAny_call (codeAny_mono (F.run X.A.in1.in1 X.stack s H ⟨us,[]⟩ us vs Q E0 hr.in1.in1 I.env0.in1.in1 hb' r h) fun r s' hq=>?_)
 cases r with
 | error e=>exact False.elim hq
 | ok fl =>
  cases fl with
  | ret u=>exact I.after hq
  | next=>exact False.elim hq
  | brk=>exact False.elim hq
  | cont=>exact False.elim hq
inductive VCol:V→V→Int→Int→Prop where
 | int (a b:Int):VCol (.int a) (.int b) a b
 | bl (p q:Bool):VCol (.bl p) (.bl q) (b2i p) (b2i q)
inductive VCols:List V→List V→List Int→List Int→Prop where
 | nil:VCols [] [] [] []
 | cons {x y:V} {xs ys:List V} {a b:Int} {as bs:List Int}:VCol x y a b→VCols xs ys as bs→VCols (x::xs) (y::ys) (a::as) (b::bs)
theorem VCols.vals:∀ {xs ys:List V}{as bs:List Int}{us vs:List Value},VCols xs ys as bs→Vals xs us→Vals ys vs→RK.Cols us vs as bs
  | _,_,_,_,_,_,.nil,.nil,.nil=>.nil
  | _, _, _, _, _, _, .cons c r, .cons h t, .cons g q => .cons (by
      cases c with
      | int a b=>obtain⟨t,rfl⟩:=h;obtain⟨u,rfl⟩:=g;exact .int _ _ _ _
      | bl p q=>cases h;cases g;exact .bl _ _) (r.vals t q)
structure SK (X:Cx) (pins:List (Addr×Obj)) (σ:St) (H:Hp) (s:Shared) (D st:Addr) (e:Nat) (κV:Nat→List V) (ks:List Addr):Prop where
 inv:Inv X pins σ H s
 fd:FpOk X pins H D
 fs:FpOk X pins H st
 ne:st≠D
 hd:s.heap.get? D=some (seqObj "list" #[] e)
 hs:∃ c,s.heap.get? st=some (seqObj "list" (ks.map Value.ref).toArray c)
 hk:∀ i a,ks[i]?=some a→SqT X.K H a (κV i)
theorem zhi {M : Model}{A : Around}{E : Value → Shared → Prop}{body : Value → PUnit → Sem (ForInStep PUnit)}{vs : List Value}(P : Nat → Shared → Prop)
  (hb:∀ i x s,vs[i]?=some x→P i s→wpAny M A (body x ⟨⟩) (fun r s'=>r=.yield ⟨⟩∧P (i+1) s') E s):∀ (r:List Value) (i:Nat) (s:Shared),vs.drop i=r→i≤vs.length→P i s →
   wpAny M A (forIn r PUnit.unit body) (fun _ s'=>P vs.length s') E s
 | [],i,s,hr,hi,h=>by
  rw[List.forIn_nil]
  have:vs.length≤i:=List.drop_eq_nil_iff.mp hr
  exact wpAny_pure (by rw[show vs.length=i by lia];exact h)
 | x::r,i,s,hr,hi,h=>by
  have hx:vs[i]?=some x:=by
   have:=congrArg (·[0]?) hr
   simpa using this
  have hlt:i<vs.length:=(List.getElem?_eq_some_iff.mp hx).1
  have hr':vs.drop (i+1)=r:=by rw[← List.tail_drop,hr];rfl
  rw[List.forIn_cons]
  refine wpAny_bind (wpAny_mono (hb i x s hx h) (fun q s' hq=>?_) fun _ _ e=>e)
  obtain⟨rfl,h'⟩:=hq
  exact zhi P hb r (i+1) s' hr' hlt h'
end
section
variable {X:Cx}{pins:List (Addr×Obj)}{σ:St}{H:Hp}{s:Shared}{D st:Addr}{e:Nat}{κV:Nat→List V}{ks:List Addr}{E:Value→Shared→Prop}
def zhw (X:Cx) (G:Array Nat→Prop) (ks vs:List Value) (E:Value→Shared→Prop) (s:Shared):Prop :=
 wpAny (model X.prog X.w) X.A.in1.in1 (keyKind' ks.toArray) (fun κ s0=>s0=s ∧
  wpAny (model X.prog X.w) X.A.in1.in1 ((sortRuns').run (SortSt.mk' κ (ks.toArray.zip vs.toArray) #[] 7 none)) (fun r s'=>s'=s∧failedOf r.2=none∧∃ p:Array Nat,G p∧p.size=vs.length∧arrOf r.2=p.map (W.kas_item (ks.toArray.zip vs.toArray))) E s) E s
theorem zi1 {as : List Addr}(I : Inv X pins σ H s) : ∀ {ks : List Addr}{vs : List (List V)}{ns : List Int}, (∀ (i : Nat) (a : Addr), ks[i]? = some a → ∃ n r, ns[i]? = some n ∧ SqT X.K H a (.int n :: r)) → ns.length = ks.length →
  ∃ fs:List Value,W.KatTups s.heap (ks.map Value.ref) fs∧fs.length=ks.length∧∀ v∈fs,∃ n t,v=Value.int n t
 | [],_,_,_,_=>⟨[],.nil,rfl,fun _ h=>nomatch h⟩
 | a::r,vs,[],_,h=>by cases h
 | a::r,vs,n::ns,hk,h=>by
  obtain⟨m,q,e1,hq⟩:=hk 0 a rfl
  obtain⟨fs,t,hl,hi⟩:=zi1 (as:=as) (vs:=vs) I (ks:=r) (ns:=ns) (fun i b hb=>by simpa using hk (i+1) b (by simpa using hb)) (by simpa using h)
  obtain⟨its,rv,⟨o,ho,hc,c,hd⟩,_⟩:=I.tuple hq
  cases rv with
  | cons rx rr =>
   obtain⟨t1,rfl⟩:=rx
   refine⟨Value.int m t1::fs,.cons ho hc hd (by simp) t,by simp[hl],fun v hv=>?_⟩
   rcases List.mem_cons.mp hv with rfl | hv
   ·exact⟨_,_,rfl⟩
   ·exact hi v hv
end
section
variable {X:Cx}{k:Nat}{f:Addr}{fd:FuncData}{ps:List Str}{sp:Sp}{pins:List (Addr×Obj)}{σ:St}{H0 H:Hp}{s:Shared}{D st l:Addr}{e:Nat}{κV:Nat→List V}{ks:List Addr}{E:Value→Shared→Prop}{G:Array Nat→Prop}{xs:List V}{vs:List Value}{Q:VK}
def outV (xs:List V) (p:Array Nat):List V:=p.toList.map fun i=>xs.getD i .non
theorem zh8 {xs:List V}{vs:List Value}(r:Vals xs vs) (i:Nat) (hi:i<xs.length):RelV (xs.getD i .non) (vs.getD i Value.none):=by
 have hx:xs[i]?=some xs[i]:=by simp[hi]
 obtain⟨u,hu,ru⟩:=r.get hx
 rw[List.getD_eq_getElem?_getD,hx,List.getD_eq_getElem?_getD,hu]
 exact ru
theorem zgO {xs:List V}{vs:List Value}(r:Vals xs vs):∀ (l:List Nat),(∀ i∈l,i<xs.length)→Vals (l.map fun i=>xs.getD i .non) (l.map fun i=>vs.getD i Value.none)
 | [],_=>.nil
 | i::t,h=>.cons (zh8 r i (h i List.mem_cons_self)) (zgO r t fun j hj=>h j (List.mem_cons_of_mem _ hj))
theorem zgy {p:Array Nat}:(outV xs p).length=p.size:=by unfold outV;simp
theorem zkR {P : PySem.Fin → Shared → Prop}{so : SortSt}{out : List Value}{ys : List V}(K : SK X pins σ H s D st e κV ks) (hks : ks.length ≤ sizeLine) (ho : (arrOf so).map (·.2) = out.toArray) (ry : Vals ys out) (hz : ys.length ≤ sizeLine) (hf : failedOf so = none)
  (h:∀ s',Inv X pins σ (upd H D (.lst ys)) s'→P (.done (.ret .none)) s'):wpAny (model X.prog X.w) X.A.in1.in1 (ksk_tail D false e (.ref st) so) P E s:=by
 obtain⟨c,hc⟩:=K.hs
 have hzo:out.length≤sizeLine:=by rw[← ry.length];exact hz
 have s1:=Heap.SameBut.update s.heap st (Obj.mapSeq fun _=>(#[]:Array Value))
 have hd1:(s.heap.update st (Obj.mapSeq fun _=>(#[]:Array Value))).get? D=some (seqObj "list" #[] e):=(s1.2 D K.ne.symm).trans K.hd
 have s2:=Heap.SameBut.update (s.heap.update st (Obj.mapSeq fun _=>(#[]:Array Value))) D (Obj.mapSeq fun _=>out.toArray)
 obtain⟨c2,hc2⟩:∃ c2,((s.heap.update st (Obj.mapSeq fun _=>(#[]:Array Value))).update D (Obj.mapSeq fun _=>out.toArray)).get? D=some (seqObj "list" out.toArray c2):=⟨_,get?_update_seq hd1 fun _=>out.toArray⟩
 unfold ksk_tail
 try dsimp only
 rw[ho]
 refine wpAny_bind (listUpdate_at hc rfl ?_ (by simpa using hks) (Nat.zero_le _))
 refine wpAny_bind (wpAny_letGo ?_)
 refine wpAny_bind (seqEpoch_at hd1 rfl ?_)
 simp only[Bool.false_eq_true,if_false]
 refine wpAny_bind (listUpdate_at hd1 rfl ?_ (Nat.zero_le _) (by simp;lia))
 rw[hf]
 simp only[bne_self_eq_false,Bool.false_eq_true,if_false]
 refine wpAny_pure (h _ ?_)
 have I1:Inv X pins σ H { s with heap:=s.heap.update st (Obj.mapSeq fun _=>(#[]:Array Value)) }:=K.inv.moved (t':=s.toks) K.fs (fun b o hb e=>(s1.2 b fun z=>hb (by simp[z])).trans e)
 exact I1.adopt (t':=s.toks) K.fd (fun b u hb q=>(s2.2 b hb).trans q) ⟨_,hc2⟩ ⟨hz,out,c2,ry,hc2⟩
theorem zlE {P : PySem.Fin → Shared → Prop}(K : SK X pins σ H s D st e κV ks) (hl : ks.length = vs.length) (r : Vals xs vs) (hz : xs.length ≤ sizeLine) (hG : ∀ p, G p → ∀ i ∈ p.toList, i < xs.length)
  (h0:vs.length<2→G (List.toArray (List.range vs.length))) (core:2≤vs.length→zhw X G (ks.map Value.ref) vs E s)
  (h:∀ p s',G p→p.size=xs.length→Inv X pins σ (upd H D (.lst (outV xs p))) s'→P (.done (.ret .none)) s'):wpAny (model X.prog X.w) X.A.in1.in1 (ksk_end D false vs.toArray e (.ref st) (ks.map Value.ref).toArray) P E s:=by
 have hlx:xs.length=vs.length:=r.length
 have hl':(ks.map Value.ref).length=vs.length:=by simp[hl]
 have fin:∀ (p:Array Nat) (so:SortSt),G p→p.size=vs.length→arrOf so=p.map (W.kas_item ((ks.map Value.ref).toArray.zip vs.toArray))→failedOf so=none→wpAny (model X.prog X.w) X.A.in1.in1 (ksk_tail D false e (.ref st) so) P E s:=fun p so g hp ha hf =>
  zkR K (by lia) (W.kat_snds hl' ha) (ys:=outV xs p) (zgO r _ (hG p g)) (by rw[zgy];lia) hf fun s' I'=>h p s' g (by lia) I'
 unfold ksk_end
 try dsimp only
 simp only[Bool.false_eq_true,if_false]
 by_cases h2:vs.length<2
 ·have h2':vs.toArray.size<2:=by simpa using h2
  rw[if_pos h2',if_pos h2']
  refine wpAny_bind (wpAny_pure ?_)
  show wpAny (model X.prog X.w) X.A.in1.in1 (pure ((),SortSt.mk' general' ((ks.map Value.ref).toArray.zip vs.toArray) #[] 7 none) >>= _) P E s
  refine wpAny_bind (wpAny_pure ?_)
  try dsimp only
  refine fin (List.toArray (List.range vs.length)) _ (h0 h2) (by simp) ?_ rfl
  have:=W.kas_range ((ks.map Value.ref).toArray.zip vs.toArray)
  rw[show ((ks.map Value.ref).toArray.zip vs.toArray).size=vs.length by simp[hl]] at this
  exact this.symm
 ·have h2':¬ vs.toArray.size<2:=by simpa using h2
  rw[if_neg h2',if_neg h2']
  refine wpAny_bind (wpAny_mono (core (by lia)) (fun κ s0 hk=>?_) fun _ _ z=>z)
  obtain⟨rfl,hk⟩:=hk
  refine wpAny_bind (wpAny_mono hk (fun r' s' hr=>?_) fun _ _ z=>z)
  obtain⟨rfl,hf,p,g,hp,ha⟩:=hr
  obtain⟨⟨⟩,so⟩:=r'
  try dsimp only
  exact fin p so g hp ha hf
theorem zkS {P : PySem.Fin → Shared → Prop}(F : FnOk X.prog X.w X.K X.mg X.base CX0 k f fd ps sp) (hr : Room (k + 1 + 1) X.A) (hb : Binds X.K fd ps [])
    (turn:∀ i x H,xs[i]?=some x→Same H0 H→sp [x] H (fun v H'=>Same H H'∧∃ a,v=.ref a∧SqT X.K H' a (κV i)) E0)
    (K:SK X pins σ H0 s D st e κV []) (r:Vals xs vs) (hz:xs.length≤sizeLine)
    (h:∀ H' s' ks,ks.length=vs.length→Same H0 H'→SK X pins σ H' s' D st e κV ks→wpAny (model X.prog X.w) X.A.in1.in1 (ksk_end D false vs.toArray e (.ref st) (ks.map Value.ref).toArray) P E s') :
    wpAny (model X.prog X.w) X.A.in1.in1 (ksk_rest D (.ref f) false vs.toArray e (.ref st)) P E s:=by
  have hlx:xs.length=vs.length:=r.length
  unfold ksk_rest
  refine wpAny_bind (wpAny_rule ?_)
  rw[List.forIn_toArray]
  refine wpAny_bind (wpAny_mono (zhi (vs:=vs) (fun i s'=>∃ H' ks,ks.length=i∧Same H0 H'∧SK X pins σ H' s' D st e κV ks) (fun i x s1 hx hP=>?_) vs 0 s rfl (Nat.zero_le _) ⟨H0,[],rfl,Same.refl _,K⟩) (fun _ s' hd=>?_) fun _ _ z=>z)
  · obtain⟨H1,ks,hkl,hS,K1⟩:=hP
    have hi:i<xs.length:=by rw[hlx];exact (List.getElem?_eq_some_iff.mp hx).1
    have hxx:xs[i]?=some xs[i]:=by simp[hi]
    obtain⟨u,hu,ru⟩:=r.get hxx
    rw[hx] at hu
    cases hu
    obtain⟨c,hc⟩:=K1.hs
    have I1 : Inv X (pins ++ zdi [D, st] s1.heap) σ H1 s1 := K1.inv.pinned (fun b hb => by
        rcases List.mem_cons.mp hb with rfl | hb
        · exact K1.fd
        · rw[List.mem_singleton.mp hb];exact K1.fs) (fun b hb=>by
        rcases List.mem_cons.mp hb with rfl | hb
        · exact⟨_,K1.hd,zcE⟩
        · rw[List.mem_singleton.mp hb];exact⟨_,hc,zcE⟩)
    refine wpAny_bind (wpAny_attempt (wpAny_mono (zkU F hr hb I1 (.cons ru .nil) (turn i _ H1 hxx hS) (E:=fun _ _=>False)) (fun v s2 hv=>?_) fun _ _ hF=>hF.elim))
    obtain⟨y,H2,I2,ry,hS2,a,ey,ka⟩:=hv
    subst ey
    cases (show v=Value.ref a from ry)
    have p1:=I2.pin (D,seqObj "list" #[] e) (List.mem_append_right _ (List.mem_append_right _ (za8 (by simp) K1.hd)))
    have p2:=I2.pin (st,seqObj "list" (ks.map Value.ref).toArray c) (List.mem_append_right _ (List.mem_append_right _ (za8 (by simp) hc)))
    have sb:=Heap.SameBut.update s2.heap st (Obj.mapSeq (·.push (Value.ref a)))
    have ea:(ks.map Value.ref).toArray.push (Value.ref a)=((ks++[a]).map Value.ref).toArray:=by simp
    obtain⟨c2,hc2⟩:∃ c2,(s2.heap.update st (Obj.mapSeq (·.push (Value.ref a)))).get? st=some (seqObj "list" ((ks++[a]).map Value.ref).toArray c2):=⟨_,by rw[← ea];exact get?_update_seq p2.1 (·.push (Value.ref a))⟩
    try dsimp only
    refine wpAny_bind (listUpdate_at p2.1 rfl ?_ (by simp;lia) (by simp;lia))
    refine wpAny_pure ⟨rfl,H2,ks++[a],by simp[hkl],hS.trans hS2,I2.unpinned.moved (t':=s2.toks) (K1.fs.again p2.2.1) (fun b o hb e=>(sb.2 b fun z=>hb (by simp[z])).trans e),K1.fd.again p1.2.1,K1.fs.again p2.2.1,K1.ne,(sb.2 D K1.ne.symm).trans p1.1,⟨c2,hc2⟩,fun j b hj=>?_⟩
    rcases Nat.lt_or_ge j ks.length with hjl | hjl
    · rw[List.getElem?_append_left hjl] at hj
      exact hS2.seqT (K1.hk j b hj)
    · rw[List.getElem?_append_right hjl] at hj
      have hj0:j - ks.length=0:=by
        have:=(List.getElem?_eq_some_iff.mp hj).1
        simp at this;lia
      rw[hj0] at hj
      cases Option.some.inj hj
      rw[show j=i by lia];exact ka
  · obtain⟨H',ks,hkl,hS,K'⟩:=hd
    obtain⟨c,hc⟩:=K'.hs
    try dsimp only
    refine wpAny_bind (listItems_at hc rfl ?_)
    exact h H' s' ks hkl hS K'
theorem zkQ {P : PySem.Fin → Shared → Prop}{c0 : Nat}(F : FnOk X.prog X.w X.K X.mg X.base CX0 k f fd ps sp) (hr : Room (k + 1 + 1) X.A) (hb : Binds X.K fd ps [])
  (turn:∀ i x H,xs[i]?=some x→Same H0 H→sp [x] H (fun v H'=>Same H H'∧∃ a,v=.ref a∧SqT X.K H' a (κV i)) E0)
  (I:Inv X pins σ H0 s) (fb:FpOk X pins H0 D) (hd:s.heap.get? D=some (seqObj "list" vs.toArray c0)) (r:Vals xs vs) (hz:xs.length≤sizeLine)
  (h:∀ e H' s' ks st,ks.length=vs.length→Same H0 H'→SK X pins σ H' s' D st e κV ks→wpAny (model X.prog X.w) X.A.in1.in1 (ksk_end D false vs.toArray e (.ref st) (ks.map Value.ref).toArray) P E s') :
  wpAny (model X.prog X.w) X.A.in1.in1 (ksk_tree D (.ref f) false) P E s:=by
 have hlx:xs.length=vs.length:=r.length
 have s1:=Heap.SameBut.update s.heap D (Obj.mapSeq fun _=>(#[]:Array Value))
 obtain⟨e1,ho1⟩:∃ e1,(s.heap.update D (Obj.mapSeq fun _=>(#[]:Array Value))).get? D=some (seqObj "list" #[] e1):=⟨_,get?_update_seq hd fun _=>#[]⟩
 have hDl:D<s.heap.objs.size:=Heap.lt_size hd
 unfold ksk_tree
 refine wpAny_bind (listItems_at hd rfl ?_)
 refine wpAny_bind (listUpdate_at hd rfl ?_ (by simp;lia) (Nat.zero_le _))
 refine wpAny_bind (seqEpoch_at ho1 rfl ?_)
 refine wpAny_bind (wpAny_newTuple ?_ (by simp;lia))
 refine wpAny_bind (wpAny_newList ?_ (Nat.zero_le _))
 refine wpAny_holding ?_
 have I1:Inv X pins σ H0 { s with heap:=s.heap.update D (Obj.mapSeq fun _=>(#[]:Array Value)) }:=I.moved (t':=s.toks) fb (fun b o hb e=>(s1.2 b fun z=>hb (by simp[z])).trans e)
 have keep:∀ b o,(s.heap.update D (Obj.mapSeq fun _=>(#[]:Array Value))).get? b=some o→(((s.heap.update D (Obj.mapSeq fun _=>(#[]:Array Value))).push (seqObj "tuple" vs.toArray.toList.toArray 0)).push (seqObj "list" #[] 0)).get? b=some o:=fun b o q=>Heap.get?_push_of_some _ (Heap.get?_push_of_some _ q)
 have hsz:((s.heap.update D (Obj.mapSeq fun _=>(#[]:Array Value))).push (seqObj "tuple" vs.toArray.toList.toArray 0)).objs.size=s.heap.objs.size+1:=by rw[size_push',Heap.size_update]
 have I2:Inv X pins σ H0 { s with heap:=((s.heap.update D (Obj.mapSeq fun _=>(#[]:Array Value))).push (seqObj "tuple" vs.toArray.toList.toArray 0)).push (seqObj "list" #[] 0) }:=I1.kept (t':=s.toks) keep
 show wpAny (model X.prog X.w) X.A.in1.in1 (ksk_rest D (.ref f) false vs.toArray _ (.ref ((s.heap.update D (Obj.mapSeq fun _=>(#[]:Array Value))).push (seqObj "tuple" vs.toArray.toList.toArray 0)).objs.size)) P E { s with heap:=((s.heap.update D (Obj.mapSeq fun _=>(#[]:Array Value))).push (seqObj "tuple" vs.toArray.toList.toArray 0)).push (seqObj "list" #[] 0) }
 rw[hsz]
 have hss:(((s.heap.update D (Obj.mapSeq fun _=>(#[]:Array Value))).push (seqObj "tuple" vs.toArray.toList.toArray 0)).push (seqObj "list" #[] 0)).get? (s.heap.objs.size+1)=some (seqObj "list" #[] 0):=by rw[← hsz];exact Heap.get?_push_size _ rfl
 exact zkS F hr hb turn ⟨I2,fb,I.fpOk (Nat.le_succ _) (I.hok.fresh (Nat.le_succ _)),Nat.ne_of_gt (Nat.lt_succ_of_lt hDl),keep _ _ ho1,⟨0,by simpa using hss⟩,fun i a ha=>by simp at ha⟩ r hz fun H' s' ks a b c=>h _ H' s' ks _ a b c
end
section
variable {X:Cx}{k:Nat}{f:Addr}{fd:FuncData}{ps:List Str}{sp:Sp}{pins:List (Addr×Obj)}{σ:St}{H0:Hp}{s:Shared}{l:Addr}{κV:Nat→List V}{G:Array Nat→Prop}{xs:List V}{Q:VK}
theorem zhU (F : FnOk X.prog X.w X.K X.mg X.base CX0 k f fd ps sp) (hr : Room (k + 1 + 1) X.A) (hb : Binds X.K fd ps [])
  (turn:∀ i x H,xs[i]?=some x→Same H0 H→sp [x] H (fun v H'=>Same H H'∧∃ a,v=.ref a∧SqT X.K H' a (κV i)) E0)
  (hl:SqL X.K H0 l xs) (hG:∀ p,G p→∀ i∈p.toList,i<xs.length) (h0:xs.length<2→G (List.toArray (List.range xs.length)))
  (core:∀ {vs:List Value} {ks:List Addr} {H':Hp} {s':Shared} {D st:Addr} {e:Nat},Vals xs vs→SK X pins σ H' s' D st e κV ks→ks.length=vs.length→2≤vs.length→zhw X G (ks.map Value.ref) vs X.xe s')
  (hQ:∀ p D H',G p→p.size=xs.length→H0 D=none→Same H0 H'→H' D=some (.lst (outV xs p))→Q (.ref D) H') (I:Inv X pins σ H0 s) :
  wpAny (model X.prog X.w) X.A (call (.builtin "sorted") [.ref l] [(Str.ofString "key",.ref f)]) (EP X pins σ Q) X.xe s:=by
 obtain⟨vs,r,pl,hz⟩:=I.list hl
 have hlx:xs.length=vs.length:=r.length
 refine call_function_entry_kw kind_sorted plain_sorted entry_sorted (ksk_s1 _ _) ?_
 unfold Builtin.«sorted»
 refine wpAny_bind (m:=checkCount "sorted" 1 1 _) (wpAny_pure ?_)
 refine wpAny_bind (collect_list pl.isList ?_ (by first | lia | (rw[List.size_toArray];lia) | (simp;lia)))
 refine wpAny_bind (wpAny_newList ?_ (by first | lia | (rw[List.size_toArray];lia) | (simp;lia)))
 have hsz:((s.heap.push (seqObj "list" #[] 0)).update s.heap.objs.size (Obj.mapSeq (·++vs.toArray))).objs.size=s.heap.objs.size+1:=by rw[Heap.size_update,size_push']
 have hoL:(((s.heap.push (seqObj "list" #[] 0)).update s.heap.objs.size (Obj.mapSeq (·++vs.toArray))).push (seqObj "list" vs.toArray 0)).get? (s.heap.objs.size+1)=some (seqObj "list" vs.toArray 0):=by
  rw[← hsz];exact Heap.get?_push_size _ rfl
 have keep:∀ b o,s.heap.get? b=some o→(((s.heap.push (seqObj "list" #[] 0)).update s.heap.objs.size (Obj.mapSeq (·++vs.toArray))).push (seqObj "list" vs.toArray 0)).get? b=some o:=fun b o q=>by
  have hlt:b<s.heap.objs.size:=Heap.lt_size q
  rw[Heap.get?_push_ne _ _ _ (by rw[hsz];exact Nat.ne_of_lt (Nat.lt_succ_of_lt hlt)),Heap.get?_update_ne _ _ _ _ (Nat.ne_of_lt hlt),Heap.get?_push_ne _ _ _ (Nat.ne_of_lt hlt)]
  exact q
 show wpAny _ _ _ _ _ { s with heap:=((s.heap.push (seqObj "list" #[] 0)).update s.heap.objs.size (Obj.mapSeq (·++vs.toArray))).push (seqObj "list" vs.toArray 0) }
 rw[hsz]
 refine wpAny_bind (wpAny_holding (wpAny_call_entry_kw slot_list_sort ⟨_,hoL,rfl⟩ entry_list_sort ?body (ksk_l1 _ _)))
 case body =>
  show wpAny (model X.prog X.w) X.A.in1.in1 (Builtin.«list.sort» ⟨[.ref (s.heap.objs.size+1)],[(Str.ofString "key",.ref f)]⟩) _ _ _
  rw[ksk_t1]
  have I1:Inv X pins σ H0 { s with heap:=((s.heap.push (seqObj "list" #[] 0)).update s.heap.objs.size (Obj.mapSeq (·++vs.toArray))).push (seqObj "list" vs.toArray 0) }:=I.kept (t':=s.toks) keep
  have hDn:H0 (s.heap.objs.size+1)=none:=I.hok.fresh (Nat.le_succ _)
  refine zkQ F hr hb turn I1 (I.fpOk (Nat.le_succ _) hDn) hoL r hz fun e H' s' ks st hks hS K=>?_
  refine zlE K hks r hz hG (fun h2=>by rw[← hlx];exact h0 (by lia)) (core r K hks) fun p s2 g hp I2=>⟨_,rfl,?_⟩
  refine wpAny_pure ⟨_,rfl,.ref (s.heap.objs.size+1),_,I2,rfl,hQ p _ _ g hp hDn (fun b o q=>?_) zaa⟩
  rw[zaj (zar q hDn)]
  exact hS b o q
end
section
variable {X:Cx}{x:Str}{p pos kp kpos:Pos}{e:Expr}{te:TE}{k:Nat}{f:Addr}{fd:FuncData}{ps:List Str}{sp:Sp}{fn:Str}
def tMinK (K:W.Frag) (te:TE) (sp:Sp):TE:=fun σ H Q=>te σ H fun v H1=>∃ l xs,∃ κ:Nat→List Int,[v]=[V.ref l]∧SqL K H1 l xs∧0<xs.length ∧
 (∀ i x H2,xs[i]?=some x→Same H1 H2→sp [x] H2 (fun v H'=>Same H2 H'∧∃ a,v=.ref a∧SqT K H' a ((κ i).map V.int)) E0)∧∀ i x H',xs[i]?=some x→Least κ xs.length i→Same H1 H'→Q x H'
theorem zkZ (F : FnOk X.prog X.w X.K X.mg X.base CX0 k f fd ps sp) (hr : Room (k + 1) X.A) (hb : Binds X.K fd ps []) (hg : Gl X "min") (hm : X.mg "min" = none) (hgf : Gl X fn) (hmf : X.mg fn = some (.ref f)) (he : PE X e te)
  (hdb:(fn == ("__debug__" : Str))=false:=by decide) (hse:starEach [e] X.env=[(false,eval e X.env)]:=by rfl) (hh:X.calm=true:=by rfl)
  (hall:(backToKw pos (keywordEach [⟨some "key",.Name fn kp,kpos⟩] X.env)).all (·.1.isSome)=true:=by rfl) (hkw:(backToKw pos (keywordEach [⟨some "key",.Name fn kp,kpos⟩] X.env)).any (·.1.isNone)=false:=by rfl)
  (hks:(backToKw pos (keywordEach [⟨some "key",.Name fn kp,kpos⟩] X.env)).filterMap (·.1)=[Str.ofString "key"]:=by rfl) :
  PE X (.Call (.Name "min" p) [e] [⟨some "key",.Name fn kp,kpos⟩] pos) (tMinK X.K te sp):=by
 intro pins s σ H Q I h
 refine wpAny_Call_Name_kw (zcz I hg hm boot_min ?_ (by decide) (by decide))
 refine callWith_kw (thn (zam he zad (hs:=hse) pos pins s σ H (fun vs H1=>∃ l xs,∃ κ:Nat→List Int,vs=[V.ref l]∧SqL X.K H1 l xs∧0<xs.length ∧
  (∀ i x H2,xs[i]?=some x→Same H1 H2→sp [x] H2 (fun v H'=>Same H2 H'∧∃ a,v=.ref a∧SqT X.K H' a ((κ i).map V.int)) E0)∧∀ i x H',xs[i]?=some x→Least κ xs.length i→Same H1 H'→Q x H') I ?_) fun us s1 ⟨vs,H1,I1,r,q⟩=>?_) (by rw[hse];rfl) (by rw[hse];rfl) hall hkw
 ·show te σ H _
  exact h
 ·obtain⟨l,xs,κ,rfl,hq,hne,turn,hQ⟩:=q
  obtain⟨u,rfl,ru⟩:=Vals.one r
  cases (show u=Value.ref l from ru)
  refine thn (ziC (nm:=some "key") (kpos:=kpos) (zdL (v:=.ref f) hgf hmf rfl hdb) zkv pos pins s1 σ H1 (fun zs H2=>zs=[.ref f]∧H2=H1) I1 ⟨rfl,rfl⟩) fun ws s2 ⟨zs,H2,I2,rz,q2⟩=>?_
  obtain⟨rfl,rfl⟩:=q2
  obtain⟨u2,rfl,ru2⟩:=Vals.one rz
  cases (show u2=Value.ref f from ru2)
  rw[hks]
  exact zjs (I1.ok.hd hh) F hr hb turn hq hne hQ I2
end
end L2
namespace TS
open PySem PyProof.Rows
def zdV:Bool→Keyed→Array Keyed→Nat→Nat→Nat→StateT SortSt Sem (Option Nat):=sortPriv% PySem.Builtin.gallop
def zhc:Array Keyed→Array Keyed→StateT SortSt Sem (Array Keyed):=sortPriv% PySem.Builtin.mergeLo
def zhd:Array Keyed→Array Keyed→StateT SortSt Sem (Array Keyed):=sortPriv% PySem.Builtin.mergeHi
structure LtOk (M:Model) (A:Around) (E:Value→Shared→Prop) (s:Shared) (kd:SortKind) (S:Keyed→Prop) (L:Keyed→Keyed→Bool):Prop where
 lt:∀ x y,S x→S y→∀ (st:SortSt) (Q:Option Bool→SortSt→Prop),kindOf st=kd→Q (some (L x y)) st→wpS M A E s (lt' x y) Q st
 tr:∀ x y z,S x→S y→S z→L y x=false→L z y=false→L z x=false
 as:∀ x y,S x→S y→L x y=true→L y x=false
section
variable {M:Model}{A:Around}{E:Value→Shared→Prop}{s:Shared}{kd:SortKind}{S:Keyed→Prop}{L:Keyed→Keyed→Bool}
theorem zai {arr:Array Keyed}{i:Nat}{x:Keyed}{st:SortSt}{Q:Keyed→SortSt→Prop}(h:arr[i]?=some x) (q:Q x st):wpS M A E s (elem' arr i) Q st:=by
 rw[elem'_eq,h]
 exact wpS_pure q
theorem zbS (O : LtOk M A E s kd S L){left : Bool}{key : Keyed}{arr : Array Keyed}{base n hint : Nat}{b : Nat → Bool}{Q : Option Nat → SortSt → Prop}{st : SortSt}(hk : kindOf st = kd) (hS : S key)
    (hb:∀ i,i<n→∃ x,arr[base+i]?=some x∧S x∧(if left=true then L x key else !L key x)=b i) (mono:∀ i j,i≤j→j<n→b j=true→b i=true) (hh:hint<n)
    (hQ:∀ k,k≤n→(∀ i,i<k→b i=true)→(∀ i,k≤i→i<n→b i=false)→Q (some k) st):wpS M A E s (zdV left key arr base n hint) Q st:=by
  have bey : ∀ i, i < n → ∀ (Q' : Option Bool → SortSt → Prop), Q' (some (b i)) st → wpS M A E s ((fun i => do
        let x ← elem' arr (base+i)
        if left=true then lt' x key
          else do
            let r ← lt' key x
            pure (Option.map (fun x=>!x) r)) i) Q' st:=fun i hi Q' q=>by
    obtain⟨x,e,sx,eb⟩:=hb i hi
    refine wpS_bind (zai e ?_)
    cases left with
    | true =>
      rw[if_pos rfl] at eb ⊢
      exact O.lt x key sx hS st Q' hk (by rw[eb];exact q)
    | false =>
      rw[if_neg (by simp)] at eb ⊢
      refine wpS_bind (O.lt key x hS sx st _ hk (wpS_pure ?_))
      show Q' (some (!L key x)) st
      rw[eb];exact q
  refine wpS_bind (bey hint hh _ ?_)
  dsimp only
  cases hbh:b hint with
  | true =>
    rw[if_pos rfl]
    refine wpS_bind (wpS_mono (wpS_forRange (I:=fun x c st'=>st'=st∧∃ la of,c=(none,la,of)∧la<n - hint∧la<of∧x+1≤of∧b (hint+la)=true)
      (Q:=fun c st'=>st'=st∧∃ la of,c=(none,la,of)∧la<n - hint∧la<of∧b (hint+la)=true∧(of<n - hint→b (hint+of)=false)) ?_ ?_ ⟨rfl,0,1,rfl,by lia,by lia,by lia,hbh⟩) ?_)
    · rintro x c st' _ hx ⟨rfl,la,of,rfl,g1,g2,g3,g4⟩
      dsimp only
      by_cases hge:of ≥ n - hint
      · rw[if_pos hge]
        exact wpS_pure ⟨rfl,la,of,rfl,g1,g2,g4,fun z=>absurd z (by lia)⟩
      · rw[if_neg hge]
        refine wpS_bind (bey (hint+of) (by lia) _ ?_)
        dsimp only
        cases hbo:b (hint+of) with
        | true =>
          rw[if_neg (by simp)]
          exact wpS_pure ⟨rfl,of,2*of+1,rfl,by lia,by lia,by lia,hbo⟩
        | false =>
          rw[if_pos (by simp)]
          exact wpS_pure ⟨rfl,la,of,rfl,g1,g2,g4,fun _=>hbo⟩
    · rintro c st' ⟨rfl,la,of,rfl,g1,g2,g3,g4⟩
      exact⟨rfl,la,of,rfl,g1,g2,g4,fun z=>absurd z (by simp at g3;lia)⟩
    · rintro c st' ⟨rfl,la,of,rfl,g1,g2,g3,g4⟩
      dsimp only
      have hlo:∀ i,i<hint+la+1→b i=true:=fun i hi=>mono i (hint+la) (by lia) (by lia) g3
      have hhi:∀ i,hint+min of (n - hint)≤i→i<n→b i=false:=fun i h1 h2=>by
        by_cases ho:of<n - hint
        · cases q:b i with
          | false=>rfl
          | true =>
            have:=mono (hint+of) i (by lia) h2 q
            rw[g4 ho] at this;cases this
        · exact absurd h2 (by lia)
      refine wpS_bind (wpS_mono (wpS_forRange (I:=fun x c z=>z=st'∧∃ lo hi,c=(none,lo,hi)∧lo≤hi∧hi≤n∧(hi - lo)+x≤n∧(∀ i,i<lo→b i=true)∧∀ i,hi≤i→i<n→b i=false)
        (Q:=fun c z=>z=st'∧∃ k,c=(none,k,k)∧k≤n∧(∀ i,i<k→b i=true)∧∀ i,k≤i→i<n→b i=false) ?_ ?_ ⟨rfl,hint+la+1,hint+min of (n - hint),rfl,by lia,by lia,by lia,hlo,hhi⟩) ?_)
      · rintro x c st'' _ hx ⟨rfl,lo,hi,rfl,g1,g2,g3,g4,g5⟩
        dsimp only
        by_cases hge:lo ≥ hi
        · rw[if_pos hge]
          have e:lo=hi:=by lia
          subst e
          exact wpS_pure ⟨rfl,lo,rfl,g2,g4,g5⟩
        · rw[if_neg hge]
          have hm:lo+(hi - lo) / 2<n:=by lia
          refine wpS_bind (bey _ hm _ ?_)
          dsimp only
          cases hbm:b (lo+(hi - lo) / 2) with
          | true =>
            rw[if_pos rfl]
            refine wpS_pure ⟨rfl,_,_,rfl,by lia,g2,by lia,fun i hi'=>?_,g5⟩
            exact mono i _ (by lia) hm hbm
          | false =>
            rw[if_neg (by simp)]
            refine wpS_pure ⟨rfl,_,_,rfl,by lia,by lia,by lia,g4,fun i hi1 hi2=>?_⟩
            cases q:b i with
            | false=>rfl
            | true=>rw[mono _ i hi1 hi2 q] at hbm;cases hbm
      · rintro c st'' ⟨rfl,lo,hi,rfl,g1,g2,g3,g4,g5⟩
        have e:lo=hi:=by simp at g3;lia
        subst e
        exact⟨rfl,lo,rfl,g2,g4,g5⟩
      · rintro c st'' ⟨rfl,k,rfl,g1,g2,g3⟩
        exact wpS_pure (hQ k g1 g2 g3)
  | false =>
    rw[if_neg (by simp)]
    refine wpS_bind (wpS_mono (wpS_forRange (I:=fun x c st'=>st'=st∧∃ la of,c=(none,la,of)∧la<hint+1∧la<of∧x+1≤of∧b (hint - la)=false)
      (Q:=fun c st'=>st'=st∧∃ la of,c=(none,la,of)∧la<hint+1∧la<of∧b (hint - la)=false∧(of<hint+1→b (hint - of)=true)) ?_ ?_ ⟨rfl,0,1,rfl,by lia,by lia,by lia,hbh⟩) ?_)
    · rintro x c st' _ hx ⟨rfl,la,of,rfl,g1,g2,g3,g4⟩
      dsimp only
      by_cases hge:of ≥ hint+1
      · rw[if_pos hge]
        exact wpS_pure ⟨rfl,la,of,rfl,g1,g2,g4,fun z=>absurd z (by lia)⟩
      · rw[if_neg hge]
        refine wpS_bind (bey (hint - of) (by lia) _ ?_)
        dsimp only
        cases hbo:b (hint - of) with
        | true =>
          rw[if_pos rfl]
          exact wpS_pure ⟨rfl,la,of,rfl,g1,g2,g4,fun _=>hbo⟩
        | false =>
          rw[if_neg (by simp)]
          exact wpS_pure ⟨rfl,of,2*of+1,rfl,by lia,by lia,by lia,hbo⟩
    · rintro c st' ⟨rfl,la,of,rfl,g1,g2,g3,g4⟩
      exact⟨rfl,la,of,rfl,g1,g2,g4,fun z=>absurd z (by simp at g3;lia)⟩
    · rintro c st' ⟨rfl,la,of,rfl,g1,g2,g3,g4⟩
      dsimp only
      have hlo:∀ i,i<hint+1 - min of (hint+1)→b i=true:=fun i hi=>by
        by_cases ho:of<hint+1
        · exact mono i (hint - of) (by lia) (by lia) (g4 ho)
        · exact absurd hi (by lia)
      have hhi:∀ i,hint - la≤i→i<n→b i=false:=fun i h1 h2=>by
        cases q:b i with
        | false=>rfl
        | true =>
          have:=mono (hint - la) i (by lia) h2 q
          rw[g3] at this;cases this
      refine wpS_bind (wpS_mono (wpS_forRange (I:=fun x c z=>z=st'∧∃ lo hi,c=(none,lo,hi)∧lo≤hi∧hi≤n∧(hi - lo)+x≤n∧(∀ i,i<lo→b i=true)∧∀ i,hi≤i→i<n→b i=false)
        (Q:=fun c z=>z=st'∧∃ k,c=(none,k,k)∧k≤n∧(∀ i,i<k→b i=true)∧∀ i,k≤i→i<n→b i=false) ?_ ?_ ⟨rfl,hint+1 - min of (hint+1),hint - la,rfl,by lia,by lia,by lia,hlo,hhi⟩) ?_)
      · rintro x c st'' _ hx ⟨rfl,lo,hi,rfl,g1,g2,g3,g4,g5⟩
        dsimp only
        by_cases hge:lo ≥ hi
        · rw[if_pos hge]
          have e:lo=hi:=by lia
          subst e
          exact wpS_pure ⟨rfl,lo,rfl,g2,g4,g5⟩
        · rw[if_neg hge]
          have hm:lo+(hi - lo) / 2<n:=by lia
          refine wpS_bind (bey _ hm _ ?_)
          dsimp only
          cases hbm:b (lo+(hi - lo) / 2) with
          | true =>
            rw[if_pos rfl]
            refine wpS_pure ⟨rfl,_,_,rfl,by lia,g2,by lia,fun i hi'=>?_,g5⟩
            exact mono i _ (by lia) hm hbm
          | false =>
            rw[if_neg (by simp)]
            refine wpS_pure ⟨rfl,_,_,rfl,by lia,by lia,by lia,g4,fun i hi1 hi2=>?_⟩
            cases q:b i with
            | false=>rfl
            | true=>rw[mono _ i hi1 hi2 q] at hbm;cases hbm
      · rintro c st'' ⟨rfl,lo,hi,rfl,g1,g2,g3,g4,g5⟩
        have e:lo=hi:=by simp at g3;lia
        subst e
        exact⟨rfl,lo,rfl,g2,g4,g5⟩
      · rintro c st'' ⟨rfl,k,rfl,g1,g2,g3⟩
        exact wpS_pure (hQ k g1 g2 g3)
end
end TS
namespace TS
section
variable {α:Type}{le:α→α→Prop}
structure MI (le:α→α→Prop) (a b out:List α) (ia ib:Nat):Prop where
 ha:ia≤a.length
 hb:ib≤b.length
 perm:(out++a.drop ia++b.drop ib).Perm (a++b)
 sorted:out.Pairwise le
 lea:∀ x∈out,∀ y∈a.drop ia,le x y
 leb:∀ x∈out,∀ y∈b.drop ib,le x y
theorem zcF (a:List α) (i k:Nat):a.drop i=(a.drop i).take k++a.drop (i+k):=by
 rw[← List.drop_drop,List.take_append_drop]
theorem MI.takeA {a b out : List α}{ia ib : Nat}(m : MI le a b out ia ib) (sa : a.Pairwise le) (k : Nat) (hk : ia + k ≤ a.length) (h : ∀ x ∈ (a.drop ia).take k, ∀ y ∈ b.drop ib, le x y) :
  MI le a b (out++(a.drop ia).take k) (ia+k) ib:=by
 have e:=zcF a ia k
 have sd:((a.drop ia).take k++a.drop (ia+k)).Pairwise le:=by rw[← e];exact sa.sublist (List.drop_sublist _ _)
 obtain⟨s1,s2,s3⟩:=List.pairwise_append.mp sd
 refine⟨hk,m.hb,?_,List.pairwise_append.mpr ⟨m.sorted,s1,fun x hx y hy=>m.lea x hx y ?_⟩,fun x hx y hy=>?_,fun x hx y hy=>?_⟩
 ·have:=m.perm
  rw[e] at this
  simpa[List.append_assoc] using this
 ·rw[e];exact List.mem_append_left _ hy
 ·rcases List.mem_append.mp hx with q | q
  ·exact m.lea x q y (by rw[e];exact List.mem_append_right _ hy)
  ·exact s3 x q y hy
 ·rcases List.mem_append.mp hx with q | q
  ·exact m.leb x q y hy
  ·exact h x q y hy
theorem MI.takeB {a b out : List α}{ia ib : Nat}(m : MI le a b out ia ib) (sb : b.Pairwise le) (k : Nat) (hk : ib + k ≤ b.length) (h : ∀ x ∈ (b.drop ib).take k, ∀ y ∈ a.drop ia, le x y) :
  MI le a b (out++(b.drop ib).take k) ia (ib+k):=by
 have e:=zcF b ib k
 have sd:((b.drop ib).take k++b.drop (ib+k)).Pairwise le:=by rw[← e];exact sb.sublist (List.drop_sublist _ _)
 obtain⟨s1,s2,s3⟩:=List.pairwise_append.mp sd
 refine⟨m.ha,hk,?_,List.pairwise_append.mpr ⟨m.sorted,s1,fun x hx y hy=>m.leb x hx y ?_⟩,fun x hx y hy=>?_,fun x hx y hy=>?_⟩
 ·have:=m.perm
  rw[e] at this
  refine List.Perm.trans ?_ this
  rw[List.append_assoc,List.append_assoc,List.append_assoc,← List.append_assoc ((b.drop ib).take k),← List.append_assoc (a.drop ia)]
  exact List.Perm.append_left _ (List.Perm.append_right _ List.perm_append_comm)
 ·rw[e];exact List.mem_append_left _ hy
 ·rcases List.mem_append.mp hx with q | q
  ·exact m.lea x q y hy
  ·exact h x q y hy
 ·rcases List.mem_append.mp hx with q | q
  ·exact m.leb x q y (by rw[e];exact List.mem_append_right _ hy)
  ·exact s3 x q y hy
def Res (le:α→α→Prop) (a b r:List α):Prop:=r.Perm (a++b)∧r.Pairwise le
theorem MI.done {a b out:List α}{ia ib:Nat}(m:MI le a b out ia ib) (sa:a.Pairwise le) (h:b.length≤ib):Res le a b (out++a.drop ia++b.drop ib):=by
 refine⟨m.perm,?_⟩
 rw[List.drop_of_length_le h,List.append_nil]
 exact List.pairwise_append.mpr ⟨m.sorted,sa.sublist (List.drop_sublist _ _),m.lea⟩
theorem MI.lastA {a b out:List α}{ia ib:Nat}(m:MI le a b out ia ib) (sa:a.Pairwise le) (sb:b.Pairwise le) (h:∀ x∈b.drop ib,∀ y∈a.drop ia,le x y):Res le a b (out++b.drop ib++a.drop ia):=by
 refine⟨?_,?_⟩
 ·refine List.Perm.trans ?_ m.perm
  rw[List.append_assoc,List.append_assoc]
  exact List.Perm.append_left _ List.perm_append_comm
 ·refine List.pairwise_append.mpr ⟨List.pairwise_append.mpr ⟨m.sorted,sb.sublist (List.drop_sublist _ _),m.leb⟩,sa.sublist (List.drop_sublist _ _),fun x hx y hy=>?_⟩
  rcases List.mem_append.mp hx with q | q
  ·exact m.lea x q y hy
  ·exact h x q y hy
theorem MI.start {a b:List α}{y:α}(sb:b.Pairwise le) (h0:b[0]?=some y) (h:∀ x∈a,le y x):MI le a b [y] 0 1:=by
 cases b with
 | nil=>cases h0
 | cons z r =>
  cases h0
  obtain⟨s1,s2⟩:=List.pairwise_cons.mp sb
  refine⟨Nat.zero_le _,by simp,?_,by simp,fun x hx w hw=>?_,fun x hx w hw=>?_⟩
  ·show ([y]++a++r).Perm (a++y::r)
   exact List.perm_middle.symm
  ·rw[List.mem_singleton.mp hx];exact h w hw
  ·rw[List.mem_singleton.mp hx];exact s1 w hw
end
end TS
namespace TS
open PySem PyProof.Rows
def Like (st st':SortSt):Prop:=kindOf st'=kindOf st∧arrOf st'=arrOf st∧pendingOf st'=pendingOf st∧failedOf st'=failedOf st
theorem Like.refl (st:SortSt):Like st st:=⟨rfl,rfl,rfl,rfl⟩
abbrev leOf (L:Keyed→Keyed→Bool):Keyed→Keyed→Prop:=fun x y=>L y x=false
section
variable {M:Model}{A:Around}{E:Value→Shared→Prop}{s:Shared}{kd:SortKind}{S:Keyed→Prop}{L:Keyed→Keyed→Bool}
theorem LtOk.rf (O:LtOk M A E s kd S L){x:Keyed}(h:S x):L x x=false:=by
 cases q:L x x with
 | false=>rfl
 | true=>rw[O.as x x h h q] at q;cases q
structure Two (S:Keyed→Prop) (L:Keyed→Keyed→Bool) (a b:Array Keyed):Prop where
 sa:a.toList.Pairwise (leOf L)
 sb:b.toList.Pairwise (leOf L)
 Sa:∀ x∈a.toList,S x
 Sb:∀ x∈b.toList,S x
theorem zao {a:Array Keyed}{i:Nat}{x:Keyed}(h:a[i]?=some x):x∈a.toList:=by
 have:a.toList[i]?=some x:=by simpa using h
 exact List.mem_of_getElem? this
theorem zcd {a:Array Keyed}{i:Nat}{x:Keyed}(h:a[i]?=some x):a.toList.drop i=x::a.toList.drop (i+1):=by
 have hl:i<a.toList.length:=by
  have:=(Array.getElem?_eq_some_iff.mp h).1
  simpa using this
 rw[List.drop_eq_getElem_cons hl]
 congr 1
 have:=(Array.getElem?_eq_some_iff.mp h).2
 simpa using this
theorem zcy {a:Array Keyed}(O:LtOk M A E s kd S L) (sa:a.toList.Pairwise (leOf L)) (Sa:∀ x∈a.toList,S x){i:Nat}{x y:Keyed}(h:a[i]?=some x) (hy:y∈a.toList.drop i):leOf L x y:=by
 rw[zcd h] at hy
 rcases List.mem_cons.mp hy with e | q
 ·rw[e];exact O.rf (Sa x (zao h))
 ·have:=sa.sublist (List.drop_sublist i _)
  rw[zcd h] at this
  exact (List.pairwise_cons.mp this).1 y q
variable {a b:Array Keyed}{out:Array Keyed}{ia ib:Nat}
theorem one_B (O : LtOk M A E s kd S L) (T : Two S L a b) (m : MI (leOf L) a.toList b.toList out.toList ia ib){x y : Keyed}(hb : b[ib]? = some x) (ha : a[ia]? = some y) (h : L x y = true) :
  MI (leOf L) a.toList b.toList (out.push x).toList ia (ib+1):=by
 have e:(b.toList.drop ib).take 1=[x]:=by rw[zcd hb];rfl
 have hl:ib+1≤b.toList.length:=by
  have:=(Array.getElem?_eq_some_iff.mp hb).1
  rw[Array.length_toList];exact this
 have:=m.takeB T.sb 1 hl fun z hz w hw=>by
  rw[e] at hz
  rw[List.mem_singleton.mp hz]
  have h1:leOf L x y:=O.as x y (T.Sb x (zao hb)) (T.Sa y (zao ha)) h
  exact O.tr x y w (T.Sb x (zao hb)) (T.Sa y (zao ha)) (T.Sa w (List.mem_of_mem_drop hw)) h1 (zcy O T.sa T.Sa ha hw)
 rw[e] at this
 rw[Array.toList_push]
 exact this
theorem one_A (O : LtOk M A E s kd S L) (T : Two S L a b) (m : MI (leOf L) a.toList b.toList out.toList ia ib){x y : Keyed}(hb : b[ib]? = some x) (ha : a[ia]? = some y) (h : L x y = false) :
  MI (leOf L) a.toList b.toList (out.push y).toList (ia+1) ib:=by
 have e:(a.toList.drop ia).take 1=[y]:=by rw[zcd ha];rfl
 have hl:ia+1≤a.toList.length:=by
  have:=(Array.getElem?_eq_some_iff.mp ha).1
  rw[Array.length_toList];exact this
 have:=m.takeA T.sa 1 hl fun z hz w hw=>by
  rw[e] at hz
  rw[List.mem_singleton.mp hz]
  exact O.tr y x w (T.Sa y (zao ha)) (T.Sb x (zao hb)) (T.Sb w (List.mem_of_mem_drop hw)) h (zcy O T.sb T.Sb hb hw)
 rw[e] at this
 rw[Array.toList_push]
 exact this
theorem zcC (a:Array Keyed) (i k:Nat):(a.extract i (i+k)).toList=(a.toList.drop i).take k:=by
 rw[Array.toList_extract,List.extract_eq_take_drop,Nat.add_sub_cancel_left]
theorem ze9 {a:Array Keyed}{i k:Nat}{x:Keyed}(h:x∈(a.toList.drop i).take k):∃ j,j<k∧a[i+j]?=some x:=by
 obtain⟨j,hj,e⟩:=List.getElem_of_mem h
 have hk:j<k:=by
  have:=hj
  rw[List.length_take] at this
  lia
 refine⟨j,hk,?_⟩
 have h1:((a.toList.drop i).take k)[j]?=some x:=by rw[List.getElem?_eq_getElem hj,e]
 rw[List.getElem?_take_of_lt hk,List.getElem?_drop] at h1
 simpa using h1
theorem blk_A (O : LtOk M A E s kd S L) (T : Two S L a b) (m : MI (leOf L) a.toList b.toList out.toList ia ib){x : Keyed}(hb : b[ib]? = some x) (k : Nat) (hk : ia + k ≤ a.size) (h : ∀ j y, j < k → a[ia + j]? = some y → L x y = false) :
  MI (leOf L) a.toList b.toList (out++a.extract ia (ia+k)).toList (ia+k) ib:=by
 rw[Array.toList_append,zcC]
 refine m.takeA T.sa k (by rw[Array.length_toList];exact hk) fun z hz w hw=>?_
 obtain⟨j,hj,e⟩:=ze9 hz
 exact O.tr z x w (T.Sa z (zao e)) (T.Sb x (zao hb)) (T.Sb w (List.mem_of_mem_drop hw)) (h j z hj e) (zcy O T.sb T.Sb hb hw)
theorem blk_B (O : LtOk M A E s kd S L) (T : Two S L a b) (m : MI (leOf L) a.toList b.toList out.toList ia ib){y : Keyed}(ha : a[ia]? = some y) (k : Nat) (hk : ib + k ≤ b.size) (h : ∀ j x, j < k → b[ib + j]? = some x → L x y = true) :
  MI (leOf L) a.toList b.toList (out++b.extract ib (ib+k)).toList ia (ib+k):=by
 rw[Array.toList_append,zcC]
 refine m.takeB T.sb k (by rw[Array.length_toList];exact hk) fun z hz w hw=>?_
 obtain⟨j,hj,e⟩:=ze9 hz
 exact O.tr z y w (T.Sb z (zao e)) (T.Sa y (zao ha)) (T.Sa w (List.mem_of_mem_drop hw)) (O.as z y (T.Sb z (zao e)) (T.Sa y (zao ha)) (h j z hj e)) (zcy O T.sa T.Sa ha hw)
theorem zkq (O : LtOk M A E s kd S L) (T : Two S L a b){st : SortSt}(hk : kindOf st = kd){x : Keyed}(Sx : S x) (hi : ia < a.size){Q : Option Nat → SortSt → Prop}
  (hQ:∀ k,ia+k≤a.size→(∀ j y,j<k→a[ia+j]?=some y→L x y=false)→(∀ j y,k≤j→a[ia+j]?=some y→L x y=true)→Q (some k) st) {hint:Nat} (hh:hint<a.size - ia) :
  wpS M A E s (zdV false x a ia (a.size - ia) hint) Q st:=by
 have at_:∀ i,i<a.size - ia→∃ y,a[ia+i]?=some y:=fun i h=>⟨a[ia+i],by simp[show ia+i<a.size by lia]⟩
 refine zbS (b:=fun i=>!(a[ia+i]?.elim false fun y=>L x y)) O hk Sx (fun i h=>?_) (fun i j hij hj q=>?_) hh fun k h1 h2 h3=>?_
 ·obtain⟨y,e⟩:=at_ i h
  exact⟨y,e,T.Sa y (zao e),by rw[if_neg (by simp),e];rfl⟩
 ·obtain⟨y,e⟩:=at_ j hj
  obtain⟨z,e2⟩:=at_ i (by lia)
  rw[e] at q
  rw[e2]
  have q1:L x y=false:=by simpa using q
  have le1:leOf L z y:=zcy O T.sa T.Sa e2 (by
   have:y∈(a.toList.drop (ia+i)).drop (j - i):=by
    rw[List.drop_drop,show ia+i+(j - i)=ia+j by lia,zcd e]
    exact List.mem_cons_self
   exact List.mem_of_mem_drop this)
  have:L x z=false:=O.tr z y x (T.Sa z (zao e2)) (T.Sa y (zao e)) Sx le1 q1
  simpa using this
 ·refine hQ k (by lia) (fun j y hj e=>?_) (fun j y hj e=>?_)
  ·have:=h2 j hj
   rw[e] at this
   simpa using this
  ·have hlt : j < a.size - ia := by
    have:=(Array.getElem?_eq_some_iff.mp e).1
    lia
   have:=h3 j hj hlt
   rw[e] at this
   simpa using this
theorem zg1 (O : LtOk M A E s kd S L) (T : Two S L a b){st : SortSt}(hk : kindOf st = kd){y : Keyed}(Sy : S y) (hi : ib < b.size){Q : Option Nat → SortSt → Prop}
  (hQ:∀ k,ib+k≤b.size→(∀ j x,j<k→b[ib+j]?=some x→L x y=true)→(∀ j x,k≤j→b[ib+j]?=some x→L x y=false)→Q (some k) st) {hint:Nat} (hh:hint<b.size - ib) :
  wpS M A E s (zdV true y b ib (b.size - ib) hint) Q st:=by
 have at_:∀ i,i<b.size - ib→∃ x,b[ib+i]?=some x:=fun i h=>⟨b[ib+i],by simp[show ib+i<b.size by lia]⟩
 refine zbS (b:=fun i=>b[ib+i]?.elim false fun x=>L x y) O hk Sy (fun i h=>?_) (fun i j hij hj q=>?_) hh fun k h1 h2 h3=>?_
 ·obtain⟨x,e⟩:=at_ i h
  exact⟨x,e,T.Sb x (zao e),by rw[if_pos rfl,e];rfl⟩
 ·obtain⟨x,e⟩:=at_ j hj
  obtain⟨z,e2⟩:=at_ i (by lia)
  rw[e] at q
  rw[e2]
  have q1:L x y=true:=q
  show L z y=true
  have le1:leOf L z x:=zcy O T.sb T.Sb e2 (by
   have:x∈(b.toList.drop (ib+i)).drop (j - i):=by
    rw[List.drop_drop,show ib+i+(j - i)=ib+j by lia,zcd e]
    exact List.mem_cons_self
   exact List.mem_of_mem_drop this)
  cases w:L z y with
  | true=>rfl
  | false =>
   have:L x y=false:=O.tr y z x Sy (T.Sb z (zao e2)) (T.Sb x (zao e)) w le1
   rw[this] at q1;cases q1
 ·refine hQ k (by lia) (fun j x hj e=>?_) (fun j x hj e=>?_)
  ·have:=h2 j hj
   rw[e] at this
   exact this
  ·have hlt : j < b.size - ib := by
    have:=(Array.getElem?_eq_some_iff.mp e).1
    lia
   have:=h3 j hj hlt
   rw[e] at this
   exact this
end
end TS
set_option maxHeartbeats 8000000
namespace TS
open PySem PyProof.Rows
section
variable {M:Model}{A:Around}{E:Value→Shared→Prop}{s:Shared}{kd:SortKind}{S:Keyed→Prop}{L:Keyed→Keyed→Bool}{a b out:Array Keyed}{ia ib:Nat}
theorem zbO (a:Array Keyed) (i:Nat):(a.extract i a.size).toList=a.toList.drop i:=by
 rw[Array.toList_extract,List.extract_eq_take_drop,List.take_of_length_le (by simp)]
theorem zbU (T:Two S L a b) (m:MI (leOf L) a.toList b.toList out.toList ia ib) (h:b.size≤ib):Res (leOf L) a.toList b.toList (out++a.extract ia a.size++b.extract ib b.size).toList:=by
 rw[Array.toList_append,Array.toList_append,zbO,zbO]
 exact m.done T.sa (by rw[Array.length_toList];exact h)
theorem zfX (T:Two S L a b) (m:MI (leOf L) a.toList b.toList out.toList ia ib) (h:a.size≤ia):Res (leOf L) a.toList b.toList (out++a.extract ia a.size++b.extract ib b.size).toList:=by
 rw[Array.toList_append,Array.toList_append,zbO,zbO]
 have e:a.toList.drop ia=[]:=List.drop_of_length_le (by rw[Array.length_toList];exact h)
 refine⟨m.perm,?_⟩
 rw[e,List.append_nil]
 exact List.pairwise_append.mpr ⟨m.sorted,T.sb.sublist (List.drop_sublist _ _),m.leb⟩
theorem zbq (T:Two S L a b) (hl:∀ z,a[a.size - 1]?=some z→∀ x∈b.toList,leOf L x z) (m:MI (leOf L) a.toList b.toList out.toList ia ib) (h:ia+1=a.size):Res (leOf L) a.toList b.toList (out++b.extract ib b.size++a.extract ia a.size).toList:=by
 rw[Array.toList_append,Array.toList_append,zbO,zbO]
 have hlt:ia<a.size:=by lia
 have e:a[ia]?=some a[ia]:=by simp[hlt]
 refine m.lastA T.sa T.sb fun x hx y hy=>?_
 rw[zcd e,List.drop_of_length_le (by rw[Array.length_toList];lia)] at hy
 rw[List.mem_singleton.mp hy]
 exact hl _ (by rw[show a.size - 1=ia by lia];exact e) x (List.mem_of_mem_drop hx)
theorem zfP (O : LtOk M A E s kd S L) (T : Two S L a b){st : SortSt}{Q : Array Keyed → SortSt → Prop}(hk : kindOf st = kd) (ha : 0 < a.size) (hb : 0 < b.size) (h0 : ∀ y, b[0]? = some y → ∀ x ∈ a.toList, leOf L y x)
  (hl:∀ z,a[a.size - 1]?=some z→∀ x∈b.toList,leOf L x z) (hQ:∀ r st',Res (leOf L) a.toList b.toList r.toList→Like st st'→Q r st'):wpS M A E s (zhc a b) Q st:=by
 have atA:∀ i,i<a.size→∃ x,a[i]?=some x:=fun i h=>⟨a[i],by simp[h]⟩
 have atB:∀ i,i<b.size→∃ x,b[i]?=some x:=fun i h=>⟨b[i],by simp[h]⟩
 obtain⟨b0,e0⟩:=atB 0 hb
 have m0:MI (leOf L) a.toList b.toList (#[b0]:Array Keyed).toList 0 1:=MI.start T.sb (by simpa using e0) (h0 b0 e0)
 refine wpS_bind (wpS_lift (wpAny_rule ⟨rfl,?_⟩))
 refine wpS_bind (zai e0 ?_)
 dsimp only
 by_cases hb1:b.size=1
 ·rw[if_pos (by simp[hb1])]
  exact wpS_pure (hQ _ _ (zbU T m0 (by lia)) (Like.refl _))
 rw[if_neg (by simp;lia)]
 by_cases ha1:a.size=1
 ·rw[if_pos (by simp[ha1])]
  exact wpS_pure (hQ _ _ (zbq T hl m0 (by lia)) (Like.refl _))
 rw[if_neg (by simp;lia)]
 refine wpS_bind (wpS_get ?_)
 refine wpS_bind (wpS_mono (wpS_forRange (I:=fun x c st'=>Like st st'∧∃ out ia ib mg,c=(none,out,ia,ib,mg)∧MI (leOf L) a.toList b.toList out.toList ia ib∧ia+1<a.size∧ib<b.size∧x+1≤ia+ib)
  (Q:=fun c st'=>Like st st'∧∃ r,c.1=some r∧Res (leOf L) a.toList b.toList r.toList) ?step ?fin ⟨Like.refl _,_,_,_,_,rfl,m0,by lia,by lia,by lia⟩) ?post)
 case fin =>
  rintro c st' ⟨_,out,ia,ib,mg,rfl,m,g1,g2,g3⟩
  exact absurd g3 (by lia)
 case post =>
  rintro c st' ⟨lk,r,e,res⟩
  rw[e]
  exact wpS_pure (hQ r st' res lk)
 case step =>
  rintro x c st' _ hx ⟨lk,out,ia,ib,mg,rfl,m,g1,g2,g3⟩
  have hk':kindOf st'=kd:=lk.1.trans hk
  dsimp only
  refine wpS_bind (wpS_mono (wpS_forRange (I:=fun y c z=>z=st'∧∃ out' ia' ib' ac bc,c=(none,out',ia',ib',ac,bc)∧MI (leOf L) a.toList b.toList out'.toList ia' ib'∧ia'+1<a.size∧ib'<b.size∧ia+ib+y≤ia'+ib')
   (Q:=fun c z=>z=st'∧((∃ r,c.1=some r∧Res (leOf L) a.toList b.toList r.toList)∨∃ out' ia' ib' ac bc,c=(none,out',ia',ib',ac,bc)∧MI (leOf L) a.toList b.toList out'.toList ia' ib'∧ia'+1<a.size∧ib'<b.size∧ia+ib+1≤ia'+ib')) ?istep ?ifin ⟨rfl,out,ia,ib,_,_,rfl,m,g1,g2,by lia⟩) ?ipost)
  case ifin =>
   rintro c z ⟨rfl,out',ia',ib',ac,bc,rfl,m',j1,j2,j3⟩
   exact⟨rfl,.inr ⟨out',ia',ib',ac,bc,rfl,m',j1,j2,by lia⟩⟩
  case istep =>
   rintro y c z _ hy ⟨rfl,out',ia',ib',ac,bc,rfl,m',j1,j2,j3⟩
   obtain⟨xb,eb⟩:=atB ib' j2
   obtain⟨xa,ea⟩:=atA ia' (by lia)
   dsimp only
   refine wpS_bind (zai eb (wpS_bind (zai ea (wpS_bind (O.lt xb xa (T.Sb _ (zao eb)) (T.Sa _ (zao ea)) _ _ hk' ?_)))))
   dsimp only
   cases hw:L xb xa with
   | true =>
    rw[if_pos rfl]
    have m2:=one_B O T m' eb ea hw
    refine wpS_bind (zai eb ?_)
    by_cases hend:ib'+1=b.size
    ·rw[if_pos (by simp[hend])]
     exact wpS_pure ⟨rfl,.inl ⟨_,rfl,zbU T m2 (by lia)⟩⟩
    ·rw[if_neg (by simp[hend])]
     by_cases hg:bc+1 ≥ mg
     ·rw[if_pos hg]
      exact wpS_pure ⟨rfl,.inr ⟨_,_,_,_,_,rfl,m2,j1,by lia,by lia⟩⟩
     ·rw[if_neg hg]
      exact wpS_pure ⟨rfl,_,_,_,_,_,rfl,m2,j1,by lia,by lia⟩
   | false =>
    rw[if_neg (by simp)]
    have m2:=one_A O T m' eb ea hw
    refine wpS_bind (zai ea ?_)
    by_cases hend:ia'+1+1=a.size
    ·rw[if_pos (by simp[hend])]
     exact wpS_pure ⟨rfl,.inl ⟨_,rfl,zbq T hl m2 (by lia)⟩⟩
    ·rw[if_neg (by simp[hend])]
     by_cases hg:ac+1 ≥ mg
     ·rw[if_pos hg]
      exact wpS_pure ⟨rfl,.inr ⟨_,_,_,_,_,rfl,m2,by lia,j2,by lia⟩⟩
     ·rw[if_neg hg]
      exact wpS_pure ⟨rfl,_,_,_,_,_,rfl,m2,by lia,j2,by lia⟩
  case ipost =>
   rintro c z ⟨rfl,hc⟩
   rcases hc with⟨r,e,res⟩ | ⟨out',ia',ib',ac,bc,rfl,m',j1,j2,j3⟩
   ·rw[e]
    exact wpS_pure ⟨lk,r,rfl,res⟩
   ·dsimp only
    refine wpS_bind (wpS_lift (wpAny_rule ⟨rfl,?_⟩))
    refine wpS_bind (wpS_mono (wpS_forRange (I:=fun y c z=>Like st z∧∃ out2 ia2 ib2 mg2 ac2 bc2,c=(none,out2,ia2,ib2,mg2,ac2,bc2)∧MI (leOf L) a.toList b.toList out2.toList ia2 ib2∧ia2+1<a.size∧ib2<b.size∧ia'+ib'≤ia2+ib2)
     (Q:=fun c z=>Like st z∧((∃ r,c.1=some r∧Res (leOf L) a.toList b.toList r.toList)∨∃ out2 ia2 ib2 mg2 ac2 bc2,c=(none,out2,ia2,ib2,mg2,ac2,bc2)∧MI (leOf L) a.toList b.toList out2.toList ia2 ib2∧ia2+1<a.size∧ib2<b.size∧ia'+ib'≤ia2+ib2)) ?gstep ?gfin ⟨lk,out',ia',ib',_,_,_,rfl,m',j1,j2,Nat.le_refl _⟩) ?gpost)
    case gfin =>
     rintro c z ⟨lk2,rest⟩
     exact⟨lk2,.inr rest⟩
    case gpost =>
     rintro c z ⟨lk2,hc⟩
     rcases hc with⟨r,e,res⟩ | ⟨out2,ia2,ib2,mg2,ac2,bc2,rfl,m2,k1,k2,k3⟩
     ·rw[e]
      exact wpS_pure ⟨lk2,r,rfl,res⟩
     ·dsimp only
      refine wpS_bind (wpS_modify ?_)
      exact wpS_pure ⟨lk2,_,_,_,_,rfl,m2,k1,k2,by lia⟩
    case gstep =>
     rintro y c z _ hy ⟨lk2,out2,ia2,ib2,mg2,ac2,bc2,rfl,m2,k1,k2,k3⟩
     obtain⟨xb,eb⟩:=atB ib2 k2
     have hkz:kindOf z=kd:=lk2.1.trans hk
     have lk3:=lk2
     dsimp only
     by_cases hmg:mg2 > 1
     ·rw[if_pos hmg]
      refine wpS_bind (wpS_modify ?_)
      refine wpS_bind (zai eb ?_)
      refine wpS_bind (zkq O T (by exact hkz) (T.Sb _ (zao eb)) (by lia) (fun k q1 q2 q3=>?_) (by lia))
      dsimp only
      by_cases hk0:k > 0
      ·rw[if_pos hk0]
       have n1:=blk_A O T m2 eb k q1 q2
       by_cases e1:ia2+k+1=a.size
       ·rw[if_pos (by simp[e1])]
        exact wpS_pure ⟨lk3,.inl ⟨_,rfl,zbq T hl n1 e1⟩⟩
       ·rw[if_neg (by simp[e1])]
        by_cases e2:ia2+k=a.size
        ·rw[if_pos (by simp[e2])]
         exact wpS_pure ⟨lk3,.inl ⟨_,rfl,zfX T n1 (by lia)⟩⟩
        ·rw[if_neg (by simp[e2])]
         obtain⟨ya,ea3⟩:=atA (ia2+k) (by lia)
         have hw:L xb ya=true:=q3 k ya (Nat.le_refl _) ea3
         have n2:=one_B O T n1 eb ea3 hw
         refine wpS_bind (zai eb ?_)
         by_cases e3:ib2+1=b.size
         ·rw[if_pos (by simp[e3])]
          exact wpS_pure ⟨lk3,.inl ⟨_,rfl,zbU T n2 (by lia)⟩⟩
         ·rw[if_neg (by simp[e3])]
          refine wpS_bind (zai ea3 ?_)
          refine wpS_bind (zg1 O T (by exact hkz) (T.Sa _ (zao ea3)) (by lia) (fun k' r1 r2 r3=>?_) (by lia))
          dsimp only
          by_cases hk1:k' > 0
          ·rw[if_pos hk1]
           have n3:=blk_B O T n2 ea3 k' r1 r2
           by_cases e4:ib2+1+k'=b.size
           ·rw[if_pos (by simp[e4])]
            exact wpS_pure ⟨lk3,.inl ⟨_,rfl,zbU T n3 (by lia)⟩⟩
           ·rw[if_neg (by simp[e4])]
            obtain⟨xb3,eb3⟩:=atB (ib2+1+k') (by lia)
            have hw2:L xb3 ya=false:=r3 k' xb3 (Nat.le_refl _) eb3
            have n4:=one_A O T n3 eb3 ea3 hw2
            refine wpS_bind (zai ea3 ?_)
            by_cases e5:ia2+k+1+1=a.size
            ·rw[if_pos (by simp[e5])]
             exact wpS_pure ⟨lk3,.inl ⟨_,rfl,zbq T hl n4 (by lia)⟩⟩
            ·rw[if_neg (by simp[e5])]
             split
             ·exact wpS_pure ⟨lk3,.inr ⟨_,_,_,_,_,_,rfl,n4,by lia,by lia,by lia⟩⟩
             ·exact wpS_pure ⟨lk3,_,_,_,_,_,_,rfl,n4,by lia,by lia,by lia⟩
          ·rw[if_neg hk1]
           have kz1:k'=0:=by lia
           subst kz1
           obtain⟨xb3,eb3⟩:=atB (ib2+1) (by lia)
           have hw2:L xb3 ya=false:=r3 0 xb3 (Nat.le_refl _) (by simpa using eb3)
           have n4:=one_A O T n2 eb3 ea3 hw2
           refine wpS_bind (zai ea3 ?_)
           by_cases e5:ia2+k+1+1=a.size
           ·rw[if_pos (by simp[e5])]
            exact wpS_pure ⟨lk3,.inl ⟨_,rfl,zbq T hl n4 (by lia)⟩⟩
           ·rw[if_neg (by simp[e5])]
            split
            ·exact wpS_pure ⟨lk3,.inr ⟨_,_,_,_,_,_,rfl,n4,by lia,by lia,by lia⟩⟩
            ·exact wpS_pure ⟨lk3,_,_,_,_,_,_,rfl,n4,by lia,by lia,by lia⟩
      ·rw[if_neg hk0]
       have kz:k=0:=by lia
       subst kz
       obtain⟨ya,ea3⟩:=atA (ia2) (by lia)
       have hw:L xb ya=true:=q3 0 ya (Nat.le_refl _) (by simpa using ea3)
       have n2:=one_B O T m2 eb ea3 hw
       refine wpS_bind (zai eb ?_)
       by_cases e3:ib2+1=b.size
       ·rw[if_pos (by simp[e3])]
        exact wpS_pure ⟨lk3,.inl ⟨_,rfl,zbU T n2 (by lia)⟩⟩
       ·rw[if_neg (by simp[e3])]
        refine wpS_bind (zai ea3 ?_)
        refine wpS_bind (zg1 O T (by exact hkz) (T.Sa _ (zao ea3)) (by lia) (fun k' r1 r2 r3=>?_) (by lia))
        dsimp only
        by_cases hk1:k' > 0
        ·rw[if_pos hk1]
         have n3:=blk_B O T n2 ea3 k' r1 r2
         by_cases e4:ib2+1+k'=b.size
         ·rw[if_pos (by simp[e4])]
          exact wpS_pure ⟨lk3,.inl ⟨_,rfl,zbU T n3 (by lia)⟩⟩
         ·rw[if_neg (by simp[e4])]
          obtain⟨xb3,eb3⟩:=atB (ib2+1+k') (by lia)
          have hw2:L xb3 ya=false:=r3 k' xb3 (Nat.le_refl _) eb3
          have n4:=one_A O T n3 eb3 ea3 hw2
          refine wpS_bind (zai ea3 ?_)
          by_cases e5:ia2+1+1=a.size
          ·rw[if_pos (by simp[e5])]
           exact wpS_pure ⟨lk3,.inl ⟨_,rfl,zbq T hl n4 (by lia)⟩⟩
          ·rw[if_neg (by simp[e5])]
           split
           ·exact wpS_pure ⟨lk3,.inr ⟨_,_,_,_,_,_,rfl,n4,by lia,by lia,by lia⟩⟩
           ·exact wpS_pure ⟨lk3,_,_,_,_,_,_,rfl,n4,by lia,by lia,by lia⟩
        ·rw[if_neg hk1]
         have kz1:k'=0:=by lia
         subst kz1
         obtain⟨xb3,eb3⟩:=atB (ib2+1) (by lia)
         have hw2:L xb3 ya=false:=r3 0 xb3 (Nat.le_refl _) (by simpa using eb3)
         have n4:=one_A O T n2 eb3 ea3 hw2
         refine wpS_bind (zai ea3 ?_)
         by_cases e5:ia2+1+1=a.size
         ·rw[if_pos (by simp[e5])]
          exact wpS_pure ⟨lk3,.inl ⟨_,rfl,zbq T hl n4 (by lia)⟩⟩
         ·rw[if_neg (by simp[e5])]
          split
          ·exact wpS_pure ⟨lk3,.inr ⟨_,_,_,_,_,_,rfl,n4,by lia,by lia,by lia⟩⟩
          ·exact wpS_pure ⟨lk3,_,_,_,_,_,_,rfl,n4,by lia,by lia,by lia⟩
     ·rw[if_neg hmg]
      refine wpS_bind (wpS_modify ?_)
      refine wpS_bind (zai eb ?_)
      refine wpS_bind (zkq O T (by exact hkz) (T.Sb _ (zao eb)) (by lia) (fun k q1 q2 q3=>?_) (by lia))
      dsimp only
      by_cases hk0:k > 0
      ·rw[if_pos hk0]
       have n1:=blk_A O T m2 eb k q1 q2
       by_cases e1:ia2+k+1=a.size
       ·rw[if_pos (by simp[e1])]
        exact wpS_pure ⟨lk3,.inl ⟨_,rfl,zbq T hl n1 e1⟩⟩
       ·rw[if_neg (by simp[e1])]
        by_cases e2:ia2+k=a.size
        ·rw[if_pos (by simp[e2])]
         exact wpS_pure ⟨lk3,.inl ⟨_,rfl,zfX T n1 (by lia)⟩⟩
        ·rw[if_neg (by simp[e2])]
         obtain⟨ya,ea3⟩:=atA (ia2+k) (by lia)
         have hw:L xb ya=true:=q3 k ya (Nat.le_refl _) ea3
         have n2:=one_B O T n1 eb ea3 hw
         refine wpS_bind (zai eb ?_)
         by_cases e3:ib2+1=b.size
         ·rw[if_pos (by simp[e3])]
          exact wpS_pure ⟨lk3,.inl ⟨_,rfl,zbU T n2 (by lia)⟩⟩
         ·rw[if_neg (by simp[e3])]
          refine wpS_bind (zai ea3 ?_)
          refine wpS_bind (zg1 O T (by exact hkz) (T.Sa _ (zao ea3)) (by lia) (fun k' r1 r2 r3=>?_) (by lia))
          dsimp only
          by_cases hk1:k' > 0
          ·rw[if_pos hk1]
           have n3:=blk_B O T n2 ea3 k' r1 r2
           by_cases e4:ib2+1+k'=b.size
           ·rw[if_pos (by simp[e4])]
            exact wpS_pure ⟨lk3,.inl ⟨_,rfl,zbU T n3 (by lia)⟩⟩
           ·rw[if_neg (by simp[e4])]
            obtain⟨xb3,eb3⟩:=atB (ib2+1+k') (by lia)
            have hw2:L xb3 ya=false:=r3 k' xb3 (Nat.le_refl _) eb3
            have n4:=one_A O T n3 eb3 ea3 hw2
            refine wpS_bind (zai ea3 ?_)
            by_cases e5:ia2+k+1+1=a.size
            ·rw[if_pos (by simp[e5])]
             exact wpS_pure ⟨lk3,.inl ⟨_,rfl,zbq T hl n4 (by lia)⟩⟩
            ·rw[if_neg (by simp[e5])]
             split
             ·exact wpS_pure ⟨lk3,.inr ⟨_,_,_,_,_,_,rfl,n4,by lia,by lia,by lia⟩⟩
             ·exact wpS_pure ⟨lk3,_,_,_,_,_,_,rfl,n4,by lia,by lia,by lia⟩
          ·rw[if_neg hk1]
           have kz1:k'=0:=by lia
           subst kz1
           obtain⟨xb3,eb3⟩:=atB (ib2+1) (by lia)
           have hw2:L xb3 ya=false:=r3 0 xb3 (Nat.le_refl _) (by simpa using eb3)
           have n4:=one_A O T n2 eb3 ea3 hw2
           refine wpS_bind (zai ea3 ?_)
           by_cases e5:ia2+k+1+1=a.size
           ·rw[if_pos (by simp[e5])]
            exact wpS_pure ⟨lk3,.inl ⟨_,rfl,zbq T hl n4 (by lia)⟩⟩
           ·rw[if_neg (by simp[e5])]
            split
            ·exact wpS_pure ⟨lk3,.inr ⟨_,_,_,_,_,_,rfl,n4,by lia,by lia,by lia⟩⟩
            ·exact wpS_pure ⟨lk3,_,_,_,_,_,_,rfl,n4,by lia,by lia,by lia⟩
      ·rw[if_neg hk0]
       have kz:k=0:=by lia
       subst kz
       obtain⟨ya,ea3⟩:=atA (ia2) (by lia)
       have hw:L xb ya=true:=q3 0 ya (Nat.le_refl _) (by simpa using ea3)
       have n2:=one_B O T m2 eb ea3 hw
       refine wpS_bind (zai eb ?_)
       by_cases e3:ib2+1=b.size
       ·rw[if_pos (by simp[e3])]
        exact wpS_pure ⟨lk3,.inl ⟨_,rfl,zbU T n2 (by lia)⟩⟩
       ·rw[if_neg (by simp[e3])]
        refine wpS_bind (zai ea3 ?_)
        refine wpS_bind (zg1 O T (by exact hkz) (T.Sa _ (zao ea3)) (by lia) (fun k' r1 r2 r3=>?_) (by lia))
        dsimp only
        by_cases hk1:k' > 0
        ·rw[if_pos hk1]
         have n3:=blk_B O T n2 ea3 k' r1 r2
         by_cases e4:ib2+1+k'=b.size
         ·rw[if_pos (by simp[e4])]
          exact wpS_pure ⟨lk3,.inl ⟨_,rfl,zbU T n3 (by lia)⟩⟩
         ·rw[if_neg (by simp[e4])]
          obtain⟨xb3,eb3⟩:=atB (ib2+1+k') (by lia)
          have hw2:L xb3 ya=false:=r3 k' xb3 (Nat.le_refl _) eb3
          have n4:=one_A O T n3 eb3 ea3 hw2
          refine wpS_bind (zai ea3 ?_)
          by_cases e5:ia2+1+1=a.size
          ·rw[if_pos (by simp[e5])]
           exact wpS_pure ⟨lk3,.inl ⟨_,rfl,zbq T hl n4 (by lia)⟩⟩
          ·rw[if_neg (by simp[e5])]
           split
           ·exact wpS_pure ⟨lk3,.inr ⟨_,_,_,_,_,_,rfl,n4,by lia,by lia,by lia⟩⟩
           ·exact wpS_pure ⟨lk3,_,_,_,_,_,_,rfl,n4,by lia,by lia,by lia⟩
        ·rw[if_neg hk1]
         have kz1:k'=0:=by lia
         subst kz1
         obtain⟨xb3,eb3⟩:=atB (ib2+1) (by lia)
         have hw2:L xb3 ya=false:=r3 0 xb3 (Nat.le_refl _) (by simpa using eb3)
         have n4:=one_A O T n2 eb3 ea3 hw2
         refine wpS_bind (zai ea3 ?_)
         by_cases e5:ia2+1+1=a.size
         ·rw[if_pos (by simp[e5])]
          exact wpS_pure ⟨lk3,.inl ⟨_,rfl,zbq T hl n4 (by lia)⟩⟩
         ·rw[if_neg (by simp[e5])]
          split
          ·exact wpS_pure ⟨lk3,.inr ⟨_,_,_,_,_,_,rfl,n4,by lia,by lia,by lia⟩⟩
          ·exact wpS_pure ⟨lk3,_,_,_,_,_,_,rfl,n4,by lia,by lia,by lia⟩
end
end TS
set_option maxHeartbeats 8000000
namespace TS
open PySem PyProof.Rows
section
variable {α:Type}{le:α→α→Prop}
structure MJ (le:α→α→Prop) (a b r:List α) (na nb:Nat):Prop where
 ha:na≤a.length
 hb:nb≤b.length
 perm:(a.take na++b.take nb++r).Perm (a++b)
 sorted:r.Pairwise le
 lea:∀ x∈a.take na,∀ y∈r,le x y
 leb:∀ x∈b.take nb,∀ y∈r,le x y
theorem zeq (a:List α) (i n:Nat) (h:i≤n):a.take n=a.take i++(a.drop i).take (n - i):=by
 rw[← List.take_add,show i+(n - i)=n by lia]
theorem MJ.takeA {a b r : List α}{na nb : Nat}(m : MJ le a b r na nb) (sa : a.Pairwise le) (i : Nat) (hi : i ≤ na) (h : ∀ x ∈ b.take nb, ∀ y ∈ (a.drop i).take (na - i), le x y) :
  MJ le a b ((a.drop i).take (na - i)++r) i nb:=by
 have e:=zeq a i na hi
 have sd:(a.take i++(a.drop i).take (na - i)).Pairwise le:=by rw[← e];exact sa.sublist (List.take_sublist _ _)
 obtain⟨s1,s2,s3⟩:=List.pairwise_append.mp sd
 refine⟨Nat.le_trans hi m.ha,m.hb,?_,List.pairwise_append.mpr ⟨s2,m.sorted,fun x hx y hy=>m.lea x (by rw[e];exact List.mem_append_right _ hx) y hy⟩,fun x hx y hy=>?_,fun x hx y hy=>?_⟩
 ·have:=m.perm
  rw[e] at this
  refine List.Perm.trans ?_ this
  rw[List.append_assoc,List.append_assoc,List.append_assoc,← List.append_assoc (b.take nb),← List.append_assoc ((a.drop i).take (na - i))]
  exact List.Perm.append_left _ (List.Perm.append_right _ List.perm_append_comm)
 ·rcases List.mem_append.mp hy with q | q
  ·exact s3 x hx y q
  ·exact m.lea x (by rw[e];exact List.mem_append_left _ hx) y q
 ·rcases List.mem_append.mp hy with q | q
  ·exact h x hx y q
  ·exact m.leb x hx y q
theorem MJ.takeB {a b r : List α}{na nb : Nat}(m : MJ le a b r na nb) (sb : b.Pairwise le) (i : Nat) (hi : i ≤ nb) (h : ∀ x ∈ a.take na, ∀ y ∈ (b.drop i).take (nb - i), le x y) :
  MJ le a b ((b.drop i).take (nb - i)++r) na i:=by
 have e:=zeq b i nb hi
 have sd:(b.take i++(b.drop i).take (nb - i)).Pairwise le:=by rw[← e];exact sb.sublist (List.take_sublist _ _)
 obtain⟨s1,s2,s3⟩:=List.pairwise_append.mp sd
 refine⟨m.ha,Nat.le_trans hi m.hb,?_,List.pairwise_append.mpr ⟨s2,m.sorted,fun x hx y hy=>m.leb x (by rw[e];exact List.mem_append_right _ hx) y hy⟩,fun x hx y hy=>?_,fun x hx y hy=>?_⟩
 ·have:=m.perm
  rw[e] at this
  simpa[List.append_assoc] using this
 ·rcases List.mem_append.mp hy with q | q
  ·exact h x hx y q
  ·exact m.lea x hx y q
 ·rcases List.mem_append.mp hy with q | q
  ·exact s3 x hx y q
  ·exact m.leb x (by rw[e];exact List.mem_append_left _ hx) y q
theorem MJ.doneB {a b r:List α}{nb:Nat}(m:MJ le a b r 0 nb) (sb:b.Pairwise le):Res le a b (a.take 0++b.take nb++r) :=
 ⟨m.perm,by rw[List.take_zero,List.nil_append];exact List.pairwise_append.mpr ⟨sb.sublist (List.take_sublist _ _),m.sorted,m.leb⟩⟩
theorem MJ.doneA {a b r:List α}{na:Nat}(m:MJ le a b r na 0) (sa:a.Pairwise le):Res le a b (a.take na++b.take 0++r) :=
 ⟨m.perm,by rw[List.take_zero,List.append_nil];exact List.pairwise_append.mpr ⟨sa.sublist (List.take_sublist _ _),m.sorted,m.lea⟩⟩
theorem MJ.firstB {a b r:List α}{na nb:Nat}(m:MJ le a b r na nb) (sa:a.Pairwise le) (sb:b.Pairwise le) (h:∀ x∈b.take nb,∀ y∈a.take na,le x y):Res le a b (b.take nb++a.take na++r):=by
 refine⟨List.Perm.trans (List.Perm.append_right _ List.perm_append_comm) m.perm,?_⟩
 refine List.pairwise_append.mpr ⟨List.pairwise_append.mpr ⟨sb.sublist (List.take_sublist _ _),sa.sublist (List.take_sublist _ _),h⟩,m.sorted,fun x hx y hy=>?_⟩
 rcases List.mem_append.mp hx with q | q
 ·exact m.leb x q y hy
 ·exact m.lea x q y hy
end
end TS
set_option maxHeartbeats 8000000
namespace TS
open PySem PyProof.Rows
section
variable {M:Model}{A:Around}{E:Value→Shared→Prop}{s:Shared}{kd:SortKind}{S:Keyed→Prop}{L:Keyed→Keyed→Bool}{a b out:Array Keyed}{na nb:Nat}
theorem zfc {a:Array Keyed}(O:LtOk M A E s kd S L) (sa:a.toList.Pairwise (leOf L)) (Sa:∀ x∈a.toList,S x){i:Nat}{x y:Keyed}(h:a[i]?=some x) (hy:y∈a.toList.take (i+1)):leOf L y x:=by
 have hi:i<a.toList.length:=by
  have:=(Array.getElem?_eq_some_iff.mp h).1
  rw[Array.length_toList];exact this
 have e:a.toList.take (i+1)=a.toList.take i++[x]:=by
  rw[List.take_succ]
  have:a.toList[i]?=some x:=by simpa using h
  rw[this];rfl
 rw[e] at hy
 rcases List.mem_append.mp hy with q | q
 ·have:=sa.sublist (List.take_sublist (i+1) _)
  rw[e] at this
  exact (List.pairwise_append.mp this).2.2 y q x List.mem_cons_self
 ·rw[List.mem_singleton.mp q];exact O.rf (Sa x (zao h))
theorem zd1 {a:Array Keyed}{i:Nat}{x:Keyed}(h:a[i]?=some x):(a.toList.drop i).take (i+1 - i)=[x]:=by
 rw[zcd h,show i+1 - i=1 by lia];rfl
theorem zlT (O : LtOk M A E s kd S L) (T : Two S L a b) (m : MJ (leOf L) a.toList b.toList out.reverse.toList (na + 1) (nb + 1)){x y : Keyed}(hb : b[nb]? = some x) (ha : a[na]? = some y) (h : L x y = true) :
  MJ (leOf L) a.toList b.toList (out.push y).reverse.toList na (nb+1):=by
 have:=m.takeA T.sa na (Nat.le_succ _) fun z hz w hw=>by
  rw[zd1 ha] at hw
  rw[List.mem_singleton.mp hw]
  exact O.tr z x y (T.Sb z (List.mem_of_mem_take hz)) (T.Sb x (zao hb)) (T.Sa y (zao ha)) (zfc O T.sb T.Sb hb hz) (O.as x y (T.Sb x (zao hb)) (T.Sa y (zao ha)) h)
 rw[zd1 ha] at this
 simpa using this
theorem zlS (O : LtOk M A E s kd S L) (T : Two S L a b) (m : MJ (leOf L) a.toList b.toList out.reverse.toList (na + 1) (nb + 1)){x y : Keyed}(hb : b[nb]? = some x) (ha : a[na]? = some y) (h : L x y = false) :
  MJ (leOf L) a.toList b.toList (out.push x).reverse.toList (na+1) nb:=by
 have:=m.takeB T.sb nb (Nat.le_succ _) fun z hz w hw=>by
  rw[zd1 hb] at hw
  rw[List.mem_singleton.mp hw]
  exact O.tr z y x (T.Sa z (List.mem_of_mem_take hz)) (T.Sa y (zao ha)) (T.Sb x (zao hb)) (zfc O T.sa T.Sa ha hz) h
 rw[zd1 hb] at this
 simpa using this
theorem zl5 (O : LtOk M A E s kd S L) (T : Two S L a b) (m : MJ (leOf L) a.toList b.toList out.reverse.toList na (nb + 1)){x : Keyed}(hb : b[nb]? = some x) (i : Nat) (hi : i ≤ na) (h : ∀ j y, i ≤ j → j < na → a[j]? = some y → L x y = true) :
  MJ (leOf L) a.toList b.toList (out++(a.extract i na).reverse).reverse.toList i (nb+1):=by
 have:=m.takeA T.sa i hi fun z hz w hw=>by
  obtain⟨j,hj,e⟩:=ze9 hw
  exact O.tr z x w (T.Sb z (List.mem_of_mem_take hz)) (T.Sb x (zao hb)) (T.Sa w (zao e)) (zfc O T.sb T.Sb hb hz) (O.as x w (T.Sb x (zao hb)) (T.Sa w (zao e)) (h (i+j) w (by lia) (by lia) e))
 have e2:(out++(a.extract i na).reverse).reverse.toList=(a.toList.drop i).take (na - i)++out.reverse.toList:=by
  simp[Array.toList_extract,List.extract_eq_take_drop]
 rw[e2];exact this
theorem zl4 (O : LtOk M A E s kd S L) (T : Two S L a b) (m : MJ (leOf L) a.toList b.toList out.reverse.toList (na + 1) nb){y : Keyed}(ha : a[na]? = some y) (i : Nat) (hi : i ≤ nb) (h : ∀ j x, i ≤ j → j < nb → b[j]? = some x → L x y = false) :
  MJ (leOf L) a.toList b.toList (out++(b.extract i nb).reverse).reverse.toList (na+1) i:=by
 have:=m.takeB T.sb i hi fun z hz w hw=>by
  obtain⟨j,hj,e⟩:=ze9 hw
  exact O.tr z y w (T.Sa z (List.mem_of_mem_take hz)) (T.Sa y (zao ha)) (T.Sb w (zao e)) (zfc O T.sa T.Sa ha hz) (h (i+j) w (by lia) (by lia) e)
 have e2:(out++(b.extract i nb).reverse).reverse.toList=(b.toList.drop i).take (nb - i)++out.reverse.toList:=by
  simp[Array.toList_extract,List.extract_eq_take_drop]
 rw[e2];exact this
end
end TS
set_option maxHeartbeats 8000000
namespace TS
open PySem PyProof.Rows
section
variable {M:Model}{A:Around}{E:Value→Shared→Prop}{s:Shared}{kd:SortKind}{S:Keyed→Prop}{L:Keyed→Keyed→Bool}{a b out:Array Keyed}{na nb:Nat}
theorem zkr (O : LtOk M A E s kd S L) (T : Two S L a b){st : SortSt}(hk : kindOf st = kd){x : Keyed}(Sx : S x){n : Nat}(hn : n ≤ a.size){Q : Option Nat → SortSt → Prop}
  (hQ:∀ k,k≤n→(∀ j y,j<k→a[j]?=some y→L x y=false)→(∀ j y,k≤j→j<n→a[j]?=some y→L x y=true)→Q (some k) st) {hint:Nat} (hh:hint<n) :
  wpS M A E s (zdV false x a 0 n hint) Q st:=by
 have at_:∀ i,i<n→∃ y,a[0+i]?=some y:=fun i h=>⟨a[0+i]'(by lia),by simp[show i<a.size by lia]⟩
 refine zbS (b:=fun i=>!(a[0+i]?.elim false fun y=>L x y)) O hk Sx (fun i h=>?_) (fun i j hij hj q=>?_) hh fun k h1 h2 h3=>?_
 ·obtain⟨y,e⟩:=at_ i h
  exact⟨y,e,T.Sa y (zao e),by rw[if_neg (by simp),e];rfl⟩
 ·obtain⟨y,e⟩:=at_ j hj
  obtain⟨z,e2⟩:=at_ i (by lia)
  rw[e] at q
  rw[e2]
  have q1:L x y=false:=by simpa using q
  have le1:leOf L z y:=zcy O T.sa T.Sa e2 (by
   have:y∈(a.toList.drop (0+i)).drop (j - i):=by
    rw[List.drop_drop,show 0+i+(j - i)=0+j by lia,zcd e]
    exact List.mem_cons_self
   exact List.mem_of_mem_drop this)
  have:L x z=false:=O.tr z y x (T.Sa z (zao e2)) (T.Sa y (zao e)) Sx le1 q1
  simpa using this
 ·refine hQ k h1 (fun j y hj e=>?_) (fun j y hj hjn e=>?_)
  ·have:=h2 j hj
   rw[Nat.zero_add,e] at this
   simpa using this
  ·have:=h3 j hj hjn
   rw[Nat.zero_add,e] at this
   simpa using this
theorem zg2 (O : LtOk M A E s kd S L) (T : Two S L a b){st : SortSt}(hk : kindOf st = kd){y : Keyed}(Sy : S y){n : Nat}(hn : n ≤ b.size){Q : Option Nat → SortSt → Prop}
  (hQ:∀ k,k≤n→(∀ j x,j<k→b[j]?=some x→L x y=true)→(∀ j x,k≤j→j<n→b[j]?=some x→L x y=false)→Q (some k) st) {hint:Nat} (hh:hint<n) :
  wpS M A E s (zdV true y b 0 n hint) Q st:=by
 have at_:∀ i,i<n→∃ x,b[0+i]?=some x:=fun i h=>⟨b[0+i]'(by lia),by simp[show i<b.size by lia]⟩
 refine zbS (b:=fun i=>b[0+i]?.elim false fun x=>L x y) O hk Sy (fun i h=>?_) (fun i j hij hj q=>?_) hh fun k h1 h2 h3=>?_
 ·obtain⟨x,e⟩:=at_ i h
  exact⟨x,e,T.Sb x (zao e),by rw[if_pos rfl,e];rfl⟩
 ·obtain⟨x,e⟩:=at_ j hj
  obtain⟨z,e2⟩:=at_ i (by lia)
  rw[e] at q
  rw[e2]
  have q1:L x y=true:=q
  show L z y=true
  have le1:leOf L z x:=zcy O T.sb T.Sb e2 (by
   have:x∈(b.toList.drop (0+i)).drop (j - i):=by
    rw[List.drop_drop,show 0+i+(j - i)=0+j by lia,zcd e]
    exact List.mem_cons_self
   exact List.mem_of_mem_drop this)
  cases w:L z y with
  | true=>rfl
  | false =>
   have:L x y=false:=O.tr y z x Sy (T.Sb z (zao e2)) (T.Sb x (zao e)) w le1
   rw[this] at q1;cases q1
 ·refine hQ k h1 (fun j x hj e=>?_) (fun j x hj hjn e=>?_)
  ·have:=h2 j hj
   rw[Nat.zero_add,e] at this
   exact this
  ·have:=h3 j hj hjn
   rw[Nat.zero_add,e] at this
   exact this
theorem zbN (a:Array Keyed) (i:Nat):(a.extract 0 i).toList=a.toList.take i:=by
 rw[Array.toList_extract,List.extract_eq_take_drop,List.drop_zero,Nat.sub_zero]
theorem end_A (T:Two S L a b) (m:MJ (leOf L) a.toList b.toList out.reverse.toList 0 nb):Res (leOf L) a.toList b.toList (a.extract 0 0++b.extract 0 nb++out.reverse).toList:=by
 rw[Array.toList_append,Array.toList_append,zbN,zbN]
 exact m.doneB T.sb
theorem zhm (T:Two S L a b) (m:MJ (leOf L) a.toList b.toList out.reverse.toList na 0):Res (leOf L) a.toList b.toList (a.extract 0 na++b.extract 0 0++out.reverse).toList:=by
 rw[Array.toList_append,Array.toList_append,zbN,zbN]
 exact m.doneA T.sa
theorem end_B (T:Two S L a b) (h0:∀ y,b[0]?=some y→∀ x∈a.toList,leOf L y x) (m:MJ (leOf L) a.toList b.toList out.reverse.toList na 1):Res (leOf L) a.toList b.toList (b.extract 0 1++a.extract 0 na++out.reverse).toList:=by
  rw[Array.toList_append,Array.toList_append,zbN,zbN]
  refine m.firstB T.sa T.sb fun x hx y hy=>?_
  cases hb:b.toList with
  | nil=>rw[hb] at hx;cases hx
  | cons z r =>
    rw[hb] at hx
    have e:x=z:=List.mem_singleton.mp hx
    subst e
    exact h0 x (by have : b.toList[0]? = some x := by rw[hb]; rfl
                   simpa using this) y (List.mem_of_mem_take hy)
end
end TS
set_option maxHeartbeats 8000000
namespace TS
open PySem PyProof.Rows
section
variable {M:Model}{A:Around}{E:Value→Shared→Prop}{s:Shared}{kd:SortKind}{S:Keyed→Prop}{L:Keyed→Keyed→Bool}{a b out:Array Keyed}{na nb:Nat}
theorem lastA (O:LtOk M A E s kd S L) (T:Two S L a b) (h1:0<na) (h2:0<nb) (m:MJ (leOf L) a.toList b.toList out.reverse.toList na nb){x y:Keyed}(hb:b[nb - 1]?=some x) (ha:a[na - 1]?=some y) (h:L x y=true):MJ (leOf L) a.toList b.toList (out.push y).reverse.toList (na - 1) nb:=by
 obtain⟨p,rfl⟩:∃ p,na=p+1:=⟨na - 1,by lia⟩
 obtain⟨q,rfl⟩:∃ q,nb=q+1:=⟨nb - 1,by lia⟩
 exact zlT O T m hb ha h
theorem lastB (O:LtOk M A E s kd S L) (T:Two S L a b) (h1:0<na) (h2:0<nb) (m:MJ (leOf L) a.toList b.toList out.reverse.toList na nb){x y:Keyed}(hb:b[nb - 1]?=some x) (ha:a[na - 1]?=some y) (h:L x y=false):MJ (leOf L) a.toList b.toList (out.push x).reverse.toList na (nb - 1):=by
 obtain⟨p,rfl⟩:∃ p,na=p+1:=⟨na - 1,by lia⟩
 obtain⟨q,rfl⟩:∃ q,nb=q+1:=⟨nb - 1,by lia⟩
 exact zlS O T m hb ha h
theorem backA (O:LtOk M A E s kd S L) (T:Two S L a b) (h2:0<nb) (m:MJ (leOf L) a.toList b.toList out.reverse.toList na nb){x:Keyed}(hb:b[nb - 1]?=some x) (i:Nat) (hi:i≤na) (h:∀ j y,i≤j→j<na→a[j]?=some y→L x y=true):MJ (leOf L) a.toList b.toList (out++(a.extract i na).reverse).reverse.toList i nb:=by
 obtain⟨q,rfl⟩:∃ q,nb=q+1:=⟨nb - 1,by lia⟩
 exact zl5 O T m hb i hi h
theorem backB (O:LtOk M A E s kd S L) (T:Two S L a b) (h1:0<na) (m:MJ (leOf L) a.toList b.toList out.reverse.toList na nb){y:Keyed}(ha:a[na - 1]?=some y) (i:Nat) (hi:i≤nb) (h:∀ j x,i≤j→j<nb→b[j]?=some x→L x y=false):MJ (leOf L) a.toList b.toList (out++(b.extract i nb).reverse).reverse.toList na i:=by
 obtain⟨p,rfl⟩:∃ p,na=p+1:=⟨na - 1,by lia⟩
 exact zl4 O T m ha i hi h
theorem zfQ (O : LtOk M A E s kd S L) (T : Two S L a b){st : SortSt}{Q : Array Keyed → SortSt → Prop}(hk : kindOf st = kd) (ha : 0 < a.size) (hb : 0 < b.size) (h0 : ∀ y, b[0]? = some y → ∀ x ∈ a.toList, leOf L y x)
  (hl:∀ z,a[a.size - 1]?=some z→∀ x∈b.toList,leOf L x z) (hQ:∀ r st',Res (leOf L) a.toList b.toList r.toList→Like st st'→Q r st'):wpS M A E s (zhd a b) Q st:=by
 have atA:∀ i,i<a.size→∃ x,a[i]?=some x:=fun i h=>⟨a[i],by simp[h]⟩
 have atB:∀ i,i<b.size→∃ x,b[i]?=some x:=fun i h=>⟨b[i],by simp[h]⟩
 obtain⟨a1,e1⟩:=atA (a.size - 1) (by lia)
 have mS:MJ (leOf L) a.toList b.toList (#[]:Array Keyed).reverse.toList a.size b.size:=⟨by simp,by simp,by rw[List.take_of_length_le (by simp),List.take_of_length_le (by simp)];simp,by simp,(fun _ _ _ h=>by simp at h),(fun _ _ _ h=>by simp at h)⟩
 have m0:MJ (leOf L) a.toList b.toList (#[a1]:Array Keyed).reverse.toList (a.size - 1) b.size:=by
  have hc:=zd1 e1
  rw[show a.size - 1+1=a.size by lia] at hc
  have:=mS.takeA T.sa (a.size - 1) (by lia) fun x hx y hy=>by
   rw[hc] at hy
   rw[List.mem_singleton.mp hy]
   exact hl a1 e1 x (List.mem_of_mem_take hx)
  rw[hc] at this
  simpa using this
 refine wpS_bind (wpS_lift (wpAny_rule ⟨rfl,?_⟩))
 refine wpS_bind (zai e1 ?_)
 dsimp only
 by_cases ha1:a.size - 1=0
 ·rw[if_pos (by simp[ha1])]
  rw[ha1] at m0
  rw[ha1]
  exact wpS_pure (hQ _ _ (end_A T m0) (Like.refl _))
 rw[if_neg (by simp[ha1])]
 by_cases hb1:b.size=1
 ·rw[if_pos (by simp[hb1])]
  rw[hb1] at m0
  rw[hb1]
  exact wpS_pure (hQ _ _ (end_B T h0 m0) (Like.refl _))
 rw[if_neg (by simp[hb1])]
 refine wpS_bind (wpS_get ?_)
 refine wpS_bind (wpS_mono (wpS_forRange (I:=fun x c st'=>Like st st'∧∃ na nb out mg,c=(none,na,nb,out,mg)∧MJ (leOf L) a.toList b.toList out.reverse.toList na nb∧0<na∧1<nb∧na+nb+x+1≤a.size+b.size∧na≤a.size∧nb≤b.size)
  (Q:=fun c st'=>Like st st'∧∃ r,c.1=some r∧Res (leOf L) a.toList b.toList r.toList) ?step ?fin ⟨Like.refl _,_,_,_,_,rfl,m0,by lia,by lia,by lia,by lia,by lia⟩) ?post)
 case fin =>
  rintro c st' ⟨_,na,nb,out,mg,rfl,m,g1,g2,g3,g4,g5⟩
  exact absurd g3 (by lia)
 case post =>
  rintro c st' ⟨lk,r,e,res⟩
  rw[e]
  exact wpS_pure (hQ r st' res lk)
 case step =>
  rintro x c st' _ hx ⟨lk,na,nb,out,mg,rfl,m,g1,g2,g3,g4,g5⟩
  have hk':kindOf st'=kd:=lk.1.trans hk
  dsimp only
  refine wpS_bind (wpS_mono (wpS_forRange (I:=fun y c z=>z=st'∧∃ na' nb' out' ac bc,c=(none,na',nb',out',ac,bc)∧MJ (leOf L) a.toList b.toList out'.reverse.toList na' nb'∧0<na'∧1<nb'∧na'+nb'+y≤na+nb∧na'≤a.size∧nb'≤b.size)
   (Q:=fun c z=>z=st'∧((∃ r,c.1=some r∧Res (leOf L) a.toList b.toList r.toList)∨∃ na' nb' out' ac bc,c=(none,na',nb',out',ac,bc)∧MJ (leOf L) a.toList b.toList out'.reverse.toList na' nb'∧0<na'∧1<nb'∧na'+nb'+1≤na+nb∧na'≤a.size∧nb'≤b.size)) ?istep ?ifin ⟨rfl,na,nb,out,_,_,rfl,m,g1,g2,by lia,g4,g5⟩) ?ipost)
  case ifin =>
   rintro c z ⟨rfl,na',nb',out',ac,bc,rfl,m',j1,j2,j3,j4,j5⟩
   exact⟨rfl,.inr ⟨na',nb',out',ac,bc,rfl,m',j1,j2,by lia,j4,j5⟩⟩
  case istep =>
   rintro y c z _ hy ⟨rfl,na',nb',out',ac,bc,rfl,m',j1,j2,j3,j4,j5⟩
   obtain⟨xb,eb⟩:=atB (nb' - 1) (by lia)
   obtain⟨xa,ea⟩:=atA (na' - 1) (by lia)
   dsimp only
   refine wpS_bind (zai eb (wpS_bind (zai ea (wpS_bind (O.lt xb xa (T.Sb _ (zao eb)) (T.Sa _ (zao ea)) _ _ hk' ?_)))))
   dsimp only
   cases hw:L xb xa with
   | true =>
    rw[if_pos rfl]
    have m2:=lastA O T j1 (by lia) m' eb ea hw
    refine wpS_bind (zai ea ?_)
    by_cases hend:na' - 1=0
    ·rw[if_pos (by simp[hend])]
     rw[hend] at m2
     rw[hend]
     exact wpS_pure ⟨rfl,.inl ⟨_,rfl,end_A T m2⟩⟩
    ·rw[if_neg (by simp[hend])]
     by_cases hg:ac+1 ≥ mg
     ·rw[if_pos hg]
      exact wpS_pure ⟨rfl,.inr ⟨_,_,_,_,_,rfl,m2,by lia,j2,by lia,by lia,j5⟩⟩
     ·rw[if_neg hg]
      exact wpS_pure ⟨rfl,_,_,_,_,_,rfl,m2,by lia,j2,by lia,by lia,j5⟩
   | false =>
    rw[if_neg (by simp)]
    have m2:=lastB O T j1 (by lia) m' eb ea hw
    refine wpS_bind (zai eb ?_)
    by_cases hend:nb' - 1=1
    ·rw[if_pos (by simp[hend])]
     rw[hend] at m2
     rw[hend]
     exact wpS_pure ⟨rfl,.inl ⟨_,rfl,end_B T h0 m2⟩⟩
    ·rw[if_neg (by simp[hend])]
     by_cases hg:bc+1 ≥ mg
     ·rw[if_pos hg]
      exact wpS_pure ⟨rfl,.inr ⟨_,_,_,_,_,rfl,m2,j1,by lia,by lia,j4,by lia⟩⟩
     ·rw[if_neg hg]
      exact wpS_pure ⟨rfl,_,_,_,_,_,rfl,m2,j1,by lia,by lia,j4,by lia⟩
  case ipost =>
   rintro c z ⟨rfl,hc⟩
   rcases hc with⟨r,e,res⟩ | ⟨na',nb',out',ac,bc,rfl,m',j1,j2,j3,j4,j5⟩
   ·rw[e]
    exact wpS_pure ⟨lk,r,rfl,res⟩
   ·dsimp only
    refine wpS_bind (wpS_lift (wpAny_rule ⟨rfl,?_⟩))
    refine wpS_bind (wpS_mono (wpS_forRange (I:=fun y c z=>Like st z∧∃ na2 nb2 out2 mg2 ac2 bc2,c=(none,na2,nb2,out2,mg2,ac2,bc2)∧MJ (leOf L) a.toList b.toList out2.reverse.toList na2 nb2∧0<na2∧1<nb2∧na2+nb2≤na'+nb'∧na2≤a.size∧nb2≤b.size)
     (Q:=fun c z=>Like st z∧((∃ r,c.1=some r∧Res (leOf L) a.toList b.toList r.toList)∨∃ na2 nb2 out2 mg2 ac2 bc2,c=(none,na2,nb2,out2,mg2,ac2,bc2)∧MJ (leOf L) a.toList b.toList out2.reverse.toList na2 nb2∧0<na2∧1<nb2∧na2+nb2≤na'+nb'∧na2≤a.size∧nb2≤b.size)) ?gstep ?gfin ⟨lk,na',nb',out',_,_,_,rfl,m',j1,j2,Nat.le_refl _,j4,j5⟩) ?gpost)
    case gfin =>
     rintro c z ⟨lk2,rest⟩
     exact⟨lk2,.inr rest⟩
    case gpost =>
     rintro c z ⟨lk2,hc⟩
     rcases hc with⟨r,e,res⟩ | ⟨na2,nb2,out2,mg2,ac2,bc2,rfl,m2,k1,k2,k3,k4,k5⟩
     ·rw[e]
      exact wpS_pure ⟨lk2,r,rfl,res⟩
     ·dsimp only
      refine wpS_bind (wpS_modify ?_)
      exact wpS_pure ⟨lk2,_,_,_,_,rfl,m2,k1,k2,by lia,k4,k5⟩
    case gstep =>
     rintro y c z _ hy ⟨lk2,na2,nb2,out2,mg2,ac2,bc2,rfl,m2,k1,k2,k3,k4,k5⟩
     obtain⟨xb,eb⟩:=atB (nb2 - 1) (by lia)
     have hkz:kindOf z=kd:=lk2.1.trans hk
     have lk3:=lk2
     dsimp only
     by_cases hmg:mg2 > 1
     ·rw[if_pos hmg]
      refine wpS_bind (wpS_modify ?_)
      refine wpS_bind (zai eb ?_)
      refine wpS_bind (zkr O T (by exact hkz) (T.Sb _ (zao eb)) (by lia) (fun t q1 q2 q3=>?_) (by lia))
      dsimp only
      by_cases hk0:na2 - t > 0
      ·rw[if_pos hk0]
       have n1:=backA O T (by lia) m2 eb t q1 q3
       by_cases e1:t=0
       ·rw[if_pos (by simp[e1])]
        rw[e1] at n1
        rw[e1]
        exact wpS_pure ⟨lk3,.inl ⟨_,rfl,end_A T n1⟩⟩
       ·rw[if_neg (by simp[e1])]
        obtain⟨ya,ea3⟩:=atA (t - 1) (by lia)
        have hw:L xb ya=false:=q2 (t - 1) ya (by lia) ea3
        have n2:=lastB O T (by lia) (by lia) n1 eb ea3 hw
        refine wpS_bind (zai eb ?_)
        by_cases e3:nb2 - 1=1
        ·rw[if_pos (by simp[e3])]
         rw[e3] at n2
         rw[e3]
         exact wpS_pure ⟨lk3,.inl ⟨_,rfl,end_B T h0 n2⟩⟩
        ·rw[if_neg (by simp[e3])]
         refine wpS_bind (zai ea3 ?_)
         refine wpS_bind (zg2 O T (by exact hkz) (T.Sa _ (zao ea3)) (by lia) (fun t' r1 r2 r3=>?_) (by lia))
         dsimp only
         by_cases hk1:nb2 - 1 - t' > 0
         ·rw[if_pos hk1]
          have n3:=backB O T (by lia) n2 ea3 t' r1 r3
          by_cases e4:t'=1
          ·rw[if_pos (by simp[e4])]
           rw[e4] at n3
           rw[e4]
           exact wpS_pure ⟨lk3,.inl ⟨_,rfl,end_B T h0 n3⟩⟩
          ·rw[if_neg (by simp[e4])]
           by_cases e6:t'=0
           ·rw[if_pos (by simp[e6])]
            rw[e6] at n3
            rw[e6]
            exact wpS_pure ⟨lk3,.inl ⟨_,rfl,zhm T n3⟩⟩
           ·rw[if_neg (by simp[e6])]
            obtain⟨xb3,eb3⟩:=atB (t' - 1) (by lia)
            have hw2:L xb3 ya=true:=r2 (t' - 1) xb3 (by lia) eb3
            have n4:=lastA O T (by lia) (by lia) n3 eb3 ea3 hw2
            refine wpS_bind (zai ea3 ?_)
            by_cases e5:t - 1=0
            ·rw[if_pos (by simp[e5])]
             rw[e5] at n4
             rw[e5]
             exact wpS_pure ⟨lk3,.inl ⟨_,rfl,end_A T n4⟩⟩
            ·rw[if_neg (by simp[e5])]
             split
             ·exact wpS_pure ⟨lk3,.inr ⟨_,_,_,_,_,_,rfl,n4,by lia,by lia,by lia,by lia,by lia⟩⟩
             ·exact wpS_pure ⟨lk3,_,_,_,_,_,_,rfl,n4,by lia,by lia,by lia,by lia,by lia⟩
         ·rw[if_neg hk1]
          obtain⟨xb3,eb3⟩:=atB ((nb2 - 1) - 1) (by lia)
          have hw2:L xb3 ya=true:=r2 (nb2 - 1 - 1) xb3 (by lia) eb3
          have n4:=lastA O T (by lia) (by lia) n2 eb3 ea3 hw2
          refine wpS_bind (zai ea3 ?_)
          by_cases e5:t - 1=0
          ·rw[if_pos (by simp[e5])]
           rw[e5] at n4
           rw[e5]
           exact wpS_pure ⟨lk3,.inl ⟨_,rfl,end_A T n4⟩⟩
          ·rw[if_neg (by simp[e5])]
           split
           ·exact wpS_pure ⟨lk3,.inr ⟨_,_,_,_,_,_,rfl,n4,by lia,by lia,by lia,by lia,by lia⟩⟩
           ·exact wpS_pure ⟨lk3,_,_,_,_,_,_,rfl,n4,by lia,by lia,by lia,by lia,by lia⟩
      ·rw[if_neg hk0]
       obtain⟨ya,ea3⟩:=atA (na2 - 1) (by lia)
       have hw:L xb ya=false:=q2 (na2 - 1) ya (by lia) ea3
       have n2:=lastB O T (by lia) (by lia) m2 eb ea3 hw
       refine wpS_bind (zai eb ?_)
       by_cases e3:nb2 - 1=1
       ·rw[if_pos (by simp[e3])]
        rw[e3] at n2
        rw[e3]
        exact wpS_pure ⟨lk3,.inl ⟨_,rfl,end_B T h0 n2⟩⟩
       ·rw[if_neg (by simp[e3])]
        refine wpS_bind (zai ea3 ?_)
        refine wpS_bind (zg2 O T (by exact hkz) (T.Sa _ (zao ea3)) (by lia) (fun t' r1 r2 r3=>?_) (by lia))
        dsimp only
        by_cases hk1:nb2 - 1 - t' > 0
        ·rw[if_pos hk1]
         have n3:=backB O T (by lia) n2 ea3 t' r1 r3
         by_cases e4:t'=1
         ·rw[if_pos (by simp[e4])]
          rw[e4] at n3
          rw[e4]
          exact wpS_pure ⟨lk3,.inl ⟨_,rfl,end_B T h0 n3⟩⟩
         ·rw[if_neg (by simp[e4])]
          by_cases e6:t'=0
          ·rw[if_pos (by simp[e6])]
           rw[e6] at n3
           rw[e6]
           exact wpS_pure ⟨lk3,.inl ⟨_,rfl,zhm T n3⟩⟩
          ·rw[if_neg (by simp[e6])]
           obtain⟨xb3,eb3⟩:=atB (t' - 1) (by lia)
           have hw2:L xb3 ya=true:=r2 (t' - 1) xb3 (by lia) eb3
           have n4:=lastA O T (by lia) (by lia) n3 eb3 ea3 hw2
           refine wpS_bind (zai ea3 ?_)
           by_cases e5:na2 - 1=0
           ·rw[if_pos (by simp[e5])]
            rw[e5] at n4
            rw[e5]
            exact wpS_pure ⟨lk3,.inl ⟨_,rfl,end_A T n4⟩⟩
           ·rw[if_neg (by simp[e5])]
            split
            ·exact wpS_pure ⟨lk3,.inr ⟨_,_,_,_,_,_,rfl,n4,by lia,by lia,by lia,by lia,by lia⟩⟩
            ·exact wpS_pure ⟨lk3,_,_,_,_,_,_,rfl,n4,by lia,by lia,by lia,by lia,by lia⟩
        ·rw[if_neg hk1]
         obtain⟨xb3,eb3⟩:=atB ((nb2 - 1) - 1) (by lia)
         have hw2:L xb3 ya=true:=r2 (nb2 - 1 - 1) xb3 (by lia) eb3
         have n4:=lastA O T (by lia) (by lia) n2 eb3 ea3 hw2
         refine wpS_bind (zai ea3 ?_)
         by_cases e5:na2 - 1=0
         ·rw[if_pos (by simp[e5])]
          rw[e5] at n4
          rw[e5]
          exact wpS_pure ⟨lk3,.inl ⟨_,rfl,end_A T n4⟩⟩
         ·rw[if_neg (by simp[e5])]
          split
          ·exact wpS_pure ⟨lk3,.inr ⟨_,_,_,_,_,_,rfl,n4,by lia,by lia,by lia,by lia,by lia⟩⟩
          ·exact wpS_pure ⟨lk3,_,_,_,_,_,_,rfl,n4,by lia,by lia,by lia,by lia,by lia⟩
     ·rw[if_neg hmg]
      refine wpS_bind (wpS_modify ?_)
      refine wpS_bind (zai eb ?_)
      refine wpS_bind (zkr O T (by exact hkz) (T.Sb _ (zao eb)) (by lia) (fun t q1 q2 q3=>?_) (by lia))
      dsimp only
      by_cases hk0:na2 - t > 0
      ·rw[if_pos hk0]
       have n1:=backA O T (by lia) m2 eb t q1 q3
       by_cases e1:t=0
       ·rw[if_pos (by simp[e1])]
        rw[e1] at n1
        rw[e1]
        exact wpS_pure ⟨lk3,.inl ⟨_,rfl,end_A T n1⟩⟩
       ·rw[if_neg (by simp[e1])]
        obtain⟨ya,ea3⟩:=atA (t - 1) (by lia)
        have hw:L xb ya=false:=q2 (t - 1) ya (by lia) ea3
        have n2:=lastB O T (by lia) (by lia) n1 eb ea3 hw
        refine wpS_bind (zai eb ?_)
        by_cases e3:nb2 - 1=1
        ·rw[if_pos (by simp[e3])]
         rw[e3] at n2
         rw[e3]
         exact wpS_pure ⟨lk3,.inl ⟨_,rfl,end_B T h0 n2⟩⟩
        ·rw[if_neg (by simp[e3])]
         refine wpS_bind (zai ea3 ?_)
         refine wpS_bind (zg2 O T (by exact hkz) (T.Sa _ (zao ea3)) (by lia) (fun t' r1 r2 r3=>?_) (by lia))
         dsimp only
         by_cases hk1:nb2 - 1 - t' > 0
         ·rw[if_pos hk1]
          have n3:=backB O T (by lia) n2 ea3 t' r1 r3
          by_cases e4:t'=1
          ·rw[if_pos (by simp[e4])]
           rw[e4] at n3
           rw[e4]
           exact wpS_pure ⟨lk3,.inl ⟨_,rfl,end_B T h0 n3⟩⟩
          ·rw[if_neg (by simp[e4])]
           by_cases e6:t'=0
           ·rw[if_pos (by simp[e6])]
            rw[e6] at n3
            rw[e6]
            exact wpS_pure ⟨lk3,.inl ⟨_,rfl,zhm T n3⟩⟩
           ·rw[if_neg (by simp[e6])]
            obtain⟨xb3,eb3⟩:=atB (t' - 1) (by lia)
            have hw2:L xb3 ya=true:=r2 (t' - 1) xb3 (by lia) eb3
            have n4:=lastA O T (by lia) (by lia) n3 eb3 ea3 hw2
            refine wpS_bind (zai ea3 ?_)
            by_cases e5:t - 1=0
            ·rw[if_pos (by simp[e5])]
             rw[e5] at n4
             rw[e5]
             exact wpS_pure ⟨lk3,.inl ⟨_,rfl,end_A T n4⟩⟩
            ·rw[if_neg (by simp[e5])]
             split
             ·exact wpS_pure ⟨lk3,.inr ⟨_,_,_,_,_,_,rfl,n4,by lia,by lia,by lia,by lia,by lia⟩⟩
             ·exact wpS_pure ⟨lk3,_,_,_,_,_,_,rfl,n4,by lia,by lia,by lia,by lia,by lia⟩
         ·rw[if_neg hk1]
          obtain⟨xb3,eb3⟩:=atB ((nb2 - 1) - 1) (by lia)
          have hw2:L xb3 ya=true:=r2 (nb2 - 1 - 1) xb3 (by lia) eb3
          have n4:=lastA O T (by lia) (by lia) n2 eb3 ea3 hw2
          refine wpS_bind (zai ea3 ?_)
          by_cases e5:t - 1=0
          ·rw[if_pos (by simp[e5])]
           rw[e5] at n4
           rw[e5]
           exact wpS_pure ⟨lk3,.inl ⟨_,rfl,end_A T n4⟩⟩
          ·rw[if_neg (by simp[e5])]
           split
           ·exact wpS_pure ⟨lk3,.inr ⟨_,_,_,_,_,_,rfl,n4,by lia,by lia,by lia,by lia,by lia⟩⟩
           ·exact wpS_pure ⟨lk3,_,_,_,_,_,_,rfl,n4,by lia,by lia,by lia,by lia,by lia⟩
      ·rw[if_neg hk0]
       obtain⟨ya,ea3⟩:=atA (na2 - 1) (by lia)
       have hw:L xb ya=false:=q2 (na2 - 1) ya (by lia) ea3
       have n2:=lastB O T (by lia) (by lia) m2 eb ea3 hw
       refine wpS_bind (zai eb ?_)
       by_cases e3:nb2 - 1=1
       ·rw[if_pos (by simp[e3])]
        rw[e3] at n2
        rw[e3]
        exact wpS_pure ⟨lk3,.inl ⟨_,rfl,end_B T h0 n2⟩⟩
       ·rw[if_neg (by simp[e3])]
        refine wpS_bind (zai ea3 ?_)
        refine wpS_bind (zg2 O T (by exact hkz) (T.Sa _ (zao ea3)) (by lia) (fun t' r1 r2 r3=>?_) (by lia))
        dsimp only
        by_cases hk1:nb2 - 1 - t' > 0
        ·rw[if_pos hk1]
         have n3:=backB O T (by lia) n2 ea3 t' r1 r3
         by_cases e4:t'=1
         ·rw[if_pos (by simp[e4])]
          rw[e4] at n3
          rw[e4]
          exact wpS_pure ⟨lk3,.inl ⟨_,rfl,end_B T h0 n3⟩⟩
         ·rw[if_neg (by simp[e4])]
          by_cases e6:t'=0
          ·rw[if_pos (by simp[e6])]
           rw[e6] at n3
           rw[e6]
           exact wpS_pure ⟨lk3,.inl ⟨_,rfl,zhm T n3⟩⟩
          ·rw[if_neg (by simp[e6])]
           obtain⟨xb3,eb3⟩:=atB (t' - 1) (by lia)
           have hw2:L xb3 ya=true:=r2 (t' - 1) xb3 (by lia) eb3
           have n4:=lastA O T (by lia) (by lia) n3 eb3 ea3 hw2
           refine wpS_bind (zai ea3 ?_)
           by_cases e5:na2 - 1=0
           ·rw[if_pos (by simp[e5])]
            rw[e5] at n4
            rw[e5]
            exact wpS_pure ⟨lk3,.inl ⟨_,rfl,end_A T n4⟩⟩
           ·rw[if_neg (by simp[e5])]
            split
            ·exact wpS_pure ⟨lk3,.inr ⟨_,_,_,_,_,_,rfl,n4,by lia,by lia,by lia,by lia,by lia⟩⟩
            ·exact wpS_pure ⟨lk3,_,_,_,_,_,_,rfl,n4,by lia,by lia,by lia,by lia,by lia⟩
        ·rw[if_neg hk1]
         obtain⟨xb3,eb3⟩:=atB ((nb2 - 1) - 1) (by lia)
         have hw2:L xb3 ya=true:=r2 (nb2 - 1 - 1) xb3 (by lia) eb3
         have n4:=lastA O T (by lia) (by lia) n2 eb3 ea3 hw2
         refine wpS_bind (zai ea3 ?_)
         by_cases e5:na2 - 1=0
         ·rw[if_pos (by simp[e5])]
          rw[e5] at n4
          rw[e5]
          exact wpS_pure ⟨lk3,.inl ⟨_,rfl,end_A T n4⟩⟩
         ·rw[if_neg (by simp[e5])]
          split
          ·exact wpS_pure ⟨lk3,.inr ⟨_,_,_,_,_,_,rfl,n4,by lia,by lia,by lia,by lia,by lia⟩⟩
          ·exact wpS_pure ⟨lk3,_,_,_,_,_,_,rfl,n4,by lia,by lia,by lia,by lia,by lia⟩
end
end TS
namespace TS
open PySem PyProof.Rows
section
variable {M:Model}{A:Around}{E:Value→Shared→Prop}{s:Shared}{kd:SortKind}{S:Keyed→Prop}{L:Keyed→Keyed→Bool}
def Seg (L:Keyed→Keyed→Bool) (a:Array Keyed) (lo n:Nat):Prop:=∀ (i j:Nat) x y,i≤j→j<n→a[lo+i]?=some x→a[lo+j]?=some y→L y x=false
def Rev (L:Keyed→Keyed→Bool) (a:Array Keyed) (lo n:Nat):Prop:=∀ (i j:Nat) x y,i≤j→j<n→a[lo+i]?=some x→a[lo+j]?=some y→L x y=false
structure SB (kd:SortKind) (S:Keyed→Prop) (st0 st:SortSt) (lo hi:Nat):Prop where
 kind:kindOf st=kd
 pend:pendingOf st=pendingOf st0
 fail:failedOf st=failedOf st0
 perm:(arrOf st).Perm (arrOf st0)
 out:∀ k:Nat,k<lo∨hi≤k→(arrOf st)[k]?=(arrOf st0)[k]?
 all:∀ (k:Nat) x,(arrOf st)[k]?=some x→S x
theorem SB.size {st0 st:SortSt}{lo hi:Nat}(h:SB kd S st0 st lo hi):(arrOf st).size=(arrOf st0).size:=h.perm.size_eq
theorem zen (O:LtOk M A E s kd S L){st:SortSt}{i j:Nat}{x y:Keyed}{Q:Option Bool→SortSt→Prop}(hk:kindOf st=kd) (hi:(arrOf st)[i]?=some x) (hj:(arrOf st)[j]?=some y) (sx:S x) (sy:S y) (q:Q (some (L x y)) st):wpS M A E s (ltAt' i j) Q st:=by
 rw[ltAt'_eq]
 refine wpS_bind (wpS_get ?_)
 refine wpS_bind (zai hi ?_)
 refine wpS_bind (zai hj ?_)
 exact O.lt x y sx sy st Q hk q
theorem zbJ {st:SortSt}{i:Nat}(h:i<(arrOf st).size):∃ x,(arrOf st)[i]?=some x:=⟨(arrOf st)[i],by simp[h]⟩
theorem Seg.more (O:LtOk M A E s kd S L){a:Array Keyed}{lo n:Nat}{x y:Keyed}(hS:∀ (k:Nat) x,a[k]?=some x→S x) (h:Seg L a lo (n+1)) (hx:a[lo+n]?=some x) (hy:a[lo+(n+1)]?=some y) (hl:L y x=false):Seg L a lo (n+2):=by
 intro i j u v hij hj hu hv
 rcases Nat.lt_or_ge j (n+1) with q | q
 ·exact h i j u v hij q hu hv
 ·have ej:j=n+1:=by lia
  subst ej
  rw[hy] at hv
  cases hv
  rcases Nat.lt_or_ge i (n+1) with q2 | q2
  ·have h1:=h i n u x (by lia) (by lia) hu hx
   exact O.tr u x y (hS _ _ hu) (hS _ _ hx) (hS _ _ hy) h1 hl
  ·have ei:i=n+1:=by lia
   subst ei
   rw[hy] at hu
   cases hu
   exact O.rf (hS _ _ hy)
def Blk (L:Keyed→Keyed→Bool) (a:Array Keyed) (lo n q:Nat):Prop:=∀ (i j:Nat) x y,n - (q+1)≤i→i<n→n - (q+1)≤j→j<n→a[lo+i]?=some x→a[lo+j]?=some y→L x y=false
theorem SB.refl {st:SortSt}{lo hi:Nat}(hk:kindOf st=kd) (hS:∀ (k:Nat) x,(arrOf st)[k]?=some x→S x):SB kd S st st lo hi:=⟨hk,rfl,rfl,Array.Perm.refl _,fun _ _=>rfl,hS⟩
theorem SB.mir {st0 st:SortSt}{lo hi i j:Nat}(h:SB kd S st0 st lo hi) (h1:lo≤i) (h2:j≤hi) (hz:j≤(arrOf st).size):SB kd S st0 (setArr st (mirror (arrOf st) i j ((j - i) / 2))) lo hi:=by
 refine⟨h.kind,h.pend,h.fail,(mirror_perm _ _ _ _).trans h.perm,fun k hk=>?_,fun k x hx=>?_⟩
 ·show (mirror (arrOf st) i j ((j - i) / 2))[k]?=_
  rw[getElem?_mirror_all hz,if_neg (by lia)]
  exact h.out k hk
 ·have hx':(mirror (arrOf st) i j ((j - i) / 2))[k]?=some x:=hx
  rw[getElem?_mirror_all hz] at hx'
  split at hx'
  ·exact h.all _ x hx'
  ·exact h.all _ x hx'
theorem Rev.blk {a:Array Keyed}{lo n q:Nat}(h:Rev L a lo n) (hb:Blk L a lo n q) (hq:q<n) (hz:lo+n≤a.size):Rev L (mirror a (lo+n - (q+1)) (lo+n) ((lo+n - (lo+n - (q+1))) / 2)) lo n:=by
 intro i j x y hij hj hx hy
 rw[getElem?_mirror_all hz] at hx hy
 by_cases hi:lo+n - (q+1)≤lo+i∧lo+i<lo+n
 ·rw[if_pos hi] at hx
  rw[if_pos (by lia)] at hy
  rw[show lo+n - (q+1)+(lo+n) - 1 - (lo+i)=lo+(n - (q+1)+n - 1 - i) by lia] at hx
  rw[show lo+n - (q+1)+(lo+n) - 1 - (lo+j)=lo+(n - (q+1)+n - 1 - j) by lia] at hy
  exact hb _ _ x y (by lia) (by lia) (by lia) (by lia) hx hy
 ·rw[if_neg hi] at hx
  by_cases hj':lo+n - (q+1)≤lo+j∧lo+j<lo+n
  ·rw[if_pos hj'] at hy
   rw[show lo+n - (q+1)+(lo+n) - 1 - (lo+j)=lo+(n - (q+1)+n - 1 - j) by lia] at hy
   exact h i _ x y (by lia) (by lia) hx hy
  ·rw[if_neg hj'] at hy
   exact h i j x y hij hj hx hy
theorem Rev.flip {a:Array Keyed}{lo n:Nat}(h:Rev L a lo n) (hz:lo+n≤a.size):Seg L (mirror a lo (lo+n) ((lo+n - lo) / 2)) lo n:=by
 intro i j x y hij hj hx hy
 rw[getElem?_mirror_all hz,if_pos (by lia)] at hx hy
 rw[show lo+(lo+n) - 1 - (lo+i)=lo+(n - 1 - i) by lia] at hx
 rw[show lo+(lo+n) - 1 - (lo+j)=lo+(n - 1 - j) by lia] at hy
 exact h _ _ y x (by lia) (by lia) hy hx
theorem Rev.more (O:LtOk M A E s kd S L){a:Array Keyed}{lo n:Nat}{x y:Keyed}(hS:∀ (k:Nat) x,a[k]?=some x→S x) (h:Rev L a lo (n+1)) (hx:a[lo+n]?=some x) (hy:a[lo+(n+1)]?=some y) (hl:L x y=false):Rev L a lo (n+2):=by
 intro i j u v hij hj hu hv
 rcases Nat.lt_or_ge j (n+1) with q | q
 ·exact h i j u v hij q hu hv
 ·have ej:j=n+1:=by lia
  subst ej
  rw[hy] at hv
  cases hv
  rcases Nat.lt_or_ge i (n+1) with q2 | q2
  ·have h1:=h i n u x (by lia) (by lia) hu hx
   exact O.tr y x u (hS _ _ hy) (hS _ _ hx) (hS _ _ hu) hl h1
  ·have ei:i=n+1:=by lia
   subst ei
   rw[hy] at hu
   cases hu
   exact O.rf (hS _ _ hy)
theorem Blk.more (O:LtOk M A E s kd S L){a:Array Keyed}{lo n q:Nat}{x y:Keyed}(hS:∀ (k:Nat) x,a[k]?=some x→S x) (h:Blk L a lo (n+1) q) (hq:q<n+1) (hx:a[lo+n]?=some x) (hy:a[lo+(n+1)]?=some y) (h1:L x y=false) (h2:L y x=false):Blk L a lo (n+2) (q+1):=by
 have old:∀ (i:Nat) u,n+1 - (q+1)≤i→i<n+1→a[lo+i]?=some u→L u y=false∧L y u=false:=fun i u a1 a2 hu=>by
  have e1:=h i n u x a1 a2 (by lia) (by lia) hu hx
  have e2:=h n i x u (by lia) (by lia) a1 a2 hx hu
  exact⟨O.tr y x u (hS _ _ hy) (hS _ _ hx) (hS _ _ hu) h1 e1,O.tr u x y (hS _ _ hu) (hS _ _ hx) (hS _ _ hy) e2 h2⟩
 intro i j u v a1 a2 b1 b2 hu hv
 rcases Nat.lt_or_ge i (n+1) with ci | ci
 ·rcases Nat.lt_or_ge j (n+1) with cj | cj
  ·exact h i j u v (by lia) ci (by lia) cj hu hv
  ·have ej:j=n+1:=by lia
   subst ej;rw[hy] at hv;cases hv
   exact (old i u (by lia) ci hu).1
 ·have ei:i=n+1:=by lia
  subst ei;rw[hy] at hu;cases hu
  rcases Nat.lt_or_ge j (n+1) with cj | cj
  ·exact (old j v (by lia) cj hv).2
  ·have ej:j=n+1:=by lia
   subst ej;rw[hy] at hv;cases hv
   exact O.rf (hS _ _ hy)
theorem Blk.one (O:LtOk M A E s kd S L){a:Array Keyed}{lo n:Nat}(hS:∀ (k:Nat) x,a[k]?=some x→S x):Blk L a lo (n+1) 0:=fun i j x y a1 a2 b1 b2 hx hy=>by
 have ei:i=n:=by lia
 have ej:j=n:=by lia
 subst ei;subst ej
 rw[hx] at hy;cases hy
 exact O.rf (hS _ _ hx)
theorem zft {B:Prop}{D:SortSt→Prop}(C:SortSt→Prop) (g:(∀ st,D st→C st)→B) (h:∀ st,D st→C st):B:=g h
theorem zfh (O : LtOk M A E s kd S L){st : SortSt}{lo nrem : Nat}{Q : Option Nat → SortSt → Prop}(h1 : 1 ≤ nrem) (hz : lo + nrem ≤ (arrOf st).size) (hk : kindOf st = kd) (hS : ∀ (k : Nat) x, (arrOf st)[k]? = some x → S x)
    (hQ:∀ m st',SB kd S st st' lo (lo+nrem)→1≤m→m≤nrem→Seg L (arrOf st') lo m→Q (some m) st'):wpS M A E s (countRun' lo nrem) Q st:=by
  rw[countRun'_eq]
  refine wpS_bind (wpS_mono (wpS_forRange (I:=fun x c st'=>c=(none,x)∧st'=st∧x≤nrem∧Seg L (arrOf st) lo x)
    (Q:=fun c st'=>∃ m,c=(none,m)∧st'=st∧1≤m∧m≤nrem∧Seg L (arrOf st) lo m∧(m<nrem→∃ x y,(arrOf st)[lo+m]?=some x∧(arrOf st)[lo+m - 1]?=some y∧L x y=true)) ?step ?fin ?init) ?post)
  case init =>
    refine⟨rfl,rfl,h1,fun i j x y hij hj hx hy=>?_⟩
    have ei:i=0:=by lia
    have ej:j=0:=by lia
    subst ei;subst ej
    rw[hx] at hy
    cases hy
    exact O.rf (hS _ _ hx)
  case fin =>
    rintro c st' ⟨rfl,rfl,hle,hsg⟩
    exact⟨_,rfl,rfl,by lia,hle,hsg,fun h=>absurd h (by lia)⟩
  case step =>
    rintro n c st' hn1 hn2 ⟨rfl,rfl,hle,hsg⟩
    obtain⟨x,hx⟩:=zbJ (st:=st') (i:=lo+n) (by lia)
    obtain⟨y,hy⟩:=zbJ (st:=st') (i:=lo+n - 1) (by lia)
    refine wpS_bind (zen O hk hx hy (hS _ _ hx) (hS _ _ hy) ?_)
    dsimp only
    by_cases hl:L x y=true
    · rw[if_pos hl]
      exact wpS_pure ⟨n,rfl,rfl,hn1,hle,hsg,fun _=>⟨x,y,hx,hy,hl⟩⟩
    · rw[if_neg hl]
      refine wpS_pure ⟨rfl,rfl,hn2,?_⟩
      obtain⟨p,rfl⟩:∃ p,n=p+1:=⟨n - 1,by lia⟩
      exact hsg.more O hS (by rw[show lo+(p+1) - 1=lo+p by lia] at hy;exact hy) hx (by simpa using hl)
  case post =>
    rintro c st' ⟨m,rfl,rfl,hm1,hm2,hsg,hnx⟩
    dsimp only
    by_cases hmn:(m == nrem)=true
    · rw[if_pos hmn]
      exact wpS_pure (hQ m st' (SB.refl hk hS) hm1 hm2 hsg)
    · rw[if_neg hmn]
      have hlt : m < nrem := by have : m ≠ nrem := by simpa using hmn
                                lia
      obtain⟨x0,y0,hx0,hy0,hl0⟩:=hnx hlt
      refine zft (D:=fun st1=>SB kd S st' st1 lo (lo+nrem)∧Rev L (arrOf st1) lo m∧(∃ x y,(arrOf st1)[lo+m]?=some x∧(arrOf st1)[lo+m - 1]?=some y∧L y x=false)) ?C (fun share=>?g) ?h
      case g =>
        by_cases hm:m > 1
        · rw[if_pos hm]
          obtain⟨a,ha⟩:=zbJ (st:=st') (i:=lo) (by lia)
          obtain⟨b,hb⟩:=zbJ (st:=st') (i:=lo+m - 1) (by lia)
          refine wpS_bind (zen O hk ha hb (hS _ _ ha) (hS _ _ hb) ?_)
          dsimp only
          by_cases hr:L a b=true
          · rw[if_pos hr]
            exact wpS_pure (hQ m st' (SB.refl hk hS) hm1 hm2 hsg)
          · rw[if_neg hr]
            have hr':L a b=false:=by simpa using hr
            rw[reverseSlice'_eq]
            refine wpS_bind (wpS_modify ?_)
            have hz2:lo+m≤(arrOf st').size:=by lia
            have hb':(arrOf st')[lo+(m - 1)]?=some b:=by rw[show lo+(m - 1)=lo+m - 1 by lia];exact hb
            have eqv:Rev L (arrOf st') lo m:=fun i j x y hij hj hx hy=>by
              have e1:=hsg 0 j a y (by lia) hj (by simpa using ha) hy
              have e2:=hsg i (m - 1) x b (by lia) (by lia) hx hb'
              have e3:=O.tr x b a (hS _ _ hx) (hS _ _ hb) (hS _ _ ha) e2 hr'
              have e4:=hsg j (m - 1) y b (by lia) (by lia) hy hb'
              have e5:=hsg 0 i a x (by lia) (by lia) (by simpa using ha) hx
              exact O.tr y b x (hS _ _ hy) (hS _ _ hb) (hS _ _ hx) e4 (O.tr b a x (hS _ _ hb) (hS _ _ ha) (hS _ _ hx) hr' e5)
            have rv2:Rev L (mirror (arrOf st') lo (lo+m) ((lo+m - lo) / 2)) lo m:=fun i j x y hij hj hx hy=>by
              rw[getElem?_mirror_all hz2,if_pos (by lia)] at hx hy
              rw[show lo+(lo+m) - 1 - (lo+i)=lo+(m - 1 - i) by lia] at hx
              rw[show lo+(lo+m) - 1 - (lo+j)=lo+(m - 1 - j) by lia] at hy
              exact hsg _ _ y x (by lia) (by lia) hy hx
            refine share _ ⟨(SB.refl hk hS).mir (Nat.le_refl _) (by lia) hz2,rv2,x0,a,?_,?_,?_⟩
            · show (mirror (arrOf st') lo (lo+m) ((lo+m - lo) / 2))[lo+m]?=_
              rw[getElem?_mirror_all hz2,if_neg (by lia)];exact hx0
            · show (mirror (arrOf st') lo (lo+m) ((lo+m - lo) / 2))[lo+m - 1]?=_
              rw[getElem?_mirror_all hz2,if_pos (by lia),show lo+(lo+m) - 1 - (lo+m - 1)=lo by lia];exact ha
            · have eb:b=y0:=by rw[hb] at hy0;exact Option.some.inj hy0
              subst eb
              exact O.tr x0 b a (hS _ _ hx0) (hS _ _ hb) (hS _ _ ha) (O.as x0 b (hS _ _ hx0) (hS _ _ hb) hl0) hr'
        · rw[if_neg hm]
          have em:m=1:=by lia
          subst em
          refine share _ ⟨SB.refl hk hS,fun i j x y hij hj hx hy=>?_,x0,y0,hx0,hy0,O.as x0 y0 (hS _ _ hx0) (hS _ _ hy0) hl0⟩
          have ei:i=0:=by lia
          have ej:j=0:=by lia
          subst ei;subst ej
          rw[hx] at hy;cases hy
          exact O.rf (hS _ _ hx)
      case h =>
        rintro st1 ⟨sb1,rv1,x1,y1,hx1,hy1,hl1⟩
        have hz1:lo+nrem≤(arrOf st1).size:=by rw[sb1.size];exact hz
        refine wpS_bind (wpS_lift (wpAny_rule ⟨rfl,?_⟩))
        obtain⟨p,rfl⟩:∃ p,m=p+1:=⟨m - 1,by lia⟩
        rw[show lo+(p+1) - 1=lo+p by lia] at hy1
        have rv2:Rev L (arrOf st1) lo (p+1+1):=rv1.more O sb1.all hy1 hx1 hl1
        refine wpS_bind (wpS_mono (wpS_forRange (I:=fun x c st2=>∃ q,c=(none,x,q)∧SB kd S st' st2 lo (lo+nrem)∧1≤x∧x≤nrem∧q<x∧Rev L (arrOf st2) lo x∧Blk L (arrOf st2) lo x q)
          (Q:=fun c st2=>∃ x q,c=(none,x,q)∧SB kd S st' st2 lo (lo+nrem)∧1≤x∧x≤nrem∧q<x∧Rev L (arrOf st2) lo x∧Blk L (arrOf st2) lo x q) ?step ?fin ⟨0,rfl,sb1,by lia,by lia,by lia,rv2,Blk.one O sb1.all⟩) ?post)
        case fin =>
          rintro c st2 ⟨q,rfl,hh⟩
          exact⟨_,q,rfl,hh⟩
        case step =>
          rintro x c st2 hx1' hx2 ⟨q,rfl,sb2,hn1,hn2,hq,rv,bk⟩
          have hz2:lo+nrem≤(arrOf st2).size:=by rw[sb2.size];exact hz
          obtain⟨u,hu⟩:=zbJ (st:=st2) (i:=lo+x) (by lia)
          obtain⟨v,hv⟩:=zbJ (st:=st2) (i:=lo+x - 1) (by lia)
          obtain⟨r,rfl⟩:∃ r,x=r+1:=⟨x - 1,by lia⟩
          rw[show lo+(r+1) - 1=lo+r by lia] at hv
          refine wpS_bind (zen O sb2.kind hu (by rw[show lo+(r+1) - 1=lo+r by lia];exact hv) (sb2.all _ _ hu) (sb2.all _ _ hv) ?_)
          dsimp only
          by_cases hl:L u v=true
          · rw[if_pos hl]
            have hvu:=O.as u v (sb2.all _ _ hu) (sb2.all _ _ hv) hl
            by_cases hq0:q > 0
            · rw[if_pos hq0,reverseSlice'_eq]
              refine wpS_bind (wpS_modify ?_)
              have hzr:lo+(r+1)≤(arrOf st2).size:=by lia
              have sb3:=sb2.mir (i:=lo+(r+1) - (q+1)) (j:=lo+(r+1)) (by lia) (by lia) hzr
              have rv3:=rv.blk bk hq hzr
              refine wpS_pure ⟨0,rfl,sb3,by lia,by lia,by lia,?_,Blk.one O sb3.all⟩
              have hz3:r<r+1:=by lia
              obtain⟨v2,hv2⟩:=zbJ (st:=setArr st2 (mirror (arrOf st2) (lo+(r+1) - (q+1)) (lo+(r+1)) ((lo+(r+1) - (lo+(r+1) - (q+1))) / 2))) (i:=lo+r) (by show lo+r<(mirror (arrOf st2) _ _ _).size;rw[mirror_size];lia)
              have hv2':(arrOf st2)[lo+(r+1 - (q+1)+r - r)]?=some v2:=by
                have h0:(mirror (arrOf st2) (lo+(r+1) - (q+1)) (lo+(r+1)) ((lo+(r+1) - (lo+(r+1) - (q+1))) / 2))[lo+r]?=some v2:=hv2
                rw[getElem?_mirror_all hzr,if_pos (by lia),show lo+(r+1) - (q+1)+(lo+(r+1)) - 1 - (lo+r)=lo+(r+1 - (q+1)+r - r) by lia] at h0
                exact h0
              refine rv3.more O sb3.all hv2 (y:=u) ?_ ?_
              · show (mirror (arrOf st2) (lo+(r+1) - (q+1)) (lo+(r+1)) ((lo+(r+1) - (lo+(r+1) - (q+1))) / 2))[lo+(r+1)]?=some u
                rw[getElem?_mirror_all hzr,if_neg (by lia)];exact hu
              · exact O.tr u v v2 (sb2.all _ _ hu) (sb2.all _ _ hv) (sb2.all _ _ hv2') hvu (rv _ r v2 v (by lia) (by lia) hv2' hv)
            · rw[if_neg hq0]
              exact wpS_pure ⟨0,rfl,sb2,by lia,by lia,by lia,rv.more O sb2.all hv hu hvu,Blk.one O sb2.all⟩
          · rw[if_neg hl]
            have hl':L u v=false:=by simpa using hl
            refine wpS_bind (zen O sb2.kind (by rw[show lo+(r+1) - 1=lo+r by lia];exact hv) hu (sb2.all _ _ hv) (sb2.all _ _ hu) ?_)
            dsimp only
            by_cases hg:L v u=true
            · rw[if_pos hg]
              exact wpS_pure ⟨r+1,q,rfl,sb2,hn1,hn2,hq,rv,bk⟩
            · rw[if_neg hg]
              have hg':L v u=false:=by simpa using hg
              exact wpS_pure ⟨q+1,rfl,sb2,by lia,by lia,by lia,rv.more O sb2.all hv hu hg',bk.more O sb2.all hq hv hu hg' hl'⟩
        case post =>
          rintro c st2 ⟨x,q,rfl,sb2,hx1',hx2,hq,rv,bk⟩
          dsimp only
          have hz2:lo+nrem≤(arrOf st2).size:=by rw[sb2.size];exact hz
          refine zft (D:=fun st3=>SB kd S st' st3 lo (lo+nrem)∧Rev L (arrOf st3) lo x) ?C2 (fun share=>?g2) ?h2
          case g2 =>
            by_cases hq0:q > 0
            · rw[if_pos hq0,reverseSlice'_eq]
              refine wpS_bind (wpS_modify ?_)
              exact share _ ⟨sb2.mir (by lia) (by lia) (by lia),rv.blk bk hq (by lia)⟩
            · rw[if_neg hq0]
              exact share _ ⟨sb2,rv⟩
          case h2 =>
            rintro st3 ⟨sb3,rv3⟩
            have hz3:lo+nrem≤(arrOf st3).size:=by rw[sb3.size];exact hz
            rw[reverseSlice'_eq]
            refine wpS_bind (wpS_modify ?_)
            have sb4:=sb3.mir (i:=lo) (j:=lo+x) (Nat.le_refl _) (by lia) (by lia)
            have sg4:=rv3.flip (show lo+x≤(arrOf st3).size by lia)
            have sg5:Seg L (arrOf (setArr st3 (mirror (arrOf st3) lo (lo+x) ((lo+x - lo) / 2)))) lo x:=sg4
            generalize setArr st3 (mirror (arrOf st3) lo (lo+x) ((lo+x - lo) / 2))=st4 at sb4 sg5
            have hz4:lo+nrem≤(arrOf st4).size:=by rw[sb4.size];exact hz
            refine wpS_bind (wpS_mono (wpS_forRange (I:=fun n c st5=>c=(none,n)∧st5=st4∧n≤nrem∧Seg L (arrOf st4) lo n) (Q:=fun c st5=>∃ m,c=(none,m)∧st5=st4∧1≤m∧m≤nrem∧Seg L (arrOf st4) lo m) ?step ?fin ⟨rfl,rfl,hx2,sg5⟩) ?post)
            case fin =>
              rintro c st5 ⟨rfl,rfl,hle,hsg⟩
              exact⟨_,rfl,rfl,by lia,hle,hsg⟩
            case step =>
              rintro n c st5 hn1 hn2 ⟨rfl,rfl,hle,hsg⟩
              obtain⟨u,hu⟩:=zbJ (st:=st5) (i:=lo+n) (by lia)
              obtain⟨v,hv⟩:=zbJ (st:=st5) (i:=lo+n - 1) (by lia)
              refine wpS_bind (zen O sb4.kind hu hv (sb4.all _ _ hu) (sb4.all _ _ hv) ?_)
              dsimp only
              by_cases hl:L u v=true
              · rw[if_pos hl]
                exact wpS_pure ⟨n,rfl,rfl,by lia,hle,hsg⟩
              · rw[if_neg hl]
                refine wpS_pure ⟨rfl,rfl,hn2,?_⟩
                obtain⟨p,rfl⟩:∃ p,n=p+1:=⟨n - 1,by lia⟩
                exact hsg.more O sb4.all (by rw[show lo+(p+1) - 1=lo+p by lia] at hv;exact hv) hu (by simpa using hl)
            case post =>
              rintro c st5 ⟨n,rfl,rfl,h1n,hn2,hsg⟩
              exact wpS_pure (hQ n st5 sb4 h1n hn2 hsg)
end
end TS
namespace TS
open PySem PyProof.Rows
section
variable {M:Model}{A:Around}{E:Value→Shared→Prop}{s:Shared}{kd:SortKind}{S:Keyed→Prop}{L:Keyed→Keyed→Bool}
theorem SB.bub {st0 st:SortSt}{lo hi i d:Nat}(h:SB kd S st0 st lo hi) (h1:lo≤i - d) (hd:d≤i) (h2:i<hi) (hz:i<(arrOf st).size):SB kd S st0 (setArr st (bubble (arrOf st) i d)) lo hi:=by
 refine⟨h.kind,h.pend,h.fail,(bubble_perm _ _ _).trans h.perm,fun k hk=>?_,fun k x hx=>?_⟩
 ·show (bubble (arrOf st) i d)[k]?=_
  rw[getElem?_bubble hz _ hd,if_neg (by lia),if_neg (by lia)]
  exact h.out k hk
 ·have hx':(bubble (arrOf st) i d)[k]?=some x:=hx
  rw[getElem?_bubble hz _ hd] at hx'
  split at hx'
  ·exact h.all _ x hx'
  ·split at hx'
   ·exact h.all _ x hx'
   ·exact h.all _ x hx'
theorem Seg.ins (O : LtOk M A E s kd S L){a : Array Keyed}{lo k l : Nat}{p : Keyed}(hS : ∀ (k : Nat) x, a[k]? = some x → S x) (h : Seg L a lo k) (hlk : l ≤ k) (hz : lo + k < a.size) (hp : a[lo + k]? = some p)
  (h1:∀ (i:Nat) x,i<l→a[lo+i]?=some x→L p x=false) (h2:∀ (i:Nat) x,l≤i→i<k→a[lo+i]?=some x→L p x=true):Seg L (bubble a (lo+k) (lo+k - (lo+l))) lo (k+1):=by
 have at':∀ (i:Nat) x,i<k+1→(bubble a (lo+k) (lo+k - (lo+l)))[lo+i]?=some x→(i<l∧a[lo+i]?=some x)∨(i=l∧x=p)∨(l<i∧a[lo+(i - 1)]?=some x):=fun i x hi hx=>by
  rw[getElem?_bubble hz _ (by lia)] at hx
  by_cases e:lo+i=lo+k - (lo+k - (lo+l))
  ·rw[if_pos e,hp] at hx
   exact .inr (.inl ⟨by lia,(Option.some.inj hx).symm⟩)
  ·rw[if_neg e] at hx
   by_cases e2:lo+k - (lo+k - (lo+l))<lo+i∧lo+i≤lo+k
   ·rw[if_pos e2,show lo+i - 1=lo+(i - 1) by lia] at hx
    exact .inr (.inr ⟨by lia,hx⟩)
   ·rw[if_neg e2] at hx
    exact .inl ⟨by lia,hx⟩
 intro i j x y hij hj hx hy
 have sp:=hS _ _ hp
 rcases at' i x (by lia) hx with⟨a1,a2⟩ | ⟨a1,a2⟩ | ⟨a1,a2⟩
 ·rcases at' j y hj hy with⟨b1,b2⟩ | ⟨b1,b2⟩ | ⟨b1,b2⟩
  ·exact h i j x y hij (by lia) a2 b2
  ·rw[b2];exact h1 i x a1 a2
  ·exact h i (j - 1) x y (by lia) (by lia) a2 b2
 ·subst a2
  rcases at' j y hj hy with⟨b1,b2⟩ | ⟨b1,b2⟩ | ⟨b1,b2⟩
  ·lia
  ·rw[b2];exact O.rf sp
  ·exact O.as x y sp (hS _ _ b2) (h2 (j - 1) y (by lia) (by lia) b2)
 ·rcases at' j y hj hy with⟨b1,b2⟩ | ⟨b1,b2⟩ | ⟨b1,b2⟩
  ·lia
  ·lia
  ·exact h (i - 1) (j - 1) x y (by lia) (by lia) a2 b2
theorem zd5 (O : LtOk M A E s kd S L){st : SortSt}{lo n ok : Nat}{Q : Bool → SortSt → Prop}(hok : 1 ≤ ok) (hn : ok ≤ n) (hz : lo + n ≤ (arrOf st).size) (hk : kindOf st = kd) (hS : ∀ (k : Nat) x, (arrOf st)[k]? = some x → S x) (hs : Seg L (arrOf st) lo ok)
  (hQ:∀ st',SB kd S st st' lo (lo+n)→Seg L (arrOf st') lo n→Q true st'):wpS M A E s (binarySort' lo n ok) Q st:=by
 rw[binarySort'_eq]
 have em:max ok 1=ok:=by lia
 rw[em]
 refine wpS_bind (wpS_mono (wpS_forRange (I:=fun k c st'=>c=(none,())∧SB kd S st st' lo (lo+n)∧k≤n∧Seg L (arrOf st') lo k)
  (Q:=fun c st'=>c=(none,())∧SB kd S st st' lo (lo+n)∧Seg L (arrOf st') lo n) ?step ?fin ⟨rfl,SB.refl hk hS,hn,hs⟩) ?post)
 case post =>
  rintro c st' ⟨rfl,sb,sg⟩
  exact wpS_pure (hQ st' sb sg)
 case fin =>
  rintro c st' ⟨rfl,sb,hle,sg⟩
  rw[show max ok n=n by lia] at sg
  exact⟨rfl,sb,sg⟩
 case step =>
  rintro k c st' hk1 hk2 ⟨rfl,sb,hle,sg⟩
  have hz':lo+n≤(arrOf st').size:=by rw[sb.size];exact hz
  obtain⟨p,hp⟩:=zbJ (st:=st') (i:=lo+k) (by lia)
  dsimp only
  refine wpS_bind (wpS_mono (wpS_forRange (I:=fun x c st2=>∃ l r,c=(none,l,r)∧st2=st'∧l≤r∧r≤k∧r - l≤k - x∧(∀ (i:Nat) z,i<l→(arrOf st')[lo+i]?=some z→L p z=false)∧(∀ (i:Nat) z,r≤i→i<k→(arrOf st')[lo+i]?=some z→L p z=true))
   (Q:=fun c st2=>∃ l,c=(none,l,l)∧st2=st'∧l≤k∧(∀ (i:Nat) z,i<l→(arrOf st')[lo+i]?=some z→L p z=false)∧(∀ (i:Nat) z,l≤i→i<k→(arrOf st')[lo+i]?=some z→L p z=true)) ?step2 ?fin2 ⟨0,k,rfl,rfl,Nat.zero_le _,Nat.le_refl _,Nat.le_refl _,(fun i z h=>absurd h (Nat.not_lt_zero _)),(fun i z h1 h2=>absurd h2 (by lia))⟩) ?post2)
  case fin2 =>
   rintro c st2 ⟨l,r,rfl,rfl,h1,h2,h3,h4,h5⟩
   have:l=r:=by lia
   subst this
   exact⟨l,rfl,rfl,h2,h4,h5⟩
  case step2 =>
   rintro x c st2 _ hx ⟨l,r,rfl,rfl,h1,h2,h3,h4,h5⟩
   dsimp only
   by_cases hlr:l ≥ r
   ·rw[if_pos hlr]
    have:l=r:=by lia
    subst this
    exact wpS_pure ⟨l,rfl,rfl,h2,h4,h5⟩
   ·rw[if_neg hlr]
    obtain⟨u,hu⟩:=zbJ (st:=st2) (i:=lo+(l+r) / 2) (by lia)
    refine wpS_bind (zen O sb.kind hp hu (sb.all _ _ hp) (sb.all _ _ hu) ?_)
    dsimp only
    by_cases hl:L p u=true
    ·rw[if_pos hl]
     refine wpS_pure ⟨l,(l+r) / 2,rfl,rfl,by lia,by lia,by lia,h4,fun i z a1 a2 hz2=>?_⟩
     cases q:L p z with
     | true=>rfl
     | false =>
      have e1:=sg ((l+r) / 2) i u z a1 a2 hu hz2
      have e2:=O.tr u z p (sb.all _ _ hu) (sb.all _ _ hz2) (sb.all _ _ hp) e1 q
      rw[hl] at e2;cases e2
    ·rw[if_neg hl]
     have hl':L p u=false:=by simpa using hl
     refine wpS_pure ⟨(l+r) / 2+1,r,rfl,rfl,by lia,by lia,by lia,fun i z a1 hz2=>?_,h5⟩
     have e1:=sg i ((l+r) / 2) z u (by lia) (by lia) hz2 hu
     exact O.tr z u p (sb.all _ _ hz2) (sb.all _ _ hu) (sb.all _ _ hp) e1 hl'
  case post2 =>
   rintro c st2 ⟨l,rfl,rfl,h2,h4,h5⟩
   dsimp only
   rw[moveDown'_eq]
   refine wpS_bind (wpS_modify (wpS_pure ⟨rfl,sb.bub (by lia) (by lia) (by lia) (by lia),by lia,?_⟩))
   exact sg.ins O sb.all h2 (by lia) hp h4 h5
end
end TS
set_option maxHeartbeats 8000000
namespace TS
open PySem PyProof.Rows
def wr (a:Array Keyed) (o:Nat) (l:List Keyed) (k:Nat):Array Keyed:=(l.zipIdx k).foldl (fun a (p:Keyed×Nat)=>a.setIfInBounds (o+p.2) p.1) a
theorem zh3:∀ (l:List Keyed) (k:Nat) (a:Array Keyed) (o i:Nat),o+k+l.length≤a.size→(wr a o l k)[i]?=if o+k≤i∧i<o+k+l.length then l[i - (o+k)]? else a[i]?
 | [],k,a,o,i,_=>by
  show a[i]?=_
  rw[if_neg (by simp)]
 | x::l,k,a,o,i,hz=>by
  have ih:=zh3 l (k+1) (a.setIfInBounds (o+k) x) o i (by rw[Array.size_setIfInBounds];simp at hz;lia)
  unfold wr at ih ⊢
  rw[List.zipIdx_cons,List.foldl_cons,ih]
  simp only[List.length_cons] at hz ⊢
  by_cases h1:o+(k+1)≤i∧i<o+(k+1)+l.length
  ·rw[if_pos h1,if_pos (by lia),show i - (o+k)=(i - (o+(k+1)))+1 by lia]
   rfl
  ·rw[if_neg h1]
   by_cases h2:i=o+k
   ·subst h2
    rw[if_pos (by lia),Nat.sub_self]
    rw[Array.getElem?_setIfInBounds_self_of_lt (by lia)]
    rfl
   ·rw[if_neg (by lia),Array.getElem?_setIfInBounds_ne (Ne.symm h2)]
theorem zkH {a:Array Keyed}{o:Nat}{l:List Keyed}(hz:o+l.length≤a.size):(wr a o l 0).toList=a.toList.take o++l++a.toList.drop (o+l.length):=by
 apply List.ext_getElem?
 intro i
 rw[Array.getElem?_toList,zh3 l 0 a o i (by simpa using hz)]
 have h1:(a.toList.take o).length=o:=by rw[List.length_take,Array.length_toList];lia
 by_cases c1:i<o
 ·rw[if_neg (by lia),List.append_assoc,List.getElem?_append_left (by lia),List.getElem?_take,if_pos c1,Array.getElem?_toList]
 ·by_cases c2:i<o+l.length
  ·rw[if_pos (by lia),List.append_assoc,List.getElem?_append_right (by lia),List.getElem?_append_left (by lia),h1]
   rfl
  ·rw[if_neg (by lia),List.getElem?_append_right (by simp;lia),List.getElem?_drop,← Array.getElem?_toList]
   congr 1
   simp
   lia
section
variable {M:Model}{A:Around}{E:Value→Shared→Prop}{s:Shared}{kd:SortKind}{S:Keyed→Prop}{L:Keyed→Keyed→Bool}
structure SM (kd:SortKind) (S:Keyed→Prop) (L:Keyed→Keyed→Bool) (st0 st:SortSt) (pd:Array (Nat×Nat×Nat)) (lo n:Nat):Prop where
 kind:kindOf st=kd
 pend:pendingOf st=pd
 fail:failedOf st=none
 perm:(arrOf st).Perm (arrOf st0)
 out:∀ k:Nat,k<lo∨lo+n≤k→(arrOf st)[k]?=(arrOf st0)[k]?
 all:∀ (k:Nat) x,(arrOf st)[k]?=some x→S x
 seg:Seg L (arrOf st) lo n
theorem Seg.glue {a:Array Keyed}(O:LtOk M A E s kd S L){lo n m:Nat}(hS:∀ (k:Nat) x,a[k]?=some x→S x) (h1:Seg L a lo n) (h2:Seg L a (lo+n) m) (h:∀ x y,a[lo+(n - 1)]?=some x→a[lo+n]?=some y→L y x=false) (hn:0<n) (hz:lo+n+m≤a.size):Seg L a lo (n+m):=by
 intro i j x y hij hj hx hy
 rcases Nat.lt_or_ge j n with cj | cj
 ·exact h1 i j x y hij cj hx hy
 ·rw[show lo+j=lo+n+(j - n) by lia] at hy
  rcases Nat.lt_or_ge i n with ci | ci
  ·have e1:a[lo+(n - 1)]?=some a[lo+(n - 1)]:=by rw[Array.getElem?_eq_getElem (by lia)]
   have e2:a[lo+n]?=some a[lo+n]:=by rw[Array.getElem?_eq_getElem (by lia)]
   have q1:=h1 i (n - 1) x _ (by lia) (by lia) hx e1
   have q2:=h _ _ e1 e2
   have q3:=h2 0 (j - n) _ y (Nat.zero_le _) (by lia) e2 hy
   exact O.tr x _ y (hS _ _ hx) (hS _ _ e1) (hS _ _ hy) q1 (O.tr _ _ y (hS _ _ e1) (hS _ _ e2) (hS _ _ hy) q2 q3)
  ·rw[show lo+i=lo+n+(i - n) by lia] at hx
   exact h2 (i - n) (j - n) x y (by lia) (by lia) hx hy
theorem zkI {x:SortSt}{Q:PUnit→SortSt→Prop}{st:SortSt}(h:Q ⟨⟩ x):wpS M A E s (set x:StateT SortSt Sem PUnit) Q st:=by
 unfold wpS;rw[StateT.run_set];exact wpAny_pure ⟨rfl,h⟩
theorem zfe {a:Array Keyed}{o n i:Nat}(hz:o+n≤a.size):(a.extract o (o+n))[i]?=if i<n then a[o+i]? else none:=by
 rw[Array.getElem?_extract]
 by_cases h:i<n
 ·rw[if_pos h,if_pos (by lia)]
 ·rw[if_neg h,if_neg (by lia)]
theorem zg0 {a:Array Keyed}{o n:Nat}(hz:o+n≤a.size) (h:Seg L a o n):(a.extract o (o+n)).toList.Pairwise (leOf L):=by
 rw[List.pairwise_iff_getElem]
 intro i j hi hj hij
 rw[Array.length_toList,Array.size_extract] at hi hj
 have e1:(a.extract o (o+n))[i]?=some (a.extract o (o+n)).toList[i]:=by rw[← Array.getElem?_toList,List.getElem?_eq_getElem]
 have e2:(a.extract o (o+n))[j]?=some (a.extract o (o+n)).toList[j]:=by rw[← Array.getElem?_toList,List.getElem?_eq_getElem]
 rw[zfe hz,if_pos (by lia)] at e1 e2
 exact h i j _ _ (by lia) (by lia) e1 e2
theorem zdb {a:Array Keyed}{o n:Nat}{x:Keyed}(hz:o+n≤a.size) (h:x∈(a.extract o (o+n)).toList):∃ i,i<n∧a[o+i]?=some x:=by
 obtain⟨i,hi,e⟩:=List.getElem_of_mem h
 have e1:(a.extract o (o+n))[i]?=some x:=by rw[← Array.getElem?_toList,List.getElem?_eq_getElem hi,e]
 rw[Array.length_toList,Array.size_extract] at hi
 refine⟨i,by lia,?_⟩
 rw[zfe hz,if_pos (by lia)] at e1
 exact e1
theorem SM.write (O : LtOk M A E s kd S L){st0 st : SortSt}{pd : Array (Nat × Nat × Nat)}{sa na nb k m : Nat}{r : Array Keyed}(hna : 1 ≤ na) (hk : k < na) (hm0 : 0 < m) (hm : m ≤ nb) (hz : sa + na + nb ≤ (arrOf st0).size) (hS : ∀ (k : Nat) x, (arrOf st0)[k]? = some x → S x)
  (sA:Seg L (arrOf st0) sa na) (sB:Seg L (arrOf st0) (sa+na) nb) (y0 z0:Keyed) (hy0:(arrOf st0)[sa+na]?=some y0) (hz0:(arrOf st0)[sa+(na - 1)]?=some z0)
  (A1:∀ (i:Nat) x,i<k→(arrOf st0)[sa+i]?=some x→L y0 x=false) (B2:∀ (i:Nat) y,m≤i→i<nb→(arrOf st0)[sa+na+i]?=some y→L y z0=false)
  (hr:Res (leOf L) ((arrOf st0).extract (sa+k) (sa+k+(na - k))).toList ((arrOf st0).extract (sa+na) (sa+na+m)).toList r.toList) (hkd:kindOf st=kd) (hp:pendingOf st=pd) (hf:failedOf st=none) (ha:arrOf st=wr (arrOf st0) (sa+k) r.toList 0) :
  SM kd S L st0 st pd sa (na+nb):=by
 obtain⟨hperm,hpair⟩:=hr
 have hrl:r.toList.length=(na - k)+m:=by
  rw[hperm.length_eq,List.length_append,Array.length_toList,Array.length_toList,Array.size_extract,Array.size_extract];lia
 have hz2:sa+k+r.toList.length≤(arrOf st0).size:=by lia
 have get':∀ i:Nat,(arrOf st)[i]?=if sa+k≤i∧i<sa+k+r.toList.length then r.toList[i - (sa+k)]? else (arrOf st0)[i]?:=fun i=>by
  rw[ha,zh3 _ _ _ _ _ (by lia)]
  simp only[Nat.add_zero]
 have rmem:∀ x∈r.toList,(∃ i,k≤i∧i<na∧(arrOf st0)[sa+i]?=some x)∨(∃ i,i<m∧(arrOf st0)[sa+na+i]?=some x):=fun x hx=>by
  rcases List.mem_append.mp (hperm.mem_iff.mp hx) with q | q
  ·obtain⟨i,hi,e⟩:=zdb (by lia) q
   exact .inl ⟨k+i,by lia,by lia,by rw[show sa+(k+i)=sa+k+i by lia];exact e⟩
  ·obtain⟨i,hi,e⟩:=zdb (by lia) q
   exact .inr ⟨i,hi,e⟩
 have y0le:∀ (i:Nat) y,i<nb→(arrOf st0)[sa+na+i]?=some y→L y y0=false:=fun i y hi hy=>sB 0 i y0 y (Nat.zero_le _) hi (by simpa using hy0) hy
 have lez0:∀ (i:Nat) x,i<na→(arrOf st0)[sa+i]?=some x→L z0 x=false:=fun i x hi hx=>sA i (na - 1) x z0 (by lia) (by lia) hx hz0
 refine⟨hkd,hp,hf,?_,fun i hi=>?_,fun i x hx=>?_,fun i j x y hij hj hx hy=>?_⟩
 ·rw[ha]
  refine Array.perm_iff_toList_perm.mpr ?_
  rw[zkH hz2]
  have e:(arrOf st0).toList=(arrOf st0).toList.take (sa+k)++(((arrOf st0).extract (sa+k) (sa+k+(na - k))).toList++((arrOf st0).extract (sa+na) (sa+na+m)).toList)++(arrOf st0).toList.drop (sa+k+r.toList.length):=by
   rw[zcC,zcC]
   have d1:=List.take_append_drop (sa+k) (arrOf st0).toList
   have d2:=zcF (arrOf st0).toList (sa+k) (na - k)
   have d3:=zcF (arrOf st0).toList (sa+na) m
   rw[show sa+k+(na - k)=sa+na by lia] at d2
   rw[show sa+k+r.toList.length=sa+na+m by lia,List.append_assoc,List.append_assoc,← d3,← d2,d1]
  conv=>rhs;rw[e]
  exact (hperm.append_left _).append_right _
 ·rw[get',if_neg (by lia)]
 ·rw[get'] at hx
  split at hx
  ·rcases rmem x (List.mem_of_getElem? hx) with⟨_,_,_,e⟩ | ⟨_,_,e⟩
   ·exact hS _ _ e
   ·exact hS _ _ e
  ·exact hS _ _ hx
 ·rw[get'] at hx hy
  by_cases ci:sa+k≤sa+i∧sa+i<sa+k+r.toList.length
  ·rw[if_pos ci] at hx
   by_cases cj:sa+k≤sa+j∧sa+j<sa+k+r.toList.length
   ·rw[if_pos cj] at hy
    rcases Nat.lt_or_ge i j with q | q
    ·have h1:sa+i - (sa+k)<r.toList.length:=by lia
     have h2:sa+j - (sa+k)<r.toList.length:=by lia
     rw[List.getElem?_eq_getElem h1] at hx
     rw[List.getElem?_eq_getElem h2] at hy
     have:=List.pairwise_iff_getElem.mp hpair _ _ h1 h2 (by lia)
     rw[Option.some.inj hx,Option.some.inj hy] at this
     exact this
    ·have e:i=j:=by lia
     subst e
     rw[hx] at hy;cases hy
     rcases rmem x (List.mem_of_getElem? hx) with⟨_,_,_,e⟩ | ⟨_,_,e⟩
     ·exact O.rf (hS _ _ e)
     ·exact O.rf (hS _ _ e)
   ·rw[if_neg cj,show sa+j=sa+na+(j - na) by lia] at hy
    have q1:=B2 (j - na) y (by lia) (by lia) hy
    rcases rmem x (List.mem_of_getElem? hx) with⟨t,_,h2,e⟩ | ⟨t,h2,e⟩
    ·exact O.tr x z0 y (hS _ _ e) (hS _ _ hz0) (hS _ _ hy) (lez0 t x h2 e) q1
    ·exact sB t (j - na) x y (by lia) (by lia) e hy
  ·rw[if_neg ci] at hx
   by_cases cj:sa+k≤sa+j∧sa+j<sa+k+r.toList.length
   ·rw[if_pos cj] at hy
    rcases rmem y (List.mem_of_getElem? hy) with⟨t,h1,h2,e⟩ | ⟨t,h2,e⟩
    ·exact sA i t x y (by lia) h2 hx e
    ·exact O.tr x y0 y (hS _ _ hx) (hS _ _ hy0) (hS _ _ e) (A1 i x (by lia) hx) (y0le t y (by lia) e)
   ·rw[if_neg cj] at hy
    rcases Nat.lt_or_ge i k with ck | ck
    ·rcases Nat.lt_or_ge j k with cl | cl
     ·exact sA i j x y hij (by lia) hx hy
     ·rw[show sa+j=sa+na+(j - na) by lia] at hy
      exact O.tr x y0 y (hS _ _ hx) (hS _ _ hy0) (hS _ _ hy) (A1 i x ck hx) (y0le (j - na) y (by lia) hy)
    ·rw[show sa+i=sa+na+(i - na) by lia] at hx
     rw[show sa+j=sa+na+(j - na) by lia] at hy
     exact sB (i - na) (j - na) x y (by lia) (by lia) hx hy
theorem zfR (O : LtOk M A E s kd S L){st : SortSt}{i sa na pw nb pw2 : Nat}{Q : Bool → SortSt → Prop}(h1 : (pendingOf st)[i]? = some (sa, na, pw)) (h2 : (pendingOf st)[i + 1]? = some (sa + na, nb, pw2)) (hna : 1 ≤ na) (hnb : 1 ≤ nb) (hz : sa + na + nb ≤ (arrOf st).size)
    (hk:kindOf st=kd) (hf:failedOf st=none) (hS:∀ (k:Nat) x,(arrOf st)[k]?=some x→S x) (sA:Seg L (arrOf st) sa na) (sB:Seg L (arrOf st) (sa+na) nb)
    (hQ:∀ st',SM kd S L st st' (((pendingOf st).setIfInBounds i (sa,na+nb,pw)).eraseIdxIfInBounds (i+1)) sa (na+nb)→Q true st'):wpS M A E s (mergeAt' i) Q st:=by
  refine wpS_bind (wpS_get ?_)
  rw[h1,h2]
  dsimp only
  refine wpS_bind (zkI ?_)
  obtain⟨y0,hy0⟩:=zbJ (st:=st) (i:=sa+na) (by lia)
  obtain⟨z0,hz0⟩:=zbJ (st:=st) (i:=sa+(na - 1)) (by lia)
  refine wpS_bind (zai hy0 ?_)
  have Sy:=hS _ _ hy0
  refine wpS_bind (zbS O (left:=false) (b:=fun i=>match (arrOf st)[sa+i]? with | some x=>!L y0 x | none=>false) hk Sy (fun i hi=>?_) (fun i j hij hj hb=>?_) (by lia) (fun k hkn kt kf=>?_))
  · obtain⟨x,hx⟩:=zbJ (st:=st) (i:=sa+i) (by lia)
    refine⟨x,hx,hS _ _ hx,?_⟩
    simp only[hx]
    rfl
  · obtain⟨x,hx⟩:=zbJ (st:=st) (i:=sa+i) (by lia)
    obtain⟨y,hy⟩:=zbJ (st:=st) (i:=sa+j) (by lia)
    simp only[hx,hy] at hb ⊢
    have e1:=sA i j x y hij hj hx hy
    have e2:L y0 y=false:=by simpa using hb
    rw[O.tr x y y0 (hS _ _ hx) (hS _ _ hy) Sy e1 e2];rfl
  have A1:∀ (i:Nat) x,i<k→(arrOf st)[sa+i]?=some x→L y0 x=false:=fun i x hi hx=>by
    have:=kt i hi
    simp only[hx] at this
    simpa using this
  have A2:∀ (i:Nat) x,k≤i→i<na→(arrOf st)[sa+i]?=some x→L y0 x=true:=fun i x h3 h4 hx=>by
    have:=kf i h3 h4
    simp only[hx] at this
    simpa using this
  dsimp only
  by_cases hk0:(na - k == 0)=true
  · rw[if_pos hk0]
    have ek : k = na := by have : na - k = 0 := by simpa using hk0
                           lia
    refine wpS_pure (hQ _ ⟨hk,rfl,hf,Array.Perm.refl _,fun _ _=>rfl,hS,sA.glue O hS sB (fun x y hx hy=>?_) (by lia) hz⟩)
    rw[hy0] at hy;cases hy
    exact A1 (na - 1) x (by lia) hx
  · rw[if_neg hk0]
    have hkl : k < na := by have : na - k ≠ 0 := by simpa using hk0
                            lia
    have hz0':(arrOf st)[sa+k+(na - k) - 1]?=some z0:=by rw[show sa+k+(na - k) - 1=sa+(na - 1) by lia];exact hz0
    refine wpS_bind (zai hz0' ?_)
    have Sz:=hS _ _ hz0
    refine wpS_bind (zbS O (left:=true) (b:=fun i=>match (arrOf st)[sa+na+i]? with | some x=>L x z0 | none=>false) hk Sz (fun i hi=>?_) (fun i j hij hj hb=>?_) (by lia) (fun m hmn mt mf=>?_))
    · obtain⟨x,hx⟩:=zbJ (st:=st) (i:=sa+na+i) (by lia)
      refine⟨x,hx,hS _ _ hx,?_⟩
      simp only[hx]
      rfl
    · obtain⟨x,hx⟩:=zbJ (st:=st) (i:=sa+na+i) (by lia)
      obtain⟨y,hy⟩:=zbJ (st:=st) (i:=sa+na+j) (by lia)
      simp only[hx,hy] at hb ⊢
      have e1:=sB i j x y hij hj hx hy
      cases q:L x z0 with
      | true=>rfl
      | false =>
        have:=O.tr z0 x y Sz (hS _ _ hx) (hS _ _ hy) q e1
        rw[hb] at this;cases this
    have B1:∀ (i:Nat) y,i<m→(arrOf st)[sa+na+i]?=some y→L y z0=true:=fun i y hi hy=>by
      have:=mt i hi
      simp only[hy] at this
      exact this
    have B2:∀ (i:Nat) y,m≤i→i<nb→(arrOf st)[sa+na+i]?=some y→L y z0=false:=fun i y h3 h4 hy=>by
      have:=mf i h3 h4
      simp only[hy] at this
      exact this
    dsimp only
    have y0z:L y0 z0=true:=A2 (na - 1) z0 (by lia) (by lia) hz0
    have hm0:0<m:=by
      rcases Nat.eq_zero_or_pos m with q | q
      · have:=B2 0 y0 (by lia) (by lia) (by simpa using hy0)
        rw[y0z] at this;cases this
      · exact q
    rw[if_neg (by simp;lia)]
    have exA:sa+na=sa+k+(na - k):=by lia
    have hX:((arrOf st).extract (sa+k) (sa+na))=(arrOf st).extract (sa+k) (sa+k+(na - k)):=by rw[← exA]
    have sA':Seg L (arrOf st) (sa+k) (na - k):=fun i j x y hij hj hx hy=>sA (k+i) (k+j) x y (by lia) (by lia) (by rw[show sa+(k+i)=sa+k+i by lia];exact hx) (by rw[show sa+(k+j)=sa+k+j by lia];exact hy)
    have sB':Seg L (arrOf st) (sa+na) m:=fun i j x y hij hj hx hy=>sB i j x y hij (by lia) hx hy
    have T:Two S L ((arrOf st).extract (sa+k) (sa+k+(na - k))) ((arrOf st).extract (sa+na) (sa+na+m)):=⟨zg0 (by lia) sA',zg0 (by lia) sB',(fun x hx=>by obtain⟨i,_,e⟩:=zdb (by lia) hx;exact hS _ _ e),(fun x hx=>by obtain⟨i,_,e⟩:=zdb (by lia) hx;exact hS _ _ e)⟩
    have zA:0<((arrOf st).extract (sa+k) (sa+k+(na - k))).size:=by rw[Array.size_extract];lia
    have zB:0<((arrOf st).extract (sa+na) (sa+na+m)).size:=by rw[Array.size_extract];lia
    have c0:∀ y,((arrOf st).extract (sa+na) (sa+na+m))[0]?=some y→∀ x∈((arrOf st).extract (sa+k) (sa+k+(na - k))).toList,leOf L y x:=fun y hy x hx=>by
      rw[zfe (by lia),if_pos hm0] at hy
      rw[Nat.add_zero,hy0] at hy;cases hy
      obtain⟨i,hi,e⟩:=zdb (by lia) hx
      exact O.as y0 x Sy (hS _ _ e) (A2 (k+i) x (by lia) (by lia) (by rw[show sa+(k+i)=sa+k+i by lia];exact e))
    have c1:∀ z,((arrOf st).extract (sa+k) (sa+k+(na - k)))[((arrOf st).extract (sa+k) (sa+k+(na - k))).size - 1]?=some z→∀ x∈((arrOf st).extract (sa+na) (sa+na+m)).toList,leOf L x z:=fun z hz' x hx=>by
      have es:((arrOf st).extract (sa+k) (sa+k+(na - k))).size=na - k:=by rw[Array.size_extract];lia
      rw[es,zfe (by lia),if_pos (by lia),show sa+k+(na - k - 1)=sa+(na - 1) by lia,hz0] at hz'
      cases hz'
      obtain⟨i,hi,e⟩:=zdb (by lia) hx
      exact O.as x z0 (hS _ _ e) Sz (B1 i x hi e)
    by_cases hle:na - k≤m
    · rw[if_pos hle]
      refine wpS_bind ?_
      show wpS M A E s (zhc ((arrOf st).extract (sa+k) (sa+na)) ((arrOf st).extract (sa+na) (sa+na+m))) _ _
      rw[hX]
      refine zfP O T hk zA zB c0 c1 fun r st2 hr hlk=>?_
      refine wpS_bind (wpS_modify (wpS_bind (wpS_get (wpS_pure ?_))))
      have hf2:failedOf st2=none:=by rw[hlk.2.2.2];exact hf
      have:=hQ (setArr st2 (wr (arrOf st) (sa+k) r.toList 0)) (SM.write O hna hkl hm0 hmn hz hS sA sB y0 z0 hy0 hz0 A1 B2 hr (by show kindOf st2=kd;rw[hlk.1];exact hk) (by show pendingOf st2=_;rw[hlk.2.2.1]) hf2 rfl)
      have ea:arrOf st2=arrOf st:=hlk.2.1
      rw[← ea] at this
      show Q (failedOf st2).isNone _
      rw[hf2]
      exact this
    · rw[if_neg hle]
      refine wpS_bind ?_
      show wpS M A E s (zhd ((arrOf st).extract (sa+k) (sa+na)) ((arrOf st).extract (sa+na) (sa+na+m))) _ _
      rw[hX]
      refine zfQ O T hk zA zB c0 c1 fun r st2 hr hlk=>?_
      refine wpS_bind (wpS_modify (wpS_bind (wpS_get (wpS_pure ?_))))
      have hf2:failedOf st2=none:=by rw[hlk.2.2.2];exact hf
      have:=hQ (setArr st2 (wr (arrOf st) (sa+k) r.toList 0)) (SM.write O hna hkl hm0 hmn hz hS sA sB y0 z0 hy0 hz0 A1 B2 hr (by show kindOf st2=kd;rw[hlk.1];exact hk) (by show pendingOf st2=_;rw[hlk.2.2.1]) hf2 rfl)
      have ea:arrOf st2=arrOf st:=hlk.2.1
      rw[← ea] at this
      show Q (failedOf st2).isNone _
      rw[hf2]
      exact this
end
end TS
set_option maxHeartbeats 8000000
namespace TS
open PySem PyProof.Rows
abbrev Run:=Nat×Nat×Nat
section
variable {M:Model}{A:Around}{E:Value→Shared→Prop}{s:Shared}{kd:SortKind}{S:Keyed→Prop}{L:Keyed→Keyed→Bool}
def Runs (L:Keyed→Keyed→Bool) (a:Array Keyed):List Run→Nat→Nat→Prop
 | [],x,y=>x=y
 | r::l,x,y=>r.1=x∧1≤r.2.1∧Seg L a r.1 r.2.1∧Runs L a l (x+r.2.1) y
theorem Runs.le {a:Array Keyed}:∀ {l:List Run}{x y:Nat},Runs L a l x y→x+l.length≤y
 | [],x,y,h=>by have:x=y:=h;simp;lia
 | r::l,x,y,h=>by
  have:=Runs.le h.2.2.2
  have:=h.2.1
  simp only[List.length_cons];lia
theorem Seg.cong {a b:Array Keyed}{lo n:Nat}(h:Seg L a lo n) (e:∀ k:Nat,lo≤k→k<lo+n→b[k]?=a[k]?):Seg L b lo n:=fun i j x y hij hj hx hy =>
 h i j x y hij hj (by rw[← e _ (by lia) (by lia)];exact hx) (by rw[← e _ (by lia) (by lia)];exact hy)
theorem Runs.cong {a b:Array Keyed}:∀ {l:List Run}{x y:Nat},Runs L a l x y→(∀ k:Nat,x≤k→k<y→b[k]?=a[k]?)→Runs L b l x y
 | [],_,_,h,_=>h
 | r::l,x,y,h,e=>by
  have hl:=h.2.2.2.le
  have h1:=h.1
  exact⟨h.1,h.2.1,h.2.2.1.cong fun k h2 h3=>e k (by lia) (by lia),Runs.cong h.2.2.2 fun k h2 h3=>e k (by lia) h3⟩
theorem Runs.snoc {a:Array Keyed}:∀ {l:List Run}{x y n pw:Nat},Runs L a l x y→1≤n→Seg L a y n→Runs L a (l++[(y,n,pw)]) x (y+n)
 | [],x,y,n,pw,h,hn,hs=>by
  have:x=y:=h
  subst this
  exact⟨rfl,hn,hs,rfl⟩
 | r::l,x,y,n,pw,h,hn,hs=>⟨h.1,h.2.1,h.2.2.1,Runs.snoc h.2.2.2 hn hs⟩
theorem Runs.pair {a : Array Keyed} : ∀ {l : List Run}{x y i sa na pw sb nb pw2 : Nat}, Runs L a l x y → l[i]? = some (sa, na, pw) → l[i + 1]? = some (sb, nb, pw2) →
  sb=sa+na∧1≤na∧1≤nb∧x≤sa∧sa+na+nb≤y∧Seg L a sa na∧Seg L a (sa+na) nb ∧
  ∀ b:Array Keyed,(∀ k:Nat,k<sa∨sa+na+nb≤k→b[k]?=a[k]?)→Seg L b sa (na+nb)→Runs L b ((l.set i (sa,na+nb,pw)).eraseIdx (i+1)) x y
 | [],_,_,_,_,_,_,_,_,_,_,h1,_=>by simp at h1
 | [_],_,_,i,_,_,_,_,_,_,_,_,h2=>by simp at h2
 | r::q::l,x,y,0,sa,na,pw,sb,nb,pw2,h,h1,h2=>by
  have e1:r=(sa,na,pw):=Option.some.inj h1
  have e2:q=(sb,nb,pw2):=Option.some.inj h2
  subst e1;subst e2
  obtain⟨a1,a2,a3,b1,b2,b3,hr⟩:=h
  simp only at a1 a2 a3 b1 b2 b3 hr
  subst a1
  have hl:=hr.le
  refine⟨b1,a2,b2,Nat.le_refl _,by lia,a3,by rw[← b1];exact b3,fun b hb hs=>⟨rfl,by show 1≤na+nb;lia,hs,?_⟩⟩
  show Runs L b l (sa+(na+nb)) y
  rw[show sa+(na+nb)=sa+na+nb by lia]
  exact hr.cong fun k h3 h4=>hb k (.inr h3)
 | r::q::l,x,y,i+1,sa,na,pw,sb,nb,pw2,h,h1,h2=>by
  obtain⟨a1,a2,a3,hr⟩:=h
  obtain⟨c1,c2,c3,c4,c5,c6,c7,c8⟩:=Runs.pair hr (i:=i) (by simpa using h1) (by simpa using h2)
  refine⟨c1,c2,c3,by lia,c5,c6,c7,fun b hb hs=>⟨a1,a2,a3.cong fun k h3 h4=>hb k (.inl (by lia)),?_⟩⟩
  exact c8 b hb hs
theorem Runs.power {a:Array Keyed}:∀ {l:List Run}{x y:Nat}(f:Run→Run) (i:Nat),(∀ r,(f r).1=r.1∧(f r).2.1=r.2.1)→Runs L a l x y→Runs L a (l.modify i f) x y
 | [],_,_,f,i,_,h=>by cases i <;> exact h
 | r::l,x,y,f,0,hf,h=>by
  refine⟨by rw[(hf r).1];exact h.1,by rw[(hf r).2];exact h.2.1,by rw[(hf r).1,(hf r).2];exact h.2.2.1,?_⟩
  show Runs L a l (x+(f r).2.1) y
  rw[(hf r).2];exact h.2.2.2
 | r::l,x,y,f,i+1,hf,h=>⟨h.1,h.2.1,h.2.2.1,Runs.power f i hf h.2.2.2⟩
structure PD (kd:SortKind) (S:Keyed→Prop) (L:Keyed→Keyed→Bool) (a0:Array Keyed) (st:SortSt) (lo:Nat):Prop where
 kind:kindOf st=kd
 fail:failedOf st=none
 perm:(arrOf st).Perm a0
 all:∀ (k:Nat) x,(arrOf st)[k]?=some x→S x
 runs:Runs L (arrOf st) (pendingOf st).toList 0 lo
theorem PD.size {a0:Array Keyed}{st:SortSt}{lo:Nat}(h:PD kd S L a0 st lo):(arrOf st).size=a0.size:=h.perm.size_eq
theorem PD.merge (O : LtOk M A E s kd S L){a0 : Array Keyed}{st : SortSt}{lo i : Nat}{Q : Bool → SortSt → Prop}(h : PD kd S L a0 st lo) (hlo : lo ≤ a0.size) (hi : i + 1 < (pendingOf st).size)
  (hQ:∀ st',PD kd S L a0 st' lo→(pendingOf st').size+1=(pendingOf st).size→(∀ k:Nat,lo≤k→(arrOf st')[k]?=(arrOf st)[k]?)→Q true st'):wpS M A E s (mergeAt' i) Q st:=by
 obtain⟨⟨sa,na,pw⟩,h1⟩:∃ r,(pendingOf st)[i]?=some r:=⟨_,Array.getElem?_eq_getElem (by lia)⟩
 obtain⟨⟨sb,nb,pw2⟩,h2⟩:∃ r,(pendingOf st)[i+1]?=some r:=⟨_,Array.getElem?_eq_getElem hi⟩
 obtain⟨c1,c2,c3,c4,c5,c6,c7,c8⟩:=h.runs.pair (i:=i) (by rw[Array.getElem?_toList];exact h1) (by rw[Array.getElem?_toList];exact h2)
 subst c1
 refine zfR O h1 h2 c2 c3 (by rw[h.size];lia) h.kind h.fail h.all c6 c7 fun st' sm=>hQ st' ⟨sm.kind,sm.fail,sm.perm.trans h.perm,sm.all,?_⟩ ?_ fun k hk=>sm.out k (by lia)
 ·rw[sm.pend]
  have e:(((pendingOf st).setIfInBounds i (sa,na+nb,pw)).eraseIdxIfInBounds (i+1)).toList=((pendingOf st).toList.set i (sa,na+nb,pw)).eraseIdx (i+1):=by simp
  rw[e]
  exact c8 _ (fun k hk=>sm.out k (by lia)) sm.seg
 ·rw[sm.pend]
  have e:(((pendingOf st).setIfInBounds i (sa,na+nb,pw)).eraseIdxIfInBounds (i+1)).toList=((pendingOf st).toList.set i (sa,na+nb,pw)).eraseIdx (i+1):=by simp
  have e2:=congrArg List.length e
  rw[List.length_eraseIdx_of_lt (by rw[List.length_set,Array.length_toList];exact hi),List.length_set,Array.length_toList,Array.length_toList] at e2
  lia
theorem sortRuns_spec (O : LtOk M A E s kd S L){st : SortSt}{Q : Unit → SortSt → Prop}(h2 : 2 ≤ (arrOf st).size) (hk : kindOf st = kd) (hp : pendingOf st = #[]) (hf : failedOf st = none) (hS : ∀ (k : Nat) x, (arrOf st)[k]? = some x → S x)
  (hQ:∀ st',(arrOf st').Perm (arrOf st)→failedOf st'=none→Seg L (arrOf st') 0 (arrOf st).size→Q () st'):wpS M A E s sortRuns' Q st:=by
 rw[sortRuns'_eq]
 refine wpS_bind (wpS_get ?_)
 dsimp only
 have pd0:PD kd S L (arrOf st) st 0:=⟨hk,hf,Array.Perm.refl _,hS,by rw[hp];rfl⟩
 generalize ha0:arrOf st=a0 at h2 pd0 hQ
 refine wpS_bind (wpS_mono (wpS_forRange (I:=fun x c st'=>∃ lo,c=(none,lo)∧(x≤lo∨a0.size≤lo)∧lo≤a0.size∧PD kd S L a0 st' lo)
  (Q:=fun c st'=>c=(none,a0.size)∧PD kd S L a0 st' a0.size) ?step ?fin ⟨0,rfl,.inl (Nat.le_refl _),Nat.zero_le _,pd0⟩) ?post)
 case fin =>
  rintro c st' ⟨lo,rfl,h3,h4,pd⟩
  have:lo=a0.size:=by lia
  subst this
  exact⟨rfl,pd⟩
 case step =>
  rintro x c st' _ hx ⟨lo,rfl,h3,h4,pd⟩
  dsimp only
  by_cases hge:lo ≥ a0.size
  ·rw[if_pos hge]
   have:lo=a0.size:=by lia
   subst this
   exact wpS_pure ⟨rfl,pd⟩
  ·rw[if_neg hge]
   refine wpS_bind (zfh O (by lia) (by rw[pd.size];lia) pd.kind pd.all fun m st1 sb1 hm1 hm2 sg1=>?_)
   dsimp only
   have pd1:PD kd S L a0 st1 lo:=⟨sb1.kind,by rw[sb1.fail];exact pd.fail,sb1.perm.trans pd.perm,sb1.all,by rw[sb1.pend];exact pd.runs.cong fun k _ h5=>sb1.out k (.inl h5)⟩
   by_cases hlt:m<minRun' a0.size a0.size 0
   ·rw[if_pos hlt]
    refine wpS_bind (wpS_lift (wpAny_rule ⟨rfl,?_⟩))
    refine wpS_bind (zd5 O hm1 (by lia) (by rw[pd1.size];lia) pd1.kind pd1.all sg1 fun st2 sb2 sg2=>?_)
    try dsimp only
    rw[if_neg (by decide)]
    have pdX:PD kd S L a0 st2 lo:=⟨sb2.kind,by rw[sb2.fail];exact pd1.fail,sb2.perm.trans pd1.perm,sb2.all,by rw[sb2.pend];exact pd1.runs.cong fun k _ h5=>sb2.out k (.inl h5)⟩
    have sgX:=sg2
    refine wpS_bind (wpS_get ?_)
    cases hb:(pendingOf st2).back? with
    | none =>
     try dsimp only
     refine wpS_bind (wpS_modify (wpS_pure ⟨lo+min (a0.size - lo) (minRun' a0.size a0.size 0),rfl,.inl (by lia),by lia,?_⟩))
     refine⟨pdX.kind,pdX.fail,pdX.perm,pdX.all,?_⟩
     show Runs L (arrOf st2) ((pendingOf st2).push (lo,min (a0.size - lo) (minRun' a0.size a0.size 0),0)).toList 0 (lo+min (a0.size - lo) (minRun' a0.size a0.size 0))
     rw[Array.toList_push]
     exact pdX.runs.snoc (by lia) sgX
    | some r =>
     obtain⟨s1,n1,p1⟩:=r
     try dsimp only
     refine wpS_bind (wpS_mono (wpS_forRange (I:=fun y c st3=>c=(none,())∧PD kd S L a0 st3 lo∧Seg L (arrOf st3) lo (min (a0.size - lo) (minRun' a0.size a0.size 0))) (Q:=fun c st3=>c=(none,())∧PD kd S L a0 st3 lo∧Seg L (arrOf st3) lo (min (a0.size - lo) (minRun' a0.size a0.size 0))) ?stepI ?finI ⟨rfl,pdX,sgX⟩) ?postI)
     case finI =>
      rintro c st3 hh
      exact hh
     case stepI =>
      rintro y c st3 _ _ ⟨rfl,pd3,sg3⟩
      refine wpS_bind (wpS_get ?_)
      by_cases hsz:(pendingOf st3).size > 1
      ·rw[if_pos hsz]
       obtain⟨⟨u1,u2,older⟩,hu⟩:∃ r,(pendingOf st3)[(pendingOf st3).size - 2]?=some r:=⟨_,Array.getElem?_eq_getElem (by lia)⟩
       rw[hu]
       try dsimp only
       by_cases hol:older≤power' a0.size (2*s1+n1) (2*s1+n1+n1+min (a0.size - lo) (minRun' a0.size a0.size 0)) a0.size
       ·rw[if_pos hol]
        exact wpS_pure ⟨rfl,pd3,sg3⟩
       ·rw[if_neg hol]
        refine wpS_bind (pd3.merge O (by lia) (by lia) fun st4 pd4 _ ho=>?_)
        try dsimp only
        rw[if_neg (by decide)]
        exact wpS_pure ⟨rfl,pd4,sg3.cong fun k h5 _=>ho k h5⟩
      ·rw[if_neg hsz]
       exact wpS_pure ⟨rfl,pd3,sg3⟩
     case postI =>
      rintro c st3 ⟨rfl,pd3,sg3⟩
      try dsimp only
      refine wpS_bind (wpS_modify (wpS_bind (wpS_modify (wpS_pure ⟨lo+min (a0.size - lo) (minRun' a0.size a0.size 0),rfl,.inl (by lia),by lia,?_⟩))))
      refine⟨pd3.kind,pd3.fail,pd3.perm,pd3.all,?_⟩
      show Runs L (arrOf st3) (((pendingOf st3).modify ((pendingOf st3).size - 1) _).push (lo,min (a0.size - lo) (minRun' a0.size a0.size 0),0)).toList 0 (lo+min (a0.size - lo) (minRun' a0.size a0.size 0))
      rw[Array.toList_push,Array.toList_modify]
      refine Runs.snoc (Runs.power _ _ ?_ pd3.runs) (by lia) sg3
      exact fun r=>⟨rfl,rfl⟩
   ·rw[if_neg hlt]
    have pdX:=pd1
    have sgX:=sg1
    refine wpS_bind (wpS_get ?_)
    cases hb:(pendingOf st1).back? with
    | none =>
     try dsimp only
     refine wpS_bind (wpS_modify (wpS_pure ⟨lo+m,rfl,.inl (by lia),by lia,?_⟩))
     refine⟨pdX.kind,pdX.fail,pdX.perm,pdX.all,?_⟩
     show Runs L (arrOf st1) ((pendingOf st1).push (lo,m,0)).toList 0 (lo+m)
     rw[Array.toList_push]
     exact pdX.runs.snoc (by lia) sgX
    | some r =>
     obtain⟨s1,n1,p1⟩:=r
     try dsimp only
     refine wpS_bind (wpS_mono (wpS_forRange (I:=fun y c st3=>c=(none,())∧PD kd S L a0 st3 lo∧Seg L (arrOf st3) lo (m)) (Q:=fun c st3=>c=(none,())∧PD kd S L a0 st3 lo∧Seg L (arrOf st3) lo (m)) ?stepI ?finI ⟨rfl,pdX,sgX⟩) ?postI)
     case finI =>
      rintro c st3 hh
      exact hh
     case stepI =>
      rintro y c st3 _ _ ⟨rfl,pd3,sg3⟩
      refine wpS_bind (wpS_get ?_)
      by_cases hsz:(pendingOf st3).size > 1
      ·rw[if_pos hsz]
       obtain⟨⟨u1,u2,older⟩,hu⟩:∃ r,(pendingOf st3)[(pendingOf st3).size - 2]?=some r:=⟨_,Array.getElem?_eq_getElem (by lia)⟩
       rw[hu]
       try dsimp only
       by_cases hol:older≤power' a0.size (2*s1+n1) (2*s1+n1+n1+m) a0.size
       ·rw[if_pos hol]
        exact wpS_pure ⟨rfl,pd3,sg3⟩
       ·rw[if_neg hol]
        refine wpS_bind (pd3.merge O (by lia) (by lia) fun st4 pd4 _ ho=>?_)
        try dsimp only
        rw[if_neg (by decide)]
        exact wpS_pure ⟨rfl,pd4,sg3.cong fun k h5 _=>ho k h5⟩
      ·rw[if_neg hsz]
       exact wpS_pure ⟨rfl,pd3,sg3⟩
     case postI =>
      rintro c st3 ⟨rfl,pd3,sg3⟩
      try dsimp only
      refine wpS_bind (wpS_modify (wpS_bind (wpS_modify (wpS_pure ⟨lo+m,rfl,.inl (by lia),by lia,?_⟩))))
      refine⟨pd3.kind,pd3.fail,pd3.perm,pd3.all,?_⟩
      show Runs L (arrOf st3) (((pendingOf st3).modify ((pendingOf st3).size - 1) _).push (lo,m,0)).toList 0 (lo+m)
      rw[Array.toList_push,Array.toList_modify]
      refine Runs.snoc (Runs.power _ _ ?_ pd3.runs) (by lia) sg3
      exact fun r=>⟨rfl,rfl⟩
 case post =>
  rintro c st1 ⟨rfl,pd1⟩
  try dsimp only
  have hlen:(pendingOf st1).size≤a0.size:=by
   have:=pd1.runs.le
   rw[Array.length_toList] at this
   lia
  refine wpS_bind (wpS_mono (wpS_forRange (I:=fun x c st2=>c=(none,())∧PD kd S L a0 st2 a0.size∧((pendingOf st2).size+x≤a0.size+1))
   (Q:=fun c st2=>c=(none,())∧PD kd S L a0 st2 a0.size∧(pendingOf st2).size≤1) ?step ?fin ⟨rfl,pd1,by lia⟩) ?post)
  case fin =>
   rintro c st2 ⟨rfl,pd2,h5⟩
   exact⟨rfl,pd2,by lia⟩
  case step =>
   rintro x c st2 _ hx ⟨rfl,pd2,h5⟩
   refine wpS_bind (wpS_get ?_)
   try dsimp only
   by_cases hle:(pendingOf st2).size≤1
   ·rw[if_pos hle]
    exact wpS_pure ⟨rfl,pd2,hle⟩
   ·rw[if_neg hle]
    refine wpS_bind (pd2.merge O (Nat.le_refl _) ?_ fun st3 pd3 hs3 _=>?_)
    ·have le':∀ (c:Prop) [Decidable c] (p q:Nat),(if c then p else q)≤max p q:=fun c _ p q=>by split <;> lia
     have:=le' (Option.any (fun x=>decide (x<(pendingOf st2)[(pendingOf st2).size - 2+1]?.elim 0 fun x=>x.snd.fst)) (if (pendingOf st2).size - 2 > 0 then Option.map (fun x=>x.snd.fst) (pendingOf st2)[(pendingOf st2).size - 2 - 1]? else none)=true) ((pendingOf st2).size - 2 - 1) ((pendingOf st2).size - 2)
     lia
    ·try dsimp only
     rw[if_neg (by decide)]
     exact wpS_pure ⟨rfl,pd3,by lia⟩
  case post =>
   rintro c st2 ⟨rfl,pd2,h5⟩
   refine wpS_pure (hQ st2 pd2.perm pd2.fail ?_)
   have hr:=pd2.runs
   cases hl:(pendingOf st2).toList with
   | nil =>
    rw[hl] at hr
    have:0=a0.size:=hr
    lia
   | cons r l =>
    have hll:(pendingOf st2).toList.length≤1:=by rw[Array.length_toList];exact h5
    rw[hl] at hll hr
    have:l=[]:=List.length_eq_zero_iff.mp (by simp at hll;simpa using hll)
    subst this
    obtain⟨c1,c2,c3,c4⟩:=hr
    have c4':0+r.2.1=a0.size:=c4
    rw[c1,show r.2.1=a0.size by lia] at c3
    exact c3
end
end TS
namespace L2
open PySem PySem.Spec PyProof.Rows
theorem zfI {α β:Type}{f:α→β}{xs ys:List β}(p:ys.Perm xs):∀ {l:List α},xs=l.map f→∃ l':List α,l'.Perm l∧ys=l'.map f:=by
 induction p with
 | nil=>intro l h;exact⟨l,List.Perm.refl _,h⟩
 | cons v _ ih =>
  intro l h
  match l,h with
  | x::l,h =>
   injection h with h1 h2
   obtain⟨l',p',e⟩:=ih h2
   exact⟨x::l',p'.cons x,by rw[e,h1];rfl⟩
 | swap a b r =>
  intro l h
  match l,h with
  | x::y::l,h =>
   injection h with h1 h2
   injection h2 with h2 h3
   exact⟨y::x::l,List.Perm.swap _ _ _,by rw[h1,h2,h3];rfl⟩
 | trans _ _ ih1 ih2 =>
  intro l h
  obtain⟨l1,p1,h1⟩:=ih2 h
  obtain⟨l2,p2,h2⟩:=ih1 h1
  exact⟨l2,p2.trans p1,h2⟩
section
variable {X:Cx}{pins:List (Addr×Obj)}{σ:St}{H:Hp}{s:Shared}{D st:Addr}{e:Nat}{κV:Nat→List V}{ks:List Addr}{E:Value→Shared→Prop}
def Ordd (κ:Nat→List Int) (n:Nat) (p:Array Nat):Prop:=RK.Pm n p∧p.toList.Pairwise fun i j=>HT.lexLt (κ j) (κ i)=false
def zfT (κ:Nat→List Int) (ks:List Addr):Value→List Int
 | .ref a=>κ (ks.idxOf a)
 | _=>[]
theorem zll {vs : List Value}{κ : Nat → List Int}(K : SK X pins σ H s D st e κV ks) (hl : ks.length = vs.length) (h2 : 2 ≤ vs.length)
  (hcol:∀ i j,i<ks.length→j<ks.length→∃ n m r q rn rm,κV i=.int n::r∧κV j=.int m::q∧VCols r q rn rm∧κ i=n::rn∧κ j=m::rm) :
  zhw X (Ordd κ vs.length) (ks.map Value.ref) vs E s:=by
 unfold zhw
 obtain⟨fs,kt,hfl,hfi⟩:=zi1 (as:=[]) (vs:=[]) K.inv (ks:=ks) (ns:=(List.range ks.length).map fun i=>((κ i).headD 0)) (fun i a ha=>by
  have hi:i<ks.length:=(List.getElem?_eq_some_iff.mp ha).1
  obtain⟨n,m,r,q,rn,rm,e1,_,_,e2,_⟩:=hcol i i hi hi
  refine⟨n,r,?_,?_⟩
  ·rw[List.getElem?_map,List.getElem?_range hi,Option.map_some,e2];rfl
  ·rw[← e1];exact K.hk i a ha) (by simp)
 refine W.kat_kind (T:=.type "int") kt (by lia) (fun v hv=>?_) rfl ⟨rfl,?_⟩
 ·obtain⟨n,t,rfl⟩:=hfi v hv
  exact .now
 have hl':(ks.map Value.ref).length=vs.length:=by simp[hl]
 have hsz0:((ks.map Value.ref).toArray.zip vs.toArray).size=vs.length:=by simp[hl]
 generalize hZ:(ks.map Value.ref).toArray.zip vs.toArray=Z at hsz0
 have hsz:Z.size=vs.length:=hsz0
 have kap:∀ i (hi:i<ks.length),zfT κ ks (Value.ref ks[i])=κ i:=fun i hi=>by
  have hj:ks.idxOf ks[i]<ks.length:=List.idxOf_lt_length_iff.mpr (List.getElem_mem hi)
  have ej:ks[ks.idxOf ks[i]]=ks[i]:=List.getElem_idxOf hj
  obtain⟨n,m,r,q,rn,rm,e1,e2,vc,e3,e4⟩:=hcol (ks.idxOf ks[i]) i hj hi
  have k1:=K.hk (ks.idxOf ks[i]) ks[i] (by rw[List.getElem?_eq_getElem hj,ej])
  have k2:=K.hk i ks[i] (List.getElem?_eq_getElem hi)
  have eq:=K.inv.tuple_inj k1 k2
  show κ (ks.idxOf ks[i])=κ i
  rw[e1,e2] at eq
  injection eq with q1 q2
  injection q1 with q1
  subst q1;subst q2
  rw[e3,e4]
  congr 1
  have same:∀ {xs:List V} {as bs:List Int},VCols xs xs as bs→as=bs:=fun {xs}=>by
   induction xs with
   | nil=>intro as bs h;cases h;rfl
   | cons x xs ih =>
    intro as bs h
    cases h with
    | cons c h=>cases c <;> rw[ih h]
  exact same vc
 have itm:∀ i,i<vs.length→W.kas_item Z i=(Value.ref (ks.getD i 0),vs.getD i Value.none):=fun i hi=>by
  rw[← hZ,W.kat_item hl']
  have:(ks.map Value.ref).getD i Value.none=Value.ref (ks.getD i 0):=by simp[show i<ks.length by lia]
  rw[this]
 have O:TS.LtOk (model X.prog X.w) X.A.in1.in1 E s (tuples' true) (fun x=>∃ i,i<ks.length∧x.1=Value.ref (ks.getD i 0)) (fun x y=>HT.lexLt (zfT κ ks x.1) (zfT κ ks y.1)):=by
  refine⟨fun x y hx hy st' Q hk q=>?_,fun x y z _ _ _ h1 h2=>?_,fun x y _ _ h=>HT.lexLt_asym h⟩
  ·obtain⟨i,hi,ex⟩:=hx
   obtain⟨j,hj,ey⟩:=hy
   have gi:ks.getD i 0=ks[i]:=by simp[hi]
   have gj:ks.getD j 0=ks[j]:=by simp[hj]
   rw[gi] at ex
   rw[gj] at ey
   rw[ex,ey,kap i hi,kap j hj] at q
   rw[lt'_eq]
   refine wpS_bind (wpS_get ?_)
   rw[hk,ex,ey]
   obtain⟨n,m,r,q',rn,rm,e1,e2,vc,e3,e4⟩:=hcol i j hi hj
   have k1:=K.hk i ks[i] (List.getElem?_eq_getElem hi)
   have k2:=K.hk j ks[j] (List.getElem?_eq_getElem hj)
   rw[e1] at k1
   rw[e2] at k2
   obtain⟨its,rv,⟨o,ho,hcl,c,hd⟩,_⟩:=K.inv.tuple k1
   obtain⟨its2,rv2,⟨o2,ho2,hcl2,c2,hd2⟩,_⟩:=K.inv.tuple k2
   refine wpS_bind (wpS_lift (wpAny_attempt (W.kat_lt ho hd ho2 hd2 ?_)))
   cases rv with
   | cons rx rr =>
    cases rv2 with
    | cons rx2 rr2 =>
     obtain⟨t1,rfl⟩:=rx
     obtain⟨t2,rfl⟩:=rx2
     have cs:=vc.vals rr rr2
     have hlen:∀ {us vs:List Value} {as bs:List Int},RK.Cols us vs as bs→us.length=vs.length:=fun c=>by induction c with
      | nil=>rfl
      | cons _ _ ih=>simp[ih]
     simp only[List.size_toArray,List.length_cons,hlen cs,Nat.lt_irrefl,decide_false]
     refine RK.kat_cols0 cs ?_
     rw[e3,e4] at q
     exact⟨rfl,wpS_pure q⟩
  ·cases q:HT.lexLt (zfT κ ks z.1) (zfT κ ks x.1) with
   | false=>rfl
   | true =>
    have:=HT.lexLt_of_not_lt_lt h2 q
    rw[h1] at this;cases this
 have run:=TS.sortRuns_spec O (st:=SortSt.mk' (tuples' true) Z #[] 7 none) (Q:=fun _ st'=>failedOf st'=none∧∃ p:Array Nat,Ordd κ vs.length p∧p.size=vs.length∧arrOf st'=p.map (W.kas_item Z))
  (by show 2≤Z.size;lia) rfl rfl rfl (fun k x hx=>?_) (fun st' hp hf hs=>?_)
 ·exact wpAny_mono run (fun r s' h=>⟨h.1,h.2⟩) fun _ _ z=>z
 ·have hk':k<vs.length:=by rw[← hsz];exact (Array.getElem?_eq_some_iff.mp hx).1
  have hx':Z[k]?=some x:=hx
  have e1:W.kas_item Z k=x:=by
   unfold W.kas_item
   rw[Array.getD_eq_getD_getElem?,hx'];rfl
  rw[itm k hk'] at e1
  exact⟨k,by lia,by rw[← e1]⟩
 ·refine⟨hf,?_⟩
  have hp':(arrOf st').Perm Z:=hp
  have hrng:=W.kas_range Z
  rw[hsz] at hrng
  obtain⟨l,pl,el⟩:=zfI (Array.perm_iff_toList_perm.mp hp') (l:=List.range vs.length) (f:=W.kas_item Z) (by have:=congrArg Array.toList hrng;simpa using this.symm)
  have hll:l.length=vs.length:=by rw[pl.length_eq,List.length_range]
  refine⟨l.toArray,⟨?_,?_⟩,by simpa using hll,?_⟩
  ·exact Array.perm_iff_toList_perm.mpr (by simpa using pl)
  ·rw[List.pairwise_iff_getElem]
   intro i j hi hj hij
   have hi':i<l.length:=by simpa using hi
   have hj':j<l.length:=by simpa using hj
   have ai:(arrOf st')[i]?=some (W.kas_item Z l[i]):=by
    rw[← Array.getElem?_toList,el,List.getElem?_map,List.getElem?_eq_getElem hi'];rfl
   have aj:(arrOf st')[j]?=some (W.kas_item Z l[j]):=by
    rw[← Array.getElem?_toList,el,List.getElem?_map,List.getElem?_eq_getElem hj'];rfl
   have li:l[i]<vs.length:=List.mem_range.mp (pl.mem_iff.mp (List.getElem_mem hi'))
   have lj:l[j]<vs.length:=List.mem_range.mp (pl.mem_iff.mp (List.getElem_mem hj'))
   have:=hs i j _ _ (by lia) (by show j<Z.size;lia) (by rw[Nat.zero_add];exact ai) (by rw[Nat.zero_add];exact aj)
   rw[itm _ li,itm _ lj] at this
   have g1:ks.getD l[i] 0=ks[l[i]]'(by lia):=by simp[show l[i]<ks.length by lia]
   have g2:ks.getD l[j] 0=ks[l[j]]'(by lia):=by simp[show l[j]<ks.length by lia]
   simp only[g1,g2] at this
   rw[kap _ (by lia),kap _ (by lia)] at this
   simpa using this
  ·apply Array.toList_inj.mp
   rw[el]
   simp
end
section
variable {X:Cx}{x:Str}{p pos kp kpos:Pos}{e:Expr}{te:TE}{k:Nat}{f:Addr}{fd:FuncData}{ps:List Str}{sp:Sp}{fn:Str}
def zlu (K:W.Frag) (te:TE) (sp:Sp):TE:=fun σ H Q=>te σ H fun v H1=>∃ l xs,∃ κV:Nat→List V,∃ κ:Nat→List Int,[v]=[V.ref l]∧SqL K H1 l xs∧xs.length≤1000 ∧
 (∀ i x H2,xs[i]?=some x→Same H1 H2→sp [x] H2 (fun v H'=>Same H2 H'∧∃ a,v=.ref a∧SqT K H' a (κV i)) E0) ∧
 (∀ i j,i<xs.length→j<xs.length→∃ n m r q rn rm,κV i=.int n::r∧κV j=.int m::q∧VCols r q rn rm∧κ i=n::rn∧κ j=m::rm)∧∀ (p:List Nat) D H',p.Perm (List.range xs.length)→p.Pairwise (fun i j=>HT.lexLt (κ j) (κ i)=false)→H1 D=none→Same H1 H'→H' D=some (.lst (p.map fun i=>xs.getD i .non))→Q (.ref D) H'
theorem zg5 (F : FnOk X.prog X.w X.K X.mg X.base CX0 k f fd ps sp) (hr : Room (k + 1 + 1) X.A) (hb : Binds X.K fd ps []) (hg : Gl X "sorted") (hm : X.mg "sorted" = none) (hgf : Gl X fn) (hmf : X.mg fn = some (.ref f)) (he : PE X e te)
  (hdb:(fn == ("__debug__" : Str))=false:=by decide) (hse:starEach [e] X.env=[(false,eval e X.env)]:=by rfl) (hh:X.calm=true:=by rfl)
  (hall:(backToKw pos (keywordEach [⟨some "key",.Name fn kp,kpos⟩] X.env)).all (·.1.isSome)=true:=by rfl) (hkw:(backToKw pos (keywordEach [⟨some "key",.Name fn kp,kpos⟩] X.env)).any (·.1.isNone)=false:=by rfl)
  (hks:(backToKw pos (keywordEach [⟨some "key",.Name fn kp,kpos⟩] X.env)).filterMap (·.1)=[Str.ofString "key"]:=by rfl) :
  PE X (.Call (.Name "sorted" p) [e] [⟨some "key",.Name fn kp,kpos⟩] pos) (zlu X.K te sp):=by
 intro pins s σ H Q I h
 refine wpAny_Call_Name_kw (zcz I hg hm boot_sorted ?_ (by decide) (by decide))
 refine callWith_kw (thn (zam he zad (hs:=hse) pos pins s σ H (fun vs H1=>∃ l xs,∃ κV:Nat→List V,∃ κ:Nat→List Int,vs=[V.ref l]∧SqL X.K H1 l xs∧xs.length≤1000 ∧
 (∀ i x H2,xs[i]?=some x→Same H1 H2→sp [x] H2 (fun v H'=>Same H2 H'∧∃ a,v=.ref a∧SqT X.K H' a (κV i)) E0) ∧
 (∀ i j,i<xs.length→j<xs.length→∃ n m r q rn rm,κV i=.int n::r∧κV j=.int m::q∧VCols r q rn rm∧κ i=n::rn∧κ j=m::rm)∧∀ (p:List Nat) D H',p.Perm (List.range xs.length)→p.Pairwise (fun i j=>HT.lexLt (κ j) (κ i)=false)→H1 D=none→Same H1 H'→H' D=some (.lst (p.map fun i=>xs.getD i .non))→Q (.ref D) H') I ?_) fun us s1 ⟨vs,H1,I1,r,q⟩=>?_) (by rw[hse];rfl) (by rw[hse];rfl) hall hkw
 ·show te σ H _
  exact h
 ·obtain⟨l,xs,κV,κ,rfl,hq,h64,turn,hcol,hQ⟩:=q
  obtain⟨u,rfl,ru⟩:=Vals.one r
  cases (show u=Value.ref l from ru)
  refine thn (ziC (nm:=some "key") (kpos:=kpos) (zdL (v:=.ref f) hgf hmf rfl hdb) zkv pos pins s1 σ H1 (fun zs H2=>zs=[.ref f]∧H2=H1) I1 ⟨rfl,rfl⟩) fun ws s2 ⟨zs,H2,I2,rz,q2⟩=>?_
  obtain⟨rfl,rfl⟩:=q2
  obtain⟨u2,rfl,ru2⟩:=Vals.one rz
  cases (show u2=Value.ref f from ru2)
  rw[hks]
  refine zhU (G:=Ordd κ xs.length) F hr hb turn hq (fun p hp i hi=>?_) (fun h2=>⟨Array.Perm.refl _,?_⟩) (fun {vs ks H' s' D st e} r' K' hks h2=>?_) (fun p D H' g hp hD hS hH=>hQ p.toList D H' ?_ g.2 hD hS hH) I2
  ·have:=hp.1.mem_iff.mp (show i∈p by simpa using hi)
   simpa using this
  ·rw[List.pairwise_iff_getElem]
   intro i j hi hj hij
   simp at hi hj
   lia
  ·have hlx:xs.length=vs.length:=r'.length
   rw[hlx]
   exact zll K' hks h2 fun i j hi hj=>hcol i j (by lia) (by lia)
  ·have:=Array.perm_iff_toList_perm.mp g.1
   simpa using this
end
section
variable {prog:Program}{w:World}{A:Around}{R:Result→Shared→Prop}{s:Shared}
theorem zdt {elt : Expr}{c0 : Comprehension}{target iter : Expr}{ifs : List Expr}{rest : List Comprehension}{scope : Scope}{pos : Pos}{it acc : Value}{env : Env}
  (h0:codeAny (model prog w) A (.compLoop (.ListComp elt (c0::⟨target,iter,ifs,0⟩::rest) scope pos) 1 it acc env) R s)
  (h:wpAny (model prog w) A (pyIter it) (fun it' s'=>codeAny (model prog w) A (.compLoop (.ListComp elt (c0::⟨target,iter,ifs,0⟩::rest) scope pos) 1 it' acc env) R s') (notedBy (model prog w) A env fun x s'=>R (.error x) s') s) :
  codeAny (model prog w) A (.compStart (.ListComp elt (c0::⟨target,iter,ifs,0⟩::rest) scope pos) 1 it acc env) R s:=by
 refine codeAny_of_tree ?_
 show wpAny _ _ ((compStart (.ListComp elt (c0::⟨target,iter,ifs,0⟩::rest) scope pos) 1 it acc env).onRaise (fun x=>do noteFrame x env;standAt theWindowsPlace)) _ _ s
 refine wpAny_notedAt ?_
 unfold compStart
 show wpAny _ _ (ask >>= _) _ _ s
 refine wpAny_bind (wpAny_askSetting (wpAny_ite ?_))
 split
 ·first
   | exact wpAny_pure (And.intro rfl h0)
   | exact wpAny_bind (wpAny_pure (wpAny_pure (And.intro rfl h0)))
 ·refine wpAny_bind (wpAny_rule ?_)
  show wpAny _ _ (standAt iter.pos >>= _) _ _ s
  exact wpAny_bind (wpAny_standAt (wpAny_bind (wpAny_mono h (fun it' s' h'=>wpAny_pure (And.intro rfl h')) fun _ _ z=>z)))
end
section
variable {X:Cx}{osc:Scope}{N:List Str}{sc:Scope}{N':List Str}{sel:List (Option Nat)}{pos:Pos}{elt kx vx tg iter tg2 iter2:Expr}{ifs ifs2:List Expr}{wi wi2:TI}{g g2:TG}{tt tt2:TT}{te tk tv:TE}
def tNest (wi2:TI) (g2:TG) (tb:TS):TS:=fun D σ H=>wi2 σ H fun J H1=>zcH J g2 tb { nx:=D.nx,rt:=fun _ _=>False } σ H1
theorem zk2 {Y : Cx}{p : Addr}(hc : Y.calm = true) (hx : Y.xe = fun _ _ => False) (hi2 : PI Y tg2 iter2 wi2) (hg2 : PG Y tg2 g2) (ht2 : PTs Y ifs2 tt2) (he : PE Y elt te) (hs2 : ∀ x, foldedSetIterable iter2 Y.env x = pure x) :
  PB Y (do
   let x ← eval iter2 Y.env
   standAt iter2.pos
   let x ← foldedSetIterable iter2 Y.env x
   let _ ← runOwn (.compStart (.ListComp elt [⟨tg,iter,ifs,0⟩,⟨tg2,iter2,ifs2,0⟩] sc pos) 1 (← holding [x] (pyIter x)) (.ref p) Y.env) Y.env) (tNest wi2 g2 (tIfs tt2 (zcY p te))):=by
 intro pins s σ H D I h
 refine wpAny_bind (thn (hi2 pins s σ H _ I h) fun v s1 h1=>?_)
 refine wpAny_bind (wpAny_standAt ?_)
 rw[hs2]
 refine wpAny_bind (wpAny_pure ?_)
 refine wpAny_bind (wpAny_holding (thn h1 fun itv s2 h2=>?_))
 obtain⟨it,fp,tn,J,H2,e,I2,T,st2,f2,h2⟩:=h2
 subst e
 have loop:codeAny (model Y.prog Y.w) Y.A (.compLoop (.ListComp elt [⟨tg,iter,ifs,0⟩,⟨tg2,iter2,ifs2,0⟩] sc pos) 1 (.ref it) (.ref p) Y.env) (fun r s'=>match r with | .ok f=>wpAny (model Y.prog Y.w) Y.A (pure ()) (fun _ s'=>∃ σ' H',Inv Y pins σ' H' s'∧D.nx σ' H') Y.xe s' | .error e=>cameBackBy (model Y.prog Y.w) Y.A Y.env Y.xe e s') s2 :=
  zc6 (X:=Y) (p:=iter2.pos) (inner:=do let _ ← call (.builtin "list.append") [.ref p,← eval elt Y.env]) rfl rfl rfl (fun B {α t Q E s} h w=>by subst h;exact w) hc hx hg2 ht2 (ziJ he) I2 T st2 f2 h2 fun fl s' ⟨σ',H',I',_,q⟩=>wpAny_pure ⟨σ',H',I',q⟩
 refine wpAny_bind (wpAny_runOwn (zdt loop (T.self _ 0 _ _ _ st2 loop)))
theorem zf2 {env : Env}{it p : Addr} : compTurn (.ListComp elt [⟨tg, iter, ifs, 0⟩, ⟨tg2, iter2, ifs2, 0⟩] sc pos) 0 (.ref it) (.ref p) env = (do
   standAt iter.pos
   match ← pyNext (.ref it) with
   | none=>pure (.done .next)
   | some v =>
    letOwnedTupleGo tg (.ref it) v
    assign tg env v
    let mut ok:=true
    for c in ifs do
     if ok then ok ← isTrue c env (eval c env)
    if ok then
     (do
      let x ← eval iter2 env
      standAt iter2.pos
      let x ← foldedSetIterable iter2 env x
      let _ ← runOwn (.compStart (.ListComp elt [⟨tg,iter,ifs,0⟩,⟨tg2,iter2,ifs2,0⟩] sc pos) 1 (← holding [x] (pyIter x)) (.ref p) env) env)
    again (.compLoop (.ListComp elt [⟨tg,iter,ifs,0⟩,⟨tg2,iter2,ifs2,0⟩] sc pos) 0 (.ref it) (.ref p) env)):=by
 unfold compTurn
 simp only[bind_assoc,pure_bind]
 rfl
theorem zhP {it : Addr}{fp : List Addr}{tn : Nat → Heap → Prop}{J : It}(T : Turn X.prog X.w X.K tg J fp it tn) (hc : X.calm = true) (hg : InBlk X sc N' fun Y => PG Y tg g) (ht : InBlk X sc N' fun Y => PTs Y ifs tt)
  (hi2:InBlk X sc N' fun Y=>PI Y tg2 iter2 wi2) (hg2:InBlk X sc N' fun Y=>PG Y tg2 g2) (ht2:InBlk X sc N' fun Y=>PTs Y ifs2 tt2) (he:InBlk X sc N' fun Y=>PE Y elt te) (hs2:∀ cl C x,foldedSetIterable iter2 (compEnvC sc cl C X.env) x=pure x) :
  ∀ cl C s0 H0 ex p pins s σ H Dn R,Inv (blk X sc cl C N' s0 H0 ex) pins σ H s→tn 0 s.heap→(∀ b∈fp,FpOk (blk X sc cl C N' s0 H0 ex) pins H b)→zcH J g (tIfs tt (tNest wi2 g2 (tIfs tt2 (zcY p te)))) Dn σ H →
   (∀ fl s',(∃ σ' H',Inv (blk X sc cl C N' s0 H0 ex) pins σ' H' s'∧(∀ b∈fp,H' b=none)∧Dn.nx σ' H')→R (.ok fl) s')→codeAny (model X.prog X.w) X.A (.compLoop (.ListComp elt [⟨tg,iter,ifs,0⟩,⟨tg2,iter2,ifs2,0⟩] sc pos) 0 (.ref it) (.ref p) (compEnvC sc cl C X.env)) R s :=
 fun cl C s0 H0 ex p pins s σ H Dn R I st f W hR =>
  zc6 (X:=blk X sc cl C N' s0 H0 ex) (p:=iter.pos) (inner:=do
   let x ← eval iter2 (compEnvC sc cl C X.env)
   standAt iter2.pos
   let x ← foldedSetIterable iter2 (compEnvC sc cl C X.env) x
   let _ ← runOwn (.compStart (.ListComp elt [⟨tg,iter,ifs,0⟩,⟨tg2,iter2,ifs2,0⟩] sc pos) 1 (← holding [x] (pyIter x)) (.ref p) (compEnvC sc cl C X.env)) (compEnvC sc cl C X.env))
   rfl rfl zf2 (fun B {α t Q E s} h w=>by subst h;exact w) hc rfl (hg _ _ _ _ _) (ht _ _ _ _ _) (zk2 (Y:=blk X sc cl C N' s0 H0 ex) hc rfl (hi2 _ _ _ _ _) (hg2 _ _ _ _ _) (ht2 _ _ _ _ _) (he _ _ _ _ _) (hs2 cl C)) I T st f W hR
def zkT (wi:TI) (sel:List (Option Nat)) (g:TG) (tt:TT) (wi2:TI) (g2:TG) (tt2:TT) (te:TE) (i:Nat):TS:=fun D σ H=>wi σ H fun J H1=>∀ p,H1 p=none →
 zcH J g (tIfs tt (tNest wi2 g2 (tIfs tt2 (zcY p te)))) { nx:=fun _ H'=>D.nx (σ.set i (some (.ref p))) H',rt:=fun _ _=>False } (selSt sel σ) (upd H1 p (.lst []))
theorem ziz {i : Nat}{x : Str}{px spos : Pos}(B : BlkOk osc N sc N' sel) (hnd : X.N.Nodup) (hi' : X.N[i]? = some x) (hx : Loc X.env.scope x) (hi : PI X tg iter wi) (hg : InBlk X sc N' fun Y => PG Y tg g) (ht : InBlk X sc N' fun Y => PTs Y ifs tt) (hi2 : InBlk X sc N' fun Y => PI Y tg2 iter2 wi2) (hg2 : InBlk X sc N' fun Y => PG Y tg2 g2) (ht2 : InBlk X sc N' fun Y => PTs Y ifs2 tt2) (he : InBlk X sc N' fun Y => PE Y elt te) (hs2 : ∀ cl C x, foldedSetIterable iter2 (compEnvC sc cl C X.env) x = pure x)
  (hsw:swapsWith (.ListComp elt [⟨tg,iter,ifs,0⟩,⟨tg2,iter2,ifs2,0⟩] sc pos) (some (.Name x px)) spos.line X.env=pure true:=by rfl)
  (ho:X.env.scope=osc:=by rfl) (hN:X.N=N:=by rfl) (hc:X.calm=true:=by rfl) (hs:∀ x,foldedSetIterable iter X.env x=pure x:=by intro _;rfl)
  (hf:X.fn x=true∨X.env.scope.names.lookup x=some .local:=by first | exact .inl rfl | exact .inr rfl | assumption) :
  PS X (.Assign [.Name x px] (.ListComp elt [⟨tg,iter,ifs,0⟩,⟨tg2,iter2,ifs2,0⟩] sc pos) spos) (zkT wi sel g tt wi2 g2 tt2 te i):=by
 intro pins s σ H D I h
 obtain⟨cl,Cl⟩:=zjq I.ok B ho
 rw[exec_Assign_Name_used _ _ _ _ hsw]
 refine wpAny_bind (wpAny_standAt (wpAny_bind ?_))
 show wpAny _ X.A (do let _ ← comprehension (.ListComp elt [⟨tg,iter,ifs,0⟩,⟨tg2,iter2,ifs2,0⟩] sc pos) sc X.env _ (newList []) false (eval iter X.env) (some (assign (.Name x px) X.env))) _ _ s
 refine wpAny_bind (thn (wpAny_comprehension_free (use:=some (assign (.Name x px) X.env)) (Q:=fun _ s'=>SP X pins D .next s') rfl hs Cl.run B.kind B.names (thn (hi pins s σ H _ I h) fun v s1 h1=>thn h1 fun itv s2 h2=>?_)) fun _ s' hq=>wpAny_pure (wpAny_pure hq))
 obtain⟨it,fp,tn,J,H2,e,I2,T,st2,f2,h2⟩:=h2
 subst e
 refine wpAny_newObj_type (zd3 (e:=.ListComp elt [⟨tg,iter,ifs,0⟩,⟨tg2,iter2,ifs2,0⟩] sc pos) (inner:=fun _ _=>pure ()) (D:=fun p=>{ nx:=fun _ H'=>D.nx (σ.set i (some (.ref p))) H',rt:=fun _ _=>False }) (tb:=fun p=>tNest wi2 g2 (tIfs tt2 (zcY p te))) (use:=some (assign (.Name x px) X.env)) B ho hN hc (fun acc env R s a b=>codeAny_compStart_list a b)
  (zhP (iter:=iter) (pos:=pos) T hc hg ht hi2 hg2 ht2 he hs2) I2 T st2 f2 ziU rfl (h2 _ (I2.hok.fresh (Nat.le_refl _))) (fun C H' s' I3 fC hn hq=>?_) s2.toks cl Cl X.xe)
 obtain⟨m,hn⟩:=hn
 obtain⟨_,hq⟩:=hq
 show wpAny _ X.A (assign (.Name x px) X.env (.ref s2.heap.objs.size)) _ _ _
 refine wpAny_assign_Name (zfw I3 hnd hi' hx (v:=.ref s2.heap.objs.size) rfl (fun s4 I4 hch=>?_) hf)
 obtain⟨a,sb,ha⟩:=hch
 have nC:C≠a:=by
  rcases ha with z | z
  ·rw[z];exact fC.2.1
  ·exact fun q=>fC.2.2.2.2.1 x a z q.symm
 refine⟨m,hn.sameBut sb nC,fun h' hs'=>⟨_,H',I4.let_go fC hs',hq⟩⟩
end
end L2
namespace RP
def mv (i:Nat):Int×Int:=([(1,0),(1,1),(0,1),(-1,1),(-1,0),(-1,-1),(0,-1),(1,-1)]:List (Int×Int)).getD i (0,0)
abbrev Cell:=Int×Int
def go (c:Cell) (i:Nat):Cell:=(c.1+(mv i).1,c.2+(mv i).2)
structure Edge where
 c:Cell
 w:Nat
 deriving DecidableEq
def gap (e:Edge):Cell:=go e.c ((2*e.w+6) % 8)
def stepB (C:Cell→Bool) (e:Edge):Option Nat :=
 if C (go e.c ((2*e.w+7) % 8))=true then some ((2*e.w+7) % 8) else if C (go e.c (2*e.w))=true then some (2*e.w) else none
def slant:Option Nat→Bool
 | none=>false
 | some s=>s % 2 == 1
def edgeB (e:Edge):Option Nat→Edge
 | none=>⟨e.c,(e.w+1) % 4⟩
 | some s=>if s % 2=1 then ⟨go e.c s,(e.w+3) % 4⟩ else ⟨go e.c s,e.w⟩
def nxt (C:Cell→Bool) (e:Edge):Edge:=edgeB e (stepB C e)
def IsE (C:Cell→Bool) (e:Edge):Prop:=e.w<4∧C e.c=true∧C (gap e)=false
def prv (C:Cell→Bool) (f:Edge):Edge :=
 if C (go f.c ((2*f.w+5) % 8))=true then ⟨go f.c ((2*f.w+5) % 8),(f.w+1) % 4⟩
 else if C (go f.c ((2*f.w+4) % 8))=true then ⟨go f.c ((2*f.w+4) % 8),f.w⟩ else ⟨f.c,(f.w+3) % 4⟩
theorem way4 {w:Nat}(h:w<4):w=0∨w=1∨w=2∨w=3:=by lia
def mvAdd (a b d:Nat):Bool:=(mv a).1+(mv b).1 == (mv d).1 && (mv a).2+(mv b).2 == (mv d).2
def mvNil (a b:Nat):Bool:=(mv a).1+(mv b).1 == 0 && (mv a).2+(mv b).2 == 0
theorem go_go {c:Cell}{a b d:Nat}(h:mvAdd a b d=true):go (go c a) b=go c d:=by
 unfold mvAdd at h
 simp only[Bool.and_eq_true,beq_iff_eq] at h
 unfold go
 exact Prod.ext (by show c.1+(mv a).1+(mv b).1=c.1+(mv d).1;lia) (by show c.2+(mv a).2+(mv b).2=c.2+(mv d).2;lia)
theorem zi9 {c:Cell}{a b:Nat}(h:mvNil a b=true):go (go c a) b=c:=by
 unfold mvNil at h
 simp only[Bool.and_eq_true,beq_iff_eq] at h
 unfold go
 exact Prod.ext (by show c.1+(mv a).1+(mv b).1=c.1;lia) (by show c.2+(mv a).2+(mv b).2=c.2;lia)
theorem f1:∀ w<4,mvAdd ((2*w+7) % 8) ((2*((w+3) % 4)+6) % 8) ((2*w+6) % 8)=true:=by decide
theorem f2:∀ w<4,mvAdd (2*w) ((2*w+6) % 8) ((2*w+7) % 8)=true:=by decide
theorem f3:∀ w<4,(2*((w+1) % 4)+6) % 8=2*w:=by decide
theorem f4:∀ w<4,mvNil ((2*w+7) % 8) ((2*((w+3) % 4)+5) % 8)=true:=by decide
theorem f5:∀ w<4,mvAdd (2*w) ((2*w+5) % 8) ((2*w+6) % 8)=true:=by decide
theorem f6:∀ w<4,mvNil (2*w) ((2*w+4) % 8)=true:=by decide
theorem f7:∀ w<4,(2*((w+1) % 4)+5) % 8=(2*w+7) % 8:=by decide
theorem f8:∀ w<4,(2*((w+1) % 4)+4) % 8=(2*w+6) % 8:=by decide
theorem odd7 (w:Nat):(2*w+7) % 8 % 2=1:=by lia
theorem za4 {C : Cell → Bool}{e : Edge}(h : IsE C e) :
  (C (go e.c ((2*e.w+7) % 8))=true∧stepB C e=some ((2*e.w+7) % 8)∧nxt C e=⟨go e.c ((2*e.w+7) % 8),(e.w+3) % 4⟩) ∨
  (C (go e.c ((2*e.w+7) % 8))=false∧C (go e.c (2*e.w))=true∧stepB C e=some (2*e.w)∧nxt C e=⟨go e.c (2*e.w),e.w⟩) ∨
  (C (go e.c ((2*e.w+7) % 8))=false∧C (go e.c (2*e.w))=false∧stepB C e=none∧nxt C e=⟨e.c,(e.w+1) % 4⟩):=by
 unfold nxt stepB
 by_cases h1:C (go e.c ((2*e.w+7) % 8))=true
 ·left
  rw[if_pos h1]
  exact⟨h1,rfl,by simp only[edgeB];rw[if_pos (odd7 _)]⟩
 ·right
  have h1':C (go e.c ((2*e.w+7) % 8))=false:=by simpa using h1
  rw[if_neg h1]
  by_cases h2:C (go e.c (2*e.w))=true
  ·left
   rw[if_pos h2]
   exact⟨h1',h2,rfl,by simp only[edgeB];rw[if_neg (by lia)]⟩
  ·right
   rw[if_neg h2]
   exact⟨h1',by simpa using h2,rfl,rfl⟩
theorem zdk {C:Cell→Bool}{e:Edge}(h:IsE C e):IsE C (nxt C e):=by
 obtain⟨hw,hc,hg⟩:=id h
 rcases za4 h with⟨h1,_,q⟩ | ⟨h1,h2,_,q⟩ | ⟨h1,h2,_,q⟩ <;> rw[q]
 ·refine⟨Nat.mod_lt _ (by decide),h1,?_⟩
  unfold gap
  rw[go_go (f1 _ hw)]
  exact hg
 ·refine⟨hw,h2,?_⟩
  unfold gap
  rw[go_go (f2 _ hw)]
  exact h1
 ·refine⟨Nat.mod_lt _ (by decide),hc,?_⟩
  unfold gap
  simp only
  rw[f3 _ hw]
  exact h2
theorem ziA {C:Cell→Bool}{e:Edge}(h:IsE C e):prv C (nxt C e)=e:=by
 obtain⟨hw,hc,hg⟩:=id h
 unfold gap at hg
 rcases za4 h with⟨h1,_,q⟩ | ⟨h1,h2,_,q⟩ | ⟨h1,h2,_,q⟩ <;> rw[q] <;> unfold prv <;> simp only
 ·rw[zi9 (f4 _ hw),if_pos hc]
  rw[show ((e.w+3) % 4+1) % 4=e.w by lia]
 ·rw[go_go (f5 _ hw),hg,if_neg (by decide),zi9 (f6 _ hw),if_pos hc]
 ·rw[f7 _ hw,h1,if_neg (by decide),f8 _ hw,hg,if_neg (by decide)]
  rw[show ((e.w+1) % 4+3) % 4=e.w by lia]
theorem zdR {C:Cell→Bool}{e f:Edge}(he:IsE C e) (hf:IsE C f) (h:nxt C e=nxt C f):e=f:=by
 rw[← ziA he,← ziA hf,h]
def Chain (C:Cell→Bool) (b:Edge) (es:List Edge):Prop:=es[0]?=some b∧(∀ i e f,es[i]?=some e→es[i+1]?=some f→f=nxt C e)∧(∀ e∈es,IsE C e)∧es.Nodup
theorem Chain.start {C:Cell→Bool}{b:Edge}(h:IsE C b):Chain C b [b] :=
 ⟨rfl,fun i e f _ h2=>by simp at h2,fun e he=>by rw[List.mem_singleton.mp he];exact h,by simp⟩
theorem Chain.more {C:Cell→Bool}{b l:Edge}{es:List Edge}(h:Chain C b (es++[l])) (hn:nxt C l≠b):Chain C b ((es++[l])++[nxt C l]):=by
 obtain⟨h0,hs,hE,hnd⟩:=h
 have hl:(es++[l])[es.length]?=some l:=by simp
 have lE:=hE l (by simp)
 refine⟨?_,fun i e f h1 h2=>?_,fun e he=>?_,?_⟩
 ·rw[List.getElem?_append_left (by simp)];exact h0
 ·rcases Nat.lt_or_ge (i+1) (es++[l]).length with hi | hi
  ·rw[List.getElem?_append_left (by lia)] at h1
   rw[List.getElem?_append_left hi] at h2
   exact hs i e f h1 h2
  ·have hi2:=(List.getElem?_eq_some_iff.mp h2).1
   simp at hi2 hi
   have hi3:i=es.length:=by lia
   subst hi3
   rw[List.getElem?_append_left (by simp)] at h1
   rw[hl] at h1
   cases h1
   rw[List.getElem?_append_right (by simp)] at h2
   simp at h2
   exact h2.symm
 ·rcases List.mem_append.mp he with he | he
  ·exact hE e he
  ·rw[List.mem_singleton.mp he];exact zdk lE
 ·rw[List.nodup_append]
  refine⟨hnd,by simp,fun x hx y hy=>?_⟩
  rw[List.mem_singleton.mp hy]
  intro e
  subst e
  obtain⟨i,hi,ei⟩:=List.getElem_of_mem hx
  rcases Nat.eq_zero_or_pos i with rfl | hp
  ·rw[List.getElem?_eq_getElem hi,ei] at h0
   exact hn (Option.some.inj h0)
  ·have hi':i - 1<(es++[l]).length:=by lia
   have e1:=hs (i - 1) ((es++[l])[i - 1]) (nxt C l) (List.getElem?_eq_getElem hi') (by rw[show i - 1+1=i by lia,List.getElem?_eq_getElem hi,ei])
   have e2:=zdR lE (hE _ (List.getElem_mem hi')) e1
   have e3:es.length=i - 1:=(List.getElem?_inj (by simp) hnd).mp (by rw[hl,List.getElem?_eq_getElem hi',← e2])
   simp at hi
   lia
theorem zaA {α:Type} [DecidableEq α]:∀ {a b:List α},a.Nodup→(∀ x∈a,x∈b)→a.length≤b.length
 | [],_,_,_=>Nat.zero_le _
 | x::a,b,hn,hs=>by
  have hx:x∈b:=hs x List.mem_cons_self
  have h1:=zaA (a:=a) (b:=b.erase x) (List.nodup_cons.mp hn).2 (fun y hy=>by
   refine (List.mem_erase_of_ne ?_).mpr (hs y (List.mem_cons_of_mem _ hy))
   intro e;subst e;exact (List.nodup_cons.mp hn).1 hy)
  rw[List.length_erase_of_mem hx] at h1
  have:0<b.length:=List.length_pos_of_mem hx
  simp only[List.length_cons]
  lia
def sides (cs:List Cell):List Edge:=cs.flatMap fun c=>(List.range 4).map fun w=>⟨c,w⟩
theorem zby (cs:List Cell):(sides cs).length=4*cs.length:=by
 unfold sides
 induction cs with
 | nil=>rfl
 | cons c r ih=>rw[List.flatMap_cons,List.length_append,ih];simp;lia
theorem zcx {cs:List Cell}{e:Edge}:e∈sides cs ↔ e.c∈cs∧e.w<4:=by
 unfold sides
 rw[List.mem_flatMap]
 constructor
 ·rintro⟨c,hc,h⟩
  obtain⟨w,hw,rfl⟩:=List.mem_map.mp h
  exact⟨hc,List.mem_range.mp hw⟩
 ·rintro⟨hc,hw⟩
  exact⟨e.c,hc,List.mem_map.mpr ⟨e.w,List.mem_range.mpr hw,rfl⟩⟩
def isIn (cs:List Cell) (c:Cell):Bool:=decide (c∈cs)
theorem Chain.short {cs:List Cell}{b:Edge}{es:List Edge}(h:Chain (isIn cs) b es):es.length≤4*cs.length:=by
 rw[← zby]
 exact zaA h.2.2.2 fun e he=>zcx.mpr ⟨of_decide_eq_true (h.2.2.1 e he).2.1,(h.2.2.1 e he).1⟩
def allE (cs:List Cell):List Edge:=(sides cs).filter fun e=>!isIn cs (gap e)
theorem zhe {cs:List Cell}{e:Edge}:e∈allE cs ↔ IsE (isIn cs) e:=by
 unfold allE
 rw[List.mem_filter,zcx]
 unfold IsE isIn
 constructor
 ·rintro⟨⟨h1,h2⟩,h3⟩
  exact⟨h2,decide_eq_true h1,by simpa using h3⟩
 ·rintro⟨h1,h2,h3⟩
  exact⟨⟨of_decide_eq_true h2,h1⟩,by simpa using h3⟩
def dx (w:Nat):Int:=if w=0 then 1 else if w=2 then -1 else 0
def dy (w:Nat):Int:=if w=1 then 1 else if w=3 then -1 else 0
def px (e:Edge):Int:=e.c.1+(if e.w=1∨e.w=2 then 1 else 0)
def py (e:Edge):Int:=e.c.2+(if e.w=2∨e.w=3 then 1 else 0)
theorem zfL {C:Cell→Bool}{e:Edge}(h:IsE C e):px (nxt C e)=px e+dx e.w∧py (nxt C e)=py e+dy e.w:=by
 have hw:=h.1
 rcases za4 h with⟨_,_,q⟩ | ⟨_,_,_,q⟩ | ⟨_,_,_,q⟩ <;> rw[q] <;> obtain⟨c,w⟩:=e <;> simp only at hw <;>
  rcases way4 hw with rfl | rfl | rfl | rfl <;> simp[px,py,dx,dy,go,mv] <;> lia
theorem zls {C:Cell→Bool}{e:Edge}(h:IsE C e):(nxt C e).w=(e.w+3) % 4∨(nxt C e).w=e.w∨(nxt C e).w=(e.w+1) % 4:=by
 rcases za4 h with⟨_,_,q⟩ | ⟨_,_,_,q⟩ | ⟨_,_,_,q⟩ <;> rw[q]
 ·exact .inl rfl
 ·exact .inr (.inl rfl)
 ·exact .inr (.inr rfl)
def Closed (C:Cell→Bool) (b:Edge) (es:List Edge):Prop:=Chain C b es∧∃ l,es[es.length - 1]?=some l∧nxt C l=b
theorem psum {C:Cell→Bool}{b:Edge}{es:List Edge}(h:Chain C b es):∀ i e,es[i]?=some e→px e=px b+((es.take i).map fun e=>dx e.w).sum∧py e=py b+((es.take i).map fun e=>dy e.w).sum
 | 0,e,he=>by
  have h0:=h.1
  rw[he] at h0
  cases h0
  simp
 | i+1,e,he=>by
  have hi:i+1<es.length:=(List.getElem?_eq_some_iff.mp he).1
  have h1:es[i]?=some es[i]:=List.getElem?_eq_getElem (by lia)
  obtain⟨a,c⟩:=psum h i _ h1
  have hn:=h.2.1 i _ e h1 he
  obtain⟨p,q⟩:=zfL (h.2.2.1 _ (List.getElem_mem (show i<es.length by lia)))
  rw[← hn] at p q
  rw[List.take_succ,h1]
  simp only[Option.toList_some,List.map_append,List.map_cons,List.map_nil,List.sum_append,List.sum_cons,List.sum_nil]
  lia
theorem Closed.sums {C:Cell→Bool}{b:Edge}{es:List Edge}(h:Closed C b es):(es.map fun e=>dx e.w).sum=0∧(es.map fun e=>dy e.w).sum=0:=by
 obtain⟨hc,l,hl,hb⟩:=h
 have hlt:=(List.getElem?_eq_some_iff.mp hl).1
 obtain⟨a,c⟩:=psum hc _ l hl
 have hlm:=(List.getElem?_eq_some_iff.mp hl).2
 obtain⟨p,q⟩:=zfL (hc.2.2.1 l (by rw[← hlm];exact List.getElem_mem _))
 rw[hb] at p q
 have e:es=es.take (es.length - 1)++[l]:=by
  have:=List.take_succ (l:=es) (i:=es.length - 1)
  rw[hl,show es.length - 1+1=es.length by lia,List.take_length] at this
  simpa using this
 have s1:(es.map fun e=>dx e.w).sum=((es.take (es.length - 1)).map fun e=>dx e.w).sum+dx l.w:=by
  conv=>lhs;rw[e]
  simp
 have s2:(es.map fun e=>dy e.w).sum=((es.take (es.length - 1)).map fun e=>dy e.w).sum+dy l.w:=by
  conv=>lhs;rw[e]
  simp
 lia
theorem zhz {l:List Int}(h:∀ x∈l,0≤x):0≤l.sum:=by
 induction l with
 | nil=>simp
 | cons a r ih =>
  have:=h a List.mem_cons_self
  have:=ih fun x hx=>h x (List.mem_cons_of_mem _ hx)
  simp only[List.sum_cons];lia
theorem zgS {l:List Int}(h:∀ x∈l,0≤x) (hs:l.sum=0):∀ x∈l,x=0:=by
 induction l with
 | nil=>intro x hx;cases hx
 | cons a r ih =>
  have h1:=h a List.mem_cons_self
  have h2:=zhz fun x hx=>h x (List.mem_cons_of_mem _ hx)
  simp only[List.sum_cons] at hs
  intro x hx
  rcases List.mem_cons.mp hx with rfl | hx
  ·lia
  ·exact ih (fun x hx=>h x (List.mem_cons_of_mem _ hx)) (by lia) x hx
theorem zk8 (l:List Int):(l.map fun x=>-x).sum=-l.sum:=by
 induction l with
 | nil=>rfl
 | cons a r ih=>simp only[List.map_cons,List.sum_cons,ih];lia
theorem zjp (l:List Int) (d:Int) (h:∀ x∈l,x=d):l.sum=d*l.length:=by
 induction l with
 | nil=>simp
 | cons a r ih =>
  have h1:=h a List.mem_cons_self
  have h2:=ih fun x hx=>h x (List.mem_cons_of_mem _ hx)
  simp only[List.sum_cons,List.length_cons,h1,h2]
  rw[Int.natCast_add,Int.mul_add];lia
theorem Closed.has {C:Cell→Bool}{b:Edge}{es:List Edge}(h:Closed C b es){k:Nat}(hk:k=0∨k=2):∃ e∈es,e.w=k:=by
 apply Classical.byContradiction
 intro hno
 have hno':∀ e∈es,e.w≠k:=fun e he z=>hno ⟨e,he,z⟩
 obtain⟨s1,s2⟩:=h.sums
 obtain⟨hc,_⟩:=h
 have hpos:0<es.length:=by
  have:=hc.1
  exact (List.getElem?_eq_some_iff.mp this).1
 have z:∀ e∈es,dx e.w=0:=by
  rcases hk with rfl | rfl
  ·have := zgS (l := (es.map fun e => dx e.w).map fun x => -x) (fun x hx => by
    obtain⟨y,hy,rfl⟩:=List.mem_map.mp hx
    obtain⟨e,he,rfl⟩:=List.mem_map.mp hy
    have:=hno' e he
    unfold dx
    rw[if_neg this]
    split <;> decide) (by rw[zk8,s1];rfl)
   intro e he
   have:=this (-(dx e.w)) (List.mem_map.mpr ⟨_,List.mem_map.mpr ⟨e,he,rfl⟩,rfl⟩)
   lia
  ·have := zgS (l := es.map fun e => dx e.w) (fun x hx => by
    obtain⟨e,he,rfl⟩:=List.mem_map.mp hx
    have:=hno' e he
    unfold dx
    rw[if_neg this]
    split <;> decide) s1
   intro e he
   exact this _ (List.mem_map.mpr ⟨e,he,rfl⟩)
 have odd:∀ e∈es,e.w=1∨e.w=3:=fun e he=>by
  have h4:=(hc.2.2.1 e he).1
  have hz:=z e he
  rcases way4 h4 with q | q | q | q
  ·rw[q] at hz;exact absurd hz (by decide)
  ·exact .inl q
  ·rw[q] at hz;exact absurd hz (by decide)
  ·exact .inr q
 have same:∀ (i:Nat) (e:Edge),es[i]?=some e→e.w=b.w:=by
  intro i
  induction i with
  | zero=>intro e he;have:=hc.1;rw[he] at this;cases this;rfl
  | succ i ih =>
   intro e he
   have hi:i+1<es.length:=(List.getElem?_eq_some_iff.mp he).1
   have h1:es[i]?=some es[i]:=List.getElem?_eq_getElem (by lia)
   have hn:=hc.2.1 i _ e h1 he
   have m1:es[i]∈es:=List.getElem_mem _
   have m2:e∈es:=List.mem_of_getElem? he
   have w1:=ih _ h1
   have o1:=odd _ m1
   have o2:=odd _ m2
   have:=zls (hc.2.2.1 _ m1)
   rw[← hn] at this
   lia
 have all:∀ x∈es.map (fun e=>dy e.w),x=dy b.w:=fun x hx=>by
  obtain⟨e,he,rfl⟩:=List.mem_map.mp hx
  obtain⟨i,hi,ei⟩:=List.getElem_of_mem he
  rw[same i e (by rw[List.getElem?_eq_getElem hi,ei])]
 have t:=zjp _ _ all
 rw[s2,List.length_map] at t
 have ob:b.w=1∨b.w=3:=by
  have:=hc.1
  exact odd b (List.mem_of_getElem? this)
 have d1:dy b.w=1∨dy b.w=-1:=by
  rcases ob with q | q <;> rw[q] <;> decide
 rcases d1 with q | q <;> rw[q] at t <;> lia
end RP
namespace L2
open PySem PySem.Spec PyProof.Rows
structure Fn (P:Program) (w:World) (K:W.Frag) (mg:Str→Option Value) (base:Heap) (k:Nat) (x:Str) (ps:List Str) (sp:Sp) where
 f:Addr
 fd:FuncData
 ok:FnOk P w K mg base CX0 k f fd ps sp
 m:mg x=some (.ref f)
 kp:W.keepIn K (.ref f)=true
 b:Binds K fd ps []
structure Df (K:W.Frag) (mg:Str→Option Value) (x:Str) (st:Stmt) (ps:List Str) where
 f:Addr
 fd:FuncData
 F:Fun K x x st f fd
 m:mg x=some (.ref f)
 b:Binds K fd ps []
def Df.fn {P:Program}{w:World}{K:W.Frag}{mg:Str→Option Value}{base:Heap}{k:Nat}{x:Str}{st:Stmt}{ps:List Str}{sp:Sp}(d:Df K mg x st ps) (h:FnOk P w K mg base CX0 k d.f d.fd ps sp):Fn P w K mg base k x ps sp :=
 ⟨d.f,d.fd,h,d.m,d.F.kp,d.b⟩
structure Ways (P:Program) (w:World) (K:W.Frag) (mg:Str→Option Value):Prop where
 ex:∃ (B:Addr) (t1 t2 t3 t4:Tok) (n:Nat),mg "BEGIN_WAYS" = some (.ref B)∧K.lookup B=some ⟨.type "dict",none,.dict #[⟨PyData.keyHash w.params "rim",.str "rim" t1,.int 0 t2⟩,⟨PyData.keyHash w.params "hole",.str "hole" t3,.int 2 t4⟩] n,#[]⟩
def tWays (ti:TE):TE:=fun σ H Q=>ti σ H fun y H1=>(y=.str "rim" ∧ Q (.int 0) H1)∨(y=.str "hole" ∧ Q (.int 2) H1)
theorem ziG {X:Cx}{i:Expr}{ti:TE}{p pos:Pos}(hg:Gl X "BEGIN_WAYS") (hw:Ways X.prog X.w X.K X.mg) (hi:PE X i ti) (hs:NoSl i:=by exact fun _ _=>rfl):PE X (.Subscript (.Name "BEGIN_WAYS" p) i pos) (tWays ti):=by
 intro pins s σ H Q I h
 obtain⟨B,t1,t2,t3,t4,n,hm,hl⟩:=hw.ex
 refine zgn PySem.F.slot_dict_getitem.lookup hs (thn ((zdL (v:=.ref B) hg hm rfl:PE X (.Name "BEGIN_WAYS" p) _) pins s σ H (fun v H1=>v=V.ref B∧H1=H) I ⟨rfl,rfl⟩) fun u s1 ⟨x,H1,I1,rx,q1⟩=>?_)
 obtain⟨rfl,rfl⟩:=q1
 obtain rfl:u=Value.ref B:=rx
 refine thn (hi pins s1 σ H1 _ I1 h) fun iv s2 ⟨y,H2,I2,ry,q2⟩=>?_
 have ho:s2.heap.get? B=some _:=I2.kIn B _ hl
 have mo:s2.heap.MapOf (zaC X.prog X.w) B (PySem.findBy (zaC X.prog X.w).is #[⟨PyData.keyHash X.w.params "rim",.str "rim" t1,.int 0 t2⟩,⟨PyData.keyHash X.w.params "hole",.str "hole" t3,.int 2 t4⟩]) :=
  ⟨_,_,_,ho,⟨rfl,rfl,rfl⟩,rfl,fun e he=>by
   simp only[List.mem_toArray,List.mem_cons,List.not_mem_nil,or_false] at he
   rcases he with rfl | rfl
   ·exact⟨.inr "rim",zb7 _ _ _ _,rfl⟩
   ·exact⟨.inr "hole",zb7 _ _ _ _,rfl⟩,fun _=>rfl⟩
 refine⟨⟨_,ho,rfl⟩,?_⟩
 rcases q2 with⟨rfl,q⟩ | ⟨rfl,q⟩
 ·exact wpAny_getItem_of (kV_is (k:=.inr "rim") ry) mo (v:=.int 0 t2) rfl ⟨.int 0,H2,I2.tok _,⟨_,rfl⟩,q⟩
 ·exact wpAny_getItem_of (kV_is (k:=.inr "hole") ry) mo (v:=.int 2 t4) rfl ⟨.int 2,H2,I2.tok _,⟨_,rfl⟩,q⟩
section
variable {X:Cx}{K:W.Frag}
theorem zlf (hK:X.K=K:=by rfl):IxR X (rIxT K):=by
 subst hK
 exact zc5
theorem zj1 (hK:X.K=K:=by rfl):IxR X (rIxL K):=by
 subst hK
 exact zcp
theorem zcw {es : List Expr}{k : Nat}{t : TGs}{n : Nat}{pos : Pos}(hc : X.calm = true) (h : PGs X es t)
  (hn:(assignEach es X.env).length=n:=by rfl) (hst:(assignEach es X.env).findIdx? (·.1)=none:=by rfl) (hK:X.K=K:=by rfl):PG X (.Tuple es k pos) (gTup K n t):=by
 subst hK
 exact zbL hc h hn hst
end
section
variable {X:Cx}
def rSlTW (K:W.Frag):V→Option Int→Option Int→Hp→VK→Prop:=fun x lo hi H Q=>∃ a xs,x=.ref a∧SqT K H a xs ∧
 ((HT.sIx xs.length 0 lo=0∧HT.sIx xs.length xs.length hi=xs.length)→Q (.ref a) H) ∧
 (¬ (HT.sIx xs.length 0 lo=0∧HT.sIx xs.length xs.length hi=xs.length)→∀ p,H p=none→Q (.ref p) (upd H p (.tup (cutV xs lo hi))))
end
end L2
namespace HT
open PySem PyProof.Rows
variable {prog:Program}{w:World}{A:Around}{E:Value→Shared→Prop}{s:Shared}
theorem getItem_tuple_all {t sl : Addr}{items : Array Value}{vl vu : Value}{lo hi : Option Int}{Q : Value → Shared → Prop}(ht : IsTup s.heap t items) (hs : s.heap.IsSliceOf sl vl vu .none) (pl : IsPart vl lo) (pu : IsPart vu hi)
  (hw:sIx items.size 0 lo=0∧sIx items.size items.size hi=items.size) (h:Q (.ref t) s):wpAny (model prog w) A (getItem (.ref t) (.ref sl)) Q E s:=by
 obtain⟨os,hos,hcs,hds⟩:=id hs
 have hTs:s.TypeIs (.ref sl) "slice":=⟨os,hos,hcs⟩
 unfold getItem
 try with_reducible refine wpAny_holding ?_
 first | refine wpAny_bind (wpAny_pure ?_) | skip
 refine wpAny_bind (wpAny_sequenceKey ht.typeIs (by decide) ?_)
 refine wpAny_bind (wpAny_callSpecial?_slot (name:=Str.ofString "__getitem__") ht.typeIs PyProof.Rows.slot_tuple_getitem
  (wpAny_call_entry PyProof.Rows.slot_tuple_getitem ht.typeIs entry_tuple_getitem ?_ (args_tuple_getitem _ _)))
 show wpAny _ _ (Builtin.Tuple.tupleItemsOf (.ref t) >>= _) _ _ s
 refine wpAny_bind (tupleItemsOf_ ht ?_)
 refine wpAny_bind (wpAny_typeOf hTs ?_)
 rw[if_pos (by decide)]
 refine wpAny_bind (zcs hs pl pu ?_)
 have hyes:(((sIx items.size 0 lo:Nat):Int) == 0 && (1:Int) == 1 && (sIx items.size items.size hi - sIx items.size 0 lo) == items.size)=true:=by
  rw[hw.1,hw.2];simp
 show wpAny _ _ (if (((sIx items.size 0 lo:Nat):Int) == 0 && (1:Int) == 1 && (sIx items.size items.size hi - sIx items.size 0 lo) == items.size)=true then _ else _) _ _ s
 rw[if_pos hyes]
 refine wpAny_bind ?_
 unfold Builtin.Tuple.tupleIsExact
 refine wpAny_bind (wpAny_typeOf ht.typeIs (wpAny_pure ?_))
 rw[if_pos (by decide)]
 exact wpAny_bind (wpAny_rule (wpAny_pure ⟨_,rfl,wpAny_pure h⟩))
end HT
namespace L2
open PySem PySem.Spec PyProof.Rows
section
variable {X:Cx}{K:W.Frag}
theorem zkP:SlR X (rSlTW X.K):=by
 intro pins s σ H x v vl vu lo hi sl Q I rx hs pl pu h
 obtain⟨a,xs,rfl,hx,q1,q2⟩:=h
 by_cases hw:HT.sIx xs.length 0 lo=0∧HT.sIx xs.length xs.length hi=xs.length
 ·cases rx
  obtain⟨its,r,ht,hz⟩:=I.tuple hx
  have hlen:its.toArray.size=xs.length:=by rw[List.size_toArray];exact r.length.symm
  refine⟨"tuple",_,PyProof.Rows.slot_tuple_getitem.lookup,ht.typeIs,?_⟩
  exact HT.getItem_tuple_all ht hs pl pu (by rw[hlen];exact hw) ⟨.ref a,H,I,rfl,q1 hw⟩
 ·exact zlD pins s σ H _ v vl vu lo hi sl Q I rx hs pl pu ⟨a,xs,rfl,hx,hw,q2 hw⟩
end
section
variable {prog:Program}{w:World}{K:Type} [DecidableEq K] {knd:HeapKind prog w K}{A:Around}{E:Value→Shared→Prop}{s:Shared}{d a:Addr}{xs:List (K×Addr×Value)}{k:K}{dflt:Value}
theorem zeB {p:Addr×Value}(h:atKey xs k=some p):∃ j:Nat,xs[j]?=some (k,p):=by
 unfold atKey at h
 obtain⟨x,hx,e⟩:=Option.map_eq_some_iff.mp h
 have hm:=List.mem_of_find?_eq_some hx
 have hk:=List.find?_some hx
 obtain⟨j,hj,ej⟩:=List.getElem_of_mem hm
 have:x.1=k:=by simpa using hk
 exact⟨j,by rw[List.getElem?_eq_getElem hj,ej,← e,← this]⟩
theorem zkb {p:Addr×Value}{j:Nat}(hn:(xs.map fun x=>x.1).Nodup) (h:xs[j]?=some (k,p)):atKey xs k=some p:=by
 cases e:atKey xs k with
 | none =>
  exfalso
  unfold atKey at e
  have:=List.find?_eq_none.mp (Option.map_eq_none_iff.mp e) _ (List.mem_of_getElem? h)
  simp at this
 | some q =>
  obtain⟨i,hi⟩:=zeB e
  have hl:=(List.getElem?_eq_some_iff.mp hi).1
  have:=(List.getElem?_inj (i:=i) (j:=j) (by rw[List.length_map];exact hl) hn).mp (by rw[List.getElem?_map,List.getElem?_map,hi,h];rfl)
  subst this
  rw[hi] at h
  cases h
  rfl
theorem zdG {Q : Value → Shared → Prop}(hr : knd.room A) (hk : knd.is s.heap k a) (hD : Heap.DictOfH knd s.heap d xs) (hsz : xs.length ≤ sizeLine)
  (h1:∀ p,atKey xs k=some p→Q p.2 { s with toks:=s.toks+knd.draws k })
  (h2:atKey xs k=none→∀ h',Heap.DictOfH knd h' d (storedH xs k a dflt)→Heap.SameBut d s.heap h'→Q dflt { s with heap:=h',toks:=s.toks+knd.draws k }) :
  wpAny (model prog w) A (dictSetDefault d (.ref a) dflt) Q E s:=by
 obtain⟨o,es,ep,ho,hx,hd,he,hi,hn⟩:=id hD
 unfold dictSetDefault
 refine wpAny_holding (wpAny_bind (knd.pyHash hr hk ?_))
 refine wpAny_bind (wpAny_dictFind_heap (s:={ s with toks:=s.toks+knd.draws k }) hr hk ho hd he hi hn (fun hno=>?_) fun j p hj=>?_)
 ·have hnone : atKey xs k = none := by
   cases e:atKey xs k with
   | none=>rfl
   | some p=>obtain⟨j,hj⟩:=zeB e;exact absurd hj (hno j p)
  refine wpAny_bind (wpAny_rule ?_)
  have hes:es.size=xs.length:=by rw[← Array.length_toList,he,List.length_map]
  refine wpAny_bind (wpAny_updateDictKeys ho hd (wpAny_pure (h2 hnone _ ?_ ⟨?_,fun b hb=>Heap.get?_update_other _ _ (Ne.symm hb)⟩)) (by lia) (by simp))
  ·have hs:Heap.SameBut d s.heap (s.heap.update d (Obj.mapDictKeys fun x=>x.push ⟨knd.hash k,.ref a,dflt⟩)):=⟨?_,fun b hb=>Heap.get?_update_other _ _ (Ne.symm hb)⟩
   ·obtain⟨c,dd,dt,sl⟩:=o
    simp only at hd
    subst hd
    refine⟨_,es.push ⟨knd.hash k,.ref a,dflt⟩,ep+1,Heap.get?_update_self _ ho rfl,hx,rfl,?_,fun x hx'=>?_,?_⟩
    ·rw[storedH_new hnone,List.map_append,← he];simp[entryOfKey]
    ·rw[storedH_new hnone] at hx'
     rcases List.mem_append.mp hx' with m | m
     ·exact knd.keeps (hi x m) ho rfl hs
     ·rw[List.mem_singleton.mp m];exact knd.keeps hk ho rfl hs
    ·rw[storedH_new hnone,List.map_append,List.nodup_append]
     refine⟨hn,by simp,fun x hx' y hy e=>?_⟩
     simp at hy
     subst hy e
     obtain⟨⟨k',p⟩,hm,ek⟩:=List.mem_map.mp hx'
     obtain⟨j,hj,ej⟩:=List.getElem_of_mem hm
     simp only at ek
     subst ek
     exact hno j p (by rw[List.getElem?_eq_getElem hj,ej])
   ·show (s.heap.update d _).objs.size=_
    unfold Heap.update
    simp
  ·show (s.heap.update d _).objs.size=_
   unfold Heap.update
   simp
 ·have hlt:=(List.getElem?_eq_some_iff.mp hj).1
  have hes:es.size=xs.length:=by rw[← Array.length_toList,he,List.length_map]
  have ee:es[j]?=some ⟨knd.hash k,.ref p.1,p.2⟩:=by
   rw[← Array.getElem?_toList,he,List.getElem?_map,hj];rfl
  refine wpAny_bind (wpAny_dictEntries ho hd ?_)
  simp only[ee]
  refine wpAny_bind (wpAny_rule (wpAny_pure ?_))
  exact h1 p (zkb hn hj)
theorem zda (knd : HeapKind prog w K) (d a : Addr) (hd : (d == sysModules) = false) (dflt : Value) :
  MeetsIn prog w (Builtin.«dict.setdefault» ⟨[.ref d,.ref a,dflt],[]⟩) fun A R s=>knd.room A.in1∧∃ k xs,knd.is s.heap k a∧Heap.DictOfH knd s.heap d xs∧xs.length≤sizeLine ∧
   (∀ p,atKey xs k=some p→R (.ok (.ret p.2)) { s with toks:=s.toks+knd.draws k }) ∧
   (atKey xs k=none→∀ h',Heap.DictOfH knd h' d (storedH xs k a dflt)→Heap.SameBut d s.heap h'→R (.ok (.ret dflt)) { s with heap:=h',toks:=s.toks+knd.draws k }):=by
 intro A R s h
 obtain⟨hr,k,xs,hk,hD,hsz,h1,h2⟩:=h
 unfold Builtin.«dict.setdefault» Builtin.Dict.keyAndDefault
 have ht:s.TypeIs (.ref d) "dict":=hD.typeIs
 refine wpAny_bind (wpAny_bind (wpAny_notOrdered_dict ht ?_))
 refine wpAny_bind ?_
 show wpAny (model prog w) A.in1 (pure ()) _ _ s
 refine wpAny_pure ?_
 refine wpAny_bind ?_
 show wpAny (model prog w) A.in1 (pure (Value.ref d,[Value.ref a,dflt])) _ _ s
 refine wpAny_pure ?_
 show wpAny (model prog w) A.in1 (pure d >>= fun x=>pure (x,Value.ref a,some dflt)) _ _ s
 refine wpAny_bind (wpAny_pure (wpAny_pure ?_))
 simp only
 rw[hd]
 show wpAny (model prog w) A.in1 (dictSetDefault d (.ref a) dflt >>= fun x=>ret x) _ _ s
 refine wpAny_bind (zdG hr hk hD hsz (fun p e=>wpAny_pure (h1 p e)) fun e h' hD' hs=>wpAny_pure (h2 e h' hD' hs))
def zlx (td ty tx:TE):TE:=fun σ H Q=>td σ H fun x H1=>∃ a,x=.ref a∧IsD H1 a∧ty σ H1 fun y H2=>tx σ H2 fun z H3=>∃ kvs k b,H3 a=some (.dT kvs)∧y=.ref b∧H3 b=some (.tup (k.map kV))∧kvs.length<sizeLine ∧
 (∀ v,valV kvs k=some v→Q v H3)∧(valV kvs k=none→Q z (upd H3 a (.dT (putK kvs k z))))
end
section
variable {X:Cx}{o e f:Expr}{apos cpos:Pos}{td ty tx:TE}
theorem zjS (hu:X.A.units+1<cLine) (ho:PE X o td) (he:PE X e ty) (hf:PE X f tx) (m:M2 X o "setdefault" apos e f cpos):PE X (.Call (.Attribute o "setdefault" apos) [e,f] [] cpos) (zlx td ty tx):=by
 intro pins s σ H Q I h
 refine wpAny_Call_method m.base m.few m.line PySem.F.plainAttrs_dict PySem.F.slot_dict_setdefault PySem.F.type_dict_setdefault (thn (ho pins s σ H _ I h) fun u s1 ⟨x,H1,I1,rx,a,ex,d,q1⟩=>?_)
 subst ex
 obtain rfl:u=Value.ref a:=rx
 obtain⟨t1,t2,_⟩:=zi5 I1 d
 refine⟨t1,t2,?_⟩
 rw[m.trees]
 refine Calls.callWith_builtin rfl (Calls.evalArgs_plain (Calls.spliced_cons (thn (he pins s1 σ H1 _ I1 q1) fun iv s2 ⟨y,H2,I2,ry,q2⟩ =>
  Calls.spliced_cons (thn (hf pins s2 σ H2 _ I2 q2) fun fv s3 ⟨z,H3,I3,rz,kvs,k,b,eD,ey,eb,hl,k1,k2⟩=>Calls.spliced_nil ?_))))
 subst ey
 cases (show iv=Value.ref b from ry)
 obtain⟨zz,hd,xs,rel,dd⟩:=dt_of I3.hok eD
 refine call_meetsIn PySem.F.slot_dict_setdefault dd.typeIs PySem.F.entry_dict_setdefault (PySem.F.args_dict_setdefault_3 _ _ _) (zda (tupleKind (zaC X.prog X.w)) a b hd fv)
  ⟨tupleKind_room_in1 hu,k,xs,zdl I3.hok eb,dd,by rw[← Paired.length rel];exact zz,fun p ep=>?_,fun en h' dd' hs=>?_⟩
 ·have rv:=rel.val k
  rw[ep] at rv
  cases hv:valV kvs k with
  | none=>rw[hv] at rv;exact False.elim rv
  | some v=>rw[hv] at rv;exact⟨v,H3,I3.tok _,rv,k1 v hv⟩
 ·have hn : valV kvs k = none := by
   have rv:=(rel.val k).isSome_eq
   rw[en] at rv
   cases hv:valV kvs k with
   | none=>rfl
   | some v=>rw[hv] at rv;exact absurd rv (by simp)
  have hz:(putK kvs k z).length≤sizeLine:=by have:=zaR kvs k z;lia
  obtain⟨q,es,ep,hq,h2,h3,h4,_,h5⟩:=dd'
  refine⟨z,_,?_,rz,k2 hn⟩
  refine zdc I3 (by rw[eD];exact True.intro) hs ⟨q,hq⟩ ⟨hz,hd,_,(rel.put k eb rz).keeps fun c ys ec=>?_,q,es,ep,hq,h2,h3,h4,h5⟩
  rw[zaj (ne_of ec eD (fun z=>nomatch z))]
  exact ec
end
structure Two (P:Program) (w:World) (K:W.Frag) (mg:Str→Option Value) (nm:Str) (a b:Int):Prop where
 ex:∃ (B:Addr) (t1 t2 t3 t4:Tok) (n:Nat),mg nm=some (.ref B)∧K.lookup B=some ⟨.type "dict",none,.dict #[⟨PyData.keyHash w.params "rim",.str "rim" t1,.int a t2⟩,⟨PyData.keyHash w.params "hole",.str "hole" t3,.int b t4⟩] n,#[]⟩
def tTwo (a b:Int) (ti:TE):TE:=fun σ H Q=>ti σ H fun y H1=>(y=.str "rim" ∧ Q (.int a) H1)∨(y=.str "hole" ∧ Q (.int b) H1)
theorem zlN {X:Cx}{nm:Str}{a b:Int}{i:Expr}{ti:TE}{p pos:Pos}(hg:Gl X nm) (hw:Two X.prog X.w X.K X.mg nm a b) (hi:PE X i ti) (hs:NoSl i:=by exact fun _ _=>rfl) (hdb:(nm == ("__debug__" : Str))=false:=by rfl):PE X (.Subscript (.Name nm p) i pos) (tTwo a b ti):=by
 intro pins s σ H Q I h
 obtain⟨B,t1,t2,t3,t4,n,hm,hl⟩:=hw.ex
 refine zgn PySem.F.slot_dict_getitem.lookup hs (thn ((zdL (v:=.ref B) hg hm rfl (hd:=hdb):PE X (.Name nm p) _) pins s σ H (fun v H1=>v=V.ref B∧H1=H) I ⟨rfl,rfl⟩) fun u s1 ⟨x,H1,I1,rx,q1⟩=>?_)
 obtain⟨rfl,rfl⟩:=q1
 obtain rfl:u=Value.ref B:=rx
 refine thn (hi pins s1 σ H1 _ I1 h) fun iv s2 ⟨y,H2,I2,ry,q2⟩=>?_
 have ho:s2.heap.get? B=some _:=I2.kIn B _ hl
 have mo:s2.heap.MapOf (zaC X.prog X.w) B (PySem.findBy (zaC X.prog X.w).is #[⟨PyData.keyHash X.w.params "rim",.str "rim" t1,.int a t2⟩,⟨PyData.keyHash X.w.params "hole",.str "hole" t3,.int b t4⟩]) :=
  ⟨_,_,_,ho,⟨rfl,rfl,rfl⟩,rfl,fun e he=>by
   simp only[List.mem_toArray,List.mem_cons,List.not_mem_nil,or_false] at he
   rcases he with rfl | rfl
   ·exact⟨.inr "rim",zb7 _ _ _ _,rfl⟩
   ·exact⟨.inr "hole",zb7 _ _ _ _,rfl⟩,fun _=>rfl⟩
 refine⟨⟨_,ho,rfl⟩,?_⟩
 rcases q2 with⟨rfl,q⟩ | ⟨rfl,q⟩
 ·exact wpAny_getItem_of (kV_is (k:=.inr "rim") ry) mo (v:=.int a t2) rfl ⟨.int a,H2,I2.tok _,⟨_,rfl⟩,q⟩
 ·exact wpAny_getItem_of (kV_is (k:=.inr "hole") ry) mo (v:=.int b t4) rfl ⟨.int b,H2,I2.tok _,⟨_,rfl⟩,q⟩
section
variable {X:Cx}
end
end L2
namespace HT
open PySem PyProof.Rows PySem.Spec
variable {prog:Program}{w:World}{A:Around}{E:Value→Shared→Prop}{s:Shared}
end HT
namespace L2
open PySem PySem.Spec PyProof.Rows
section
variable {X:Cx}{K:W.Frag}
end
end L2
namespace HT
open PySem PyProof.Rows PySem.Spec
end HT
namespace L2
open PySem PySem.Spec PyProof.Rows
section
variable {X:Cx}{K:W.Frag}
end
section
variable {X:Cx}
theorem Inv.turnedL {pins : List (Addr × Obj)}{σ : St}{H : Hp}{s : Shared}{h' : Heap}{t' : Nat}{fp : List Addr}(I : Inv X pins σ H s) (k : ∀ b o, b ∉ fp → s.heap.get? b = some o → h'.get? b = some o) (hf : ∀ b ∈ fp, FpOk X pins H b) :
  Inv X pins σ H { s with heap:=h',toks:=t' }:=by
 have nb:∀ b u,H b=some u→b ∉ fp:=fun b u q z=>by rw[(hf b z).1] at q;cases q
 refine I.step (g':=s.gens) (d':=s.drawn) (ch:=fp) (fun b hb=>?_) (fun b o _ _ hc q _=>k b o hc q) (fun b o _ _ hc q _=>⟨o.slots,k b o hc q⟩) (fun _ _ _ _ n=>n)
  (fun b o hc q=>⟨o,k b o hc q⟩) (fun _ _ q=>q) (fun _ _ _ q=>q) (fun b ps q=>⟨#[],by rw[q];simp⟩) (fun m hm=>?_) (fun b u q=>?_) I.bare
 ·obtain⟨_,f1,_,f3,f4,f5⟩:=hf b hb
  exact⟨f3,f1,f4,f5⟩
 ·obtain⟨o,es,ep,ho,r⟩:=hm
  exact⟨o,es,ep,k _ o (fun z=>(hf _ z).2.1 rfl) ho,r⟩
 ·refine (I.hok b u q).stay (fun c v hc q'=>?_) (fun _ q=>q) fun _ _ q=>q
  rcases hc with z | z
  ·rw[z] at q' ⊢;exact k _ _ (nb b u q) q'
  ·exact k _ _ (nb c _ z) q'
end
section
variable {X:Cx}{e es:Expr}{te ts:TE}{pos p2:Pos}
end
section
variable {X:Cx}
end
section
variable {prog:Program}{w:World}{A:Around}{R:Result→Shared→Prop}{I:Addr}{fp wr:List Addr}{n:Nat}{P:Nat→Value→Prop}{St:Nat→Heap→Prop}{dv:Value}
end
section
variable {X:Cx}{pins:List (Addr×Obj)}{σ:St}{H0:Hp}{s:Shared}{l:Addr}{Q:VK}
end
section
variable {X:Cx}{p pos kpos kp:Pos}{e:Expr}{te:TE}{d:Int}{kj:Nat}
end
end L2
namespace HT
open PySem PyProof.Rows
variable {prog:Program}{w:World}{A:Around}{E:Value→Shared→Prop}{s:Shared}
end HT
namespace L2
open PySem PySem.Spec PyProof.Rows
section
variable {X:Cx}{e es:Expr}{te ts:TE}{pos p2:Pos}
end
end L2
namespace HT
open PySem PyProof.Rows
section
open PySem.SeqAt
open PySem.AutoSeq1 (wpAny_loadPart')
open PySem.MeetsSeq PySem.MeetsSeq2 PySem.MeetsSeq3
end
section
variable {prog:Program}{w:World}{A:Around}{E:Value→Shared→Prop}{s:Shared}
end
end HT
namespace L2
open PySem PySem.Spec PyProof.Rows
section
variable {X:Cx}{pos:Pos}
end
section
variable {prog:Program}{w:World}{A:Around}{E:Value→Shared→Prop}{s:Shared}{it d:Addr}{i ep:Nat}{es:Array DictEntry}{od:Obj}
end
theorem Paired.at' {α β:Type}{F:α→β→Prop}:∀ {l:List α}{m:List β},Paired F l m→∀ {i:Nat}{x:α},l[i]?=some x→∃ y,m[i]?=some y∧F x y
 | _,_,.cons r t,0,x,h=>by cases h;exact⟨_,rfl,r⟩
 | _,_,.cons r t,i+1,x,h=>Paired.at' t h
section
variable {X:Cx}{tg:Expr}
end
section
variable {prog:Program}{w:World}{K:Type} [DecidableEq K] {knd:HeapKind prog w K}{A:Around}{E:Value→Shared→Prop}{s:Shared}{d a:Addr}{xs:List (K×Addr×Value)}{k:K}
end
section
variable {X:Cx}{o e f:Expr}{apos cpos:Pos}{td ty tx:TE}
end
end L2
namespace RP
end RP
namespace L2
open PySem PySem.Spec PyProof.Rows
section
variable {X:Cx}
end
end L2
namespace HT
open PySem PyProof.Rows
variable {prog:Program}{w:World}{A:Around}{E:Value→Shared→Prop}{s:Shared}
end HT
namespace L2
open PySem PySem.Spec PyProof.Rows
section
variable {X:Cx}{e es:Expr}{te ts:TE}{pos p2:Pos}
end
section
variable {prog:Program}{w:World}{A:Around}{E:Value→Shared→Prop}{s:Shared}
end
section
variable {X:Cx}
end
section
variable {X:Cx}
end
theorem zfu {A:Prop}{D:Heap→Prop}(C:Heap→Prop) (g:(∀ h,D h→C h)→A) (h:∀ h,D h→C h):A:=g h
abbrev zgi (h:Heap) (z TI TO T0:Addr) (b:Bool):Prop:=h.get? z=some { cls:=.type "zip",dict:=none,data:=.fields #[rawInt T0,.bool b,.bool false,.ref TI,.ref TO],slots:=#[] }
section
variable {prog:Program}{w:World}{A:Around}{E:Value→Shared→Prop}{s:Shared}
end
section
variable {X:Cx}{pins:List (Addr×Obj)}{σ:St}
end
section
variable {X:Cx}{l m:Expr}{t:TA}{p p2 pos pos2:Pos}
end
theorem zjv:∀ {xs:List V}{us:List Value},xs.length=us.length→(∀ (i:Nat) x u,xs[i]?=some x→us[i]?=some u→RelV x u)→Vals xs us
 | [],[],_,_=>.nil
 | x::xs,u::us,h,k=>.cons (k 0 x u rfl rfl) (zjv (by simpa using h) fun i y v h1 h2=>k (i+1) y v (by simpa using h1) (by simpa using h2))
 | [],_::_,h,_=>by cases h
 | _::_,[],h,_=>by cases h
section
variable {X:Cx}{a:Expr}{t:TA}{p p2 pos pos2:Pos}
end
section
variable {X:Cx}
end
theorem zib {P:Program}{w:World}{K:W.Frag}{tg:Expr}(it:Addr) (lo:Int) (n:Nat):Turn P w K tg (Itr lo n) [it] it (fun i h=>IsLongIter h it (lo+(i:Nat)*1) ((n:Int) - (i:Nat)) 1) where
 mem:=by simp
 obj:=fun i h st b hb=>by
  have e:b=it:=by simpa using hb
  subst e
  exact⟨_,st,fun v z=>by
   have z':Data.fields _=Data.cell v:=z
   cases z'⟩
 keep:=fun i h h' st k=>k it (by simp) _ st
 item:=by
  intro X hP hw hK hc i pins s σ H E I hf st hg
  subst hP hw hK
  obtain⟨f0,f1,f2,f3,f4,f5⟩:=hf it (by simp)
  have W:=Walks.longrange (prog:=X.prog) (w:=X.w) (I.ok.hd hc) it lo 1 n
  refine W.item i s _ _ hg st fun v h' tk hv st' kk=>?_
  obtain⟨t,rfl⟩:=hv
  have I1:Inv X pins σ H { s with heap:=h',toks:=tk }:=I.turned (fun b o hb e=>kk b o (by simpa using hb) e) f0 f1 f3 f4 f5
  refine⟨_,rfl,go_of (s:={ s with heap:=h',toks:=tk }) (n:="longrange_iterator") st' rfl rfl (by decide) ⟨.int (lo+i),H,I1,⟨t,?_⟩,⟨rfl,rfl⟩,st',fun b hb=>(hf b hb).1⟩⟩
  rw[Int.mul_one]
 done:=by
  intro X hP hw hK hc i pins s σ H E I hf st hg
  subst hP hw hK
  obtain⟨f0,f1,f2,f3,f4,f5⟩:=hf it (by simp)
  exact wpAny_pyNext_long_end (I.ok.hd hc) st (by have:n≤i:=hg;lia) fun h' eb=>⟨rfl,I.turned (t':=s.toks) (fun b o hb e=>eb b o hb e) f0 f1 f3 f4 f5⟩
 self:=fun _ _ _ _ _ st h=>wpAny_pyIter_longiter st h
section
variable {X:Cx}{tg:Expr}
theorem ziu {pins : List (Addr × Obj)}{σ : St}{H : Hp}{s : Shared}{R : It → Hp → Prop}{E : Value → Shared → Prop}{lo hi : Int}{t u v : Tok}{tk : Nat}(I : Inv X pins σ H s)
  (q:R (Itr lo (hi - lo).toNat) H):wpAny (model X.prog X.w) X.A (pyIter (.ref s.heap.objs.size)) (PIE X pins σ tg R) E { s with heap:=s.heap.push { cls:=.type "range",data:=.fields #[.int lo t,.int hi u,.int 1 v] },toks:=tk }:=by
 have I1:Inv X pins σ H { s with heap:=s.heap.push { cls:=.type "range",data:=.fields #[.int lo t,.int hi u,.int 1 v] },toks:=tk }:=I.kept fun b o e=>Heap.get?_push_of_some _ e
 have e1:lo+((0:Nat):Int)*1=lo:=by simp
 have e2:(((hi - lo).toNat:Nat):Int) - ((0:Nat):Int)=Builtin.Range.rangeSize lo hi 1:=by rw[rangeSize_one];split <;> lia
 cases hs:Builtin.Range.small lo hi 1 with
 | true =>
  refine wpAny_pyIter_range (IsRange.new ..) hs ?_
  refine⟨(s.heap.push { cls:=.type "range",data:=.fields #[.int lo t,.int hi u,.int 1 v] }).objs.size,[(s.heap.push { cls:=.type "range",data:=.fields #[.int lo t,.int hi u,.int 1 v] }).objs.size],_,_,H,rfl,
   I1.kept (t':=tk) fun b o e=>Heap.get?_push_of_some _ e,zep _ lo (hi - lo).toNat,?_,fun b hb=>?_,q⟩
  ·show IsRangeIter _ _ (lo+((0:Nat):Int)*1) ((((hi - lo).toNat:Nat):Int) - ((0:Nat):Int)) 1
   rw[e1,e2]
   exact Heap.get?_push_size _ rfl
  ·have e:b=(s.heap.push { cls:=.type "range",data:=.fields #[.int lo t,.int hi u,.int 1 v] }).objs.size:=by simpa using hb
   subst e
   exact I1.fpOk (Nat.le_refl _) (I1.hok.fresh (Nat.le_refl _))
 | false =>
  refine wpAny_pyIter_longrange (IsRange.new ..) hs ?_
  refine⟨(s.heap.push { cls:=.type "range",data:=.fields #[.int lo t,.int hi u,.int 1 v] }).objs.size,[(s.heap.push { cls:=.type "range",data:=.fields #[.int lo t,.int hi u,.int 1 v] }).objs.size],_,_,H,rfl,
   I1.kept (t':=tk) fun b o e=>Heap.get?_push_of_some _ e,zib _ lo (hi - lo).toNat,?_,fun b hb=>?_,q⟩
  ·show IsLongIter _ _ (lo+((0:Nat):Int)*1) ((((hi - lo).toNat:Nat):Int) - ((0:Nat):Int)) 1
   rw[e1,e2]
   exact Heap.get?_push_size _ rfl
  ·have e:b=(s.heap.push { cls:=.type "range",data:=.fields #[.int lo t,.int hi u,.int 1 v] }).objs.size:=by simpa using hb
   subst e
   exact I1.fpOk (Nat.le_refl _) (I1.hok.fresh (Nat.le_refl _))
def iRngB (ta:TA):TI:=fun σ H R=>ta σ H fun vs H1=>∃ i j:Int,vs=[.int i,.int j]∧R (Itr i (j - i).toNat) H1
theorem ziD {a b : Expr}{ta : TA}{p pos : Pos}(hg : Gl X "range") (hm : X.mg "range" = none) (ha : PA X [a, b] ta) (hs : starEach [a, b] X.env = [(false, eval a X.env), (false, eval b X.env)] := by rfl) (hs2 : starEach [b] X.env = [(false, eval b X.env)] := by rfl) :
  PI X tg (.Call (.Name "range" p) [a,b] [] pos) (iRngB ta):=by
 intro pins s σ H R I h
 refine Call_ (zcz I hg hm boot_range (PyProof.Rows.callWith_type1 (thn (ha pos pins s σ H _ I h) fun us s1 ⟨vs,H1,I1,r1,q1⟩=>?_) (by rw[hs,hs2]) (by rw[hs2];rfl)))
 obtain⟨i,j,e,q⟩:=q1
 subst e
 cases r1 with
 | cons r rr =>
  cases rr with
  | cons r' rr =>
   cases rr
   obtain⟨t,rfl⟩:=r
   obtain⟨t',rfl⟩:=r'
   exact call_range_2 (ziu I1 q)
end
section
variable {X:Cx}{pos:Pos}{kx vx:Expr}{tk tv:TE}
end
open AutoSeq1 (wpAny_loadPart')
section
variable {prog:Program}{w:World}{A:Around}{E:Value→Shared→Prop}{s:Shared}{d:Addr}{ep:Nat}{es:Array DictEntry}{od:Obj}
end
section
variable {X:Cx}
end
section
variable {X:Cx}{es:List Expr}{te:TE}{t:TA}{pos:Pos}
theorem pa_T {l:List Expr}{k:Nat}(ha:PE X (.Tuple l k pos) te) (hr:PA X es t):PA X (.Tuple l k pos::es) (tCons te t):=zam ha hr (by rfl)
theorem pa_C {c:Const}{k:Nat}(ha:PE X (.Constant c k pos) te) (hr:PA X es t):PA X (.Constant c k pos::es) (tCons te t):=zam ha hr (by rfl)
theorem pa_B {a b:Expr}{o:Operator}(ha:PE X (.BinOp a o b pos) te) (hr:PA X es t):PA X (.BinOp a o b pos::es) (tCons te t):=zam ha hr (by rfl)
theorem pa_N {x:Str}(ha:PE X (.Name x pos) te) (hr:PA X es t):PA X (.Name x pos::es) (tCons te t):=zam ha hr (by rfl)
end
theorem zl8 {i:Nat}{v:V}{σ:St}{H:Hp}{Q:St→Hp→Prop}:gName i v σ H Q=Q (σ.set i (some v)) H:=rfl
theorem zl9 {i:Nat}{v:V}{u:TS}{D:Ends}{σ:St}{H:Hp}:tSeq (tAsg (tC v) (gName i)) u D σ H=u D (σ.set i (some v)) H:=rfl
section
variable {X:Cx}{tg:Expr}
end
inductive IsC:Expr→V→Prop where
 | int {n:Int} {k:Nat} {p:Pos}:IsC (.Constant (.int n) k p) (.int n)
 | bl {b:Bool} {k:Nat} {p:Pos}:IsC (.Constant (.bool b) k p) (.bl b)
 | neg {n:Int} {k:Nat} {p q:Pos}:IsC (.UnaryOp .USub (.Constant (.int n) k p) q) (.int (-n))
inductive IsPs:List Expr→List (V×V)→Prop where
 | nil:IsPs [] []
 | cons {a b:Expr} {x y:V} {k:Nat} {p:Pos} {es:List Expr} {l:List (V×V)}:IsC a x→IsC b y→IsPs es l→IsPs (.Tuple [a,b] k p::es) ((x,y)::l)
inductive RetPs:List Stmt→List (V×V)→Prop where
 | mk {es:List Expr} {l:List (V×V)} {p q:Pos}:IsPs es l→RetPs [.Return (some (.List es p)) q] l
section
variable {X:Cx}
end
section
variable {X:Cx}
end
section
variable {prog:Program}{w:World}{A:Around}{E:Value→Shared→Prop}{s:Shared}{T:String}{r d:Addr}{n:Nat}{P:Nat→Value→Prop}{OK:Heap→Prop}
theorem zhA {Q : Value → Shared → Prop}{ns : List Int}(K : W.KdlSrc prog w T r d n P OK) (hh : A.handled = none) (hok : OK s.heap) (hz : n < 64)
  (hI:∀ acc,ItemsOf P acc n→IntsAre acc.toList ns)
  (hQ:∀ (h1 h':Heap) (tk:Nat) (D:Addr) (out:Array Value) (ns':List Int) (e:Nat),(∀ b o,s.heap.get? b=some o→h1.get? b=some o)→(∀ b o,h1.get? b=some o→h'.get? b=some o)→h1.objs.size≤D→h'.get? D=some (seqObj "list" out e)→IntsAre out.toList ns'→ns'.Perm ns→ns'.Pairwise (·≤·)→Q (.ref D) { s with heap:=h',toks:=tk }) :
  wpAny (model prog w) A (call (.builtin "sorted") [.ref r]) Q E s:=by
 refine Calls.call_function_entry kind_sorted plain_sorted entry_sorted (args_sorted1 _) ?_
 unfold Builtin.«sorted»
 refine wpAny_bind (m:=checkCount "sorted" 1 1 _) (wpAny_pure ?_)
 refine wpAny_bind (W.kdu_collect (A:=A.in1) K hh hok (by rw[sizeLine_eq];lia) fun h' tk acc hk hacc=>?_)
 have hal:acc.toList.length<64:=by rw[Array.length_toList,hacc.1];exact hz
 refine wpAny_bind (wpAny_newList ?_ (by rw[sizeLine_eq];lia))
 have hoL:(h'.push (seqObj "list" acc.toList.toArray 0)).get? h'.objs.size=some (seqObj "list" acc.toList.toArray 0):=Heap.get?_push_size _ rfl
 show wpAny _ _ _ _ _ { s with heap:=h'.push (seqObj "list" acc.toList.toArray 0),toks:=tk }
 refine wpAny_bind (wpAny_holding (wpAny_call_entry slot_list_sort ⟨_,hoL,rfl⟩ entry_list_sort (list_sort_tree hoL (hI acc hacc) hal fun out ns' a1 a2 a3=>⟨_,rfl,?_⟩) (args_list_sort _)))
 obtain⟨e,he⟩:=sortedHeap_at (out:=out) hoL
 refine wpAny_pure ⟨_,rfl,hQ h' _ tk _ out ns' e hk (fun b o hb=>?_) (Nat.le_refl _) he a1 a2 a3⟩
 rw[sortedHeap_old (Nat.ne_of_lt (Heap.lt_size hb)) (by rw[size_push'];exact Nat.lt_succ_of_lt (Heap.lt_size hb))]
 exact Heap.get?_push_of_some _ hb
end
section
variable {X:Cx}
theorem zhV:CallR X (.builtin "sorted") (fun xs H Q=>∃ l,∃ ns:List Int,xs=[.ref l]∧SqL X.K H l (ns.map V.int)∧ns.length<64∧∀ (D:Addr) (ns':List Int),ns'.Perm ns→ns'.Pairwise (·≤·)→H D=none→Q (.ref D) (upd H D (.lst (ns'.map V.int)))):=by
 intro pins s σ H xs us Q I r h
 obtain⟨l,ns,rfl,hl,h64,q⟩:=h
 obtain⟨u,rfl,rx⟩:=vals1 r
 cases rx
 obtain⟨vs,rv,pl,hz⟩:=I.list hl
 have hlv:vs.length=ns.length:=by rw[← rv.length,List.length_map]
 refine sorted_ints pl.isList (zb0 rv) (by lia) fun out ns' a1 a2 a3=>?_
 obtain⟨e,he⟩:=sortedAll_at s.heap vs out
 have hn:H (s.heap.objs.size+1)=none:=I.hok.fresh (Nat.le_succ _)
 refine⟨.ref (s.heap.objs.size+1),_,I.laid (t':=s.toks) (o:=.lst (ns'.map V.int)) (fun b o=>sortedAll_old) (Nat.le_succ _) ⟨?_,out.toList,e,zcW a1,by rw[Array.toArray_toList];exact he⟩,rfl,q _ ns' a2 a3 hn⟩
 rw[List.length_map,a2.length_eq,sizeLine_eq];lia
theorem zhW (hh:X.calm=true):CallR X (.builtin "sorted") (fun xs H Q=>∃ a,∃ kvs:List (Key×V),∃ ns:List Int,xs=[.ref a]∧Rd H a (.dK kvs)∧kvs.map (·.1)=ns.map Sum.inl∧ns.length<64∧∀ (D:Addr) (ns':List Int),ns'.Perm ns→ns'.Pairwise (·≤·)→H D=none→Q (.ref D) (upd H D (.lst (ns'.map V.int)))):=by
 intro pins s σ H xs us Q I r h
 obtain⟨a,kvs,ns,rfl,e,hk,h64,q⟩:=h
 obtain⟨u,rfl,rx⟩:=vals1 r
 cases rx
 obtain⟨z,y,vs,kv,hD⟩:=dk_rd I.hok e
 obtain⟨ep,hat⟩:=hD.dictAt
 have hl1:kvs.length=ns.length:=by have:=congrArg List.length hk;simpa using this
 have hl2:kvs.length=vs.length:=Paired.length kv
 refine zhA (ns:=ns) (W.kdl_dict (knd:=zaC X.prog X.w) (kvs:=vs) (ep:=ep) y) (I.ok.hd hh) hat (by lia) (fun acc hacc=>?_) fun h1 h' tk D out ns' e kp kp2 hD' ho a1 a2 a3=>?_
 ·refine zb0 (zjv (by have:=hacc.1;simp only[List.length_map,Array.length_toList];lia) fun i x u hx hu=>?_)
  obtain⟨k,v,hkv,hki⟩:=hacc.2 i u (by simpa using hu)
  obtain⟨n,hn,rfl⟩:∃ n,ns[i]?=some n∧V.int n=x:=by simpa using hx
  have hi:i<kvs.length:=by have:=(List.getElem?_eq_some_iff.mp hkv).1;lia
  obtain⟨p,hp,ep1,_⟩:=Paired.at' kv (List.getElem?_eq_getElem hi)
  rw[hkv] at hp
  cases hp
  have hkn:kvs[i].1=Sum.inl n:=by
   have h1:(kvs.map (·.1))[i]?=(ns.map Sum.inl)[i]?:=by rw[hk]
   rw[List.getElem?_map,List.getElem?_map,hn,List.getElem?_eq_getElem hi] at h1
   simpa using h1
  have hki':keyIs (Sum.inl n) u=true:=by rw[← hkn,ep1];exact hki
  rcases zaS hki' with⟨i',t,e1,rfl⟩ | ⟨x,t,e1,_⟩
  ·cases e1;exact⟨t,rfl⟩
  ·cases e1
 ·have I1:Inv X pins σ H { s with heap:=h1,toks:=tk }:=I.kept (t':=tk) kp
  have hn:H D=none:=I1.hok.fresh hD'
  refine⟨.ref D,_,I1.laid (t':=tk) (o:=.lst (ns'.map V.int)) kp2 hD' ⟨?_,out.toList,e,zcW a1,by rw[Array.toArray_toList];exact ho⟩,rfl,q _ ns' a2 a3 hn⟩
  rw[List.length_map,a2.length_eq,sizeLine_eq];lia
end
def zlw (td ty tx:TE):TE:=fun σ H Q=>td σ H fun x H1=>∃ a,x=.ref a∧IsD H1 a∧ty σ H1 fun y H2=>tx σ H2 fun z H3=>∃ kvs k,H3 a=some (.dK kvs)∧y=kV k∧kvs.length<sizeLine ∧
 (∀ v,valV kvs k=some v→Q v H3)∧(valV kvs k=none→Q z (upd H3 a (.dK (putK kvs k z))))
section
variable {X:Cx}{o e f:Expr}{apos cpos:Pos}{td ty tx:TE}
theorem zg6 (ho:PE X o td) (he:PE X e ty) (hf:PE X f tx) (m:M2 X o "setdefault" apos e f cpos):PE X (.Call (.Attribute o "setdefault" apos) [e,f] [] cpos) (zlw td ty tx):=by
 intro pins s σ H Q I h
 refine wpAny_Call_method m.base m.few m.line PySem.F.plainAttrs_dict PySem.F.slot_dict_setdefault PySem.F.type_dict_setdefault (thn (ho pins s σ H _ I h) fun u s1 ⟨x,H1,I1,rx,a,ex,d,q1⟩=>?_)
 subst ex
 obtain rfl:u=Value.ref a:=rx
 obtain⟨t1,t2,_⟩:=zi5 I1 d
 refine⟨t1,t2,?_⟩
 rw[m.trees]
 refine Calls.callWith_builtin rfl (Calls.evalArgs_plain (Calls.spliced_cons (thn (he pins s1 σ H1 _ I1 q1) fun iv s2 ⟨y,H2,I2,ry,q2⟩ =>
  Calls.spliced_cons (thn (hf pins s2 σ H2 _ I2 q2) fun fv s3 ⟨z,H3,I3,rz,kvs,k,eD,ey,hl,k1,k2⟩=>Calls.spliced_nil ?_))))
 subst ey
 obtain⟨zz,hd,vs,rel,dd⟩:=dk_of I3.hok eD
 refine call_meetsIn PySem.F.slot_dict_setdefault dd.typeIs PySem.F.entry_dict_setdefault (PySem.F.args_dict_setdefault_3 _ _ _) (PySem.kt_meets_setdefault (zaC X.prog X.w) a (kV_is ry) hd fv)
  ⟨vs,dd,by rw[← rel.length];exact zz,fun p ep=>?_,fun en h' dd' hs=>?_⟩
 ·have rv:=rel.val k
  rw[ep] at rv
  cases hv:valV kvs k with
  | none=>rw[hv] at rv;exact False.elim rv
  | some v=>rw[hv] at rv;exact⟨v,H3,I3.tok _,rv,k1 v hv⟩
 ·have hn : valV kvs k = none := by
   have rv:=(rel.val k).isSome_eq
   rw[en] at rv
   cases hv:valV kvs k with
   | none=>rfl
   | some v=>rw[hv] at rv;exact absurd rv (by simp)
  have hz:(putK kvs k z).length≤sizeLine:=by have:=zaR kvs k z;lia
  have hq:∃ q,h'.get? a=some q:=let ⟨q,_,_,hq,_⟩:=dd';⟨q,hq⟩
  exact⟨z,_,zdc I3 (by rw[eD];exact True.intro) hs hq (zjh hz hd (rel.put k rz) dd'),rz,k2 hn⟩
end
def Itr2 (lo:Int) (n:Nat):It:=⟨fun i _=>i<n,fun i H x H'=>H'=H∧x=.int (lo+i*2),fun i _=>n≤i⟩
theorem zgl {P:Program}{w:World}{K:W.Frag}{tg:Expr}(it:Addr) (lo:Int) (n:Nat):Turn P w K tg (Itr2 lo n) [it] it (fun i h=>IsRangeIter h it (lo+(i:Nat)*2) ((n:Int) - (i:Nat)) 2) where
 mem:=by simp
 obj:=fun i h st b hb=>by
  have e:b=it:=by simpa using hb
  subst e
  exact⟨_,st,fun v z=>by
   have z':Data.fields _=Data.cell v:=z
   cases z'⟩
 keep:=fun i h h' st k=>k it (by simp) _ st
 item:=by
  intro X hP hw hK hc i pins s σ H E I hf st hg
  subst hP hw hK
  obtain⟨f0,f1,f2,f3,f4,f5⟩:=hf it (by simp)
  have W:=Walks.range (prog:=X.prog) (w:=X.w) (I.ok.hd hc) it lo 2 n
  refine W.item i s _ _ hg st fun v h' tk hv st' kk=>?_
  obtain⟨t,rfl⟩:=hv
  have I1:Inv X pins σ H { s with heap:=h',toks:=tk }:=I.turned (fun b o hb e=>kk b o (by simpa using hb) e) f0 f1 f3 f4 f5
  exact⟨_,rfl,go_of (s:={ s with heap:=h',toks:=tk }) (n:="range_iterator") st' rfl rfl (by decide) ⟨.int (lo+i*2),H,I1,⟨t,rfl⟩,⟨rfl,rfl⟩,st',fun b hb=>(hf b hb).1⟩⟩
 done:=by
  intro X hP hw hK hc i pins s σ H E I hf st hg
  subst hP hw hK
  obtain⟨f0,f1,f2,f3,f4,f5⟩:=hf it (by simp)
  exact wpAny_pyNext_range_end (I.ok.hd hc) st (by have:n≤i:=hg;lia) fun h' eb=>⟨rfl,I.turned (t':=s.toks) (fun b o hb e=>eb b o hb e) f0 f1 f3 f4 f5⟩
 self:=fun _ _ _ _ _ st h=>wpAny_pyIter_rangeiter st h
theorem zik {a b:Int}(ha:-(2 ^ 62)≤a) (ha':a<2 ^ 62) (hb:-(2 ^ 62)≤b) (hb':b<2 ^ 62):Builtin.Range.small a b 2=true:=by
 unfold Builtin.Range.small Builtin.Range.rangeSize
 simp only[Builtin.Range.rangeFitsLong,Bool.and_eq_true,Bool.or_eq_true,decide_eq_true_eq,beq_iff_eq,show (2:Int) > 0 by decide,if_true]
 split <;> lia
section
variable {X:Cx}{tg:Expr}
theorem ziv {pins : List (Addr × Obj)}{σ : St}{H : Hp}{s : Shared}{R : It → Hp → Prop}{E : Value → Shared → Prop}{lo hi : Int}{t u v : Tok}{tk : Nat}(I : Inv X pins σ H s) (h1 : -(2 ^ 62) ≤ lo) (h2 : lo < 2 ^ 62) (h3 : -(2 ^ 62) ≤ hi) (h4 : hi < 2 ^ 62)
  (q:R (Itr2 lo ((hi - lo+1) / 2).toNat) H):wpAny (model X.prog X.w) X.A (pyIter (.ref s.heap.objs.size)) (PIE X pins σ tg R) E { s with heap:=s.heap.push { cls:=.type "range",data:=.fields #[.int lo t,.int hi u,.int 2 v] },toks:=tk }:=by
 refine wpAny_pyIter_range (IsRange.new ..) (zik h1 h2 h3 h4) ?_
 have I1:Inv X pins σ H { s with heap:=s.heap.push { cls:=.type "range",data:=.fields #[.int lo t,.int hi u,.int 2 v] },toks:=tk }:=I.kept fun b o e=>Heap.get?_push_of_some _ e
 refine⟨(s.heap.push { cls:=.type "range",data:=.fields #[.int lo t,.int hi u,.int 2 v] }).objs.size,[(s.heap.push { cls:=.type "range",data:=.fields #[.int lo t,.int hi u,.int 2 v] }).objs.size],_,_,H,rfl,
  I1.kept (t':=tk) fun b o e=>Heap.get?_push_of_some _ e,zgl _ lo ((hi - lo+1) / 2).toNat,?_,fun b hb=>?_,q⟩
 ·have e1:lo+((0:Nat):Int)*2=lo:=by simp
  have e2:((((hi - lo+1) / 2).toNat:Nat):Int) - ((0:Nat):Int)=Builtin.Range.rangeSize lo hi 2:=by
   unfold Builtin.Range.rangeSize
   rw[if_pos (by decide)]
   split <;> lia
  show IsRangeIter _ _ (lo+((0:Nat):Int)*2) (((((hi - lo+1) / 2).toNat:Nat):Int) - ((0:Nat):Int)) 2
  rw[e1,e2]
  exact Heap.get?_push_size _ rfl
 ·have e:b=(s.heap.push { cls:=.type "range",data:=.fields #[.int lo t,.int hi u,.int 2 v] }).objs.size:=by simpa using hb
  subst e
  exact I1.fpOk (Nat.le_refl _) (I1.hok.fresh (Nat.le_refl _))
def iRng3 (ta:TA):TI:=fun σ H R=>ta σ H fun vs H1=>∃ i j:Int,vs=[.int i,.int j,.int 2]∧(-(2 ^ 62)≤i∧i<2 ^ 62∧-(2 ^ 62)≤j∧j<2 ^ 62)∧R (Itr2 i ((j - i+1) / 2).toNat) H1
theorem ziE {a b c : Expr}{ta : TA}{p pos : Pos}(hg : Gl X "range") (hm : X.mg "range" = none) (ha : PA X [a, b, c] ta) (hs : starEach [a, b, c] X.env = [(false, eval a X.env), (false, eval b X.env), (false, eval c X.env)] := by rfl) (hs2 : starEach [b, c] X.env = [(false, eval b X.env), (false, eval c X.env)] := by rfl) :
  PI X tg (.Call (.Name "range" p) [a,b,c] [] pos) (iRng3 ta):=by
 intro pins s σ H R I h
 refine Call_ (zcz I hg hm boot_range (PyProof.Rows.callWith_type1 (thn (ha pos pins s σ H _ I h) fun us s1 ⟨vs,H1,I1,r1,q1⟩=>?_) (by rw[hs,hs2]) (by rw[hs2];rfl)))
 obtain⟨i,j,e,⟨q1,q2,q3,q4⟩,q⟩:=q1
 subst e
 cases r1 with
 | cons r rr =>
  cases rr with
  | cons r' rr =>
   cases rr with
   | cons r'' rr =>
    cases rr
    obtain⟨t,rfl⟩:=r
    obtain⟨t',rfl⟩:=r'
    obtain⟨t'',rfl⟩:=r''
    exact call_range_3 (by decide) (ziv I1 q1 q2 q3 q4 q) (.inl (PyProof.noPylong_small (by decide)))
end
section
variable {prog:Program}{w:World}{A:Around}{E:Value→Shared→Prop}{s:Shared}{d it v:Addr}{i ep:Nat}{es:Array DictEntry}{od:Obj}{ok ov:Value}
theorem zhN {Q : Value → Shared → Prop}(lo : (d == sysModules) = false) (g : s.heap.get? d = some od) (x : od.ExactDict)
  (k:Q (.ref s.heap.objs.size) { s with heap:=s.heap.push { cls:=.type "dict_items",data:=.fields #[.ref d] } }):wpAny (model prog w) A (call (.builtin "dict.items") [.ref d]) Q E s:=by
 have ty:s.TypeIs (.ref d) "dict":=⟨od,g,x.1⟩
 refine wpAny_call_entry PySem.F.slot_dict_items ty PySem.F.entry_dict_items ?_ (PySem.F.args_dict_items_1 _)
 unfold Builtin.«dict.items» Builtin.Dict.noArgs
 refine wpAny_bind (wpAny_bind (wpAny_notOrdered_dict ty ?_))
 show wpAny (model prog w) _ (pure d) _ _ s
 refine wpAny_pure (?_:wpAny (model prog w) _ (Builtin.Dict.showsAll d >>= _) _ _ s)
 unfold Builtin.Dict.showsAll
 rw[if_neg (show ¬ (d == sysModules)=true by rw[lo];decide)]
 exact wpAny_bind (wpAny_pure (wpAny_bind (wpAny_newObj_type (wpAny_pure ⟨_,rfl,k⟩))))
theorem zhM {Q : Value → Shared → Prop}(vw : s.heap.IsItemsView v d) (g : s.heap.get? d = some od) (dat : od.data = .dict es ep)
  (k:Q (.ref s.heap.objs.size) { s with heap:=s.heap.push { cls:=.type "dict_itemiterator",data:=.fields #[.none,.bool false,.ref d,.int 0 0,.int es.size 0,.int ep 0,.none,.none] } }):wpAny (model prog w) A (pyIter (.ref v)) Q E s:=by
 obtain⟨o1,g1,_,d1⟩:=id vw
 refine wpAny_pyIter_slot vw.typeIs PySem.F.slot_dict_items_iter (wpAny_call_entry PySem.F.slot_dict_items_iter vw.typeIs PySem.F.entry_dict_items_iter ?_ (PySem.F.args_dict_items_iter_1 _))
 unfold Builtin.«dict_items.__iter__» Builtin.Dict_items.dictOf
 refine wpAny_bind (wpAny_pure (wpAny_bind (wpAny_bind (wpAny_field (x:=.ref d) g1 d1 rfl (wpAny_pure (wpAny_bind ?_))))))
 unfold Builtin.Dict_items.newIterator
 refine wpAny_bind (wpAny_dictEntries g dat (wpAny_bind (wpAny_dictEpoch g dat ?_)))
 simp only[show Builtin.Dict_items.ownsTuple "dict_itemiterator" = true by decide,if_true]
 refine wpAny_newObj_type (wpAny_pure ⟨_,rfl,"dict_itemiterator",_,⟨_,Heap.get?_push_size _ rfl,rfl⟩,PySem.F.slot_dict_itemiterator_next.lookup,?_⟩) (by
  simp only[sizeOk,List.size_toArray,Builtin.Dict_items.ownedTupleFields,List.length_cons,List.length_append,List.length_nil,sizeLine_eq];lia)
 simpa[Builtin.Dict_items.ownedTupleFields,rawInt] using k
theorem zhL {e : DictEntry}{Q : Option Value → Shared → Prop}(st : IsItemIter s.heap it d i es.size ep ok ov) (g : s.heap.get? d = some od) (dat : od.data = .dict es ep) (he : es[i]? = some e)
  (k:∀ h',IsItemIterOut h' it d (i+1) es.size ep e.key e.val s.heap.objs.size→h'.get? s.heap.objs.size=some { cls:=.type "tuple",data:=.seq #[e.key,e.val] } →
   (∀ b o,b≠it→s.heap.get? b=some o→h'.get? b=some o)→Q (some (.ref s.heap.objs.size)) { s with heap:=h' }):wpAny (model prog w) A (pyNext (.ref it)) Q E s:=by
 obtain⟨hp,gs,dr,tk,os⟩:=s
 have ty:Shared.TypeIs ⟨hp,gs,dr,tk,os⟩ (.ref it) "dict_itemiterator":=⟨_,st,rfl⟩
 unfold pyNext
 refine wpAny_bind (wpAny_attempt (wpAny_callSpecial?_slot (name:=Str.ofString "__next__") ty PySem.F.slot_dict_itemiterator_next (wpAny_call_entry PySem.F.slot_dict_itemiterator_next ty PySem.F.entry_dict_itemiterator_next ?_ (PySem.F.args_dict_itemiterator_next_1 _))))
 refine wpAny_bind (wpAny_pure (wpAny_bind (wpAny_bind ?_)))
 refine wpAny_bind (wpAny_typeNameOfWhole_itemiter ty (wpAny_pure (wpAny_bind (wpAny_fieldsOf st rfl ?_))))
 simp only[show Builtin.Dict_items.ownsTuple "dict_itemiterator" = true by decide,if_true]
 show wpAny (model prog w) _ (if (Value.ref d == Value.none)=true then _ else _) _ _ _
 rw[if_neg (show ¬ (Value.ref d == Value.none)=true by simp)]
 refine wpAny_bind (wpAny_pure (wpAny_bind (wpAny_dictEntries g dat ?_)))
 rw[if_neg (show ¬ ((es.size:Int) != (es.size:Int))=true by simp)]
 refine wpAny_bind (wpAny_pure (wpAny_bind (wpAny_dictEpoch g dat ?_)))
 rw[if_neg (show ¬ ((ep:Int) != (ep:Int))=true by simp)]
 refine wpAny_pure ?_
 simp only[show ¬ ((i:Int)<0) by lia,if_false,Int.toNat_natCast,he]
 refine wpAny_bind (wpAny_bind (wpAny_typeNameOfWhole_itemiter ty (wpAny_pure (wpAny_bind (wpAny_isOneOf_itemiter ty ?_)))))
 show wpAny (model prog w) _ (setField (.ref it) 3 (rawInt ((i:Int)+1)) >>= _) _ _ ⟨hp,gs,dr,tk,os⟩
 refine wpAny_bind (wpAny_setField_rec st (by simp) fun h1 e1 b1=>?_)
 replace b1:Heap.SameBut it hp h1:=b1
 have c1:IsItemIter h1 it d (i+1) es.size ep ok ov:=by
  have e:((i+1:Nat):Int)=(i:Int)+1:=by lia
  unfold IsItemIter;rw[e];simpa[rawInt] using e1
 have ty1:Shared.TypeIs ⟨h1,gs,dr,tk,os⟩ (.ref it) "dict_itemiterator":=⟨_,c1,rfl⟩
 refine wpAny_bind (wpAny_holding (wpAny_bind (wpAny_isOneOf_itemiter ty1 (wpAny_bind (wpAny_isOneOf_itemiter ty1 ?_)))))
 show wpAny (model prog w) _ (Builtin.Dict_items.pairFromOwner (.ref it) 6 e.key e.val) _ _ ⟨h1,gs,dr,tk,os⟩
 unfold Builtin.Dict_items.pairFromOwner
 refine wpAny_bind (wpAny_newTuple ?_)
 have c2:IsItemIter (h1.push { cls:=.type "tuple",data:=.seq #[e.key,e.val] }) it d (i+1) es.size ep ok ov:=Heap.get?_push_of_some _ c1
 generalize eh:h1.push { cls:=.type "tuple",data:=.seq #[e.key,e.val] }=h2 at c2
 have z1:h1.objs.size=hp.objs.size:=b1.1
 have li:it≠hp.objs.size:=Nat.ne_of_lt (Heap.lt_size st)
 have t2:h2.get? hp.objs.size=some { cls:=.type "tuple",data:=.seq #[e.key,e.val] }:=by rw[← eh,← z1];exact Heap.get?_push_size _ rfl
 have k2:∀ b o,b≠it→hp.get? b=some o→h2.get? b=some o:=fun b o hb q=>by rw[← eh];exact Heap.get?_push_of_some _ (b1.extBut b o hb q)
 show wpAny (model prog w) _ (Builtin.Dict_items.ownedTupleIsFree (.ref it) >>= _) _ _ ⟨h2,gs,dr,tk,os⟩
 rw[z1]
 clear eh c1 b1 ty1 z1 e1 h1
 unfold Builtin.Dict_items.ownedTupleIsFree
 refine wpAny_bind (wpAny_bind (wpAny_field (x:=.none) c2 rfl rfl (wpAny_pure ?_)))
 simp only[if_true]
 refine wpAny_bind (wpAny_field (x:=ok) c2 rfl rfl (wpAny_bind (wpAny_field (x:=ov) c2 rfl rfl ?_)))
 refine wpAny_bind (wpAny_setField_rec c2 (by simp) fun h3 c3 b3=>?_)
 replace c3:IsItemIter h3 it d (i+1) es.size ep e.key ov:=c3
 refine wpAny_bind (wpAny_setField_rec c3 (by simp) fun h4 c4 b4=>?_)
 replace c4:IsItemIter h4 it d (i+1) es.size ep e.key e.val:=c4
 refine wpAny_bind (wpAny_setField_rec c4 (by simp) fun h5 c5 b5=>?_)
 replace c5:IsItemIterOut h5 it d (i+1) es.size ep e.key e.val hp.objs.size:=c5
 refine wpAny_bind (wpAny_setField_rec c5 (by simp) fun h6 c6 b6=>?_)
 have all:∀ b o,b≠it→h2.get? b=some o→h6.get? b=some o:=fun b o hb q=>Heap.SameBut.extBut b6 b o hb (Heap.SameBut.extBut b5 b o hb (Heap.SameBut.extBut b4 b o hb (Heap.SameBut.extBut b3 b o hb q)))
 exact wpAny_bind (wpAny_letGo (wpAny_pure (wpAny_pure ⟨_,rfl,wpAny_pure (k h6 c6 (all _ _ li.symm t2) fun b o hb q=>all b o hb (k2 b o hb q))⟩)))
theorem zi3 {Q : Option Value → Shared → Prop}(hh : A.handled = none) (st : IsItemIter s.heap it d i es.size ep ok ov) (g : s.heap.get? d = some od) (dat : od.data = .dict es ep) (he : es.size ≤ i)
  (k:∀ h',Heap.ExtBut it s.heap h'→Q none { s with heap:=h' }):wpAny (model prog w) A (pyNext (.ref it)) Q E s:=by
 have ty:s.TypeIs (.ref it) "dict_itemiterator":=⟨_,st,rfl⟩
 unfold pyNext
 refine wpAny_bind (wpAny_attempt (wpAny_callSpecial?_slot (name:=Str.ofString "__next__") ty PySem.F.slot_dict_itemiterator_next (wpAny_call_entry PySem.F.slot_dict_itemiterator_next ty PySem.F.entry_dict_itemiterator_next ?_ (PySem.F.args_dict_itemiterator_next_1 _))))
 refine wpAny_bind (wpAny_pure (wpAny_bind (wpAny_bind ?_)))
 refine wpAny_bind (wpAny_typeNameOfWhole_itemiter ty (wpAny_pure (wpAny_bind (wpAny_fieldsOf st rfl ?_))))
 simp only[show Builtin.Dict_items.ownsTuple "dict_itemiterator" = true by decide,if_true]
 show wpAny (model prog w) _ (if (Value.ref d == Value.none)=true then _ else _) _ _ s
 rw[if_neg (show ¬ (Value.ref d == Value.none)=true by simp)]
 refine wpAny_bind (wpAny_pure (wpAny_bind (wpAny_dictEntries g dat ?_)))
 rw[if_neg (show ¬ ((es.size:Int) != (es.size:Int))=true by simp)]
 refine wpAny_bind (wpAny_pure (wpAny_bind (wpAny_dictEpoch g dat ?_)))
 rw[if_neg (show ¬ ((ep:Int) != (ep:Int))=true by simp)]
 refine wpAny_pure ?_
 simp only[show ¬ ((i:Int)<0) by lia,if_false,Int.toNat_natCast,Array.getElem?_eq_none he]
 refine wpAny_bind (wpAny_bind (wpAny_typeNameOfWhole_itemiter ty (wpAny_pure ?_)))
 show wpAny (model prog w) _ (setField (.ref it) 2 .none >>= _) _ _ s
 refine wpAny_bind (wpAny_setField st rfl (by simp) ?_)
 show wpAny (model prog w) _ (newExc (.type "StopIteration") [] >>= _) _ _ _
 refine wpAny_bind ?_
 simp only[newExc,newTuple]
 refine wpAny_bind (wpAny_newObj_type ?_ (by size_fits))
 refine wpAny_bind (m:=firstArgMember _ _) (wpAny_of_eq (a:=Value.none) (by first | rfl | (simp only[firstArgMember];rfl)) (wpAny_newObj_type ?_ (by size_fits)))
 simp only[raiseNew]
 refine wpAny_bind (wpAny_handled ?_)
 rw[show A.in1.handled=none from hh]
 refine wpAny_bind (wpAny_pure (wpAny_throw (?_:wpAny _ _ _ _ _ _)))
 exact wpAny_bind (wpAny_isInstance (b:=true) (T:="StopIteration") ⟨_,Heap.get?_push_size _ rfl,rfl⟩ isSubtype_stop (wpAny_pure (k _ (((Heap.SameBut.update ..).extBut.push _).push _))))
end
def Itm (a:Addr) (od:Obj):It :=
 ⟨fun i H=>∃ kvs,H a=some (.frz od (.dT kvs))∧i<kvs.length,
  fun i H x H'=>∀ kvs,H a=some (.frz od (.dT kvs))→∃ p b k v,x=.ref p∧H p=none∧kvs[i]?=some (k,v)∧H b=some (.tup (k.map kV))∧H'=upd H p (.tup [.ref b,v]),fun i H=>∃ kvs,H a=some (.frz od (.dT kvs))∧kvs.length≤i⟩
theorem zhy {P : Program}{w : World}{K : W.Frag}{ts : List Expr}{x1 : Nat}{pos : Pos}(a it : Addr) (od : Obj){es : Array DictEntry}{ep : Nat}(dat : od.data = .dict es ep) :
  Turn P w K (.Tuple ts x1 pos) (Itm a od) [it] it (fun i h=>∃ ok ov,IsItemIter h it a i es.size ep ok ov) where
 mem:=by simp
 obj:=fun i h st b hb=>by
  obtain⟨ok,ov,st⟩:=st
  have e:b=it:=by simpa using hb
  subst e
  exact⟨_,st,fun v q=>nomatch q⟩
 keep:=fun i h h' ⟨ok,ov,st⟩ k=>⟨ok,ov,k it (by simp) _ st⟩
 item:=by
  intro X hP hw hK hc i pins s σ H E I hf st hg
  subst hP hw hK
  obtain⟨ok,ov,st⟩:=st
  obtain⟨kvs,e,hi⟩:=hg
  obtain⟨g,z,y,xs,r,o,es',ep',h1,h2,h3,h4,h5⟩:=(show ObjOk X.prog X.w H s.heap a (.frz od (.dT kvs)) from I.hok a _ e)
  rw[g] at h1
  cases h1
  rw[dat] at h3
  cases h3
  obtain⟨q,hq,q1,q2,q3⟩:=Paired.at' r (List.getElem?_eq_getElem hi)
  have he:es[i]?=some (entryOfKey (tupleKind (zaC X.prog X.w)) q):=by rw[entry_at h4,hq];rfl
  have fi:=hf it (by simp)
  obtain⟨f0,f1,f2,f3,f4,f5⟩:=id fi
  refine zhL st g dat he fun h1 eo tup kk=>⟨_,rfl,?_⟩
  refine wpAny_letOwnedTupleGo_items (s:={ s with heap:=h1 }) eo fun h2 he2 sb=>?_
  have hiS:it<s.heap.objs.size:=Heap.lt_size st
  have fr:H s.heap.objs.size=none:=I.hok.fresh (Nat.le_refl _)
  have I1:Inv X pins σ (upd H s.heap.objs.size (.tup [.ref q.2.1,kvs[i].2])) { s with heap:=s.heap.push { cls:=.type "tuple",data:=.seq #[.ref q.2.1,q.2.2] } } :=
   I.laid (t':=s.toks) (o:=.tup [.ref q.2.1,kvs[i].2]) (fun b ob q=>Heap.get?_push_of_some _ q) (Nat.le_refl _) ⟨by show 2≤sizeLine;decide,_,.cons rfl (.cons q3 .nil),IsTup.new _ _⟩
  have fi1:FpOk X pins (upd H s.heap.objs.size (.tup [.ref q.2.1,kvs[i].2])) it:=⟨by rw[zaj (Nat.ne_of_lt hiS)];exact f0,fi.2⟩
  have I2:Inv X pins σ (upd H s.heap.objs.size (.tup [.ref q.2.1,kvs[i].2])) { s with heap:=h2 }:=I1.turned (t':=s.toks) (fun b o hb e'=>by
   refine (sb.2 b hb).trans ?_
   show h1.get? b=some o
   rcases Heap.get?_push_cases e' with⟨z,rfl⟩ | e'
   ·rw[z];exact tup
   ·exact kk b o hb e') fi1.1 f1 f3 f4 f5
  refine⟨.ref s.heap.objs.size,_,I2,rfl,fun ks hk=>?_,⟨_,_,he2⟩,fun b hb=>?_⟩
  ·rw[e] at hk
   cases hk
   exact⟨_,q.2.1,kvs[i].1,kvs[i].2,rfl,fr,List.getElem?_eq_getElem hi,q2,rfl⟩
  ·have z':b=it:=by simpa using hb
   subst z';exact fi1.1
 done:=by
  intro X hP hw hK hc i pins s σ H E I hf st hg
  subst hP hw hK
  obtain⟨ok,ov,st⟩:=st
  obtain⟨kvs,e,hi⟩:=hg
  obtain⟨g,z,y,xs,r,o,es',ep',h1,h2,h3,h4,h5⟩:=(show ObjOk X.prog X.w H s.heap a (.frz od (.dT kvs)) from I.hok a _ e)
  rw[g] at h1
  cases h1
  rw[dat] at h3
  cases h3
  obtain⟨f0,f1,f2,f3,f4,f5⟩:=hf it (by simp)
  exact zi3 (I.ok.hd hc) st g dat (by rw[size_of_entries h4,← Paired.length r];exact hi) fun h' eb=>⟨rfl,I.turned (t':=s.toks) (fun b o hb e=>eb b o hb e) f0 f1 f3 f4 f5⟩
 self:=fun _ _ _ _ _ ⟨_,_,st⟩ h=>W.kcp_self st h
section
variable {X:Cx}
def zlZ (td:TE):TI:=fun σ H R=>td σ H fun x H1=>∃ a kvs,x=.ref a∧H1 a=some (.dT kvs)∧∀ od,R (Itm a od) (upd H1 a (.frz od (.dT kvs)))
theorem zjR {o : Expr}{td : TE}{ts : List Expr}{x1 : Nat}{pos apos cpos : Pos}(ho : PE X o td)
  (hbase:attributeBase o "items" X.env (eval o X.env)=eval o X.env:=by rfl) (hline:(apos.endLine == cpos.line)=true:=by rfl):PI X (.Tuple ts x1 pos) (.Call (.Attribute o "items" apos) [] [] cpos) (zlZ td):=by
 intro pins s σ H R I h
 refine wpAny_Call_method0_late hbase hline (thn (ho pins s σ H _ I h) fun v s1 ⟨x,H1,I1,r1,a,kvs,ex,hd,q⟩=>?_)
 subst ex
 obtain rfl:v=Value.ref a:=r1
 obtain⟨z,y,xs,r,od,es,ep,h1,h2,h3,h4,h5⟩:=(show ObjOk X.prog X.w H1 s1.heap a (.dT kvs) from I1.hok a _ hd)
 refine⟨"dict","dict.items",PySem.F.plainAttrs_dict,PySem.F.slot_dict_items,PySem.F.type_dict_items,⟨od,h1,h2.1⟩,fun b hb=>?_,Calls.callWith_builtin rfl (PySem.evalArgs_none ?_)⟩
 ·cases hb;exact⟨od,h1,h2.2.1⟩
 show wpAny (model X.prog X.w) X.A (call (.builtin "dict.items") [.ref a]) _ _ s1
 refine zhN y h1 h2 ?_
 have g1:(s1.heap.push { cls:=.type "dict_items",data:=.fields #[.ref a] }).get? a=some od:=Heap.get?_push_of_some _ h1
 have I2:Inv X pins σ (upd H1 a (.frz od (.dT kvs))) s1:=I1.write (h':=s1.heap) (t':=s1.toks) (x:=a) (e:=a) (by rw[hd];exact True.intro) (.inl rfl) (fun b u _ g=>g) ⟨od,h1⟩
  ⟨h1,z,y,xs,KT.keeps r (fun c ys ec=>by rw[zaj (ne_of ec hd (fun z=>nomatch z))];exact ec),od,es,ep,h1,h2,h3,h4,h5⟩
 have I3:Inv X pins σ (upd H1 a (.frz od (.dT kvs))) { s1 with heap:=s1.heap.push { cls:=.type "dict_items",data:=.fields #[.ref a] } }:=I2.kept (t':=s1.toks) fun b o e=>Heap.get?_push_of_some _ e
 refine zhM (v:=s1.heap.objs.size) (d:=a) ⟨_,Heap.get?_push_size _ rfl,rfl,rfl⟩ g1 h3 ?_
 refine⟨_,[_],_,_,_,rfl,I3.kept (t':=s1.toks) fun b o e=>Heap.get?_push_of_some _ e,zhy a _ od h3,⟨.none,.none,Heap.get?_push_size _ rfl⟩,fun b hb=>?_,q od⟩
 have e:b=(s1.heap.push { cls:=.type "dict_items",data:=.fields #[.ref a] }).objs.size:=by simpa using hb
 subst e
 exact I3.fpOk (Nat.le_refl _) (I3.hok.fresh (Nat.le_refl _))
end
end L2
namespace RP
def av (w:Nat):Int:=if w=0∨w=1 then 1 else 0
def bv (w:Nat):Int:=if w=1∨w=2 then 1 else 0
def eU (e:Edge):Int:=px e+py e+av e.w
def eV (e:Edge):Int:=py e - px e+bv e.w
def tt (C:Cell→Bool) (e:Edge):Int:=match stepB C e with
 | none=>1
 | some s=>if s % 2=1 then -1 else 0
theorem e_inj {C:Cell→Bool}{e f:Edge}(he:IsE C e) (hf:IsE C f) (h1:eU e=eU f) (h2:eV e=eV f):e=f:=by
  obtain⟨⟨x,y⟩,w⟩:=e
  obtain⟨⟨x',y'⟩,w'⟩:=f
  obtain⟨hw,hc,hg⟩:=he
  obtain⟨hw',hc',hg'⟩:=hf
  simp only at hw hw' hc hc'
  rcases way4 hw with rfl | rfl | rfl | rfl <;> rcases way4 hw' with rfl | rfl | rfl | rfl <;>
    simp only[eU,eV,px,py,av,bv,gap,go,mv] at h1 h2 hg hg' <;> simp at h1 h2 hg hg' <;> first
    | (exfalso;lia)
    | (have : x' = x := by lia
       have:y'=y:=by lia
       subst x' y';rfl)
    | (exfalso
       have q1:x'=x:=by lia
       have q2:y'=y+-1:=by lia
       rw[q1,q2,hg] at hc';exact absurd hc' (by decide))
    | (exfalso
       have q1:x'=x:=by lia
       have q2:y'=y+1:=by lia
       rw[q1,q2,hg] at hc';exact absurd hc' (by decide))
    | (exfalso
       have q1:x'=x+1:=by lia
       have q2:y'=y:=by lia
       rw[q1,q2,hg] at hc';exact absurd hc' (by decide))
    | (exfalso
       have q1:x'=x+-1:=by lia
       have q2:y'=y:=by lia
       rw[q1,q2,hg] at hc';exact absurd hc' (by decide))
theorem zb9 {C:Cell→Bool}{e:Edge}(h:IsE C e):eU (nxt C e)=eU e+(av e.w+av (nxt C e).w - 1)∧eV (nxt C e)=eV e+(bv e.w+bv (nxt C e).w - 1):=by
 obtain⟨p,q⟩:=zfL h
 unfold eU eV
 rw[p,q]
 have hw:=h.1
 generalize (nxt C e).w=w'
 rcases way4 hw with r | r | r | r <;> rw[r] <;> simp[av,bv,dx,dy] <;> lia
theorem zeK {C : Cell → Bool}{e : Edge}(h : IsE C e) :
  (tt C e=-1∧(nxt C e).w=(e.w+3) % 4)∨(tt C e=0∧(nxt C e).w=e.w)∨(tt C e=1∧(nxt C e).w=(e.w+1) % 4):=by
 unfold tt
 rcases za4 h with⟨_,s,q⟩ | ⟨_,_,s,q⟩ | ⟨_,_,s,q⟩ <;> rw[q,s] <;> simp only
 ·left;rw[if_pos (odd7 _)];exact⟨by decide,trivial⟩
 ·right;left;rw[if_neg (by lia)];exact⟨by decide,trivial⟩
 ·right;right;exact⟨by decide,trivial⟩
theorem c_at {C:Cell→Bool}{a b c d:Int}{v:Bool}(h:C (a,b)=v) (h1:c=a) (h2:d=b):C (c,d)=v:=by subst h1 h2;exact h
theorem zer {C : Cell → Bool}{e : Edge}(h : IsE C e) (ht : tt C e = 0) :
  C (px e+dx e.w - 1,py e+dy e.w - 1)=decide (e.w=1∨e.w=2)∧C (px e+dx e.w,py e+dy e.w - 1)=decide (e.w=2∨e.w=3):=by
 obtain⟨⟨x,y⟩,w⟩:=e
 obtain⟨hw,hc,hg⟩:=id h
 rcases za4 h with⟨_,s,q⟩ | ⟨k1,k2,s,q⟩ | ⟨_,_,s,q⟩
 ·exfalso;unfold tt at ht;rw[s] at ht;simp only at ht;rw[if_pos (odd7 _)] at ht;exact absurd ht (by decide)
 ·simp only at hw hc k1 k2
  rcases way4 hw with rfl | rfl | rfl | rfl <;> simp only[gap,go,mv,px,py,dx,dy] at hg k1 k2 ⊢ <;> simp at hg k1 k2 hc ⊢ <;>
   refine⟨?_,?_⟩ <;> first | exact c_at hg (by lia) (by lia) | exact c_at hc (by lia) (by lia) | exact c_at k1 (by lia) (by lia) | exact c_at k2 (by lia) (by lia)
 ·exfalso;unfold tt at ht;rw[s] at ht;exact absurd ht (by decide)
theorem zdA (w:Nat):av w=0∨av w=1:=by unfold av;split <;> simp
theorem ziR {C:Cell→Bool}{e f:Edge}(he:IsE C e) (hf:IsE C f) (h1:eU e+eU (nxt C e)=eU f+eU (nxt C f)) (h2:eV e+eV (nxt C e)=eV f+eV (nxt C f)):e=f:=by
  obtain⟨a1,a2⟩:=zb9 he
  obtain⟨b1,b2⟩:=zb9 hf
  have key:∀ w w':Nat,e.w=w→f.w=w'→e=f∨(tt C e=0∧tt C f=0∧px e+dx e.w=px f+dx f.w∧py e+dy e.w=py f+dy f.w)∨(eU e=eU (nxt C f)∧eV e=eV (nxt C f)∧e.w≠(nxt C f).w):=by
    intro w w' ew fw
    have hw:=he.1
    have hw':=hf.1
    rw[ew] at hw
    rw[fw] at hw'
    have same:e.w=f.w→px e=px f→py e=py f→e=f:=fun q0 q1 q2=>by
      refine e_inj he hf ?_ ?_ <;> simp only[eU,eV] <;> rw[q0,q1,q2]
    rcases zeK he with⟨t1,n1⟩ | ⟨t1,n1⟩ | ⟨t1,n1⟩ <;> rcases zeK hf with⟨t2,n2⟩ | ⟨t2,n2⟩ | ⟨t2,n2⟩ <;> rw[n1,ew] at a1 a2 <;> rw[n2,fw] at b1 b2 <;>
      rcases way4 hw with rfl | rfl | rfl | rfl <;> rcases way4 hw' with rfl | rfl | rfl | rfl <;> simp[av,bv] at a1 a2 b1 b2 <;>
      (have u1:eU e=px e+py e+av e.w:=rfl
       have u2:eV e=py e - px e+bv e.w:=rfl
       have v1:eU f=px f+py f+av f.w:=rfl
       have v2:eV f=py f - px f+bv f.w:=rfl
       rw[ew] at u1 u2
       rw[fw] at v1 v2
       simp[av,bv] at u1 u2 v1 v2) <;> first
      | (exfalso;lia)
      | (exact .inl (same (by rw[ew,fw]) (by lia) (by lia)))
      | (refine .inr (.inl ⟨t1,t2,?_,?_⟩) <;> rw[ew,fw] <;> simp[dx,dy] <;> lia)
      | (refine .inr (.inr ⟨by lia,by lia,by rw[ew,n2,fw];decide⟩))
  rcases key _ _ rfl rfl with h | ⟨t1,t2,q1,q2⟩ | ⟨q1,q2,q3⟩
  · exact h
  · obtain⟨c1,c2⟩:=zer he t1
    obtain⟨d1,d2⟩:=zer hf t2
    rw[q1,q2] at c1 c2
    rw[c1] at d1
    rw[c2] at d2
    have d1':=decide_eq_decide.mp d1
    have d2':=decide_eq_decide.mp d2
    have hw:=he.1
    have hw':=hf.1
    have ww:e.w=f.w:=by lia
    rw[ww] at q1 q2
    refine e_inj he hf ?_ ?_ <;> simp only[eU,eV] <;> rw[ww] <;> lia
  · exact absurd (congrArg Edge.w (e_inj he (zdk hf) q1 q2)) q3
def cr (x1 y1 x2 y2:Int):Int:=if y1=-1∧y2=0∧0<x2 then 1 else if y1=0∧y2=-1∧0<x1 then -1 else 0
theorem cr_sq (u v a1 a2 b1 b2 : Int) (ha1 : -1 ≤ a1 ∧ a1 ≤ 1) (ha2 : -1 ≤ a2 ∧ a2 ≤ 1) (hb1 : -1 ≤ b1 ∧ b1 ≤ 1) (hb2 : -1 ≤ b2 ∧ b2 ≤ 1)
  (h00:¬(u=0∧v=0)) (h10:¬(u+a1=0∧v+a2=0)) (h01:¬(u+b1=0∧v+b2=0)) (h11:¬(u+a1+b1=0∧v+a2+b2=0))
  (hc:¬(2*u+a1+b1=0∧2*v+a2+b2=0)) :
  cr u v (u+a1) (v+a2)+cr (u+a1) (v+a2) (u+a1+b1) (v+a2+b2)=cr u v (u+b1) (v+b2)+cr (u+b1) (v+b2) (u+a1+b1) (v+a2+b2):=by
 have c1:a2=-1∨a2=0∨a2=1:=by lia
 have c2:b2=-1∨b2=0∨b2=1:=by lia
 have c3:v=-2∨v=-1∨v=0∨v=1∨v < -2∨1<v:=by lia
 rcases c3 with rfl | rfl | rfl | rfl | c3 | c3
 ·rcases c1 with rfl | rfl | rfl <;> rcases c2 with rfl | rfl | rfl <;> simp[cr] <;> (try lia) <;> split <;> (try split) <;> lia
 ·rcases c1 with rfl | rfl | rfl <;> rcases c2 with rfl | rfl | rfl <;> simp[cr] <;> (try lia) <;> split <;> (try split) <;> lia
 ·rcases c1 with rfl | rfl | rfl <;> rcases c2 with rfl | rfl | rfl <;> simp[cr] <;> (try lia) <;> split <;> (try split) <;> lia
 ·rcases c1 with rfl | rfl | rfl <;> rcases c2 with rfl | rfl | rfl <;> simp[cr] <;> (try lia) <;> split <;> (try split) <;> lia
 ·have n:∀ p q r,∀ s:Int,q < -1→cr p q r s=0:=fun p q r s h=>by unfold cr;rw[if_neg (by lia),if_neg (by lia)]
  rw[n _ _ _ _ (by lia),n _ _ _ _ (by lia),n _ _ _ _ (by lia),n _ _ _ _ (by lia)]
 ·have n:∀ p q r,∀ s:Int,0<q→cr p q r s=0:=fun p q r s h=>by unfold cr;rw[if_neg (by lia),if_neg (by lia)]
  rw[n _ _ _ _ (by lia),n _ _ _ _ (by lia),n _ _ _ _ (by lia),n _ _ _ _ (by lia)]
section
variable (U V:Nat→Int)
def hH (i j:Nat):Int:=cr (U j - U i) (V j - V i) (U (j+1) - U i) (V (j+1) - V i)
def gG (i j:Nat):Int:=cr (U j - U i) (V j - V i) (U j - U (i+1)) (V j - V (i+1))
def sE:Nat→Int
 | 0=>0
 | i+1=>sE i+hH U V i (i+1)+gG U V i (i+2)
def sF (i:Nat):Nat→Int
 | 0=>sE U V i
 | d+1=>sF i d+hH U V i (i+1+d)
variable {U V}
variable {n:Nat}
theorem zgv (su : ∀ k, -1 ≤ U (k + 1) - U k ∧ U (k + 1) - U k ≤ 1) (sv : ∀ k, -1 ≤ V (k + 1) - V k ∧ V (k + 1) - V k ≤ 1)
  (hd:∀ i j,i<j→j≤n→¬(i=0∧j=n)→¬(U j - U i=0∧V j - V i=0))
  (hm:∀ i j,i<j→j<n→¬(U i+U (i+1)=U j+U (j+1)∧V i+V (i+1)=V j+V (j+1))) :
  ∀ d i,i+2+d≤n→¬(i=0∧i+2+d=n)→sF U V (i+1) d - sF U V i (d+1)=gG U V i (i+2+d)
 | 0,i,h,hx=>by
  show sE U V (i+1) - (sE U V i+hH U V i (i+1+0))=_
  show sE U V i+hH U V i (i+1)+gG U V i (i+2) - (sE U V i+hH U V i (i+1))=gG U V i (i+2)
  lia
 | d+1,i,h,hx=>by
  have ih:=zgv su sv hd hm d i (by lia) (by lia)
  show sF U V (i+1) d+hH U V (i+1) (i+1+1+d) - (sF U V i (d+1)+hH U V i (i+1+(d+1)))=gG U V i (i+2+(d+1))
  have j1:i+1+1+d=i+2+d:=by lia
  have j2:i+1+(d+1)=i+2+d:=by lia
  have j3:i+2+(d+1)=(i+2+d)+1:=by lia
  rw[j1,j2,j3]
  generalize hj:i+2+d=j at *
  have q:=cr_sq (U j - U i) (V j - V i) (-(U (i+1) - U i)) (-(V (i+1) - V i)) (U (j+1) - U j) (V (j+1) - V j)
   (by have:=su i;lia) (by have:=sv i;lia) (su j) (sv j)
   (hd i j (by lia) (by lia) (by lia))
   (by have:=hd (i+1) j (by lia) (by lia) (by lia);lia)
   (by have:=hd i (j+1) (by lia) (by lia) (by lia);lia)
   (by have:=hd (i+1) (j+1) (by lia) (by lia) (by lia);lia)
   (by have:=hm i j (by lia) (by lia);lia)
  have e1:U j - U i+-(U (i+1) - U i)=U j - U (i+1):=by lia
  have e2:V j - V i+-(V (i+1) - V i)=V j - V (i+1):=by lia
  have e3:U j - U i+(U (j+1) - U j)=U (j+1) - U i:=by lia
  have e4:V j - V i+(V (j+1) - V j)=V (j+1) - V i:=by lia
  have e5:U j - U (i+1)+(U (j+1) - U j)=U (j+1) - U (i+1):=by lia
  have e6:V j - V (i+1)+(V (j+1) - V j)=V (j+1) - V (i+1):=by lia
  rw[e1,e2,e3,e4,e5,e6] at q
  have q':gG U V i j+hH U V (i+1) j=hH U V i j+gG U V i (j+1):=q
  lia
theorem cr_up {a b c d:Int}(h1:0≤b) (h2:0≤d):cr a b c d=0:=by unfold cr;rw[if_neg (by lia),if_neg (by lia)]
theorem cr_dn {a b c d:Int}(h1:b=0→a≤0) (h2:d=0→c≤0):cr a b c d=0:=by unfold cr;rw[if_neg (by lia),if_neg (by lia)]
theorem zks (hn : 3 ≤ n) (su : ∀ k, -1 ≤ U (k + 1) - U k ∧ U (k + 1) - U k ≤ 1) (sv : ∀ k, -1 ≤ V (k + 1) - V k ∧ V (k + 1) - V k ≤ 1)
  (hd:∀ i j,i<j→j≤n→¬(i=0∧j=n)→¬(U j - U i=0∧V j - V i=0))
  (hm:∀ i j,i<j→j<n→¬(U i+U (i+1)=U j+U (j+1)∧V i+V (i+1)=V j+V (j+1)))
  (hU:U n=U 0) (hV:V n=V 0) (mV:∀ k,k<n→V 0≤V k) (mU:∀ k,k<n→V k=V 0→U 0≤U k) :
  sE U V (n - 1)=gG U V 0 (n - 1)+hH U V 1 (n - 1):=by
 have r0:∀ d,d+2≤n→sF U V 0 d=0:=by
  intro d
  induction d with
  | zero=>intro _;rfl
  | succ d ih =>
   intro h
   show sF U V 0 d+hH U V 0 (0+1+d)=0
   rw[ih (by lia)]
   have:=mV (0+1+d) (by lia)
   have:=mV (0+1+d+1) (by lia)
   unfold hH
   rw[cr_up (by lia) (by lia)]
   rfl
 have s1:=zgv su sv hd hm (n - 3) 0 (by lia) (by lia)
 rw[show n - 3+1=n - 2 by lia,r0 (n - 2) (by lia),show 0+2+(n - 3)=n - 1 by lia] at s1
 have s2:sF U V 1 (n - 2)=sF U V 1 (n - 3)+hH U V 1 (n - 1):=by
  have:sF U V 1 (n - 3+1)=sF U V 1 (n - 3)+hH U V 1 (1+1+(n - 3)):=rfl
  rw[show n - 3+1=n - 2 by lia,show 1+1+(n - 3)=n - 1 by lia] at this
  exact this
 have r1:∀ k,1+k≤n - 1→sF U V (1+k) (n - 2 - k)=sF U V 1 (n - 2):=by
  intro k
  induction k with
  | zero=>intro _;rfl
  | succ k ih =>
   intro h
   have s:=zgv su sv hd hm (n - 3 - k) (1+k) (by lia) (by lia)
   rw[show n - 3 - k+1=n - 2 - k by lia,show 1+k+2+(n - 3 - k)=n by lia,ih (by lia)] at s
   have z:gG U V (1+k) n=0:=by
    unfold gG
    have a1:=mV (1+k) (by lia)
    have a2:=mU (1+k) (by lia)
    have b1:=mV (1+k+1) (by lia)
    have b2:=mU (1+k+1) (by lia)
    exact cr_dn (by lia) (by lia)
   rw[z] at s
   rw[show 1+(k+1)=1+k+1 by lia,show n - 2 - (k+1)=n - 3 - k by lia]
   lia
 have e:=r1 (n - 2) (by lia)
 rw[show 1+(n - 2)=n - 1 by lia,show n - 2 - (n - 2)=0 by lia] at e
 show sF U V (n - 1) 0=_
 rw[e]
 have:(0:Nat)+1=1:=rfl
 rw[this] at s1
 lia
end
def crs (x1 y1 x2 y2:Int):Int:=cr x1 y1 (x1+x2) (y1+y2)+cr (x1+x2) (y1+y2) x2 y2
def ok8 (w i j:Nat):Bool :=
 let w1:=(w+i+3) % 4
 let w2:=(w1+j+3) % 4
 let t:Int:=(i:Int) - 1
 let t':Int:=(j:Int) - 1
 crs (av w+av w1 - 1) (bv w+bv w1 - 1) (av w1+av w2 - 1) (bv w1+bv w2 - 1) == (2*((w:Int)+t) - 1+t') / 8 - (2*(w:Int) - 1+t) / 8 &&
 crs (-(av w+av w1 - 1)) (-(bv w+bv w1 - 1)) (-(av w1+av w2 - 1)) (-(bv w1+bv w2 - 1)) == (2*((w:Int)+t) - 1+t'+4) / 8 - (2*(w:Int) - 1+t+4) / 8
theorem all8:∀ w<4,∀ i<3,∀ j<3,ok8 w i j=true:=by decide
def it (C:Cell→Bool) (b:Edge):Nat→Edge
 | 0=>b
 | k+1=>nxt C (it C b k)
theorem Chain.get {C:Cell→Bool}{b:Edge}{es:List Edge}(h:Chain C b es):∀ i,i<es.length→es[i]?=some (it C b i)
 | 0,_=>h.1
 | i+1,hi=>by
  have h1:=Chain.get h i (by lia)
  have:=h.2.1 i _ _ h1 (List.getElem?_eq_getElem hi)
  rw[List.getElem?_eq_getElem hi,this]
  rfl
theorem Closed.pos {C:Cell→Bool}{b:Edge}{es:List Edge}(h:Closed C b es):0<es.length:=(List.getElem?_eq_some_iff.mp h.1.1).1
theorem Closed.it_len {C:Cell→Bool}{b:Edge}{es:List Edge}(h:Closed C b es):it C b es.length=b:=by
 obtain⟨hc,l,hl,hb⟩:=id h
 have hp:=h.pos
 have:=hc.get (es.length - 1) (by lia)
 rw[hl] at this
 cases this
 have e:it C b (es.length - 1+1)=nxt C (it C b (es.length - 1)):=rfl
 rw[show es.length - 1+1=es.length by lia] at e
 rw[e,hb]
theorem it_ok {C:Cell→Bool}{b:Edge}(h:IsE C b):∀ k,IsE C (it C b k)
 | 0=>h
 | k+1=>zdk (it_ok h k)
def wW (C:Cell→Bool) (b:Edge):Nat→Int
 | 0=>b.w
 | k+1=>wW C b k+tt C (it C b k)
theorem tt_ix {C:Cell→Bool}{e:Edge}(h:IsE C e):∃ i:Nat,i<3∧tt C e=(i:Int) - 1∧(nxt C e).w=(e.w+i+3) % 4:=by
 have hw:=h.1
 rcases zeK h with⟨a,b⟩ | ⟨a,b⟩ | ⟨a,b⟩
 ·exact⟨0,by decide,by rw[a];rfl,by rw[b]⟩
 ·exact⟨1,by decide,by rw[a];rfl,by rw[b];lia⟩
 ·exact⟨2,by decide,by rw[a];rfl,by rw[b];lia⟩
theorem zdB {C:Cell→Bool}{b:Edge}(h:IsE C b):∀ k,wW C b k % 4=((it C b k).w:Int)
 | 0=>by have:=h.1;show (b.w:Int) % 4=b.w;lia
 | k+1=>by
  have ih:=zdB h k
  obtain⟨i,hi,e1,e2⟩:=tt_ix (it_ok h k)
  show (wW C b k+tt C (it C b k)) % 4=((nxt C (it C b k)).w:Int)
  rw[e1,e2]
  lia
def th (C:Cell→Bool) (b:Edge) (k:Nat):Int:=2*wW C b k - 1+tt C (it C b k)
def up8 (w i:Nat):Bool :=
 let w1:=(w+i+3) % 4
 decide (0<bv w+bv w1 - 1∨(bv w+bv w1 - 1=0∧0≤av w+av w1 - 1)) == decide ((2*(w:Int) - 1+((i:Int) - 1)) % 8<4) &&
 decide (bv w+bv w1 - 1<0∨(bv w+bv w1 - 1=0∧av w+av w1 - 1≤0)) == decide (4≤(2*(w:Int) - 1+((i:Int) - 1)) % 8) &&
 !(decide (av w+av w1 - 1=0∧bv w+bv w1 - 1=0))
theorem zl6:∀ w<4,∀ i<3,up8 w i=true:=by decide
theorem half {C : Cell → Bool}{b : Edge}(h : IsE C b) (k : Nat) :
  ((0<eV (it C b (k+1)) - eV (it C b k)∨(eV (it C b (k+1)) - eV (it C b k)=0∧0≤eU (it C b (k+1)) - eU (it C b k))) ↔ th C b k % 8<4) ∧
  ((eV (it C b (k+1)) - eV (it C b k)<0∨(eV (it C b (k+1)) - eV (it C b k)=0∧eU (it C b (k+1)) - eU (it C b k)≤0)) ↔ 4≤th C b k % 8) ∧
  ¬ (eU (it C b (k+1)) - eU (it C b k)=0∧eV (it C b (k+1)) - eV (it C b k)=0):=by
 obtain⟨i,hi,e1,e2⟩:=tt_ix (it_ok h k)
 obtain⟨s1,s2⟩:=zb9 (it_ok h k)
 have q:=zl6 _ (it_ok h k).1 i hi
 have m:=zdB h k
 simp only[up8,Bool.and_eq_true,beq_iff_eq,decide_eq_decide,Bool.not_eq_true',decide_eq_false_iff_not] at q
 rw[← e2] at q
 obtain⟨⟨q1,q2⟩,q3⟩:=q
 have t:th C b k % 8=(2*((it C b k).w:Int) - 1+((i:Int) - 1)) % 8:=by unfold th;rw[e1];lia
 rw[t]
 have d1:eU (it C b (k+1)) - eU (it C b k)=av (it C b k).w+av (nxt C (it C b k)).w - 1:=by show eU (nxt C (it C b k)) - _=_;lia
 have d2:eV (it C b (k+1)) - eV (it C b k)=bv (it C b k).w+bv (nxt C (it C b k)).w - 1:=by show eV (nxt C (it C b k)) - _=_;lia
 rw[d1,d2]
 exact⟨q1,q2,q3⟩
theorem sub0 {a b:Int}(h:b - a=0):a=b:=by lia
theorem zgT {a b c:Int}(h:a=b+c):a - b=c:=by lia
theorem turn8 {C : Cell → Bool}{b : Edge}(h : IsE C b) (k : Nat) :
  crs (eU (it C b (k+1)) - eU (it C b k)) (eV (it C b (k+1)) - eV (it C b k)) (eU (it C b (k+2)) - eU (it C b (k+1))) (eV (it C b (k+2)) - eV (it C b (k+1)))=th C b (k+1) / 8 - th C b k / 8 ∧
  crs (-(eU (it C b (k+1)) - eU (it C b k))) (-(eV (it C b (k+1)) - eV (it C b k))) (-(eU (it C b (k+2)) - eU (it C b (k+1)))) (-(eV (it C b (k+2)) - eV (it C b (k+1))))=(th C b (k+1)+4) / 8 - (th C b k+4) / 8:=by
 obtain⟨i,hi,e1,e2⟩:=tt_ix (it_ok h k)
 obtain⟨j,hj,f1,f2⟩:=tt_ix (it_ok h (k+1))
 obtain⟨s1,s2⟩:=zb9 (it_ok h k)
 obtain⟨s3,s4⟩:=zb9 (it_ok h (k+1))
 have m:=zdB h k
 have q:=all8 _ (it_ok h k).1 i hi j hj
 simp only[ok8,Bool.and_eq_true,beq_iff_eq] at q
 have w1:(it C b (k+1)).w=((it C b k).w+i+3) % 4:=e2
 rw[← w1,← f2] at q
 have wn:wW C b (k+1)=wW C b k+((i:Int) - 1):=by show wW C b k+tt C (it C b k)=_;rw[e1]
 have t0:th C b k=2*wW C b k - 1+((i:Int) - 1):=by unfold th;rw[e1]
 have t1:th C b (k+1)=2*(wW C b k+((i:Int) - 1)) - 1+((j:Int) - 1):=by unfold th;rw[f1,wn]
 have d1:eU (it C b (k+1)) - eU (it C b k)=av (it C b k).w+av (it C b (k+1)).w - 1:=zgT s1
 have d2:eV (it C b (k+1)) - eV (it C b k)=bv (it C b k).w+bv (it C b (k+1)).w - 1:=zgT s2
 have d3:eU (it C b (k+2)) - eU (it C b (k+1))=av (it C b (k+1)).w+av (nxt C (it C b (k+1))).w - 1:=zgT s3
 have d4:eV (it C b (k+2)) - eV (it C b (k+1))=bv (it C b (k+1)).w+bv (nxt C (it C b (k+1))).w - 1:=zgT s4
 rw[d1,d2,d3,d4,t0,t1,q.1,q.2]
 clear q d1 d2 d3 d4 s1 s2 s3 s4 t0 t1 wn w1 f1 f2 e1 e2
 generalize wW C b k=W at *
 generalize (it C b k).w=w at *
 constructor <;> lia
theorem Closed.least_turn {C : Cell → Bool}{b : Edge}{es : List Edge}(h : Closed C b es)
  (hmin:∀ f∈es,eV b≤eV f∧(eV f=eV b→eU b≤eU f)):wW C b es.length - wW C b 0=4∨wW C b es.length - wW C b 0=-4:=by
 have hp:=h.pos
 have hE:IsE C b:=h.1.2.2.1 b (List.mem_of_getElem? h.1.1)
 have hl:=h.it_len
 have get:=h.1.get
 have nd:=h.1.2.2.2
 generalize hn:es.length=n at *
 have mem:∀ k,k<n→it C b k∈es:=fun k hk=>List.mem_of_getElem? (get k hk)
 have inj:∀ i j,i<j→j<n→it C b i≠it C b j:=fun i j hij hj e=>by
  have:=(List.getElem?_inj (i:=i) (j:=j) (by lia) nd).mp (by rw[get i (by lia),get j hj,e])
  lia
 have n3:3≤n:=by
  have h0:=half hE 0
  have h1:=half hE 1
  have l1:=zdB hE 1
  rcases Nat.lt_or_ge n 3 with hlt | hge
  ·exfalso
   have:n=1∨n=2:=by lia
   rcases this with e | e
   ·rw[e] at hl
    have z:=h0.2.2
    rw[show 0+1=1 from rfl,hl] at z
    exact z ⟨by show eU b - eU b=0;lia,by show eV b - eV b=0;lia⟩
   ·rw[e] at hl
    have a:=(tt_ix (it_ok hE 0))
    have c:=(tt_ix (it_ok hE 1))
    obtain⟨s1,s2⟩:=zb9 (it_ok hE 0)
    obtain⟨s3,s4⟩:=zb9 (it_ok hE 1)
    change it C b (1+1)=b at hl
    have hl':nxt C (it C b 1)=b:=hl
    rw[hl'] at s3 s4
    have i0:it C b 0=b:=rfl
    have i1:nxt C (it C b 0)=it C b 1:=rfl
    obtain⟨i,hi,_,e2⟩:=a
    rw[i1,i0] at s1 s2 e2
    have hw:=hE.1
    have hw1:=(it_ok hE 1).1
    have x1:av b.w+av (it C b 1).w=1:=by lia
    have x2:bv b.w+bv (it C b 1).w=1:=by lia
    rcases way4 hw with r | r | r | r <;> rcases way4 hw1 with r1 | r1 | r1 | r1 <;> rw[r,r1] at x1 x2 e2 <;> simp[av,bv] at x1 x2 <;> lia
  ·exact hge
 have key:=zks (U:=fun k=>eU (it C b k)) (V:=fun k=>eV (it C b k)) n3
  (fun k=>by
   obtain⟨s1,_⟩:=zb9 (it_ok hE k)
   show -1≤eU (nxt C (it C b k)) - eU (it C b k)∧eU (nxt C (it C b k)) - eU (it C b k)≤1
   have a:=zdA (it C b k).w
   have c:=zdA (nxt C (it C b k)).w
   lia)
  (fun k=>by
   obtain⟨_,s1⟩:=zb9 (it_ok hE k)
   show -1≤eV (nxt C (it C b k)) - eV (it C b k)∧eV (nxt C (it C b k)) - eV (it C b k)≤1
   have a:bv (it C b k).w=0∨bv (it C b k).w=1:=by unfold bv;split <;> simp
   have c:bv (nxt C (it C b k)).w=0∨bv (nxt C (it C b k)).w=1:=by unfold bv;split <;> simp
   lia)
  (fun i j hij hj hx z=>by
   have e:=e_inj (it_ok hE i) (it_ok hE j) (sub0 z.1) (sub0 z.2)
   rcases Nat.lt_or_ge j n with hlt | hge
   ·exact inj i j hij hlt e
   ·have:j=n:=by lia
    rw[this,hl] at e
    exact inj 0 i (by lia) (by lia) e.symm)
  (fun i j hij hj z=>inj i j hij hj (ziR (it_ok hE i) (it_ok hE j) z.1 z.2))
  (by show eU (it C b n)=eU b;rw[hl]) (by show eV (it C b n)=eV b;rw[hl])
  (fun k hk=>(hmin _ (mem k hk)).1) (fun k hk=>(hmin _ (mem k hk)).2)
 have sE_th:∀ k,sE (fun k=>eU (it C b k)) (fun k=>eV (it C b k)) k=th C b k / 8 - th C b 0 / 8:=by
  intro k
  induction k with
  | zero=>show (0:Int)=_;lia
  | succ k ih =>
   have q:=(turn8 hE k).1
   unfold crs at q
   have e1:eU (it C b (k+1)) - eU (it C b k)+(eU (it C b (k+2)) - eU (it C b (k+1)))=eU (it C b (k+2)) - eU (it C b k):=by lia
   have e2:eV (it C b (k+1)) - eV (it C b k)+(eV (it C b (k+2)) - eV (it C b (k+1)))=eV (it C b (k+2)) - eV (it C b k):=by lia
   rw[e1,e2] at q
   show sE (fun k=>eU (it C b k)) (fun k=>eV (it C b k)) k+hH (fun k=>eU (it C b k)) (fun k=>eV (it C b k)) k (k+1)+gG (fun k=>eU (it C b k)) (fun k=>eV (it C b k)) k (k+2)=_
   rw[ih]
   unfold hH gG
   show th C b k / 8 - th C b 0 / 8+cr (eU (it C b (k+1)) - eU (it C b k)) (eV (it C b (k+1)) - eV (it C b k)) (eU (it C b (k+2)) - eU (it C b k)) (eV (it C b (k+2)) - eV (it C b k))+cr (eU (it C b (k+2)) - eU (it C b k)) (eV (it C b (k+2)) - eV (it C b k)) (eU (it C b (k+2)) - eU (it C b (k+1))) (eV (it C b (k+2)) - eV (it C b (k+1)))=_
   lia
 obtain⟨m,rfl⟩:∃ m,n=m+1:=⟨n - 1,by lia⟩
 rw[show m+1 - 1=m by lia,sE_th] at key
 have i2:it C b (m+2)=it C b 1:=by show nxt C (it C b (m+1))=nxt C b;rw[hl]
 have q:=(turn8 hE m).2
 rw[i2,hl] at q
 unfold crs at q
 unfold gG hH at key
 simp only at key
 rw[hl] at key
 have z0:it C b 0=b:=rfl
 rw[show 0+1=1 from rfl,z0] at key
 have e1:-(eU b - eU (it C b m))+-(eU (it C b 1) - eU b)=eU (it C b m) - eU (it C b 1):=by lia
 have e2:-(eV b - eV (it C b m))+-(eV (it C b 1) - eV b)=eV (it C b m) - eV (it C b 1):=by lia
 have e3:-(eU b - eU (it C b m))=eU (it C b m) - eU b:=by lia
 have e4:-(eV b - eV (it C b m))=eV (it C b m) - eV b:=by lia
 have e5:-(eU (it C b 1) - eU b)=eU b - eU (it C b 1):=by lia
 have e6:-(eV (it C b 1) - eV b)=eV b - eV (it C b 1):=by lia
 rw[e1,e2,e3,e4,e5,e6] at q
 rw[q] at key
 have u0:th C b 0 % 8<4:=by
  refine (half hE 0).1.mp ?_
  obtain⟨a,c⟩:=hmin _ (mem 1 (by lia))
  rw[z0]
  show 0<eV (it C b 1) - eV b∨(eV (it C b 1) - eV b=0∧0≤eU (it C b 1) - eU b)
  lia
 have um:4≤th C b m % 8:=by
  refine (half hE m).2.1.mp ?_
  obtain⟨a,c⟩:=hmin _ (mem m (by lia))
  rw[hl]
  lia
 have md:=zdB hE (m+1)
 rw[hl] at md
 have w0:wW C b 0=(b.w:Int):=rfl
 have wn:wW C b (m+1)=wW C b m+tt C (it C b m):=rfl
 have t0:th C b 0=2*wW C b 0 - 1+tt C b:=rfl
 have tm:th C b m=2*wW C b m - 1+tt C (it C b m):=rfl
 have tn:th C b (m+1)=2*wW C b (m+1) - 1+tt C b:=by unfold th;rw[hl]
 obtain⟨i,hi,r1,_⟩:=tt_ix hE
 obtain⟨j,hj,r2,_⟩:=tt_ix (it_ok hE m)
 lia
theorem Closed.head {C:Cell→Bool}{b a:Edge}{r:List Edge}(h:Closed C b (a::r)):a=b:=by
 have:=h.1.1
 simpa using this
theorem Closed.rot1 {C:Cell→Bool}{b c:Edge}{r:List Edge}(h:Closed C b (b::r)) (hc:(r++[b])[0]?=some c):Closed C c (r++[b]):=by
 obtain⟨⟨h0,hs,hE,hn⟩,l,hl,hb⟩:=id h
 refine⟨⟨hc,fun i e f h1 h2=>?_,fun e he=>hE e (by rcases List.mem_append.mp he with m | m;exact List.mem_cons_of_mem _ m;rw[List.mem_singleton.mp m];exact List.mem_cons_self),?_⟩,?_⟩
 ·have hi:=(List.getElem?_eq_some_iff.mp h2).1
  simp only[List.length_append,List.length_cons,List.length_nil] at hi
  rw[List.getElem?_append_left (by lia)] at h1
  rcases Nat.lt_or_ge (i+1) r.length with q | q
  ·rw[List.getElem?_append_left q] at h2
   exact hs (i+1) e f (by simpa using h1) (by simpa using h2)
  ·have e1:i+1=r.length:=by lia
   rw[List.getElem?_append_right (by lia),e1] at h2
   simp at h2
   have e2:(b::r).length - 1=i+1:=by simp;lia
   rw[e2] at hl
   simp only[List.getElem?_cons_succ] at hl
   rw[hl] at h1
   cases h1
   rw[hb,h2]
 ·rw[List.nodup_append]
  have:=List.nodup_cons.mp hn
  exact⟨this.2,by simp,fun x hx y hy e=>by rw[List.mem_singleton.mp hy] at e;rw[e] at hx;exact this.1 hx⟩
 ·refine⟨b,by simp,?_⟩
  cases r with
  | nil =>
   simp at hl hc
   subst hc
   subst hl
   exact hb
  | cons a r =>
   simp at hc
   have:=hs 0 b a rfl rfl
   rw[← this,hc]
theorem Closed.rot {C:Cell→Bool}:∀ (j:Nat){b e:Edge}{es:List Edge},Closed C b es→es[j]?=some e→Closed C e (es.drop j++es.take j)
 | 0,b,e,es,h,he=>by
  have:=h.1.1
  rw[he] at this
  cases this
  simpa using h
 | j+1,b,e,[],h,he=>by simp at he
 | j+1,b,e,a::r,h,he=>by
  have:=h.head
  subst this
  simp only[List.getElem?_cons_succ] at he
  have hj:=(List.getElem?_eq_some_iff.mp he).1
  obtain⟨c,hc⟩:∃ c,(r++[a])[0]?=some c:=⟨_,List.getElem?_eq_getElem (by simp)⟩
  have h1:=h.rot1 hc
  have h2:=Closed.rot j h1 (by rw[List.getElem?_append_left hj];exact he)
  rw[List.drop_append_of_le_length (by lia),List.take_append_of_le_length (by lia)] at h2
  simpa using h2
theorem zid {C:Cell→Bool}{b:Edge}{es:List Edge}(h:Chain C b es):∀ i,i≤es.length→((es.take i).map (tt C)).sum=wW C b i - wW C b 0
 | 0,_=>by simp
 | i+1,hi=>by
  have ih:=zid h i (by lia)
  rw[List.take_succ,h.get i (by lia)]
  simp only[Option.toList_some,List.map_append,List.map_cons,List.map_nil,List.sum_append,List.sum_cons,List.sum_nil]
  rw[ih]
  show _=wW C b i+tt C (it C b i) - wW C b 0
  lia
theorem zcP:∀ (es:List Edge),es≠[]→∃ b∈es,∀ f∈es,eV b≤eV f∧(eV f=eV b→eU b≤eU f)
 | [],h=>absurd rfl h
 | [a],_=>⟨a,by simp,fun f hf=>by rw[List.mem_singleton.mp hf];exact⟨Int.le_refl _,fun _=>Int.le_refl _⟩⟩
 | a::c::r,_=>by
  obtain⟨b,hb,q⟩:=zcP (c::r) (by simp)
  by_cases hl:eV b<eV a∨(eV b=eV a∧eU b≤eU a)
  ·refine⟨b,List.mem_cons_of_mem _ hb,fun f hf=>?_⟩
   rcases List.mem_cons.mp hf with rfl | hf
   ·lia
   ·exact q f hf
  ·refine⟨a,List.mem_cons_self,fun f hf=>?_⟩
   rcases List.mem_cons.mp hf with rfl | hf
   ·lia
   ·have:=q f hf
    lia
theorem zgm (l:List Int) (j:Nat):(l.drop j++l.take j).sum=l.sum:=by
 have:=List.take_append_drop j l
 rw[List.sum_append]
 conv=>rhs;rw[← this,List.sum_append]
 lia
theorem Closed.turning {C:Cell→Bool}{b:Edge}{es:List Edge}(h:Closed C b es):(es.map (tt C)).sum=4∨(es.map (tt C)).sum=-4:=by
 have hp:=h.pos
 obtain⟨e,he,q⟩:=zcP es (by intro z;rw[z] at hp;simp at hp)
 obtain⟨j,hj,ej⟩:=List.getElem_of_mem he
 have h1:=h.rot j (by rw[List.getElem?_eq_getElem hj,ej])
 have h2:=h1.least_turn (fun f hf=>q f (by
  rcases List.mem_append.mp hf with m | m
  ·exact List.mem_of_mem_drop m
  ·exact List.mem_of_mem_take m))
 rw[← zid h1.1 _ (Nat.le_refl _),List.take_length,List.map_append,List.map_drop,List.map_take,zgm] at h2
 exact h2
theorem zeJ (C:Cell→Bool):∀ es:List Edge,(es.map (tt C)).sum=((es.filter fun e=>(stepB C e).isNone).length:Int) - ((es.filter fun e=>slant (stepB C e)).length:Int)
 | []=>rfl
 | e::r=>by
  have ih:=zeJ C r
  have q:tt C e=(if (stepB C e).isNone=true then 1 else 0) - (if slant (stepB C e)=true then 1 else 0):=by
   unfold tt
   cases hs:stepB C e with
   | none=>rfl
   | some s =>
    by_cases h:s % 2=1
    ·simp[slant,h]
    ·have h0:s % 2=0:=by lia
     simp[slant,h0]
  simp only[List.map_cons,List.sum_cons,List.filter_cons]
  rw[q,ih]
  split <;> split <;> (try simp only[List.length_cons]) <;> lia
theorem Closed.least_sign {C : Cell → Bool}{b : Edge}{es : List Edge}(h : Closed C b es)
  (hmin:∀ f∈es,eV b≤eV f∧(eV f=eV b→eU b≤eU f)):(wW C b es.length - wW C b 0=4∧0<tt C (it C b (es.length - 1))+tt C b)∨(wW C b es.length - wW C b 0=-4∧tt C (it C b (es.length - 1))+tt C b<0):=by
 have hp:=h.pos
 have hE:IsE C b:=h.1.2.2.1 b (List.mem_of_getElem? h.1.1)
 have hl:=h.it_len
 have get:=h.1.get
 have nd:=h.1.2.2.2
 generalize hn:es.length=n at *
 have mem:∀ k,k<n→it C b k∈es:=fun k hk=>List.mem_of_getElem? (get k hk)
 have inj:∀ i j,i<j→j<n→it C b i≠it C b j:=fun i j hij hj e=>by
  have:=(List.getElem?_inj (i:=i) (j:=j) (by lia) nd).mp (by rw[get i (by lia),get j hj,e])
  lia
 have n3:3≤n:=by
  have h0:=half hE 0
  have h1:=half hE 1
  have l1:=zdB hE 1
  rcases Nat.lt_or_ge n 3 with hlt | hge
  ·exfalso
   have:n=1∨n=2:=by lia
   rcases this with e | e
   ·rw[e] at hl
    have z:=h0.2.2
    rw[show 0+1=1 from rfl,hl] at z
    exact z ⟨by show eU b - eU b=0;lia,by show eV b - eV b=0;lia⟩
   ·rw[e] at hl
    have a:=(tt_ix (it_ok hE 0))
    have c:=(tt_ix (it_ok hE 1))
    obtain⟨s1,s2⟩:=zb9 (it_ok hE 0)
    obtain⟨s3,s4⟩:=zb9 (it_ok hE 1)
    change it C b (1+1)=b at hl
    have hl':nxt C (it C b 1)=b:=hl
    rw[hl'] at s3 s4
    have i0:it C b 0=b:=rfl
    have i1:nxt C (it C b 0)=it C b 1:=rfl
    obtain⟨i,hi,_,e2⟩:=a
    rw[i1,i0] at s1 s2 e2
    have hw:=hE.1
    have hw1:=(it_ok hE 1).1
    have x1:av b.w+av (it C b 1).w=1:=by lia
    have x2:bv b.w+bv (it C b 1).w=1:=by lia
    rcases way4 hw with r | r | r | r <;> rcases way4 hw1 with r1 | r1 | r1 | r1 <;> rw[r,r1] at x1 x2 e2 <;> simp[av,bv] at x1 x2 <;> lia
  ·exact hge
 have key:=zks (U:=fun k=>eU (it C b k)) (V:=fun k=>eV (it C b k)) n3
  (fun k=>by
   obtain⟨s1,_⟩:=zb9 (it_ok hE k)
   show -1≤eU (nxt C (it C b k)) - eU (it C b k)∧eU (nxt C (it C b k)) - eU (it C b k)≤1
   have a:=zdA (it C b k).w
   have c:=zdA (nxt C (it C b k)).w
   lia)
  (fun k=>by
   obtain⟨_,s1⟩:=zb9 (it_ok hE k)
   show -1≤eV (nxt C (it C b k)) - eV (it C b k)∧eV (nxt C (it C b k)) - eV (it C b k)≤1
   have a:bv (it C b k).w=0∨bv (it C b k).w=1:=by unfold bv;split <;> simp
   have c:bv (nxt C (it C b k)).w=0∨bv (nxt C (it C b k)).w=1:=by unfold bv;split <;> simp
   lia)
  (fun i j hij hj hx z=>by
   have e:=e_inj (it_ok hE i) (it_ok hE j) (sub0 z.1) (sub0 z.2)
   rcases Nat.lt_or_ge j n with hlt | hge
   ·exact inj i j hij hlt e
   ·have:j=n:=by lia
    rw[this,hl] at e
    exact inj 0 i (by lia) (by lia) e.symm)
  (fun i j hij hj z=>inj i j hij hj (ziR (it_ok hE i) (it_ok hE j) z.1 z.2))
  (by show eU (it C b n)=eU b;rw[hl]) (by show eV (it C b n)=eV b;rw[hl])
  (fun k hk=>(hmin _ (mem k hk)).1) (fun k hk=>(hmin _ (mem k hk)).2)
 have sE_th:∀ k,sE (fun k=>eU (it C b k)) (fun k=>eV (it C b k)) k=th C b k / 8 - th C b 0 / 8:=by
  intro k
  induction k with
  | zero=>show (0:Int)=_;lia
  | succ k ih =>
   have q:=(turn8 hE k).1
   unfold crs at q
   have e1:eU (it C b (k+1)) - eU (it C b k)+(eU (it C b (k+2)) - eU (it C b (k+1)))=eU (it C b (k+2)) - eU (it C b k):=by lia
   have e2:eV (it C b (k+1)) - eV (it C b k)+(eV (it C b (k+2)) - eV (it C b (k+1)))=eV (it C b (k+2)) - eV (it C b k):=by lia
   rw[e1,e2] at q
   show sE (fun k=>eU (it C b k)) (fun k=>eV (it C b k)) k+hH (fun k=>eU (it C b k)) (fun k=>eV (it C b k)) k (k+1)+gG (fun k=>eU (it C b k)) (fun k=>eV (it C b k)) k (k+2)=_
   rw[ih]
   unfold hH gG
   show th C b k / 8 - th C b 0 / 8+cr (eU (it C b (k+1)) - eU (it C b k)) (eV (it C b (k+1)) - eV (it C b k)) (eU (it C b (k+2)) - eU (it C b k)) (eV (it C b (k+2)) - eV (it C b k))+cr (eU (it C b (k+2)) - eU (it C b k)) (eV (it C b (k+2)) - eV (it C b k)) (eU (it C b (k+2)) - eU (it C b (k+1))) (eV (it C b (k+2)) - eV (it C b (k+1)))=_
   lia
 obtain⟨m,rfl⟩:∃ m,n=m+1:=⟨n - 1,by lia⟩
 rw[show m+1 - 1=m by lia,sE_th] at key
 have i2:it C b (m+2)=it C b 1:=by show nxt C (it C b (m+1))=nxt C b;rw[hl]
 have q:=(turn8 hE m).2
 rw[i2,hl] at q
 unfold crs at q
 unfold gG hH at key
 simp only at key
 rw[hl] at key
 have z0:it C b 0=b:=rfl
 rw[show 0+1=1 from rfl,z0] at key
 have e1:-(eU b - eU (it C b m))+-(eU (it C b 1) - eU b)=eU (it C b m) - eU (it C b 1):=by lia
 have e2:-(eV b - eV (it C b m))+-(eV (it C b 1) - eV b)=eV (it C b m) - eV (it C b 1):=by lia
 have e3:-(eU b - eU (it C b m))=eU (it C b m) - eU b:=by lia
 have e4:-(eV b - eV (it C b m))=eV (it C b m) - eV b:=by lia
 have e5:-(eU (it C b 1) - eU b)=eU b - eU (it C b 1):=by lia
 have e6:-(eV (it C b 1) - eV b)=eV b - eV (it C b 1):=by lia
 rw[e1,e2,e3,e4,e5,e6] at q
 rw[q] at key
 have u0:th C b 0 % 8<4:=by
  refine (half hE 0).1.mp ?_
  obtain⟨a,c⟩:=hmin _ (mem 1 (by lia))
  rw[z0]
  show 0<eV (it C b 1) - eV b∨(eV (it C b 1) - eV b=0∧0≤eU (it C b 1) - eU b)
  lia
 have um:4≤th C b m % 8:=by
  refine (half hE m).2.1.mp ?_
  obtain⟨a,c⟩:=hmin _ (mem m (by lia))
  rw[hl]
  lia
 have md:=zdB hE (m+1)
 rw[hl] at md
 have w0:wW C b 0=(b.w:Int):=rfl
 have wn:wW C b (m+1)=wW C b m+tt C (it C b m):=rfl
 have t0:th C b 0=2*wW C b 0 - 1+tt C b:=rfl
 have tm:th C b m=2*wW C b m - 1+tt C (it C b m):=rfl
 have tn:th C b (m+1)=2*wW C b (m+1) - 1+tt C b:=by unfold th;rw[hl]
 obtain⟨i,hi,r1,_⟩:=tt_ix hE
 obtain⟨j,hj,r2,_⟩:=tt_ix (it_ok hE m)
 rw[show m+1 - 1=m from rfl]
 lia
theorem Closed.least_way {C : Cell → Bool}{b : Edge}{es : List Edge}(h : Closed C b es)
  (hmin:∀ f∈es,eV b≤eV f∧(eV f=eV b→eU b≤eU f)):(b.w=0∧(es.map (tt C)).sum=4)∨(b.w=2∧(es.map (tt C)).sum=-4):=by
 have hp:=h.pos
 have hE:IsE C b:=h.1.2.2.1 b (List.mem_of_getElem? h.1.1)
 have hl:=h.it_len
 have get:=h.1.get
 have sg:=h.least_sign hmin
 have ts:=zid h.1 es.length (Nat.le_refl _)
 rw[List.take_length] at ts
 rw[← ts] at sg
 obtain⟨m,hm⟩:∃ m,es.length=m+1:=⟨es.length - 1,by lia⟩
 rw[hm,show m+1 - 1=m from rfl] at sg
 rw[hm] at hl
 have hE':IsE C (it C b m):=it_ok hE m
 have mm:it C b m∈es:=List.mem_of_getElem? (get m (by lia))
 have nb:nxt C (it C b m)=b:=hl
 have hn:nxt C b∈es:=by
  rcases Nat.lt_or_ge 1 es.length with z | z
  ·exact List.mem_of_getElem? (get 1 z)
  ·have:m=0:=by lia
   subst this
   have:nxt C b=b:=nb
   rw[this];exact List.mem_of_getElem? h.1.1
 obtain⟨s1,s2⟩:=zb9 hE
 obtain⟨s3,s4⟩:=zb9 hE'
 rw[nb] at s3 s4
 obtain⟨i,hi,r1,r1'⟩:=tt_ix hE
 obtain⟨j,hj,r2,r2'⟩:=tt_ix hE'
 rw[nb] at r2'
 have m1:=hmin _ hn
 have m2:=hmin _ mm
 have w0:=hE.1
 have w1:=hE'.1
 have w2:=(zdk hE).1
 generalize (nxt C b).w=x at *
 generalize (it C b m).w=y at *
 generalize tt C (it C b m)=ta at *
 generalize tt C b=tb at *
 generalize b.w=z at *
 rcases way4 w0 with rfl | rfl | rfl | rfl <;> rcases way4 w1 with rfl | rfl | rfl | rfl <;> rcases way4 w2 with rfl | rfl | rfl | rfl <;> simp[av,bv] at s1 s2 s3 s4 <;> lia
theorem Closed.tele {C:Cell→Bool}{b:Edge}{es:List Edge}(h:Closed C b es){G g:Edge→Int}(hg:∀ f∈es,G (nxt C f)=G f+g f):(es.map g).sum=0:=by
 have k:∀ i,i≤es.length→((es.take i).map g).sum=G (it C b i) - G b:=by
  intro i
  induction i with
  | zero=>intro _;simp[it]
  | succ i ih =>
   intro hi
   have h1:=h.1.get i (by lia)
   rw[List.take_succ,h1]
   simp only[Option.toList_some,List.map_append,List.map_cons,List.map_nil,List.sum_append,List.sum_cons,List.sum_nil]
   rw[ih (by lia)]
   have:=hg _ (List.mem_of_getElem? h1)
   have e:it C b (i+1)=nxt C (it C b i):=rfl
   rw[e,this];lia
 have:=k es.length (Nat.le_refl _)
 rw[List.take_length,h.it_len] at this
 lia
theorem sums4 {l:List Edge}{f g u v:Edge→Int}(h:∀ e∈l,f e - g e=u e - v e):(l.map f).sum - (l.map g).sum=(l.map u).sum - (l.map v).sum:=by
 induction l with
 | nil=>simp
 | cons a r ih =>
  have h1:=h a List.mem_cons_self
  have h2:=ih fun e he=>h e (List.mem_cons_of_mem _ he)
  simp only[List.map_cons,List.sum_cons];lia
def ind (es:List Edge) (a:Edge):Int:=if a∈es then 1 else 0
def at1 (a e:Edge):Int:=if e=a then 1 else 0
theorem zdD (a:Edge):∀ {es:List Edge},es.Nodup→(es.map (at1 a)).sum=ind es a
 | [],_=>by simp[ind]
 | e::r,h=>by
  obtain⟨h1,h2⟩:=List.nodup_cons.mp h
  have ih:=zdD a h2
  simp only[List.map_cons,List.sum_cons,ih,ind,at1]
  by_cases z:e=a
  ·subst z
   rw[if_pos rfl,if_neg h1,if_pos List.mem_cons_self];rfl
  ·rw[if_neg z]
   by_cases y:a∈r
   ·rw[if_pos y,if_pos (List.mem_cons_of_mem _ y)];rfl
   ·rw[if_neg y,if_neg]
    ·rfl
    ·intro m
     rcases List.mem_cons.mp m with q | q
     ·exact z q.symm
     ·exact y q
def wc (c:Cell) (e:Edge):Int:=if e.c.2=c.2∧c.1<px e then dy e.w else 0
def wd (es:List Edge) (c:Cell):Int:=(es.map (wc c)).sum
theorem zjg {e:Edge}{x y:Int}{w:Nat}:e=⟨(x,y),w⟩ ↔ e.c.1=x∧e.c.2=y∧e.w=w:=by
 obtain⟨⟨a,b⟩,v⟩:=e
 constructor
 ·intro h;cases h;exact⟨rfl,rfl,rfl⟩
 ·rintro⟨h1,h2,h3⟩;simp only at h1 h2 h3;rw[h1,h2,h3]
theorem zcV {es:List Edge}(h4:∀ e∈es,e.w<4) (nd:es.Nodup) (x y:Int):wd es (x,y) - wd es (x+1,y)=ind es ⟨(x,y),1⟩ - ind es ⟨(x+1,y),3⟩:=by
 rw[← zdD _ nd,← zdD _ nd]
 refine sums4 fun e he=>?_
 have hw:=h4 e he
 unfold wc at1
 simp only[zjg]
 obtain⟨⟨a,b⟩,v⟩:=e
 simp only at hw
 rcases way4 hw with rfl | rfl | rfl | rfl <;> simp[px,dy] <;> (repeat' split) <;> lia
theorem wd_up {C:Cell→Bool}{b:Edge}{es:List Edge}(h:Closed C b es) (x y:Int):wd es (x,y+1) - wd es (x,y)=ind es ⟨(x,y+1),0⟩ - ind es ⟨(x,y),2⟩:=by
 have hE:=h.1.2.2.1
 have nd:=h.1.2.2.2
 have t:=h.tele (G:=fun e=>if x<px e∧py e=y+1 then (1:Int) else 0)
  (g:=fun e=>(wc (x,y) e - wc (x,y+1) e)+(at1 ⟨(x,y+1),0⟩ e - at1 ⟨(x,y),2⟩ e)) (fun e he=>by
   obtain⟨p,q⟩:=zfL (hE e he)
   have hw:=(hE e he).1
   rw[p,q]
   clear p q
   unfold wc at1
   simp only[zjg]
   obtain⟨⟨a,b⟩,v⟩:=e
   simp only at hw
   rcases way4 hw with rfl | rfl | rfl | rfl <;> simp[px,py,dx,dy] <;> (repeat' split) <;> lia)
 rw[← zdD _ nd,← zdD _ nd]
 have k:∀ l:List Edge,(l.map fun e=>(wc (x,y) e - wc (x,y+1) e)+(at1 ⟨(x,y+1),0⟩ e - at1 ⟨(x,y),2⟩ e)).sum=((l.map (wc (x,y))).sum - (l.map (wc (x,y+1))).sum)+((l.map (at1 ⟨(x,y+1),0⟩)).sum - (l.map (at1 ⟨(x,y),2⟩)).sum):=by
  intro l
  induction l with
  | nil=>simp
  | cons a r ih=>simp only[List.map_cons,List.sum_cons,ih];lia
 rw[k] at t
 unfold wd
 lia
def fac (e:Edge):Edge:=⟨gap e,(e.w+2) % 4⟩
theorem zh6 {C:Cell→Bool}{b:Edge}{es:List Edge}(h:Closed C b es) (e:Edge) (hw:e.w<4):wd es e.c - wd es (gap e)=ind es e - ind es (fac e):=by
 have hE:=h.1.2.2.1
 have nd:=h.1.2.2.2
 have r:=zcV (fun e he=>(hE e he).1) nd
 have u:=wd_up h
 obtain⟨⟨a,c⟩,v⟩:=e
 simp only at hw
 unfold fac
 rcases way4 hw with rfl | rfl | rfl | rfl <;> simp only[gap,go,mv]
 ·have:=u a (c - 1)
  rw[show c - 1+1=c by lia] at this
  simp;rw[show c+-1=c - 1 by lia];exact this
 ·have:=r a c
  simpa using this
 ·have:=u a c
  simp;lia
 ·have:=r (a - 1) c
  rw[show a - 1+1=a by lia] at this
  simp;rw[show a+-1=a - 1 by lia];lia
theorem zi7 {C:Cell→Bool}{b:Edge}{es:List Edge}(h:Closed C b es){e:Edge}(hn:¬ IsE C e):ind es e=0:=by
 unfold ind;rw[if_neg fun m=>hn (h.1.2.2.1 e m)]
theorem zlj {e:Edge}(hw:e.w<4):gap (fac e)=e.c:=by
 obtain⟨⟨a,c⟩,v⟩:=e
 simp only at hw
 unfold fac
 rcases way4 hw with rfl | rfl | rfl | rfl <;> simp[gap,go,mv] <;> lia
theorem zeF {C:Cell→Bool}{b:Edge}{es:List Edge}(h:Closed C b es) (e:Edge) (hw:e.w<4) (hC:C e.c=C (gap e)):wd es e.c=wd es (gap e):=by
 have k:=zh6 h e hw
 rw[zi7 h (e:=e) (fun z=>by have:=z.2.1;have:=z.2.2;simp_all),zi7 h (e:=fac e) (fun z=>by
  have h1:=z.2.1;have h2:=z.2.2;rw[zlj hw] at h2
  have h1':C (gap e)=true:=h1
  simp_all)] at k
 lia
theorem zeG {C:Cell→Bool}{b:Edge}{es:List Edge}(h:Closed C b es){e:Edge}(he:IsE C e):wd es e.c=wd es (gap e)+ind es e:=by
 have k:=zh6 h e he.1
 rw[zi7 h (e:=fac e) (fun z=>by have h1:C (gap e)=true:=z.2.1;rw[he.2.2] at h1;cases h1)] at k
 lia
inductive Rch (D:Cell→Bool) (S:List Nat) (a:Cell):Cell→Prop where
 | refl:Rch D S a a
 | step {c:Cell} {s:Nat}:Rch D S a c→s∈S→D (go c s)=true→Rch D S a (go c s)
theorem Rch.trans {D:Cell→Bool}{S:List Nat}{a b c:Cell}(h:Rch D S a b) (k:Rch D S b c):Rch D S a c:=by
 induction k with
 | refl=>exact h
 | step _ hs hd ih=>exact .step ih hs hd
theorem Rch.dom {D:Cell→Bool}{S:List Nat}{a b:Cell}(h:Rch D S a b) (ha:D a=true):D b=true:=by
 cases h with
 | refl=>exact ha
 | step _ _ hd=>exact hd
def S8:List Nat:=[0,1,2,3,4,5,6,7]
def S4:List Nat:=[0,2,4,6]
theorem ziS {s:Nat}:s∈S8 ↔ s<8:=by
 unfold S8;simp;lia
theorem ziT {s:Nat}:s∈S4 ↔ ∃ w,w<4∧s=(2*w+6) % 8:=by
 unfold S4
 simp
 constructor
 ·rintro (rfl | rfl | rfl | rfl)
  ·exact⟨1,by decide,by decide⟩
  ·exact⟨2,by decide,by decide⟩
  ·exact⟨3,by decide,by decide⟩
  ·exact⟨0,by decide,by decide⟩
 ·rintro⟨w,hw,rfl⟩
  rcases way4 hw with rfl | rfl | rfl | rfl <;> decide
theorem Closed.mem_nxt {C:Cell→Bool}{b e:Edge}{es:List Edge}(h:Closed C b es) (he:e∈es):nxt C e∈es:=by
 obtain⟨⟨h0,hs,_,_⟩,l,hl,hb⟩:=h
 obtain⟨i,hi,ei⟩:=List.getElem_of_mem he
 rcases Nat.lt_or_ge (i+1) es.length with z | z
 ·have:=hs i e es[i+1] (by rw[List.getElem?_eq_getElem hi,ei]) (List.getElem?_eq_getElem z)
  rw[← this];exact List.getElem_mem _
 ·have hi':i=es.length - 1:=by lia
  have:some e=some l:=by rw[← hl,← hi',List.getElem?_eq_getElem hi,ei]
  cases this
  rw[hb];exact List.mem_of_getElem? h0
theorem Closed.nxt_mem {C:Cell→Bool}{b e:Edge}{es:List Edge}(h:Closed C b es) (hE:IsE C e) (he:nxt C e∈es):e∈es:=by
 obtain⟨⟨h0,hs,hE',_⟩,l,hl,hb⟩:=h
 obtain⟨i,hi,ei⟩:=List.getElem_of_mem he
 cases i with
 | zero =>
  have:some (nxt C e)=some b:=by rw[← h0,List.getElem?_eq_getElem hi,ei]
  cases this
  have lm:=List.mem_of_getElem? hl
  rw[zdR hE (hE' l lm) hb.symm];exact lm
 | succ i =>
  have m:es[i]∈es:=List.getElem_mem (by lia)
  have:=hs i es[i] _ (List.getElem?_eq_getElem (by lia)) (by rw[List.getElem?_eq_getElem hi,ei])
  rw[zdR hE (hE' _ m) this];exact m
theorem Closed.ind_nxt {C:Cell→Bool}{b e:Edge}{es:List Edge}(h:Closed C b es) (hE:IsE C e):ind es (nxt C e)=ind es e:=by
 unfold ind
 by_cases z:e∈es
 ·rw[if_pos z,if_pos (h.mem_nxt z)]
 ·rw[if_neg z,if_neg fun m=>z (h.nxt_mem hE m)]
theorem zjF {C:Cell→Bool}{b:Edge}{es:List Edge}(h:Closed C b es){c:Cell}{w:Nat}(hw:w<4) (hc:C c=true) (hd:C (go c ((2*w+7) % 8))=true):wd es c=wd es (go c ((2*w+7) % 8)):=by
 have g1:gap ⟨go c ((2*w+7) % 8),(w+3) % 4⟩=gap ⟨c,w⟩:=by
  unfold gap;simp only;rw[go_go (f1 w hw)]
 have hw3:(w+3) % 4<4:=Nat.mod_lt _ (by decide)
 by_cases hg:C (gap ⟨c,w⟩)=true
 ·have a:=zeF h ⟨c,w⟩ hw (by rw[hg];exact hc)
  have d:=zeF h ⟨go c ((2*w+7) % 8),(w+3) % 4⟩ hw3 (by rw[g1,hg];exact hd)
  rw[g1] at d
  exact a.trans d.symm
 ·have hg':C (gap ⟨c,w⟩)=false:=by simpa using hg
  have hE:IsE C ⟨c,w⟩:=⟨hw,hc,hg'⟩
  rcases za4 hE with⟨_,_,q⟩ | ⟨z,_⟩ | ⟨z,_⟩
  ·have a:=zeG h hE
   have hn:=zdk hE
   have i:=h.ind_nxt hE
   have d:=zeG h hn
   rw[i] at d
   rw[q] at d
   simp only at a d
   rw[g1] at d
   exact a.trans d.symm
  ·simp only at z;rw[hd] at z;cases z
  ·simp only at z;rw[hd] at z;cases z
theorem zk6 {s:Nat}(h:s<8) (ho:s % 2=1):∃ w,w<4∧s=(2*w+7) % 8:=⟨(s+1) / 2 % 4,Nat.mod_lt _ (by decide),by lia⟩
theorem zj6 {s:Nat}(h:s<8) (ho:s % 2=0):∃ w,w<4∧s=(2*w+6) % 8:=⟨(s / 2+1) % 4,Nat.mod_lt _ (by decide),by lia⟩
theorem zjG {C:Cell→Bool}{b:Edge}{es:List Edge}(h:Closed C b es){a c:Cell}(hc:Rch C S8 a c) (ha:C a=true):wd es c=wd es a:=by
 induction hc with
 | refl=>rfl
 | @step c s k hs hd ih =>
  have hc:=k.dom ha
  have h8:=ziS.mp hs
  rw[← ih]
  rcases Nat.mod_two_eq_zero_or_one s with z | z
  ·obtain⟨w,hw,rfl⟩:=zj6 h8 z
   exact (zeF h ⟨c,w⟩ hw (hc.trans hd.symm)).symm
  ·obtain⟨w,hw,rfl⟩:=zk6 h8 z
   exact (zjF h hw hc hd).symm
abbrev no (C:Cell→Bool):Cell→Bool:=fun c=>!C c
theorem zkK {C:Cell→Bool}{b:Edge}{es:List Edge}(h:Closed C b es){a c:Cell}(hc:Rch (no C) S4 a c) (ha:C a=false):wd es c=wd es a:=by
 induction hc with
 | refl=>rfl
 | @step c s k hs hd ih =>
  have hc:=k.dom (by simp[no,ha])
  simp only[no,Bool.not_eq_true'] at hc hd
  obtain⟨w,hw,rfl⟩:=ziT.mp hs
  rw[← ih]
  exact (zeF h ⟨c,w⟩ hw (hc.trans hd.symm)).symm
theorem zjX {C:Cell→Bool}{e:Edge}(h:IsE C e):Rch C S8 e.c (nxt C e).c:=by
 have hw:=h.1
 rcases za4 h with⟨h1,_,q⟩ | ⟨h1,h2,_,q⟩ | ⟨h1,h2,_,q⟩ <;> rw[q]
 ·exact .step .refl (ziS.mpr (Nat.mod_lt _ (by decide))) h1
 ·exact .step .refl (ziS.mpr (by lia)) h2
 ·exact .refl
theorem f9:∀ w<4,mvAdd ((2*w+6) % 8) (2*w) ((2*w+7) % 8)=true:=by decide
theorem f10:∀ w<4,mvAdd ((2*w+7) % 8) ((2*w+2) % 8) (2*w)=true:=by decide
theorem zk7 {C:Cell→Bool}{e:Edge}(h:IsE C e):Rch (no C) S4 (gap e) (gap (nxt C e)):=by
 have hw:=h.1
 have s0:2*e.w∈S4:=ziT.mpr ⟨(e.w+1) % 4,Nat.mod_lt _ (by decide),by lia⟩
 have s2:(2*e.w+2) % 8∈S4:=ziT.mpr ⟨(e.w+2) % 4,Nat.mod_lt _ (by decide),by lia⟩
 rcases za4 h with⟨h1,_,q⟩ | ⟨h1,h2,_,q⟩ | ⟨h1,h2,_,q⟩ <;> rw[q]
 ·have:gap ⟨go e.c ((2*e.w+7) % 8),(e.w+3) % 4⟩=gap e:=by unfold gap;simp only;rw[go_go (f1 _ hw)]
  rw[this];exact .refl
 ·have e1:gap ⟨go e.c (2*e.w),e.w⟩=go (gap e) (2*e.w):=by unfold gap;simp only;rw[go_go (f2 _ hw),go_go (f9 _ hw)]
  rw[e1]
  refine .step .refl s0 ?_
  unfold gap;rw[go_go (f9 _ hw)];simp[no,h1]
 ·have e1 : gap ⟨e.c, (e.w + 1) % 4⟩ = go (go (gap e) (2 * e.w)) ((2 * e.w + 2) % 8) := by
   unfold gap;simp only;rw[f3 _ hw,go_go (f9 _ hw),go_go (f10 _ hw)]
  rw[e1]
  refine .step (.step .refl s0 ?_) s2 ?_
  ·unfold gap;rw[go_go (f9 _ hw)];simp[no,h1]
  ·unfold gap;rw[go_go (f9 _ hw),go_go (f10 _ hw)];simp[no,h2]
theorem Closed.reach {C:Cell→Bool}{b:Edge}{es:List Edge}(h:Closed C b es):∀ e∈es,Rch C S8 b.c e.c∧Rch (no C) S4 (gap b) (gap e):=by
 have hE:IsE C b:=h.1.2.2.1 b (List.mem_of_getElem? h.1.1)
 have k:∀ i,Rch C S8 b.c (it C b i).c∧Rch (no C) S4 (gap b) (gap (it C b i)):=by
  intro i
  induction i with
  | zero=>exact⟨.refl,.refl⟩
  | succ i ih=>exact⟨ih.1.trans (zjX (it_ok hE i)),ih.2.trans (zk7 (it_ok hE i))⟩
 intro e he
 obtain⟨i,hi,ei⟩:=List.getElem_of_mem he
 have:=h.1.get i hi
 rw[List.getElem?_eq_getElem hi,ei] at this
 cases this
 exact k i
theorem Closed.from {C:Cell→Bool}{b e:Edge}{es:List Edge}(h:Closed C b es) (he:e∈es):∃ fs,Closed C e fs∧(∀ f,f∈fs ↔ f∈es)∧(fs.map (tt C)).sum=(es.map (tt C)).sum∧∀ c,wd fs c=wd es c:=by
 obtain⟨j,hj,ej⟩:=List.getElem_of_mem he
 have h1:=h.rot j (by rw[List.getElem?_eq_getElem hj,ej])
 refine⟨_,h1,fun f=>?_,?_,fun c=>?_⟩
 ·constructor
  ·intro hf
   rcases List.mem_append.mp hf with m | m
   ·exact List.mem_of_mem_drop m
   ·exact List.mem_of_mem_take m
  ·intro hf
   rw[← List.take_append_drop j es] at hf
   rcases List.mem_append.mp hf with m | m
   ·exact List.mem_append_right _ m
   ·exact List.mem_append_left _ m
 ·rw[List.map_append,List.map_drop,List.map_take,zgm]
 ·unfold wd
  rw[List.map_append,List.map_drop,List.map_take,zgm]
theorem zcM {es:List Edge}{c:Cell}(h:∀ e∈es,e.w=1∨e.w=3→¬ (e.c.2=c.2∧c.1<px e)):wd es c=0:=by
 unfold wd
 induction es with
 | nil=>rfl
 | cons a r ih =>
  have ih':=ih fun e he=>h e (List.mem_cons_of_mem _ he)
  have h1:=h a List.mem_cons_self
  simp only[List.map_cons,List.sum_cons,ih']
  unfold wc dy
  split
  ·rename_i q
   split
   ·rename_i w1;exact absurd q (h1 (.inl w1))
   ·split
    ·rename_i w3;exact absurd q (h1 (.inr w3))
    ·rfl
  ·rfl
theorem Closed.inside {C : Cell → Bool}{b : Edge}{es : List Edge}(h : Closed C b es) :
  ((es.map (tt C)).sum=4∧∀ e∈es,wd es e.c=1∧wd es (gap e)=0)∨((es.map (tt C)).sum=-4∧∀ e∈es,wd es e.c=0∧wd es (gap e)=-1):=by
 have hp:=h.pos
 obtain⟨a,ha,q⟩:=zcP es (by intro z;rw[z] at hp;simp at hp)
 obtain⟨fs,h1,hm,hs,hv⟩:=h.from ha
 have lw:=h1.least_way fun f hf=>q f ((hm f).mp hf)
 rw[hs] at lw
 have hE:IsE C a:=h.1.2.2.1 a ha
 have all:∀ {u v:Int},wd es a.c=u→wd es (gap a)=v→∀ e∈es,wd es e.c=u∧wd es (gap e)=v:=fun hu hv e he=>by
  obtain⟨r1,r2⟩:=h1.reach e ((hm e).mpr he)
  exact⟨(zjG h r1 hE.2.1).trans hu,(zkK h r2 hE.2.2).trans hv⟩
 have cr:=zeG h hE
 have i1:ind es a=1:=by unfold ind;rw[if_pos ha]
 rw[i1] at cr
 rcases lw with⟨w,s⟩ | ⟨w,s⟩
 ·left
  have z:wd es (gap a)=0:=zcM fun e he hw ⟨k1,k2⟩=>by
   have:=(q e he).1
   obtain⟨⟨x,y⟩,v⟩:=a
   simp only at w
   subst w
   obtain⟨⟨x',y'⟩,v'⟩:=e
   simp only at hw
   rcases hw with rfl | rfl <;> simp[gap,go,mv,px,py,eV,bv] at this k1 k2 <;> lia
  exact⟨s,all (by lia) z⟩
 ·right
  have z:wd es a.c=0:=zcM fun e he hw ⟨k1,k2⟩=>by
   have:=(q e he).1
   obtain⟨⟨x,y⟩,v⟩:=a
   simp only at w
   subst w
   obtain⟨⟨x',y'⟩,v'⟩:=e
   simp only at hw
   rcases hw with rfl | rfl <;> simp[px,py,eV,bv] at this k1 k2 <;> lia
  exact⟨s,all z (by lia)⟩
theorem zh4 {C:Cell→Bool}{b:Edge}{es:List Edge}(h:Closed C b es){c:Cell}(hl:∀ e∈es,e.w=1∨e.w=3→e.c.2=c.2→c.1<px e):wd es c=0:=by
 have t:=h.tele (G:=fun e=>if c.2<py e then (1:Int) else 0) (g:=wc c) (fun e he=>by
  obtain⟨_,q⟩:=zfL (h.1.2.2.1 e he)
  have hw:=(h.1.2.2.1 e he).1
  have hl':=hl e he
  rw[q]
  unfold wc
  obtain⟨⟨x,y⟩,v⟩:=e
  simp only at hw
  rcases way4 hw with rfl | rfl | rfl | rfl <;> simp[px,py,dy] at hl' ⊢ <;> (repeat' split) <;> lia)
 exact t
theorem zke {C:Cell→Bool}{b:Edge}{es:List Edge}(h:Closed C b es){c:Cell}(hz:wd es c≠0):∃ e∈es,∃ f∈es,e.c.2=c.2∧f.c.2=c.2∧px e≤c.1∧c.1<px f∧(e.w=1∨e.w=3)∧(f.w=1∨f.w=3):=by
 apply Classical.byContradiction
 intro hn
 by_cases k:∃ f∈es,f.c.2=c.2∧c.1<px f∧(f.w=1∨f.w=3)
 ·obtain⟨f,hf,k1,k2,k3⟩:=k
  apply hz
  refine zh4 h fun e he hw hr=>?_
  rcases Int.lt_or_le c.1 (px e) with z | z
  ·exact z
  ·exact absurd ⟨e,he,f,hf,hr,k1,z,k2,hw,k3⟩ hn
 ·apply hz
  exact zcM fun e he hw ⟨k1,k2⟩=>k ⟨e,he,k1,k2,hw⟩
structure BoxOf (P:List Cell) (l lo r hi:Int):Prop where
 all:∀ c∈P,l<c.1∧c.1<r∧lo<c.2∧c.2<hi
 bot:∃ c∈P,c.2=lo+1
def inBox (l lo r hi:Int) (c:Cell):Prop:=l≤c.1∧c.1≤r∧lo≤c.2∧c.2≤hi
structure FreeOf (D:Cell→Bool) (P:List Cell) (l lo r hi:Int):Prop where
 iff:∀ c,D c=true ↔ (inBox l lo r hi c∧c ∉ P)
section
variable {C D:Cell→Bool}{b:Edge}{es:List Edge}{P:List Cell}{l lo r hi:Int}
theorem wd_01 (h:Closed C b es) (hs:(es.map (tt C)).sum=4) (c:Cell):wd es c=0∨wd es c=1:=by
 have ins:∀ e∈es,wd es e.c=1∧wd es (gap e)=0:=by
  rcases h.inside with⟨_,k⟩ | ⟨s,_⟩
  ·exact k
  ·lia
 have r:=zcV (fun e he=>(h.1.2.2.1 e he).1) h.1.2.2.2
 have far:∃ M:Int,∀ e∈es,px e≤M:=by
  generalize es=l
  induction l with
  | nil=>exact⟨0,fun e he=>by cases he⟩
  | cons a l ih =>
   obtain⟨M,hM⟩:=ih
   exact⟨max M (px a),fun e he=>by
    rcases List.mem_cons.mp he with rfl | he
    ·lia
    ·have:=hM e he;lia⟩
 obtain⟨M,hM⟩:=far
 have k:∀ (n:Nat) (x y:Int),M - x≤n→wd es (x,y)=0∨wd es (x,y)=1:=by
  intro n
  induction n with
  | zero =>
   intro x y hx
   exact .inl (zcM fun e he _ ⟨_,k2⟩=>by have:=hM e he;simp only at k2;lia)
  | succ n ih =>
   intro x y hx
   have i:=ih (x+1) y (by lia)
   have rr:=r x y
   by_cases m1:⟨(x,y),1⟩∈es
   ·exact .inr (ins _ m1).1
   by_cases m3:⟨(x+1,y),3⟩∈es
   ·have:=(ins _ m3).2
    rw[show gap ⟨(x+1,y),3⟩=(x,y) by simp[gap,go,mv];lia] at this
    exact .inl this
   ·unfold ind at rr
    rw[if_neg m1,if_neg m3] at rr
    rcases i with i | i
    ·left;lia
    ·right;lia
 exact k (M - c.1).toNat c.1 c.2 (by lia)
theorem wd_0m (h:Closed C b es) (hs:(es.map (tt C)).sum=-4) (c:Cell):wd es c=0∨wd es c=-1:=by
 have ins:∀ e∈es,wd es e.c=0∧wd es (gap e)=-1:=by
  rcases h.inside with⟨s,_⟩ | ⟨_,k⟩
  ·lia
  ·exact k
 have r:=zcV (fun e he=>(h.1.2.2.1 e he).1) h.1.2.2.2
 have far:∃ M:Int,∀ e∈es,px e≤M:=by
  generalize es=l
  induction l with
  | nil=>exact⟨0,fun e he=>by cases he⟩
  | cons a l ih =>
   obtain⟨M,hM⟩:=ih
   exact⟨max M (px a),fun e he=>by
    rcases List.mem_cons.mp he with rfl | he
    ·lia
    ·have:=hM e he;lia⟩
 obtain⟨M,hM⟩:=far
 have k:∀ (n:Nat) (x y:Int),M - x≤n→wd es (x,y)=0∨wd es (x,y)=-1:=by
  intro n
  induction n with
  | zero =>
   intro x y hx
   exact .inl (zcM fun e he _ ⟨_,k2⟩=>by have:=hM e he;simp only at k2;lia)
  | succ n ih =>
   intro x y hx
   have i:=ih (x+1) y (by lia)
   have rr:=r x y
   by_cases m1:⟨(x,y),1⟩∈es
   ·exact .inl (ins _ m1).1
   by_cases m3:⟨(x+1,y),3⟩∈es
   ·have:=(ins _ m3).2
    rw[show gap ⟨(x+1,y),3⟩=(x,y) by simp[gap,go,mv];lia] at this
    exact .inr this
   ·unfold ind at rr
    rw[if_neg m1,if_neg m3] at rr
    rcases i with i | i
    ·left;lia
    ·right;lia
 exact k (M - c.1).toNat c.1 c.2 (by lia)
end
end RP
def fillT:List Int→List Int
 | a::b::r=>(List.range (b - a).toNat).map (fun i:Nat=>a+(i:Int))++fillT r
 | _=>[]
theorem zfY {k : Int}(hk : k ≠ 0) : ∀ (T : List Int) (f : Int → Int), T.Pairwise (· < ·) → (∀ x, (∀ t ∈ T, x < t) → f x = 0) → (∀ x, (∀ t ∈ T, t ≤ x) → f x = 0) → (∀ x, x ∈ T ↔ f (x - 1) ≠ f x) → (∀ x, f x = 0 ∨ f x = k) →
    T.length % 2=0∧(∀ x,x∈fillT T ↔ f x≠0)∧(fillT T).Pairwise (·<·)∧∀ x∈fillT T,∀ t,T.head?=some t→t≤x
  | [],f,_,h0,_,_,_=>⟨rfl,fun x=>⟨fun h=>(nomatch h),fun h=>absurd (h0 x fun _ h=>(nomatch h)) h⟩,.nil,fun _ h=>(nomatch h)⟩
  | [t],f,_,h0,h1,hT,_=>by
    have e0:f (t - 1)=0:=h0 _ fun u hu=>by rw[List.mem_singleton.mp hu];lia
    have e1:f t=0:=h1 _ fun u hu=>by rw[List.mem_singleton.mp hu];exact Int.le_refl _
    exact absurd (e0.trans e1.symm) ((hT t).mp (List.mem_singleton.mpr rfl))
  | a::b::r,f,hp,h0,h1,hT,h2=>by
    obtain⟨pa,pr'⟩:=List.pairwise_cons.mp hp
    obtain⟨pb,pr⟩:=List.pairwise_cons.mp pr'
    have hab:a<b:=pa b List.mem_cons_self
    have e0:f (a - 1)=0:=h0 _ fun u hu=>by
      rcases List.mem_cons.mp hu with rfl | hu
      · lia
      · have:=pa u hu;lia
    have ea:f a=k:=by
      have:=(hT a).mp List.mem_cons_self
      rcases h2 a with q | q
      · lia
      · exact q
    have mid:∀ n:Nat,a+(n:Int)<b→f (a+n)=k:=by
      intro n
      induction n with
      | zero=>intro _;simpa using ea
      | succ m ih =>
        intro hm
        have hq:=ih (by lia)
        have hn:¬ (a+((m+1:Nat):Int))∈a::b::r:=fun z=>by
          rcases List.mem_cons.mp z with z | z
          · lia
          rcases List.mem_cons.mp z with z | z
          · lia
          · have:=pb _ z;lia
        have:=mt (hT _).mpr hn
        have e:a+((m+1:Nat):Int) - 1=a+(m:Int):=by lia
        rw[e,hq] at this
        exact (Classical.not_not.mp this).symm
    have mid':∀ x,a≤x→x<b→f x=k:=fun x h1 h2=>by
      have:=mid (x - a).toNat (by lia)
      rwa [show a+((x - a).toNat:Int)=x by lia] at this
    have eb:f b=0:=by
      have:=(hT b).mp (by simp)
      rw[mid' (b - 1) (by lia) (by lia)] at this
      rcases h2 b with q | q
      · exact q
      · exact absurd q.symm this
    have low:∀ x,x<a→f x=0:=fun x hx=>h0 x fun u hu=>by
      rcases List.mem_cons.mp hu with rfl | hu
      · exact hx
      · have:=pa u hu;lia
    obtain⟨i1, i2, i3, i4⟩ := zfY hk r (fun x => if x < b then 0 else f x) pr (fun x hx => by
        by_cases q:x<b
        · simp[q]
        · simp only[q,if_false]
          have gb:∀ n:Nat,b+(n:Int)≤x→f (b+n)=0:=by
            intro n
            induction n with
            | zero=>intro _;simpa using eb
            | succ m ih =>
              intro hm
              have hq:=ih (by lia)
              have hn:¬ (b+((m+1:Nat):Int))∈a::b::r:=fun z=>by
                rcases List.mem_cons.mp z with z | z
                · lia
                rcases List.mem_cons.mp z with z | z
                · lia
                · have:=hx _ z;lia
              have:=mt (hT _).mpr hn
              have e:b+((m+1:Nat):Int) - 1=b+(m:Int):=by lia
              rw[e,hq] at this
              exact (Classical.not_not.mp this).symm
          have:=gb (x - b).toNat (by lia)
          rwa [show b+((x - b).toNat:Int)=x by lia] at this)
      (fun x hx=>by
        by_cases q:x<b
        · simp[q]
        · simp only[q,if_false]
          refine h1 x fun u hu=>?_
          rcases List.mem_cons.mp hu with rfl | hu
          · lia
          rcases List.mem_cons.mp hu with rfl | hu
          · lia
          · exact hx u hu)
      (fun x=>by
        have m:x∈a::b::r ↔ x=a∨x=b∨x∈r:=by simp
        have hx:=hT x
        rw[m] at hx
        by_cases q:x<b
        · have:¬ x∈r:=fun z=>by have:=pb x z;lia
          simp[q,show x - 1<b by lia,this]
        · by_cases q2:x=b
          · subst q2
            have:¬ x∈r:=fun z=>by have:=pb x z;lia
            simp[eb,this,show x - 1<x by lia]
          · have n1:¬ x - 1<b:=by lia
            simp only[q,n1,if_false]
            rw[← hx]
            exact⟨fun z=>.inr (.inr z),fun z=>by rcases z with z | z | z;lia;exact absurd z q2;exact z⟩)
      (fun x=>by
        by_cases q:x<b
        · simp[q]
        · simp only[q,if_false];exact h2 x)
    have inR:∀ x,x∈(List.range (b - a).toNat).map (fun i:Nat=>a+(i:Int)) ↔ a≤x∧x<b:=fun x=>by
      simp only[List.mem_map,List.mem_range]
      exact⟨fun⟨n,hn,e⟩=>by lia,fun⟨h1,h2⟩=>⟨(x - a).toNat,by lia,by lia⟩⟩
    have gt:∀ x∈fillT r,b≤x:=fun x hx=>by
      have:=(i2 x).mp hx
      by_cases q:x<b
      · simp[q] at this
      · lia
    refine⟨by simp only[List.length_cons];lia,fun x=>?_,?_,fun x hx t ht=>?_⟩
    · show x∈_++fillT r ↔ _
      rw[List.mem_append,inR]
      by_cases q:x<b
      · constructor
        · rintro (⟨z,_⟩ | z)
          · rw[mid' x z q];exact hk
          · exact absurd (gt x z) (by lia)
        · intro z
          refine .inl ⟨?_,q⟩
          by_cases qa:a≤x
          · exact qa
          · exact absurd (low x (by lia)) z
      · rw[i2 x]
        simp only[q,and_false,false_or,if_false]
    · show List.Pairwise (·<·) (_++fillT r)
      rw[List.pairwise_append]
      refine⟨?_,i3,fun x hx y hy=>?_⟩
      · rw[List.pairwise_map]
        exact List.pairwise_lt_range.imp fun h=>by lia
      · have:=(inR x).mp hx
        have:=gt y hy
        lia
    · cases ht
      rcases List.mem_append.mp hx with z | z
      · exact ((inR x).mp z).1
      · have:=gt x z;lia
namespace RP
def isUp (y:Int) (e:Edge):Bool:=(e.w == 1 || e.w == 3) && e.c.2 == y
def upr (es:List Edge) (y:Int):List Int:=(es.filter (isUp y)).map px
theorem zcb {y:Int}{e:Edge}:isUp y e=true ↔ (e.w=1∨e.w=3)∧e.c.2=y:=by simp[isUp]
theorem zkf {C:Cell→Bool}{b:Edge}{es:List Edge}(h:Closed C b es){y:Int}{e f:Edge}(he:e∈es) (hf:f∈es) (ue:isUp y e=true) (uf:isUp y f=true) (hp:px e=px f):e=f:=by
 obtain⟨w1,y1⟩:=zcb.mp ue
 obtain⟨w2,y2⟩:=zcb.mp uf
 obtain⟨⟨ex,ey⟩,ew⟩:=e
 obtain⟨⟨fx,fy⟩,fw⟩:=f
 have e1:=(h.1.2.2.1 _ he).2
 have f1:=(h.1.2.2.1 _ hf).2
 simp only at w1 w2 y1 y2
 subst y1
 subst y2
 rcases w1 with rfl | rfl <;> rcases w2 with rfl | rfl <;> simp[px] at hp
 ·subst hp;rfl
 ·exfalso
  simp[gap,go,mv] at e1 f1
  rw[← hp,e1.2] at f1
  cases f1.1
 ·exfalso
  simp[gap,go,mv] at e1 f1
  rw[hp,f1.2] at e1
  cases e1.1
 ·subst hp;rfl
theorem zfs {C:Cell→Bool}{b:Edge}{es:List Edge}(h:Closed C b es) (y:Int):(upr es y).Nodup:=by
 unfold upr
 rw[List.Nodup,List.pairwise_map]
 have nd:(es.filter (isUp y)).Nodup:=h.1.2.2.2.filter _
 refine (List.Pairwise.imp_of_mem (fun {e f} he hf hne=>?_) nd)
 have m1:=List.mem_filter.mp he
 have m2:=List.mem_filter.mp hf
 exact fun hp=>hne (zkf h m1.1 m2.1 m1.2 m2.2 hp)
theorem zla {C:Cell→Bool}{b:Edge}{es:List Edge}(h:Closed C b es) (x y:Int):x∈upr es y ↔ wd es (x - 1,y)≠wd es (x,y):=by
 have hr:=zcV (fun e he=>(h.1.2.2.1 e he).1) h.1.2.2.2 (x - 1) y
 rw[show x - 1+1=x by lia] at hr
 have m:x∈upr es y ↔ (⟨(x - 1,y),1⟩:Edge)∈es∨(⟨(x,y),3⟩:Edge)∈es:=by
  unfold upr
  rw[List.mem_map]
  constructor
  ·rintro⟨⟨⟨ex,ey⟩,ew⟩,he,hp⟩
   obtain⟨m1,m2⟩:=List.mem_filter.mp he
   obtain⟨w1,y1⟩:=zcb.mp m2
   simp only at w1 y1
   subst y1
   rcases w1 with rfl | rfl
   ·simp[px] at hp
    refine .inl ?_
    rw[show x - 1=ex by lia];exact m1
   ·simp[px] at hp
    refine .inr ?_
    rw[← hp];exact m1
  ·rintro (m | m)
   ·exact⟨_,List.mem_filter.mpr ⟨m,by simp[isUp]⟩,by simp[px]⟩
   ·exact⟨_,List.mem_filter.mpr ⟨m,by simp[isUp]⟩,by simp[px]⟩
 rw[m]
 unfold ind at hr
 by_cases q1:(⟨(x - 1,y),1⟩:Edge)∈es <;> by_cases q2:(⟨(x,y),3⟩:Edge)∈es <;> simp only[q1,q2,if_true,if_false] at hr <;> simp[q1,q2]
 ·exfalso
  have:=zkf (y:=y) h q1 q2 (by simp[isUp]) (by simp[isUp]) (by simp[px])
  have:=congrArg Edge.w this
  simp at this
 ·lia
 ·lia
 ·lia
theorem zeT {C : Cell → Bool}{b : Edge}{es : List Edge}(h : Closed C b es) (hs : (es.map (tt C)).sum = 4 ∨ (es.map (tt C)).sum = -4){y : Int}{T : List Int}(hp : T.Perm (upr es y)) (ht : T.Pairwise (· ≤ ·)) :
  T.length % 2=0∧(∀ x,x∈fillT T ↔ wd es (x,y)≠0)∧(fillT T).Pairwise (·<·):=by
 have nd:T.Nodup:=hp.nodup_iff.mpr (zfs h y)
 have st:T.Pairwise (·<·):=by
  refine List.Pairwise.imp (R:=fun a b:Int=>a≤b∧a≠b) (fun {a b} q=>by lia) (ht.and nd)
 have mem:∀ x,x∈T ↔ wd es (x - 1,y)≠wd es (x,y):=fun x=>by rw[hp.mem_iff];exact zla h x y
 have pxT:∀ e∈es,e.w=1∨e.w=3→e.c.2=y→px e∈T:=fun e he w1 y1=>hp.mem_iff.mpr (List.mem_map.mpr ⟨e,List.mem_filter.mpr ⟨he,zcb.mpr ⟨w1,y1⟩⟩,rfl⟩)
 obtain⟨k,hk,h2⟩:∃ k:Int,k≠0∧∀ c,wd es c=0∨wd es c=k:=by
  rcases hs with hs | hs
  ·exact⟨1,by decide,wd_01 h hs⟩
  ·exact⟨-1,by decide,wd_0m h hs⟩
 obtain⟨a1,a2,a3,_⟩:=zfY hk T (fun x=>wd es (x,y)) st (fun x hx=>zh4 h fun e he w1 y1=>hx _ (pxT e he w1 y1)) (fun x hx=>zcM fun e he w1 z=>by
  have:=hx _ (pxT e he w1 z.1)
  have:=z.2
  simp only at this
  lia) mem fun x=>h2 (x,y)
 exact⟨a1,a2,a3⟩
def zbw (s:Nat):Nat:=(s+1) / 2 % 4
def wayB (s:Nat):Nat:=(zbw s+4 - s % 2) % 4
def dgo:Nat→List Nat→List (Option Nat)×Nat
 | w,[]=>([],w)
 | w,s::r=>(List.replicate ((zbw s+4 - w) % 4) none++some s::(dgo (wayB s) r).1,(dgo (wayB s) r).2)
def zaM (w:Nat) (row:List Nat):Nat:=if row.isEmpty then 4 else (w+4 - (dgo w row).2) % 4
def deeds (w:Nat) (row:List Nat):List (Option Nat):=(dgo w row).1++List.replicate (zaM w row) none
theorem zjJ {C:Cell→Bool}{e:Edge}(h:IsE C e){s:Nat}(hs:stepB C e=some s):zbw s=e.w∧wayB s=(nxt C e).w∧s<8:=by
 have hw:=h.1
 rcases za4 h with⟨_,q,n⟩ | ⟨_,_,q,n⟩ | ⟨_,_,q,n⟩ <;> rw[n] <;> rw[q] at hs <;> cases hs <;> unfold wayB zbw <;> simp only <;> rcases way4 hw with r | r | r | r <;> rw[r] <;> decide
theorem zha {C:Cell→Bool}{e:Edge}(h:IsE C e) (hs:stepB C e=none):nxt C e=⟨e.c,(e.w+1) % 4⟩:=by
 rcases za4 h with⟨_,q,n⟩ | ⟨_,_,q,n⟩ | ⟨_,_,q,n⟩
 ·rw[q] at hs;cases hs
 ·rw[q] at hs;cases hs
 ·exact n
def zkG (C:Cell→Bool) (es:List Edge):Prop:=∀ i,¬ ∀ m,m<4→∃ e,es[i+m]?=some e∧stepB C e=none
theorem zff {C : Cell → Bool}{b : Edge}{es : List Edge}(h : Chain C b es) (hE : IsE C b) (nf : zkG C es) : ∀ (n p j w : Nat), es.length - p = n → p ≤ es.length → j ≤ 3 → j ≤ p → w < 4 → (∀ m, m < j → ∃ e, es[p - 1 - m]? = some e ∧ stepB C e = none) →
    (it C b p).w=(w+j) % 4→∃ t,t≤3∧List.replicate j none++(es.drop p).map (stepB C)=(dgo w (((es.drop p).map (stepB C)).filterMap id)).1++List.replicate t none ∧
      ((dgo w (((es.drop p).map (stepB C)).filterMap id)).2+t) % 4=(it C b es.length).w∧(dgo w (((es.drop p).map (stepB C)).filterMap id)).2<4
  | 0,p,j,w,hn,hp,hj,hjp,hw,hl,hway=>by
    have e:es.drop p=[]:=List.drop_eq_nil_iff.mpr (by lia)
    have hpe:p=es.length:=by lia
    rw[e,← hpe]
    exact⟨j,hj,by simp[dgo],hway.symm,hw⟩
  | n+1,p,j,w,hn,hp,hj,hjp,hw,hl,hway=>by
    have hlt:p<es.length:=by lia
    have hd:es.drop p=es[p]::es.drop (p+1):=List.drop_eq_getElem_cons hlt
    have hg:=h.get p hlt
    rw[List.getElem?_eq_getElem hlt] at hg
    have hg':es[p]=it C b p:=Option.some.inj hg
    have hEp:IsE C (it C b p):=it_ok hE p
    rw[hd,hg']
    cases hs:stepB C (it C b p) with
    | none =>
      have hj3:j+1≤3:=by
        rcases Nat.lt_or_ge j 3 with q | q
        · lia
        · exfalso
          have j3:j=3:=by lia
          subst j3
          refine nf (p - 3) fun m hm=>?_
          rcases Nat.lt_or_ge m 3 with a | a
          · obtain⟨e,h1,h2⟩:=hl (2 - m) (by lia)
            exact⟨e,by rw[← h1];congr 1;lia,h2⟩
          · have:m=3:=by lia
            subst this
            exact⟨_,by rw[show p - 3+3=p by lia,List.getElem?_eq_getElem hlt,hg'],hs⟩
      have hnx:=zha hEp hs
      obtain⟨t, t3, q1, q2, q3⟩ := zff h hE nf n (p + 1) (j + 1) w (by lia) (by lia) hj3 (by lia) hw (fun m hm => by
          cases m with
          | zero=>exact⟨_,by rw[show p+1 - 1 - 0=p by lia,List.getElem?_eq_getElem hlt,hg'],hs⟩
          | succ m =>
            obtain⟨e,h1,h2⟩:=hl m (by lia)
            exact⟨e,by rw[← h1];congr 1;lia,h2⟩) (by
          show (nxt C (it C b p)).w=_
          rw[hnx]
          simp only
          rw[hway];lia)
      refine⟨t,t3,?_,?_,?_⟩
      · simp only[List.map_cons,hs]
        rw[show (none::(es.drop (p+1)).map (stepB C)).filterMap id=((es.drop (p+1)).map (stepB C)).filterMap id from rfl,← q1,List.replicate_succ']
        simp
      · simp only[List.map_cons,hs];exact q2
      · simp only[List.map_cons,hs];exact q3
    | some s =>
      obtain⟨w1,w2,_⟩:=zjJ hEp hs
      have hwB:wayB s<4:=Nat.mod_lt _ (by decide)
      obtain⟨t, t3, q1, q2, q3⟩ := zff h hE nf n (p + 1) 0 (wayB s) (by lia) (by lia) (by lia) (by lia) hwB (fun m hm => by lia) (by
          show (nxt C (it C b p)).w=_
          rw[w2,Nat.add_zero]
          have:=(zdk hEp).1
          lia)
      refine⟨t,t3,?_,?_,?_⟩
      · simp only[List.map_cons,hs]
        rw[show (some s::(es.drop (p+1)).map (stepB C)).filterMap id=s::((es.drop (p+1)).map (stepB C)).filterMap id from rfl]
        show _=(List.replicate ((zbw s+4 - w) % 4) none++some s::(dgo (wayB s) _).1)++List.replicate t none
        have hk:(zbw s+4 - w) % 4=j:=by rw[w1,hway];lia
        rw[hk]
        have q1':(es.drop (p+1)).map (stepB C)=(dgo (wayB s) (((es.drop (p+1)).map (stepB C)).filterMap id)).1++List.replicate t none:=by simpa using q1
        rw[List.append_assoc,List.cons_append,← q1']
      · simp only[List.map_cons,hs];exact q2
      · simp only[List.map_cons,hs];exact q3
theorem zfd {C:Cell→Bool}{b:Edge}(hE:IsE C b){i:Nat}:∀ m,(∀ q,q<m→stepB C (it C b (i+q))=none)→it C b (i+m)=⟨(it C b i).c,((it C b i).w+m) % 4⟩
 | 0,_=>by
  have:=(it_ok hE i).1
  show it C b i=_
  rw[Nat.add_zero,Nat.mod_eq_of_lt this]
 | m+1,h=>by
  have ih:=zfd hE m fun q hq=>h q (by lia)
  show nxt C (it C b (i+m))=_
  rw[zha (it_ok hE (i+m)) (h m (by lia)),ih]
  simp only[Edge.mk.injEq,true_and]
  lia
theorem Closed.deeds {C:Cell→Bool}{b:Edge}{es:List Edge}(h:Closed C b es):es.map (stepB C)=RP.deeds b.w ((es.map (stepB C)).filterMap id):=by
 have hE:IsE C b:=h.1.2.2.1 b (List.mem_of_getElem? h.1.1)
 have hp:=h.pos
 have hl:=h.it_len
 have four:∀ i,(∀ m,m<4→∃ e,es[i+m]?=some e∧stepB C e=none)→i=0∧es.length=4:=fun i hi=>by
  have hi3:i+3<es.length:=by obtain⟨e,h1,_⟩:=hi 3 (by decide);exact (List.getElem?_eq_some_iff.mp h1).1
  have st:∀ q,q<4→stepB C (it C b (i+q))=none:=fun q hq=>by
   obtain⟨e,h1,h2⟩:=hi q hq
   rw[h.1.get (i+q) (by lia)] at h1
   cases h1;exact h2
  have e4:=zfd hE 4 st
  have e4':it C b (i+4)=it C b i:=by
   rw[e4]
   have:=(it_ok hE i).1
   rw[show ((it C b i).w+4) % 4=(it C b i).w by lia]
  rcases Nat.lt_or_ge (i+4) es.length with q | q
  ·exfalso
   have:=(List.getElem?_inj (i:=i) (j:=i+4) (by lia) h.1.2.2.2).mp (by rw[h.1.get i (by lia),h.1.get (i+4) q,e4'])
   lia
  ·have hn:es.length=i+4:=by lia
   rw[← hn,hl] at e4'
   have:=(List.getElem?_inj (i:=0) (j:=i) (by lia) h.1.2.2.2).mp (by rw[h.1.get 0 hp,h.1.get i (by lia),← e4'];rfl)
   lia
 by_cases hr:(es.map (stepB C)).filterMap id=[]
 ·have all : ∀ i, i < es.length → stepB C (it C b i) = none := fun i hi => by
   have hg:=h.1.get i hi
   cases hs:stepB C (it C b i) with
   | none=>rfl
   | some s =>
    exfalso
    have:s∈(es.map (stepB C)).filterMap id:=List.mem_filterMap.mpr ⟨some s,List.mem_map.mpr ⟨_,List.mem_of_getElem? hg,hs⟩,rfl⟩
    rw[hr] at this;cases this
  have hn4:es.length=4:=by
   have el:=zfd hE (i:=0) es.length (fun q hq=>by rw[Nat.zero_add];exact all q hq)
   rw[Nat.zero_add,hl] at el
   have ew:=congrArg Edge.w el
   have hw:=hE.1
   change b.w=(b.w+es.length) % 4 at ew
   have h4:4≤es.length:=by lia
   refine (four 0 fun m hm=>⟨it C b m,?_,all m (by lia)⟩).2
   rw[Nat.zero_add];exact h.1.get m (by lia)
  rw[hr]
  show _=(dgo b.w []).1++List.replicate 4 none
  apply List.ext_getElem?
  intro i
  rcases Nat.lt_or_ge i 4 with q | q
  ·rw[List.getElem?_map,h.1.get i (by lia),Option.map_some,all i (by lia)]
   show _=(List.replicate 4 (none:Option Nat))[i]?
   rw[List.getElem?_replicate,if_pos q]
  ·rw[List.getElem?_eq_none (by rw[List.length_map];lia),List.getElem?_eq_none (by simp[dgo];lia)]
 ·have nf : zkG C es := fun i hi => by
   obtain⟨_,h4⟩:=four i hi
   have hi0:=(four i hi).1
   subst hi0
   apply hr
   apply List.filterMap_eq_nil_iff.mpr
   intro o ho
   obtain⟨e,he,rfl⟩:=List.mem_map.mp ho
   obtain⟨j,hj,ej⟩:=List.getElem_of_mem he
   obtain⟨f,h1,h2⟩:=hi j (by lia)
   rw[Nat.zero_add,List.getElem?_eq_getElem hj,ej] at h1
   cases h1
   exact h2
  obtain⟨t,t3,q1,q2,q3⟩:=zff h.1 hE nf es.length 0 0 b.w (by lia) (by lia) (by lia) (by lia) hE.1 (fun m hm=>by lia) (by
   show b.w=_
   have:=hE.1
   lia)
  rw[List.drop_zero] at q1 q2 q3
  rw[hl] at q2
  have ht:zaM b.w ((es.map (stepB C)).filterMap id)=t:=by
   unfold zaM
   rw[if_neg (by simpa using hr)]
   have:=hE.1
   lia
  unfold RP.deeds
  rw[ht]
  simpa using q1
end RP
namespace L2
open PySem RP
theorem zgQ {es:List Edge}{e:Edge}(y:Int):upr (es++[e]) y=if isUp y e=true then upr es y++[px e] else upr es y:=by
 unfold upr
 rw[List.filter_append,List.map_append]
 by_cases h:isUp y e=true
 ·simp[h]
 ·simp[h]
structure UD (H0 H:Hp) (a:Addr) (es:List Edge) (kvs:List (Key×V)) (B:Int→Addr):Prop where
 dict:H a=some (.dK kvs)
 new:H0 a=none
 same:Same H0 H
 len:kvs.length≤es.length
 nd:(kvs.map (·.1)).Nodup
 keys:∀ k∈kvs.map (·.1),∃ y,k=Sum.inl y∧upr es y≠[]
 at_:∀ y,upr es y≠[]→valV kvs (.inl y)=some (.ref (B y))∧H (B y)=some (.lst ((upr es y).map V.int))∧H0 (B y)=none∧B y≠a
 inj:∀ y z,upr es y≠[]→upr es z≠[]→B y=B z→y=z
 no:∀ y,upr es y=[]→valV kvs (.inl y)=none
theorem UD.start {H0:Hp}{a:Addr}(h:H0 a=none):UD H0 (upd H0 a (.dK [])) a [] [] fun _=>0 where
 dict:=zaa
 new:=h
 same:=fun b u e=>by rw[zaj (zar e h)];exact e
 len:=Nat.le_refl _
 nd:=.nil
 keys:=fun _ h=>(nomatch h)
 at_:=fun y h=>absurd rfl h
 inj:=fun y z h=>absurd rfl h
 no:=fun _ _=>rfl
variable {H0 H:Hp}{a z:Addr}{es:List Edge}{e:Edge}{kvs:List (Key×V)}{B:Int→Addr}
theorem UD.skip (h:UD H0 H a es kvs B) (hw:¬ (e.w=1∨e.w=3)):UD H0 H a (es++[e]) kvs B:=by
 have u:∀ y,upr (es++[e]) y=upr es y:=fun y=>by
  rw[zgQ,if_neg (fun q=>hw (zcb.mp q).1)]
 exact⟨h.dict,h.new,h.same,by rw[List.length_append];exact Nat.le_succ_of_le h.len,h.nd,fun k hk=>by obtain⟨y,q,r⟩:=h.keys k hk;exact⟨y,q,by rw[u];exact r⟩,
  fun y hy=>by rw[u] at hy ⊢;exact h.at_ y hy,fun y z hy hz=>h.inj y z (by rwa [u] at hy) (by rwa [u] at hz),fun y hy=>h.no y (by rwa [u] at hy)⟩
theorem zh9 (hw:e.w=1∨e.w=3) (y:Int):upr (es++[e]) y=if y=e.c.2 then upr es y++[px e] else upr es y:=by
 rw[zgQ]
 by_cases q:y=e.c.2
 ·rw[if_pos (zcb.mpr ⟨hw,q.symm⟩),if_pos q]
 ·rw[if_neg (fun z=>q (zcb.mp z).2.symm),if_neg q]
theorem UD.more (h : UD H0 H a es kvs B) (hw : e.w = 1 ∨ e.w = 3) (hz : H z = none) (hy : upr es e.c.2 ≠ []) :
  UD H0 (upd (upd H z (.lst [])) (B e.c.2) (.lst ((upr es e.c.2).map V.int++[.int (px e)]))) a (es++[e]) kvs B:=by
 obtain⟨a1,a2,a3,a4⟩:=h.at_ _ hy
 have u:=zh9 (es:=es) hw
 have nz:∀ {b o},H b=some o→b≠z:=fun q w=>by rw[w,hz] at q;cases q
 have ne:∀ y,upr (es++[e]) y≠[] ↔ upr es y≠[]:=fun y=>by
  rw[u]
  by_cases q:y=e.c.2
  ·subst q;simp[hy]
  ·simp[q]
 refine⟨?_,h.new,fun b o q=>?_,by rw[List.length_append];exact Nat.le_succ_of_le h.len,h.nd,fun k hk=>?_,fun y hy'=>?_,fun y z' h1 h2=>h.inj y z' ((ne y).mp h1) ((ne z').mp h2),fun y hy'=>h.no y ?_⟩
 ·rw[zaj a4.symm,zaj (nz h.dict)];exact h.dict
 ·have q':=h.same b o q
  rw[zaj (zar q a3),zaj (nz q')];exact q'
 ·obtain⟨y,q,r⟩:=h.keys k hk
  exact⟨y,q,(ne y).mpr r⟩
 ·obtain⟨b1,b2,b3,b4⟩:=h.at_ y ((ne y).mp hy')
  refine⟨b1,?_,b3,b4⟩
  rw[u]
  by_cases q:y=e.c.2
  ·subst q
   rw[if_pos rfl,zaa,List.map_append];rfl
  ·rw[if_neg q,zaj (fun w=>q (h.inj y _ ((ne y).mp hy') hy w)),zaj (nz b2)]
   exact b2
 ·exact Classical.byContradiction fun w=>(ne y).mpr w hy'
theorem UD.first (h : UD H0 H a es kvs B) (hw : e.w = 1 ∨ e.w = 3) (hz : H z = none) (hy : upr es e.c.2 = []) :
  UD H0 (upd (upd (upd H z (.lst [])) a (.dK (putK kvs (.inl e.c.2) (.ref z)))) z (.lst ([]++[.int (px e)]))) a (es++[e]) (putK kvs (.inl e.c.2) (.ref z)) fun y=>if y=e.c.2 then z else B y:=by
 have u:=zh9 (es:=es) hw
 have nz:∀ {b o},H b=some o→b≠z:=fun q w=>by rw[w,hz] at q;cases q
 have haz:a≠z:=nz h.dict
 have hv:=h.no _ hy
 have ne:∀ y,upr (es++[e]) y≠[] ↔ y=e.c.2∨upr es y≠[]:=fun y=>by
  rw[u]
  by_cases q:y=e.c.2
  ·subst q;simp
  ·simp[q]
 refine⟨?_,h.new,fun b o q=>?_,?_,zk9 _ h.nd hv,fun k hk=>?_,fun y hy'=>?_,fun y z' h1 h2 q=>?_,fun y hy'=>?_⟩
 ·rw[zaj haz,zaa]
 ·have q':=h.same b o q
  rw[zaj (nz q'),zaj (zar q h.new),zaj (nz q')];exact q'
 ·have:=zaR kvs (Sum.inl e.c.2) (V.ref z)
  have:=h.len
  rw[List.length_append]
  simp only[List.length_cons,List.length_nil]
  lia
 ·rw[zeW _ hv,List.map_append] at hk
  rcases List.mem_append.mp hk with hk | hk
  ·obtain⟨y,q,r⟩:=h.keys k hk
   exact⟨y,q,(ne y).mpr (.inr r)⟩
  ·exact⟨e.c.2,List.mem_singleton.mp hk,(ne _).mpr (.inl rfl)⟩
 ·by_cases q:y=e.c.2
  ·subst q
   refine⟨by rw[zcA,if_pos rfl,if_pos rfl],?_,?_,?_⟩
   ·rw[if_pos rfl,zaa,u,if_pos rfl,hy];rfl
   ·rw[if_pos rfl];exact h.same.free hz
   ·rw[if_pos rfl];exact haz.symm
  ·obtain⟨b1,b2,b3,b4⟩:=h.at_ y (((ne y).mp hy').resolve_left q)
   rw[if_neg q]
   refine⟨by rw[zcA,if_neg (fun w=>q (Sum.inl.inj w))];exact b1,?_,b3,b4⟩
   rw[zaj (nz b2),zaj b4,zaj (nz b2),u,if_neg q];exact b2
 ·by_cases q1:y=e.c.2 <;> by_cases q2:z'=e.c.2 <;> simp only[q1,q2,if_true,if_false] at q
  ·rw[q1,q2]
  ·exact absurd q.symm (nz (h.at_ z' (((ne z').mp h2).resolve_left q2)).2.1)
  ·exact absurd q (nz (h.at_ y (((ne y).mp h1).resolve_left q1)).2.1)
  ·exact h.inj y z' (((ne y).mp h1).resolve_left q1) (((ne z').mp h2).resolve_left q2) q
 ·have q:y≠e.c.2:=fun w=>(ne y).mpr (.inl w) hy'
  rw[zcA,if_neg (fun w=>q (Sum.inl.inj w))]
  exact h.no y (Classical.byContradiction fun w=>(ne y).mpr (.inr w) hy')
theorem zhS {lo : Int}{n : Nat}{g : TG}{tb : TS}{D : Ends}{σ : St}{H : Hp}(Pv : Nat → St → Hp → Prop) (h0 : Pv 0 σ H)
  (hs:∀ i σ H,i<n→Pv i σ H→g (.int (lo+i*2)) σ H fun σ2 H2=>tb { D with nx:=Pv (i+1),ct:=Pv (i+1),bk:=D.nx } σ2 H2) (hd:∀ σ H,Pv n σ H→D.nx σ H) :
  ∃ W:Nat→Nat→St→Hp→Prop,(∃ m,W 0 m σ H)∧∀ i m σ H,W i m σ H →
   ((Itr2 lo n).stop i H∧D.nx σ H)∨((Itr2 lo n).go i H∧∃ N:St→Hp→Prop,(∀ σ' H',N σ' H'→∃ m',m'<m∧W (i+1) m' σ' H')∧∀ x H',(Itr2 lo n).yld i H x H'→g x σ H' fun σ2 H2=>tb { D with nx:=N,ct:=N,bk:=D.nx } σ2 H2):=by
 refine⟨fun i m σ H=>m=n - i∧i≤n∧Pv i σ H,⟨n,by simp,Nat.zero_le _,h0⟩,?_⟩
 rintro i m σ H ⟨rfl,hi,p⟩
 by_cases hlt:i<n
 ·refine .inr ⟨hlt,Pv (i+1),fun σ' H' p'=>⟨n - (i+1),by lia,rfl,hlt,p'⟩,fun x H' y=>?_⟩
  obtain⟨e,y⟩:=y
  subst e y
  exact hs i σ _ hlt p
 ·have e:i=n:=by lia
  subst e
  exact .inl ⟨Nat.le_refl _,hd σ H p⟩
def upto (a b:Int):List Int:=(List.range (b - a).toNat).map fun i:Nat=>a+(i:Int)
theorem zeA:∀ (T:List Int) (i:Nat) (a b:Int),T[2*i]?=some a→T[2*i+1]?=some b→fillT (T.take (2*(i+1)))=fillT (T.take (2*i))++upto a b
 | [],i,a,b,h,_=>by simp at h
 | [t],i,a,b,h,k=>by
  have:2*i+1<1:=(List.getElem?_eq_some_iff.mp k).1
  lia
 | s::t::r,0,a,b,h,k=>by
  cases h;cases k
  simp[fillT,upto]
 | s::t::r,i+1,a,b,h,k=>by
  have e1:2*(i+1+1)=2*(i+1)+1+1:=by lia
  have e2:2*(i+1)=2*i+1+1:=by lia
  rw[e2] at h k
  rw[e1,List.take_succ_cons,List.take_succ_cons,show 2*(i+1)=2*i+1+1 by lia]
  have ih:=zeA r i a b (by simpa using h) (by simpa using k)
  rw[List.take_succ_cons,List.take_succ_cons]
  show upto s t++fillT (r.take (2*i+1+1))=upto s t++fillT (r.take (2*i))++upto a b
  rw[show 2*i+1+1=2*(i+1) by lia,ih,List.append_assoc]
def srt (l:List Int):List Int:=l.mergeSort fun a b=>decide (a≤b)
theorem zdv (l:List Int):(srt l).Perm l:=List.mergeSort_perm _ _
theorem zgU (l:List Int):(srt l).Pairwise (·≤·):=by
 have:=List.pairwise_mergeSort (le:=fun a b:Int=>decide (a≤b)) (fun a b c h k=>by simp at *;lia) (fun a b=>by simp;lia) l
 exact this.imp fun h=>by simpa using h
theorem zkO {l m:List Int}(h:m.Perm l) (k:m.Pairwise (·≤·)):m=srt l :=
 List.Perm.eq_of_pairwise (le:=(·≤·)) (fun a b _ _ h k=>Int.le_antisymm h k) k (zgU l) (h.trans (zdv l).symm)
def zca (es:List Edge) (ys:List Int):List Cell:=ys.flatMap fun y=>(fillT (srt (upr es y))).map fun x=>(x,y)
theorem zgk {es:List Edge}{ys:List Int}{y:Int}:zca es (ys++[y])=zca es ys++(fillT (srt (upr es y))).map fun x=>(x,y):=by
 unfold zca
 rw[List.flatMap_append]
 simp
theorem zgj {C : Cell → Bool}{b : Edge}{es : List Edge}(h : Closed C b es) (hs : (es.map (tt C)).sum = 4 ∨ (es.map (tt C)).sum = -4){ys : List Int}(hy : ys.Pairwise (· < ·)) (hm : ∀ y, y ∈ ys ↔ upr es y ≠ []) :
  (∀ c,c∈zca es ys ↔ wd es c≠0)∧(zca es ys).Pairwise fun c d=>c.2<d.2∨(c.2=d.2∧c.1<d.1):=by
 have row:=fun y=>zeT h hs (zdv (upr es y)) (zgU _)
 constructor
 ·rintro⟨x,y⟩
  unfold zca
  rw[List.mem_flatMap]
  constructor
  ·rintro⟨z,_,hz⟩
   obtain⟨u,hu,e⟩:=List.mem_map.mp hz
   cases e
   exact ((row y).2.1 x).mp hu
  ·intro hz
   have hx:=((row y).2.1 x).mpr hz
   refine⟨y,(hm y).mpr fun e=>?_,List.mem_map.mpr ⟨x,hx,rfl⟩⟩
   rw[e] at hx
   simp[srt,fillT] at hx
 ·unfold zca
  rw[List.flatMap_def,List.pairwise_flatten,List.pairwise_map]
  refine⟨fun l hl=>?_,hy.imp fun {y z} hyz c hc d hd=>?_⟩
  ·obtain⟨y,_,rfl⟩:=List.mem_map.mp hl
   rw[List.pairwise_map]
   exact (row y).2.2.imp fun h=>.inr ⟨rfl,h⟩
  ·obtain⟨_,_,rfl⟩:=List.mem_map.mp hc
   obtain⟨_,_,rfl⟩:=List.mem_map.mp hd
   exact .inl hyz
theorem zfS:∀ {ks:List Key},(∀ k∈ks,∃ y:Int,k=Sum.inl y)→∃ ns:List Int,ks=ns.map Sum.inl
 | [],_=>⟨[],rfl⟩
 | k::r,h=>by
  obtain⟨y,rfl⟩:=h k List.mem_cons_self
  obtain⟨ns,rfl⟩:=zfS fun k hk=>h k (List.mem_cons_of_mem _ hk)
  exact⟨y::ns,rfl⟩
theorem zdz {l:List Int}(h:l.Nodup){lo:Int}{n:Nat}(hb:∀ x∈l,lo≤x∧x<lo+n):l.length≤n:=by
 have:(l.map fun x=>(x - lo).toNat).Nodup:=by
  rw[List.Nodup,List.pairwise_map]
  refine List.Pairwise.imp_of_mem (fun {x y} hx hy hne e=>hne ?_) h
  have:=hb x hx
  have:=hb y hy
  lia
 have hsub:(l.map fun x=>(x - lo).toNat) ⊆ List.range n:=fun y hy=>by
  obtain⟨x,hx,rfl⟩:=List.mem_map.mp hy
  have:=hb x hx
  exact List.mem_range.mpr (by lia)
 have:=zaA this fun x hx=>hsub hx
 simpa using this
theorem zcR:∀ (T:List Int) (i:Nat),fillT T=fillT (T.take (2*i))++fillT (T.drop (2*i))
 | T,0=>by simp[fillT]
 | [],i+1=>by simp[fillT]
 | [t],i+1=>by simp[fillT,Nat.mul_add]
 | s::t::r,i+1=>by
  rw[show 2*(i+1)=2*i+1+1 by lia,List.take_succ_cons,List.take_succ_cons,List.drop_succ_cons,List.drop_succ_cons]
  show upto s t++fillT r=upto s t++fillT (r.take (2*i))++fillT (r.drop (2*i))
  rw[List.append_assoc,← zcR r i]
theorem zj5 {C:Cell→Bool}{b:Edge}{es:List Edge}(h:Closed C b es) (hs:(es.map (tt C)).sum=4∨(es.map (tt C)).sum=-4){l:Int}(hb:∀ e∈es,l≤e.c.1∧e.c.1<l+60) (y:Int):(fillT (srt (upr es y))).length≤61:=by
 obtain⟨_,r2,r3⟩:=zeT h hs (zdv (upr es y)) (zgU _)
 refine zdz (lo:=l) (r3.imp fun h=>by lia) fun x hx=>?_
 obtain⟨e,he,f,hf,_,_,k3,k4,k5,k6⟩:=zke h ((r2 x).mp hx)
 have:=hb e he
 have:=hb f hf
 have e1:e.c.1≤px e:=by unfold px;split <;> lia
 have e2:px f≤f.c.1+1:=by unfold px;split <;> lia
 simp only at k3 k4
 lia
theorem zkL {C:Cell→Bool}{b:Edge}{es:List Edge}(h:Closed C b es){l:Int}(hb:∀ e∈es,l≤e.c.1∧e.c.1<l+60) (y:Int):(upr es y).length≤61:=by
 refine zdz (lo:=l) (zfs h y) fun x hx=>?_
 unfold upr at hx
 obtain⟨e,he,rfl⟩:=List.mem_map.mp hx
 have:=hb e (List.mem_filter.mp he).1
 unfold px
 split <;> lia
theorem zc7 {es:List Edge}(h:∀ y,(fillT (srt (upr es y))).length≤61):∀ ys:List Int,(zca es ys).length≤61*ys.length
 | []=>Nat.le_refl _
 | y::ys=>by
  have e:zca es (y::ys)=(fillT (srt (upr es y))).map (fun x=>(x,y))++zca es ys:=by unfold zca;simp
  rw[e,List.length_append,List.length_map,List.length_cons]
  have:=h y
  have:=zc7 h ys
  lia
end L2
namespace RP
theorem zlr (es fs:List Edge) (c:Cell):wd (es++fs) c=wd es c+wd fs c:=by unfold wd;rw[List.map_append,List.sum_append]
theorem zh5 (c:Cell):∀ ESS:List (List Edge),wd ESS.flatten c=(ESS.map fun es=>wd es c).sum
 | []=>rfl
 | es::r=>by rw[List.flatten_cons,zlr,zh5 c r];rfl
theorem zeE {C:Cell→Bool}{es:List Edge}(nd:es.Nodup) (hE:∀ e,e∈es ↔ IsE C e){m:Int}(hm:∀ c,C c=true→c.1<m) (c:Cell):wd es c=if C c=true then 1 else 0:=by
 have h4:∀ e∈es,e.w<4:=fun e he=>((hE e).mp he).1
 have step:∀ x y:Int,wd es (x,y) - wd es (x+1,y)=(if C (x,y)=true then 1 else 0) - (if C (x+1,y)=true then 1 else 0):=fun x y=>by
  rw[zcV h4 nd]
  have i1:ind es ⟨(x,y),1⟩=if C (x,y)=true∧C (x+1,y)=false then 1 else 0:=by
   unfold ind
   have:(⟨(x,y),1⟩:Edge)∈es ↔ C (x,y)=true∧C (x+1,y)=false:=by
    rw[hE];unfold IsE;simp[gap,go,mv]
   by_cases q:(⟨(x,y),1⟩:Edge)∈es
   ·rw[if_pos q,if_pos (this.mp q)]
   ·rw[if_neg q,if_neg (fun z=>q (this.mpr z))]
  have i2:ind es ⟨(x+1,y),3⟩=if C (x+1,y)=true∧C (x,y)=false then 1 else 0:=by
   unfold ind
   have:(⟨(x+1,y),3⟩:Edge)∈es ↔ C (x+1,y)=true∧C (x,y)=false:=by
    rw[hE];unfold IsE;simp[gap,go,mv]
    intro _
    rw[show x+1+-1=x by lia]
   by_cases q:(⟨(x+1,y),3⟩:Edge)∈es
   ·rw[if_pos q,if_pos (this.mp q)]
   ·rw[if_neg q,if_neg (fun z=>q (this.mpr z))]
  rw[i1,i2]
  cases C (x,y) <;> cases C (x+1,y) <;> decide
 have far:∀ y x:Int,m≤x→wd es (x,y)=0:=fun y x hx=>zcM fun e he hw z=>by
  have hc:=hm e.c ((hE e).mp he).2.1
  have:px e≤e.c.1+1:=by unfold px;split <;> lia
  have:=z.2
  simp only at this
  lia
 obtain⟨x,y⟩:=c
 have main:∀ n:Nat,∀ x:Int,m≤x+n→wd es (x,y)=if C (x,y)=true then 1 else 0:=by
  intro n
  induction n with
  | zero =>
   intro x hx
   rw[far y x (by lia),if_neg (fun z=>by have:=hm (x,y) z;simp only at this;lia)]
  | succ k ih =>
   intro x hx
   have h1:=ih (x+1) (by lia)
   have h2:=step x y
   lia
 exact main (m - x).toNat x (by lia)
end RP
namespace L2
open PySem RP
def ckey (c:Cell):List Key:=[.inl c.1,.inl c.2]
theorem zhu {c d:Cell}(h:ckey c=ckey d):c=d:=by
 obtain⟨a,b⟩:=c
 obtain⟨x,y⟩:=d
 simp[ckey] at h
 rw[h.1,h.2]
def dep (Cs:List Cell) (f:Cell→Int):List (List Key×V):=Cs.map fun c=>(ckey c,.int (f c))
theorem zdu (f:Cell→Int) (c:Cell):∀ Cs:List Cell,valV (dep Cs f) (ckey c)=if c∈Cs then some (.int (f c)) else none
 | []=>rfl
 | d::r=>by
  have ih:=zdu f c r
  unfold valV dep at ih ⊢
  rw[List.map_cons,List.find?_cons]
  by_cases q:d=c
  ·subst q;simp
  ·have:decide ((ckey d,V.int (f d)).1=ckey c)=false:=decide_eq_false fun z=>q (zhu z)
   rw[this]
   simp only
   rw[ih]
   have q':¬ c=d:=fun z=>q z.symm
   simp[q']
theorem zji {Cs:List Cell}{f:Cell→Int}{c:Cell}{n:Int}:putK (dep Cs f) (ckey c) (.int n)=dep (if c∈Cs then Cs else Cs++[c]) fun d=>if d=c then n else f d:=by
 by_cases h:c∈Cs
 ·rw[if_pos h]
  have:((dep Cs f).any fun kv=>decide (kv.1=ckey c))=true:=by
   rw[List.any_eq_true]
   exact⟨(ckey c,.int (f c)),List.mem_map.mpr ⟨c,h,rfl⟩,by simp⟩
  unfold putK
  rw[if_pos this]
  unfold dep
  rw[List.map_map]
  refine List.map_congr_left fun d _=>?_
  show (if ckey d=ckey c then (ckey d,V.int n) else (ckey d,V.int (f d)))=(ckey d,V.int (if d=c then n else f d))
  by_cases q:d=c
  ·subst q;simp
  ·rw[if_neg (fun z=>q (zhu z)),if_neg q]
 ·rw[if_neg h,zeW _ (by rw[zdu,if_neg h])]
  unfold dep
  rw[List.map_append]
  congr 1
  ·refine List.map_congr_left fun d hd=>?_
   show (ckey d,V.int (f d))=(ckey d,V.int (if d=c then n else f d))
   rw[if_neg (fun z:d=c=>h (z ▸ hd))]
  ·simp
theorem zjc {a : Addr}{od : Obj}{kvs : List (List Key × V)}{g : TG}{tb : TS}{D : Ends}{σ : St}{H : Hp}(Pv : Nat → St → Hp → Prop) (h0 : Pv 0 σ H) (hl : ∀ i σ H, i ≤ kvs.length → Pv i σ H → H a = some (.frz od (.dT kvs)))
  (hs:∀ i p b k v σ H,kvs[i]?=some (k,v)→H p=none→H b=some (.tup (k.map kV))→Pv i σ H→g (.ref p) σ (upd H p (.tup [.ref b,v])) fun σ2 H2=>tb { D with nx:=Pv (i+1),ct:=Pv (i+1),bk:=D.nx } σ2 H2) (hd:∀ σ H,Pv kvs.length σ H→D.nx σ H) :
  ∃ W:Nat→Nat→St→Hp→Prop,(∃ m,W 0 m σ H)∧∀ i m σ H,W i m σ H →
   ((Itm a od).stop i H∧D.nx σ H)∨((Itm a od).go i H∧∃ N:St→Hp→Prop,(∀ σ' H',N σ' H'→∃ m',m'<m∧W (i+1) m' σ' H')∧∀ x H',(Itm a od).yld i H x H'→g x σ H' fun σ2 H2=>tb { D with nx:=N,ct:=N,bk:=D.nx } σ2 H2):=by
 refine⟨fun i m σ H=>m=kvs.length - i∧i≤kvs.length∧Pv i σ H,⟨kvs.length,by simp,Nat.zero_le _,h0⟩,?_⟩
 rintro i m σ H ⟨rfl,hi,p⟩
 have q:=hl i σ H hi p
 by_cases hlt:i<kvs.length
 ·refine .inr ⟨⟨kvs,q,hlt⟩,Pv (i+1),fun σ' H' p'=>⟨kvs.length - (i+1),by lia,rfl,hlt,p'⟩,fun x H' y=>?_⟩
  obtain⟨t,b,k,v,rfl,h1,h2,h3,rfl⟩:=y kvs q
  exact hs i t b k v σ _ h2 h1 h3 p
 ·have e:i=kvs.length:=by lia
  subst e
  exact .inl ⟨⟨kvs,q,Nat.le_refl _⟩,hd σ H p⟩
theorem zd4 {Cs:List Cell}(h:Cs.Nodup){l lo:Int}(hb:∀ c∈Cs,l≤c.1∧c.1<l+61∧lo≤c.2∧c.2<lo+60):Cs.length≤3660:=by
 have h1:(Cs.map fun c=>(c.1 - l)+61*(c.2 - lo)).Nodup:=by
  rw[List.Nodup,List.pairwise_map]
  refine List.Pairwise.imp_of_mem (fun {x y} hx hy hne e=>hne ?_) h
  have b1:=hb x hx
  have b2:=hb y hy
  obtain⟨x1,x2⟩:=x
  obtain⟨y1,y2⟩:=y
  simp only at b1 b2 e
  have:x1=y1:=by lia
  have:x2=y2:=by lia
  simp[*]
 have:=zdz (lo:=0) (n:=3660) h1 fun z hz=>by
  obtain⟨c,hc,rfl⟩:=List.mem_map.mp hz
  have:=hb c hc
  lia
 simpa using this
theorem zht {Cs Cs' : List Cell}{f f' : Cell → Int}{L : List Cell}{i : Nat}{c : Cell}{s : Int}(hL : L.Nodup) (hc : L[i]? = some c) (nd : Cs'.Nodup) (hm : ∀ d, d ∈ Cs' ↔ d ∈ Cs ∨ d ∈ L.take i) (hf : ∀ d, f' d = f d + if d ∈ L.take i then s else 0) :
  (if c∈Cs' then Cs' else Cs'++[c]).Nodup∧(∀ d,d∈(if c∈Cs' then Cs' else Cs'++[c]) ↔ d∈Cs∨d∈L.take (i+1))∧∀ d,(if d=c then f' c+s else f' d)=f d+if d∈L.take (i+1) then s else 0:=by
 have e:L.take (i+1)=L.take i++[c]:=by rw[List.take_add_one,hc];rfl
 have hn:c ∉ L.take i:=fun z=>by
  obtain⟨j,hj,ej⟩:=List.getElem_of_mem z
  have hjl:j<i:=by rw[List.length_take] at hj;lia
  rw[List.getElem_take] at ej
  have hi:=(List.getElem?_eq_some_iff.mp hc).1
  have:=(List.getElem?_inj (i:=j) (j:=i) (by lia) hL).mp (by rw[hc,List.getElem?_eq_getElem (by lia),ej])
  lia
 refine⟨?_,fun d=>?_,fun d=>?_⟩
 ·by_cases q:c∈Cs'
  ·rw[if_pos q];exact nd
  ·rw[if_neg q,List.nodup_append]
   exact⟨nd,by simp,fun x hx y hy z=>q (by rw[List.mem_singleton.mp hy] at z;rw[← z];exact hx)⟩
 ·rw[e]
  by_cases q:c∈Cs'
  ·rw[if_pos q,hm d]
   constructor
   ·rintro (z | z)
    ·exact .inl z
    ·exact .inr (List.mem_append_left _ z)
   ·rintro (z | z)
    ·exact .inl z
    ·rcases List.mem_append.mp z with z | z
     ·exact .inr z
     ·rw[List.mem_singleton.mp z];exact (hm c).mp q
  ·rw[if_neg q,List.mem_append,hm d,List.mem_append]
   exact or_assoc
 ·rw[e]
  by_cases q:d=c
  ·subst q
   rw[if_pos rfl,if_pos (List.mem_append_right _ (List.mem_singleton.mpr rfl)),hf d,if_neg hn]
   lia
  ·rw[if_neg q,hf d]
   congr 1
   have:d∈L.take i++[c] ↔ d∈L.take i:=by simp[q]
   by_cases z:d∈L.take i
   ·rw[if_pos z,if_pos (this.mpr z)]
   ·rw[if_neg z,if_neg (fun w=>z (this.mp w))]
end L2
namespace RP
theorem zgF {C D:Cell→Bool}{e:Edge}(h:stepB C e=stepB D e):nxt C e=nxt D e:=by
 unfold nxt
 rw[h]
theorem Closed.one {C D:Cell→Bool}{b:Edge}{es fs:List Edge}(h:Closed C b es) (k:Closed D b fs) (hr:(es.map (stepB C)).filterMap id=(fs.map (stepB D)).filterMap id):es=fs:=by
 have hm:es.map (stepB C)=fs.map (stepB D):=by rw[h.deeds,k.deeds,hr]
 have hl:es.length=fs.length:=by have:=congrArg List.length hm;simpa using this
 have main:∀ i,i<es.length→es[i]?=fs[i]?:=by
  intro i
  induction i with
  | zero=>intro _;rw[h.1.1,k.1.1]
  | succ i ih =>
   intro hi
   have q:=ih (by lia)
   have e1:es[i]?=some es[i]:=List.getElem?_eq_getElem (by lia)
   have e2:es[i+1]?=some es[i+1]:=List.getElem?_eq_getElem hi
   have f2:fs[i+1]?=some fs[i+1]:=List.getElem?_eq_getElem (by lia)
   have a:=h.1.2.1 i _ _ e1 e2
   have b':=k.1.2.1 i _ _ (q ▸ e1) f2
   have st:stepB C es[i]=stepB D es[i]:=by
    have:=congrArg (fun l=>l[i]?) hm
    simp only[List.getElem?_map] at this
    rw[← q,e1] at this
    simpa using this
   rw[e2,f2,a,b',zgF st]
 refine List.ext_getElem? fun i=>?_
 by_cases hi:i<es.length
 ·exact main i hi
 ·rw[List.getElem?_eq_none (by lia),List.getElem?_eq_none (by lia)]
end RP
namespace L2
open PySem PySem.Spec PyProof.Rows
section
variable {prog:Program}{w:World}{A:Around}{E:Value→Shared→Prop}{s:Shared}
theorem zh1 {z TI TO i1 i2 l1 l2 T0 : Addr}{b : Bool}{k1 k2 : Nat}{xs ys : Array Value}{x y : Value}{o0 : Obj}{Q : Value → Shared → Prop}(D : ZipApart z TI TO i1 i2 l1 l2) (hz : zgi s.heap z TI TO T0 b) (hT0 : s.heap.get? T0 = some o0) (hTI : IsPair s.heap TI (.ref i1) (.ref i2))
  (h1:s.heap.IsListIter i1 l1 k1) (h2:s.heap.IsListIter i2 l2 k2) (hl1:s.heap.IsList l1 xs) (hl2:s.heap.IsList l2 ys) (hx:xs[k1]?=some x) (hy:ys[k2]?=some y)
  (hQ:∀ h',zgi h' z TI TO T0 true→h'.IsListIter i1 l1 (k1+1)→h'.IsListIter i2 l2 (k2+1)→IsPair h' s.heap.objs.size x y →
   (∀ c o,c≠z→c≠i1→c≠i2→s.heap.get? c=some o→h'.get? c=some o)→Q (.ref s.heap.objs.size) { s with heap:=h' }):wpAny (model prog w) A (Builtin.SmallTypes.nextOf (.ref z)) Q E s:=by
 have hT:s.TypeIs (.ref z) "zip":=⟨_,hz,rfl⟩
 unfold Builtin.SmallTypes.nextOf
 refine wpAny_bind (wpAny_callSpecial?_slot (name:=Str.ofString "__next__") hT PySem.F.slot_zip_next (wpAny_call_entry PySem.F.slot_zip_next hT PySem.F.entry_zip_next ?_ (PySem.F.args_zip_next_1 _)))
 show wpAny (model prog w) A.in1 (field (.ref z) 2 >>= _) _ _ s
 refine wpAny_bind (wpAny_field hz rfl (x:=.bool false) rfl ?_)
 show wpAny (model prog w) A.in1 (field (.ref z) 3 >>= _) _ _ s
 refine wpAny_bind (wpAny_field hz rfl (x:=.ref TI) rfl (wpAny_bind (wpAny_seqItems hTI rfl ?_)))
 show wpAny (model prog w) A.in1 (Builtin.SmallTypes.ownedTupleIsFree (.ref z) >>= _) _ _ s
 unfold Builtin.SmallTypes.ownedTupleIsFree
 refine wpAny_bind (wpAny_bind (wpAny_field hz rfl (x:=rawInt T0) rfl ?_))
 show wpAny (model prog w) A.in1 (loadIfAlive ((T0:Int).toNat) >>= _) _ _ s
 refine wpAny_bind (W.kdx_alive (o:=o0) (by simpa using hT0) ?_)
 simp only[Option.isNone_some,Bool.false_eq_true,if_false]
 refine wpAny_bind (wpAny_field hz rfl (x:=.bool b) rfl ?_)
 refine zfu (D:=fun ha=>zgi ha z TI TO T0 true∧Heap.SameBut z s.heap ha) ?C (fun share=>?g) ?h
 case g =>
  cases b with
  | false =>
   rw[if_pos (by decide)]
   refine wpAny_bind (wpAny_setField_rec hz (by simp) fun ha hza sa=>wpAny_pure ?_)
   exact share ha ⟨hza,sa⟩
  | true =>
   rw[if_neg (by decide)]
   refine wpAny_pure ?_
   exact share s.heap ⟨hz,⟨rfl,fun _ _=>rfl⟩⟩
 case h =>
  rintro ha ⟨hza,sa⟩
  rw[if_neg Bool.false_ne_true]
  refine wpAny_bind ?_
  rw[← Array.forIn_toList]
  simp only[List.forIn_cons,List.forIn_nil]
  refine wpAny_bind (wpAny_bind ?_)
  refine wpAny_holding ?_
  show wpAny (model prog w) A.in1 (Builtin.SmallTypes.nextOf (.ref i1) >>= _) _ _ _
  refine wpAny_bind (wpAny_nextOf_list_item (h1.extBut sa.extBut D.i1z) (hl1.extBut sa.extBut D.l1z) hx fun hb h1b sb=>wpAny_pure (wpAny_pure (wpAny_bind (wpAny_bind (wpAny_holding ?_)))))
  show wpAny (model prog w) A.in1 (Builtin.SmallTypes.nextOf (.ref i2) >>= _) _ _ _
  refine wpAny_bind (wpAny_nextOf_list_item ((h2.extBut sa.extBut D.i2z).extBut sb.extBut D.i12.symm) ((hl2.extBut sa.extBut D.l2z).extBut sb.extBut D.l2i1) hy fun hc h2c sc=>wpAny_pure (wpAny_pure (wpAny_pure ?_)))
  refine wpAny_bind (wpAny_newTuple ?_ (by show 2≤sizeLine;decide))
  have sz:hc.objs.size=s.heap.objs.size:=by rw[sc.1,sb.1,sa.1]
  refine wpAny_pure ⟨.ref hc.objs.size,rfl,wpAny_pure ?_⟩
  have kc:∀ c o,c≠z→c≠i1→c≠i2→s.heap.get? c=some o→hc.get? c=some o:=fun c o c1 c2 c3 e=>sc.extBut _ _ c3 (sb.extBut _ _ c2 (sa.extBut _ _ c1 e))
  have up:∀ {c:Addr} {o u:Obj},hc.get? c=some o→(hc.push u).get? c=some o:=fun e=>Heap.get?_push_of_some _ e
  rw[sz]
  refine hQ (hc.push { cls:=.type "tuple",data:=.seq #[x,y] }) (up (sc.extBut _ _ D.i2z.symm (sb.extBut _ _ D.i1z.symm hza))) ((h1b.extBut sc.extBut D.i12).at fun o e=>up e) (h2c.at fun o e=>up e) ?_ fun c o c1 c2 c3 e=>up (kc c o c1 c2 c3 e)
  show (hc.push _).get? s.heap.objs.size=_
  rw[← sz]
  exact Heap.get?_push_size _ rfl
theorem zhT {e it : Addr}{i : Nat}{x old : Value}{G : Heap → Prop}{Q : Option Value → Shared → Prop}(en : IsEnum s.heap e it i old)
  (src:∀ (Q1:Value→Shared→Prop) (E1:Value→Shared→Prop),(∀ h1,G h1→IsEnum h1 e it i old→Q1 x { s with heap:=h1 })→wpAny (model prog w) A.in1 (Builtin.SmallTypes.nextOf (.ref it)) Q1 E1 s)
  (k:∀ h1 h',G h1→IsEnumOut h' e it ((i:Int)+1) x h1.objs.size→h'.get? h1.objs.size=some { cls:=.type "tuple",data:=.seq #[.int i s.toks,x] } →
   (∀ b o,b≠e→h1.get? b=some o→h'.get? b=some o)→Q (some (.ref h1.objs.size)) { s with heap:=h',toks:=s.toks+1 }):wpAny (model prog w) A (pyNext (.ref e)) Q E s:=by
 have ty:s.TypeIs (.ref e) "enumerate":=⟨_,en,rfl⟩
 unfold pyNext
 refine wpAny_bind (wpAny_attempt (wpAny_callSpecial?_slot (name:=Str.ofString "__next__") ty PySem.F.slot_enumerate_next (wpAny_call_entry PySem.F.slot_enumerate_next ty PySem.F.entry_enumerate_next ?_ (PySem.F.args_enumerate_next_1 _))))
 obtain⟨hp,gg,d,tk,os⟩:=s
 show wpAny (model prog w) A.in1 (field (.ref e) 2 >>= _) _ _ _
 refine wpAny_bind (wpAny_field (x:=.ref it) en rfl rfl (wpAny_bind (src _ _ fun h1 g1 c1=>?_)))
 show wpAny (model prog w) A.in1 (field (.ref e) 3 >>= _) _ _ (Shared.mk h1 gg d tk os)
 refine wpAny_bind (wpAny_field (x:=rawInt i) c1 rfl rfl ?_)
 show wpAny (model prog w) A.in1 (field (.ref e) 4 >>= _) _ _ (Shared.mk h1 gg d tk os)
 refine wpAny_bind (wpAny_field (x:=.none) c1 rfl rfl ?_)
 show wpAny (model prog w) A.in1 (mkInt i >>= _) _ _ (Shared.mk h1 gg d tk os)
 refine wpAny_bind (wpAny_mkInt ?_)
 show wpAny (model prog w) A.in1 (setField (.ref e) 3 (rawInt ((i:Int)+1)) >>= _) _ _ (Shared.mk h1 gg d (tk+1) os)
 refine wpAny_bind (wpAny_setField_rec c1 (by simp) fun h2 c2 b2=>?_)
 replace b2:Heap.SameBut e h1 h2:=b2
 replace c2:IsEnum h2 e it ((i:Int)+1) old:=c2
 show wpAny (model prog w) A.in1 (setField (.ref e) 4 .none >>= _) _ _ (Shared.mk h2 gg d (tk+1) os)
 refine wpAny_bind (wpAny_setField_rec c2 (by simp) fun h3 c3 b3=>?_)
 replace b3:Heap.SameBut e h2 h3:=b3
 replace c3:IsEnum h3 e it ((i:Int)+1) old:=c3
 show wpAny (model prog w) A.in1 (newTuple [.int i tk,x] >>= _) _ _ (Shared.mk h3 gg d (tk+1) os)
 refine wpAny_bind (wpAny_newTuple ?_)
 have c4:IsEnum (h3.push { cls:=.type "tuple",data:=.seq #[.int i tk,x] }) e it ((i:Int)+1) old:=Heap.get?_push_of_some _ c3
 have z3:h3.objs.size=h1.objs.size:=by rw[b3.1,b2.1]
 have ne:h1.objs.size≠e:=Nat.ne_of_gt (Heap.lt_size c1)
 have t4:(h3.push { cls:=.type "tuple",data:=.seq #[.int i tk,x] }).get? h1.objs.size=some { cls:=.type "tuple",data:=.seq #[.int i tk,x] }:=by rw[← z3];exact Heap.get?_push_size _ rfl
 have k4:∀ b o,b≠e→h1.get? b=some o→(h3.push { cls:=.type "tuple",data:=.seq #[.int i tk,x] }).get? b=some o:=fun b o hb q=>Heap.get?_push_of_some _ (b3.extBut b o hb (b2.extBut b o hb q))
 show wpAny (model prog w) A.in1 (Builtin.SmallTypes.ownedTupleIsFree (.ref e) >>= _) _ _ (Shared.mk (h3.push { cls:=.type "tuple",data:=.seq #[.int i tk,x] }) gg d (tk+1) os)
 rw[z3]
 generalize h3.push { cls:=.type "tuple",data:=.seq #[.int i tk,x] }=h4 at c4 t4 k4
 unfold Builtin.SmallTypes.ownedTupleIsFree
 refine wpAny_bind (wpAny_bind (wpAny_field (x:=.none) c4 rfl rfl (wpAny_pure ?_)))
 simp only[if_true]
 refine wpAny_bind (wpAny_rule (wpAny_bind (wpAny_field (x:=old) c4 rfl rfl ?_)))
 refine wpAny_bind (wpAny_setField_rec c4 (by simp) fun h5 c5 b5=>?_)
 replace b5:Heap.SameBut e h4 h5:=b5
 replace c5:IsEnum h5 e it ((i:Int)+1) x:=c5
 show wpAny (model prog w) A.in1 (Builtin.SmallTypes.ownedTupleHandOut (.ref e) (.ref h1.objs.size) >>= _) _ _ (Shared.mk h5 gg d (tk+1) os)
 unfold Builtin.SmallTypes.ownedTupleHandOut
 refine wpAny_bind (wpAny_bind (wpAny_setField_rec c5 (by simp) fun h6 c6 b6=>?_))
 replace c6:IsEnumOut h6 e it ((i:Int)+1) x h1.objs.size:=c6
 refine wpAny_setField_rec c6 (by simp) fun h7 c7 b7=>?_
 have all:∀ b o,b≠e→h4.get? b=some o→h7.get? b=some o:=fun b o hb q=>Heap.SameBut.extBut b7 b o hb (Heap.SameBut.extBut b6 b o hb (b5.extBut b o hb q))
 exact wpAny_bind (wpAny_letGo (wpAny_pure ⟨_,rfl,wpAny_pure (k h1 h7 g1 c7 (all _ _ ne t4) fun b o hb q=>all b o hb (k4 b o hb q))⟩))
theorem zjC {z TI TO i1 i2 l1 l2 T0 : Addr}{b : Bool}{k : Nat}{xs : Array Value}{o0 : Obj}{Q : Value → Shared → Prop}(hh : A.handled = none) (D : ZipApart z TI TO i1 i2 l1 l2) (hz : zgi s.heap z TI TO T0 b) (hT0 : s.heap.get? T0 = some o0) (hTI : IsPair s.heap TI (.ref i1) (.ref i2))
  (h1:s.heap.IsListIter i1 l1 k) (hl1:s.heap.IsList l1 xs) (hx:xs[k]?=none)
  (hE:∀ h' e,(∀ c o,c≠z→c≠i1→s.heap.get? c=some o→h'.get? c=some o)→(∃ o,h'.get? e=some o∧o.cls=.type "StopIteration")→E (.ref e) { s with heap:=h' }):wpAny (model prog w) A (Builtin.SmallTypes.nextOf (.ref z)) Q E s:=by
 have hT:s.TypeIs (.ref z) "zip":=⟨_,hz,rfl⟩
 unfold Builtin.SmallTypes.nextOf
 refine wpAny_bind (wpAny_callSpecial?_slot (name:=Str.ofString "__next__") hT PySem.F.slot_zip_next (wpAny_call_entry PySem.F.slot_zip_next hT PySem.F.entry_zip_next ?_ (PySem.F.args_zip_next_1 _)))
 show wpAny (model prog w) A.in1 (field (.ref z) 2 >>= _) _ _ s
 refine wpAny_bind (wpAny_field hz rfl (x:=.bool false) rfl ?_)
 show wpAny (model prog w) A.in1 (field (.ref z) 3 >>= _) _ _ s
 refine wpAny_bind (wpAny_field hz rfl (x:=.ref TI) rfl (wpAny_bind (wpAny_seqItems hTI rfl ?_)))
 show wpAny (model prog w) A.in1 (Builtin.SmallTypes.ownedTupleIsFree (.ref z) >>= _) _ _ s
 unfold Builtin.SmallTypes.ownedTupleIsFree
 refine wpAny_bind (wpAny_bind (wpAny_field hz rfl (x:=rawInt T0) rfl ?_))
 show wpAny (model prog w) A.in1 (loadIfAlive ((T0:Int).toNat) >>= _) _ _ s
 refine wpAny_bind (W.kdx_alive (o:=o0) (by simpa using hT0) ?_)
 simp only[Option.isNone_some,Bool.false_eq_true,if_false]
 refine wpAny_bind (wpAny_field hz rfl (x:=.bool b) rfl ?_)
 refine zfu (D:=fun ha=>zgi ha z TI TO T0 true∧Heap.SameBut z s.heap ha) ?C (fun share=>?g) ?h
 case g =>
  cases b with
  | false =>
   rw[if_pos (by decide)]
   refine wpAny_bind (wpAny_setField_rec hz (by simp) fun ha hza sa=>wpAny_pure ?_)
   exact share ha ⟨hza,sa⟩
  | true =>
   rw[if_neg (by decide)]
   refine wpAny_pure ?_
   exact share s.heap ⟨hz,⟨rfl,fun _ _=>rfl⟩⟩
 case h =>
  rintro ha ⟨hza,sa⟩
  rw[if_neg Bool.false_ne_true]
  refine wpAny_bind ?_
  rw[← Array.forIn_toList]
  simp only[List.forIn_cons,List.forIn_nil]
  refine wpAny_bind (wpAny_bind (wpAny_holding ?_))
  show wpAny (model prog w) A.in1 (Builtin.SmallTypes.nextOf (.ref i1) >>= _) _ _ _
  exact wpAny_bind (wpAny_nextOf_list_end hh (h1.extBut sa.extBut D.i1z) (hl1.extBut sa.extBut D.l1z) hx fun hb e sb he=>hE _ e (fun c o c1 c3 q=>sb _ _ c3 (sa.extBut _ _ c1 q)) he)
theorem zjf {e it : Addr}{i : Int}{old : Value}{G : Heap → Prop}{Q : Option Value → Shared → Prop}(en : IsEnum s.heap e it i old)
  (src:∀ (Q1:Value→Shared→Prop) (E1:Value→Shared→Prop),(∀ h1 x,G h1→(∃ o,h1.get? x=some o∧o.cls=.type "StopIteration")→E1 (.ref x) { s with heap:=h1 })→wpAny (model prog w) A.in1 (Builtin.SmallTypes.nextOf (.ref it)) Q1 E1 s)
  (k:∀ h1,G h1→Q none { s with heap:=h1 }):wpAny (model prog w) A (pyNext (.ref e)) Q E s:=by
 have ty:s.TypeIs (.ref e) "enumerate":=⟨_,en,rfl⟩
 unfold pyNext
 refine wpAny_bind (wpAny_attempt (wpAny_callSpecial?_slot (name:=Str.ofString "__next__") ty PySem.F.slot_enumerate_next (wpAny_call_entry PySem.F.slot_enumerate_next ty PySem.F.entry_enumerate_next ?_ (PySem.F.args_enumerate_next_1 _))))
 show wpAny (model prog w) A.in1 (field (.ref e) 2 >>= _) _ _ _
 refine wpAny_bind (wpAny_field (x:=.ref it) en rfl rfl (wpAny_bind (src _ _ fun h1 x g ⟨o,ho,hc⟩=>?_)))
 exact wpAny_bind (wpAny_isInstance (b:=true) (T:="StopIteration") ⟨o,ho,hc⟩ isSubtype_stop (wpAny_pure (k h1 g)))
end
abbrev zbY (h:Heap) (z TI TO:Addr) (f0:Value) (b:Bool):Prop:=h.get? z=some { cls:=.type "zip",dict:=none,data:=.fields #[f0,.bool b,.bool false,.ref TI,.ref TO],slots:=#[] }
section
variable {prog:Program}{w:World}{A:Around}{E:Value→Shared→Prop}{s:Shared}
theorem zjB {z TI TO i1 i2 l1 l2 : Addr}{f0 : Value}{bb : Bool}{xs ys : Array Value}{x y a b : Value}{k1 k2 : Nat}{Q : Value → Shared → Prop}(D : ZipApart z TI TO i1 i2 l1 l2) (hz : zbY s.heap z TI TO f0 bb) (hTI : IsPair s.heap TI (.ref i1) (.ref i2)) (hTO : IsPair s.heap TO a b)
  (h1:s.heap.IsListIter i1 l1 k1) (h2:s.heap.IsListIter i2 l2 k2) (hl1:s.heap.IsList l1 xs) (hl2:s.heap.IsList l2 ys) (hx:xs[k1]?=some x) (hy:ys[k2]?=some y)
  (free:∀ (Q1:Bool→Shared→Prop) (E1:Value→Shared→Prop),Q1 true s→wpAny (model prog w) A (Builtin.SmallTypes.ownedTupleIsFree (.ref z)) Q1 E1 s)
  (k:∀ h',zbY h' z TI TO (rawInt s.heap.objs.size) false→IsPair h' TO x y→h'.IsListIter i1 l1 (k1+1)→h'.IsListIter i2 l2 (k2+1)→IsPair h' s.heap.objs.size x y →
   (∀ c o,c≠z→c≠TO→c≠i1→c≠i2→s.heap.get? c=some o→h'.get? c=some o)→Q (.ref s.heap.objs.size) { s with heap:=h' }) :
  wpAny (model prog w) A (Builtin.«zip.__next__» ⟨[.ref z],[]⟩) (fun fin s'=>∃ v,fin=.done (.ret v)∧Q v s') E s:=by
 show wpAny (model prog w) A (field (.ref z) 2 >>= _) _ _ s
 refine wpAny_bind (wpAny_field (x:=.bool false) hz rfl rfl ?_)
 show wpAny (model prog w) A (field (.ref z) 3 >>= _) _ _ s
 refine wpAny_bind (wpAny_field (x:=.ref TI) hz rfl rfl (wpAny_bind (wpAny_seqItems hTI rfl ?_)))
 show wpAny (model prog w) A (Builtin.SmallTypes.ownedTupleIsFree (.ref z) >>= _) _ _ s
 refine wpAny_bind (free _ _ ?_)
 simp only[if_true]
 refine wpAny_bind (wpAny_rule (wpAny_bind (wpAny_field (x:=.ref TO) hz rfl rfl (wpAny_bind (wpAny_setField_rec hz (by simp) fun ha za sa=>?_)))))
 replace za:zbY ha z TI TO .ellipsis bb:=za
 refine wpAny_bind ?_
 simp only[List.zipIdx_cons,List.zipIdx_nil,List.forIn_cons,List.forIn_nil]
 refine wpAny_bind (wpAny_bind (wpAny_onRaise (?_:wpAny _ _ (Builtin.SmallTypes.nextOf (.ref i1) >>= _) _ _ _)))
 refine wpAny_bind (wpAny_nextOf_list_item (h1.extBut sa.extBut D.i1z) (hl1.extBut sa.extBut D.l1z) hx fun hb ib sb=>wpAny_pure ?_)
 have tb:IsPair hb TO a b:=sb.extBut _ _ D.TOi1 (sa.extBut _ _ D.TOz hTO)
 refine wpAny_bind (wpAny_seqItems tb rfl (wpAny_bind (wpAny_updateSeq_pair tb fun hc tc sc=>?_)))
 replace tc:IsPair hc TO x b:=tc
 refine wpAny_bind (wpAny_letGo (wpAny_pure (wpAny_bind (wpAny_bind (wpAny_onRaise (?_:wpAny _ _ (Builtin.SmallTypes.nextOf (.ref i2) >>= _) _ _ _))))))
 refine wpAny_bind (wpAny_nextOf_list_item (((h2.extBut sa.extBut D.i2z).extBut sb.extBut D.i12.symm).extBut sc.extBut D.TOi2.symm) (((hl2.extBut sa.extBut D.l2z).extBut sb.extBut D.l2i1).extBut sc.extBut D.l2TO) hy fun hd id' sd=>wpAny_pure ?_)
 have td:IsPair hd TO x b:=sd.extBut _ _ D.TOi2 tc
 refine wpAny_bind (wpAny_seqItems td rfl (wpAny_bind (wpAny_updateSeq_pair td fun he te se=>?_)))
 replace te:IsPair he TO x y:=te
 refine wpAny_bind (wpAny_letGo (wpAny_pure (wpAny_pure (wpAny_bind (wpAny_seqItems te rfl (wpAny_bind (wpAny_newTuple ?_)))))))
 have sz:he.objs.size=s.heap.objs.size:=by rw[se.1,sd.1,sc.1,sb.1,sa.1]
 have ze:zbY he z TI TO .ellipsis bb:=se.extBut _ _ D.TOz.symm (sd.extBut _ _ D.i2z.symm (sc.extBut _ _ D.TOz.symm (sb.extBut _ _ D.i1z.symm za)))
 have ke:∀ c o,c≠z→c≠TO→c≠i1→c≠i2→s.heap.get? c=some o→he.get? c=some o:=fun c o c1 c2 c3 c4 q=>se.extBut _ _ c2 (sd.extBut _ _ c4 (sc.extBut _ _ c2 (sb.extBut _ _ c3 (sa.extBut _ _ c1 q))))
 have j1:he.IsListIter i1 l1 (k1+1):=((ib.extBut sc.extBut D.TOi1.symm).extBut sd.extBut D.i12).extBut se.extBut D.TOi1.symm
 have j2:he.IsListIter i2 l2 (k2+1):=id'.extBut se.extBut D.TOi2.symm
 have zn:he.objs.size≠z:=Nat.ne_of_gt (Heap.lt_size ze)
 show wpAny (model prog w) A (Builtin.SmallTypes.ownedTupleHandOut (.ref z) (.ref he.objs.size) >>= _) _ _ _
 unfold Builtin.SmallTypes.ownedTupleHandOut
 have zf:zbY (he.push { cls:=.type "tuple",data:=.seq #[x,y] }) z TI TO .ellipsis bb:=Heap.get?_push_of_some _ ze
 refine wpAny_bind (wpAny_bind (wpAny_setField_rec zf (by simp) fun hg zg sg=>?_))
 replace zg:zbY hg z TI TO (rawInt he.objs.size) bb:=zg
 refine wpAny_setField_rec zg (by simp) fun hi zi si=>?_
 replace zi:zbY hi z TI TO (rawInt he.objs.size) false:=zi
 have up:∀ c o,c≠z→he.get? c=some o→hi.get? c=some o:=fun c o c1 q=>Heap.SameBut.extBut si _ _ c1 (Heap.SameBut.extBut sg _ _ c1 (Heap.get?_push_of_some _ q))
 have ti:IsPair hi he.objs.size x y:=Heap.SameBut.extBut si _ _ zn (Heap.SameBut.extBut sg _ _ zn (Heap.get?_push_size _ rfl))
 rw[sz] at zi ti
 refine wpAny_pure ⟨_,rfl,?_⟩
 show Q (.ref he.objs.size) _
 rw[sz]
 exact k hi zi (up _ _ D.TOz te) (j1.at fun o q=>up _ o D.i1z q) (j2.at fun o q=>up _ o D.i2z q) ti fun c o c1 c2 c3 c4 q=>up c o c1 (ke c o c1 c2 c3 c4 q)
theorem zfp {z TI TO i1 i2 l1 l2 : Addr}{f0 : Value}{bb : Bool}{xs : Array Value}{k1 : Nat}{Q : Fin → Shared → Prop}(hh : A.handled = none) (D : ZipApart z TI TO i1 i2 l1 l2) (hz : zbY s.heap z TI TO f0 bb) (hTI : IsPair s.heap TI (.ref i1) (.ref i2))
  (h1:s.heap.IsListIter i1 l1 k1) (hl1:s.heap.IsList l1 xs) (hx:xs[k1]?=none)
  (free:∀ (Q1:Bool→Shared→Prop) (E1:Value→Shared→Prop),Q1 true s→wpAny (model prog w) A (Builtin.SmallTypes.ownedTupleIsFree (.ref z)) Q1 E1 s)
  (k:∀ h' e,(∀ c o,c≠z→c≠i1→s.heap.get? c=some o→h'.get? c=some o)→(∃ o,h'.get? e=some o∧o.cls=.type "StopIteration")→E (.ref e) { s with heap:=h' }) :
  wpAny (model prog w) A (Builtin.«zip.__next__» ⟨[.ref z],[]⟩) Q E s:=by
 show wpAny (model prog w) A (field (.ref z) 2 >>= _) _ _ s
 refine wpAny_bind (wpAny_field (x:=.bool false) hz rfl rfl ?_)
 show wpAny (model prog w) A (field (.ref z) 3 >>= _) _ _ s
 refine wpAny_bind (wpAny_field (x:=.ref TI) hz rfl rfl (wpAny_bind (wpAny_seqItems hTI rfl ?_)))
 show wpAny (model prog w) A (Builtin.SmallTypes.ownedTupleIsFree (.ref z) >>= _) _ _ s
 refine wpAny_bind (free _ _ ?_)
 simp only[if_true]
 refine wpAny_bind (wpAny_rule (wpAny_bind (wpAny_field (x:=.ref TO) hz rfl rfl (wpAny_bind (wpAny_setField_rec hz (by simp) fun ha za sa=>?_)))))
 replace za:zbY ha z TI TO .ellipsis bb:=za
 refine wpAny_bind ?_
 simp only[List.zipIdx_cons,List.zipIdx_nil,List.forIn_cons,List.forIn_nil]
 refine wpAny_bind (wpAny_bind (wpAny_onRaise (?_:wpAny _ _ (Builtin.SmallTypes.nextOf (.ref i1) >>= _) _ _ _)))
 refine wpAny_bind (wpAny_nextOf_list_end hh (h1.extBut sa.extBut D.i1z) (hl1.extBut sa.extBut D.l1z) hx fun hb e sb ⟨oe,ge,ce⟩=>?_)
 have zb:zbY hb z TI TO .ellipsis bb:=sb _ _ D.i1z.symm za
 have ez:e≠z:=fun q=>by subst q;rw[zb] at ge;cases ge;simp at ce
 exact wpAny_setField_rec zb (by simp) fun hc _ sc=>k hc e (fun c o c1 c3 q=>Heap.SameBut.extBut sc _ _ c1 (sb _ _ c3 (sa.extBut _ _ c1 q))) ⟨oe,Heap.SameBut.extBut sc _ _ ez ge,ce⟩
def ZF (f0:Value):Prop:=f0=.none∨∃ T0:Nat,f0=rawInt T0
theorem zjm {a:Addr}{Q:Option Obj→Shared→Prop}(ho:s.heap.get? a=none) (h:Q none s):wpAny (model prog w) A (loadIfAlive a) Q E s:=by
 have h':Q (s.heap.get? a) s:=by rw[ho];exact h
 exact fun _ _ _=>h'
theorem zja {z TI TO : Addr}{f0 : Value}{bb : Bool}(hz : zbY s.heap z TI TO f0 bb) (hf : f0 = .none ∨ ∃ T0 : Nat, f0 = rawInt T0 ∧ s.heap.get? T0 = none) (Q1 : Bool → Shared → Prop) (E1 : Value → Shared → Prop) (h : Q1 true s) :
  wpAny (model prog w) A (Builtin.SmallTypes.ownedTupleIsFree (.ref z)) Q1 E1 s:=by
 unfold Builtin.SmallTypes.ownedTupleIsFree
 rcases hf with rfl | ⟨T0,rfl,hd⟩
 ·exact wpAny_bind (wpAny_field (x:=.none) hz rfl rfl (wpAny_pure h))
 ·refine wpAny_bind (wpAny_field (x:=rawInt T0) hz rfl rfl ?_)
  show wpAny (model prog w) A (loadIfAlive ((T0:Int).toNat) >>= _) _ _ s
  refine wpAny_bind (zjm (by simpa using hd) ?_)
  simp only[Option.isNone_none,if_true]
  exact wpAny_pure h
theorem zh2 {z TI TO i1 i2 l1 l2 : Addr}{f0 : Value}{bb : Bool}{xs ys : Array Value}{x y a b : Value}{k1 k2 : Nat}{Q : Value → Shared → Prop}(D : ZipApart z TI TO i1 i2 l1 l2) (hz : zbY s.heap z TI TO f0 bb) (hf : ZF f0) (hTI : IsPair s.heap TI (.ref i1) (.ref i2)) (hTO : IsPair s.heap TO a b)
  (h1:s.heap.IsListIter i1 l1 k1) (h2:s.heap.IsListIter i2 l2 k2) (hl1:s.heap.IsList l1 xs) (hl2:s.heap.IsList l2 ys) (hx:xs[k1]?=some x) (hy:ys[k2]?=some y)
  (k:∀ h' f1 b1 u v,zbY h' z TI TO f1 b1→ZF f1→IsPair h' TO u v→h'.IsListIter i1 l1 (k1+1)→h'.IsListIter i2 l2 (k2+1)→IsPair h' s.heap.objs.size x y →
   (∀ c o,c≠z→c≠TO→c≠i1→c≠i2→s.heap.get? c=some o→h'.get? c=some o)→Q (.ref s.heap.objs.size) { s with heap:=h' }):wpAny (model prog w) A (Builtin.SmallTypes.nextOf (.ref z)) Q E s:=by
 have way:(f0=.none∨∃ T0:Nat,f0=rawInt T0∧s.heap.get? T0=none)→wpAny (model prog w) A (Builtin.SmallTypes.nextOf (.ref z)) Q E s:=fun hw=>by
  have ty:s.TypeIs (.ref z) "zip":=⟨_,hz,rfl⟩
  unfold Builtin.SmallTypes.nextOf
  refine wpAny_bind (wpAny_callSpecial?_slot (name:=Str.ofString "__next__") ty PySem.F.slot_zip_next (wpAny_call_entry PySem.F.slot_zip_next ty PySem.F.entry_zip_next ?_ (PySem.F.args_zip_next_1 _)))
  exact zjB D hz hTI hTO h1 h2 hl1 hl2 hx hy (zja hz hw) fun h' z1 t1 j1 j2 pr kk=>wpAny_pure (k h' _ _ _ _ z1 (.inr ⟨_,rfl⟩) t1 j1 j2 pr kk)
 rcases hf with q | ⟨T0,q⟩
 ·exact way (.inl q)
 ·cases hT:s.heap.get? T0 with
  | none=>exact way (.inr ⟨T0,q,hT⟩)
  | some o0 =>
   subst q
   exact zh1 D hz hT hTI h1 h2 hl1 hl2 hx hy fun h' z1 j1 j2 pr kk=>k h' _ _ a b z1 (.inr ⟨T0,rfl⟩) (kk TO _ D.TOz D.TOi1 D.TOi2 hTO) j1 j2 pr fun c o c1 _ c3 c4 e=>kk c o c1 c3 c4 e
theorem zjD {z TI TO i1 i2 l1 l2 : Addr}{f0 : Value}{bb : Bool}{xs : Array Value}{k1 : Nat}{Q : Value → Shared → Prop}(hh : A.handled = none) (D : ZipApart z TI TO i1 i2 l1 l2) (hz : zbY s.heap z TI TO f0 bb) (hf : ZF f0) (hTI : IsPair s.heap TI (.ref i1) (.ref i2))
  (h1:s.heap.IsListIter i1 l1 k1) (hl1:s.heap.IsList l1 xs) (hx:xs[k1]?=none)
  (k:∀ h' e,(∀ c o,c≠z→c≠i1→s.heap.get? c=some o→h'.get? c=some o)→(∃ o,h'.get? e=some o∧o.cls=.type "StopIteration")→E (.ref e) { s with heap:=h' }):wpAny (model prog w) A (Builtin.SmallTypes.nextOf (.ref z)) Q E s:=by
 have way:(f0=.none∨∃ T0:Nat,f0=rawInt T0∧s.heap.get? T0=none)→wpAny (model prog w) A (Builtin.SmallTypes.nextOf (.ref z)) Q E s:=fun hw=>by
  have ty:s.TypeIs (.ref z) "zip":=⟨_,hz,rfl⟩
  unfold Builtin.SmallTypes.nextOf
  refine wpAny_bind (wpAny_callSpecial?_slot (name:=Str.ofString "__next__") ty PySem.F.slot_zip_next (wpAny_call_entry PySem.F.slot_zip_next ty PySem.F.entry_zip_next ?_ (PySem.F.args_zip_next_1 _)))
  exact zfp (A:=A.in1) hh D hz hTI h1 hl1 hx (zja hz hw) k
 rcases hf with q | ⟨T0,q⟩
 ·exact way (.inl q)
 ·cases hT:s.heap.get? T0 with
  | none=>exact way (.inr ⟨T0,q,hT⟩)
  | some o0 =>
   subst q
   exact zjC hh D hz hT hTI h1 hl1 hx k
end
def Ity (K:W.Frag) (a b:Addr):It :=
 ⟨fun i H=>∃ xs ys x y,SqL K H a xs∧SqL K H b ys∧xs[i]?=some x∧ys[i]?=some y,
  fun i H v H'=>∃ p t x y,v=.ref p∧H t=none∧H p=none∧t≠p∧H'=upd (upd H t (.tup [x,y])) p (.tup [.int i,.ref t])∧(∀ xs,SqL K H a xs→xs[i]?=some x)∧∀ ys,SqL K H b ys→ys[i]?=some y,
  fun i H=>∃ xs,SqL K H a xs∧xs.length≤i⟩
structure EnumApart (e z TI TO i1 i2:Addr):Prop where
 ez:e≠z
 eTI:e≠TI
 eTO:e≠TO
 e1:e≠i1
 e2:e≠i2
theorem zfv {P : Program}{w : World}{K : W.Frag}{es : List Expr}{x1 : Nat}{pos : Pos}(a b e z TI TO i1 i2 : Addr) (D : ZipApart z TI TO i1 i2 a b) (N : EnumApart e z TI TO i1 i2) :
  Turn P w K (.Tuple es x1 pos) (Ity K a b) [e,z,TI,TO,i1,i2] e (fun i h=>∃ old f0 bb u v,IsEnum h e z ((i:Nat):Int) old∧zbY h z TI TO f0 bb∧ZF f0∧IsPair h TI (.ref i1) (.ref i2)∧IsPair h TO u v∧h.IsListIter i1 a i∧h.IsListIter i2 b i) where
 mem:=by simp
 obj:=fun i h st c hc=>by
  obtain⟨old,f0,bb,u,v,h0,h1,_,h2,h3,⟨o4,e4,c4,d4⟩,⟨o5,e5,c5,d5⟩⟩:=st
  simp only[List.mem_cons,List.not_mem_nil,or_false] at hc
  rcases hc with rfl | rfl | rfl | rfl | rfl | rfl
  ·exact⟨_,h0,fun v q=>nomatch q⟩
  ·exact⟨_,h1,fun v q=>nomatch q⟩
  ·exact⟨_,h2,fun v q=>nomatch q⟩
  ·exact⟨_,h3,fun v q=>nomatch q⟩
  ·exact⟨o4,e4,fun v q=>by rw[d4] at q;cases q⟩
  ·exact⟨o5,e5,fun v q=>by rw[d5] at q;cases q⟩
 keep:=fun i h h' ⟨old,f0,bb,u,v,h0,h1,zf,h2,h3,h4,h5⟩ k=>⟨old,f0,bb,u,v,k e (by simp) _ h0,k z (by simp) _ h1,zf,k TI (by simp) _ h2,k TO (by simp) _ h3,h4.at fun o q=>k i1 (by simp) o q,h5.at fun o q=>k i2 (by simp) o q⟩
 item:=by
  intro X hP hw hK hc i pins s σ H E I hf st hg
  subst hP hw hK
  obtain⟨old,f0,bb,u0,v0,he,hz,zf,hTI,hTO,h1,h2⟩:=st
  obtain⟨xs,ys,x,y,hq1,hq2,hx,hy⟩:=hg
  obtain⟨its1,rv1,p1,hz1⟩:=I.list hq1
  obtain⟨its2,rv2,p2,hz2⟩:=I.list hq2
  obtain⟨u,hu,ru⟩:=rv1.get hx
  obtain⟨v,hv,rv⟩:=rv2.get hy
  have lt:∀ c∈[e,z,TI,TO,i1,i2],c<s.heap.objs.size:=fun c hc=>by
   simp only[List.mem_cons,List.not_mem_nil,or_false] at hc
   obtain⟨o4,e4,_⟩:=id h1
   obtain⟨o5,e5,_⟩:=id h2
   rcases hc with rfl | rfl | rfl | rfl | rfl | rfl
   ·exact Heap.lt_size he
   ·exact Heap.lt_size hz
   ·exact Heap.lt_size hTI
   ·exact Heap.lt_size hTO
   ·exact Heap.lt_size e4
   ·exact Heap.lt_size e5
  refine zhT (G:=fun h1=>∃ f1 b1 u1 v1,zbY h1 z TI TO f1 b1∧ZF f1∧IsPair h1 TO u1 v1∧h1.IsListIter i1 a (i+1)∧h1.IsListIter i2 b (i+1)∧IsPair h1 s.heap.objs.size u v∧∀ c o,c≠z→c≠TO→c≠i1→c≠i2→s.heap.get? c=some o→h1.get? c=some o) he
   (fun Q1 E1 hk=>zh2 D hz zf hTI hTO h1 h2 p1.isList p2.isList (by simpa using hu) (by simpa using hv) fun h' f1 b1 u1 v1 z1 zf1 t1 j1 j2 pr kk=>hk h' ⟨f1,b1,u1,v1,z1,zf1,t1,j1,j2,pr,kk⟩ (kk e _ N.ez N.eTO N.e1 N.e2 he))
   fun h1 h' ⟨f1,b1,u1,v1,z1,zf1,t1,j1,j2,pr,kk⟩ eo tup keep=>⟨_,rfl,?_⟩
  refine wpAny_letOwnedTupleGo_enum (s:={ s with heap:=h',toks:=s.toks+1 }) eo fun h2 he2 sb=>?_
  have szl:s.heap.objs.size<h1.objs.size:=Heap.lt_size pr
  have fr:H s.heap.objs.size=none:=I.hok.fresh (Nat.le_refl _)
  have I1:Inv X pins σ (upd H s.heap.objs.size (.tup [x,y])) { s with heap:=s.heap.push { cls:=.type "tuple",data:=.seq #[u,v] },toks:=s.toks } :=
   I.laid (t':=s.toks) (o:=.tup [x,y]) (fun b ob q=>Heap.get?_push_of_some _ q) (Nat.le_refl _) ⟨by show 2≤sizeLine;decide,_,.cons ru (.cons rv .nil),IsTup.new _ _⟩
  have fp1:∀ c∈[e,z,TI,TO,i1,i2],FpOk X pins (upd H s.heap.objs.size (.tup [x,y])) c:=fun c hc=>⟨by rw[zaj (Nat.ne_of_lt (lt c hc))];exact (hf c hc).1,(hf c hc).2⟩
  have I2:Inv X pins σ (upd H s.heap.objs.size (.tup [x,y])) { s with heap:=h1,toks:=s.toks }:=I1.turnedL (t':=s.toks) (fun c o hc q=>by
   rcases Heap.get?_push_cases q with⟨w,rfl⟩ | q
   ·rw[w];exact pr
   ·exact kk c o (fun w=>hc (by simp[w])) (fun w=>hc (by simp[w])) (fun w=>hc (by simp[w])) (fun w=>hc (by simp[w])) q) fp1
  have fr2:upd H s.heap.objs.size (.tup [x,y]) h1.objs.size=none:=I2.hok.fresh (Nat.le_refl _)
  have I3:Inv X pins σ (upd (upd H s.heap.objs.size (.tup [x,y])) h1.objs.size (.tup [.int i,.ref s.heap.objs.size])) { s with heap:=h1.push { cls:=.type "tuple",data:=.seq #[.int i s.toks,.ref s.heap.objs.size] },toks:=s.toks } :=
   I2.laid (t':=s.toks) (o:=.tup [.int i,.ref s.heap.objs.size]) (fun b ob q=>Heap.get?_push_of_some _ q) (Nat.le_refl _) ⟨by show 2≤sizeLine;decide,_,.cons ⟨_,rfl⟩ (.cons rfl .nil),IsTup.new _ _⟩
  have fp3:∀ c∈[e,z,TI,TO,i1,i2],FpOk X pins (upd (upd H s.heap.objs.size (.tup [x,y])) h1.objs.size (.tup [.int i,.ref s.heap.objs.size])) c:=fun c hc=>⟨by rw[zaj (Nat.ne_of_lt (Nat.lt_trans (lt c hc) szl))];exact (fp1 c hc).1,(fp1 c hc).2⟩
  have I4:Inv X pins σ (upd (upd H s.heap.objs.size (.tup [x,y])) h1.objs.size (.tup [.int i,.ref s.heap.objs.size])) { s with heap:=h2,toks:=s.toks+1 }:=I3.turnedL (t':=s.toks+1) (fun c o hc q=>by
   have ce:c≠e:=fun w=>hc (by simp[w])
   refine (sb.2 c ce).trans ?_
   show h'.get? c=some o
   rcases Heap.get?_push_cases q with⟨w,rfl⟩ | q
   ·rw[w];exact tup
   ·exact keep c o ce q) fp3
  have kb:∀ c o,c≠e→h1.get? c=some o→h2.get? c=some o:=fun c o ce q=>(sb.2 c ce).trans (keep c o ce q)
  have frp:H h1.objs.size=none:=by rw[zaj (Nat.ne_of_gt szl)] at fr2;exact fr2
  refine⟨.ref h1.objs.size,_,I4,rfl,⟨_,s.heap.objs.size,x,y,rfl,fr,frp,Nat.ne_of_lt szl,rfl,fun zs hzs=>by rw[I.list_inj hzs hq1];exact hx,fun zs hzs=>by rw[I.list_inj hzs hq2];exact hy⟩,
   ⟨_,f1,b1,u1,v1,he2,kb z _ N.ez.symm z1,zf1,kb TI _ N.eTI.symm (kk TI _ D.TIz D.TITO D.TIi1 D.TIi2 hTI),kb TO _ N.eTO.symm t1,j1.at fun o q=>kb i1 o N.e1.symm q,j2.at fun o q=>kb i2 o N.e2.symm q⟩,fun c hc=>(fp3 c hc).1⟩
 done:=by
  intro X hP hw hK hc i pins s σ H E I hf st hg
  subst hP hw hK
  obtain⟨old,f0,bb,u0,v0,he,hz,zf,hTI,hTO,h1,h2⟩:=st
  obtain⟨xs,hq1,hx⟩:=hg
  obtain⟨its1,rv1,p1,hz1⟩:=I.list hq1
  have hl:=rv1.length
  refine zjf (G:=fun h'=>∀ c o,c≠z→c≠i1→s.heap.get? c=some o→h'.get? c=some o) he
   (fun Q1 E1 hk=>zjD (A:=X.A.in1) (I.ok.hd hc) D hz zf hTI h1 p1.isList (by simp;lia) fun h' x kk hs=>hk h' x kk hs) fun h' kk=>⟨rfl,?_⟩
  exact I.turnedL (t':=s.toks) (fun c o hcc q=>kk c o (fun w=>hcc (by simp[w])) (fun w=>hcc (by simp[w])) q) hf
 self:=fun _ _ _ _ _ ⟨_,_,_,_,_,he,_⟩ h=>wpAny_pyIter_enum he h
open AutoSeq1 (wpAny_loadPart')
theorem zfa (z TI TO : Addr) (f0 : Value) :
  Meets (Builtin.«enumerate.__new__» ⟨[.type "enumerate",.ref z],[]⟩) (fun _ R s=>IsZip s.heap z TI TO f0 ∧
   R (.ok (.ret (.ref s.heap.objs.size))) { s with heap:=s.heap.push { cls:=.type "enumerate",data:=.fields #[.none,.bool false,.ref z,rawInt 0,.none,.none] } }) :=
 .of_wp fun prog w A R s h=>by
  obtain⟨hp,g,d,tk,os⟩:=s
  obtain⟨hz,h⟩:=h
  have hsub:=sub_enumerate
  have hZ:IsZip (Shared.heap ⟨hp,g,d,tk,os⟩) z TI TO f0:=hz
  wp_walk using wpAny_loadPart' hz
  refine wpAny_stack_any fun st=>wpAny_pure ?_
  split
  ·rename_i c _ _ _ _ _
   cases (c == Value.type "enumerate")
   ·wp_walk using wpAny_loadPart' hz,wpAny_pyIter_zip hZ
    exact⟨_,rfl,h⟩
   ·wp_walk using wpAny_loadPart' hz,wpAny_pyIter_zip hZ
    exact⟨_,rfl,h⟩
  ·wp_walk using wpAny_loadPart' hz,wpAny_pyIter_zip hZ
   exact⟨_,rfl,h⟩
section
variable {prog:Program}{w:World}{A:Around}{E:Value→Shared→Prop}{s:Shared}
theorem zf6 {z TI TO : Addr}{f0 : Value}{Q : Value → Shared → Prop}(hz : IsZip s.heap z TI TO f0)
  (k:∀ h',IsEnum h' s.heap.objs.size z 0 .none→(∀ b o,s.heap.get? b=some o→h'.get? b=some o)→Q (.ref s.heap.objs.size) { s with heap:=h' }) :
  wpAny (model prog w) A (call (.type "enumerate") [.ref z]) Q E s:=by
 refine callType_new PySem.F.called_enumerate (by decide) (PySem.F.typeCall_enumerate_1 _) (PySem.F.newCall_enumerate_1 _) (fun obj=>PySem.F.args_object_init_2 obj _) PySem.F.entry_enumerate_new (zfa z TI TO f0) ⟨hz,?_⟩
 have he:IsEnum (s.heap.push { cls:=.type "enumerate",data:=.fields #[.none,.bool false,.ref z,rawInt 0,.none,.none] }) s.heap.objs.size z 0 .none:=Heap.get?_push_size _ rfl
 exact⟨⟨_,he,rfl⟩,k _ he fun b o q=>Heap.get?_push_of_some _ q⟩
end
section
variable {X:Cx}
def zj2 (K:W.Frag) (t:TA):TI:=fun σ H R=>t σ H fun vs H1=>∃ a b,vs=[.ref a,.ref b]∧(∃ xs,SqL K H1 a xs)∧(∃ ys,SqL K H1 b ys)∧R (Ity K a b) H1
theorem zhF {l m : Expr}{t : TA}{es : List Expr}{x1 : Nat}{pos pos' pos2 p p2 : Pos}(hg : Gl X "enumerate") (hm : X.mg "enumerate" = none) (hg2 : Gl X "zip") (hm2 : X.mg "zip" = none) (ha : PA X [l, m] t)
  (he:starEach [.Call (.Name "zip" p2) [l,m] [] pos2] X.env=(false,eval (.Call (.Name "zip" p2) [l,m] [] pos2) X.env)::starEach [] X.env:=by rfl) (hpl:(backTo pos' (starEach [] X.env)).any (·.1)=false:=by rfl)
  (he2:starEach [l,m] X.env=(false,eval l X.env)::starEach [m] X.env:=by rfl) (hpl2:(backTo pos2 (starEach [m] X.env)).any (·.1)=false:=by rfl) :
  PI X (.Tuple es x1 pos) (.Call (.Name "enumerate" p) [.Call (.Name "zip" p2) [l,m] [] pos2] [] pos') (zj2 X.K t):=by
 intro pins s σ H R I h
 refine wpAny_Call_Name_kw (zcz I hg hm (by rfl) ?_ (by decide) (by decide))
 refine PyProof.Rows.callWith_type1 ?_ he hpl
 rw[he]
 show wpAny _ _ (spliced ((false,eval (.Call (.Name "zip" p2) [l,m] [] pos2) X.env)::backTo pos' (starEach [] X.env))) _ _ s
 refine Calls.spliced_cons ?_
 refine wpAny_Call_Name_kw (zcz I hg2 hm2 (by rfl) ?_ (by decide) (by decide))
 refine PyProof.Rows.callWith_type1 (thn (ha pos2 pins s σ H _ I h) fun us s1 ⟨vs,H1,I1,r1,q1⟩=>?_) he2 hpl2
 obtain⟨a,b,ex,⟨xs,hq1⟩,⟨ys,hq2⟩,q⟩:=q1
 subst ex
 obtain⟨u,v,rfl,ru,rv⟩:=vals2 r1
 cases ru
 cases rv
 obtain⟨its1,rv1,p1,hz1⟩:=I1.list hq1
 obtain⟨its2,rv2,p2',hz2⟩:=I1.list hq2
 have la:a<s1.heap.objs.size:=by obtain⟨o,ho,_⟩:=p1.isList;exact Heap.lt_size ho
 have lb:b<s1.heap.objs.size:=by obtain⟨o,ho,_⟩:=p2'.isList;exact Heap.lt_size ho
 refine call_zip_2 p1.isList p2'.isList fun h' hz hTI hTO hi1 hi2 hsz kp=>Calls.spliced_nil ?_
 refine zf6 hz fun h'' hen kp2=>wpAny_pyIter_enum hen ?_
 have I2:Inv X pins σ H1 { s1 with heap:=h'' }:=I1.kept (t':=s1.toks) fun b o q=>kp2 b o (kp b o q)
 have ne:∀ i j:Nat,i≠j→(s1.heap.objs.size+i:Nat)≠s1.heap.objs.size+j:=fun i j h=>by lia
 have na:∀ i:Nat,a≠s1.heap.objs.size+i:=fun i=>Nat.ne_of_lt (Nat.lt_of_lt_of_le la (Nat.le_add_right _ _))
 have nb:∀ i:Nat,b≠s1.heap.objs.size+i:=fun i=>Nat.ne_of_lt (Nat.lt_of_lt_of_le lb (Nat.le_add_right _ _))
 have D:ZipApart (s1.heap.objs.size+4) (s1.heap.objs.size+2) (s1.heap.objs.size+3) s1.heap.objs.size (s1.heap.objs.size+1) a b :=
  ⟨ne 2 4 (by decide),ne 3 4 (by decide),ne 0 4 (by decide),ne 1 4 (by decide),ne 2 3 (by decide),ne 2 0 (by decide),ne 2 1 (by decide),ne 3 0 (by decide),ne 3 1 (by decide),ne 0 1 (by decide),
   na 4,na 3,na 0,na 1,nb 4,nb 3,nb 0,nb 1⟩
 have zl:s1.heap.objs.size+4<h'.objs.size:=Heap.lt_size hz
 have gt:∀ j:Nat,j≤4→h'.objs.size≠s1.heap.objs.size+j:=fun j hj=>Nat.ne_of_gt (Nat.lt_of_le_of_lt (Nat.add_le_add_left hj _) zl)
 have N:EnumApart h'.objs.size (s1.heap.objs.size+4) (s1.heap.objs.size+2) (s1.heap.objs.size+3) s1.heap.objs.size (s1.heap.objs.size+1) :=
  ⟨gt 4 (by decide),gt 2 (by decide),gt 3 (by decide),gt 0 (by decide),gt 1 (by decide)⟩
 refine⟨h'.objs.size,[h'.objs.size,s1.heap.objs.size+4,s1.heap.objs.size+2,s1.heap.objs.size+3,s1.heap.objs.size,s1.heap.objs.size+1],_,_,H1,rfl,I2,zfv a b _ _ _ _ _ _ D N,
  ⟨_,_,_,_,_,hen,kp2 _ _ hz,.inl rfl,kp2 _ _ hTI,kp2 _ _ hTO,hi1.at fun o q=>kp2 _ o q,hi2.at fun o q=>kp2 _ o q⟩,fun c hc=>?_,q⟩
 have hge:s1.heap.objs.size≤c:=by
  simp only[List.mem_cons,List.not_mem_nil,or_false] at hc
  rcases hc with rfl | rfl | rfl | rfl | rfl | rfl
  ·lia
  ·exact Nat.le_add_right _ _
  ·exact Nat.le_add_right _ _
  ·exact Nat.le_add_right _ _
  ·exact Nat.le_refl _
  ·exact Nat.le_add_right _ _
 exact I1.fpOk hge (I1.hok.fresh hge)
theorem zgH {K : W.Frag}{a b : Addr}{xs ys : List V}{g : TG}{tb : TS}{D : Ends}{σ : St}{H : Hp}(hlen : xs.length = ys.length) (Pv : Nat → St → Hp → Prop) (h0 : Pv 0 σ H) (hl : ∀ i σ H, i ≤ xs.length → Pv i σ H → SqL K H a xs ∧ SqL K H b ys)
  (hs:∀ i x y σ H p t,xs[i]?=some x→ys[i]?=some y→Pv i σ H→H t=none→H p=none→t≠p→g (.ref p) σ (upd (upd H t (.tup [x,y])) p (.tup [.int i,.ref t])) fun σ2 H2=>tb { D with nx:=Pv (i+1),ct:=Pv (i+1),bk:=D.nx } σ2 H2) (hd:∀ σ H,Pv xs.length σ H→D.nx σ H) :
  ∃ W:Nat→Nat→St→Hp→Prop,(∃ m,W 0 m σ H)∧∀ i m σ H,W i m σ H →
   ((Ity K a b).stop i H∧D.nx σ H)∨((Ity K a b).go i H∧∃ N:St→Hp→Prop,(∀ σ' H',N σ' H'→∃ m',m'<m∧W (i+1) m' σ' H')∧∀ x H',(Ity K a b).yld i H x H'→g x σ H' fun σ2 H2=>tb { D with nx:=N,ct:=N,bk:=D.nx } σ2 H2):=by
 refine⟨fun i m σ H=>m=xs.length - i∧i≤xs.length∧Pv i σ H,⟨xs.length,by simp,Nat.zero_le _,h0⟩,?_⟩
 rintro i m σ H ⟨rfl,hi,p⟩
 obtain⟨q1,q2⟩:=hl i σ H hi p
 by_cases hlt:i<xs.length
 ·have hlt2:i<ys.length:=by lia
  refine .inr ⟨⟨xs,ys,xs[i],ys[i],q1,q2,by simp[hlt],by simp[hlt2]⟩,Pv (i+1),fun σ' H' p'=>⟨xs.length - (i+1),by lia,rfl,hlt,p'⟩,fun x H' y=>?_⟩
  obtain⟨o,t,u,v,rfl,ht,ho,hne,rfl,y1,y2⟩:=y
  exact hs i u v σ H o t (y1 xs q1) (y2 ys q2) p ht ho hne
 ·have e:i=xs.length:=by lia
  subst e
  exact .inl ⟨⟨xs,q1,Nat.le_refl _⟩,hd σ H p⟩
end
end L2
namespace RR
open PySem L2
def top (i:Nat):Stmt:=PySem.Challenge.pw_rimsteps_k13_whole_told_back.main.body.getD i (.Pass ⟨0,0,0,0⟩)
abbrev zbh:Stmt:=top 7
abbrev zgg:List Str:=["cell"]
theorem zeS:FnScope zgg ["cell"] (zab zbh):=⟨rfl,rfl,rfl,by decide +kernel,rfl,by decide +kernel,by decide +kernel⟩
abbrev za2:Stmt:=top 8
abbrev zfo:List Str:=["picture","at"]
theorem zcI:FnScope zfo ["picture"] (zab za2):=⟨rfl,rfl,rfl,by decide +kernel,rfl,by decide +kernel,by decide +kernel⟩
abbrev zdJ:Stmt:=top 9
abbrev zl7:List Str:=["x","y","step","right","up"]
theorem zgs:FnScope zl7 ["x","y","step"] (zab zdJ):=⟨rfl,rfl,rfl,by decide +kernel,rfl,by decide +kernel,by decide +kernel⟩
abbrev zaW:Stmt:=top 10
abbrev zdp:List Str:=["picture"]
theorem zeR:FnScope zdp ["picture"] (zab zaW):=⟨rfl,rfl,rfl,by decide +kernel,rfl,by decide +kernel,by decide +kernel⟩
abbrev zbf:Stmt:=top 12
abbrev zge:List Str:=["edge","x","y","way"]
theorem zbZ:FnScope zge ["edge"] (zab zbf):=⟨rfl,rfl,rfl,by decide +kernel,rfl,by decide +kernel,by decide +kernel⟩
abbrev za3:Stmt:=top 13
abbrev zcU:List Str:=["picture","table","edges"]
theorem zcu:FnScope zcU ["picture"] (zab za3):=⟨rfl,rfl,rfl,by decide +kernel,rfl,by decide +kernel,by decide +kernel⟩
abbrev zaL:Stmt:=top 14
abbrev zd6:List Str:=["way"]
theorem zdr:FnScope zd6 ["way"] (zab zaL):=⟨rfl,rfl,rfl,by decide +kernel,rfl,by decide +kernel,by decide +kernel⟩
abbrev zbd:Stmt:=top 15
abbrev zgc:List Str:=["way"]
theorem zeQ:FnScope zgc ["way"] (zab zbd):=⟨rfl,rfl,rfl,by decide +kernel,rfl,by decide +kernel,by decide +kernel⟩
abbrev zaX:Stmt:=top 16
abbrev zfj:List Str:=["table","edge","x","y","way","step"]
theorem zbo:FnScope zfj ["table","edge"] (zab zaX):=⟨rfl,rfl,rfl,by decide +kernel,rfl,by decide +kernel,by decide +kernel⟩
abbrev zbQ:Stmt:=top 17
abbrev zhZ:List Str:=["step"]
theorem zgr:FnScope zhZ ["step"] (zab zbQ):=⟨rfl,rfl,rfl,by decide +kernel,rfl,by decide +kernel,by decide +kernel⟩
abbrev za0:Stmt:=top 18
abbrev zfm:List Str:=["edge","step","x","y","way","new_x","new_y"]
theorem za5:FnScope zfm ["edge","step"] (zab za0):=⟨rfl,rfl,rfl,by decide +kernel,rfl,by decide +kernel,by decide +kernel⟩
abbrev zbt:Stmt:=top 21
abbrev zgL:List Str:=["table","begin","step","walk","edge"]
theorem zbA:FnScope zgL ["table","begin"] (zab zbt):=⟨rfl,rfl,rfl,by decide +kernel,rfl,by decide +kernel,by decide +kernel⟩
abbrev zas:Stmt:=top 22
abbrev zbK:List Str:=["walk","lefts","slants"]
theorem zbr:FnScope zbK ["walk"] (zab zas):=⟨rfl,rfl,rfl,by decide +kernel,rfl,by decide +kernel,by decide +kernel⟩
abbrev zaw:Stmt:=top 23
abbrev zcT:List Str:=["walk","lefts","slants"]
theorem zbl:FnScope zcT ["walk"] (zab zaw):=⟨rfl,rfl,rfl,by decide +kernel,rfl,by decide +kernel,by decide +kernel⟩
abbrev zb6:Stmt:=top 24
abbrev zjA:List Str:=["walk"]
theorem zhD:FnScope zjA ["walk"] (zab zb6):=⟨rfl,rfl,rfl,by decide +kernel,rfl,by decide +kernel,by decide +kernel⟩
abbrev zbC:Stmt:=top 25
abbrev zeD:List Str:=["walk","sort"]
theorem zgu:FnScope zeD ["walk","sort"] (zab zbC):=⟨rfl,rfl,rfl,by decide +kernel,rfl,by decide +kernel,by decide +kernel⟩
abbrev za7:Stmt:=top 26
abbrev zde:List Str:=["walk","sort","begin","at","row"]
theorem zb2:FnScope zde ["walk"] (zab za7):=⟨rfl,rfl,rfl,by decide +kernel,rfl,by decide +kernel,by decide +kernel⟩
abbrev zaY:Stmt:=top 27
abbrev zfk:List Str:=["one","sort","x","y","row"]
theorem zbp:FnScope zfk ["one"] (zab zaY):=⟨rfl,rfl,rfl,by decide +kernel,rfl,by decide +kernel,by decide +kernel⟩
abbrev zaO:Stmt:=top 28
abbrev zek:List Str:=["table","edges","walked","told","begin","walk","edge","step"]
theorem zaK:FnScope zek ["table","edges"] (zab zaO):=⟨rfl,rfl,rfl,by decide +kernel,rfl,by decide +kernel,by decide +kernel⟩
abbrev zcn:Stmt:=top 29
abbrev zkd:List Str:=["picture"]
theorem zio:FnScope zkd ["picture"] (zab zcn):=⟨rfl,rfl,rfl,by decide +kernel,rfl,by decide +kernel,by decide +kernel⟩
abbrev zbi:Stmt:=top 32
abbrev zgh:List Str:=["one","sort","x","y","row"]
theorem zbH:FnScope zgh ["one"] (zab zbi):=⟨rfl,rfl,rfl,by decide +kernel,rfl,by decide +kernel,by decide +kernel⟩
abbrev zb3:Stmt:=top 33
abbrev zjx:List Str:=["step"]
theorem zhC:FnScope zjx ["step"] (zab zb3):=⟨rfl,rfl,rfl,by decide +kernel,rfl,by decide +kernel,by decide +kernel⟩
abbrev za1:Stmt:=top 34
abbrev zfn:List Str:=["begin_way","row","way","deeds","step","lefts"]
theorem za6:FnScope zfn ["begin_way","row"] (zab za1):=⟨rfl,rfl,rfl,by decide +kernel,rfl,by decide +kernel,by decide +kernel⟩
abbrev zb5:Stmt:=top 35
abbrev zjz:List Str:=["begin","deeds","walk","edge","deed"]
theorem zcg:FnScope zjz ["begin","deeds"] (zab zb5):=⟨rfl,rfl,rfl,by decide +kernel,rfl,by decide +kernel,by decide +kernel⟩
abbrev zbc:Stmt:=top 36
abbrev zgb:List Str:=["begin","row"]
theorem zeP:FnScope zgb ["begin","row"] (zab zbc):=⟨rfl,rfl,rfl,by decide +kernel,rfl,by decide +kernel,by decide +kernel⟩
abbrev zaN:Stmt:=top 37
abbrev zej:List Str:=["edge","step","x","y","way","behind","seen"]
theorem zaT:FnScope zej ["edge","step"] (zab zaN):=⟨rfl,rfl,rfl,by decide +kernel,rfl,by decide +kernel,by decide +kernel⟩
abbrev zaZ:Stmt:=top 38
abbrev zfl:List Str:=["walk","known","steps_gone","edge","step","cell","inside"]
theorem zaE:FnScope zfl ["walk"] (zab zaZ):=⟨rfl,rfl,rfl,by decide +kernel,rfl,by decide +kernel,by decide +kernel⟩
abbrev zbg:Stmt:=top 39
abbrev zgf:List Str:=["walk","edge","step"]
theorem zcm:FnScope zgf ["walk"] (zab zbg):=⟨rfl,rfl,rfl,by decide +kernel,rfl,by decide +kernel,by decide +kernel⟩
abbrev zbu:Stmt:=top 40
abbrev zgM:List Str:=["walk","sort"]
theorem zfE:FnScope zgM ["walk","sort"] (zab zbu):=⟨rfl,rfl,rfl,by decide +kernel,rfl,by decide +kernel,by decide +kernel⟩
abbrev zb4:Stmt:=top 41
abbrev zjy:List Str:=["one","sort","x","y","row","begin","walk","at"]
theorem zbz:FnScope zjy ["one"] (zab zb4):=⟨rfl,rfl,rfl,by decide +kernel,rfl,by decide +kernel,by decide +kernel⟩
abbrev zbB:Stmt:=top 42
abbrev zeC:List Str:=["one"]
theorem zgt:FnScope zeC ["one"] (zab zbB):=⟨rfl,rfl,rfl,by decide +kernel,rfl,by decide +kernel,by decide +kernel⟩
abbrev zbP:Stmt:=top 44
abbrev zhY:List Str:=["edges","places","x","y","way"]
theorem zb1:FnScope zhY ["edges"] (zab zbP):=⟨rfl,rfl,rfl,by decide +kernel,rfl,by decide +kernel,by decide +kernel⟩
abbrev zaF:Stmt:=top 45
abbrev zcK:List Str:=["one","places","cells","y","turns","at"]
theorem zaU:FnScope zcK ["one"] (zab zaF):=⟨rfl,rfl,rfl,by decide +kernel,rfl,by decide +kernel,by decide +kernel⟩
abbrev zaV:Stmt:=top 46
abbrev zdo:List Str:=["some","depths","one","gain","cell"]
theorem zbG:FnScope zdo ["some"] (zab zaV):=⟨rfl,rfl,rfl,by decide +kernel,rfl,by decide +kernel,by decide +kernel⟩
abbrev zaP:Stmt:=top 47
abbrev zel:List Str:=["some","others","at","one","other"]
theorem zbF:FnScope zel ["some","others"] (zab zaP):=⟨rfl,rfl,rfl,by decide +kernel,rfl,by decide +kernel,by decide +kernel⟩
abbrev zbe:Stmt:=top 48
abbrev zgd:List Str:=["some","picture","at"]
theorem zcl:FnScope zgd ["some"] (zab zbe):=⟨rfl,rfl,rfl,by decide +kernel,rfl,by decide +kernel,by decide +kernel⟩
abbrev zaQ:Stmt:=top 50
abbrev zem:List Str:=["_law_script","_law_k"]
theorem zdI:FnScope zem ["_law_script","_law_k"] (zab zaQ):=⟨rfl,rfl,rfl,by decide +kernel,rfl,by decide +kernel,by decide +kernel⟩
abbrev zbR:Stmt:=top 51
abbrev zh0:List Str:=["_law_cell","_law_many","_law_base","_law_found","_law_left","_law_number","_law_k"]
theorem zbs:FnScope zh0 ["_law_cell","_law_many","_law_base"] (zab zbR):=⟨rfl,rfl,rfl,by decide +kernel,rfl,by decide +kernel,by decide +kernel⟩
abbrev zaG:Stmt:=top 52
abbrev zcL:List Str:=["_law_script","_law_start","_law_wide","_law_high","_law_share","_law_left","_law_low","_law_way","_law_far","_law_found","_law_y","_law_row_here"]
theorem zau:FnScope zcL ["_law_script","_law_start"] (zab zaG):=⟨rfl,rfl,rfl,by decide +kernel,rfl,by decide +kernel,by decide +kernel⟩
abbrev s_law:Stmt:=top 53
abbrev N_law:List Str:=["_law_script","_law_cells","_law_others","_law_some","_law_handed","_law_found","_law_more"]
theorem zdH:FnScope N_law ["_law_script"] (zab s_law):=⟨rfl,rfl,rfl,by decide +kernel,rfl,by decide +kernel,by decide +kernel⟩
open PySem L2 RP
def cellT (c:Cell):List V:=[.int c.1,.int c.2]
def edgeT (e:Edge):List V:=[.int e.c.1,.int e.c.2,.int e.w]
def sv:Option Nat→V
 | none=>.non
 | some s=>.int s
def Tab (H:Hp) (t:Addr) (C:Cell→Bool):Prop:=∃ kvs:List (List Key×V),H t=some (.dT kvs)∧∀ c:Cell,(valV kvs [Sum.inl c.1,Sum.inl c.2]).isSome=C c
theorem Tab.same {H H':Hp}{t:Addr}{C:Cell→Bool}(h:Tab H t C) (s:Same H H'):Tab H' t C:=let ⟨kvs,e,q⟩:=h;⟨kvs,s _ _ e,q⟩
theorem Same.up {H:Hp}{p:Addr}{o:HO}(h:H p=none):Same H (upd H p o):=fun b u e=>by rw[zaj (zar e h)];exact e
structure Txt (P:Program) (w:World) (K:W.Frag) (mg:Str→Option Value):Prop where
 moves:∃ M,mg "MOVES" = some (.ref M)∧∀ H,∃ ms:List Addr,SqT K H M (ms.map V.ref)∧ms.length=8∧∀ (i:Nat) a,ms[i]?=some a→SqT K H a [.int (mv i).1,.int (mv i).2]
 ways:Ways P w K mg
 more:Two P w K mg "MORE_LEFTS" 4 (-4)
 nrange:mg "range" = none
 nlen:mg "len" = none
 nmin:mg "min" = none
 nsorted:mg "sorted" = none
 ntuple:mg "tuple" = none
 nint:mg "int" = none
 nbool:mg "bool" = none
 nstr:mg "str" = none
 nall:mg "all" = none
 nisinstance:mg "isinstance" = none
 nlist:mg "list" = none
 nsum:mg "sum" = none
 nenumerate:mg "enumerate" = none
 nzip:mg "zip" = none
theorem two:2≤sizeLine:=by decide
theorem three:3≤sizeLine:=by decide
section
variable {P:Program}{w:World}{K:W.Frag}{mg:Str→Option Value}{base:Heap}
def zeN (K:W.Frag):Sp:=fun vs H Q _=>∃ (a:Addr) (x y:Int) (r:List V),vs=[.ref a]∧SqT K H a (.int x::.int y::r)∧∀ (p:Addr) (H':Hp),H p=none→Same H H'→H' p=some (.tup [.int y,.int x])→Q (.ref p) H'
theorem ze7 (d:Df K mg "cell_order" zbh ["cell"]):FnOk P w K mg base CX0 1 d.f d.fd ["cell"] (zeN K):=by
 refine d.F.ok zeS (fun vs H Q E h=>?_) (fun cdv A outer s H vs Q E hr h=>?_)
 ·obtain⟨a,x,y,r,rfl,_⟩:=h
  rfl
 ·obtain⟨a,x,y,r,rfl,hq,k⟩:=h
  refine⟨_,(zag (zat (zbj (zam (pe_ix zc5 (pv 0) zak (fun _ _=>rfl)) (zam (pe_ix zc5 (pv 0) zak (fun _ _=>rfl)) zad))))),?_⟩
  refine⟨_,rfl,a,_,_,_,rfl,rfl,hq,zbm (j:=1) rfl,_,rfl,a,_,_,_,rfl,rfl,hq,zbm (j:=0) rfl,two,fun p hp=>?_⟩
  exact k p _ hp (Same.up hp) zaa
def zfy:Sp:=fun vs H Q _=>∃ (c:Cell) (i:Nat),vs=[.int c.1,.int c.2,.int i]∧i<8∧∀ (p:Addr) (H':Hp),H p=none→Same H H'→H' p=some (.tup (cellT (go c i)))→Q (.ref p) H'
theorem zk4 (T:Txt P w K mg) (d:Df K mg "gone" zdJ ["x","y","step"]):FnOk P w K mg base CX0 1 d.f d.fd ["x","y","step"] zfy:=by
 refine d.F.ok zgs (fun vs H Q E h=>?_) (fun cdv A outer s H vs Q E hr h=>?_)
 ·obtain⟨c,i,rfl,_⟩:=h
  rfl
 ·obtain⟨c,i,rfl,hi,k⟩:=h
  obtain⟨M,hM,hms⟩:=T.moves
  obtain⟨ms,hq,hl,hm⟩:=hms H
  refine⟨_,(zac (zct (pe_ix zc5 (zdL (v:=.ref M) rfl hM rfl) (pv 2) (fun _ _=>rfl)) (zbL (by rfl) (zae (zaf (i:=3) zgs.nd (by rfl) (Or.inl rfl)) (zae (zaf (i:=4) zgs.nd (by rfl) (Or.inl rfl)) zay))))
   (zag (zat (zbj (pa_B (pe_op zbI (pv 0) (pv 3)) (pa_B (pe_op zbI (pv 1) (pv 4)) zad)))))),?_⟩
  have hi':i<ms.length:=by lia
  have e1:ms[i]?=some ms[i]:=by simp[hi']
  refine⟨_,rfl,M,_,(i:Int),.ref ms[i],rfl,rfl,hq,zbm (by simp[hi']),ms[i],_,rfl,hm i _ e1,rfl,_,_,rfl,_,_,rfl,rfl,?_⟩
  refine⟨_,rfl,_,rfl,_,_,rfl,rfl,_,rfl,_,rfl,_,_,rfl,rfl,two,fun p hp=>?_⟩
  exact k p _ hp (Same.up hp) zaa
def zc8:Sp:=fun vs H Q _=>∃ w:Nat,vs=[.int w]∧w<4∧Q (.int (2*w:Nat)) H
theorem zds (d:Df K mg "straight_step" zaL ["way"]):FnOk P w K mg base CX0 1 d.f d.fd ["way"] zc8:=by
 refine d.F.ok zdr (fun vs H Q E h=>?_) (fun cdv A outer s H vs Q E hr h=>?_)
 ·obtain⟨w,rfl,_⟩:=h
  rfl
 ·obtain⟨w,rfl,hw,k⟩:=h
  refine⟨_,(zag (zat (pe_op zc4 zak (pv 0)))),?_⟩
  refine⟨_,rfl,_,_,rfl,rfl,.inl ⟨by decide,by decide⟩,?_⟩
  have e:(2*(w:Int))=((2*w:Nat):Int):=by lia
  show Q (.int (2*(w:Int))) H
  rw[e];exact k
def zgp:Sp:=fun vs H Q _=>∃ w:Nat,vs=[.int w]∧w<4∧Q (.int ((2*w+7) % 8:Nat)) H
theorem ze1 (d:Df K mg "slant_step" zbd ["way"]):FnOk P w K mg base CX0 1 d.f d.fd ["way"] zgp:=by
 refine d.F.ok zeQ (fun vs H Q E h=>?_) (fun cdv A outer s H vs Q E hr h=>?_)
 ·obtain⟨w,rfl,_⟩:=h
  rfl
 ·obtain⟨w,rfl,hw,k⟩:=h
  refine⟨_,(zag (zat (pe_op zbM (pe_op zbI (pe_op zc4 zak (pv 0)) zak) zak))),?_⟩
  refine⟨_,rfl,_,_,rfl,rfl,.inl ⟨by decide,by decide⟩,_,_,rfl,rfl,_,_,rfl,rfl,(by show (0:Int)<8;decide),?_⟩
  have e:(2*(w:Int)+7) % 8=(((2*w+7) % 8:Nat):Int):=by lia
  show Q (.int ((2*(w:Int)+7) % 8)) H
  rw[e];exact k
def zc1:Sp:=fun vs H Q _=>∃ o:Option Nat,vs=[sv o]∧Q (.bl (slant o)) H
theorem zgC (d:Df K mg "is_slant" zbQ ["step"]):FnOk P w K mg base CX0 1 d.f d.fd ["step"] zc1:=by
 refine d.F.ok zgr (fun vs H Q E h=>?_) (fun cdv A outer s H vs Q E hr h=>?_)
 ·obtain⟨o,rfl,_⟩:=h
  rfl
 ·obtain⟨o,rfl,k⟩:=h
  refine⟨_,(zag (zat (ziI (zco zdM (pv 0) zci (zaz _)) (ziH (zco op_eq (pe_op zbM (pv 0) zak) zak (zaz _)))))),?_⟩
  cases o with
  | none=>exact⟨_,rfl,rfl,false,rfl,iteF k⟩
  | some n =>
   refine⟨_,rfl,rfl,true,rfl,iteT ⟨_,rfl,_,_,rfl,rfl,(by show (0:Int)<2;decide),rfl,?_⟩⟩
   have e:decide (V.int ((n:Int) % 2)=V.int 1)=slant (some n):=by
    show _=(n % 2 == 1)
    by_cases q:n % 2=1
    ·rw[decide_eq_true (by rw[show (n:Int) % 2=1 by lia]),q];rfl
    ·rw[decide_eq_false (fun z=>by injection z with z;lia)];simp[q]
   rw[← e] at k
   exact k
def spGap (K:W.Frag):Sp:=fun vs H Q _=>∃ (a:Addr) (e:Edge),vs=[.ref a]∧SqT K H a (edgeT e)∧e.w<4∧∀ (p:Addr) (H':Hp),H p=none→Same H H'→H' p=some (.tup (cellT (gap e)))→Q (.ref p) H'
theorem ze3 (g_gone:Fn P w K mg base 1 "gone" ["x","y","step"] zfy) (d:Df K mg "gap_beside" zbf ["edge"]):FnOk P w K mg base CX0 2 d.f d.fd ["edge"] (spGap K):=by
 refine d.F.ok zbZ (fun vs H Q E h=>?_) (fun cdv A outer s H vs Q E hr h=>?_)
 ·obtain⟨a,e,rfl,_⟩:=h
  rfl
 ·obtain⟨a,e,rfl,hq,hw,k⟩:=h
  refine⟨_,(zac (zct (pv 0) (zbL (by rfl) (zae (zaf (i:=1) zbZ.nd (by rfl) (Or.inl rfl)) (zae (zaf (i:=2) zbZ.nd (by rfl) (Or.inl rfl)) (zae (zaf (i:=3) zbZ.nd (by rfl) (Or.inl rfl)) zay)))))
   (zag (zat (zah g_gone.ok (hr.mono (by decide)) (by rfl) g_gone.m g_gone.kp g_gone.b .nil pass0 (pa_N (pv 1) (pa_N (pv 2) (pa_B (pe_op zbM (pe_op zbI (pe_op zc4 zak (pv 3)) zak) zak) zad))))))),?_⟩
  refine⟨_,rfl,a,_,rfl,hq,rfl,_,_,rfl,_,_,rfl,_,_,rfl,rfl,?_⟩
  have e6:(2*(e.w:Int)+6) % 8=(((2*e.w+6) % 8:Nat):Int):=by lia
  refine⟨_,rfl,_,rfl,_,rfl,_,_,rfl,rfl,.inl ⟨by decide,by decide⟩,_,_,rfl,rfl,_,_,rfl,rfl,(by show (0:Int)<8;decide),e.c,(2*e.w+6) % 8,(by rw[← e6];rfl),by lia,fun p H' hp hS hH=>k p H' hp hS hH⟩
end
open PySem L2 RP
theorem iteN {b:Bool}{A B:Prop}(h:b=false) (q:B):if b=true then A else B:=by subst h;exact iteF q
theorem iteY {b:Bool}{A B:Prop}(h:b=true) (q:A):if b=true then A else B:=by subst h;exact iteT q
theorem zcX {tb:TS}{D:Ends}{σ:St}{H:Hp}(h:tb D σ H):tIfs (fun _ H Q=>Q true H) tb D σ H:=by
 show if true=true then tb D σ H else D.nx σ H
 exact iteT h
theorem gN {j:Nat}{v:V}{σ:St}{H:Hp}{tb:TS}{D:Ends}(h:tb D (σ.set j (some v)) H):gName j v σ H fun σ2 H2=>tIfs (fun _ H Q=>Q true H) tb D σ2 H2:=zcX h
def LR {α:Type}(K:W.Frag) (H:Hp) (a:Addr) (l:List α) (R:α→V→Hp→Prop):Prop:=∃ vs:List V,SqL K H a vs∧vs.length=l.length∧∀ (i:Nat) x v,l[i]?=some x→vs[i]?=some v→R x v H
def cR (c:Cell) (v:V) (H:Hp):Prop:=∃ b,v=.ref b∧H b=some (.tup (cellT c))
def eR (e:Edge) (v:V) (H:Hp):Prop:=∃ b,v=.ref b∧H b=some (.tup (edgeT e))
def wR (q:Edge×Option Nat) (v:V) (H:Hp):Prop:=∃ A b,v=.ref A∧H A=some (.tup [.ref b,sv q.2])∧H b=some (.tup (edgeT q.1))
theorem cR.same {c:Cell}{v:V}{H H':Hp}(h:cR c v H) (s:Same H H'):cR c v H':=let ⟨b,e,q⟩:=h;⟨b,e,s _ _ q⟩
theorem eR.same {c:Edge}{v:V}{H H':Hp}(h:eR c v H) (s:Same H H'):eR c v H':=let ⟨b,e,q⟩:=h;⟨b,e,s _ _ q⟩
theorem wR.same {c:Edge×Option Nat}{v:V}{H H':Hp}(h:wR c v H) (s:Same H H'):wR c v H':=let ⟨A,b,e,q,r⟩:=h;⟨A,b,e,s _ _ q,s _ _ r⟩
theorem LR.same {α:Type}{K:W.Frag}{H H':Hp}{a:Addr}{l:List α}{R:α→V→Hp→Prop}(h:LR K H a l R) (s:Same H H') (m:∀ x v,R x v H→R x v H'):LR K H' a l R :=
 let ⟨vs,q,n,r⟩:=h;⟨vs,s.seq q,n,fun i x v h1 h2=>m x v (r i x v h1 h2)⟩
theorem zbW {α:Type}{l:List α}{i:Nat}{x c:α}(h:l[i]?=some x):c∈l.take (i+1) ↔ c∈l.take i∨c=x:=by
 rw[List.take_succ,h,List.mem_append]
 exact⟨fun z=>z.elim .inl fun z=>.inr (List.mem_singleton.mp z),fun z=>z.elim .inl fun z=>.inr (List.mem_singleton.mpr z)⟩
def InOrd (cs:List Cell):Prop:=∀ (i:Nat) c d,cs[i]?=some c→cs[i+1]?=some d→HT.lexLt [c.2,c.1] [d.2,d.1]=true
section
variable {P:Program}{w:World}{K:W.Frag}{mg:Str→Option Value}{base:Heap}
def spAsk (K:W.Frag):Sp:=fun vs H Q _=>∃ (a:Addr) (cs:List Cell),vs=[.ref a]∧LR K H a cs cR∧InOrd cs∧cs.length≤1000∧∀ H',Same H H'→Q (.bl true) H'
theorem zee (T:Txt P w K mg) (g_cell_order:Fn P w K mg base 1 "cell_order" ["cell"] (zeN K)) (d:Df K mg "ask_picture" za2 ["picture"]):FnOk P w K mg base CX0 2 d.f d.fd ["picture"] (spAsk K):=by
 refine d.F.ok zcI (fun vs H Q E h=>?_) (fun cdv A outer s H vs Q E hr h=>?_)
 ·obtain⟨a,cs,rfl,_⟩:=h
  rfl
 ·obtain⟨a,cs,rfl,⟨ws,hq,hn,hc⟩,ho,hlen,k⟩:=h
  have hu0:=hr.units0
  refine⟨_,(zac (zbX PassesOwn.never rfl (ziF (by rfl) T.nrange (pa_C zak (zam (zbb zaI (by rfl) T.nlen (by rfl) (pa_N (pv 0) zad)) zad))) (zaf (i:=1) zcI.nd (by rfl) (Or.inl rfl))
   (zag (ps_if (zaB (zlQ hu0) (zah g_cell_order.ok (hr.mono (by decide)) (by rfl) g_cell_order.m g_cell_order.kp g_cell_order.b .nil pass0 (zam (pe_ix zcp (pv 0) (pv 1) (fun _ _=>rfl)) zad)) (zah g_cell_order.ok (hr.mono (by decide)) (by rfl) g_cell_order.m g_cell_order.kp g_cell_order.b .nil pass0 (zam (pe_ix zcp (pv 0) (pe_op zdj (pv 1) zak) (fun _ _=>rfl)) zad)) (zaz _))
   (zag zdy)
   za9)))
   (zag (zat pe_bl))),?_⟩
  refine⟨_,rfl,a,_,rfl,.inl hq,_,_,rfl,⟨by decide,by decide,by lia,by lia⟩,?_⟩
  refine zck (lo:=1) (n:=((ws.length:Int) - 1).toNat) (fun i σ H2=>∃ o,σ=[some (.ref a),o]∧Same H H2) ⟨_,rfl,Same.refl _⟩ ?_ ?_
  ·rintro i σ H2 hi ⟨o,rfl,s2⟩
   have h1:i+1<ws.length:=by lia
   have v1:ws[i+1]?=some ws[i+1]:=List.getElem?_eq_getElem h1
   have v0:ws[i]?=some ws[i]:=List.getElem?_eq_getElem (by lia)
   have c1:cs[i+1]?=some cs[i+1]:=List.getElem?_eq_getElem (by lia)
   have c0:cs[i]?=some cs[i]:=List.getElem?_eq_getElem (by lia)
   obtain⟨b1,e1,q1⟩:=hc (i+1) _ _ c1 v1
   obtain⟨b0,e0,q0⟩:=hc i _ _ c0 v0
   refine⟨_,rfl,_,rfl,a,_,_,_,rfl,rfl,s2.seq hq,(by rw[show (1:Int)+(i:Int)=((i+1:Nat):Int) by lia];exact zbm v1),b1,_,_,[],(by rw[e1];rfl),SqT.of (s2 _ _ q1),fun p1 H3 hp1 s3 f1=>?_⟩
   refine⟨_,rfl,_,rfl,_,_,rfl,rfl,a,_,_,_,rfl,rfl,(s2.trans s3).seq hq,(by rw[show (1:Int)+(i:Int) - 1=(i:Int) by lia];exact zbm v0),b0,_,_,[],(by rw[e0];rfl),SqT.of ((s2.trans s3) _ _ q0),fun p0 H4 hp0 s4 f0=>?_⟩
   refine⟨p1,p0,[cs[i+1].2,cs[i+1].1],[cs[i].2,cs[i].1],rfl,rfl,SqT.of (s4 _ _ f1),SqT.of f0,_,rfl,iteN ?_ ?_⟩
   ·rw[HT.lexLe_eq,ho i _ _ c0 c1];rfl
   ·exact⟨_,rfl,(s2.trans s3).trans s4⟩
  ·rintro σ H2 ⟨o,rfl,s2⟩
   exact k H2 s2
def kC (c:Cell):List Key:=[Sum.inl c.1,Sum.inl c.2]
theorem zi2 {c d:Cell}:kC c=kC d ↔ c=d:=by
 constructor
 ·intro h
  unfold kC at h
  injection h with h1 h2
  injection h2 with h2 _
  exact Prod.ext (Sum.inl.inj h1) (Sum.inl.inj h2)
 ·rintro rfl;rfl
def zgo (K:W.Frag):Sp:=fun vs H Q _=>∃ (a:Addr) (cs:List Cell),vs=[.ref a]∧LR K H a cs cR∧cs.length≤1000∧∀ t H',H t=none→Same H H'→Tab H' t (isIn cs)→Q (.ref t) H'
theorem ze6 (d:Df K mg "cell_table" zaW ["picture"]):FnOk P w K mg base CX0 1 d.f d.fd ["picture"] (zgo K):=by
 refine d.F.ok zeR (fun vs H Q E h=>?_) (fun cdv A outer s H vs Q E hr h=>?_)
 ·obtain⟨a,cs,rfl,_⟩:=h
  rfl
 ·obtain⟨a,cs,rfl,⟨ws,hq,hn,hc⟩,hlen,k⟩:=h
  have hu1:=hu_of hr
  have nb0:(["cell"]:List Str).Nodup:=by decide +kernel
  refine⟨_,(zag (zat (zjV hu1 (osc:=zab zaW) (N:=zdp) (N':=["cell"]) (sel:=[none]) ⟨rfl,by decide +kernel,by decide +kernel,by decide +kernel,rfl,by decide +kernel⟩ (zba (pv 0)) (fun _ _ _ _ _=>(zaf (i:=0) nb0 (by rfl) (Or.inl rfl))) (fun _ _ _ _ _=>zc9) (fun _ _ _ _ _=>(pv 0)) (fun _ _ _ _ _=>pe_bl)))),?_⟩
  refine⟨_,rfl,a,rfl,⟨_,hq⟩,fun p hp=>?_⟩
  refine zaD (K:=K) (a:=a) (xs:=ws) (fun i σ H2=>∃ o,σ=[o]∧Same H H2∧∃ kvs,H2 p=some (.dT kvs)∧kvs.length≤i∧∀ c:Cell,(valV kvs (kC c)).isSome=decide (c∈cs.take i))
   ⟨_,rfl,Same.up hp,[],zaa,Nat.le_refl _,fun c=>by simp[valV]⟩ (fun i σ H2 _ ⟨_,_,s2,_⟩=>s2.seq hq) ?_ ?_
  ·rintro i v σ H2 hi ⟨o,rfl,s2,kvs,e2,hl,hv⟩
   have hil:i<ws.length:=(List.getElem?_eq_some_iff.mp hi).1
   have ci:cs[i]?=some cs[i]:=List.getElem?_eq_getElem (by lia)
   obtain⟨b,rfl,q⟩:=hc i _ _ ci hi
   refine gN ?_
   refine⟨_,rfl,_,.inr ⟨kvs,kC cs[i],b,e2,rfl,s2 _ _ q,zap (by lia),rfl⟩,_,rfl,fun z o e=>?_,_,zaa,?_,fun c=>?_⟩
   ·rw[zaj (zar e hp)];exact s2 z o e
   ·exact Nat.le_trans (zaR _ _ _) (by lia)
   ·rw[zcA]
    by_cases e:c=cs[i]
    ·rw[if_pos (zi2.mpr e),decide_eq_true ((zbW ci).mpr (.inr e))];rfl
    ·rw[if_neg (fun z=>e (zi2.mp z)),hv]
     exact decide_eq_decide.mpr ⟨fun z=>(zbW ci).mpr (.inl z),fun z=>((zbW ci).mp z).resolve_right e⟩
  ·rintro σ H2 ⟨o,rfl,s2,kvs,e2,hl,hv⟩
   refine k p H2 hp s2 ⟨kvs,e2,fun c=>?_⟩
   show (valV kvs (kC c)).isSome=isIn cs c
   rw[hv,hn,List.take_length];rfl
def zie (K:W.Frag):Sp:=fun vs H Q _=>∃ (t a:Addr) (C:Cell→Bool) (e:Edge),vs=[.ref t,.ref a]∧Tab H t C∧SqT K H a (edgeT e)∧e.w<4∧∀ H',Same H H'→Q (sv (stepB C e)) H'
theorem zd7 (g_gone : Fn P w K mg base 1 "gone" ["x", "y", "step"] zfy) (g_slant_step : Fn P w K mg base 1 "slant_step" ["way"] zgp) (g_straight_step : Fn P w K mg base 1 "straight_step" ["way"] zc8)
  (d:Df K mg "step_behind" zaX ["table","edge"]):FnOk P w K mg base CX0 2 d.f d.fd ["table","edge"] (zie K):=by
 refine d.F.ok zbo (fun vs H Q E h=>?_) (fun cdv A outer s H vs Q E hr h=>?_)
 ·obtain⟨t,a,C,e,rfl,_⟩:=h
  rfl
 ·obtain⟨t,a,C,e,rfl,⟨kvs,ht,hC⟩,hq,hw,k⟩:=h
  have hu1:=hu_of hr
  refine⟨_,(zac (zct (pv 1) (zbL (by rfl) (zae (zaf (i:=2) zbo.nd (by rfl) (Or.inl rfl)) (zae (zaf (i:=3) zbo.nd (by rfl) (Or.inl rfl)) (zae (zaf (i:=4) zbo.nd (by rfl) (Or.inl rfl)) zay)))))
   (zac (zbX PassesOwn.never rfl (zkw (zbj (zam (zah g_slant_step.ok (hr.mono (by decide)) (by rfl) g_slant_step.m g_slant_step.kp g_slant_step.b .nil pass0 (pa_N (pv 4) zad)) (zam (zah g_straight_step.ok (hr.mono (by decide)) (by rfl) g_straight_step.m g_straight_step.kp g_straight_step.b .nil pass0 (pa_N (pv 4) zad)) zad)))) (zaf (i:=5) zbo.nd (by rfl) (Or.inl rfl))
   (zag (ps_if (zix (zlP hu1 (zah g_gone.ok (hr.mono (by decide)) (by rfl) g_gone.m g_gone.kp g_gone.b .nil pass0 (pa_N (pv 2) (pa_N (pv 3) (pa_N (pv 5) zad)))) (pv 0)))
   (zag (zat (pv 5)))
   za9)))
   (zag (zat zci)))),?_⟩
  refine⟨_,rfl,a,_,rfl,hq,rfl,_,_,rfl,_,_,rfl,_,_,rfl,rfl,?_⟩
  refine⟨_,rfl,e.w,rfl,hw,_,rfl,e.w,rfl,hw,two,fun p hp=>⟨p,rfl,⟨_,SqT.of zaa⟩,?_⟩⟩
  refine zjb (K:=K) (a:=p) (xs:=[.int ((2*e.w+7) % 8:Nat),.int (2*e.w:Nat)]) (fun i σ H2=>∃ o,σ=[some (.ref t),some (.ref a),some (.int e.c.1),some (.int e.c.2),some (.int e.w),o]∧Same (upd H p (.tup [.int ((2*e.w+7) % 8:Nat),.int (2*e.w:Nat)])) H2∧(1≤i→C (go e.c ((2*e.w+7) % 8))=false)∧(2≤i→C (go e.c (2*e.w))=false))
   ⟨_,rfl,Same.refl _,fun h=>absurd h (by decide),fun h=>absurd h (by decide)⟩ (fun i σ H2 _ ⟨_,_,s2,_⟩=>s2.seqT (SqT.of zaa)) ?_ ?_
  ·rintro i v σ H2 hi ⟨o,rfl,s2,n1,n2⟩
   have sH:Same H H2:=(Same.up hp).trans s2
   match i,hi with
   | 0,hi =>
    cases hi
    refine⟨_,rfl,_,rfl,_,rfl,e.c,(2*e.w+7) % 8,rfl,by lia,fun p1 H3 hp1 s3 f1=>?_⟩
    refine⟨_,rfl,t,_,rfl,.inr ⟨kvs,kC (go e.c ((2*e.w+7) % 8)),p1,Rd.of ((sH.trans s3) _ _ ht),rfl,f1,rfl⟩,_,rfl,?_⟩
    have hv:=hC (go e.c ((2*e.w+7) % 8))
    change (valV kvs (kC (go e.c ((2*e.w+7) % 8)))).isSome=_ at hv
    rw[hv]
    refine ite2 (fun hy=>?_) (fun hn=>?_)
    ·refine⟨_,rfl,?_⟩
     have:=k H3 (sH.trans s3)
     unfold stepB at this
     rw[if_pos hy] at this
     exact this
    ·exact⟨_,rfl,s2.trans s3,fun _=>by simpa using hn,fun h=>absurd h (by decide)⟩
   | 1,hi =>
    cases hi
    refine⟨_,rfl,_,rfl,_,rfl,e.c,2*e.w,rfl,by lia,fun p1 H3 hp1 s3 f1=>?_⟩
    refine⟨_,rfl,t,_,rfl,.inr ⟨kvs,kC (go e.c (2*e.w)),p1,Rd.of ((sH.trans s3) _ _ ht),rfl,f1,rfl⟩,_,rfl,?_⟩
    have hv:=hC (go e.c (2*e.w))
    change (valV kvs (kC (go e.c (2*e.w)))).isSome=_ at hv
    rw[hv]
    have h1:=n1 (by decide)
    refine ite2 (fun hy=>?_) (fun hn=>?_)
    ·refine⟨_,rfl,?_⟩
     have:=k H3 (sH.trans s3)
     unfold stepB at this
     rw[h1,if_neg (by decide),if_pos hy] at this
     exact this
    ·exact⟨_,rfl,s2.trans s3,fun _=>h1,fun _=>by simpa using hn⟩
   | i+2,hi=>simp at hi
  ·rintro σ H2 ⟨o,rfl,s2,n1,n2⟩
   have:=k H2 ((Same.up hp).trans s2)
   unfold stepB at this
   rw[n1 (by simp),n2 (by simp),if_neg (by decide),if_neg (by decide)] at this
   exact this
def zdF (K:W.Frag):Sp:=fun vs H Q _=>∃ (a:Addr) (e:Edge) (o:Option Nat),vs=[.ref a,sv o]∧SqT K H a (edgeT e)∧e.w<4∧(∀ s,o=some s→s<8)∧∀ (p:Addr) (H':Hp),H p=none→Same H H'→H' p=some (.tup (edgeT (edgeB e o)))→Q (.ref p) H'
theorem zec (g_gone : Fn P w K mg base 1 "gone" ["x", "y", "step"] zfy) (g_is_slant : Fn P w K mg base 1 "is_slant" ["step"] zc1)
  (d:Df K mg "edge_behind" za0 ["edge","step"]):FnOk P w K mg base CX0 2 d.f d.fd ["edge","step"] (zdF K):=by
 refine d.F.ok za5 (fun vs H Q E h=>?_) (fun cdv A outer s H vs Q E hr h=>?_)
 ·obtain⟨a,e,o,rfl,_⟩:=h
  rfl
 ·obtain⟨a,e,o,rfl,hq,hw,ho,k⟩:=h
  refine⟨_,(zac (zct (pv 0) (zbL (by rfl) (zae (zaf (i:=2) za5.nd (by rfl) (Or.inl rfl)) (zae (zaf (i:=3) za5.nd (by rfl) (Or.inl rfl)) (zae (zaf (i:=4) za5.nd (by rfl) (Or.inl rfl)) zay)))))
   (zac (ps_if (zaB ziL (pv 1) zci (zaz _))
   (zag (zat (zbj (pa_N (pv 2) (pa_N (pv 3) (pa_B (pe_op zbM (pe_op zbI (pv 4) zak) zak) zad))))))
   za9)
   (zac (zct (zah g_gone.ok (hr.mono (by decide)) (by rfl) g_gone.m g_gone.kp g_gone.b .nil pass0 (pa_N (pv 2) (pa_N (pv 3) (pa_N (pv 1) zad)))) (zbL (by rfl) (zae (zaf (i:=5) za5.nd (by rfl) (Or.inl rfl)) (zae (zaf (i:=6) za5.nd (by rfl) (Or.inl rfl)) zay))))
   (zac (ps_if (zfH (zah g_is_slant.ok (hr.mono (by decide)) (by rfl) g_is_slant.m g_is_slant.kp g_is_slant.b .nil pass0 (pa_N (pv 1) zad)))
   (zag (zat (zbj (pa_N (pv 5) (pa_N (pv 6) (pa_B (pe_op zbM (pe_op zbI (pv 4) zak) zak) zad))))))
   za9)
   (zag (zat (zbj (pa_N (pv 5) (pa_N (pv 6) (pa_N (pv 4) zad)))))))))),?_⟩
  refine⟨_,rfl,a,_,rfl,hq,rfl,_,_,rfl,_,_,rfl,_,_,rfl,rfl,?_⟩
  cases o with
  | none =>
   refine⟨_,rfl,rfl,true,rfl,iteT ?_⟩
   refine⟨_,rfl,_,rfl,_,rfl,_,_,rfl,rfl,_,_,rfl,rfl,(by show (0:Int)<4;decide),three,fun p hp=>k p _ hp (Same.up hp) ?_⟩
   rw[zaa]
   have e1:((e.w:Int)+1) % 4=(((e.w+1) % 4:Nat):Int):=by lia
   show some (HO.tup [.int e.c.1,.int e.c.2,.int (((e.w:Int)+1) % 4)])=_
   rw[e1];rfl
  | some n =>
   refine⟨_,rfl,rfl,false,rfl,iteF ?_⟩
   refine⟨_,rfl,_,rfl,_,rfl,e.c,n,rfl,ho n rfl,fun p1 H1 hp1 s1 f1=>?_⟩
   refine⟨p1,_,rfl,SqT.of f1,rfl,_,_,rfl,_,_,rfl,rfl,?_⟩
   refine⟨_,rfl,some n,rfl,_,rfl,?_⟩
   refine ite2 (fun hs=>?_) (fun hs=>?_)
   ·refine⟨_,rfl,_,rfl,_,rfl,_,_,rfl,rfl,_,_,rfl,rfl,(by show (0:Int)<4;decide),three,fun p hp=>k p _ (s1.free hp) (s1.trans (Same.up hp)) ?_⟩
    rw[zaa]
    have e1:((e.w:Int)+3) % 4=(((e.w+3) % 4:Nat):Int):=by lia
    have hn:n % 2=1:=by simpa[slant] using hs
    show some (HO.tup [.int (go e.c n).1,.int (go e.c n).2,.int (((e.w:Int)+3) % 4)])=_
    rw[e1]
    unfold edgeB
    simp only[if_pos hn]
    rfl
   ·refine⟨_,rfl,_,rfl,_,rfl,three,fun p hp=>k p _ (s1.free hp) (s1.trans (Same.up hp)) ?_⟩
    rw[zaa]
    have hn:¬ n % 2=1:=by simpa[slant] using hs
    unfold edgeB
    simp only[if_neg hn]
    rfl
end
open PySem L2 RP
def KT (H H':Hp):Prop:=∀ b xs,H b=some (.tup xs)→H' b=some (.tup xs)
theorem KT.refl (H:Hp):KT H H:=fun _ _ h=>h
theorem KT.trans {H H1 H2:Hp}(a:KT H H1) (b:KT H1 H2):KT H H2:=fun c o h=>b c o (a c o h)
theorem KT.of {H H':Hp}(s:Same H H'):KT H H':=fun b xs e=>s b _ e
theorem KT.up {H:Hp}{p:Addr}{o:HO}(h:H p=none):KT H (upd H p o):=KT.of (Same.up h)
theorem KT.lst {H:Hp}{p:Addr}{xs:List V}{o:HO}(h:H p=some (.lst xs)):KT H (upd H p o):=fun b ys e=>by
 rw[zaj (ne_of e h (fun z=>nomatch z))];exact e
theorem KT.dct {H:Hp}{p:Addr}{xs:List (List Key×V)}{o:HO}(h:H p=some (.dT xs)):KT H (upd H p o):=fun b ys e=>by
 rw[zaj (ne_of e h (fun z=>nomatch z))];exact e
theorem cR.kt {c:Cell}{v:V}{H H':Hp}(h:cR c v H) (s:KT H H'):cR c v H':=let ⟨b,e,q⟩:=h;⟨b,e,s _ _ q⟩
theorem eR.kt {c:Edge}{v:V}{H H':Hp}(h:eR c v H) (s:KT H H'):eR c v H':=let ⟨b,e,q⟩:=h;⟨b,e,s _ _ q⟩
theorem wR.kt {c:Edge×Option Nat}{v:V}{H H':Hp}(h:wR c v H) (s:KT H H'):wR c v H':=let ⟨A,b,e,q,r⟩:=h;⟨A,b,e,s _ _ q,s _ _ r⟩
def VR {α:Type}(vs:List V) (l:List α) (R:α→V→Hp→Prop) (H:Hp):Prop:=vs.length=l.length∧∀ (i:Nat) x v,l[i]?=some x→vs[i]?=some v→R x v H
theorem VR.nil {α:Type}{R:α→V→Hp→Prop}{H:Hp}:VR [] ([]:List α) R H:=⟨rfl,fun i x v h=>by simp at h⟩
theorem VR.snoc {α:Type}{vs:List V}{l:List α}{R:α→V→Hp→Prop}{H H':Hp}{x:α}{v:V}(h:VR vs l R H) (m:∀ x v,R x v H→R x v H') (hx:R x v H'):VR (vs++[v]) (l++[x]) R H':=by
 refine⟨by simp[h.1],fun i y u h1 h2=>?_⟩
 rcases Nat.lt_or_ge i l.length with hi | hi
 ·rw[List.getElem?_append_left hi] at h1
  rw[List.getElem?_append_left (by rw[h.1];exact hi)] at h2
  exact m _ _ (h.2 i y u h1 h2)
 ·rw[List.getElem?_append_right hi] at h1
  rw[List.getElem?_append_right (by rw[h.1];exact hi)] at h2
  have hz:i - l.length=0:=by
   have:=(List.getElem?_eq_some_iff.mp h1).1
   simp at this;lia
  rw[hz] at h1
  rw[h.1,hz] at h2
  cases h1;cases h2
  exact hx
theorem VR.mono {α:Type}{vs:List V}{l:List α}{R:α→V→Hp→Prop}{H H':Hp}(h:VR vs l R H) (m:∀ x v,R x v H→R x v H'):VR vs l R H':=⟨h.1,fun i x v h1 h2=>m _ _ (h.2 i x v h1 h2)⟩
theorem VR.at {α:Type}{vs:List V}{l:List α}{R:α→V→Hp→Prop}{H:Hp}(h:VR vs l R H){i:Nat}{v:V}(hv:vs[i]?=some v):∃ x,l[i]?=some x∧R x v H:=by
 have hi:i<l.length:=by rw[← h.1];exact (List.getElem?_eq_some_iff.mp hv).1
 exact⟨l[i],List.getElem?_eq_getElem hi,h.2 i _ v (List.getElem?_eq_getElem hi) hv⟩
theorem zav {H H2:Hp}{p:Addr}{o:HO}(hp:H p=none) (s:Same H H2):Same H (upd H2 p o):=fun z u e=>by rw[zaj (zar e hp)];exact s z u e
theorem zhB (cs:List Cell) (c:Cell):sides (cs++[c])=sides cs++(List.range 4).map fun w=>⟨c,w⟩:=by unfold sides;simp[List.flatMap_append]
theorem zaJ {α:Type}{l:List α}{i:Nat}{x:α}(h:l[i]?=some x):l.take (i+1)=l.take i++[x]:=by rw[List.take_succ,h];rfl
theorem zdW {α:Type}(p:α→Bool) (l:List α) (x:α):(l++[x]).filter p=l.filter p++(if p x=true then [x] else []):=by
 rw[List.filter_append];congr 1;simp[List.filter_cons]
section
variable {P:Program}{w:World}{K:W.Frag}{mg:Str→Option Value}{base:Heap}
def zkp (K:W.Frag):Sp:=fun vs H Q _=>∃ (a:Addr) (cs:List Cell),vs=[.ref a]∧LR K H a cs cR∧cs.length≤120∧∀ p H' es,H p=none→Same H H'→H' p=some (.lst es)→VR es (allE cs) eR H'→Q (.ref p) H'
theorem zfO (T : Txt P w K mg) (g_cell_table : Fn P w K mg base 1 "cell_table" ["picture"] (zgo K)) (g_gap_beside : Fn P w K mg base 2 "gap_beside" ["edge"] (spGap K))
  (d:Df K mg "all_edges" za3 ["picture"]):FnOk P w K mg base CX0 3 d.f d.fd ["picture"] (zkp K):=by
 refine d.F.ok zcu (fun vs H Q E h=>?_) (fun cdv A outer s H vs Q E hr h=>?_)
 ·obtain⟨a,cs,rfl,_⟩:=h
  rfl
 ·obtain⟨a,cs,rfl,hLR,hlen,k⟩:=h
  obtain⟨ws,hq,hn,hc⟩:=id hLR
  have hu1:=hu_of hr
  have nb0:(["x","y","way"]:List Str).Nodup:=by decide +kernel
  have nb1:(["edge","table"]:List Str).Nodup:=by decide +kernel
  refine⟨_,(zac (zaq (i:=1) zcu.nd (by rfl) (Or.inr rfl) (zah g_cell_table.ok (hr.mono (by decide)) (by rfl) g_cell_table.m g_cell_table.kp g_cell_table.b .nil pass0 (pa_N (pv 0) zad)))
   (zac (ziz (i:=2) (osc:=zab za3) (N:=zcU) (N':=["x","y","way"]) (sel:=[none,none,none]) ⟨rfl,by decide +kernel,by decide +kernel,by decide +kernel,rfl,by decide +kernel⟩ zcu.nd (by rfl) (Or.inl rfl) (zba (pv 0)) (fun _ _ _ _ _=>(zcw (K:=K) (n:=2) (by rfl) (zae (zaf (i:=0) nb0 (by rfl) (Or.inl rfl)) (zae (zaf (i:=1) nb0 (by rfl) (Or.inl rfl)) zay)))) (fun _ _ _ _ _=>zc9) (fun _ _ _ _ _=>(zc3 (by rfl) T.nrange (pa_C zak zad))) (fun _ _ _ _ _=>(zaf (i:=2) nb0 (by rfl) (Or.inl rfl))) (fun _ _ _ _ _=>zc9) (fun _ _ _ _ _=>(zbj (pa_N (pv 0) (pa_N (pv 1) (pa_N (pv 2) zad))))) (fun _ _ _=>rfl))
   (zag (zat (zbT (osc:=zab za3) (N:=zcU) (N':=["edge","table"]) (sel:=[none,some 1]) ⟨rfl,by decide +kernel,by decide +kernel,by decide +kernel,rfl,by decide +kernel⟩ (zba (pv 2)) (fun _ _ _ _ _=>(zaf (i:=0) nb1 (by rfl) (Or.inl rfl))) (fun _ _ _ _ _=>zcN (zix (zfK hu1 (zah g_gap_beside.ok (hr.mono (by decide)) (by rfl) g_gap_beside.m g_gap_beside.kp g_gap_beside.b .nil pass0 (pa_N (pv 0) zad)) (pv 1)))) (fun _ _ _ _ _=>(pv 0))))))),?_⟩
  refine⟨_,rfl,a,cs,rfl,hLR,by lia,fun t H1 ht s1 tab=>?_⟩
  obtain⟨kvs,et,hC⟩:=tab
  refine⟨_,rfl,a,rfl,⟨_,s1.seq hq⟩,fun p hp=>?_⟩
  refine zaD (K:=K) (a:=a) (xs:=ws) (fun i σ H2=>∃ o1 o2 o3,σ=[o1,o2,o3]∧Same H1 H2∧∃ es,H2 p=some (.lst es)∧VR es (sides (cs.take i)) eR H2)
   ⟨_,_,_,rfl,Same.up hp,[],zaa,VR.nil⟩ (fun i σ H2 _ ⟨_,_,_,_,s2,_⟩=>(s1.trans s2).seq hq) ?_ ?_
  ·rintro i v σ H2 hi ⟨o1,o2,o3,rfl,s2,es,e2,hv⟩
   have hil:i<ws.length:=(List.getElem?_eq_some_iff.mp hi).1
   have ci:cs[i]?=some cs[i]:=List.getElem?_eq_getElem (by lia)
   obtain⟨b,rfl,qb⟩:=hc i _ _ ci hi
   refine⟨b,_,rfl,SqT.of ((s1.trans s2) _ _ qb),rfl,_,_,rfl,_,_,rfl,rfl,?_⟩
   refine zcX ?_
   refine⟨4,rfl,by decide,by decide,?_⟩
   refine zck (lo:=0) (n:=4) (fun j σ H3=>∃ o,σ=[some (.int cs[i].1),some (.int cs[i].2),o]∧Same H1 H3∧∃ es,H3 p=some (.lst es)∧VR es (sides (cs.take i)++(List.range j).map fun w=>⟨cs[i],w⟩) eR H3)
    ⟨_,rfl,s2,es,e2,by simpa using hv⟩ ?_ ?_
   ·rintro j σ H3 hj ⟨o,rfl,s3,es3,e3,hv3⟩
    have hl3:es3.length≤1000:=by
     rw[hv3.1,List.length_append,zby,List.length_take,List.length_map,List.length_range];lia
    refine gN ?_
    refine⟨_,rfl,_,rfl,_,rfl,three,fun q hq'=>⟨es3,?_,zap hl3,_,rfl,zav hp (s3.trans (Same.up hq')),_,zaa,?_⟩⟩
    ·rw[zaj (zar e3 hq')];exact e3
    ·rw[List.range_succ,List.map_append,← List.append_assoc]
     have hpq:p≠q:=zar e3 hq'
     have k2:KT (upd H3 q (.tup [.int cs[i].1,.int cs[i].2,.int (0+(j:Int))])) (upd (upd H3 q (.tup [.int cs[i].1,.int cs[i].2,.int (0+(j:Int))])) p (.lst (es3++[.ref q]))):=KT.lst (xs:=es3) (by rw[zaj hpq];exact e3)
     refine hv3.snoc (fun x v hx=>hx.kt ((KT.up hq').trans k2)) ⟨q,rfl,k2 _ _ ?_⟩
     rw[zaa]
     show some (HO.tup [.int cs[i].1,.int cs[i].2,.int (0+(j:Int))])=some (HO.tup [.int cs[i].1,.int cs[i].2,.int (j:Int)])
     rw[Int.zero_add]
   ·rintro σ H3 ⟨o,rfl,s3,es3,e3,hv3⟩
    exact⟨_,_,_,rfl,s3,es3,e3,by rw[zaJ ci,zhB];exact hv3⟩
  ·rintro σ H2 ⟨o1,o2,o3,rfl,s2,es,e2,hv⟩
   rw[hn,List.take_length] at hv
   have hles:es.length≤1000:=by rw[hv.1,zby];lia
   refine⟨_,rfl,p,rfl,⟨_,SqL.of e2⟩,fun p2 hp2=>?_⟩
   refine zaD (K:=K) (a:=p) (xs:=es) (fun i σ H3=>∃ o,σ=[o,some (.ref t)]∧Same H2 H3∧∃ es3,H3 p2=some (.lst es3)∧VR es3 (((sides cs).take i).filter fun e=>!isIn cs (gap e)) eR H3)
    ⟨_,rfl,Same.up hp2,[],zaa,VR.nil⟩ (fun i σ H3 _ ⟨_,_,s3,_⟩=>s3.seq (SqL.of e2)) ?_ ?_
   ·rintro i v σ H3 hi ⟨o,rfl,s3,es3,e3,hv3⟩
    obtain⟨e,he,b,rfl,qb⟩:=hv.at hi
    have hw4:e.w<4:=(zcx.mp (List.mem_of_getElem? he)).2
    have hl3:es3.length≤1000:=by
     have h1:=List.length_filter_le (fun e=>!isIn cs (gap e)) ((sides cs).take i)
     rw[hv3.1]
     rw[List.length_take,zby] at h1
     lia
    refine⟨_,rfl,b,e,rfl,SqT.of (s3 _ _ qb),hw4,fun p3 H4 hp3 s4 f4=>?_⟩
    refine⟨_,rfl,t,_,rfl,.inr ⟨kvs,kC (gap e),p3,Rd.of ((s2.trans (s3.trans s4)) _ _ et),rfl,f4,rfl⟩,_,rfl,?_⟩
    have hcv:=hC (gap e)
    change (valV kvs (kC (gap e))).isSome=_ at hcv
    rw[hcv,zaJ he,zdW]
    refine ite2 (fun hy=>?_) (fun hn'=>?_)
    ·refine⟨_,rfl,es3,s4 _ _ e3,zap hl3,_,rfl,zav hp2 (s3.trans s4),_,zaa,?_⟩
     rw[if_pos hy]
     have k2:KT H4 (upd H4 p2 (.lst (es3++[.ref b]))):=KT.lst (s4 _ _ e3)
     exact hv3.snoc (fun x v hx=>hx.kt ((KT.of s4).trans k2)) ⟨b,rfl,k2 _ _ ((s3.trans s4) _ _ qb)⟩
    ·refine⟨_,rfl,s3.trans s4,es3,s4 _ _ e3,?_⟩
     rw[if_neg hn',List.append_nil]
     exact hv3.mono fun x v hx=>hx.kt (KT.of s4)
   ·rintro σ H3 ⟨o,rfl,s3,es3,e3,hv3⟩
    rw[hv.1,List.take_length] at hv3
    exact k p2 H3 es3 (s1.free (s2.free hp2)) (s1.trans (s2.trans s3)) e3 hv3
end
open PySem L2 RP
def eI (e:Edge):List Int:=[e.c.1,e.c.2,(e.w:Int)]
theorem zhn {e f:Edge}:eI e=eI f ↔ e=f:=by
 constructor
 ·intro h
  obtain⟨⟨x,y⟩,w⟩:=e
  obtain⟨⟨x',y'⟩,w'⟩:=f
  unfold eI at h
  injection h with h1 h2
  injection h2 with h2 h3
  injection h3 with h3 _
  simp only at h1 h2 h3
  have:w=w':=by lia
  subst h1 h2 this
  rfl
 ·rintro rfl;rfl
theorem zcv {K:W.Frag}{H:Hp}{b:Addr}{e:Edge}(h:H b=some (.tup (edgeT e))):RD K H (.ref b) (tI (eI e)):=.tup (SqT.of h) (RDs.ints (eI e))
theorem zcZ {C:Cell→Bool}{e:Edge}(hw:e.w<4):∀ s,stepB C e=some s→s<8:=by
 intro s h
 unfold stepB at h
 split at h
 ·cases h;lia
 ·split at h
  ·cases h;lia
  ·cases h
def wk (C:Cell→Bool) (es:List Edge):List (Edge×Option Nat):=es.map fun e=>(e,stepB C e)
theorem zkJ (C:Cell→Bool) (es:List Edge) (e:Edge):wk C (es++[e])=wk C es++[(e,stepB C e)]:=by unfold wk;simp
theorem zbV (C:Cell→Bool) (es:List Edge):(wk C es).length=es.length:=by unfold wk;simp
def ziV:Option HO→Nat
 | some (.lst ws)=>ws.length
 | _=>0
section
variable {P:Program}{w:World}{K:W.Frag}{mg:Str→Option Value}{base:Heap}
def zkk (K:W.Frag):Sp:=fun vs H Q _=>∃ (t a:Addr) (cs:List Cell) (b:Edge),vs=[.ref t,.ref a]∧Tab H t (isIn cs)∧H a=some (.tup (edgeT b))∧IsE (isIn cs) b∧cs.length≤120 ∧
 ∀ p H' ws es,H p=none→Same H H'→H' p=some (.lst ws)→VR ws (wk (isIn cs) es) wR H'→Closed (isIn cs) b es→Q (.ref p) H'
theorem zfM (g_step_behind : Fn P w K mg base 2 "step_behind" ["table", "edge"] (zie K)) (g_edge_behind : Fn P w K mg base 2 "edge_behind" ["edge", "step"] (zdF K))
  (d:Df K mg "walk_from" zbt ["table","begin"]):FnOk P w K mg base CX0 3 d.f d.fd ["table","begin"] (zkk K):=by
 refine d.F.ok zbA (fun vs H Q E h=>?_) (fun cdv A outer s H vs Q E hr h=>?_)
 ·obtain⟨t,a,cs,b,rfl,_⟩:=h
  rfl
 ·obtain⟨t,a,cs,b,rfl,tab,ha,hb,hlen,k⟩:=h
  have hu64:=hr.units
  refine⟨_,(zac (zaq (i:=2) zbA.nd (by rfl) (Or.inl rfl) (zah g_step_behind.ok (hr.mono (by decide)) (by rfl) g_step_behind.m g_step_behind.kp g_step_behind.b .nil pass0 (pa_N (pv 0) (pa_N (pv 1) zad))))
   (zac (zaq (i:=3) zbA.nd (by rfl) (Or.inl rfl) (zcj (pa_T (zbj (pa_N (pv 1) (pa_N (pv 2) zad))) zad)))
   (zac (zaq (i:=4) zbA.nd (by rfl) (Or.inl rfl) (zah g_edge_behind.ok (hr.mono (by decide)) (by rfl) g_edge_behind.m g_edge_behind.kp g_edge_behind.b .nil pass0 (pa_N (pv 1) (pa_N (pv 2) zad))))
   (zac (zjP PassesOwn.never (zaB (zex hu64) (pv 4) (pv 1) (zaz _))
   (zac (zaq (i:=2) zbA.nd (by rfl) (Or.inl rfl) (zah g_step_behind.ok (hr.mono (by decide)) (by rfl) g_step_behind.m g_step_behind.kp g_step_behind.b .nil pass0 (pa_N (pv 0) (pa_N (pv 4) zad))))
   (zac (zbv (pe_bm PySem.F.plainAttrs_list PySem.F.slot_list_append PySem.F.type_list_append zbk (pv 3) (pa_T (zbj (pa_N (pv 4) (pa_N (pv 2) zad))) zad)))
   (zag (zaq (i:=4) zbA.nd (by rfl) (Or.inl rfl) (zah g_edge_behind.ok (hr.mono (by decide)) (by rfl) g_edge_behind.m g_edge_behind.kp g_edge_behind.b .nil pass0 (pa_N (pv 4) (pa_N (pv 2) zad))))))))
   (zag (zat (pv 3))))))),?_⟩
  refine⟨_,rfl,_,rfl,t,a,isIn cs,b,rfl,tab,SqT.of ha,hb.1,fun H1 s1=>?_⟩
  refine⟨_,rfl,_,rfl,two,fun q hq=>⟨(by show 1≤sizeLine;decide),fun p hp=>?_⟩⟩
  have hpq:p≠q:=fun z=>by subst z;rw[zaa] at hp;cases hp
  have hp1:H1 p=none:=by rw[zaj hpq] at hp;exact hp
  have s2:Same H1 (upd (upd H1 q (.tup [.ref a,sv (stepB (isIn cs) b)])) p (.lst [.ref q])):=zav hp1 (Same.up hq)
  refine⟨_,rfl,_,rfl,a,b,stepB (isIn cs) b,rfl,SqT.of (s2 _ _ (s1 _ _ ha)),hb.1,zcZ hb.1,fun r H3 hr3 s3 f3=>?_⟩
  have s03:Same H H3:=s1.trans (s2.trans s3)
  have hp0:H p=none:=s1.free hp1
  refine zjE (fun σ H4=>∃ ws es l o re,σ=[some (.ref t),some (.ref a),some o,some (.ref p),some (.ref re)]∧Same H H4∧H4 p=some (.lst ws)∧VR ws (wk (isIn cs) (es++[l])) wR H4∧Chain (isIn cs) b (es++[l])∧H4 re=some (.tup (edgeT (nxt (isIn cs) l))))
   (fun _ H4=>4*cs.length+1 - ziV (H4 p)) ?_ ?_ ?_
  ·refine⟨[.ref q],[],b,_,r,rfl,s03,s3 _ _ zaa,⟨rfl,fun i x v h1 h2=>?_⟩,Chain.start hb,f3⟩
   match i,h1,h2 with
   | 0,h1,h2 =>
    cases h1;cases h2
    refine⟨q,a,rfl,s3 _ _ ?_,s03 _ _ ha⟩
    rw[zaj (Ne.symm hpq),zaa]
   | i+1,h1,h2=>simp at h2
  ·rintro σ H4 ⟨ws,es,l,o,re,rfl,s4,e4,hv,hch,er⟩
   have hw4:(nxt (isIn cs) l).w<4:=(zdk (hch.2.2.1 l (by simp))).1
   refine⟨_,rfl,_,rfl,_,_,zcv er,zcv (s4 _ _ ha),zbn _,zbn _,_,rfl,?_⟩
   rw[zdX]
   by_cases hne:nxt (isIn cs) l=b
   ·rw[decide_eq_true (zhn.mpr hne)]
    refine iteF ?_
    refine⟨_,rfl,k p H4 ws (es++[l]) hp0 s4 e4 hv ⟨hch,l,?_,hne⟩⟩
    simp
   ·rw[decide_eq_false (fun z=>hne (zhn.mp z))]
    refine iteT ?_
    have hch2:=hch.more hne
    have hsh:=hch2.short
    have hl4:ws.length=(es++[l]).length:=by rw[hv.1,zbV]
    have hl5:ws.length+1≤4*cs.length:=by rw[hl4];rw[List.length_append,List.length_singleton] at hsh;exact hsh
    refine⟨_,rfl,_,rfl,t,re,isIn cs,nxt (isIn cs) l,rfl,tab.same s4,SqT.of er,hw4,fun H5 s5=>?_⟩
    refine⟨_,rfl,.inl ⟨rfl,_,SqL.of (s5 _ _ e4)⟩,_,rfl,_,rfl,two,fun q5 hq5=>?_⟩
    have e5:=s5 _ _ e4
    have hp5:p≠q5:=zar e5 hq5
    refine⟨p,ws,_,rfl,rfl,(by rw[zaj hp5];exact e5),zap (by lia),?_⟩
    have k5:KT H5 (upd (upd H5 q5 (.tup [.ref re,sv (stepB (isIn cs) (nxt (isIn cs) l))])) p (.lst (ws++[.ref q5]))):=(KT.up hq5).trans (KT.lst (xs:=ws) (by rw[zaj hp5];exact e5))
    have e6:upd (upd H5 q5 (.tup [.ref re,sv (stepB (isIn cs) (nxt (isIn cs) l))])) p (.lst (ws++[.ref q5])) re=some (.tup (edgeT (nxt (isIn cs) l))):=k5 _ _ (s5 _ _ er)
    have s6:Same H (upd (upd H5 q5 (.tup [.ref re,sv (stepB (isIn cs) (nxt (isIn cs) l))])) p (.lst (ws++[.ref q5]))):=zav hp0 ((s4.trans s5).trans (Same.up hq5))
    refine⟨_,rfl,_,rfl,re,nxt (isIn cs) l,_,rfl,SqT.of e6,hw4,zcZ hw4,fun r7 H7 hr7 s7 f7=>?_⟩
    have e7:=s7 _ _ zaa
    refine⟨⟨ws++[.ref q5],es++[l],nxt (isIn cs) l,_,r7,rfl,s6.trans s7,e7,?_,hch2,f7⟩,?_⟩
    ·rw[zkJ]
     refine hv.snoc (fun x v hx=>hx.kt ((KT.of s5).trans (k5.trans (KT.of s7)))) ⟨q5,re,rfl,s7 _ _ ?_,s7 _ _ e6⟩
     rw[zaj (Ne.symm hp5),zaa]
    ·show 4*cs.length+1 - ziV (H7 p)<4*cs.length+1 - ziV (H4 p)
     rw[e7,e4]
     show 4*cs.length+1 - (ws++[V.ref q5]).length<4*cs.length+1 - ws.length
     rw[List.length_append,List.length_singleton]
     lia
  ·rintro σ H4 Q1 Q2 hQ ⟨v,h1,v2,h2,dd,ee,r1,r2,x1,x2,kk,h3,q⟩
   exact⟨v,h1,v2,h2,dd,ee,r1,r2,x1,x2,kk,h3,hQ _ _ q⟩
end
open PySem L2 RP
abbrev Wk:=List (Edge×Option Nat)
def nL (W:Wk):Nat:=(W.filter fun q=>q.2.isNone).length
def nS (W:Wk):Nat:=(W.filter fun q=>slant q.2).length
theorem zkj (o:Option Nat):decide (sv o=V.non)=o.isNone:=by cases o <;> simp[sv]
theorem zcQ {α:Type}{p:α→Bool}{l:List α}{i:Nat}{x:α}(h:l[i]?=some x):((l.take (i+1)).filter p)=(l.take i).filter p++(if p x=true then [x] else []):=by rw[zaJ h,zdW]
theorem LR.vr {α:Type}{K:W.Frag}{H:Hp}{a:Addr}{l:List α}{R:α→V→Hp→Prop}(h:LR K H a l R):∃ vs,SqL K H a vs∧VR vs l R H:=let ⟨vs,q,n,r⟩:=h;⟨vs,q,n,r⟩
theorem LR.of {α:Type}{K:W.Frag}{H:Hp}{a:Addr}{vs:List V}{l:List α}{R:α→V→Hp→Prop}(e:H a=some (.lst vs)) (h:VR vs l R H):LR K H a l R:=⟨vs,SqL.of e,h.1,h.2⟩
section
variable {P:Program}{w:World}{K:W.Frag}{mg:Str→Option Value}{base:Heap}
def zih (K:W.Frag):Sp:=fun vs H Q _=>∃ (a:Addr) (W:Wk),vs=[.ref a]∧LR K H a W wR∧W.length≤500∧∀ p H',H p=none→Same H H'→H' p=some (.tup [.int (nL W),.int (nS W)])→Q (.ref p) H'
theorem zcO (T:Txt P w K mg) (g_is_slant:Fn P w K mg base 1 "is_slant" ["step"] zc1) (d:Df K mg "lefts_and_slants" zas ["walk"]):FnOk P w K mg base CX0 2 d.f d.fd ["walk"] (zih K):=by
 refine d.F.ok zbr (fun vs H Q E h=>?_) (fun cdv A outer s H vs Q E hr h=>?_)
 ·obtain⟨a,W,rfl,_⟩:=h
  rfl
 ·obtain⟨a,W,rfl,hLR,hlen,k⟩:=h
  obtain⟨ws,hq,hv⟩:=hLR.vr
  have nb0:(["edge","step"]:List Str).Nodup:=by decide +kernel
  have nb1:(["edge","step"]:List Str).Nodup:=by decide +kernel
  refine⟨_,(zac (zaq (i:=1) zbr.nd (by rfl) (Or.inl rfl) (zbb zaI (by rfl) T.nlen (by rfl) (zam (zbT (osc:=zab zas) (N:=zbK) (N':=["edge","step"]) (sel:=[none,none]) ⟨rfl,by decide +kernel,by decide +kernel,by decide +kernel,rfl,by decide +kernel⟩ (zba (pv 0)) (fun _ _ _ _ _=>(zcw (K:=K) (n:=2) (by rfl) (zae (zaf (i:=0) nb0 (by rfl) (Or.inl rfl)) (zae (zaf (i:=1) nb0 (by rfl) (Or.inl rfl)) zay)))) (fun _ _ _ _ _=>zcN (zaB ziL (pv 1) zci (zaz _))) (fun _ _ _ _ _=>(pv 1))) zad)))
   (zac (zaq (i:=2) zbr.nd (by rfl) (Or.inl rfl) (zbb zaI (by rfl) T.nlen (by rfl) (zam (zbT (osc:=zab zas) (N:=zbK) (N':=["edge","step"]) (sel:=[none,none]) ⟨rfl,by decide +kernel,by decide +kernel,by decide +kernel,rfl,by decide +kernel⟩ (zba (pv 0)) (fun _ _ _ _ _=>(zcw (K:=K) (n:=2) (by rfl) (zae (zaf (i:=0) nb1 (by rfl) (Or.inl rfl)) (zae (zaf (i:=1) nb1 (by rfl) (Or.inl rfl)) zay)))) (fun _ _ _ _ _=>zcN (zfH (zah g_is_slant.ok (hr.mono (by decide)) (by rfl) g_is_slant.m g_is_slant.kp g_is_slant.b .nil pass0 (pa_N (pv 1) zad)))) (fun _ _ _ _ _=>(pv 1))) zad)))
   (zag (zat (zbj (pa_N (pv 1) (pa_N (pv 2) zad))))))),?_⟩
  refine⟨_,rfl,a,rfl,⟨_,hq⟩,fun p hp=>?_⟩
  refine zaD (K:=K) (a:=a) (xs:=ws) (fun i σ H2=>∃ o1 o2,σ=[o1,o2]∧Same H H2∧∃ ss:List V,H2 p=some (.lst ss)∧ss.length=((W.take i).filter fun q=>q.2.isNone).length)
   ⟨_,_,rfl,Same.up hp,[],zaa,rfl⟩ (fun i σ H2 _ ⟨_,_,_,s2,_⟩=>s2.seq hq) ?_ ?_
  ·rintro i v σ H2 hi ⟨o1,o2,rfl,s2,ss,e2,hl⟩
   obtain⟨⟨e,st⟩,he,B,b,rfl,q1,q2⟩:=hv.at hi
   have hl2:ss.length≤1000:=by
    have:=List.length_filter_le (fun q:Edge×Option Nat=>q.2.isNone) (W.take i)
    rw[List.length_take] at this;lia
   refine⟨B,_,rfl,SqT.of (s2 _ _ q1),rfl,_,_,rfl,_,_,rfl,rfl,?_⟩
   refine⟨_,rfl,rfl,_,rfl,?_⟩
   rw[zkj]
   rw[zcQ he] at *
   refine ite2 (fun hy=>?_) (fun hn=>?_)
   ·refine⟨_,rfl,ss,e2,zap hl2,_,_,rfl,zav hp s2,_,zaa,?_⟩
    rw[if_pos hy,List.length_append,List.length_append,hl];rfl
   ·exact⟨_,_,rfl,s2,ss,e2,by rw[if_neg hn,List.append_nil];exact hl⟩
  ·rintro σ H2 ⟨o1,o2,rfl,s2,ss,e2,hl⟩
   refine⟨p,_,rfl,.inl (SqL.of e2),?_⟩
   refine⟨_,rfl,a,rfl,⟨_,s2.seq hq⟩,fun p2 hp2=>?_⟩
   refine zaD (K:=K) (a:=a) (xs:=ws) (fun i σ H3=>∃ o1 o2,σ=[o1,o2]∧Same H2 H3∧∃ s3:List V,H3 p2=some (.lst s3)∧s3.length=((W.take i).filter fun q=>slant q.2).length)
    ⟨_,_,rfl,Same.up hp2,[],zaa,rfl⟩ (fun i σ H3 _ ⟨_,_,_,s3,_⟩=>(s2.trans s3).seq hq) ?_ ?_
   ·rintro i v σ H3 hi ⟨o1,o2,rfl,s3,ss3,e3,hl3⟩
    obtain⟨⟨e,st⟩,he,B,b,rfl,q1,q2⟩:=hv.at hi
    have hl2:ss3.length≤1000:=by
     have:=List.length_filter_le (fun q:Edge×Option Nat=>slant q.2) (W.take i)
     rw[List.length_take] at this;lia
    refine⟨B,_,rfl,SqT.of ((s2.trans s3) _ _ q1),rfl,_,_,rfl,_,_,rfl,rfl,?_⟩
    refine⟨_,rfl,st,rfl,_,rfl,?_⟩
    rw[zcQ he] at *
    refine ite2 (fun hy=>?_) (fun hn=>?_)
    ·refine⟨_,rfl,ss3,e3,zap hl2,_,_,rfl,zav hp2 s3,_,zaa,?_⟩
     rw[if_pos hy,List.length_append,List.length_append,hl3];rfl
    ·exact⟨_,_,rfl,s3,ss3,e3,by rw[if_neg hn,List.append_nil];exact hl3⟩
   ·rintro σ H3 ⟨o1,o2,rfl,s3,ss3,e3,hl3⟩
    refine⟨p2,_,rfl,.inl (SqL.of e3),?_⟩
    refine⟨_,rfl,_,rfl,two,fun p4 hp4=>k p4 _ (s2.free (s3.free hp4)) ((s2.trans s3).trans (Same.up hp4)) ?_⟩
    rw[hv.1,List.take_length] at hl hl3
    rw[zaa,hl,hl3];rfl
def zig (K:W.Frag):Sp:=fun vs H Q _=>∃ (a:Addr) (W:Wk),vs=[.ref a]∧LR K H a W wR∧W.length≤500∧∀ H',Same H H'→Q (.int ((nL W:Int) - nS W)) H'
theorem zcG (g_lefts_and_slants:Fn P w K mg base 2 "lefts_and_slants" ["walk"] (zih K)) (d:Df K mg "lefts_less_slants" zaw ["walk"]):FnOk P w K mg base CX0 3 d.f d.fd ["walk"] (zig K):=by
 refine d.F.ok zbl (fun vs H Q E h=>?_) (fun cdv A outer s H vs Q E hr h=>?_)
 ·obtain⟨a,W,rfl,_⟩:=h
  rfl
 ·obtain⟨a,W,rfl,hLR,hlen,k⟩:=h
  refine⟨_,(zac (zct (zah g_lefts_and_slants.ok (hr.mono (by decide)) (by rfl) g_lefts_and_slants.m g_lefts_and_slants.kp g_lefts_and_slants.b .nil pass0 (pa_N (pv 0) zad)) (zbL (by rfl) (zae (zaf (i:=1) zbl.nd (by rfl) (Or.inl rfl)) (zae (zaf (i:=2) zbl.nd (by rfl) (Or.inl rfl)) zay))))
   (zag (zat (pe_op zdj (pv 1) (pv 2))))),?_⟩
  refine⟨_,rfl,a,W,rfl,hLR,hlen,fun p H1 hp s1 f1=>?_⟩
  refine⟨p,_,rfl,SqT.of f1,rfl,_,_,rfl,_,_,rfl,rfl,?_⟩
  exact⟨_,rfl,_,rfl,_,_,rfl,rfl,k H1 s1⟩
def sortS (W:Wk):Str:=if nS W<nL W then "rim" else "hole"
def zkm (K:W.Frag):Sp:=fun vs H Q _=>∃ (a:Addr) (W:Wk),vs=[.ref a]∧LR K H a W wR∧W.length≤500∧∀ H',Same H H'→Q (.str (sortS W)) H'
theorem zhJ (g_lefts_less_slants:Fn P w K mg base 3 "lefts_less_slants" ["walk"] (zig K)) (d:Df K mg "sort_of" zb6 ["walk"]):FnOk P w K mg base CX0 4 d.f d.fd ["walk"] (zkm K):=by
 refine d.F.ok zhD (fun vs H Q E h=>?_) (fun cdv A outer s H vs Q E hr h=>?_)
 ·obtain⟨a,W,rfl,_⟩:=h
  rfl
 ·obtain⟨a,W,rfl,hLR,hlen,k⟩:=h
  refine⟨_,(zag (zat (zeY (zaB op_gt (zah g_lefts_less_slants.ok (hr.mono (by decide)) (by rfl) g_lefts_less_slants.m g_lefts_less_slants.kp g_lefts_less_slants.b .nil pass0 (pa_N (pv 0) zad)) zak (zaz _)) zg4 zg4))),?_⟩
  refine⟨_,rfl,a,W,rfl,hLR,hlen,fun H1 s1=>?_⟩
  refine⟨_,_,rfl,rfl,_,rfl,?_⟩
  have h1:=k H1 s1
  unfold sortS at h1
  by_cases hlt:nS W<nL W
  ·rw[if_pos hlt] at h1
   exact iteY (decide_eq_true (by lia)) h1
  ·rw[if_neg hlt] at h1
   exact iteN (decide_eq_false (by lia)) h1
def kOf (s:Str):Nat:=if s = "rim" then 0 else 2
def zcr (W:Wk) (s:Str) (e:Edge):Prop:=e∈W.map (·.1)∧e.w=kOf s∧∀ f∈W.map (·.1),f.w=kOf s→HT.lexLt [f.c.2,f.c.1] [e.c.2,e.c.1]=false
def zgq (K:W.Frag):Sp:=fun vs H Q _=>∃ (a:Addr) (W:Wk) (s:Str),vs=[.ref a,.str s]∧(s = "rim" ∨ s = "hole")∧LR K H a W wR∧W.length≤500∧(∃ e∈W.map (·.1),e.w=kOf s) ∧
 ∀ b e H',Same H H'→H' b=some (.tup (edgeT e))→zcr W s e→Q (.ref b) H'
theorem zgE (T:Txt P w K mg) (g_cell_order:Fn P w K mg base 1 "cell_order" ["cell"] (zeN K)) (d:Df K mg "begin_of" zbC ["walk","sort"]):FnOk P w K mg base CX0 3 d.f d.fd ["walk","sort"] (zgq K):=by
  refine d.F.ok zgu (fun vs H Q E h=>?_) (fun cdv A outer s H vs Q E hr h=>?_)
  · obtain⟨a,W,s,rfl,_⟩:=h
    rfl
  · obtain⟨a,W,so,rfl,hso,hLR,hlen,hex,k⟩:=h
    obtain⟨ws,hq,hv⟩:=hLR.vr
    have nb0:(["edge","step","sort"]:List Str).Nodup:=by decide +kernel
    refine⟨_,(zag (zat (zkZ g_cell_order.ok (hr.mono (by decide)) g_cell_order.b (by rfl) T.nmin (by rfl) g_cell_order.m (zbT (osc:=zab zbC) (N:=zeD) (N':=["edge","step","sort"]) (sel:=[none,none,some 1]) ⟨rfl,by decide +kernel,by decide +kernel,by decide +kernel,rfl,by decide +kernel⟩ (zba (pv 0)) (fun _ _ _ _ _=>(zcw (K:=K) (n:=2) (by rfl) (zae (zaf (i:=0) nb0 (by rfl) (Or.inl rfl)) (zae (zaf (i:=1) nb0 (by rfl) (Or.inl rfl)) zay)))) (fun _ _ _ _ _=>zcN (zaB op_eq (pe_ix (zlf (K:=K)) (pv 0) zak (fun _ _=>rfl)) (ziG (by rfl) T.ways (pv 2)) (zaz _))) (fun _ _ _ _ _=>(pv 0)))))),?_⟩
    refine⟨_,rfl,a,rfl,⟨_,hq⟩,fun p hp=>?_⟩
    refine zaD (K:=K) (a:=a) (xs:=ws) (fun i σ H2=>∃ o1 o2,σ=[o1,o2,some (.str so)]∧Same H H2∧∃ es:List V,H2 p=some (.lst es)∧VR es (((W.take i).filter fun q=>q.1.w == kOf so).map (·.1)) eR H2)
      ⟨_,_,rfl,Same.up hp,[],zaa,VR.nil⟩ (fun i σ H2 _ ⟨_,_,_,s2,_⟩=>s2.seq hq) ?_ ?_
    · rintro i v σ H2 hi ⟨o1,o2,rfl,s2,es,e2,hl⟩
      obtain⟨⟨e,st⟩,he,B,b,rfl,q1,q2⟩:=hv.at hi
      have hl2:es.length≤1000:=by
        have:=List.length_filter_le (fun q:Edge×Option Nat=>q.1.w == kOf so) (W.take i)
        rw[hl.1,List.length_map]
        rw[List.length_take] at this;lia
      have fin : ∀ kk : Int, kk = (kOf so : Int) → (if decide (V.int (e.w : Int) = V.int kk) = true then zcY p (tVar 0) { nx := fun σ H2 => ∃ o1 o2, σ = [o1, o2, some (V.str so)] ∧ Same H H2 ∧ ∃ es, H2 p = some (.lst es) ∧ VR es (List.map (fun x => x.fst) (List.filter (fun q => q.1.w == kOf so) (List.take (i + 1) W))) eR H2, rt := fun _ _ => False } [some (.ref b), some (sv st), some (.str so)] H2
          else (∃ o1 o2,[some (.ref b),some (sv st),some (V.str so)]=[o1,o2,some (V.str so)]∧Same H H2∧∃ es,H2 p=some (.lst es)∧VR es (List.map (fun x=>x.fst) (List.filter (fun q=>q.1.w == kOf so) (List.take (i+1) W))) eR H2)):=fun kk hk=>by
        have hd:decide (V.int (e.w:Int)=V.int kk)=(e.w == kOf so):=by
          subst hk
          by_cases q:e.w=kOf so
          · rw[q];simp
          · rw[decide_eq_false (fun z=>q (by injection z with z;lia))];simp[q]
        rw[hd,zcQ he]
        refine ite2 (fun hy=>?_) (fun hn=>?_)
        · refine⟨_,rfl,es,e2,zap hl2,_,_,rfl,zav hp s2,_,zaa,?_⟩
          rw[if_pos hy,List.map_append]
          have k2:KT H2 (upd H2 p (.lst (es++[.ref b]))):=KT.lst e2
          exact hl.snoc (fun x v hx=>hx.kt k2) ⟨b,rfl,k2 _ _ (s2 _ _ q2)⟩
        · exact⟨_,_,rfl,s2,es,e2,by rw[if_neg hn,List.append_nil];exact hl⟩
      refine⟨B,_,rfl,SqT.of (s2 _ _ q1),rfl,_,_,rfl,_,_,rfl,rfl,?_⟩
      rcases hso with z | z
      · have f0:=fin 0 (by rw[z];rfl)
        exact⟨_,rfl,b,_,_,_,rfl,rfl,SqT.of (s2 _ _ q2),zbm (j:=2) rfl,_,rfl,.inl ⟨by rw[z],rfl,_,rfl,f0⟩⟩
      · have f2:=fin 2 (by rw[z];rfl)
        exact⟨_,rfl,b,_,_,_,rfl,rfl,SqT.of (s2 _ _ q2),zbm (j:=2) rfl,_,rfl,.inr ⟨by rw[z],rfl,_,rfl,f2⟩⟩
    · rintro σ H2 ⟨o1,o2,rfl,s2,es,e2,hl⟩
      rw[hv.1,List.take_length] at hl
      obtain⟨L,hL⟩:∃ L,L=((W.filter fun q=>q.1.w == kOf so).map (·.1)):=⟨_,rfl⟩
      rw[← hL] at hl
      have memL:∀ f,f∈L ↔ f∈W.map (·.1)∧f.w=kOf so:=fun f=>by
        rw[hL]
        constructor
        · intro h
          obtain⟨q,hq1,rfl⟩:=List.mem_map.mp h
          obtain⟨h1,h2⟩:=List.mem_filter.mp hq1
          exact⟨List.mem_map.mpr ⟨q,h1,rfl⟩,by simpa using h2⟩
        · rintro⟨h1,h2⟩
          obtain⟨q,hq1,rfl⟩:=List.mem_map.mp h1
          exact List.mem_map.mpr ⟨q,List.mem_filter.mpr ⟨hq1,by simpa using h2⟩,rfl⟩
      have hpos:0<es.length:=by
        obtain⟨f,h1,h2⟩:=hex
        rw[hl.1]
        exact List.length_pos_of_mem ((memL f).mpr ⟨h1,h2⟩)
      have kap:∀ (i:Nat) e,L[i]?=some e→(fun i=>(L[i]?.map fun e:Edge=>[e.c.2,e.c.1]).getD []) i=[e.c.2,e.c.1]:=fun i e h=>by simp only[h];rfl
      refine⟨p,es,fun i=>(L[i]?.map fun e:Edge=>[e.c.2,e.c.1]).getD [],rfl,SqL.of e2,hpos,fun i x H3 hx s3=>?_,fun i x H3 hx hle s3=>?_⟩
      · obtain⟨e,he,b,rfl,q⟩:=hl.at hx
        refine⟨b,e.c.1,e.c.2,_,rfl,SqT.of (s3 _ _ q),fun p4 H4 hp4 s4 f4=>⟨s4,p4,rfl,SqT.of ?_⟩⟩
        rw[kap i e he];exact f4
      · obtain⟨e,he,b,rfl,q⟩:=hl.at hx
        have hm:=(memL e).mp (List.mem_of_getElem? he)
        refine k b e H3 (s2.trans s3) (s3 _ _ q) ⟨hm.1,hm.2,fun f h1 h2=>?_⟩
        obtain⟨j,hj,ej⟩:=List.getElem_of_mem ((memL f).mpr ⟨h1,h2⟩)
        have hj':L[j]?=some f:=by rw[List.getElem?_eq_getElem hj,ej]
        have:=(hle j (by rw[hl.1];exact hj)).1
        rw[kap j f hj',kap i e he] at this
        exact this
end
open PySem L2 RP
theorem ziq (n d j:Nat):HT.sIx n d (some (j:Int))=min j n:=by
 show (if (j:Int)<0 then ((j:Int)+(n:Int)).toNat else min (j:Int).toNat n)=min j n
 rw[if_neg (by lia),Int.toNat_natCast]
theorem zj9 (xs:List V){j:Nat}(h:j≤xs.length):cutV xs (some (j:Int)) none=xs.drop j:=by
 unfold cutV
 rw[ziq,Nat.min_eq_left h]
 exact List.take_of_length_le (by rw[List.length_drop];exact Nat.le_refl _)
theorem zl1 (xs:List V){j:Nat}(h:j≤xs.length):cutV xs none (some (j:Int))=xs.take j:=by
 unfold cutV
 rw[ziq,Nat.min_eq_left h]
 rfl
theorem VR.rot {α:Type}{vs:List V}{l:List α}{R:α→V→Hp→Prop}{H:Hp}(h:VR vs l R H) (j:Nat):VR (vs.drop j++vs.take j) (l.drop j++l.take j) R H:=by
 refine⟨by simp[h.1],fun i x v h1 h2=>?_⟩
 have hd:(vs.drop j).length=(l.drop j).length:=by simp[h.1]
 rcases Nat.lt_or_ge i (l.drop j).length with hi | hi
 ·rw[List.getElem?_append_left hi,List.getElem?_drop] at h1
  rw[List.getElem?_append_left (by lia),List.getElem?_drop] at h2
  exact h.2 _ x v h1 h2
 ·rw[List.getElem?_append_right hi] at h1
  rw[List.getElem?_append_right (by lia),hd] at h2
  rw[List.getElem?_take] at h1 h2
  split at h1
  ·rw[if_pos (by assumption)] at h2
   exact h.2 _ x v h1 h2
  ·cases h1
theorem zhk {α:Type} [DecidableEq α] {x:α}:∀ {l:List α},x∈l→∃ j:Nat,l[j]?=some x∧∀ (m:Nat) y,m<j→l[m]?=some y→y≠x
 | [],h=>by cases h
 | a::l,h=>by
  by_cases e:a=x
  ·exact⟨0,by rw[e];rfl,fun m y hm=>absurd hm (Nat.not_lt_zero _)⟩
  ·obtain⟨j,h1,h2⟩:=zhk ((List.mem_cons.mp h).resolve_left (Ne.symm e))
   refine⟨j+1,by simpa using h1,fun m y hm hy=>?_⟩
   match m,hm,hy with
   | 0,_,hy=>cases hy;exact e
   | m+1,hm,hy=>exact h2 m y (by lia) (by simpa using hy)
theorem zfF {K:W.Frag}{H:Hp}:∀ {vs:List V}{l:List Edge},VR vs l eR H→RDs K H vs (l.map fun e=>tI (eI e))
 | [],[],_=>.nil
 | [],_::_,h=>by have:=h.1;cases this
 | _::_,[],h=>by have:=h.1;cases this
 | v::vs,e::l,h=>by
  obtain⟨b,rfl,q⟩:=h.2 0 e v rfl rfl
  exact .cons (zcv q) (zfF ⟨by simpa using h.1,fun i x u h1 h2=>h.2 (i+1) x u (by simpa using h1) (by simpa using h2)⟩)
structure Rnd where
 so:Str
 x:Int
 y:Int
 row:List Nat
 deriving DecidableEq
def rowV (row:List Nat):List V:=row.map fun n:Nat=>V.int (n:Int)
def rR (r:Rnd) (v:V) (H:Hp):Prop:=∃ a b,v=.ref a∧H a=some (.tup [.str r.so,.int r.x,.int r.y,.ref b])∧H b=some (.tup (rowV r.row))
theorem rR.kt {r:Rnd}{v:V}{H H':Hp}(h:rR r v H) (s:KT H H'):rR r v H':=let ⟨a,b,e,q1,q2⟩:=h;⟨a,b,e,s _ _ q1,s _ _ q2⟩
def IsRnd (W:Wk) (r:Rnd):Prop:=r.so=sortS W∧∃ (j:Nat) (e:Edge),(W.map (·.1))[j]?=some e∧zcr W (sortS W) e∧r.x=e.c.1∧r.y=e.c.2∧r.row=(W.drop j++W.take j).filterMap (·.2)
theorem zdw (W:Wk):sortS W = "rim" ∨ sortS W = "hole":=by unfold sortS;split <;> simp
section
variable {P:Program}{w:World}{K:W.Frag}{mg:Str→Option Value}{base:Heap}
def zfx (K:W.Frag):Sp:=fun vs H Q _=>∃ (a:Addr) (W:Wk),vs=[.ref a]∧LR K H a W wR∧W.length≤500∧(∃ e∈W.map (·.1),e.w=0)∧(∃ e∈W.map (·.1),e.w=2) ∧
 ∀ v H' r,Same H H'→rR r v H'→IsRnd W r→Q v H'
theorem zgB (T : Txt P w K mg) (g_sort_of : Fn P w K mg base 4 "sort_of" ["walk"] (zkm K)) (g_begin_of : Fn P w K mg base 3 "begin_of" ["walk", "sort"] (zgq K))
  (d:Df K mg "round_of" za7 ["walk"]):FnOk P w K mg base CX0 5 d.f d.fd ["walk"] (zfx K):=by
 refine d.F.ok zb2 (fun vs H Q E h=>?_) (fun cdv A outer s H vs Q E hr h=>?_)
 ·obtain⟨a,W,rfl,_⟩:=h
  rfl
 ·obtain⟨a,W,rfl,hLR,hlen,h0,h2,k⟩:=h
  obtain⟨ws,hq,hv⟩:=hLR.vr
  have hun:=hr.un
  have hu65:(A.deeper (PyProof.Rows.envOfC (Str.ofString "round_of") (zab za7) s.heap.objs.size d.f cdv)).units+65<cLine:=by lia
  have nb0:(["edge","step"]:List Str).Nodup:=by decide +kernel
  have nb1:(["edge","step"]:List Str).Nodup:=by decide +kernel
  refine⟨_,(zac (zaq (i:=1) zb2.nd (by rfl) (Or.inl rfl) (zah g_sort_of.ok (hr.mono (by decide)) (by rfl) g_sort_of.m g_sort_of.kp g_sort_of.b .nil pass0 (pa_N (pv 0) zad)))
   (zac (zaq (i:=2) zb2.nd (by rfl) (Or.inl rfl) (zah g_begin_of.ok (hr.mono (by decide)) (by rfl) g_begin_of.m g_begin_of.kp g_begin_of.b .nil pass0 (pa_N (pv 0) (pa_N (pv 1) zad))))
   (zac (zaq (i:=3) zb2.nd (by rfl) (Or.inl rfl) (pe_bm PySem.F.plainAttrs_list PySem.F.slot_list_index PySem.F.type_list_index (ziP hu65) (zbT (osc:=zab za7) (N:=zde) (N':=["edge","step"]) (sel:=[none,none]) ⟨rfl,by decide +kernel,by decide +kernel,by decide +kernel,rfl,by decide +kernel⟩ (zba (pv 0)) (fun _ _ _ _ _=>(zcw (K:=K) (n:=2) (by rfl) (zae (zaf (i:=0) nb0 (by rfl) (Or.inl rfl)) (zae (zaf (i:=1) nb0 (by rfl) (Or.inl rfl)) zay)))) (fun _ _ _ _ _=>zc9) (fun _ _ _ _ _=>(pv 0))) (pa_N (pv 2) zad)))
   (zac (zaq (i:=4) zb2.nd (by rfl) (Or.inl rfl) (zfJ zfi (by rfl) T.ntuple (by rfl) (zam (zbT (osc:=zab za7) (N:=zde) (N':=["edge","step"]) (sel:=[none,none]) ⟨rfl,by decide +kernel,by decide +kernel,by decide +kernel,rfl,by decide +kernel⟩ (zba (pe_op zky (zeX zim (pv 0) (zgw (pv 3)) zgx) (zeX zim (pv 0) zgx (zgw (pv 3))))) (fun _ _ _ _ _=>(zcw (K:=K) (n:=2) (by rfl) (zae (zaf (i:=0) nb1 (by rfl) (Or.inl rfl)) (zae (zaf (i:=1) nb1 (by rfl) (Or.inl rfl)) zay)))) (fun _ _ _ _ _=>zcN (zaB zdM (pv 1) zci (zaz _))) (fun _ _ _ _ _=>(pv 1))) zad)))
   (zag (zat (zbj (pa_N (pv 1) (zam (pe_ix zc5 (pv 2) zak (fun _ _=>rfl)) (zam (pe_ix zc5 (pv 2) zak (fun _ _=>rfl)) (pa_N (pv 4) zad))))))))))),?_⟩
  refine⟨_,rfl,a,W,rfl,hLR,hlen,fun H1 s1=>?_⟩
  have hex:∃ e∈W.map (·.1),e.w=kOf (sortS W):=by
   rcases zdw W with z | z <;> rw[z]
   ·exact h0
   ·exact h2
  refine⟨_,rfl,_,rfl,a,W,sortS W,rfl,zdw W,hLR.same s1 (fun x v hx=>hx.same s1),hlen,hex,fun b e H2 s2 hb hbg=>?_⟩
  have s12:=s1.trans s2
  refine⟨_,rfl,a,rfl,⟨_,s12.seq hq⟩,fun p hp=>?_⟩
  refine zaD (K:=K) (a:=a) (xs:=ws) (fun i σ H3=>∃ o1 o2,σ=[o1,o2]∧Same H2 H3∧∃ es:List V,H3 p=some (.lst es)∧VR es ((W.take i).map (·.1)) eR H3)
   ⟨_,_,rfl,Same.up hp,[],zaa,VR.nil⟩ (fun i σ H3 _ ⟨_,_,_,s3,_⟩=>(s12.trans s3).seq hq) ?_ ?_
  ·rintro i v σ H3 hi ⟨o1,o2,rfl,s3,es,e3,hl⟩
   obtain⟨⟨f,st⟩,he,B,bb,rfl,q1,q2⟩:=hv.at hi
   have hl2:es.length≤1000:=by rw[hl.1,List.length_map,List.length_take];lia
   refine⟨B,_,rfl,SqT.of ((s12.trans s3) _ _ q1),rfl,_,_,rfl,_,_,rfl,rfl,?_⟩
   refine zcX ?_
   refine⟨_,rfl,es,e3,zap hl2,_,_,rfl,zav hp s3,_,zaa,?_⟩
   rw[zaJ he,List.map_append]
   have k2:KT H3 (upd H3 p (.lst (es++[.ref bb]))):=KT.lst e3
   exact hl.snoc (fun x v hx=>hx.kt k2) ⟨bb,rfl,k2 _ _ ((s12.trans s3) _ _ q2)⟩
  ·rintro σ H3 ⟨o1,o2,rfl,s3,es,e3,hl⟩
   rw[hv.1,List.take_length] at hl
   obtain⟨j,hj,hjm⟩:=zhk hbg.1
   have hjl:j<W.length:=by have:=(List.getElem?_eq_some_iff.mp hj).1;simpa using this
   have s13:=s12.trans s3
   refine⟨.inl ⟨rfl,_,SqL.of e3⟩,_,rfl,p,es,_,_,_,j,_,rfl,rfl,SqL.of e3,zcv (s3 _ _ hb),zfF hl,zbn _,(fun z hz=>by obtain⟨f,_,rfl⟩:=List.mem_map.mp hz;exact zbn _),(by rw[List.getElem?_map,hj];rfl),(by rw[zdX];exact decide_eq_true rfl),(fun m z hm hz=>?_),?_⟩
   ·rw[List.getElem?_map] at hz
    obtain⟨f,hf,rfl⟩:=Option.map_eq_some_iff.mp hz
    rw[zdX]
    exact decide_eq_false (fun q=>hjm m f hm hf (zhn.mp q))
   have hwl:j≤ws.length:=by rw[hv.1];lia
   refine⟨_,rfl,_,rfl,_,rfl,a,ws,rfl,s13.seq hq,fun p4 hp4=>?_⟩
   rw[zj9 ws hwl]
   have s4:=Same.up (o:=.lst (ws.drop j)) hp4
   refine⟨_,rfl,_,rfl,_,rfl,a,ws,rfl,(s13.trans s4).seq hq,fun p5 hp5=>?_⟩
   rw[zl1 ws hwl]
   have s5:=Same.up (o:=.lst (ws.take j)) hp5
   refine⟨p4,p5,_,_,rfl,rfl,s5 _ _ zaa,zaa,Nat.le_of_lt (zap (by simp[hv.1];lia)),fun p6 hp6=>?_⟩
   have s6:=Same.up (o:=.lst (ws.drop j++ws.take j)) hp6
   have s16:=s13.trans (s4.trans (s5.trans s6))
   have e6:upd (upd (upd H3 p4 (.lst (ws.drop j))) p5 (.lst (ws.take j))) p6 (.lst (ws.drop j++ws.take j)) p6=some (.lst (ws.drop j++ws.take j)):=zaa
   have b6:=(s4.trans (s5.trans s6)) _ _ (s3 _ _ hb)
   generalize upd (upd (upd H3 p4 (.lst (ws.drop j))) p5 (.lst (ws.take j))) p6 (.lst (ws.drop j++ws.take j))=H6 at s16 e6 b6 ⊢
   have hv6:=hv.rot j
   have hWl:(W.drop j++W.take j).length≤500:=by simp;lia
   generalize hW6:W.drop j++W.take j=W6 at hv6 hWl
   generalize ws.drop j++ws.take j=ws6 at hv6 e6
   refine⟨p6,rfl,⟨_,SqL.of e6⟩,fun p7 hp7=>?_⟩
   refine zaD (K:=K) (a:=p6) (xs:=ws6) (fun i σ H7=>∃ o1 o2,σ=[o1,o2]∧Same H6 H7∧H7 p7=some (.lst (rowV ((W6.take i).filterMap (·.2)))))
    ⟨_,_,rfl,Same.up hp7,zaa⟩ (fun i σ H7 _ ⟨_,_,_,s7,_⟩=>s7.seq (SqL.of e6)) ?_ ?_
   ·rintro i v σ H7 hi ⟨o1,o2,rfl,s7,e7⟩
    obtain⟨⟨f,st⟩,he,B,bb,rfl,q1,q2⟩:=hv6.at hi
    have hl2:(rowV ((W6.take i).filterMap (·.2))).length≤1000:=by
     unfold rowV
     rw[List.length_map]
     have:=List.length_filterMap_le (fun q:Edge×Option Nat=>q.2) (W6.take i)
     rw[List.length_take] at this
     lia
    refine⟨B,_,rfl,SqT.of ((s16.trans s7) _ _ q1),rfl,_,_,rfl,_,_,rfl,rfl,?_⟩
    refine⟨_,rfl,rfl,_,rfl,?_⟩
    rw[zkj,zaJ he,List.filterMap_append]
    cases st with
    | none=>exact iteF ⟨_,_,rfl,s7,by simpa using e7⟩
    | some n =>
     refine iteT ⟨_,rfl,_,e7,zap hl2,_,_,rfl,zav hp7 s7,?_⟩
     rw[zaa]
     simp[rowV,sv]
   ·rintro σ H7 ⟨o1,o2,rfl,s7,e7⟩
    rw[hv6.1,List.take_length] at e7
    refine⟨p7,_,rfl,.inl ⟨SqL.of e7,fun p8 hp8=>?_⟩⟩
    have s8:=Same.up (o:=.tup (rowV (W6.filterMap (·.2)))) hp8
    have b8:=s8 _ _ (s7 _ _ b6)
    refine⟨_,rfl,_,rfl,b,_,_,_,rfl,rfl,SqT.of b8,zbm (j:=0) rfl,_,rfl,b,_,_,_,rfl,rfl,SqT.of b8,zbm (j:=1) rfl,_,rfl,(by show 4≤sizeLine;decide),fun p9 hp9=>?_⟩
    refine k _ _ ⟨sortS W,e.c.1,e.c.2,W6.filterMap (·.2)⟩ ((s16.trans (s7.trans s8)).trans (Same.up hp9)) ⟨p9,p8,rfl,zaa,Same.up hp9 _ _ zaa⟩ ⟨rfl,j,e,hj,hbg,rfl,rfl,?_⟩
    rw[← hW6]
def keyV (r:Rnd):List V:=[.int r.y,.int r.x,.bl (decide (V.str r.so=V.str "hole"))]
def zdh (K:W.Frag):Sp:=fun vs H Q _=>∃ (v:V) (r:Rnd),vs=[v]∧rR r v H∧∀ p H',H p=none→Same H H'→H' p=some (.tup (keyV r))→Q (.ref p) H'
theorem zd8 (d:Df K mg "round_order" zaY ["one"]):FnOk P w K mg base CX0 1 d.f d.fd ["one"] (zdh K):=by
 refine d.F.ok zbp (fun vs H Q E h=>?_) (fun cdv A outer s H vs Q E hr h=>?_)
 ·obtain⟨v,r,rfl,_⟩:=h
  rfl
 ·obtain⟨v,r,rfl,⟨a,b,rfl,q1,q2⟩,k⟩:=h
  refine⟨_,(zac (zct (pv 0) (zbL (by rfl) (zae (zaf (i:=1) zbp.nd (by rfl) (Or.inl rfl)) (zae (zaf (i:=2) zbp.nd (by rfl) (Or.inl rfl)) (zae (zaf (i:=3) zbp.nd (by rfl) (Or.inl rfl)) (zae (zaf (i:=4) zbp.nd (by rfl) (Or.inl rfl)) zay))))))
   (zag (zat (zbj (pa_N (pv 3) (pa_N (pv 2) (zam (zco op_eq (pv 1) zg4 (zaz _)) zad))))))),?_⟩
  refine⟨_,rfl,a,_,rfl,SqT.of q1,rfl,_,_,rfl,_,_,rfl,_,_,rfl,_,_,rfl,rfl,?_⟩
  refine⟨_,rfl,_,rfl,_,rfl,rfl,three,fun p hp=>k p _ hp (Same.up hp) zaa⟩
end
open PySem L2 RP
theorem VR.cons {α:Type}{v:V}{vs:List V}{x:α}{l:List α}{R:α→V→Hp→Prop}{H:Hp}:VR (v::vs) (x::l) R H ↔ R x v H∧VR vs l R H:=by
 constructor
 ·intro h
  exact⟨h.2 0 x v rfl rfl,by simpa using h.1,fun i y u h1 h2=>h.2 (i+1) y u (by simpa using h1) (by simpa using h2)⟩
 ·rintro⟨h1,h2⟩
  refine⟨by simp[h2.1],fun i y u e1 e2=>?_⟩
  match i,e1,e2 with
  | 0,e1,e2=>cases e1;cases e2;exact h1
  | i+1,e1,e2=>exact h2.2 i y u (by simpa using e1) (by simpa using e2)
def kE (e:Edge):List Key:=[Sum.inl e.c.1,Sum.inl e.c.2,Sum.inl (e.w:Int)]
theorem zkB {e f:Edge}:kE e=kE f ↔ e=f:=by
 constructor
 ·intro h
  refine zhn.mp ?_
  unfold kE at h
  injection h with h1 h2
  injection h2 with h2 h3
  injection h3 with h3 _
  unfold eI
  rw[Sum.inl.inj h1,Sum.inl.inj h2,Sum.inl.inj h3]
 ·rintro rfl;rfl
theorem _root_.RP.Closed.back {C:Cell→Bool}{b x:Edge}{es:List Edge}(h:Closed C b es) (hx:IsE C x) (hm:nxt C x∈es):x∈es:=by
 obtain⟨⟨h0,hs,hE,hnd⟩,l,hl,hb⟩:=h
 obtain⟨i,hi,ei⟩:=List.getElem_of_mem hm
 have hlm:l∈es:=List.mem_of_getElem? hl
 rcases Nat.eq_zero_or_pos i with rfl | hp
 ·rw[List.getElem?_eq_getElem hi,ei] at h0
  have e:=Option.some.inj h0
  rw[← hb] at e
  rw[zdR hx (hE l hlm) e];exact hlm
 ·have hi':i - 1<es.length:=by lia
  have e1:=hs (i - 1) es[i - 1] (nxt C x) (List.getElem?_eq_getElem hi') (by rw[show i - 1+1=i by lia,List.getElem?_eq_getElem hi,ei])
  rw[zdR hx (hE _ (List.getElem_mem hi')) e1]
  exact List.getElem_mem hi'
theorem _root_.RP.Closed.apart {C:Cell→Bool}{b:Edge}{es done:List Edge}(h:Closed C b es) (hd:∀ x,IsE C x→nxt C x∈done→x∈done) (hb:b ∉ done):∀ e∈es,e ∉ done:=by
 obtain⟨⟨h0,hs,hE,hnd⟩,_⟩:=h
 have key:∀ (i:Nat) e,es[i]?=some e→e ∉ done:=by
  intro i
  induction i with
  | zero=>intro e he;rw[he] at h0;cases h0;exact hb
  | succ i ih =>
   intro e he hm
   have hi:i+1<es.length:=(List.getElem?_eq_some_iff.mp he).1
   have h1:es[i]?=some es[i]:=List.getElem?_eq_getElem (by lia)
   have hn:=hs i _ e h1 he
   rw[hn] at hm
   exact ih _ h1 (hd _ (hE _ (List.getElem_mem _)) hm)
 intro e he
 obtain⟨i,hi,ei⟩:=List.getElem_of_mem he
 exact key i e (by rw[List.getElem?_eq_getElem hi,ei])
structure Part (C:Cell→Bool) (ESS:List (List Edge)) (R:List Rnd):Prop where
 len:R.length=ESS.length
 each:∀ (i:Nat) es r,ESS[i]?=some es→R[i]?=some r→(∃ b,Closed C b es)∧IsRnd (wk C es) r
 nd:ESS.flatten.Nodup
theorem Part.closed {C:Cell→Bool}{ESS:List (List Edge)}{R:List Rnd}(h:Part C ESS R):∀ es∈ESS,∃ b,Closed C b es:=fun es he=>by
 obtain⟨i,hi,ei⟩:=List.getElem_of_mem he
 have hr:i<R.length:=by rw[h.len];exact hi
 exact (h.each i es R[i] (by rw[List.getElem?_eq_getElem hi,ei]) (List.getElem?_eq_getElem hr)).1
theorem Part.isE {C:Cell→Bool}{ESS:List (List Edge)}{R:List Rnd}(h:Part C ESS R):∀ e∈ESS.flatten,IsE C e:=fun e he=>by
 obtain⟨es,h1,h2⟩:=List.mem_flatten.mp he
 obtain⟨b,hc⟩:=h.closed es h1
 exact hc.1.2.2.1 e h2
theorem Part.back {C:Cell→Bool}{ESS:List (List Edge)}{R:List Rnd}(h:Part C ESS R):∀ x,IsE C x→nxt C x∈ESS.flatten→x∈ESS.flatten:=fun x hx hm=>by
 obtain⟨es,h1,h2⟩:=List.mem_flatten.mp hm
 obtain⟨b,hc⟩:=h.closed es h1
 exact List.mem_flatten.mpr ⟨es,h1,hc.back hx h2⟩
theorem Part.nil {C:Cell→Bool}:Part C [] []:=⟨rfl,fun i es r h=>by simp at h,by simp⟩
theorem Part.snoc {C:Cell→Bool}{ESS:List (List Edge)}{R:List Rnd}{b:Edge}{es:List Edge}{r:Rnd}(h:Part C ESS R) (hc:Closed C b es) (hr:IsRnd (wk C es) r) (hb:b ∉ ESS.flatten):Part C (ESS++[es]) (R++[r]):=by
 refine⟨by simp[h.len],fun i fs q h1 h2=>?_,?_⟩
 ·rcases Nat.lt_or_ge i ESS.length with hi | hi
  ·rw[List.getElem?_append_left hi] at h1
   rw[List.getElem?_append_left (by rw[h.len];exact hi)] at h2
   exact h.each i fs q h1 h2
  ·rw[List.getElem?_append_right hi] at h1
   rw[List.getElem?_append_right (by rw[h.len];exact hi)] at h2
   have hz:i - ESS.length=0:=by
    have:=(List.getElem?_eq_some_iff.mp h1).1
    simp at this;lia
   rw[hz] at h1
   rw[h.len,hz] at h2
   cases h1;cases h2
   exact⟨⟨b,hc⟩,hr⟩
 ·have ap:=hc.apart h.back hb
  rw[List.flatten_append,List.nodup_append]
  refine⟨h.nd,by simpa using hc.1.2.2.2,fun x hx y hy e=>?_⟩
  subst e
  exact ap x (by simpa using hy) hx
theorem zhg {p:Edge→Bool}:∀ (ESS:List (List Edge)),(∀ es∈ESS,∃ e∈es,p e=true)→ESS.length≤(ESS.flatten.filter p).length
 | [],_=>Nat.zero_le _
 | es::r,h=>by
  have ih:=zhg r fun es he=>h es (List.mem_cons_of_mem _ he)
  obtain⟨e,he,hp⟩:=h es List.mem_cons_self
  rw[List.flatten_cons,List.filter_append,List.length_append,List.length_cons]
  have:0<(es.filter p).length:=List.length_pos_of_mem (List.mem_filter.mpr ⟨he,hp⟩)
  lia
theorem Part.few {cs:List Cell}{ESS:List (List Edge)}{R:List Rnd}(h:Part (isIn cs) ESS R):R.length≤cs.length:=by
 rw[h.len]
 refine Nat.le_trans (zhg (p:=fun e=>e.w == 0) ESS fun es he=>?_) ?_
 ·obtain⟨b,hc⟩:=h.closed es he
  obtain⟨e,h1,h2⟩:=hc.has (k:=0) (.inl rfl)
  exact⟨e,h1,by simpa using h2⟩
 ·rw[← List.length_map (f:=fun c:Cell=>(⟨c,0⟩:Edge)) (as:=cs)]
  refine zaA (List.Pairwise.filter _ h.nd) fun e he=>?_
  obtain⟨h1,h2⟩:=List.mem_filter.mp he
  have hE:=h.isE e h1
  refine List.mem_map.mpr ⟨e.c,of_decide_eq_true hE.2.1,?_⟩
  obtain⟨c,w⟩:=e
  simp only at h2 ⊢
  have:w=0:=by simpa using h2
  rw[this]
theorem Part.small {cs:List Cell}{ESS:List (List Edge)}{R:List Rnd}(h:Part (isIn cs) ESS R):ESS.flatten.length≤4*cs.length:=by
 rw[← zby]
 exact zaA h.nd fun e he=>zcx.mpr ⟨of_decide_eq_true (h.isE e he).2.1,(h.isE e he).1⟩
def keyI (r:Rnd):List Int:=[r.y,r.x,PyProof.Rows.b2i (decide (V.str r.so=V.str "hole"))]
def Whole (cs:List Cell) (R:List Rnd):Prop:=∃ ESS,Part (isIn cs) ESS R∧∀ e,e∈ESS.flatten ↔ IsE (isIn cs) e
section
variable {P:Program}{w:World}{K:W.Frag}{mg:Str→Option Value}{base:Heap}
def zeM (K:W.Frag):Sp:=fun vs H Q _=>∃ (a:Addr) (cs:List Cell),vs=[.ref a]∧LR K H a cs cR∧InOrd cs∧cs.length≤120 ∧
 ∀ p H' rs R R0,H p=none→Same H H'→H' p=some (.lst rs)→VR rs R rR H'→R.Perm R0→R.Pairwise (fun r q=>HT.lexLt (keyI q) (keyI r)=false)→Whole cs R0→Q (.ref p) H'
def zc0 (K:W.Frag):Sp:=fun vs H Q _=>∃ (t pe:Addr) (cs:List Cell) (es:List V),vs=[.ref t,.ref pe]∧Tab H t (isIn cs)∧H pe=some (.lst es)∧VR es (allE cs) eR H∧cs.length≤120 ∧
 ∀ p H' rs R R0,H p=none→Same H H'→H' p=some (.lst rs)→VR rs R rR H'→R.Perm R0→R.Pairwise (fun r q=>HT.lexLt (keyI q) (keyI r)=false)→Whole cs R0→Q (.ref p) H'
theorem zdO (T : Txt P w K mg)
    (g_walk_from:Fn P w K mg base 3 "walk_from" ["table","begin"] (zkk K)) (g_round_of:Fn P w K mg base 5 "round_of" ["walk"] (zfx K)) (g_round_order:Fn P w K mg base 1 "round_order" ["one"] (zdh K))
    (d:Df K mg "rounds_along" zaO ["table","edges"]):FnOk P w K mg base CX0 6 d.f d.fd ["table","edges"] (zc0 K):=by
  refine d.F.ok zaK (fun vs H Q E h=>?_) (fun cdv A outer s H2 vs Q E hr h=>?_)
  · obtain⟨t,pe,cs,es,rfl,_⟩:=h
    rfl
  · obtain⟨t,pe,cs,es,rfl,tab,epe,hvpe,hlen,k⟩:=h
    have hu1:=hu_of hr
    refine⟨_,(zac (zaq (i:=2) zaK.nd (by rfl) (Or.inl rfl) zeZ)
      (zac (zaq (i:=3) zaK.nd (by rfl) (Or.inl rfl) (zcj zad))
      (zac (zbX PassesOwn.never rfl (zba (pv 1)) (zaf (i:=4) zaK.nd (by rfl) (Or.inl rfl))
      (zag (ps_if (zix (zfK hu1 (pv 4) (pv 2)))
      (zac (zaq (i:=5) zaK.nd (by rfl) (Or.inl rfl) (zah g_walk_from.ok (hr.mono (by decide)) (by rfl) g_walk_from.m g_walk_from.kp g_walk_from.b .nil pass0 (pa_N (pv 0) (pa_N (pv 4) zad))))
      (zac (zbX PassesOwn.never rfl (zba (pv 5)) (zbL (by rfl) (zae (zaf (i:=6) zaK.nd (by rfl) (Or.inl rfl)) (zae (zaf (i:=7) zaK.nd (by rfl) (Or.inl rfl)) zay)))
      (zag (ziy hu1 (pv 2) (pv 6) pe_bl rfl)))
      (zag (zbv (pe_bm PySem.F.plainAttrs_list PySem.F.slot_list_append PySem.F.type_list_append zbk (pv 3) (zam (zah g_round_of.ok (hr.mono (by decide)) (by rfl) g_round_of.m g_round_of.kp g_round_of.b .nil pass0 (pa_N (pv 5) zad)) zad))))))
      za9)))
      (zag (zat (zg5 g_round_order.ok (hr.mono (by decide)) g_round_order.b (by rfl) T.nsorted (by rfl) g_round_order.m (pv 3))))))),?_⟩
    refine fun dd hdd=>⟨(by show 0≤sizeLine;decide),fun p hp=>?_⟩
    have hpd:p≠dd:=fun z=>by subst z;rw[zaa] at hp;cases hp
    have s4:Same H2 (upd (upd H2 dd (.dT [])) p (.lst [])):=(Same.up hdd).trans (Same.up hp)
    have d4:upd (upd H2 dd (.dT [])) p (.lst []) dd=some (.dT []):=by rw[zaj (Ne.symm hpd),zaa]
    have p4:upd (upd H2 dd (.dT [])) p (.lst []) p=some (.lst []):=zaa
    have n2:H2 dd=none:=hdd
    have n2p:H2 p=none:=by rw[zaj hpd] at hp;exact hp
    generalize upd (upd H2 dd (.dT [])) p (.lst [])=H5 at s4 d4 p4
    have s15:Same H2 H5:=s4
    have e5:=s4 _ _ epe
    have hv5:=hvpe.mono fun x v hx=>hx.same s4
    refine⟨_,rfl,pe,rfl,⟨_,SqL.of e5⟩,?_⟩
    have hped:pe≠dd:=zar epe n2
    have hpep:pe≠p:=zar epe n2p
    refine zaD (K := K) (a := pe) (xs := es) (fun i σ H6 => ∃ o4 o5 o6 o7, σ = [some (.ref t), some (.ref pe), some (.ref dd), some (.ref p), o4, o5, o6, o7] ∧ Same H2 H6 ∧ H6 pe = some (.lst es) ∧ KT H5 H6 ∧
        ∃ kvs rs ESS R,H6 dd=some (.dT kvs)∧H6 p=some (.lst rs)∧VR rs R rR H6∧Part (isIn cs) ESS R∧(∀ e,(valV kvs (kE e)).isSome=decide (e∈ESS.flatten))∧kvs.length≤ESS.flatten.length∧∀ e∈(allE cs).take i,e∈ESS.flatten)
      ⟨_,_,_,_,rfl,s15,e5,KT.refl _,[],[],[],[],d4,p4,VR.nil,Part.nil,(fun e=>by simp[valV]),Nat.le_refl _,(fun e he=>by simp at he)⟩ (fun i σ H6 _ ⟨_,_,_,_,_,_,e6,_⟩=>SqL.of e6) ?_ ?_
    · rintro i v σ H6 hi ⟨o4,o5,o6,o7,rfl,s6,e6,kt6,kvs,rs,ESS,R,d6,p6,hR,hP,hkv,hkl,hall⟩
      obtain⟨e,he,b,rfl,qb⟩:=hv5.at hi
      have hE:IsE (isIn cs) e:=zhe.mp (List.mem_of_getElem? he)
      have qb6:=kt6 _ _ qb
      refine⟨_,rfl,_,rfl,dd,_,rfl,.inr ⟨kvs,kE e,b,Rd.of d6,rfl,qb6,rfl⟩,_,rfl,?_⟩
      rw[hkv]
      by_cases hin:e∈ESS.flatten
      · rw[decide_eq_true hin]
        refine iteF ⟨_,_,_,_,rfl,s6,e6,kt6,kvs,rs,ESS,R,d6,p6,hR,hP,hkv,hkl,fun f hf=>?_⟩
        rcases (zbW he).mp hf with z | z
        · exact hall f z
        · rw[z];exact hin
      · rw[decide_eq_false hin]
        refine iteT ?_
        have tab6:=tab.same s6
        refine⟨_,rfl,_,rfl,t,b,cs,e,rfl,tab6,qb6,hE,by lia,fun pw H7 ws fs hpw s7 e7 hv7 hcl=>?_⟩
        have hfs:fs.length≤4*cs.length:=hcl.1.short
        have hap:=hcl.apart hP.back hin
        have d7:=s7 _ _ d6
        have hdw:dd≠pw:=fun z=>by subst z;rw[d6] at hpw;cases hpw
        have hws:ws.length=fs.length:=by rw[hv7.1,zbV]
        refine⟨_,rfl,pw,rfl,⟨_,SqL.of e7⟩,?_⟩
        refine zaD (K := K) (a := pw) (xs := ws) (fun j σ H8 => ∃ o6 o7, σ = [some (.ref t), some (.ref pe), some (.ref dd), some (.ref p), some (.ref b), some (.ref pw), o6, o7] ∧ (∀ z o, z ≠ dd → H7 z = some o → H8 z = some o) ∧
            ∃ kv8,H8 dd=some (.dT kv8)∧(∀ f,(valV kv8 (kE f)).isSome=decide (f∈ESS.flatten∨f∈fs.take j))∧kv8.length≤ESS.flatten.length+j)
          ⟨_,_,rfl,(fun z o _ h=>h),kvs,d7,(fun f=>by rw[hkv];simp),by lia⟩ (fun j σ H8 _ ⟨_,_,_,k8,_⟩=>SqL.of (k8 _ _ (Ne.symm hdw) e7)) ?_ ?_
        · rintro j u σ H8 hj ⟨o6,o7,rfl,k8,kv8,d8,hk8,hl8⟩
          obtain⟨⟨f,st⟩,hf,B,bb,rfl,q1,q2⟩:=hv7.at hj
          have hf':fs[j]?=some f:=by
            unfold wk at hf
            rw[List.getElem?_map] at hf
            obtain⟨g,hg,eg⟩:=Option.map_eq_some_iff.mp hf
            cases eg
            exact hg
          have nB:B≠dd:=ne_of q1 d7 (fun z=>nomatch z)
          have nb:bb≠dd:=ne_of q2 d7 (fun z=>nomatch z)
          refine⟨B,_,rfl,SqT.of (k8 _ _ nB q1),rfl,_,_,rfl,_,_,rfl,rfl,?_⟩
          have hjl:j<fs.length:=by rw[← hws];exact (List.getElem?_eq_some_iff.mp hj).1
          have hsm:=hP.small
          refine⟨_,rfl,_,rfl,dd,_,rfl,.inr ⟨kv8,kE f,bb,d8,rfl,k8 _ _ nb q2,zap (by lia),rfl⟩,?_⟩
          refine⟨_,_,rfl,(fun z o hz h=>by rw[zaj hz];exact k8 z o hz h),_,zaa,(fun g=>?_),Nat.le_trans (zaR _ _ _) (by lia)⟩
          rw[zcA]
          by_cases eg:g=f
          · rw[if_pos (zkB.mpr eg),decide_eq_true (.inr ((zbW hf').mpr (.inr eg)))];rfl
          · rw[if_neg (fun z=>eg (zkB.mp z)),hk8]
            refine decide_eq_decide.mpr ⟨fun z=>z.imp id fun q=>(zbW hf').mpr (.inl q),fun z=>z.imp id fun q=>((zbW hf').mp q).resolve_right eg⟩
        · rintro σ H8 ⟨o6,o7,rfl,k8,kv8,d8,hk8,hl8⟩
          rw[hws,List.take_length] at hk8
          have hdp:p≠dd:=hpd
          have p8:=k8 _ _ hdp (s7 _ _ p6)
          have kt8:KT H7 H8:=fun z xs h=>k8 z _ (ne_of h d7 (fun q=>nomatch q)) h
          have w8:H8 pw=some (.lst ws):=k8 _ _ (Ne.symm hdw) e7
          have hrl:rs.length≤120:=by rw[hR.1];exact Nat.le_trans hP.few hlen
          have hh:∀ kk,kk=0∨kk=2→∃ x∈(wk (isIn cs) fs).map (·.1),x.w=kk:=fun kk hkk=>by
            obtain⟨x,h1,h2⟩:=hcl.has hkk
            exact⟨x,by unfold wk;rw[List.map_map];simpa using h1,h2⟩
          refine⟨_,rfl,.inl ⟨rfl,_,SqL.of p8⟩,_,rfl,pw,wk (isIn cs) fs,rfl,LR.of w8 (hv7.mono fun x v hx=>hx.kt kt8),(by rw[zbV];lia),hh 0 (.inl rfl),hh 2 (.inr rfl),fun vr H9 r s9 hr9 hrn=>?_⟩
          have p9:=s9 _ _ p8
          refine⟨p,rs,_,rfl,rfl,p9,zap (by lia),?_⟩
          have kt9:KT H9 (upd H9 p (.lst (rs++[vr]))):=KT.lst p9
          have ktA:KT H6 (upd H9 p (.lst (rs++[vr]))):=(KT.of s7).trans (kt8.trans ((KT.of s9).trans kt9))
          refine⟨_,_,_,_,rfl,(fun z o h=>?_),?_,kt6.trans ktA,kv8,rs++[vr],ESS++[fs],R++[r],?_,zaa,hR.snoc (fun x v hx=>hx.kt ktA) (hr9.kt kt9),hP.snoc hcl hrn hin,(fun f=>?_),?_,(fun f hf=>?_)⟩
          · rw[zaj (zar h n2p)]
            exact s9 _ _ (k8 _ _ (zar h n2) (s7 _ _ (s6 _ _ h)))
          · rw[zaj hpep]
            exact s9 _ _ (k8 _ _ hped (s7 _ _ e6))
          · rw[zaj (Ne.symm hpd)];exact s9 _ _ d8
          · rw[hk8]
            refine decide_eq_decide.mpr ?_
            rw[List.flatten_append,List.mem_append]
            simp
          · rw[List.flatten_append,List.length_append,show [fs].flatten=fs by simp]
            lia
          · rw[List.flatten_append,List.mem_append]
            rcases (zbW he).mp hf with z | z
            · exact .inl (hall f z)
            · rw[z]
              refine .inr ?_
              have:=hcl.1.1
              simpa using List.mem_of_getElem? this
    · rintro σ H6 ⟨o4,o5,o6,o7,rfl,s6,e6,kt6,kvs,rs,ESS,R,d6,p6,hR,hP,hkv,hkl,hall⟩
      rw[hv5.1,List.take_length] at hall
      have hrl:rs.length≤120:=by rw[hR.1];exact Nat.le_trans hP.few hlen
      have ge:∀ (i:Nat) r,R[i]?=some r→R.getD i ⟨"",0,0,[]⟩=r:=fun i r h=>by simp only[List.getD_eq_getElem?_getD,h,Option.getD_some]
      refine⟨_,rfl,p,rs,fun i=>keyV (R.getD i ⟨"",0,0,[]⟩),fun i=>keyI (R.getD i ⟨"",0,0,[]⟩),rfl,SqL.of p6,by lia,fun i x H7 hx s7=>?_,
        fun i j hi hj=>⟨_,_,_,_,_,_,rfl,rfl,.cons (.int _ _) (.cons (.bl _ _) .nil),rfl,rfl⟩,fun pp D H7 hpm hpo hD s7 f7=>?_⟩
      · obtain⟨r,hr',hx'⟩:=hR.at hx
        refine⟨x,r,rfl,hx'.kt (KT.of s7),fun q H8 hq s8 f8=>⟨s8,q,rfl,SqT.of ?_⟩⟩
        show H8 q=some (HO.tup (keyV (R.getD i ⟨"",0,0,[]⟩)))
        rw[ge i r hr'];exact f8
      · have hpl:pp.length=R.length:=by rw[hpm.length_eq,List.length_range,hR.1]
        have hlt:∀ i∈pp,i<R.length:=fun i hi=>by
          have:=List.mem_range.mp (hpm.mem_iff.mp hi)
          rw[hR.1] at this;exact this
        have hRR:(pp.map fun i=>R.getD i ⟨"",0,0,[]⟩).Perm R:=by
          have h1:=hpm.map fun i=>R.getD i (⟨"",0,0,[]⟩:Rnd)
          rw[hR.1] at h1
          have h2:((List.range R.length).map fun i=>R.getD i (⟨"",0,0,[]⟩:Rnd))=R:=by
            apply List.ext_getElem
            · simp
            · intro i a b
              simp[show i<R.length by simpa using a]
          rw[h2] at h1
          exact h1
        have vR:VR (pp.map fun i=>rs.getD i V.non) (pp.map fun i=>R.getD i ⟨"",0,0,[]⟩) rR H7:=by
          refine⟨by simp,fun i r v h1 h2=>?_⟩
          rw[List.getElem?_map] at h1 h2
          obtain⟨a,ha,rfl⟩:=Option.map_eq_some_iff.mp h1
          rw[ha] at h2
          cases h2
          have hal:=hlt a (List.mem_of_getElem? ha)
          have hal2:a<rs.length:=by rw[hR.1];exact hal
          have e1:R.getD a ⟨"",0,0,[]⟩=R[a]:=by simp[hal]
          have e2:rs.getD a V.non=rs[a]:=by simp[hal2]
          rw[e1]
          show rR R[a] (rs.getD a V.non) H7
          rw[e2]
          exact (hR.2 a _ _ (List.getElem?_eq_getElem hal) (List.getElem?_eq_getElem hal2)).kt (KT.of s7)
        refine k D H7 _ _ R (s6.free hD) (s6.trans s7) f7 vR hRR ?_ ⟨ESS,hP,fun e=>⟨hP.isE e,fun h=>hall e (zhe.mpr h)⟩⟩
        rw[List.pairwise_map]
        exact hpo
theorem ziM (T : Txt P w K mg) (g_ask_picture : Fn P w K mg base 2 "ask_picture" ["picture"] (spAsk K)) (g_cell_table : Fn P w K mg base 1 "cell_table" ["picture"] (zgo K)) (g_all_edges : Fn P w K mg base 3 "all_edges" ["picture"] (zkp K))
  (g_rounds_along:Fn P w K mg base 6 "rounds_along" ["table","edges"] (zc0 K))
  (d:Df K mg "rounds" zcn ["picture"]):FnOk P w K mg base CX0 7 d.f d.fd ["picture"] (zeM K):=by
 refine d.F.ok zio (fun vs H Q E h=>?_) (fun cdv A outer s H vs Q E hr h=>?_)
 ·obtain⟨a,cs,rfl,_⟩:=h
  rfl
 ·obtain⟨a,cs,rfl,hLR,hord,hlen,k⟩:=h
  have hu1:=hu_of hr
  refine⟨_,(zac (zbv (zah g_ask_picture.ok (hr.mono (by decide)) (by rfl) g_ask_picture.m g_ask_picture.kp g_ask_picture.b .nil pass0 (pa_N (pv 0) zad)))
   (zag (zat (zah g_rounds_along.ok (hr.mono (by decide)) (by rfl) g_rounds_along.m g_rounds_along.kp g_rounds_along.b .nil pass0 (zam (zah g_cell_table.ok (hr.mono (by decide)) (by rfl) g_cell_table.m g_cell_table.kp g_cell_table.b .nil pass0 (pa_N (pv 0) zad)) (zam (zah g_all_edges.ok (hr.mono (by decide)) (by rfl) g_all_edges.m g_all_edges.kp g_all_edges.b .nil pass0 (pa_N (pv 0) zad)) zad)))))),?_⟩
  refine⟨_,rfl,a,cs,rfl,hLR,hord,by lia,fun H1 s1=>?_⟩
  have hLR1:=hLR.same s1 fun x v hx=>hx.same s1
  refine⟨_,rfl,a,cs,rfl,hLR1,by lia,fun t H2 ht s2 tab=>?_⟩
  refine⟨_,rfl,a,cs,rfl,hLR1.same s2 (fun x v hx=>hx.same s2),by lia,fun pe H5 es hpe s5 e5 hv5=>?_⟩
  refine⟨t,pe,cs,es,rfl,tab.same s5,e5,hv5,hlen,fun p H' rs R R0 hp sp f1 f2 f3 f4 f5=>?_⟩
  exact k p H' rs R R0 (s1.free (s2.free (s5.free hp))) (s1.trans (s2.trans (s5.trans sp))) f1 f2 f3 f4 f5
end
open PySem L2 RP
theorem _root_.RP.Closed.uniq {C:Cell→Bool}{b:Edge}{es fs:List Edge}(h:Closed C b es) (k:Closed C b fs):es=fs:=by
 have lt:∀ {es fs:List Edge},Closed C b es→Closed C b fs→¬ es.length<fs.length:=fun {es fs} h k hl=>by
  have e:=h.it_len
  have hp:=h.pos
  have g1:=k.1.get es.length hl
  have g2:=k.1.get 0 (by lia)
  rw[e] at g1
  have:=(List.getElem?_inj (i:=es.length) (j:=0) hl k.1.2.2.2).mp (by rw[g1,g2];rfl)
  lia
 have hl:es.length=fs.length:=by have:=lt h k;have:=lt k h;lia
 apply List.ext_getElem?
 intro i
 rcases Nat.lt_or_ge i es.length with hi | hi
 ·rw[h.1.get i hi,k.1.get i (by lia)]
 ·rw[List.getElem?_eq_none hi,List.getElem?_eq_none (by lia)]
theorem zeU {α:Type}(l:List α) (j:Nat):(l.drop j++l.take j).Perm l:=by
 have:=List.perm_append_comm (l₁:=l.drop j) (l₂:=l.take j)
 rw[List.take_append_drop] at this
 exact this
theorem _root_.RP.Closed.share {C : Cell → Bool}{b c e : Edge}{es fs : List Edge}(h : Closed C b es) (k : Closed C c fs) (h1 : e ∈ es) (h2 : e ∈ fs) :
  ∃ i j,es[i]?=some e∧fs[j]?=some e∧es.drop i++es.take i=fs.drop j++fs.take j:=by
 obtain⟨i,hi,ei⟩:=List.getElem_of_mem h1
 obtain⟨j,hj,ej⟩:=List.getElem_of_mem h2
 have a1:es[i]?=some e:=by rw[List.getElem?_eq_getElem hi,ei]
 have a2:fs[j]?=some e:=by rw[List.getElem?_eq_getElem hj,ej]
 exact⟨i,j,a1,a2,(h.rot i a1).uniq (k.rot j a2)⟩
theorem _root_.RP.Closed.perm {C:Cell→Bool}{b c e:Edge}{es fs:List Edge}(h:Closed C b es) (k:Closed C c fs) (h1:e∈es) (h2:e∈fs):es.Perm fs:=by
 obtain⟨i,j,_,_,q⟩:=h.share k h1 h2
 exact (zeU es i).symm.trans (q ▸ zeU fs j)
theorem zdf {C:Cell→Bool}(es:List Edge):(wk C es).map (·.1)=es:=by
 unfold wk;rw[List.map_map];exact List.map_id' _
theorem zeu {C:Cell→Bool}{es fs:List Edge}(p:es.Perm fs):sortS (wk C es)=sortS (wk C fs):=by
 have q:(wk C es).Perm (wk C fs):=p.map _
 unfold sortS nL nS
 have a:=(q.filter fun q=>q.2.isNone).length_eq
 have b:=(q.filter fun q=>slant q.2).length_eq
 rw[a,b]
theorem lex2 {a b c d:Int}(h1:HT.lexLt [a,b] [c,d]=false) (h2:HT.lexLt [c,d] [a,b]=false):a=c∧b=d:=by
 have:=HT.lexLt_total h1 h2
 simpa using this
theorem zcr.one {W W':Wk}{s:Str}{e f:Edge}(p:(W.map (·.1)).Perm (W'.map (·.1))) (h:zcr W s e) (k:zcr W' s f):e=f:=by
 obtain⟨h1,h2,h3⟩:=h
 obtain⟨k1,k2,k3⟩:=k
 have a:=h3 f (p.mem_iff.mpr k1) k2
 have b:=k3 e (p.mem_iff.mp h1) h2
 obtain⟨q1,q2⟩:=lex2 a b
 obtain⟨⟨x,y⟩,w⟩:=e
 obtain⟨⟨x',y'⟩,w'⟩:=f
 simp only at q1 q2 h2 k2
 rw[h2,k2,q1,q2]
theorem IsRnd.one {C:Cell→Bool}{b c e:Edge}{es fs:List Edge}{r q:Rnd}(h:Closed C b es) (k:Closed C c fs) (h1:e∈es) (h2:e∈fs) (hr:IsRnd (wk C es) r) (hq:IsRnd (wk C fs) q):r=q:=by
 have p:=h.perm k h1 h2
 obtain⟨r0,i,f,rf,rb,rx,ry,rr⟩:=hr
 obtain⟨q0,j,g,qg,qb,qx,qy,qr⟩:=hq
 have ss:=zeu (C:=C) p
 rw[← ss] at qb
 have fg:f=g:=rb.one (by rw[zdf,zdf];exact p) qb
 subst fg
 rw[zdf] at rf qg
 have e1:=(h.rot i rf).uniq (k.rot j qg)
 have e2:(wk C es).drop i++(wk C es).take i=(wk C fs).drop j++(wk C fs).take j:=by
  unfold wk
  rw[← List.map_drop,← List.map_take,← List.map_append,e1,List.map_append,List.map_drop,List.map_take]
 obtain⟨a1,a2,a3,a4⟩:=r
 obtain⟨b1,b2,b3,b4⟩:=q
 simp only at r0 rx ry rr q0 qx qy qr
 rw[r0,q0,rx,ry,rr,qx,qy,qr,ss,e2]
def begE (r:Rnd):Edge:=⟨(r.x,r.y),kOf r.so⟩
theorem IsRnd.beg {C:Cell→Bool}{es:List Edge}{r:Rnd}(h:IsRnd (wk C es) r):begE r∈es∧(r.so = "rim" ∨ r.so = "hole"):=by
 obtain⟨r0,i,f,rf,⟨rb,rw',_⟩,rx,ry,rr⟩:=h
 rw[zdf] at rb
 refine⟨?_,by rw[r0];exact zdw _⟩
 have:begE r=f:=by
  obtain⟨⟨x,y⟩,w⟩:=f
  unfold begE
  rw[rx,ry,r0]
  simp only at rw' ⊢
  rw[rw']
 rw[this];exact rb
theorem Part.got {C:Cell→Bool}{ESS:List (List Edge)}{R:List Rnd}(h:Part C ESS R){i:Nat}{r:Rnd}(hr:R[i]?=some r):∃ es b,ESS[i]?=some es∧Closed C b es∧IsRnd (wk C es) r:=by
 have hi:=(List.getElem?_eq_some_iff.mp hr).1
 rw[h.len] at hi
 obtain⟨⟨b,hb⟩,q⟩:=h.each i _ r (List.getElem?_eq_getElem hi) hr
 exact⟨_,b,List.getElem?_eq_getElem hi,hb,q⟩
theorem zj4 {α:Type}{L:List (List α)}(h:L.flatten.Nodup):∀ {i j:Nat}{a b:List α}{x:α},L[i]?=some a→L[j]?=some b→x∈a→x∈b→i=j:=by
 induction L with
 | nil=>intro i j a b x h1;simp at h1
 | cons l r ih =>
  rw[List.flatten_cons,List.nodup_append] at h
  obtain⟨_,h2,h3⟩:=h
  intro i j a b x h1 h4 xa xb
  cases i with
  | zero =>
   cases j with
   | zero=>rfl
   | succ j =>
    simp only[List.getElem?_cons_zero,Option.some.injEq,List.getElem?_cons_succ] at h1 h4
    subst h1
    exact absurd rfl (h3 x xa x (List.mem_flatten.mpr ⟨b,List.mem_of_getElem? h4,xb⟩))
  | succ i =>
   cases j with
   | zero =>
    simp only[List.getElem?_cons_zero,Option.some.injEq,List.getElem?_cons_succ] at h1 h4
    subst h4
    exact absurd rfl (h3 x xb x (List.mem_flatten.mpr ⟨a,List.mem_of_getElem? h1,xa⟩))
   | succ j =>
    have:=ih h2 (i:=i) (j:=j) (by simpa using h1) (by simpa using h4) xa xb
    rw[this]
theorem Part.beg_inj {C:Cell→Bool}{ESS:List (List Edge)}{R:List Rnd}(h:Part C ESS R){i j:Nat}{r q:Rnd}(hr:R[i]?=some r) (hq:R[j]?=some q) (e:begE r=begE q):i=j:=by
 obtain⟨es,b,h1,h2,h3⟩:=h.got hr
 obtain⟨fs,c,k1,k2,k3⟩:=h.got hq
 exact zj4 h.nd h1 k1 h3.beg.1 (e ▸ k3.beg.1)
theorem Part.so {C:Cell→Bool}{ESS:List (List Edge)}{R:List Rnd}(h:Part C ESS R){r:Rnd}(hr:r∈R):r.so = "rim" ∨ r.so = "hole":=by
 obtain⟨i,hi,ei⟩:=List.getElem_of_mem hr
 obtain⟨es,b,h1,h2,h3⟩:=h.got (by rw[List.getElem?_eq_getElem hi,ei])
 exact h3.beg.2
theorem Whole.mem {cs:List Cell}{R S:List Rnd}(h:Whole cs R) (k:Whole cs S){r:Rnd}(hr:r∈R):r∈S:=by
 obtain⟨E,h1,h2⟩:=h
 obtain⟨F,k1,k2⟩:=k
 obtain⟨i,hi,ei⟩:=List.getElem_of_mem hr
 obtain⟨es,b,a1,a2,a3⟩:=h1.got (by rw[List.getElem?_eq_getElem hi,ei])
 have m:=a3.beg.1
 obtain⟨fs,f1,f2⟩:=List.mem_flatten.mp ((k2 _).mpr (a2.1.2.2.1 _ m))
 obtain⟨j,hj,ej⟩:=List.getElem_of_mem f1
 have hjs:j<S.length:=by rw[k1.len];exact hj
 obtain⟨⟨c,hc⟩,q⟩:=k1.each j fs S[j] (by rw[List.getElem?_eq_getElem hj,ej]) (List.getElem?_eq_getElem hjs)
 rw[IsRnd.one a2 hc m f2 a3 q]
 exact List.getElem_mem _
theorem zle {r q:Rnd}(hr:r.so = "rim" ∨ r.so = "hole") (hq:q.so = "rim" ∨ q.so = "hole") (h:keyI r=keyI q):begE r=begE q:=by
 obtain⟨a1,a2,a3,a4⟩:=r
 obtain⟨b1,b2,b3,b4⟩:=q
 simp only[keyI,List.cons.injEq,and_true] at h
 obtain⟨h1,h2,h3⟩:=h
 subst h1 h2
 unfold begE
 simp only at hr hq h3 ⊢
 have n:decide (V.str "rim" = V.str "hole")=false:=decide_eq_false (by decide)
 have y:decide (V.str "hole" = V.str "hole")=true:=decide_eq_true rfl
 rcases hr with rfl | rfl <;> rcases hq with rfl | rfl <;> first | rfl | (rw[n,y] at h3;exact absurd h3 (by decide))
theorem zld {r q:Rnd}(h1:HT.lexLt (keyI r) (keyI q)=false) (h2:HT.lexLt (keyI q) (keyI r)=false):keyI r=keyI q:=HT.lexLt_total h1 h2
abbrev InKey (R:List Rnd):Prop:=R.Pairwise (fun r q=>HT.lexLt (keyI q) (keyI r)=false)
theorem InKey.one:∀ {R S:List Rnd},InKey R→InKey S→(∀ r,r∈R ↔ r∈S)→R.Nodup→S.Nodup→(∀ r∈R,∀ q∈R,keyI r=keyI q→r=q)→R=S
  | [],[],_,_,_,_,_,_=>rfl
  | [],q::S,_,_,h,_,_,_=>by have:=(h q).mpr List.mem_cons_self;cases this
  | r::R,[],_,_,h,_,_,_=>by have:=(h r).mp List.mem_cons_self;cases this
  | r::R,q::S,h1,h2,h,n1,n2,kj=>by
    obtain⟨a1,a2⟩:=List.pairwise_cons.mp h1
    obtain⟨b1,b2⟩:=List.pairwise_cons.mp h2
    have e:r=q:=by
      rcases List.mem_cons.mp ((h r).mp List.mem_cons_self) with z | z
      · exact z
      rcases List.mem_cons.mp ((h q).mpr List.mem_cons_self) with y | y
      · exact y.symm
      · exact kj r List.mem_cons_self q (List.mem_cons_of_mem _ y) (zld (b1 r z) (a1 q y))
    subst e
    have m1:=List.nodup_cons.mp n1
    have m2:=List.nodup_cons.mp n2
    rw[InKey.one a2 b2 (fun x => ⟨fun hx => by
        rcases List.mem_cons.mp ((h x).mp (List.mem_cons_of_mem _ hx)) with z | z
        · rw[z] at hx;exact absurd hx m1.1
        · exact z,fun hx=>by
        rcases List.mem_cons.mp ((h x).mpr (List.mem_cons_of_mem _ hx)) with z | z
        · rw[z] at hx;exact absurd hx m2.1
        · exact z⟩) m1.2 m2.2 fun x hx y hy=>kj x (List.mem_cons_of_mem _ hx) y (List.mem_cons_of_mem _ hy)]
theorem Part.nodup {C:Cell→Bool}{ESS:List (List Edge)}{R:List Rnd}(h:Part C ESS R):R.Nodup:=by
 unfold List.Nodup
 rw[List.pairwise_iff_getElem]
 intro i j hi hj hij e
 have:=h.beg_inj (i:=i) (j:=j) (r:=R[j]) (q:=R[j]) (by rw[List.getElem?_eq_getElem hi,e]) (List.getElem?_eq_getElem hj) rfl
 lia
theorem Part.key_inj {C:Cell→Bool}{ESS:List (List Edge)}{R:List Rnd}(h:Part C ESS R):∀ r∈R,∀ q∈R,keyI r=keyI q→r=q:=by
 intro r hr q hq e
 have be:=zle (h.so hr) (h.so hq) e
 obtain⟨i,hi,ei⟩:=List.getElem_of_mem hr
 obtain⟨j,hj,ej⟩:=List.getElem_of_mem hq
 have:=h.beg_inj (i:=i) (j:=j) (by rw[List.getElem?_eq_getElem hi,ei]) (by rw[List.getElem?_eq_getElem hj,ej]) be
 subst this
 rw[← ei,← ej]
theorem Whole.one {cs:List Cell}{R R0 S S0:List Rnd}(p:R.Perm R0) (q:S.Perm S0) (hR:InKey R) (hS:InKey S) (h:Whole cs R0) (k:Whole cs S0):R=S:=by
 obtain⟨E,h1,h2⟩:=id h
 obtain⟨F,k1,k2⟩:=id k
 refine InKey.one hR hS (fun r=>⟨fun m=>q.mem_iff.mpr (h.mem k (p.mem_iff.mp m)),fun m=>p.mem_iff.mpr (k.mem h (q.mem_iff.mp m))⟩) (p.nodup_iff.mpr h1.nodup) (q.nodup_iff.mpr k1.nodup) ?_
 exact fun r hr q hq=>h1.key_inj r (p.mem_iff.mp hr) q (p.mem_iff.mp hq)
open PySem L2 RP
theorem zhq (s:Nat):∀ (l:List Nat) (w:Nat),dgo w (l++[s])=((dgo w l).1++(List.replicate ((zbw s+4 - (dgo w l).2) % 4) none++[some s]),wayB s)
 | [],w=>by simp[dgo]
 | a::l,w=>by
  have ih:=zhq s l (wayB a)
  show (List.replicate ((zbw a+4 - w) % 4) none++some a::(dgo (wayB a) (l++[s])).1,(dgo (wayB a) (l++[s])).2)=_
  rw[ih]
  show _=((List.replicate ((zbw a+4 - w) % 4) none++some a::(dgo (wayB a) l).1)++_,_)
  simp
  rfl
theorem zfg:∀ (l:List Nat) (w:Nat),(dgo w l).1.length≤4*l.length
 | [],w=>by simp[dgo]
 | a::l,w=>by
  have ih:=zfg l (wayB a)
  show (List.replicate ((zbw a+4 - w) % 4) none++some a::(dgo (wayB a) l).1).length≤_
  have:(zbw a+4 - w) % 4<4:=Nat.mod_lt _ (by decide)
  simp only[List.length_append,List.length_replicate,List.length_cons]
  lia
theorem zgJ:∀ (l:List Nat) (w:Nat),w<4→(dgo w l).2<4
 | [],w,h=>h
 | a::l,w,h=>zgJ l (wayB a) (Nat.mod_lt _ (by decide))
theorem zh7 (s:Nat):zbw s<4:=Nat.mod_lt _ (by decide)
theorem zhj (n:Nat):(List.replicate n [V.non]).flatten=(List.replicate n (none:Option Nat)).map sv:=by
 induction n with
 | zero=>rfl
 | succ n ih=>rw[List.replicate_succ,List.flatten_cons,ih];rfl
theorem zbx {n:Nat}(h:n≤5000):n<sizeLine:=Nat.lt_of_le_of_lt h (by decide)
theorem zkz:1≤sizeLine:=by decide
section
variable {P:Program}{w:World}{K:W.Frag}{mg:Str→Option Value}{base:Heap}
def zfB:Sp:=fun vs H Q _=>∃ (v:V) (r:Rnd),vs=[v]∧rR r v H∧(r.so = "rim" ∨ r.so = "hole")∧∀ p H',H p=none→Same H H'→H' p=some (.tup (edgeT (begE r)))→Q (.ref p) H'
theorem ze8 (T:Txt P w K mg) (d:Df K mg "begin_edge" zbi ["one"]):FnOk P w K mg base CX0 1 d.f d.fd ["one"] zfB:=by
 refine d.F.ok zbH (fun vs H Q E h=>?_) (fun cdv A outer s H vs Q E hr h=>?_)
 ·obtain⟨v,r,rfl,_⟩:=h
  rfl
 ·obtain⟨v,r,rfl,⟨a,b,rfl,q1,q2⟩,hso,k⟩:=h
  refine⟨_,(zac (zct (pv 0) (zbL (by rfl) (zae (zaf (i:=1) zbH.nd (by rfl) (Or.inl rfl)) (zae (zaf (i:=2) zbH.nd (by rfl) (Or.inl rfl)) (zae (zaf (i:=3) zbH.nd (by rfl) (Or.inl rfl)) (zae (zaf (i:=4) zbH.nd (by rfl) (Or.inl rfl)) zay))))))
   (zag (zat (zbj (pa_N (pv 2) (pa_N (pv 3) (zam (ziG (by rfl) T.ways (pv 1)) zad))))))),?_⟩
  refine⟨_,rfl,a,_,rfl,SqT.of q1,rfl,_,_,rfl,_,_,rfl,_,_,rfl,_,_,rfl,rfl,?_⟩
  refine⟨_,rfl,_,rfl,_,rfl,?_⟩
  rcases hso with e | e
  ·refine .inl ⟨by rw[e],three,fun p hp=>k p _ hp (Same.up hp) ?_⟩
   rw[zaa]
   unfold begE edgeT kOf
   simp only[e]
   rfl
  ·refine .inr ⟨by rw[e],three,fun p hp=>k p _ hp (Same.up hp) ?_⟩
   rw[zaa]
   unfold begE edgeT kOf
   simp only[e]
   rfl
def zgV:Sp:=fun vs H Q _=>∃ s:Nat,vs=[.int s]∧Q (.int (zbw s:Nat)) H
theorem zhG (d:Df K mg "way_for" zb3 ["step"]):FnOk P w K mg base CX0 1 d.f d.fd ["step"] zgV:=by
 refine d.F.ok zhC (fun vs H Q E h=>?_) (fun cdv A outer s H vs Q E hr h=>?_)
 ·obtain⟨s,rfl,_⟩:=h
  rfl
 ·obtain⟨t,rfl,k⟩:=h
  refine⟨_,(zag (zat (pe_op zbM (pe_op zgz (pe_op zbI (pv 0) zak) zak) zak))),?_⟩
  refine⟨_,rfl,_,_,rfl,rfl,_,_,rfl,rfl,⟨by decide,by decide⟩,_,_,rfl,rfl,(by show (0:Int)<4;decide),?_⟩
  have e:((t:Int)+1) / 2 % 4=(zbw t:Nat):=by unfold zbw;lia
  show Q (V.int (((t:Int)+1) / 2 % 4)) H
  rw[e];exact k
def zii (K:W.Frag):Sp:=fun vs H Q _=>∃ (wn:Nat) (b:Addr) (row:List Nat),vs=[.int (wn:Int),.ref b]∧wn<4∧SqT K H b (rowV row)∧row.length≤500 ∧
 ∀ p H',H p=none→Same H H'→H' p=some (.lst ((deeds wn row).map sv))→Q (.ref p) H'
theorem zed (g_way_for:Fn P w K mg base 1 "way_for" ["step"] zgV) (d:Df K mg "deeds_along" za1 ["begin_way","row"]):FnOk P w K mg base CX0 2 d.f d.fd ["begin_way","row"] (zii K):=by
 refine d.F.ok za6 (fun vs H Q E h=>?_) (fun cdv A outer s H vs Q E hr h=>?_)
 ·obtain⟨wn,b,row,rfl,_⟩:=h
  rfl
 ·obtain⟨wn,b,row,rfl,hw,hq,hlen,k⟩:=h
  refine⟨_,(zac (zaq (i:=2) za6.nd (by rfl) (Or.inl rfl) (pv 0))
   (zac (zaq (i:=3) za6.nd (by rfl) (Or.inl rfl) (zcj zad))
   (zac (zbX PassesOwn.never rfl (zkw (pv 1)) (zaf (i:=4) za6.nd (by rfl) (Or.inl rfl))
   (zac (zbv (pe_bm PySem.F.plainAttrs_list PySem.F.slot_list_extend PySem.F.type_list_extend zdT (pv 3) (pa_B (pe_op zkx (zcj (pa_C zci zad)) (pe_op zbM (pe_op zdj (zah g_way_for.ok (hr.mono (by decide)) (by rfl) g_way_for.m g_way_for.kp g_way_for.b .nil pass0 (pa_N (pv 4) zad)) (pv 2)) zak)) zad)))
   (zac (zbv (pe_bm PySem.F.plainAttrs_list PySem.F.slot_list_append PySem.F.type_list_append zbk (pv 3) (pa_N (pv 4) zad)))
   (zag (zaq (i:=2) za6.nd (by rfl) (Or.inl rfl) (pe_op zbM (pe_op zdj (zah g_way_for.ok (hr.mono (by decide)) (by rfl) g_way_for.m g_way_for.kp g_way_for.b .nil pass0 (pa_N (pv 4) zad)) (pe_op zbM (pv 4) zak)) zak))))))
   (zac (zaq (i:=5) za6.nd (by rfl) (Or.inl rfl) (zeY (zjO (pv 1) (fun _=>rfl)) (pe_op zbM (pe_op zdj (pv 0) (pv 2)) zak) zak))
   (zag (zat (pe_op zky (pv 3) (pe_op zkx (zcj (pa_C zci zad)) (pv 5))))))))),?_⟩
  refine⟨_,rfl,(by show 0≤sizeLine;decide),fun p hp=>?_⟩
  have s0:Same H (upd H p (.lst [])):=Same.up hp
  have e0:upd H p (.lst []) p=some (.lst []):=zaa
  generalize upd H p (.lst [])=H0 at s0 e0
  refine⟨_,rfl,b,rfl,⟨_,s0.seqT hq⟩,?_⟩
  have hrl:(rowV row).length=row.length:=by unfold rowV;exact List.length_map _
  refine zjb (K:=K) (a:=b) (xs:=rowV row) (fun i σ H1=>∃ o4 o5,σ=[some (.int (wn:Int)),some (.ref b),some (.int ((dgo wn (row.take i)).2:Nat)),some (.ref p),o4,o5]∧Same H H1∧H1 p=some (.lst ((dgo wn (row.take i)).1.map sv)))
   ⟨_,_,rfl,s0,e0⟩ (fun i σ H1 _ ⟨_,_,_,s1,_⟩=>s1.seqT hq) ?_ ?_
  ·rintro i v σ H1 hi ⟨o4,o5,rfl,s1,e1⟩
   have hi':i<row.length:=by rw[← hrl];exact (List.getElem?_eq_some_iff.mp hi).1
   unfold rowV at hi
   rw[List.getElem?_map,List.getElem?_eq_getElem hi'] at hi
   cases hi
   have hdl:=zfg (row.take i) wn
   rw[List.length_take] at hdl
   have hdw:=zgJ (row.take i) wn hw
   have hwf:=zh7 row[i]
   have hn:=zhq row[i] (row.take i) wn
   rw[← zaJ (List.getElem?_eq_getElem hi')] at hn
   refine⟨_,rfl,.inl ⟨rfl,_,SqL.of e1⟩,zkz,fun l hl=>?_⟩
   have s2:Same H1 (upd H1 l (.lst [.non])):=Same.up hl
   have e2:upd H1 l (.lst [.non]) l=some (.lst [.non]):=zaa
   generalize upd H1 l (.lst [.non])=H2 at s2 e2
   refine⟨_,rfl,row[i],rfl,?_⟩
   refine⟨_,rfl,_,_,rfl,rfl,_,_,rfl,rfl,(by show (0:Int)<4;decide),?_⟩
   have ek:(((zbw row[i]:Nat):Int) - ((dgo wn (row.take i)).2:Nat)) % 4=(((zbw row[i]+4 - (dgo wn (row.take i)).2) % 4:Nat):Int):=by lia
   have k4:(zbw row[i]+4 - (dgo wn (row.take i)).2) % 4<4:=Nat.mod_lt _ (by decide)
   generalize hk:(zbw row[i]+4 - (dgo wn (row.take i)).2) % 4=kk at *
   refine⟨l,(kk:Int),_,rfl,congrArg V.int ek,e2,by lia,by lia,(Nat.le_of_lt (zap (by simp;lia))),fun q hq'=>?_⟩
   rw[Int.toNat_natCast,zhj]
   have s3:Same H2 (upd H2 q (.lst ((List.replicate kk (none:Option Nat)).map sv))):=Same.up hq'
   have e3:upd H2 q (.lst ((List.replicate kk (none:Option Nat)).map sv)) q=some (.lst ((List.replicate kk (none:Option Nat)).map sv)):=zaa
   have hpq:p≠q:=fun z=>by subst z;rw[s2 _ _ e1] at hq';cases hq'
   generalize upd H2 q (.lst ((List.replicate kk (none:Option Nat)).map sv))=H3 at s3 e3
   have e13:=s3 _ _ (s2 _ _ e1)
   refine⟨p,q,_,_,rfl,rfl,e13,e3,?_,?_⟩
   ·simp only[List.length_map,List.length_replicate]
    exact Nat.le_of_lt (zbx (by lia))
   have hp2:H p=none:=hp
   have s4:Same H (upd H3 p (.lst ((dgo wn (row.take i)).1.map sv++(List.replicate kk (none:Option Nat)).map sv))):=zav hp2 (s1.trans (s2.trans s3))
   have e4:upd H3 p (.lst ((dgo wn (row.take i)).1.map sv++(List.replicate kk (none:Option Nat)).map sv)) p=some (.lst ((dgo wn (row.take i)).1.map sv++(List.replicate kk (none:Option Nat)).map sv)):=zaa
   generalize upd H3 p (.lst ((dgo wn (row.take i)).1.map sv++(List.replicate kk (none:Option Nat)).map sv))=H4 at s4 e4
   refine⟨_,rfl,.inl ⟨rfl,_,SqL.of e4⟩,_,rfl,p,_,_,rfl,rfl,e4,?_,?_⟩
   ·simp only[List.length_append,List.length_map,List.length_replicate]
    exact zbx (by lia)
   have s5:Same H (upd H4 p (.lst (((dgo wn (row.take i)).1.map sv++(List.replicate kk (none:Option Nat)).map sv)++[V.int (row[i]:Nat)]))):=zav hp2 s4
   have e5:upd H4 p (.lst (((dgo wn (row.take i)).1.map sv++(List.replicate kk (none:Option Nat)).map sv)++[V.int (row[i]:Nat)])) p=some (.lst ((dgo wn (row.take (i+1))).1.map sv)):=by
    rw[zaa,hn]
    simp[sv]
   generalize upd H4 p (.lst (((dgo wn (row.take i)).1.map sv++(List.replicate kk (none:Option Nat)).map sv)++[V.int (row[i]:Nat)]))=H5 at s5 e5
   refine⟨_,rfl,row[i],rfl,?_⟩
   refine⟨_,rfl,_,_,rfl,rfl,(by show (0:Int)<2;decide),_,_,rfl,rfl,_,_,rfl,rfl,(by show (0:Int)<4;decide),?_⟩
   have ew:(((zbw row[i]:Nat):Int) - (row[i]:Int) % 2) % 4=((dgo wn (row.take (i+1))).2:Nat):=by
    rw[hn]
    show _=((wayB row[i]:Nat):Int)
    unfold wayB
    lia
   refine⟨some (V.int (row[i]:Nat)),o5,?_,s5,e5⟩
   exact congrArg (fun z:Int=>[some (V.int (wn:Int)),some (V.ref b),some (V.int z),some (V.ref p),some (V.int (row[i]:Nat)),o5]) ew
  ·rintro σ H1 ⟨o4,o5,rfl,s1,e1⟩
   rw[hrl,List.take_length] at e1
   rw[hrl,List.take_length]
   have hdl:=zfg row wn
   have hdw:=zgJ row wn hw
   have fin:∀ z:Int,z=(zaM wn row:Nat)→tRet (tOp rCat (tVar 3) (tOp rRep (tLst (tCons (tC .non) tNil)) (tVar 5))) { nx:=fun _ H'=>Q .non H',rt:=Q } [some (.int (wn:Int)),some (.ref b),some (.int ((dgo wn row).2:Nat)),some (.ref p),o4,some (.int z)] H1:=fun z hz=>by
    have hll:zaM wn row≤4:=by
     unfold zaM
     split
     ·decide
     ·exact Nat.le_of_lt (Nat.mod_lt _ (by decide))
    refine⟨_,rfl,zkz,fun l hl=>?_⟩
    have s2:Same H1 (upd H1 l (.lst [.non])):=Same.up hl
    have e2:upd H1 l (.lst [.non]) l=some (.lst [.non]):=zaa
    generalize upd H1 l (.lst [.non])=H2 at s2 e2
    subst hz
    refine⟨_,rfl,l,_,_,rfl,rfl,e2,by lia,by lia,(Nat.le_of_lt (zap (by simp;lia))),fun q hq'=>?_⟩
    rw[Int.toNat_natCast,zhj]
    have s3:Same H2 (upd H2 q (.lst ((List.replicate (zaM wn row) (none:Option Nat)).map sv))):=Same.up hq'
    have e3:upd H2 q (.lst ((List.replicate (zaM wn row) (none:Option Nat)).map sv)) q=some (.lst ((List.replicate (zaM wn row) (none:Option Nat)).map sv)):=zaa
    generalize upd H2 q (.lst ((List.replicate (zaM wn row) (none:Option Nat)).map sv))=H3 at s3 e3
    refine⟨p,q,_,_,rfl,rfl,s3 _ _ (s2 _ _ e1),e3,?_,fun x hx=>?_⟩
    ·simp only[List.length_map,List.length_replicate]
     exact Nat.le_of_lt (zbx (by lia))
    ·have s13:=s1.trans (s2.trans s3)
     refine k x _ (s13.free hx) (s13.trans (Same.up hx)) ?_
     rw[zaa]
     unfold deeds
     rw[List.map_append]
   refine⟨_,rfl,_,.inr (.inl ⟨_,s1.seqT hq,rfl⟩),?_⟩
   by_cases he:row=[]
   ·exact iteN (by rw[he];rfl) (fin 4 (by rw[he];rfl))
   ·refine iteY (by cases row with | nil=>exact absurd rfl he | cons x r=>rfl) ⟨_,rfl,_,rfl,_,_,rfl,rfl,_,_,rfl,rfl,(by show (0:Int)<4;decide),fin _ ?_⟩
    have hl:zaM wn row=(wn+4 - (dgo wn row).2) % 4:=by
     unfold zaM
     rw[if_neg (by simpa using he)]
    rw[hl]
    lia
def wby:Edge→List (Option Nat)→List (Edge×Option Nat)
 | _,[]=>[]
 | e,d::r=>(e,d)::wby (edgeB e d) r
def eAt:Edge→List (Option Nat)→Edge
 | e,[]=>e
 | e,d::r=>eAt (edgeB e d) r
theorem zho (d:Option Nat):∀ (l:List (Option Nat)) (e:Edge),eAt e (l++[d])=edgeB (eAt e l) d
 | [],_=>rfl
 | _::l,e=>zho d l _
theorem zgN (d:Option Nat):∀ (l:List (Option Nat)) (e:Edge),wby e (l++[d])=wby e l++[(eAt e l,d)]
 | [],_=>rfl
 | a::l,e=>by
  show (e,a)::wby (edgeB e a) (l++[d])=_
  rw[zgN d l];rfl
theorem zeo:∀ (l:List (Option Nat)) (e:Edge),(wby e l).length=l.length
 | [],_=>rfl
 | a::l,e=>by show (wby (edgeB e a) l).length+1=_;rw[zeo l];rfl
theorem zj7 {e:Edge}{o:Option Nat}(h:e.w<4):(edgeB e o).w<4:=by
 unfold edgeB
 cases o with
 | none=>exact Nat.mod_lt _ (by decide)
 | some s=>simp only;split <;> simp only <;> lia
theorem zkD:∀ (l:List (Option Nat)){e:Edge},e.w<4→(eAt e l).w<4
 | [],_,h=>h
 | _::l,_,h=>zkD l (zj7 h)
theorem zfq {C:Cell→Bool}:∀ (es:List Edge){b:Edge},es[0]?=some b∨es=[]→(∀ i e f,es[i]?=some e→es[i+1]?=some f→f=nxt C e)→wby b (es.map (stepB C))=wk C es
 | [],_,_,_=>rfl
 | e::r,b,h0,hs=>by
  have hb:e=b:=by rcases h0 with h | h;simpa using h;cases h
  subst hb
  show (e,stepB C e)::wby (nxt C e) (r.map (stepB C))=(e,stepB C e)::wk C r
  rw[zfq r (b:=nxt C e) ?_ fun i x y h1 h2=>hs (i+1) x y (by simpa using h1) (by simpa using h2)]
  cases r with
  | nil=>exact .inr rfl
  | cons f r=>exact .inl (by have:=hs 0 e f rfl rfl;rw[← this];rfl)
def zgX (K:W.Frag):Sp:=fun vs H Q _=>∃ (a l:Addr) (b:Edge) (ds:List (Option Nat)),vs=[.ref a,.ref l]∧H a=some (.tup (edgeT b))∧b.w<4∧H l=some (.lst (ds.map sv))∧(∀ s,some s∈ds→s<8)∧ds.length≤3000 ∧
 ∀ p H' ws,H p=none→Same H H'→H' p=some (.lst ws)→VR ws (wby b ds) wR H'→Q (.ref p) H'
theorem zhI (g_edge_behind:Fn P w K mg base 2 "edge_behind" ["edge","step"] (zdF K)) (d:Df K mg "walk_by" zb5 ["begin","deeds"]):FnOk P w K mg base CX0 3 d.f d.fd ["begin","deeds"] (zgX K):=by
 refine d.F.ok zcg (fun vs H Q E h=>?_) (fun cdv A outer s H vs Q E hr h=>?_)
 ·obtain⟨a,l,b,ds,rfl,_⟩:=h
  rfl
 ·obtain⟨a,l,b,ds,rfl,ha,hb,hl,h8,hlen,k⟩:=h
  refine⟨_,(zac (zaq (i:=2) zcg.nd (by rfl) (Or.inl rfl) (zcj zad))
   (zac (zaq (i:=3) zcg.nd (by rfl) (Or.inl rfl) (pv 0))
   (zac (zbX PassesOwn.never rfl (zba (pv 1)) (zaf (i:=4) zcg.nd (by rfl) (Or.inl rfl))
   (zac (zbv (pe_bm PySem.F.plainAttrs_list PySem.F.slot_list_append PySem.F.type_list_append zbk (pv 2) (pa_T (zbj (pa_N (pv 3) (pa_N (pv 4) zad))) zad)))
   (zag (zaq (i:=3) zcg.nd (by rfl) (Or.inl rfl) (zah g_edge_behind.ok (hr.mono (by decide)) (by rfl) g_edge_behind.m g_edge_behind.kp g_edge_behind.b .nil pass0 (pa_N (pv 3) (pa_N (pv 4) zad)))))))
   (zag (zat (pv 2)))))),?_⟩
  refine⟨(by show 0≤sizeLine;decide),fun p hp=>?_⟩
  have s0:Same H (upd H p (.lst [])):=Same.up hp
  have e0:upd H p (.lst []) p=some (.lst []):=zaa
  generalize upd H p (.lst [])=H0 at s0 e0
  refine⟨_,rfl,_,rfl,l,rfl,⟨_,SqL.of (s0 _ _ hl)⟩,?_⟩
  refine zaD (K:=K) (a:=l) (xs:=ds.map sv) (fun i σ H1=>∃ (c:Addr) (o4:Option V) (ws:List V),σ=[some (.ref a),some (.ref l),some (.ref p),some (.ref c),o4]∧Same H H1∧H1 c=some (.tup (edgeT (eAt b (ds.take i))))∧H1 p=some (.lst ws)∧VR ws (wby b (ds.take i)) wR H1)
   ⟨a,_,[],rfl,s0,s0 _ _ ha,e0,VR.nil⟩ (fun i σ H1 _ ⟨_,_,_,_,s1,_⟩=>SqL.of (s1 _ _ hl)) ?_ ?_
  ·rintro i v σ H1 hi ⟨c,o4,ws,rfl,s1,hc,e1,hv⟩
   have hi':i<ds.length:=by have:=(List.getElem?_eq_some_iff.mp hi).1;rwa [List.length_map] at this
   rw[List.getElem?_map,List.getElem?_eq_getElem hi'] at hi
   cases hi
   have tk:=zaJ (List.getElem?_eq_getElem hi')
   have wl:ws.length≤3000:=by rw[hv.1,zeo,List.length_take];lia
   refine⟨_,rfl,.inl ⟨rfl,_,SqL.of e1⟩,_,rfl,_,rfl,two,fun t ht=>?_⟩
   have s2:Same H1 (upd H1 t (.tup [.ref c,sv ds[i]])):=Same.up ht
   have e2:upd H1 t (.tup [.ref c,sv ds[i]]) t=some (.tup [.ref c,sv ds[i]]):=zaa
   generalize upd H1 t (.tup [.ref c,sv ds[i]])=H2 at s2 e2
   have e12:=s2 _ _ e1
   refine⟨p,ws,_,rfl,rfl,e12,zbx (by lia),?_⟩
   have kt3:KT H2 (upd H2 p (.lst (ws++[.ref t]))):=KT.lst e12
   have s3:Same H (upd H2 p (.lst (ws++[.ref t]))):=zav hp (s1.trans s2)
   have e3:upd H2 p (.lst (ws++[.ref t])) p=some (.lst (ws++[.ref t])):=zaa
   generalize upd H2 p (.lst (ws++[.ref t]))=H3 at kt3 s3 e3
   have hc3:=kt3 _ _ (s2 _ _ hc)
   refine⟨_,rfl,_,rfl,c,eAt b (ds.take i),ds[i],rfl,SqT.of hc3,zkD _ hb,fun z hz=>h8 z (hz ▸ List.getElem_mem _),fun q H4 hq s4 e4=>?_⟩
   refine⟨q,_,ws++[.ref t],rfl,s3.trans s4,?_,s4 _ _ e3,?_⟩
   ·rw[tk,zho];exact e4
   ·rw[tk,zgN]
    exact hv.snoc (fun x v h=>((h.kt (KT.of s2)).kt kt3).kt (KT.of s4)) ⟨t,c,rfl,s4 _ _ (kt3 _ _ e2),s4 _ _ hc3⟩
  ·rintro σ H1 ⟨c,o4,ws,rfl,s1,hc,e1,hv⟩
   rw[List.length_map,List.take_length] at hv
   exact⟨_,rfl,k p H1 ws hp s1 e1 hv⟩
def zdE (K:W.Frag):Sp:=fun vs H Q _=>∃ (a b:Addr) (e:Edge) (row:List Nat),vs=[.ref a,.ref b]∧H a=some (.tup (edgeT e))∧e.w<4∧SqT K H b (rowV row)∧row.length≤500∧(∀ s,some s∈deeds e.w row→s<8) ∧
 ∀ p H' ws,H p=none→Same H H'→H' p=some (.lst ws)→VR ws (wby e (deeds e.w row)) wR H'→Q (.ref p) H'
theorem ze0 (g_walk_by:Fn P w K mg base 3 "walk_by" ["begin","deeds"] (zgX K)) (g_deeds_along:Fn P w K mg base 2 "deeds_along" ["begin_way","row"] (zii K)) (d:Df K mg "walk_along" zbc ["begin","row"]):FnOk P w K mg base CX0 4 d.f d.fd ["begin","row"] (zdE K):=by
 refine d.F.ok zeP (fun vs H Q E h=>?_) (fun cdv A outer s H vs Q E hr h=>?_)
 ·obtain⟨a,b,e,row,rfl,_⟩:=h
  rfl
 ·obtain⟨a,b,e,row,rfl,ha,hw,hq,hlen,h8,k⟩:=h
  refine⟨_,(zag (zat (zah g_walk_by.ok (hr.mono (by decide)) (by rfl) g_walk_by.m g_walk_by.kp g_walk_by.b .nil pass0 (pa_N (pv 0) (zam (zah g_deeds_along.ok (hr.mono (by decide)) (by rfl) g_deeds_along.m g_deeds_along.kp g_deeds_along.b .nil pass0 (zam (pe_ix zc5 (pv 0) zak (fun _ _=>rfl)) (pa_N (pv 1) zad))) zad))))),?_⟩
  refine⟨_,rfl,_,rfl,a,_,_,_,rfl,rfl,SqT.of ha,zbm (j:=2) rfl,_,rfl,e.w,b,row,rfl,hw,hq,hlen,fun p H1 hp s1 e1=>?_⟩
  have hd:(deeds e.w row).length≤3000:=by
   unfold deeds
   have:=zfg row e.w
   have:zaM e.w row≤4:=by
    unfold zaM
    split
    ·decide
    ·exact Nat.le_of_lt (Nat.mod_lt _ (by decide))
   simp only[List.length_append,List.length_replicate]
   lia
  exact⟨a,p,e,_,rfl,s1 _ _ ha,hw,e1,h8,hd,fun q H2 ws hq2 s2 e2 hv=>k q H2 ws (s1.free hq2) (s1.trans s2) e2 hv⟩
end
open PySem L2 RP
def sR (q:Cell×Bool) (v:V) (H:Hp):Prop:=∃ A b,v=.ref A∧H A=some (.tup [.ref b,.bl q.2])∧H b=some (.tup (cellT q.1))
theorem sR.kt {q:Cell×Bool}{v:V}{H H':Hp}(h:sR q v H) (s:KT H H'):sR q v H':=let ⟨A,b,e,q1,q2⟩:=h;⟨A,b,e,s _ _ q1,s _ _ q2⟩
section
variable {P:Program}{w:World}{K:W.Frag}{mg:Str→Option Value}{base:Heap}
def zkn (K:W.Frag):Sp:=fun vs H Q _=>∃ (a:Addr) (C:Cell→Bool) (e:Edge),vs=[.ref a,sv (stepB C e)]∧H a=some (.tup (edgeT e))∧IsE C e ∧
 ∀ p H' ss L,H p=none→Same H H'→H' p=some (.lst ss)→VR ss L sR H'→(∀ q∈L,C q.1=q.2)→L.length≤6→Q (.ref p) H'
theorem zdN (g_edge_behind : Fn P w K mg base 2 "edge_behind" ["edge", "step"] (zdF K)) (g_gap_beside : Fn P w K mg base 2 "gap_beside" ["edge"] (spGap K)) (g_is_slant : Fn P w K mg base 1 "is_slant" ["step"] zc1)
  (g_gone:Fn P w K mg base 1 "gone" ["x","y","step"] zfy) (g_slant_step:Fn P w K mg base 1 "slant_step" ["way"] zgp) (g_straight_step:Fn P w K mg base 1 "straight_step" ["way"] zc8)
  (d:Df K mg "seen_between" zaN ["edge","step"]):FnOk P w K mg base CX0 3 d.f d.fd ["edge","step"] (zkn K):=by
 refine d.F.ok zaT (fun vs H Q E h=>?_) (fun cdv A outer s H vs Q E hr h=>?_)
 ·obtain⟨a,C,e,rfl,_⟩:=h
  rfl
 ·obtain⟨a,C,e,rfl,ha,hE,k⟩:=h
  refine⟨_,(zac (zct (pv 0) (zbL (by rfl) (zae (zaf (i:=2) zaT.nd (by rfl) (Or.inl rfl)) (zae (zaf (i:=3) zaT.nd (by rfl) (Or.inl rfl)) (zae (zaf (i:=4) zaT.nd (by rfl) (Or.inl rfl)) zay)))))
   (zac (zaq (i:=5) zaT.nd (by rfl) (Or.inl rfl) (zah g_edge_behind.ok (hr.mono (by decide)) (by rfl) g_edge_behind.m g_edge_behind.kp g_edge_behind.b .nil pass0 (pa_N (pv 0) (pa_N (pv 1) zad))))
   (zac (zaq (i:=6) zaT.nd (by rfl) (Or.inl rfl) (zcj (pa_T (zbj (pa_T (zbj (pa_N (pv 2) (pa_N (pv 3) zad))) (pa_C pe_bl zad))) (pa_T (zbj (zam (zah g_gap_beside.ok (hr.mono (by decide)) (by rfl) g_gap_beside.m g_gap_beside.kp g_gap_beside.b .nil pass0 (pa_N (pv 0) zad)) (pa_C pe_bl zad))) (pa_T (zbj (zam (zeX zkP (pv 5) zgx (zgw zak)) (pa_C pe_bl zad))) (pa_T (zbj (zam (zah g_gap_beside.ok (hr.mono (by decide)) (by rfl) g_gap_beside.m g_gap_beside.kp g_gap_beside.b .nil pass0 (pa_N (pv 5) zad)) (pa_C pe_bl zad))) zad))))))
   (zac (ps_if (ziw (zfH (zah g_is_slant.ok (hr.mono (by decide)) (by rfl) g_is_slant.m g_is_slant.kp g_is_slant.b .nil pass0 (pa_N (pv 1) zad))))
   (zag (zbv (pe_bm PySem.F.plainAttrs_list PySem.F.slot_list_append PySem.F.type_list_append zbk (pv 6) (pa_T (zbj (zam (zah g_gone.ok (hr.mono (by decide)) (by rfl) g_gone.m g_gone.kp g_gone.b .nil pass0 (pa_N (pv 2) (pa_N (pv 3) (zam (zah g_slant_step.ok (hr.mono (by decide)) (by rfl) g_slant_step.m g_slant_step.kp g_slant_step.b .nil pass0 (pa_N (pv 4) zad)) zad)))) (pa_C pe_bl zad))) zad))))
   za9)
   (zac (ps_if (zaB ziL (pv 1) zci (zaz _))
   (zag (zbv (pe_bm PySem.F.plainAttrs_list PySem.F.slot_list_append PySem.F.type_list_append zbk (pv 6) (pa_T (zbj (zam (zah g_gone.ok (hr.mono (by decide)) (by rfl) g_gone.m g_gone.kp g_gone.b .nil pass0 (pa_N (pv 2) (pa_N (pv 3) (zam (zah g_straight_step.ok (hr.mono (by decide)) (by rfl) g_straight_step.m g_straight_step.kp g_straight_step.b .nil pass0 (pa_N (pv 4) zad)) zad)))) (pa_C pe_bl zad))) zad))))
   za9)
   (zag (zat (pv 6)))))))),?_⟩
  have hw:=hE.1
  have hN:=zdk hE
  refine⟨_,rfl,a,_,rfl,SqT.of ha,rfl,_,_,rfl,_,_,rfl,_,_,rfl,rfl,?_⟩
  refine⟨_,rfl,_,rfl,a,e,stepB C e,rfl,SqT.of ha,hw,zcZ hw,fun p1 H1 hp1 s1 e1=>?_⟩
  change H1 p1=some (.tup (edgeT (nxt C e))) at e1
  refine⟨_,rfl,_,rfl,two,fun t1 ht1=>⟨two,fun t2 ht2=>?_⟩⟩
  have s2:Same H1 (upd (upd H1 t1 (.tup [.int e.c.1,.int e.c.2])) t2 (.tup [.ref t1,.bl true])):=(Same.up ht1).trans (Same.up ht2)
  have r1:sR (e.c,true) (.ref t2) (upd (upd H1 t1 (.tup [.int e.c.1,.int e.c.2])) t2 (.tup [.ref t1,.bl true])):=⟨t2,t1,rfl,zaa,by rw[zaj (fun z=>by subst z;rw[zaa] at ht2;cases ht2),zaa];rfl⟩
  generalize upd (upd H1 t1 (.tup [.int e.c.1,.int e.c.2])) t2 (.tup [.ref t1,.bl true])=H2 at s2 r1
  refine⟨_,rfl,a,e,rfl,SqT.of ((s1.trans s2) _ _ ha),hw,fun p3 H3 hp3 s3 e3=>⟨two,fun t3 ht3=>?_⟩⟩
  have s4:Same H3 (upd H3 t3 (.tup [.ref p3,.bl false])):=Same.up ht3
  have r2:sR (gap e,false) (.ref t3) (upd H3 t3 (.tup [.ref p3,.bl false])):=⟨t3,p3,rfl,zaa,s4 _ _ e3⟩
  generalize upd H3 t3 (.tup [.ref p3,.bl false])=H4 at s4 r2
  have s14:=s2.trans (s3.trans s4)
  have e14:=s14 _ _ e1
  have hs1:HT.sIx 3 3 (some 2)=2:=by decide
  refine⟨_,rfl,_,rfl,p1,_,rfl,SqT.of e14,fun hx=>absurd (show (3:Nat)=2 from hx.2.symm.trans hs1) (by decide),fun _ t5 ht5=>⟨two,fun t6 ht6=>?_⟩⟩
  have ec:cutV (edgeT (nxt C e)) none (some 2)=cellT (nxt C e).c:=rfl
  have s6:Same H4 (upd (upd H4 t5 (.tup (cutV (edgeT (nxt C e)) none (some 2)))) t6 (.tup [.ref t5,.bl true])):=(Same.up ht5).trans (Same.up ht6)
  have r3:sR ((nxt C e).c,true) (.ref t6) (upd (upd H4 t5 (.tup (cutV (edgeT (nxt C e)) none (some 2)))) t6 (.tup [.ref t5,.bl true])):=⟨t6,t5,rfl,zaa,by rw[zaj (fun z=>by subst z;rw[zaa] at ht6;cases ht6),zaa,ec]⟩
  generalize upd (upd H4 t5 (.tup (cutV (edgeT (nxt C e)) none (some 2)))) t6 (.tup [.ref t5,.bl true])=H6 at s6 r3
  refine⟨_,rfl,p1,nxt C e,rfl,SqT.of (s6 _ _ e14),hN.1,fun p7 H7 hp7 s7 e7=>⟨two,fun t7 ht7=>?_⟩⟩
  have s8:Same H7 (upd H7 t7 (.tup [.ref p7,.bl false])):=Same.up ht7
  have r4:sR (gap (nxt C e),false) (.ref t7) (upd H7 t7 (.tup [.ref p7,.bl false])):=⟨t7,p7,rfl,zaa,s8 _ _ e7⟩
  generalize upd H7 t7 (.tup [.ref p7,.bl false])=H8 at s8 r4
  refine⟨(by show 4≤sizeLine;decide),fun l hl=>?_⟩
  have s48:=s6.trans (s7.trans s8)
  have s28:=s3.trans (s4.trans s48)
  have s08:=s1.trans (s2.trans s28)
  have kl:KT H8 (upd H8 l (.lst [.ref t2,.ref t3,.ref t6,.ref t7])):=KT.up hl
  have sl:Same H (upd H8 l (.lst [.ref t2,.ref t3,.ref t6,.ref t7])):=s08.trans (Same.up hl)
  have el:upd H8 l (.lst [.ref t2,.ref t3,.ref t6,.ref t7]) l=some (.lst [.ref t2,.ref t3,.ref t6,.ref t7]):=zaa
  have hl0:H l=none:=s08.free hl
  have hv:VR [.ref t2,.ref t3,.ref t6,.ref t7] [(e.c,true),(gap e,false),((nxt C e).c,true),(gap (nxt C e),false)] sR (upd H8 l (.lst [.ref t2,.ref t3,.ref t6,.ref t7])) :=
   VR.cons.mpr ⟨(r1.kt (KT.of s28)).kt kl,VR.cons.mpr ⟨(r2.kt (KT.of s48)).kt kl,VR.cons.mpr ⟨(r3.kt (KT.of (s7.trans s8))).kt kl,VR.cons.mpr ⟨r4.kt kl,VR.nil⟩⟩⟩⟩
  generalize upd H8 l (.lst [.ref t2,.ref t3,.ref t6,.ref t7])=H9 at kl sl el hv
  have hL:∀ q∈[(e.c,true),(gap e,false),((nxt C e).c,true),(gap (nxt C e),false)],C q.1=q.2:=by
   intro q hq
   simp only[List.mem_cons,List.not_mem_nil,or_false] at hq
   rcases hq with rfl | rfl | rfl | rfl
   ·exact hE.2.1
   ·exact hE.2.2
   ·exact hN.2.1
   ·exact hN.2.2
  rcases za4 hE with⟨c1,hs,_⟩ | ⟨c1,c2,hs,_⟩ | ⟨c1,c2,hs,_⟩ <;> rw[hs]
  ·refine⟨_,rfl,some ((2*e.w+7) % 8),rfl,_,rfl,?_⟩
   have:slant (some ((2*e.w+7) % 8))=true:=by show ((2*e.w+7) % 8 % 2 == 1)=true;rw[odd7];rfl
   rw[this]
   refine iteF ?_
   refine⟨_,rfl,rfl,_,rfl,iteF ?_⟩
   exact⟨_,rfl,k l H9 _ _ hl0 sl el hv hL (by show 4≤6;decide)⟩
  ·refine⟨_,rfl,some (2*e.w),rfl,_,rfl,?_⟩
   have:slant (some (2*e.w))=false:=by show ((2*e.w) % 2 == 1)=false;rw[show 2*e.w % 2=0 by lia];rfl
   rw[this]
   refine iteT ?_
   refine⟨_,rfl,.inl ⟨rfl,_,SqL.of el⟩,_,rfl,_,rfl,_,rfl,e.w,rfl,hw,e.c,(2*e.w+7) % 8,rfl,Nat.mod_lt _ (by decide),fun p10 H10 hp10 s10 e10=>⟨two,fun t11 ht11=>?_⟩⟩
   have s11:Same H10 (upd H10 t11 (.tup [.ref p10,.bl false])):=Same.up ht11
   have r5:sR (go e.c ((2*e.w+7) % 8),false) (.ref t11) (upd H10 t11 (.tup [.ref p10,.bl false])):=⟨t11,p10,rfl,zaa,s11 _ _ e10⟩
   generalize upd H10 t11 (.tup [.ref p10,.bl false])=H11 at s11 r5
   have el11:=(s10.trans s11) _ _ el
   refine⟨l,_,_,rfl,rfl,el11,zbx (by show 4≤5000;decide),?_⟩
   have kt12:KT H11 (upd H11 l (.lst ([.ref t2,.ref t3,.ref t6,.ref t7]++[.ref t11]))):=KT.lst el11
   have s12:Same H (upd H11 l (.lst ([.ref t2,.ref t3,.ref t6,.ref t7]++[.ref t11]))):=zav hl0 (sl.trans (s10.trans s11))
   have e12:upd H11 l (.lst ([.ref t2,.ref t3,.ref t6,.ref t7]++[.ref t11])) l=some (.lst ([.ref t2,.ref t3,.ref t6,.ref t7]++[.ref t11])):=zaa
   have hv12:=hv.snoc (fun x v h=>(h.kt (KT.of (s10.trans s11))).kt kt12) (r5.kt kt12)
   generalize upd H11 l (.lst ([.ref t2,.ref t3,.ref t6,.ref t7]++[.ref t11]))=H12 at kt12 s12 e12 hv12
   refine⟨_,rfl,rfl,_,rfl,iteF ?_⟩
   refine⟨_,rfl,k l H12 _ _ hl0 s12 e12 hv12 (fun q hq=>?_) (by show 5≤6;decide)⟩
   rcases List.mem_append.mp hq with m | m
   ·exact hL q m
   ·rw[List.mem_singleton.mp m];exact c1
  ·refine⟨_,rfl,none,rfl,_,rfl,iteT ?_⟩
   refine⟨_,rfl,.inl ⟨rfl,_,SqL.of el⟩,_,rfl,_,rfl,_,rfl,e.w,rfl,hw,e.c,(2*e.w+7) % 8,rfl,Nat.mod_lt _ (by decide),fun p10 H10 hp10 s10 e10=>⟨two,fun t11 ht11=>?_⟩⟩
   have s11:Same H10 (upd H10 t11 (.tup [.ref p10,.bl false])):=Same.up ht11
   have r5:sR (go e.c ((2*e.w+7) % 8),false) (.ref t11) (upd H10 t11 (.tup [.ref p10,.bl false])):=⟨t11,p10,rfl,zaa,s11 _ _ e10⟩
   generalize upd H10 t11 (.tup [.ref p10,.bl false])=H11 at s11 r5
   have el11:=(s10.trans s11) _ _ el
   refine⟨l,_,_,rfl,rfl,el11,zbx (by show 4≤5000;decide),?_⟩
   have kt12:KT H11 (upd H11 l (.lst ([.ref t2,.ref t3,.ref t6,.ref t7]++[.ref t11]))):=KT.lst el11
   have s12:Same H (upd H11 l (.lst ([.ref t2,.ref t3,.ref t6,.ref t7]++[.ref t11]))):=zav hl0 (sl.trans (s10.trans s11))
   have e12:upd H11 l (.lst ([.ref t2,.ref t3,.ref t6,.ref t7]++[.ref t11])) l=some (.lst ([.ref t2,.ref t3,.ref t6,.ref t7]++[.ref t11])):=zaa
   have hv12:=hv.snoc (fun x v h=>(h.kt (KT.of (s10.trans s11))).kt kt12) (r5.kt kt12)
   generalize upd H11 l (.lst ([.ref t2,.ref t3,.ref t6,.ref t7]++[.ref t11]))=H12 at kt12 s12 e12 hv12
   refine⟨_,rfl,rfl,_,rfl,iteT ?_⟩
   refine⟨_,rfl,.inl ⟨rfl,_,SqL.of e12⟩,_,rfl,_,rfl,_,rfl,e.w,rfl,hw,e.c,2*e.w,rfl,by lia,fun p13 H13 hp13 s13 e13=>⟨two,fun t14 ht14=>?_⟩⟩
   have s14':Same H13 (upd H13 t14 (.tup [.ref p13,.bl false])):=Same.up ht14
   have r6:sR (go e.c (2*e.w),false) (.ref t14) (upd H13 t14 (.tup [.ref p13,.bl false])):=⟨t14,p13,rfl,zaa,s14' _ _ e13⟩
   generalize upd H13 t14 (.tup [.ref p13,.bl false])=H14 at s14' r6
   have e14':=(s13.trans s14') _ _ e12
   refine⟨l,_,_,rfl,rfl,e14',zbx (by show 5≤5000;decide),?_⟩
   have kt15:KT H14 (upd H14 l (.lst (([.ref t2,.ref t3,.ref t6,.ref t7]++[.ref t11])++[.ref t14]))):=KT.lst e14'
   have s15:Same H (upd H14 l (.lst (([.ref t2,.ref t3,.ref t6,.ref t7]++[.ref t11])++[.ref t14]))):=zav hl0 (s12.trans (s13.trans s14'))
   have e15:upd H14 l (.lst (([.ref t2,.ref t3,.ref t6,.ref t7]++[.ref t11])++[.ref t14])) l=some (.lst (([.ref t2,.ref t3,.ref t6,.ref t7]++[.ref t11])++[.ref t14])):=zaa
   have hv15:=hv12.snoc (fun x v h=>(h.kt (KT.of (s13.trans s14'))).kt kt15) (r6.kt kt15)
   refine⟨_,rfl,k l _ _ _ hl0 s15 e15 hv15 (fun q hq=>?_) (by show 6≤6;decide)⟩
   rcases List.mem_append.mp hq with m | m
   ·rcases List.mem_append.mp m with m | m
    ·exact hL q m
    ·rw[List.mem_singleton.mp m];exact c1
   ·rw[List.mem_singleton.mp m];exact c2
end
open PySem L2 RP
def Known (C:Cell→Bool) (kvs:List (List Key×V)):Prop:=∀ c v,valV kvs (kC c)=some v→v=.bl (C c)
section
variable {P:Program}{w:World}{K:W.Frag}{mg:Str→Option Value}{base:Heap}
def zet (K:W.Frag):Sp:=fun vs H Q _=>∃ (a:Addr) (C:Cell→Bool) (es:List Edge),vs=[.ref a]∧LR K H a (wk C es) wR∧(∀ e∈es,IsE C e)∧es.length≤500∧∀ H',Same H H'→Q .non H'
theorem zeb (g_seen_between:Fn P w K mg base 3 "seen_between" ["edge","step"] (zkn K)) (d:Df K mg "gainsaid_at" zaZ ["walk"]):FnOk P w K mg base CX0 4 d.f d.fd ["walk"] (zet K):=by
 refine d.F.ok zaE (fun vs H Q E h=>?_) (fun cdv A outer s H vs Q E hr h=>?_)
 ·obtain⟨a,C,es,rfl,_⟩:=h
  rfl
 ·obtain⟨a,C,es,rfl,hLR,hE,hlen,k⟩:=h
  have hu1:=hu_of hr
  refine⟨_,(zac (zaq (i:=1) zaE.nd (by rfl) (Or.inl rfl) zeZ)
   (zac (zaq (i:=2) zaE.nd (by rfl) (Or.inl rfl) zak)
   (zac (zbX PassesOwn.never rfl (zba (pv 0)) (zbL (by rfl) (zae (zaf (i:=3) zaE.nd (by rfl) (Or.inl rfl)) (zae (zaf (i:=4) zaE.nd (by rfl) (Or.inl rfl)) zay)))
   (zac (zbX PassesOwn.never rfl (zba (zah g_seen_between.ok (hr.mono (by decide)) (by rfl) g_seen_between.m g_seen_between.kp g_seen_between.b .nil pass0 (pa_N (pv 3) (pa_N (pv 4) zad)))) (zbL (by rfl) (zae (zaf (i:=5) zaE.nd (by rfl) (Or.inl rfl)) (zae (zaf (i:=6) zaE.nd (by rfl) (Or.inl rfl)) zay)))
   (zag (ps_if (zaB op_ne (zjS hu1 (pv 1) (pv 5) (pv 6) ⟨rfl,rfl,rfl,rfl⟩) (pv 6) (zaz _))
   (zag (zat (pv 2)))
   za9)))
   (zag (ps_if (zaB zdM (pv 4) zci (zaz _))
   (zag (zlK (i:=2) zaE.nd (by rfl) (Or.inl rfl) zak zlY))
   za9))))
   (zag (zat zci))))),?_⟩
  obtain⟨ws,hq,hv⟩:=hLR.vr
  have hwl:ws.length=es.length:=by rw[hv.1,zbV]
  refine fun dd hdd=>?_
  have s0:Same H (upd H dd (.dT [])):=Same.up hdd
  have d0:upd H dd (.dT []) dd=some (.dT []):=zaa
  generalize upd H dd (.dT [])=H0 at s0 d0
  refine⟨_,rfl,a,rfl,⟨_,s0.seq hq⟩,?_⟩
  refine zaD (K:=K) (a:=a) (xs:=ws) (fun i σ H1=>∃ (n:Int) (o3 o4 o5 o6:Option V) (kvs:List (List Key×V)),σ=[some (.ref a),some (.ref dd),some (.int n),o3,o4,o5,o6]∧Same H H1∧H1 dd=some (.dT kvs)∧Known C kvs∧kvs.length≤6*i)
   ⟨_,_,_,_,_,[],rfl,s0,d0,(fun c v h=>by cases h),Nat.zero_le _⟩ (fun i σ H1 _ ⟨_,_,_,_,_,_,_,s1,_⟩=>s1.seq hq) ?_ ?_
  ·rintro i v σ H1 hi ⟨n,o3,o4,o5,o6,kvs,rfl,s1,d1,hk,hkl⟩
   obtain⟨⟨e,st⟩,he,B,b,rfl,q1,q2⟩:=hv.at hi
   have hi':i<es.length:=by rw[← hwl];exact (List.getElem?_eq_some_iff.mp hi).1
   have he':es[i]?=some e∧st=stepB C e:=by
    unfold wk at he
    rw[List.getElem?_map] at he
    obtain⟨g,hg,eg⟩:=Option.map_eq_some_iff.mp he
    cases eg
    exact⟨hg,rfl⟩
   obtain⟨he1,rfl⟩:=he'
   have hEe:=hE e (List.mem_of_getElem? he1)
   refine⟨B,_,rfl,SqT.of (s1 _ _ q1),rfl,_,_,rfl,_,_,rfl,rfl,?_⟩
   refine⟨_,rfl,_,rfl,b,C,e,rfl,s1 _ _ q2,hEe,fun p H2 ss L hp s2 e2 hs2 hL hLl=>?_⟩
   have hpd:p≠dd:=fun z=>by subst z;rw[d1] at hp;cases hp
   have d2:=s2 _ _ d1
   refine⟨p,rfl,⟨_,SqL.of e2⟩,?_⟩
   refine zaD (K:=K) (a:=p) (xs:=ss) (fun j σ H3=>∃ (o5 o6:Option V) (kv3:List (List Key×V)),σ=[some (.ref a),some (.ref dd),some (.int n),some (.ref b),some (sv (stepB C e)),o5,o6]∧(∀ z o,z≠dd→H2 z=some o→H3 z=some o)∧H3 dd=some (.dT kv3)∧Known C kv3∧kv3.length≤6*i+j)
    ⟨_,_,kvs,rfl,(fun z o _ h=>h),d2,hk,by lia⟩ (fun j σ H3 _ ⟨_,_,_,_,k3,_⟩=>SqL.of (k3 _ _ hpd e2)) ?_ ?_
   ·rintro j u σ H3 hj ⟨o5,o6,kv3,rfl,k3,d3,hk3,hl3⟩
    obtain⟨⟨c,t⟩,hq',A2,b2,rfl,r1,r2⟩:=hs2.at hj
    have hjl:j<L.length:=by rw[← hs2.1];exact (List.getElem?_eq_some_iff.mp hj).1
    have hct:C c=t:=hL _ (List.mem_of_getElem? hq')
    have nA:A2≠dd:=ne_of r1 d2 (fun z=>nomatch z)
    have nb:b2≠dd:=ne_of r2 d2 (fun z=>nomatch z)
    refine⟨A2,_,rfl,SqT.of (k3 _ _ nA r1),rfl,_,_,rfl,_,_,rfl,rfl,?_⟩
    refine⟨_,rfl,dd,rfl,.inr ⟨_,Rd.of d3⟩,_,rfl,_,rfl,kv3,kC c,b2,d3,rfl,k3 _ _ nb r2,zbx (by lia),fun v hv'=>?_,fun hn=>?_⟩
    ·have hv2:v=.bl t:=by rw[hk3 c v hv',hct]
     subst hv2
     refine⟨_,rfl,rfl,_,rfl,iteN (by simp) ?_⟩
     exact⟨_,_,kv3,rfl,k3,d3,hk3,by lia⟩
    ·refine⟨_,rfl,rfl,_,rfl,iteN (by simp) ?_⟩
     refine⟨_,_,putK kv3 (kC c) (.bl t),rfl,(fun z o hz h=>by rw[zaj hz];exact k3 z o hz h),zaa,(fun c' v' hv'=>?_),Nat.le_trans (zaR _ _ _) (by lia)⟩
     rw[zcA] at hv'
     by_cases ec:c'=c
     ·subst ec
      rw[if_pos rfl] at hv'
      cases hv'
      rw[hct]
     ·rw[if_neg (fun z=>ec (zi2.mp z))] at hv'
      exact hk3 c' v' hv'
   ·rintro σ H3 ⟨o5,o6,kv3,rfl,k3,d3,hk3,hl3⟩
    have s3:Same H H3:=fun z o h=>k3 z o (zar h hdd) (s2 _ _ (s1 _ _ h))
    have hl4:kv3.length≤6*(i+1):=by have:=hs2.1;lia
    cases hst:stepB C e with
    | none =>
     refine⟨_,rfl,rfl,_,rfl,iteF ?_⟩
     exact⟨_,_,_,_,_,kv3,rfl,s3,d3,hk3,hl4⟩
    | some z =>
     refine⟨_,rfl,rfl,_,rfl,iteT ?_⟩
     refine⟨_,rfl,_,_,rfl,rfl,?_⟩
     exact⟨_,_,_,_,_,kv3,rfl,s3,d3,hk3,hl4⟩
  ·rintro σ H1 ⟨n,o3,o4,o5,o6,kvs,rfl,s1,d1,hk,hkl⟩
   exact k H1 s1
theorem zkc {α:Type}{xs:List α}(h:0<xs.length):atI xs (-1)=xs[xs.length - 1]?:=by
 unfold atI ixN
 rw[if_neg (by decide),if_pos (by lia)]
 show xs[((-1:Int)+xs.length).toNat]?=_
 rw[show ((-1:Int)+xs.length).toNat=xs.length - 1 by lia]
def zij (K:W.Frag):Sp:=fun vs H Q _=>∃ (a:Addr) (C:Cell→Bool) (b:Edge) (es:List Edge),vs=[.ref a]∧LR K H a (wk C es) wR∧Closed C b es∧es.length≤500∧∀ H',Same H H'→Q (.bl true) H'
theorem ze4 (g_edge_behind:Fn P w K mg base 2 "edge_behind" ["edge","step"] (zdF K)) (d:Df K mg "comes_back" zbg ["walk"]):FnOk P w K mg base CX0 3 d.f d.fd ["walk"] (zij K):=by
 refine d.F.ok zcm (fun vs H Q E h=>?_) (fun cdv A outer s H vs Q E hr h=>?_)
 ·obtain⟨a,C,b,es,rfl,_⟩:=h
  rfl
 ·obtain⟨a,C,b,es,rfl,hLR,hcl,hlen,k⟩:=h
  have hu64:=hr.units
  refine⟨_,(zac (zct (pe_ix zcp (pv 0) (pe_un zkg zak) (fun _ _=>rfl)) (zbL (by rfl) (zae (zaf (i:=1) zcm.nd (by rfl) (Or.inl rfl)) (zae (zaf (i:=2) zcm.nd (by rfl) (Or.inl rfl)) zay))))
   (zag (zat (zco (zg8 hu64) (zah g_edge_behind.ok (hr.mono (by decide)) (by rfl) g_edge_behind.m g_edge_behind.kp g_edge_behind.b .nil pass0 (pa_N (pv 1) (pa_N (pv 2) zad))) (pe_ix zc5 (pe_ix zcp (pv 0) zak (fun _ _=>rfl)) zak (fun _ _=>rfl)) (zaz _))))),?_⟩
  obtain⟨ws,hq,hv⟩:=hLR.vr
  have hwl:ws.length=es.length:=by rw[hv.1,zbV]
  have hp:=hcl.pos
  obtain⟨hch,l,hl,hb⟩:=id hcl
  obtain⟨v1,hv1⟩:∃ v,ws[ws.length - 1]?=some v:=⟨_,List.getElem?_eq_getElem (by lia)⟩
  obtain⟨⟨e1,st1⟩,he1,B1,b1,rfl,q1,q2⟩:=hv.at hv1
  obtain⟨v0,hv0⟩:∃ v,ws[0]?=some v:=⟨_,List.getElem?_eq_getElem (by lia)⟩
  obtain⟨⟨e0,st0⟩,he0,B0,b0,rfl,r1,r2⟩:=hv.at hv0
  have h1:e1=l∧st1=stepB C l:=by
   unfold wk at he1
   rw[hwl,List.getElem?_map,hl] at he1
   cases he1;exact⟨rfl,rfl⟩
  obtain⟨rfl,rfl⟩:=h1
  have h0:e0=b:=by
   unfold wk at he0
   rw[List.getElem?_map,hch.1] at he0
   cases he0;rfl
  subst h0
  have hEl:IsE C e1:=hch.2.2.1 e1 (List.mem_of_getElem? hl)
  refine⟨_,rfl,_,rfl,a,ws,_,_,rfl,rfl,hq,(zkc (by lia)).trans hv1,?_⟩
  refine⟨B1,_,rfl,SqT.of q1,rfl,_,_,rfl,_,_,rfl,rfl,?_⟩
  refine⟨_,rfl,_,rfl,b1,e1,stepB C e1,rfl,SqT.of q2,hEl.1,zcZ hEl.1,fun p H1 hp1 s1 f1=>?_⟩
  refine⟨_,rfl,a,ws,_,_,rfl,rfl,s1.seq hq,(zbm (j:=0) hv0),B0,_,_,_,rfl,rfl,SqT.of (s1 _ _ r1),zbm (j:=0) rfl,?_⟩
  refine⟨_,_,zcv f1,zcv (s1 _ _ r2),zbn _,zbn _,?_⟩
  rw[zdX,decide_eq_true (by show eI (nxt C e1)=eI e0;rw[hb])]
  exact k H1 s1
theorem nL_wk (C:Cell→Bool) (es:List Edge):nL (wk C es)=(es.filter fun e=>(stepB C e).isNone).length:=by
 unfold nL wk;rw[List.filter_map,List.length_map];rfl
theorem nS_wk (C:Cell→Bool) (es:List Edge):nS (wk C es)=(es.filter fun e=>slant (stepB C e)).length:=by
 unfold nS wk;rw[List.filter_map,List.length_map];rfl
theorem zia {C:Cell→Bool}{b:Edge}{es:List Edge}(h:Closed C b es):(nL (wk C es):Int) - nS (wk C es)=4∨(nL (wk C es):Int) - nS (wk C es)=-4:=by
 rw[nL_wk,nS_wk,← zeJ]
 exact h.turning
def zes (K:W.Frag):Sp:=fun vs H Q _=>∃ (a:Addr) (C:Cell→Bool) (b:Edge) (es:List Edge),vs=[.ref a,.str (sortS (wk C es))]∧LR K H a (wk C es) wR∧Closed C b es∧es.length≤500∧∀ H',Same H H'→Q (.bl true) H'
theorem zfN (T:Txt P w K mg) (g_comes_back:Fn P w K mg base 3 "comes_back" ["walk"] (zij K)) (g_lefts_less_slants:Fn P w K mg base 3 "lefts_less_slants" ["walk"] (zig K)) (d:Df K mg "is_closed" zbu ["walk","sort"]):FnOk P w K mg base CX0 4 d.f d.fd ["walk","sort"] (zes K):=by
 refine d.F.ok zfE (fun vs H Q E h=>?_) (fun cdv A outer s H vs Q E hr h=>?_)
 ·obtain⟨a,C,b,es,rfl,_⟩:=h
  rfl
 ·obtain⟨a,C,b,es,rfl,hLR,hcl,hlen,k⟩:=h
  refine⟨_,(zag (zat (ziI (zah g_comes_back.ok (hr.mono (by decide)) (by rfl) g_comes_back.m g_comes_back.kp g_comes_back.b .nil pass0 (pa_N (pv 0) zad)) (ziH (zco op_eq (zah g_lefts_less_slants.ok (hr.mono (by decide)) (by rfl) g_lefts_less_slants.m g_lefts_less_slants.kp g_lefts_less_slants.b .nil pass0 (pa_N (pv 0) zad)) (zlN (by rfl) T.more (pv 1)) (zaz _)))))),?_⟩
  refine⟨_,rfl,a,C,b,es,rfl,hLR,hcl,hlen,fun H1 s1=>⟨_,rfl,iteT ?_⟩⟩
  refine⟨_,rfl,a,wk C es,rfl,hLR.same s1 (fun x v h=>h.same s1),by rw[zbV];exact hlen,fun H2 s2=>⟨_,rfl,?_⟩⟩
  rcases zia hcl with t | t
  ·refine .inl ⟨?_,rfl,?_⟩
   ·unfold sortS;rw[if_pos (by lia)]
   ·rw[t,decide_eq_true rfl];exact k H2 (s1.trans s2)
  ·refine .inr ⟨?_,rfl,?_⟩
   ·unfold sortS;rw[if_neg (by lia)]
   ·rw[t,decide_eq_true rfl];exact k H2 (s1.trans s2)
theorem IsRnd.walk {C : Cell → Bool}{b : Edge}{es : List Edge}{r : Rnd}(h : Closed C b es) (k : IsRnd (wk C es) r) :
  ∃ es',Closed C (begE r) es'∧es'.Perm es∧r.row=(es'.map (stepB C)).filterMap id∧zcr (wk C es') r.so (begE r)∧r.so=sortS (wk C es')∧IsRnd (wk C es') r:=by
 obtain⟨r0,j,f,rf,⟨rb,rw',rl⟩,rx,ry,rr⟩:=id k
 rw[zdf] at rf rb rl
 have ef:begE r=f:=by
  obtain⟨⟨x,y⟩,w⟩:=f
  unfold begE
  rw[rx,ry,r0]
  simp only at rw' ⊢
  rw[rw']
 have h1:=h.rot j rf
 have pm:=zeU es j
 have ss:=zeu (C:=C) pm
 have hrow:r.row=((es.drop j++es.take j).map (stepB C)).filterMap id:=by
  rw[rr]
  unfold wk
  rw[← List.map_drop,← List.map_take,← List.map_append,List.filterMap_map,List.filterMap_map]
  rfl
 have hb:zcr (wk C (es.drop j++es.take j)) r.so f:=⟨by rw[zdf];exact pm.mem_iff.mpr rb,by rw[rw',r0],fun g hg hw=>by
  rw[zdf] at hg
  exact rl g (pm.mem_iff.mp hg) (by rw[hw,r0])⟩
 rw[ef]
 refine⟨_,h1,pm,hrow,hb,by rw[r0,ss],by rw[r0,ss],0,f,by rw[zdf];exact h1.1.1,by rw[ss,← r0];exact hb,rx,ry,?_⟩
 rw[hrow,List.drop_zero,List.take_zero,List.append_nil]
 unfold wk
 rw[List.filterMap_map,List.filterMap_map]
 rfl
def zgW (K:W.Frag):Sp:=fun vs H Q _=>∃ (v:V) (r:Rnd) (C:Cell→Bool) (es:List Edge),vs=[v]∧rR r v H∧Closed C (begE r) es∧r.row=(es.map (stepB C)).filterMap id∧zcr (wk C es) r.so (begE r)∧r.so=sortS (wk C es)∧es.length≤500 ∧
 ∀ p H' ws,H p=none→Same H H'→H' p=some (.lst ws)→VR ws (wk C es) wR H'→Q (.ref p) H'
theorem zhH (g_begin_edge : Fn P w K mg base 1 "begin_edge" ["one"] zfB) (g_walk_along : Fn P w K mg base 4 "walk_along" ["begin", "row"] (zdE K)) (g_gainsaid_at : Fn P w K mg base 4 "gainsaid_at" ["walk"] (zet K))
  (g_is_closed:Fn P w K mg base 4 "is_closed" ["walk","sort"] (zes K)) (g_begin_of:Fn P w K mg base 3 "begin_of" ["walk","sort"] (zgq K)) (d:Df K mg "walk_of" zb4 ["one"]):FnOk P w K mg base CX0 5 d.f d.fd ["one"] (zgW K):=by
 refine d.F.ok zbz (fun vs H Q E h=>?_) (fun cdv A outer s H vs Q E hr h=>?_)
 ·obtain⟨v,r,C,es,rfl,_⟩:=h
  rfl
 ·obtain⟨v,r,C,es,rfl,hv,hcl,hrow,hbg,hso,hlen,k⟩:=h
  have hu64:=hr.units
  refine⟨_,(zac (zct (pv 0) (zbL (by rfl) (zae (zaf (i:=1) zbz.nd (by rfl) (Or.inl rfl)) (zae (zaf (i:=2) zbz.nd (by rfl) (Or.inl rfl)) (zae (zaf (i:=3) zbz.nd (by rfl) (Or.inl rfl)) (zae (zaf (i:=4) zbz.nd (by rfl) (Or.inl rfl)) zay))))))
   (zac (zaq (i:=5) zbz.nd (by rfl) (Or.inl rfl) (zah g_begin_edge.ok (hr.mono (by decide)) (by rfl) g_begin_edge.m g_begin_edge.kp g_begin_edge.b .nil pass0 (pa_N (pv 0) zad)))
   (zac (zaq (i:=6) zbz.nd (by rfl) (Or.inl rfl) (zah g_walk_along.ok (hr.mono (by decide)) (by rfl) g_walk_along.m g_walk_along.kp g_walk_along.b .nil pass0 (pa_N (pv 5) (pa_N (pv 4) zad))))
   (zac (zaq (i:=7) zbz.nd (by rfl) (Or.inl rfl) (zah g_gainsaid_at.ok (hr.mono (by decide)) (by rfl) g_gainsaid_at.m g_gainsaid_at.kp g_gainsaid_at.b .nil pass0 (pa_N (pv 6) zad)))
   (zac (ps_if (zaB zdM (pv 7) zci (zaz _))
   (zag zdy)
   za9)
   (zac (ps_if (pw_or (ziw (zfH (zah g_is_closed.ok (hr.mono (by decide)) (by rfl) g_is_closed.m g_is_closed.kp g_is_closed.b .nil pass0 (pa_N (pv 6) (pa_N (pv 1) zad))))) (zku (zaB (zex hu64) (zah g_begin_of.ok (hr.mono (by decide)) (by rfl) g_begin_of.m g_begin_of.kp g_begin_of.b .nil pass0 (pa_N (pv 6) (pa_N (pv 1) zad))) (pv 5) (zaz _)))).pt
   (zag zdy)
   za9)
   (zag (zat (pv 6))))))))),?_⟩
  obtain⟨a,b,rfl,q1,q2⟩:=id hv
  have hE:IsE C (begE r):=hcl.1.2.2.1 _ (List.mem_of_getElem? hcl.1.1)
  have so2:r.so = "rim" ∨ r.so = "hole":=by rw[hso];exact zdw _
  have hrl:r.row.length≤500:=by
   rw[hrow]
   exact Nat.le_trans (List.length_filterMap_le _ _) (by rw[List.length_map];exact hlen)
  have hdd:deeds (begE r).w r.row=es.map (stepB C):=by rw[hrow];exact hcl.deeds.symm
  refine⟨_,rfl,a,_,rfl,SqT.of q1,rfl,_,_,rfl,_,_,rfl,_,_,rfl,_,_,rfl,rfl,?_⟩
  refine⟨_,rfl,.ref a,r,rfl,hv,so2,fun p1 H1 hp1 s1 e1=>?_⟩
  refine⟨_,rfl,_,rfl,p1,b,begE r,r.row,rfl,e1,hE.1,SqT.of (s1 _ _ q2),hrl,(fun z hz=>?_),fun p H2 ws hp s2 e2 hw=>?_⟩
  ·rw[hdd] at hz
   obtain⟨e,he,ez⟩:=List.mem_map.mp hz
   exact zcZ (hcl.1.2.2.1 e he).1 z ez
  rw[hdd,zfq es (.inl hcl.1.1) hcl.1.2.1] at hw
  have lr:LR K H2 p (wk C es) wR:=LR.of e2 hw
  refine⟨_,rfl,p,C,es,rfl,lr,hcl.1.2.2.1,hlen,fun H3 s3=>?_⟩
  refine⟨_,rfl,rfl,_,rfl,iteF ?_⟩
  have lr3:=lr.same s3 (fun x v h=>h.same s3)
  refine⟨_,rfl,_,rfl,p,C,begE r,es,(by rw[← hso];rfl),lr3,hcl,hlen,fun H4 s4=>⟨_,rfl,iteF ?_⟩⟩
  have lr4:=lr3.same s4 (fun x v h=>h.same s4)
  refine⟨_,rfl,_,rfl,p,wk C es,r.so,rfl,so2,lr4,by rw[zbV];exact hlen,⟨begE r,hbg.1,hbg.2.1⟩,fun b5 e5 H5 s5 f5 ib=>?_⟩
  have ee:e5=begE r:=ib.one (List.Perm.refl _) hbg
  subst ee
  have s25:=s3.trans (s4.trans s5)
  refine⟨_,rfl,_,_,zcv f5,zcv ((s2.trans s25) _ _ e1),zbn _,zbn _,_,rfl,iteN (by rw[zdX,decide_eq_true rfl];rfl) ?_⟩
  refine⟨_,rfl,k p H5 ws (s1.free hp) (s1.trans (s2.trans s25)) (s25 _ _ e2) (hw.mono fun x v h=>h.same s25)⟩
end
open PySem L2 RP
def rowI (row:List Nat):List Int:=row.map fun n:Nat=>(n:Int)
def dR (r:Rnd):PyData:=.tuple [.str r.so,.int r.x,.int r.y,tI (rowI r.row)]
theorem zlI (row:List Nat):rowV row=(rowI row).map V.int:=by unfold rowV rowI;rw[List.map_map];rfl
theorem zjL {a b:List Nat}(h:rowI a=rowI b):a=b:=by
 unfold rowI at h
 exact List.map_inj_right (f:=fun n:Nat=>(n:Int)) (fun x y e=>by lia) |>.mp h
theorem zeV {K:W.Frag}{H:Hp}{r:Rnd}{v:V}(h:rR r v H):RD K H v (dR r):=by
 obtain⟨a,b,rfl,q1,q2⟩:=h
 refine .tup (SqT.of q1) (.cons (.str _) (.cons (.int _) (.cons (.int _) (.cons (.tup (SqT.of q2) ?_) .nil))))
 rw[zlI]
 exact RDs.ints _
theorem zkC (r q:Rnd):PyData.eqv (dR r) (dR q)=decide (r=q):=by
 show ((r.so == q.so) && ((r.x == q.x) && ((r.y == q.y) && (PyData.eqv (tI (rowI r.row)) (tI (rowI q.row)) && true))))=_
 rw[zdX,Bool.and_true]
 obtain⟨a,b,c,d⟩:=r
 obtain⟨a',b',c',d'⟩:=q
 simp only
 by_cases h1:a=a'
 ·by_cases h2:b=b'
  ·by_cases h3:c=c'
   ·by_cases h4:d=d'
    ·subst h1 h2 h3 h4;simp
    ·have:¬ rowI d=rowI d':=fun z=>h4 (zjL z)
     simp[h4,this]
   ·simp[h3]
  ·simp[h2]
 ·have:(a == a')=false:=by rw[beq_eq_false_iff_ne];exact h1
  rw[this];simp[h1]
abbrev SoOk (r:Rnd):Prop:=r.so = "rim" ∨ r.so = "hole"
theorem zf3 {r:Rnd}(h:SoOk r):PyData.canLay0 (dR r)=true:=by
 have:=zbn (rowI r.row)
 unfold SeqAt.shaped at this
 rw[Bool.and_eq_true] at this
 show (PyData.strOk r.so && (true && (true && (PyData.canLay0 (tI (rowI r.row)) && true))))=true
 rw[this.1]
 rcases h with h | h <;> rw[h] <;> decide +kernel
theorem zhr (ns:List Int):PyData.depth (tI ns)=1:=by unfold tI;rw[PyData.depth,zcq]
theorem zhs (r:Rnd):PyData.depth (dR r)=2:=by
 show PyData.depth (.tuple [.str r.so,.int r.x,.int r.y,tI (rowI r.row)])=2
 rw[PyData.depth]
 show max 0 (max 0 (max 0 (max (PyData.depth (tI (rowI r.row))) 0)))+1=2
 rw[zhr];rfl
theorem zfD {r:Rnd}(h:SoOk r):SeqAt.shaped (dR r)=true:=by unfold SeqAt.shaped;rw[zf3 h,zhs];rfl
def lR (R:List Rnd):PyData:=.list (R.map dR)
theorem zfZ:∀ R S:List Rnd,PyData.eqvAll (R.map dR) (S.map dR)=decide (R=S)
 | [],[]=>rfl
 | [],_::_=>rfl
 | _::_,[]=>rfl
 | r::R,q::S=>by
  show (PyData.eqv (dR r) (dR q) && PyData.eqvAll (R.map dR) (S.map dR))=_
  rw[zfZ R S,zkC]
  by_cases e:r=q
  ·subst e;by_cases e2:R=S <;> simp[e2]
  ·simp[e]
theorem zjd (R S:List Rnd):PyData.eqv (lR R) (lR S)=decide (R=S):=zfZ R S
theorem zdn:∀ R:List Rnd,(∀ r∈R,SoOk r)→PyData.canLayAll0 (R.map dR)=true
 | [],_=>rfl
 | r::R,h=>by show (PyData.canLay0 (dR r) && PyData.canLayAll0 (R.map dR))=true;rw[zf3 (h r List.mem_cons_self),zdn R fun q hq=>h q (List.mem_cons_of_mem _ hq)];rfl
theorem zd0:∀ R:List Rnd,PyData.depthAll (R.map dR)≤2
 | []=>Nat.zero_le _
 | r::R=>by show max (PyData.depth (dR r)) (PyData.depthAll (R.map dR))≤2;rw[zhs];have:=zd0 R;lia
theorem zcf {R:List Rnd}(h:∀ r∈R,SoOk r):SeqAt.shaped (lR R)=true:=by
 unfold SeqAt.shaped lR
 rw[PyData.canLay0,zdn R h,PyData.depth]
 have:=zd0 R
 simp only[Bool.true_and,decide_eq_true_eq]
 lia
theorem zew {K:W.Frag}{H:Hp}:∀ {vs:List V}{R:List Rnd},VR vs R rR H→RDs K H vs (R.map dR)
 | [],[],_=>.nil
 | [],_::_,h=>by have:=h.1;cases this
 | _::_,[],h=>by have:=h.1;cases this
 | v::vs,r::R,h=>by
  obtain⟨h1,h2⟩:=VR.cons.mp h
  exact .cons (zeV h1) (zew h2)
theorem zch {K:W.Frag}{H:Hp}{a:Addr}{vs:List V}{R:List Rnd}(e:SqL K H a vs) (h:VR vs R rR H):RD K H (.ref a) (lR R):=.lst e (zew h)
theorem Whole.so {cs:List Cell}{R:List Rnd}(h:Whole cs R):∀ r∈R,SoOk r:=fun r hr=>let ⟨_,hP,_⟩:=h;hP.so hr
open PySem L2 RP
structure Can (C:Cell→Bool) (es:List Edge) (r:Rnd):Prop where
 cl:Closed C (begE r) es
 row:r.row=(es.map (stepB C)).filterMap id
 bg:zcr (wk C es) r.so (begE r)
 so:r.so=sortS (wk C es)
inductive Al {α β:Type} (P:α→β→Prop):List α→List β→Prop where
 | nil:Al P [] []
 | cons {a:α} {b:β} {l:List α} {m:List β}:P a b→Al P l m→Al P (a::l) (b::m)
theorem Al.of {α β:Type}{P:α→β→Prop}:∀ {l:List α}{m:List β},l.length=m.length→(∀ (i:Nat) a b,m[i]?=some b→l[i]?=some a→P a b)→Al P l m
 | [],[],_,_=>.nil
 | [],_::_,h,_=>by cases h
 | _::_,[],h,_=>by cases h
 | a::l,b::m,h,q=>.cons (q 0 a b rfl rfl) (Al.of (by simpa using h) fun i x y h1 h2=>q (i+1) x y (by simpa using h1) (by simpa using h2))
theorem Al.length {α β:Type}{P:α→β→Prop}{l:List α}{m:List β}(h:Al P l m):l.length=m.length:=by
 induction h with
 | nil=>rfl
 | cons _ _ ih=>simp[ih]
theorem Al.at {α β:Type}{P:α→β→Prop}{l:List α}{m:List β}(h:Al P l m):∀ {i:Nat}{a:α}{b:β},m[i]?=some b→l[i]?=some a→P a b:=by
 induction h with
 | nil=>intro i a b h1;simp at h1
 | cons p _ ih =>
  intro i a b h1 h2
  cases i with
  | zero=>simp at h1 h2;subst h1 h2;exact p
  | succ i=>exact ih (by simpa using h1) (by simpa using h2)
theorem Al.perm {α β:Type}{P:α→β→Prop}{l' l:List α}(p:l'.Perm l):∀ {m:List β},Al P l m→∃ m',m'.Perm m∧Al P l' m':=by
 induction p with
 | nil=>intro m h;exact⟨m,.refl _,h⟩
 | cons a _ ih =>
  intro m h
  cases h with
  | cons p t =>
   obtain⟨m',q,r⟩:=ih t
   exact⟨_::m',q.cons _,.cons p r⟩
 | swap a b l =>
  intro m h
  cases h with
  | cons p t =>
   cases t with
   | cons p2 t2=>exact⟨_::_::_,.swap _ _ _,.cons p2 (.cons p t2)⟩
 | trans _ _ ih1 ih2 =>
  intro m h
  obtain⟨m1,q1,r1⟩:=ih2 h
  obtain⟨m2,q2,r2⟩:=ih1 r1
  exact⟨m2,q2.trans q1,r2⟩
theorem Al.bind {α γ:Type}{P Q:α→List γ→Prop}(f:∀ a b,P a b→∃ c,Q a c∧c.Perm b){l:List α}{m:List (List γ)}(h:Al P l m):∃ m',Al Q l m'∧m'.flatten.Perm m.flatten:=by
 induction h with
 | nil=>exact⟨[],.nil,.refl _⟩
 | cons p _ ih =>
  obtain⟨c,q1,q2⟩:=f _ _ p
  obtain⟨m',r1,r2⟩:=ih
  exact⟨c::m',.cons q1 r1,by rw[List.flatten_cons,List.flatten_cons];exact q2.append r2⟩
theorem zfW {γ:Type}{a b:List (List γ)}(p:a.Perm b):a.flatten.Perm b.flatten:=by
 induction p with
 | nil=>exact .refl _
 | cons x _ ih=>rw[List.flatten_cons,List.flatten_cons];exact ih.append_left _
 | swap x y l =>
  simp only[List.flatten_cons]
  rw[← List.append_assoc,← List.append_assoc]
  exact List.perm_append_comm.append_right _
 | trans _ _ i1 i2=>exact i1.trans i2
structure Cans (C:Cell→Bool) (ESS:List (List Edge)) (R:List Rnd):Prop where
 al:Al (fun r es=>Can C es r) R ESS
 nd:ESS.flatten.Nodup
 all:∀ e,e∈ESS.flatten ↔ IsE C e
theorem Whole.cans {cs:List Cell}{R R0:List Rnd}(p:R.Perm R0) (h:Whole cs R0):∃ ESS,Cans (isIn cs) ESS R:=by
 obtain⟨E,h1,h2⟩:=h
 have a1:Al (fun r es=>(∃ b,Closed (isIn cs) b es)∧IsRnd (wk (isIn cs) es) r) R0 E:=Al.of h1.len fun i r es e1 e2=>h1.each i es r e1 e2
 obtain⟨F,q1,a2⟩:=a1.perm p
 obtain⟨G,a3,q2⟩:=Al.bind (Q:=fun r es=>Can (isIn cs) es r) (fun r es ⟨⟨b,hb⟩,hr⟩=>by
  obtain⟨es',k1,k2,k3,k4,k5,_⟩:=IsRnd.walk hb hr
  exact⟨es',⟨k1,k3,k4,k5⟩,k2⟩) a2
 have pm:=q2.trans (zfW q1)
 exact⟨G,a3,pm.nodup_iff.mpr h1.nd,fun e=>by rw[pm.mem_iff];exact h2 e⟩
inductive Lnk (C:Cell→Bool):Edge→List Edge→Prop where
 | one (e:Edge):Lnk C e []
 | more {e:Edge} {es:List Edge}:Lnk C (nxt C e) es→Lnk C e (nxt C e::es)
structure Box where
 (a b c d:Int)
theorem VR.app {α:Type}{vs ws:List V}{l m:List α}{R:α→V→Hp→Prop}{H:Hp}(h:VR vs l R H) (k:VR ws m R H):VR (vs++ws) (l++m) R H:=by
 refine⟨by rw[List.length_append,List.length_append,h.1,k.1],fun i x v h1 h2=>?_⟩
 by_cases hi:i<l.length
 ·rw[List.getElem?_append_left hi] at h1
  rw[List.getElem?_append_left (by rw[h.1];exact hi)] at h2
  exact h.2 i x v h1 h2
 ·rw[List.getElem?_append_right (by lia)] at h1
  rw[List.getElem?_append_right (by rw[h.1];lia),h.1] at h2
  exact k.2 _ x v h1 h2
abbrev Bfr (a b:Cell):Prop:=HT.lexLt [a.2,a.1] [b.2,b.1]=true
def lT (l:List (List Int)):PyData:=.list (l.map tI)
theorem zdm:∀ l:List (List Int),PyData.canLayAll0 (l.map tI)=true
 | []=>rfl
 | x::l=>by
  have:=zbn x
  unfold SeqAt.shaped at this
  rw[Bool.and_eq_true] at this
  show (PyData.canLay0 (tI x) && PyData.canLayAll0 (l.map tI))=true
  rw[this.1,zdm l];rfl
theorem zdZ:∀ l:List (List Int),PyData.depthAll (l.map tI)≤1
 | []=>Nat.zero_le _
 | x::l=>by show max (PyData.depth (tI x)) (PyData.depthAll (l.map tI))≤1;rw[zhr];have:=zdZ l;lia
theorem zce (l:List (List Int)):SeqAt.shaped (lT l)=true:=by
 unfold SeqAt.shaped lT
 rw[PyData.canLay0,zdm l,PyData.depth]
 have:=zdZ l
 simp only[Bool.true_and,decide_eq_true_eq]
 lia
def cI (c:Cell):List Int:=[c.1,c.2]
theorem zfG {K:W.Frag}{H:Hp}:∀ {vs:List V}{cs:List Cell},VR vs cs cR H→RDs K H vs ((cs.map cI).map tI)
 | [],[],_=>.nil
 | [],_::_,h=>by have:=h.1;cases this
 | _::_,[],h=>by have:=h.1;cases this
 | v::vs,r::R,h=>by
  obtain⟨⟨b,rfl,q⟩,h2⟩:=VR.cons.mp h
  exact .cons (.tup (SqT.of q) (RDs.ints (cI r))) (zfG h2)
theorem zcD {K:W.Frag}{H:Hp}{a:Addr}{vs:List V}{cs:List Cell}(e:SqL K H a vs) (h:VR vs cs cR H):RD K H (.ref a) (lT (cs.map cI)):=.lst e (zfG h)
open PySem L2 RP
section
variable {P:Program}{w:World}{K:W.Frag}{mg:Str→Option Value}{base:Heap}
def zfz (K:W.Frag):Sp:=fun vs H Q _=>∃ (v:V) (r:Rnd) (C:Cell→Bool) (es:List Edge),vs=[v]∧rR r v H∧Can C es r∧es.length≤480∧∀ p H' us,H p=none→Same H H'→H' p=some (.lst us)→VR us es eR H'→Q (.ref p) H'
theorem zgD (g_walk_of:Fn P w K mg base 5 "walk_of" ["one"] (zgW K)) (d:Df K mg "edges_of" zbB ["one"]):FnOk P w K mg base CX0 6 d.f d.fd ["one"] (zfz K):=by
 refine d.F.ok zgt (fun vs H Q E h=>?_) (fun cdv A outer s H vs Q E hr h=>?_)
 ·obtain⟨v,r,C,es,rfl,_⟩:=h
  rfl
 ·obtain⟨v,r,C,es,rfl,hv,hc,hlen,k⟩:=h
  have nb0:(["edge","step"]:List Str).Nodup:=by decide +kernel
  refine⟨_,(zag (zat (zbT (osc:=zab zbB) (N:=zeC) (N':=["edge","step"]) (sel:=[none,none]) ⟨rfl,by decide +kernel,by decide +kernel,by decide +kernel,rfl,by decide +kernel⟩ (zba (zah g_walk_of.ok (hr.mono (by decide)) (by rfl) g_walk_of.m g_walk_of.kp g_walk_of.b .nil pass0 (pa_N (pv 0) zad))) (fun _ _ _ _ _=>(zcw (K:=K) (n:=2) (by rfl) (zae (zaf (i:=0) nb0 (by rfl) (Or.inl rfl)) (zae (zaf (i:=1) nb0 (by rfl) (Or.inl rfl)) zay)))) (fun _ _ _ _ _=>zc9) (fun _ _ _ _ _=>(pv 0))))),?_⟩
  refine⟨_,rfl,v,r,C,es,rfl,hv,hc.cl,hc.row,hc.bg,hc.so,by lia,fun p H1 ws hp s1 e1 hw=>?_⟩
  refine⟨p,rfl,⟨_,SqL.of e1⟩,fun g hg=>?_⟩
  have wl:ws.length=es.length:=by rw[hw.1,zbV]
  refine zaD (K:=K) (a:=p) (xs:=ws) (fun j σ H2=>∃ o0 o1,σ=[o0,o1]∧Same H1 H2∧∃ zs,H2 g=some (.lst zs)∧VR zs (es.take j) eR H2)
   ⟨_,_,rfl,Same.up hg,[],zaa,VR.nil⟩ (fun j σ H2 _ ⟨_,_,_,s2,_⟩=>SqL.of (s2 _ _ e1)) ?_ ?_
  ·rintro j u σ H2 hj ⟨o0,o1,rfl,s2,zs,e2,hz⟩
   have hjl:j<ws.length:=(List.getElem?_eq_some_iff.mp hj).1
   obtain⟨⟨f,st⟩,he,B,bb,rfl,q1,q2⟩:=hw.at hj
   have hf:es[j]?=some f:=by
    unfold wk at he
    rw[List.getElem?_map] at he
    obtain⟨y,hy,ey⟩:=Option.map_eq_some_iff.mp he
    cases ey;exact hy
   have hl3:zs.length≤480:=by rw[hz.1,List.length_take];lia
   refine⟨B,_,rfl,SqT.of (s2 _ _ q1),rfl,_,_,rfl,_,_,rfl,rfl,?_⟩
   refine zcX ?_
   refine⟨_,rfl,zs,e2,zap (by lia),_,_,rfl,zav hg s2,_,zaa,?_⟩
   rw[zaJ hf]
   exact hz.snoc (fun x v h=>h.kt (KT.lst e2)) ⟨bb,rfl,KT.lst e2 _ _ (s2 _ _ q2)⟩
  ·rintro σ H2 ⟨o0,o1,rfl,s2,zs,e2,hz⟩
   rw[wl,List.take_length] at hz
   exact k g H2 zs (s1.free hg) (s1.trans s2) e2 hz
end
open PySem L2 RP
section
variable {P:Program}{w:World}{K:W.Frag}{mg:Str→Option Value}{base:Heap}
def spUp (K:W.Frag):Sp:=fun vs H Q _=>∃ (p:Addr) (us:List V) (es:List Edge),vs=[.ref p]∧H p=some (.lst us)∧VR us es eR H∧es.length≤480∧∀ a H' kvs B,UD H H' a es kvs B→Q (.ref a) H'
theorem zgA (T:Txt P w K mg) (d:Df K mg "uprights" zbP ["edges"]):FnOk P w K mg base CX0 1 d.f d.fd ["edges"] (spUp K):=by
 refine d.F.ok zb1 (fun vs H Q E h=>?_) (fun cdv A outer s H vs Q E hr h=>?_)
 ·obtain⟨p,us,es,rfl,_⟩:=h
  rfl
 ·obtain⟨p,us,es,rfl,hp,hw,hlen,k⟩:=h
  refine⟨_,(zac (zaq (i:=1) zb1.nd (by rfl) (Or.inl rfl) zjT)
   (zac (zbX PassesOwn.never rfl (zba (pv 0)) (zbL (by rfl) (zae (zaf (i:=2) zb1.nd (by rfl) (Or.inl rfl)) (zae (zaf (i:=3) zb1.nd (by rfl) (Or.inl rfl)) (zae (zaf (i:=4) zb1.nd (by rfl) (Or.inl rfl)) zay))))
   (zag (ps_if (zaB op_eq (pv 4) zak (zaz _))
   (zag (zbv (pe_bm PySem.F.plainAttrs_list PySem.F.slot_list_append PySem.F.type_list_append zbk (zg6 (pv 1) (pv 3) (zcj zad) ⟨rfl,rfl,rfl,rfl⟩) (pa_B (pe_op zbI (pv 2) zak) zad))))
   (zag (ps_if (zaB op_eq (pv 4) zak (zaz _))
   (zag (zbv (pe_bm PySem.F.plainAttrs_list PySem.F.slot_list_append PySem.F.type_list_append zbk (zg6 (pv 1) (pv 3) (zcj zad) ⟨rfl,rfl,rfl,rfl⟩) (pa_N (pv 2) zad))))
   za9)))))
   (zag (zat (pv 1))))),?_⟩
  intro a ha
  have U0:=UD.start ha
  refine⟨_,rfl,p,rfl,⟨_,SqL.of (U0.same _ _ hp)⟩,?_⟩
  refine zaD (K:=K) (a:=p) (xs:=us) (fun j σ H2=>∃ o2 o3 o4 kvs B,σ=[some (.ref p),some (.ref a),o2,o3,o4]∧UD H H2 a (es.take j) kvs B)
   ⟨_,_,_,_,_,rfl,U0⟩ (fun j σ H2 _ ⟨_,_,_,_,_,_,U⟩=>SqL.of (U.same _ _ hp)) ?_ ?_
  ·rintro j u σ H2 hj ⟨o2,o3,o4,kvs,B,rfl,U⟩
   obtain⟨f,hf,bf,rfl,qf⟩:=hw.at hj
   have hjl:j<es.length:=(List.getElem?_eq_some_iff.mp hf).1
   have hkl:kvs.length≤480:=by have:=U.len;rw[List.length_take] at this;lia
   have hul:∀ y,(upr (es.take j) y).length≤480:=fun y=>by
    have h1:=List.length_filter_le (isUp y) (es.take j)
    have h2:=List.length_take_le j es
    unfold upr
    rw[List.length_map]
    lia
   refine⟨bf,_,rfl,SqT.of (U.same _ _ qf),rfl,_,_,rfl,_,_,rfl,_,_,rfl,rfl,?_⟩
   refine⟨_,rfl,rfl,_,rfl,?_⟩
   rw[zaJ hf]
   refine ite2 (fun hy=>?_) (fun hn=>?_)
   ·have hw1 : f.w = 1 := by
     have:=of_decide_eq_true hy
     injection this with this
     lia
    have hpx:V.int (px f)=V.int (f.c.1+1):=by simp[px,hw1]
    refine⟨_,rfl,a,rfl,.inl ⟨kvs,.inl U.dict⟩,_,rfl,Nat.zero_le _,fun z hz=>?_⟩
    have nz:∀ {b o},H2 b=some o→b≠z:=fun q w=>by rw[w,hz] at q;cases q
    refine⟨kvs,.inl f.c.2,by rw[zaj (nz U.dict)];exact U.dict,rfl,zap (by lia),fun v hv=>?_,fun hv=>?_⟩
    ·by_cases hy:upr (es.take j) f.c.2=[]
     ·rw[U.no _ hy] at hv;cases hv
     ·obtain⟨b1,b2,b3,b4⟩:=U.at_ _ hy
      rw[b1] at hv
      cases hv
      have e3:upd H2 z (.lst []) (B f.c.2)=some (.lst ((upr (es.take j) f.c.2).map V.int)):=by rw[zaj (nz b2)];exact b2
      have U':=U.more (Or.inl hw1) hz hy
      rw[hpx] at U'
      exact⟨.inl ⟨rfl,_,SqL.of e3⟩,_,rfl,_,_,rfl,rfl,_,_,_,rfl,rfl,e3,zap (by rw[List.length_map];have:=hul f.c.2;lia),_,_,_,kvs,B,rfl,U'⟩
    ·have hy:upr (es.take j) f.c.2=[]:=Classical.byContradiction fun hy=>by rw[(U.at_ _ hy).1] at hv;cases hv
     have e3:upd (upd H2 z (.lst [])) a (.dK (putK kvs (.inl f.c.2) (.ref z))) z=some (.lst []):=by rw[zaj (nz U.dict).symm];exact zaa
     have U':=U.first (Or.inl hw1) hz hy
     rw[hpx] at U'
     exact⟨.inl ⟨rfl,_,SqL.of e3⟩,_,rfl,_,_,rfl,rfl,_,_,_,rfl,rfl,e3,zap (by simp),_,_,_,_,_,rfl,U'⟩
   ·have hw1:f.w≠1:=fun z=>hn (by rw[z];rfl)
    refine⟨_,rfl,rfl,_,rfl,?_⟩
    refine ite2 (fun hy=>?_) (fun hn3=>?_)
    ·have hw1 : f.w = 3 := by
      have:=of_decide_eq_true hy
      injection this with this
      lia
     have hpx:V.int (px f)=V.int f.c.1:=by simp[px,hw1]
     refine⟨_,rfl,a,rfl,.inl ⟨kvs,.inl U.dict⟩,_,rfl,Nat.zero_le _,fun z hz=>?_⟩
     have nz:∀ {b o},H2 b=some o→b≠z:=fun q w=>by rw[w,hz] at q;cases q
     refine⟨kvs,.inl f.c.2,by rw[zaj (nz U.dict)];exact U.dict,rfl,zap (by lia),fun v hv=>?_,fun hv=>?_⟩
     ·by_cases hy:upr (es.take j) f.c.2=[]
      ·rw[U.no _ hy] at hv;cases hv
      ·obtain⟨b1,b2,b3,b4⟩:=U.at_ _ hy
       rw[b1] at hv
       cases hv
       have e3:upd H2 z (.lst []) (B f.c.2)=some (.lst ((upr (es.take j) f.c.2).map V.int)):=by rw[zaj (nz b2)];exact b2
       have U':=U.more (Or.inr hw1) hz hy
       rw[hpx] at U'
       exact⟨.inl ⟨rfl,_,SqL.of e3⟩,_,rfl,_,_,_,rfl,rfl,e3,zap (by rw[List.length_map];have:=hul f.c.2;lia),_,_,_,kvs,B,rfl,U'⟩
     ·have hy:upr (es.take j) f.c.2=[]:=Classical.byContradiction fun hy=>by rw[(U.at_ _ hy).1] at hv;cases hv
      have e3:upd (upd H2 z (.lst [])) a (.dK (putK kvs (.inl f.c.2) (.ref z))) z=some (.lst []):=by rw[zaj (nz U.dict).symm];exact zaa
      have U':=U.first (Or.inr hw1) hz hy
      rw[hpx] at U'
      exact⟨.inl ⟨rfl,_,SqL.of e3⟩,_,rfl,_,_,_,rfl,rfl,e3,zap (by simp),_,_,_,_,_,rfl,U'⟩
    ·have hw3:f.w≠3:=fun z=>hn3 (by rw[z];rfl)
     exact⟨_,_,_,kvs,B,rfl,U.skip (fun z=>z.elim hw1 hw3)⟩
  ·rintro σ H2 ⟨o2,o3,o4,kvs,B,rfl,U⟩
   rw[show us.length=es.length from hw.1,List.take_length] at U
   exact⟨_,rfl,k a H2 kvs B U⟩
end
open PySem L2 RP
section
variable {P:Program}{w:World}{K:W.Frag}{mg:Str→Option Value}{base:Heap}
abbrev Ahd (c d:Cell):Prop:=c.2<d.2∨(c.2=d.2∧c.1<d.1)
def zfA (K:W.Frag):Sp:=fun vs H Q _=>∃ (v:V) (r:Rnd) (C:Cell→Bool) (es:List Edge),vs=[v]∧rR r v H∧Can C es r∧es.length≤480∧(∃ l lo:Int,∀ e∈es,l≤e.c.1∧e.c.1<l+60∧lo≤e.c.2∧e.c.2<lo+60) ∧
 ∀ p H' us L,H p=none→Same H H'→H' p=some (.lst us)→VR us L cR H'→(∀ c,c∈L ↔ wd es c≠0)→L.Pairwise Ahd→L.length≤3660→Q (.ref p) H'
theorem zc2 {n:Nat}(h:n≤4000):n<sizeLine:=Nat.lt_of_le_of_lt h (by decide)
theorem zdQ (T:Txt P w K mg) (g_edges_of:Fn P w K mg base 6 "edges_of" ["one"] (zfz K)) (g_uprights:Fn P w K mg base 1 "uprights" ["edges"] (spUp K)) (d:Df K mg "cells_within" zaF ["one"]):FnOk P w K mg base CX0 7 d.f d.fd ["one"] (zfA K):=by
  refine d.F.ok zaU (fun vs H Q E h=>?_) (fun cdv A outer s H vs Q E hr h=>?_)
  · obtain⟨v,r,C,es,rfl,_⟩:=h
    rfl
  · obtain⟨v,r,C,es,rfl,hv,hc,hlen,⟨l,lo,hB⟩,k⟩:=h
    have hsum:=hc.cl.turning
    have hBx:∀ e∈es,l≤e.c.1∧e.c.1<l+60:=fun e he=>⟨(hB e he).1,(hB e he).2.1⟩
    have hfl:=zj5 hc.cl hsum hBx
    have hul:=zkL hc.cl hBx
    have hu1:=hu_of hr
    have nb0:(["x","y"]:List Str).Nodup:=by decide +kernel
    refine⟨_,(zac (zaq (i:=1) zaU.nd (by rfl) (Or.inl rfl) (zah g_uprights.ok (hr.mono (by decide)) (by rfl) g_uprights.m g_uprights.kp g_uprights.b .nil pass0 (zam (zah g_edges_of.ok (hr.mono (by decide)) (by rfl) g_edges_of.m g_edges_of.kp g_edges_of.b .nil pass0 (pa_N (pv 0) zad)) zad)))
      (zac (zaq (i:=2) zaU.nd (by rfl) (Or.inl rfl) (zcj zad))
      (zac (zbX PassesOwn.never rfl (zba (zbb (zhW rfl) (by rfl) T.nsorted (by rfl) (pa_N (pv 1) zad))) (zaf (i:=3) zaU.nd (by rfl) (Or.inr rfl))
      (zac (zaq (i:=4) zaU.nd (by rfl) (Or.inl rfl) (zbb zhV (by rfl) T.nsorted (by rfl) (zam (zk0 hu1 (pv 1) (pv 3) (fun _ _=>rfl)) zad)))
      (zag (zbX PassesOwn.never rfl (ziE (by rfl) T.nrange (pa_C zak (zam (zbb zaI (by rfl) T.nlen (by rfl) (pa_N (pv 4) zad)) (pa_C zak zad)))) (zaf (i:=5) zaU.nd (by rfl) (Or.inl rfl))
      (zag (zbv (pe_bm PySem.F.plainAttrs_list PySem.F.slot_list_extend PySem.F.type_list_extend zdT (pv 2) (zam (zbT (osc:=zab zaF) (N:=zcK) (N':=["x","y"]) (sel:=[none,some 3]) ⟨rfl,by decide +kernel,by decide +kernel,by decide +kernel,rfl,by decide +kernel⟩ (ziD (by rfl) T.nrange (zam (pe_ix zcp (pv 4) (pv 5) (fun _ _=>rfl)) (zam (pe_ix zcp (pv 4) (pe_op zbI (pv 5) zak) (fun _ _=>rfl)) zad))) (fun _ _ _ _ _=>(zaf (i:=0) nb0 (by rfl) (Or.inl rfl))) (fun _ _ _ _ _=>zc9) (fun _ _ _ _ _=>(zbj (pa_N (pv 0) (pa_N (pv 1) zad))))) zad))))))))
      (zag (zat (pv 2)))))),?_⟩
    refine⟨_,rfl,v,r,C,es,rfl,hv,hc,hlen,fun pe H1 us hpe s1 e1 hw=>?_⟩
    refine⟨pe,us,es,rfl,e1,hw,hlen,fun a H2 kvs B U=>?_⟩
    refine⟨Nat.zero_le _,fun g hg=>?_⟩
    obtain⟨ns,hns⟩:=zfS fun k' hk=>let ⟨y,e,_⟩:=U.keys k' hk;⟨y,e⟩
    have hnl:ns.length=kvs.length:=by have:=congrArg List.length hns;simpa using this.symm
    have hmem:∀ y,y∈ns ↔ upr es y≠[]:=fun y=>by
      constructor
      · intro hy
        obtain⟨z,e,q⟩:=U.keys (Sum.inl y) (by rw[hns];exact List.mem_map.mpr ⟨y,hy,rfl⟩)
        cases e
        exact q
      · intro hy
        have h1:=(U.at_ y hy).1
        unfold valV at h1
        obtain⟨kv,hf,_⟩:=Option.map_eq_some_iff.mp h1
        have h2:kv.1=Sum.inl y:=by simpa using List.find?_some hf
        have h3:Sum.inl y∈kvs.map (·.1):=List.mem_map.mpr ⟨kv,List.mem_of_find?_eq_some hf,h2⟩
        rw[hns] at h3
        obtain⟨z,hz,e⟩:=List.mem_map.mp h3
        cases e
        exact hz
    have hnd:ns.Nodup:=by
      have:=U.nd
      rw[hns] at this
      exact (List.pairwise_map.mp this).imp fun h e=>h (by rw[e])
    have hn60:ns.length≤60:=zdz (lo:=lo) hnd fun y hy=>by
      have hne:=(hmem y).mp hy
      obtain⟨x,hx⟩:=List.exists_mem_of_ne_nil _ hne
      unfold upr at hx
      obtain⟨e,he,_⟩:=List.mem_map.mp hx
      have m:=List.mem_filter.mp he
      have:=hB e m.1
      rw[← (zcb.mp m.2).2]
      lia
    refine⟨_,rfl,a,kvs,ns,rfl,.inl (Same.up hg _ _ U.dict),hns,by lia,fun D ns' hp' hs' hD=>?_⟩
    have hgD:g≠D:=fun z=>by rw[← z,zaa] at hD;cases hD
    have hst:ns'.Pairwise (·<·):=List.Pairwise.imp (R:=fun a b:Int=>a≤b∧a≠b) (fun {a b} q=>by lia) (hs'.and (hp'.nodup_iff.mpr hnd))
    have hD2:H2 D=none:=(Same.up hg).free hD
    have S4:Same H2 (upd (upd H2 g (.lst [])) D (.lst (ns'.map V.int))):=(Same.up hg).trans (Same.up hD)
    have eD0:upd (upd H2 g (.lst [])) D (.lst (ns'.map V.int)) D=some (.lst (ns'.map V.int)):=zaa
    have eg0:upd (upd H2 g (.lst [])) D (.lst (ns'.map V.int)) g=some (.lst []):=by rw[zaj hgD];exact zaa
    generalize upd (upd H2 g (.lst [])) D (.lst (ns'.map V.int))=H4 at S4 eD0 eg0
    refine⟨D,rfl,⟨_,SqL.of eD0⟩,?_⟩
    refine zaD (K:=K) (a:=D) (xs:=ns'.map V.int) (fun j σ H5=>∃ o3 o4 o5,σ=[some v,some (.ref a),some (.ref g),o3,o4,o5]∧Same H2 H5∧H5 D=some (.lst (ns'.map V.int))∧∃ zs,H5 g=some (.lst zs)∧VR zs (zca es (ns'.take j)) cR H5)
      ⟨_,_,_,rfl,S4,eD0,[],eg0,VR.nil⟩ (fun j σ H5 _ ⟨_,_,_,_,_,e5,_⟩=>SqL.of e5) ?_ ?_
    · rintro j u σ H5 hj ⟨o3,o4,o5,rfl,s5,eD5,zs,e5,hz5⟩
      obtain⟨y,hy,rfl⟩:∃ y,ns'[j]?=some y∧V.int y=u:=by simpa using hj
      have hjl:j<ns'.length:=(List.getElem?_eq_some_iff.mp hy).1
      have hn':ns'.length≤60:=by rw[hp'.length_eq];exact hn60
      have hyu:upr es y≠[]:=(hmem y).mp (hp'.mem_iff.mp (List.mem_of_getElem? hy))
      obtain⟨b1,b2,b3,b4⟩:=U.at_ y hyu
      have hdg:DGet H5 a (V.int y) (some (.ref (B y))):=by rw[← b1];exact DGet.k (k:=Sum.inl y) (s5 _ _ U.dict)
      refine⟨_,rfl,_,rfl,a,_,rfl,hdg,B y,upr es y,rfl,SqL.of (s5 _ _ b2),(by have:=hul y;lia),fun t Ts hT hTs ht=>?_⟩
      obtain rfl:=zkO hT hTs
      have hTl:(srt (upr es y)).length≤61:=by rw[hT.length_eq];exact hul y
      have hpar:=(zeT hc.cl hsum (zdv (upr es y)) (zgU _)).1
      have hcl:(zca es (ns'.take j)).length≤61*59:=by
        have:=zc7 hfl (ns'.take j)
        have h2:(ns'.take j).length≤59:=by rw[List.length_take];lia
        lia
      have S6:Same H5 (upd H5 t (.lst ((srt (upr es y)).map V.int))):=Same.up ht
      have et0:upd H5 t (.lst ((srt (upr es y)).map V.int)) t=some (.lst ((srt (upr es y)).map V.int)):=zaa
      generalize upd H5 t (.lst ((srt (upr es y)).map V.int))=H6 at S6 et0
      have htg:t≠g:=fun z=>by rw[z,e5] at ht;cases ht
      have htD:t≠D:=fun z=>by rw[z,eD5] at ht;cases ht
      refine⟨_,rfl,t,_,rfl,.inl (SqL.of et0),0,_,rfl,⟨by decide,by decide,by lia,by rw[List.length_map];lia⟩,?_⟩
      rw[show ((((((srt (upr es y)).map V.int).length:Nat):Int) - 0+1) / 2).toNat=(srt (upr es y)).length / 2 by rw[List.length_map];lia]
      refine zhS (lo := 0) (n := (srt (upr es y)).length / 2) (fun i σ H7 => ∃ o5, σ = [some v, some (.ref a), some (.ref g), some (.int y), some (.ref t), o5] ∧ Same H2 H7 ∧ H7 D = some (.lst (ns'.map V.int)) ∧ H7 t = some (.lst ((srt (upr es y)).map V.int)) ∧
          ∃ zs,H7 g=some (.lst zs)∧VR zs (zca es (ns'.take j)++(fillT ((srt (upr es y)).take (2*i))).map fun x=>(x,y)) cR H7)
        ⟨_,rfl,s5.trans S6,S6 _ _ eD5,et0,zs,S6 _ _ e5,by simpa[fillT] using hz5.mono fun x v h=>h.same S6⟩ ?_ ?_
      · rintro i σ H7 hi ⟨o5,rfl,s7,eD7,et7,ys,e7,hz7⟩
        have h1:2*i<(srt (upr es y)).length:=by lia
        have h2:2*i+1<(srt (upr es y)).length:=by lia
        have g1:((srt (upr es y)).map V.int)[2*i]?=some (.int (srt (upr es y))[2*i]):=by rw[List.getElem?_map,List.getElem?_eq_getElem h1];rfl
        have g2:((srt (upr es y)).map V.int)[2*i+1]?=some (.int (srt (upr es y))[2*i+1]):=by rw[List.getElem?_map,List.getElem?_eq_getElem h2];rfl
        have hft:=zeA (srt (upr es y)) i _ _ (List.getElem?_eq_getElem h1) (List.getElem?_eq_getElem h2)
        have hyl:ys.length≤61*60:=by
          rw[hz7.1,List.length_append,List.length_map]
          have e:=congrArg List.length (zcR (srt (upr es y)) i)
          rw[List.length_append] at e
          have:=hfl y
          lia
        have hul2:(upto (srt (upr es y))[2*i] (srt (upr es y))[2*i+1]).length≤61:=by
          have e:=congrArg List.length (zcR (srt (upr es y)) (i+1))
          rw[hft,List.length_append,List.length_append] at e
          have:=hfl y
          lia
        generalize (srt (upr es y))[2*i]=A0 at g1 hft hul2
        generalize (srt (upr es y))[2*i+1]=B0 at g2 hft hul2
        refine⟨_,rfl,.inl ⟨rfl,_,SqL.of e7⟩,_,rfl,_,rfl,t,_,_,_,rfl,rfl,SqL.of et7,(by rw[show (0:Int)+(i:Int)*2=((2*i:Nat):Int) by lia];exact zbm g1),
          _,rfl,_,rfl,_,_,rfl,rfl,t,_,_,_,rfl,rfl,SqL.of et7,(by rw[show (0:Int)+(i:Int)*2+1=((2*i+1:Nat):Int) by lia];exact zbm g2),_,_,rfl,fun c hc7=>?_⟩
        refine zck (lo:=A0) (n:=(B0 - A0).toNat) (fun m σ H8=>∃ o0,σ=[o0,some (.int y)]∧Same H7 H8∧∃ xs,H8 c=some (.lst xs)∧VR xs (((List.range m).map fun q:Nat=>A0+(q:Int)).map fun x=>(x,y)) cR H8)
          ⟨_,rfl,Same.up hc7,[],zaa,VR.nil⟩ ?_ ?_
        · rintro m σ H8 hm ⟨o0,rfl,s8,xs,e8,hz8⟩
          have hxl:xs.length≤61:=by
            rw[hz8.1,List.length_map,List.length_map,List.length_range]
            unfold upto at hul2
            rw[List.length_map,List.length_range] at hul2
            lia
          unfold gName
          refine zcX ?_
          refine⟨_,rfl,_,rfl,two,fun q hq=>?_⟩
          have s9:Same H8 (upd H8 q (.tup [.int (A0+(m:Int)),.int y])):=Same.up hq
          have r9:cR (A0+(m:Int),y) (.ref q) (upd H8 q (.tup [.int (A0+(m:Int)),.int y])):=⟨q,rfl,by rw[zaa];rfl⟩
          generalize upd H8 q (.tup [.int (A0+(m:Int)),.int y])=H9 at s9 r9
          have e9:=s9 _ _ e8
          refine⟨xs,e9,zap (by lia),_,rfl,zav hc7 (s8.trans s9),_,zaa,?_⟩
          rw[List.range_succ,List.map_append,List.map_append]
          exact hz8.snoc (fun x v h=>(h.kt (KT.of s9)).kt (KT.lst e9)) (r9.kt (KT.lst e9))
        · rintro σ H8 ⟨o0,rfl,s8,xs,e8,hz8⟩
          have hxl:xs.length≤61:=by
            rw[hz8.1,List.length_map,List.length_map,List.length_range]
            unfold upto at hul2
            rw[List.length_map,List.length_range] at hul2
            exact hul2
          have e78:=s8 _ _ e7
          refine⟨g,c,_,_,rfl,rfl,e78,e8,Nat.le_of_lt (zc2 (by lia)),?_⟩
          have k9:KT H8 (upd H8 g (.lst (ys++xs))):=KT.lst e78
          have hDg:D≠g:=Ne.symm hgD
          refine⟨_,rfl,zav hg (s7.trans s8),by rw[zaj hDg];exact s8 _ _ eD7,by rw[zaj htg];exact s8 _ _ et7,_,zaa,?_⟩
          rw[hft,List.map_append,← List.append_assoc]
          exact (hz7.mono fun x v h=>(h.kt (KT.of s8)).kt k9).app (hz8.mono fun x v h=>h.kt k9)
      · rintro σ H7 ⟨o5,rfl,s7,eD7,et7,ys,e7,hz7⟩
        rw[show 2*((srt (upr es y)).length / 2)=(srt (upr es y)).length by lia,List.take_length] at hz7
        refine⟨_,_,_,rfl,s7,eD7,ys,e7,?_⟩
        rw[zaJ hy,zgk]
        exact hz7
    · rintro σ H5 ⟨o3,o4,o5,rfl,s5,eD5,zs,e5,hz5⟩
      rw[List.length_map,List.take_length] at hz5
      have hsp:=zgj hc.cl hsum hst fun y=>by rw[hp'.mem_iff];exact hmem y
      refine⟨_,rfl,k g H5 zs _ (s1.free (U.same.free hg)) (s1.trans (U.same.trans s5)) e5 hz5 hsp.1 hsp.2 ?_⟩
      have:=zc7 hfl ns'
      rw[hp'.length_eq] at this
      lia
end
open PySem L2 RP
section
variable {P:Program}{w:World}{K:W.Frag}{mg:Str→Option Value}{base:Heap}
theorem Can.sum3 {C:Cell→Bool}{es:List Edge}{r:Rnd}(h:Can C es r):(r.so = "rim" ∧ (es.map (tt C)).sum=4)∨(r.so = "hole" ∧ (es.map (tt C)).sum=-4):=by
 have e:(es.map (tt C)).sum=(nL (wk C es):Int) - nS (wk C es):=by rw[nL_wk,nS_wk,← zeJ]
 rw[h.so,e]
 unfold sortS
 rcases zia h.cl with z | z
 ·left;rw[if_pos (by lia)];exact⟨rfl,z⟩
 ·right;rw[if_neg (by lia)];exact⟨rfl,z⟩
theorem zjH {C:Cell→Bool}{b:Edge}{es:List Edge}(h:Closed C b es){l lo:Int}(hB:∀ e∈es,l≤e.c.1∧e.c.1<l+60∧lo≤e.c.2∧e.c.2<lo+60){c:Cell}(hz:wd es c≠0):l≤c.1∧c.1<l+61∧lo≤c.2∧c.2<lo+60:=by
 obtain⟨e,he,f,hf,k1,k2,k3,k4,_,_⟩:=zke h hz
 have:=hB e he
 have:=hB f hf
 have:e.c.1≤px e:=by unfold px;split <;> lia
 have:px f≤f.c.1+1:=by unfold px;split <;> lia
 lia
theorem zdC:∀ {l:List Int},(∀ x∈l,x=0)→l.sum=0
 | [],_=>rfl
 | a::r,h=>by rw[List.sum_cons,h a List.mem_cons_self,zdC fun x hx=>h x (List.mem_cons_of_mem _ hx)];rfl
theorem zdx:∀ cs:List Cell,∃ m:Int,∀ c∈cs,c.1<m
 | []=>⟨0,fun _ h=>(nomatch h)⟩
 | c::r=>by
  obtain⟨m,h⟩:=zdx r
  refine⟨max m (c.1+1),fun d hd=>?_⟩
  rcases List.mem_cons.mp hd with rfl | hd
  ·lia
  ·have:=h d hd;lia
theorem zkA {a b c d:Int}:HT.lexLt [a,b] [c,d]=false ↔ ¬ (a<c∨(a=c∧b<d)):=by
 rw[HT.lexLt_cons,HT.lexLt_cons,HT.lexLt_nil_nil]
 by_cases h2:a=c
 ·subst h2
  by_cases h3:b=d
  ·subst h3;simp
  ·simp[h3]
 ·simp[h2]
theorem zdg {α:Type}{L:List α}{n:Nat}(h:n=L.length):L.take n=L:=by rw[h,List.take_length]
def zkl (K:W.Frag):Sp:=fun vs H Q _=>∃ (p:Addr) (us:List V) (R:List Rnd) (ESS:List (List Edge)) (cs:List Cell),vs=[.ref p]∧H p=some (.lst us)∧VR us R rR H∧Cans (isIn cs) ESS R∧(∀ es∈ESS,es.length≤480) ∧
 (∃ l lo:Int,∀ es∈ESS,∀ e∈es,l≤e.c.1∧e.c.1<l+60∧lo≤e.c.2∧e.c.2<lo+60)∧cs.Pairwise Ahd∧cs.length≤120∧∀ g H' zs,H g=none→Same H H'→H' g=some (.lst zs)→VR zs cs cR H'→Q (.ref g) H'
theorem ze5 (T:Txt P w K mg) (g_cells_within:Fn P w K mg base 7 "cells_within" ["one"] (zfA K)) (g_cell_order:Fn P w K mg base 1 "cell_order" ["cell"] (zeN K)) (d:Df K mg "cells_told" zaV ["some"]):FnOk P w K mg base CX0 8 d.f d.fd ["some"] (zkl K):=by
 refine d.F.ok zbG (fun vs H Q E h=>?_) (fun cdv A outer s H vs Q E hr h=>?_)
 ·obtain⟨p,us,R,ESS,cs,rfl,_⟩:=h
  rfl
 ·obtain⟨p,us,R,ESS,cs,rfl,hp,hv,hcan,hlen,⟨l,lo,hB⟩,hord,hcl,k⟩:=h
  have hu1:=hu_of hr
  have nb0:(["cell","depth"]:List Str).Nodup:=by decide +kernel
  refine⟨_,(zac (zaq (i:=1) zbG.nd (by rfl) (Or.inl rfl) zeZ)
   (zac (zbX PassesOwn.never rfl (zba (pv 0)) (zaf (i:=2) zbG.nd (by rfl) (Or.inl rfl))
   (zac (zaq (i:=3) zbG.nd (by rfl) (Or.inl rfl) (zeY (zaB op_eq (pe_ix zc5 (pv 2) zak (fun _ _=>rfl)) zg4 (zaz _)) zak (pe_un zkg zak)))
   (zag (zbX PassesOwn.never rfl (zba (zah g_cells_within.ok (hr.mono (by decide)) (by rfl) g_cells_within.m g_cells_within.kp g_cells_within.b .nil pass0 (pa_N (pv 2) zad))) (zaf (i:=4) zbG.nd (by rfl) (Or.inl rfl))
   (zag (ziy hu1 (pv 1) (pv 4) (pe_op zbI (zjU hu1 (pv 1) (pv 4) zak ⟨rfl,rfl,rfl,rfl⟩) (pv 3)) rfl))))))
   (zag (zat (zg5 g_cell_order.ok (hr.mono (by decide)) g_cell_order.b (by rfl) T.nsorted (by rfl) g_cell_order.m (zbT (osc:=zab zaV) (N:=zdo) (N':=["cell","depth"]) (sel:=[none,none]) ⟨rfl,by decide +kernel,by decide +kernel,by decide +kernel,rfl,by decide +kernel⟩ (zjR (pv 1)) (fun _ _ _ _ _=>(zcw (K:=K) (n:=2) (by rfl) (zae (zaf (i:=0) nb0 (by rfl) (Or.inl rfl)) (zae (zaf (i:=1) nb0 (by rfl) (Or.inl rfl)) zay)))) (fun _ _ _ _ _=>zcN (zaB op_gt (pv 1) zak (zaz _))) (fun _ _ _ _ _=>(pv 0)))))))),?_⟩
  have hbox:∀ es∈ESS,∀ d,wd es d≠0→l≤d.1∧d.1<l+61∧lo≤d.2∧d.2<lo+60:=fun es hes d hz=>by
   obtain⟨j,hj,ej⟩:=List.getElem_of_mem hes
   have hjR:j<R.length:=by rw[hcan.al.length];exact hj
   have:=hcan.al.at (i:=j) (b:=es) (by rw[List.getElem?_eq_getElem hj,ej]) (List.getElem?_eq_getElem hjR)
   exact zjH this.cl (hB es hes) hz
  intro a ha
  have S0:Same H (upd H a (.dT [])):=Same.up ha
  have e0:upd H a (.dT []) a=some (.dT (dep [] fun _=>0)):=zaa
  generalize upd H a (.dT [])=H1 at S0 e0
  refine⟨_,rfl,p,rfl,⟨_,SqL.of (S0 _ _ hp)⟩,?_⟩
  refine zaD (K:=K) (a:=p) (xs:=us) (fun j σ H2=>∃ o2 o3 o4 Cs f,σ=[some (.ref p),some (.ref a),o2,o3,o4]∧Same H H2∧H2 a=some (.dT (dep Cs f))∧Cs.Nodup∧(∀ d,d∈Cs ↔ ∃ es∈ESS.take j,wd es d≠0)∧∀ d,f d=((ESS.take j).map fun es=>wd es d).sum)
   ⟨_,_,_,[],_,rfl,S0,e0,.nil,by simp,fun d=>rfl⟩ (fun j σ H2 _ ⟨_,_,_,_,_,_,s2,_⟩=>SqL.of (s2 _ _ hp)) ?_ ?_
  ·rintro j u σ H2 hj ⟨o2,o3,o4,Cs,f,rfl,s2,e2,nd2,hm2,hf2⟩
   obtain⟨r,hr1,hvr⟩:=hv.at hj
   have hjl:j<ESS.length:=by rw[← hcan.al.length];exact (List.getElem?_eq_some_iff.mp hr1).1
   obtain⟨es,hes1⟩:∃ es,ESS[j]?=some es:=⟨_,List.getElem?_eq_getElem hjl⟩
   have hes:=List.mem_of_getElem? hes1
   have hc1:Can (isIn cs) es r:=hcan.al.at hes1 hr1
   have hzero:∀ d,d ∉ Cs→f d=0:=fun d hd=>by
    rw[hf2 d]
    have:∀ es∈ESS.take j,wd es d=0:=fun es h=>Classical.byContradiction fun w=>hd ((hm2 d).mpr ⟨es,h,w⟩)
    exact zdC fun x hx=>by obtain⟨es,h,rfl⟩:=List.mem_map.mp hx;exact this es h
   have hR:rR r u H2:=hvr.kt (KT.of s2)
   obtain⟨pa,pb,rfl,qa,qb0⟩:=id hR
   generalize hu:V.ref pa=u at hR
   refine⟨_,rfl,pa,_,_,_,hu.symm,rfl,SqT.of qa,rfl,?_⟩
   refine⟨rfl,_,rfl,?_⟩
   rcases Can.sum3 hc1 with⟨hso,hsum⟩ | ⟨hso,hsum⟩
   ·rw[if_pos (by rw[hso];decide)]
    refine⟨_,rfl,_,r,isIn cs,es,rfl,hR,hc1,hlen es hes,⟨l,lo,hB es hes⟩,fun q H4 ws L hq s4 e4 hw4 hmL hoL hlL=>?_⟩
    refine⟨q,rfl,⟨_,SqL.of e4⟩,?_⟩
    have hLn:L.Nodup:=hoL.imp fun {x y} h e=>by subst e;rcases h with h | h <;> lia
    have hqa:q≠a:=fun z=>by rw[z,e2] at hq;cases hq
    refine zaD (K:=K) (a:=q) (xs:=ws) (fun i σ H5=>∃ o4 Cs' f',σ=[some (.ref p),some (.ref a),some u,some (.int (1)),o4]∧Same H H5∧H5 a=some (.dT (dep Cs' f'))∧H5 q=some (.lst ws)∧KT H4 H5∧Cs'.Nodup∧(∀ d,d∈Cs' ↔ d∈Cs∨d∈L.take i)∧∀ d,f' d=f d+if d∈L.take i then (1) else 0)
     ⟨_,Cs,f,rfl,s2.trans s4,s4 _ _ e2,e4,KT.refl _,nd2,by simp,by simp⟩ (fun i σ H5 _ ⟨_,_,_,_,_,_,h,_⟩=>SqL.of h) ?_ ?_
    ·rintro i x σ H5 hi ⟨o4,Cs',f',rfl,s5,e5,eq5,k5,nd5,hm5,hf5⟩
     obtain⟨c,hc,b,rfl,qb⟩:=hw4.at hi
     have qb5:=k5 _ _ qb
     have hbl:Cs'.length≤3660:=zd4 nd5 fun d hd=>by
      rcases (hm5 d).mp hd with z | z
      ·obtain⟨es',h1,h2⟩:=(hm2 d).mp z
       exact hbox es' (List.mem_of_mem_take h1) d h2
      ·exact hbox es hes d ((hmL d).mp (List.mem_of_mem_take z))
     have hdl:(dep Cs' f').length≤4000:=by unfold dep;rw[List.length_map];lia
     have hget:(valV (dep Cs' f') (ckey c)).getD (.int 0)=V.int (f' c):=by
      rw[zdu]
      by_cases z:c∈Cs'
      ·rw[if_pos z];rfl
      ·rw[if_neg z]
       have h1:c ∉ Cs:=fun w=>z ((hm5 c).mpr (.inl w))
       have h2:c ∉ L.take i:=fun w=>z ((hm5 c).mpr (.inr w))
       rw[hf5 c,if_neg h2,hzero c h1];rfl
     have st:=zht (s:=(1)) hLn hc nd5 hm5 hf5
     refine⟨_,rfl,a,rfl,.inr ⟨_,.inl e5⟩,_,rfl,_,.inr ⟨dep Cs' f',ckey c,b,.inl e5,rfl,qb5,rfl⟩,_,rfl,_,_,hget,rfl,_,rfl,_,rfl,a,_,rfl,.inr ⟨dep Cs' f',ckey c,b,e5,rfl,qb5,zc2 hdl,rfl⟩,?_⟩
     rw[zji]
     exact⟨_,_,_,rfl,zav ha s5,zaa,by rw[zaj hqa];exact eq5,k5.trans (KT.dct e5),st.1,st.2.1,st.2.2⟩
    ·rintro σ H5 ⟨o4,Cs',f',rfl,s5,e5,eq5,k5,nd5,hm5,hf5⟩
     have hwl:L.take ws.length=L:=zdg hw4.1
     rw[hwl] at hm5 hf5
     refine⟨_,_,_,Cs',f',rfl,s5,e5,nd5,fun d=>?_,fun d=>?_⟩
     ·rw[hm5 d,hm2 d,zaJ hes1,hmL d]
      constructor
      ·rintro (⟨es',h1,h2⟩ | h)
       ·exact⟨es',List.mem_append_left _ h1,h2⟩
       ·exact⟨es,List.mem_append_right _ (List.mem_singleton.mpr rfl),h⟩
      ·rintro⟨es',h1,h2⟩
       rcases List.mem_append.mp h1 with h1 | h1
       ·exact .inl ⟨es',h1,h2⟩
       ·rw[List.mem_singleton.mp h1] at h2;exact .inr h2
     ·rw[hf5 d,hf2 d,zaJ hes1,List.map_append,List.sum_append]
      have h01:=wd_01 hc1.cl hsum d
      have hmd:=hmL d
      simp only[List.map_cons,List.map_nil,List.sum_cons,List.sum_nil]
      by_cases z:d∈L
      ·rw[if_pos z];have:=hmd.mp z;lia
      ·rw[if_neg z];have:wd es d=0:=Classical.byContradiction fun w=>z (hmd.mpr w);lia
   ·rw[if_neg (by rw[hso];decide)]
    refine⟨_,rfl,?_⟩
    refine⟨_,rfl,_,r,isIn cs,es,rfl,hR,hc1,hlen es hes,⟨l,lo,hB es hes⟩,fun q H4 ws L hq s4 e4 hw4 hmL hoL hlL=>?_⟩
    refine⟨q,rfl,⟨_,SqL.of e4⟩,?_⟩
    have hLn:L.Nodup:=hoL.imp fun {x y} h e=>by subst e;rcases h with h | h <;> lia
    have hqa:q≠a:=fun z=>by rw[z,e2] at hq;cases hq
    refine zaD (K:=K) (a:=q) (xs:=ws) (fun i σ H5=>∃ o4 Cs' f',σ=[some (.ref p),some (.ref a),some u,some (.int (-1)),o4]∧Same H H5∧H5 a=some (.dT (dep Cs' f'))∧H5 q=some (.lst ws)∧KT H4 H5∧Cs'.Nodup∧(∀ d,d∈Cs' ↔ d∈Cs∨d∈L.take i)∧∀ d,f' d=f d+if d∈L.take i then (-1) else 0)
     ⟨_,Cs,f,rfl,s2.trans s4,s4 _ _ e2,e4,KT.refl _,nd2,by simp,by simp⟩ (fun i σ H5 _ ⟨_,_,_,_,_,_,h,_⟩=>SqL.of h) ?_ ?_
    ·rintro i x σ H5 hi ⟨o4,Cs',f',rfl,s5,e5,eq5,k5,nd5,hm5,hf5⟩
     obtain⟨c,hc,b,rfl,qb⟩:=hw4.at hi
     have qb5:=k5 _ _ qb
     have hbl:Cs'.length≤3660:=zd4 nd5 fun d hd=>by
      rcases (hm5 d).mp hd with z | z
      ·obtain⟨es',h1,h2⟩:=(hm2 d).mp z
       exact hbox es' (List.mem_of_mem_take h1) d h2
      ·exact hbox es hes d ((hmL d).mp (List.mem_of_mem_take z))
     have hdl:(dep Cs' f').length≤4000:=by unfold dep;rw[List.length_map];lia
     have hget:(valV (dep Cs' f') (ckey c)).getD (.int 0)=V.int (f' c):=by
      rw[zdu]
      by_cases z:c∈Cs'
      ·rw[if_pos z];rfl
      ·rw[if_neg z]
       have h1:c ∉ Cs:=fun w=>z ((hm5 c).mpr (.inl w))
       have h2:c ∉ L.take i:=fun w=>z ((hm5 c).mpr (.inr w))
       rw[hf5 c,if_neg h2,hzero c h1];rfl
     have st:=zht (s:=(-1)) hLn hc nd5 hm5 hf5
     refine⟨_,rfl,a,rfl,.inr ⟨_,.inl e5⟩,_,rfl,_,.inr ⟨dep Cs' f',ckey c,b,.inl e5,rfl,qb5,rfl⟩,_,rfl,_,_,hget,rfl,_,rfl,_,rfl,a,_,rfl,.inr ⟨dep Cs' f',ckey c,b,e5,rfl,qb5,zc2 hdl,rfl⟩,?_⟩
     rw[zji]
     exact⟨_,_,_,rfl,zav ha s5,zaa,by rw[zaj hqa];exact eq5,k5.trans (KT.dct e5),st.1,st.2.1,st.2.2⟩
    ·rintro σ H5 ⟨o4,Cs',f',rfl,s5,e5,eq5,k5,nd5,hm5,hf5⟩
     have hwl:L.take ws.length=L:=zdg hw4.1
     rw[hwl] at hm5 hf5
     refine⟨_,_,_,Cs',f',rfl,s5,e5,nd5,fun d=>?_,fun d=>?_⟩
     ·rw[hm5 d,hm2 d,zaJ hes1,hmL d]
      constructor
      ·rintro (⟨es',h1,h2⟩ | h)
       ·exact⟨es',List.mem_append_left _ h1,h2⟩
       ·exact⟨es,List.mem_append_right _ (List.mem_singleton.mpr rfl),h⟩
      ·rintro⟨es',h1,h2⟩
       rcases List.mem_append.mp h1 with h1 | h1
       ·exact .inl ⟨es',h1,h2⟩
       ·rw[List.mem_singleton.mp h1] at h2;exact .inr h2
     ·rw[hf5 d,hf2 d,zaJ hes1,List.map_append,List.sum_append]
      have h01:=wd_0m hc1.cl hsum d
      have hmd:=hmL d
      simp only[List.map_cons,List.map_nil,List.sum_cons,List.sum_nil]
      by_cases z:d∈L
      ·rw[if_pos z];have:=hmd.mp z;lia
      ·rw[if_neg z];have:wd es d=0:=Classical.byContradiction fun w=>z (hmd.mpr w);lia
  ·rintro σ H2 ⟨o2,o3,o4,Cs,f,rfl,s2,e2,nd2,hm2,hf2⟩
   have hmem:∀ c,(c∈Cs∧0<f c) ↔ c∈cs:=fun c=>by
    obtain⟨m,hm⟩:=zdx cs
    have hw:=zeE hcan.nd hcan.all (m:=m) (fun c hc=>hm c (of_decide_eq_true hc)) c
    rw[zh5] at hw
    have hfc:f c=if isIn cs c=true then 1 else 0:=by
     rw[hf2 c,← hw,show us.length=ESS.length by rw[hv.1,hcan.al.length],List.take_length]
    have hi:isIn cs c=true ↔ c∈cs:=by unfold isIn;exact decide_eq_true_iff
    constructor
    ·rintro⟨_,h⟩
     by_cases z:c∈cs
     ·exact z
     ·rw[hfc,if_neg (fun w=>z (hi.mp w))] at h;lia
    ·intro z
     rw[if_pos (hi.mpr z)] at hfc
     refine⟨Classical.byContradiction fun w=>?_,by lia⟩
     have:f c=0:=by
      rw[hf2 c]
      refine zdC fun x hx=>?_
      obtain⟨es,h,rfl⟩:=List.mem_map.mp hx
      exact Classical.byContradiction fun w2=>w ((hm2 c).mpr ⟨es,h,w2⟩)
     lia
   have hbl:Cs.length≤3660:=zd4 nd2 fun d hd=>by
    obtain⟨es',h1,h2⟩:=(hm2 d).mp hd
    exact hbox es' (List.mem_of_mem_take h1) d h2
   refine⟨_,rfl,a,_,rfl,e2,fun od g hg=>?_⟩
   have s3:Same H (upd H2 a (.frz od (.dT (dep Cs f)))):=zav ha s2
   have e3:upd H2 a (.frz od (.dT (dep Cs f))) a=some (.frz od (.dT (dep Cs f))):=zaa
   generalize upd H2 a (.frz od (.dT (dep Cs f)))=H3 at s3 e3 hg
   have hga:a≠g:=fun z=>by rw[← z,e3] at hg;cases hg
   refine zjc (a:=a) (od:=od) (kvs:=dep Cs f) (fun i σ H4=>∃ o0 o1,σ=[o0,o1]∧Same H H4∧H4 a=some (.frz od (.dT (dep Cs f)))∧∃ zs,H4 g=some (.lst zs)∧VR zs ((Cs.take i).filter fun c=>decide (0<f c)) cR H4)
    ⟨_,_,rfl,s3.trans (Same.up hg),by rw[zaj hga];exact e3,[],zaa,VR.nil⟩ (fun i σ H4 _ ⟨_,_,_,_,e4,_⟩=>e4) ?_ ?_
   ·rintro i t b kk vv σ H4 hk ht hb ⟨o0,o1,rfl,s4,e4,zs,eg,hz⟩
    obtain⟨c,hc,ec⟩:∃ c,Cs[i]?=some c∧(ckey c,V.int (f c))=(kk,vv):=by unfold dep at hk;rw[List.getElem?_map] at hk;exact Option.map_eq_some_iff.mp hk
    cases ec
    have s5:Same H4 (upd H4 t (.tup [.ref b,.int (f c)])):=Same.up ht
    have et:upd H4 t (.tup [.ref b,.int (f c)]) t=some (.tup [.ref b,.int (f c)]):=zaa
    generalize upd H4 t (.tup [.ref b,.int (f c)])=H5 at s5 et
    refine⟨t,_,rfl,SqT.of et,rfl,_,_,rfl,_,_,rfl,rfl,?_⟩
    refine⟨_,rfl,_,_,rfl,rfl,_,rfl,?_⟩
    rw[zaJ hc,List.filter_append]
    have hz5:=hz.mono fun x v h=>h.same s5
    have hzl:zs.length≤3660:=by
     rw[hz.1]
     have h1:=List.length_filter_le (fun c=>decide (0<f c)) (Cs.take i)
     have h2:(Cs.take i).length≤Cs.length:=by rw[List.length_take];lia
     lia
    refine ite2 (fun hy=>?_) (fun hn=>?_)
    ·have hy':0<f c:=of_decide_eq_true hy
     have eg5:=s5 _ _ eg
     refine⟨_,rfl,zs,eg5,zc2 (by lia),_,_,rfl,zav (s3.free hg) (s4.trans s5),by rw[zaj hga];exact s5 _ _ e4,_,zaa,?_⟩
     rw[show [c].filter (fun c=>decide (0<f c))=[c] by simp[hy']]
     exact hz5.snoc (fun x v h=>h.kt (KT.lst eg5)) ⟨b,rfl,KT.lst eg5 _ _ (s5 _ _ hb)⟩
    ·have hy':¬ 0<f c:=by simpa using hn
     refine⟨_,_,rfl,s4.trans s5,s5 _ _ e4,zs,s5 _ _ eg,?_⟩
     rw[show [c].filter (fun c=>decide (0<f c))=[] by simp[hy'],List.append_nil]
     exact hz5
   ·rintro σ H4 ⟨o0,o1,rfl,s4,e4,ws,eg,hw⟩
    rw[show (dep Cs f).length=Cs.length by unfold dep;rw[List.length_map],List.take_length] at hw
    have ndR:(Cs.filter fun c=>decide (0<f c)).Nodup:=nd2.filter _
    have hRm:∀ c,c∈(Cs.filter fun c=>decide (0<f c)) ↔ c∈cs:=fun c=>by rw[List.mem_filter,← hmem c];simp
    generalize (Cs.filter fun c=>decide (0<f c))=R' at hw ndR hRm
    have ndc:cs.Nodup:=hord.imp fun {x y} h e=>by subst e;rcases h with h | h <;> lia
    have hRc:R'.Perm cs:=(List.perm_ext_iff_of_nodup ndR ndc).mpr hRm
    have ge:∀ (i:Nat) r,R'[i]?=some r→R'.getD i (0,0)=r:=fun i r h=>by simp only[List.getD_eq_getElem?_getD,h,Option.getD_some]
    refine⟨g,ws,fun i=>[.int (R'.getD i (0,0)).2,.int (R'.getD i (0,0)).1],fun i=>[(R'.getD i (0,0)).2,(R'.getD i (0,0)).1],rfl,SqL.of eg,by rw[hw.1,hRc.length_eq];lia,fun i x H7 hx s7=>?_,
     fun i j hi hj=>⟨_,_,_,_,_,_,rfl,rfl,.cons (.int _ _) .nil,rfl,rfl⟩,fun pp D H7 hpm hpo hD s7 f7=>?_⟩
    ·obtain⟨r,hr',c,rfl,hx'⟩:=hw.at hx
     refine⟨c,r.1,r.2,[],rfl,SqT.of (s7 _ _ hx'),fun p8 H8 hp8 s8 f8=>⟨s8,p8,rfl,SqT.of ?_⟩⟩
     show H8 p8=some (HO.tup [.int (R'.getD i (0,0)).2,.int (R'.getD i (0,0)).1])
     rw[ge i r hr'];exact f8
    ·have hlt : ∀ i ∈ pp, i < R'.length := fun i hi => by
      have:=List.mem_range.mp (hpm.mem_iff.mp hi)
      rw[hw.1] at this;exact this
     have hRR:(pp.map fun i=>R'.getD i (0,0)).Perm R':=by
      have h1:=hpm.map fun i=>R'.getD i ((0,0):Cell)
      rw[hw.1] at h1
      have h2:((List.range R'.length).map fun i=>R'.getD i ((0,0):Cell))=R':=by
       apply List.ext_getElem
       ·simp
       ·intro i a b
        simp[show i<R'.length by simpa using a]
      rw[h2] at h1
      exact h1
     have vR:VR (pp.map fun i=>ws.getD i V.non) (pp.map fun i=>R'.getD i (0,0)) cR H7:=by
      refine⟨by simp,fun i r v h1 h2=>?_⟩
      rw[List.getElem?_map] at h1 h2
      obtain⟨a,ha,rfl⟩:=Option.map_eq_some_iff.mp h1
      rw[ha] at h2
      cases h2
      have hal:=hlt a (List.mem_of_getElem? ha)
      have hal2:a<ws.length:=by rw[hw.1];exact hal
      have e1:R'.getD a (0,0)=R'[a]:=by simp[hal]
      have e2:ws.getD a V.non=ws[a]:=by simp[hal2]
      rw[e1]
      show cR R'[a] (ws.getD a V.non) H7
      rw[e2]
      exact (hw.2 a _ _ (List.getElem?_eq_getElem hal) (List.getElem?_eq_getElem hal2)).kt (KT.of s7)
     have hX:(pp.map fun i=>R'.getD i (0,0))=cs:=by
      refine List.Perm.eq_of_pairwise (le:=fun a b:Cell=>¬ Ahd b a) (fun a b _ _ h k=>?_) ?_ ?_ (hRR.trans hRc)
      ·obtain⟨a1,a2⟩:=a
       obtain⟨b1,b2⟩:=b
       simp only[Ahd] at h k
       have:a1=b1:=by lia
       have:a2=b2:=by lia
       simp[*]
      ·rw[List.pairwise_map]
       exact hpo.imp fun {i j} h z=>by rw[zkA] at h;exact h z
      ·exact hord.imp fun {x y} h z=>by unfold Ahd at h z;lia
     rw[hX] at vR
     exact k D H7 _ (s4.free hD) (s4.trans s7) f7 vR
end
open PySem L2 RP
theorem cpow {i j:Int}(h:0≤j∧j≤1000000∧i.natAbs<2 ^ 64):CPow i j:=h
theorem zil {b:Int}(h0:0<b) (h:b≤1000):b.natAbs.log2<9000:=by
 refine (Nat.log2_lt (by lia)).mpr (Nat.lt_of_lt_of_le (show b.natAbs<2 ^ 10 by lia) (Nat.pow_le_pow_right (by decide) (by decide)))
theorem zg7 {cs:List Cell}(h:cs.Pairwise Bfr):InOrd cs:=by
 intro i c d h1 h2
 have hi:=(List.getElem?_eq_some_iff.mp h1).1
 have hj:=(List.getElem?_eq_some_iff.mp h2).1
 have e1:=(List.getElem?_eq_some_iff.mp h1).2
 have e2:=(List.getElem?_eq_some_iff.mp h2).2
 have a:=List.pairwise_iff_getElem.mp h i (i+1) hi hj (by lia)
 rw[e1,e2] at a
 exact a
theorem zln {a b y:Int}(h:a<b):Bfr (a,y) (b,y):=by
 show HT.lexLt [y,a] [y,b]=true
 rw[HT.lexLt_cons,if_pos rfl,HT.lexLt_cons,if_neg (by lia)];exact decide_eq_true h
theorem zl3 {a b:Cell}(h:a.2<b.2):Bfr a b:=by
 show HT.lexLt [a.2,a.1] [b.2,b.1]=true
 rw[HT.lexLt_cons,if_neg (by lia)];exact decide_eq_true h
section
variable {P:Program}{w:World}{K:W.Frag}{mg:Str→Option Value}{base:Heap}
def zgZ (K:W.Frag):Sp:=fun vs H Q _=>∃ (a:Addr) (ns:List Int) (k:Nat),vs=[.ref a,.int k]∧SqL K H a (ns.map V.int)∧∀ n,Q (.int n) H
theorem zea (T:Txt P w K mg) (d:Df K mg "_law_cell_at" zaQ ["_law_script","_law_k"]):FnOk P w K mg base CX0 1 d.f d.fd ["_law_script","_law_k"] (zgZ K):=by
 refine d.F.ok zdI (fun vs H Q E h=>?_) (fun cdv A outer s H vs Q E hr h=>?_)
 ·obtain⟨a,ns,k,rfl,_⟩:=h
  rfl
 ·obtain⟨a,ns,i,rfl,hq,k⟩:=h
  refine⟨_,(zac (ps_if (zaB op_lt (pv 1) (zbb zaI (by rfl) T.nlen (by rfl) (pa_N (pv 0) zad)) (zaz _))
   (zag (zat (pe_ix zcp (pv 0) (pv 1) (fun _ _=>rfl))))
   za9)
   (zag (zat zak))),?_⟩
  refine⟨_,rfl,_,rfl,a,_,rfl,.inl hq,_,_,rfl,rfl,_,rfl,?_⟩
  refine ite2 (fun hy=>?_) (fun hn=>k 0)
  have hlt:i<ns.length:=by
   have:=of_decide_eq_true hy
   rw[List.length_map] at this
   lia
  exact⟨_,rfl,_,rfl,a,_,_,_,rfl,rfl,hq,zbm (v:=.int ns[i]) (by simp[hlt]),k _⟩
def spRow:Sp:=fun vs H Q _=>∃ (c b:Int) (m:Nat),vs=[.int c,.int m,.int b]∧m≤60∧0<b∧b≤1000∧∀ p H' (ns:List Int),H p=none→Same H H'→H' p=some (.lst (ns.map V.int))→ns.length=m→(∀ n∈ns,0≤n∧n<b)→Q (.ref p) H'
theorem zhK (T:Txt P w K mg) (d:Df K mg "_law_row" zbR ["_law_cell","_law_many","_law_base"]):FnOk P w K mg base CX0 1 d.f d.fd ["_law_cell","_law_many","_law_base"] spRow:=by
 refine d.F.ok zbs (fun vs H Q E h=>?_) (fun cdv A outer s H vs Q E hr h=>?_)
 ·obtain⟨c,b,m,rfl,_⟩:=h
  rfl
 ·obtain⟨c,b,m,rfl,hm,hb,hb2,k⟩:=h
  refine⟨_,(zac (zaq (i:=3) zbs.nd (by rfl) (Or.inl rfl) (zcj zad))
   (zac (zaq (i:=4) zbs.nd (by rfl) (Or.inl rfl) (pe_op zdj (pv 0) (pe_op ziK zak zak)))
   (zac (zaq (i:=5) zbs.nd (by rfl) (Or.inl rfl) (pe_op zbM (pv 0) zak))
   (zac (zbX PassesOwn.never rfl (zc3 (by rfl) T.nrange (pa_N (pv 1) zad)) (zaf (i:=6) zbs.nd (by rfl) (Or.inl rfl))
   (zag (ps_if (zaB op_ge (pv 0) (pe_op ziK zak zak) (zaz _))
   (zac (zbv (pe_bm PySem.F.plainAttrs_list PySem.F.slot_list_append PySem.F.type_list_append zbk (pv 3) (pa_B (pe_op zbM (pv 4) (pv 2)) zad)))
   (zag (zaq (i:=4) zbs.nd (by rfl) (Or.inl rfl) (pe_op zjW (pv 4) (pv 2)))))
   (zac (zaq (i:=5) zbs.nd (by rfl) (Or.inl rfl) (pe_op zbM (pe_op zbI (pe_op zbI (pe_op zc4 (pv 5) zak) (pe_op zc4 (pe_op zc4 (pv 6) (pv 6)) zak)) zak) zak))
   (zag (zbv (pe_bm PySem.F.plainAttrs_list PySem.F.slot_list_append PySem.F.type_list_append zbk (pv 3) (pa_B (pe_op zbM (pe_op zgz (pe_op zbM (pe_op zc4 (pv 5) (pv 5)) zak) zak) (pv 2)) zad))))))))
   (zag (zat (pv 3))))))),?_⟩
  have hmod:∀ z:Int,0≤z % b∧z % b<b:=fun z=>⟨Int.emod_nonneg _ (by lia),Int.emod_lt_of_pos _ hb⟩
  have hnum:∀ z:Int,0≤z % 2147483629∧z % 2147483629<2147483629:=fun z=>⟨Int.emod_nonneg _ (by decide),Int.emod_lt_of_pos _ (by decide)⟩
  refine⟨(by show 0≤sizeLine;decide),fun p hp=>?_⟩
  have s1:Same H (upd H p (.lst [])):=Same.up hp
  have e1:upd H p (.lst []) p=some (.lst []):=zaa
  generalize upd H p (.lst [])=H1 at s1 e1
  refine⟨_,rfl,_,_,rfl,rfl,(by refine cpow ?_;decide),_,_,rfl,rfl,?_⟩
  refine⟨_,rfl,_,_,rfl,rfl,(by show (0:Int)<2147483629;decide),?_⟩
  refine⟨_,rfl,_,rfl,(by lia),(by lia),?_⟩
  refine zck (lo:=0) (n:=m) (fun i σ H2=>∃ (l q:Int) (o:Option V) (ns:List Int),σ=[some (.int c),some (.int m),some (.int b),some (.ref p),some (.int l),some (.int q),o]∧0≤q∧q<2147483629∧Same H H2∧H2 p=some (.lst (ns.map V.int))∧ns.length=i∧∀ n∈ns,0≤n∧n<b)
   ⟨_,_,_,[],rfl,(hnum c).1,(hnum c).2,s1,e1,rfl,by simp⟩ ?_ ?_
  ·rintro i σ H2 hi ⟨l,q,o,ns,rfl,q0,q1,s2,e2,hl,hall⟩
   have snoc:∀ z:Int,0≤z→z<b→(ns++[z]).length=i+1∧∀ n∈ns++[z],0≤n∧n<b:=fun z z0 z1=>⟨by rw[List.length_append,hl];rfl,fun n hn=>by
    rcases List.mem_append.mp hn with h | h
    ·exact hall n h
    ·rw[List.mem_singleton.mp h];exact⟨z0,z1⟩⟩
   refine⟨_,rfl,_,_,rfl,rfl,(by refine cpow ?_;decide),_,_,rfl,rfl,_,rfl,?_⟩
   refine ite2 (fun _=>?_) (fun _=>?_)
   ·refine⟨_,rfl,.inl ⟨rfl,_,SqL.of e2⟩,_,rfl,_,rfl,_,_,rfl,rfl,hb,p,_,_,rfl,rfl,e2,zap (by rw[List.length_map];lia),?_⟩
    refine⟨_,rfl,_,rfl,_,_,rfl,rfl,⟨hb,zil hb hb2⟩,?_⟩
    obtain⟨z1,z2⟩:=snoc (l % b) (hmod l).1 (hmod l).2
    exact⟨_,q,_,ns++[l % b],rfl,q0,q1,zav hp s2,by rw[zaa,List.map_append];rfl,z1,z2⟩
   ·refine⟨_,rfl,_,_,rfl,rfl,.inr ⟨by decide,by decide⟩,_,rfl,_,rfl,_,_,rfl,rfl,.inl ⟨by lia,by lia⟩,_,_,rfl,rfl,.inr ⟨by decide,by decide⟩,_,_,rfl,rfl,_,_,rfl,rfl,_,_,rfl,rfl,(by show (0:Int)<2147483629;decide),?_⟩
    obtain⟨n0,n1⟩:=hnum (q*48271+(0+(i:Int))*(0+(i:Int))*69621+11)
    refine⟨_,rfl,.inl ⟨rfl,_,SqL.of e2⟩,_,rfl,_,rfl,_,_,rfl,rfl,.inl ⟨by lia,by lia⟩,_,_,rfl,rfl,(by show (0:Int)<2147483647;decide),_,_,rfl,rfl,⟨by decide,by decide⟩,_,rfl,_,_,rfl,rfl,hb,p,_,_,rfl,rfl,e2,zap (by rw[List.length_map];lia),?_⟩
    obtain⟨z1,z2⟩:=snoc (((q*48271+(0+(i:Int))*(0+(i:Int))*69621+11) % 2147483629)*((q*48271+(0+(i:Int))*(0+(i:Int))*69621+11) % 2147483629) % 2147483647 / 64 % b) (hmod _).1 (hmod _).2
    exact⟨l,((q*48271+(0+(i:Int))*(0+(i:Int))*69621+11) % 2147483629),_,ns++[((q*48271+(0+(i:Int))*(0+(i:Int))*69621+11) % 2147483629)*((q*48271+(0+(i:Int))*(0+(i:Int))*69621+11) % 2147483629) % 2147483647 / 64 % b],rfl,n0,n1,zav hp s2,by rw[zaa,List.map_append];rfl,z1,z2⟩
  ·rintro σ H2 ⟨l,q,o,ns,rfl,q0,q1,s2,e2,hl,hall⟩
   exact⟨_,rfl,k p H2 ns hp s2 e2 hl hall⟩
end
open PySem L2 RP
def rowX (ns:List Int) (sh dx y:Int) (n:Nat):List Cell:=((List.range n).filter fun x=>decide (ns.getD x 0≤sh)).map fun x:Nat=>((x:Int)+dx,y)
theorem zit (ns:List Int) (sh dx y:Int) (n:Nat):rowX ns sh dx y (n+1)=rowX ns sh dx y n++(if ns.getD n 0≤sh then [((n:Int)+dx,y)] else []):=by
 unfold rowX
 rw[List.range_succ,List.filter_append,List.map_append]
 congr 1
 by_cases h:ns.getD n 0≤sh
 ·rw[if_pos h]
  have e:(List.filter (fun x=>decide (ns.getD x 0≤sh)) [n])=[n]:=by
   show (match decide (ns.getD n 0≤sh) with | true=>[n] | false=>[])=[n]
   rw[decide_eq_true h]
  rw[e];rfl
 ·rw[if_neg h]
  have e:(List.filter (fun x=>decide (ns.getD x 0≤sh)) [n])=[]:=by
   show (match decide (ns.getD n 0≤sh) with | true=>[n] | false=>[])=[]
   rw[decide_eq_false h]
  rw[e];rfl
theorem zdK (ns:List Int) (sh dx y:Int) (n:Nat):(rowX ns sh dx y n).length≤n:=by
 unfold rowX
 rw[List.length_map]
 refine Nat.le_trans (List.length_filter_le _ _) ?_
 rw[List.length_range];exact Nat.le_refl _
theorem zkV (ns:List Int) (sh dx y:Int) (n:Nat):(rowX ns sh dx y n).Pairwise Bfr:=by
 unfold rowX
 rw[List.pairwise_map]
 refine (List.pairwise_lt_range.filter _).imp fun {a b} h=>zln (by lia)
theorem zkt {ns:List Int}{sh dx y:Int}{n:Nat}{c:Cell}(h:c∈rowX ns sh dx y n):c.2=y:=by
 obtain⟨x,_,rfl⟩:=List.mem_map.mp h
 rfl
theorem zlH {ns:List Int}{sh dx y:Int}{n:Nat}{c:Cell}(h:c∈rowX ns sh dx y n):dx≤c.1∧c.1<dx+n:=by
 obtain⟨x,hx,rfl⟩:=List.mem_map.mp h
 have:=List.mem_range.mp (List.mem_filter.mp hx).1
 show dx≤(x:Int)+dx∧(x:Int)+dx<dx+n
 lia
section
variable {P:Program}{w:World}{K:W.Frag}{mg:Str→Option Value}{base:Heap}
def zko (K:W.Frag):Sp:=fun vs H Q _=>∃ (a:Addr) (ns:List Int) (st:Nat),vs=[.ref a,.int st]∧SqL K H a (ns.map V.int)∧∀ p H' vs cs,H p=none→Same H H'→H' p=some (.lst vs)→VR vs cs cR H'→cs.Pairwise Bfr→cs.length≤120→(∃ l lo:Int,∀ c∈cs,l≤c.1∧c.1<l+60∧lo≤c.2∧c.2<lo+60)→Q (.ref p) H'
theorem six {α:Type}{l:List α}(h:l.length=6):∃ a b c d e f,l=[a,b,c,d,e,f]:=by
 match l,h with
 | [a,b,c,d,e,f],_=>exact⟨a,b,c,d,e,f,rfl⟩
theorem zd9 (T : Txt P w K mg) (g__law_cell_at : Fn P w K mg base 1 "_law_cell_at" ["_law_script", "_law_k"] (zgZ K)) (g__law_row : Fn P w K mg base 1 "_law_row" ["_law_cell", "_law_many", "_law_base"] spRow)
    (d:Df K mg "_law_picture" zaG ["_law_script","_law_start"]):FnOk P w K mg base CX0 2 d.f d.fd ["_law_script","_law_start"] (zko K):=by
  refine d.F.ok zau (fun vs H Q E h=>?_) (fun cdv A outer s H vs Q E hr h=>?_)
  · obtain⟨a,ns,st,rfl,_⟩:=h
    rfl
  · obtain⟨a,ns,st,rfl,hS,k⟩:=h
    have nb0:(["_law_x","_law_y","_law_far","_law_row_here","_law_share","_law_left","_law_low"]:List Str).Nodup:=by decide +kernel
    refine⟨_,(zac (zct (zah g__law_row.ok (hr.mono (by decide)) (by rfl) g__law_row.m g__law_row.kp g__law_row.b .nil pass0 (zam (zah g__law_cell_at.ok (hr.mono (by decide)) (by rfl) g__law_cell_at.m g__law_cell_at.kp g__law_cell_at.b .nil pass0 (pa_N (pv 0) (pa_N (pv 1) zad))) (pa_C zak (pa_C zak zad)))) (zlL (by rfl) (zae (zaf (i:=2) zau.nd (by rfl) (Or.inl rfl)) (zae (zaf (i:=3) zau.nd (by rfl) (Or.inl rfl)) (zae (zaf (i:=4) zau.nd (by rfl) (Or.inr rfl)) (zae (zaf (i:=5) zau.nd (by rfl) (Or.inr rfl)) (zae (zaf (i:=6) zau.nd (by rfl) (Or.inr rfl)) (zae (zaf (i:=7) zau.nd (by rfl) (Or.inl rfl)) zay))))))))
      (zac (zaq (i:=8) zau.nd (by rfl) (Or.inr rfl) (pe_ix zcp (zcj (pa_C zak (pa_B (pe_op ziK zak zak) zad))) (pe_op zgz (pv 7) zak) (fun _ _=>rfl)))
      (zac (zaq (i:=9) zau.nd (by rfl) (Or.inl rfl) (zcj zad))
      (zac (zbX PassesOwn.never rfl (zc3 (by rfl) T.nrange (pa_B (pe_op zbI zak (pe_op zbM (pv 3) zak)) zad)) (zaf (i:=10) zau.nd (by rfl) (Or.inr rfl))
      (zac (zaq (i:=11) zau.nd (by rfl) (Or.inr rfl) (zah g__law_row.ok (hr.mono (by decide)) (by rfl) g__law_row.m g__law_row.kp g__law_row.b .nil pass0 (pa_B (pe_op zbI (zah g__law_cell_at.ok (hr.mono (by decide)) (by rfl) g__law_cell_at.m g__law_cell_at.kp g__law_cell_at.b .nil pass0 (pa_N (pv 0) (pa_B (pe_op zbI (pe_op zbI (pv 1) zak) (pv 10)) zad))) (pv 10)) (pa_B (pe_op zbI zak (pe_op zbM (pv 2) zak)) (pa_C zak zad)))))
      (zag (zbv (pe_bm PySem.F.plainAttrs_list PySem.F.slot_list_extend PySem.F.type_list_extend zdT (pv 9) (zam (zbT (osc:=zab zaG) (N:=zcL) (N':=["_law_x","_law_y","_law_far","_law_row_here","_law_share","_law_left","_law_low"]) (sel:=[none,some 10,some 8,some 11,some 4,some 5,some 6]) ⟨rfl,by decide +kernel,by decide +kernel,by decide +kernel,rfl,by decide +kernel⟩ (zc3 (by rfl) T.nrange (zam (zbb zaI (by rfl) T.nlen (by rfl) (pa_N (pv 11) zad)) zad)) (fun _ _ _ _ _=>(zaf (i:=0) nb0 (by rfl) (Or.inl rfl))) (fun _ _ _ _ _=>zcN (zaB op_le (pe_ix (zj1 (K:=K)) (pv 3) (pv 0) (fun _ _=>rfl)) (pe_op zbM (pv 4) zak) (zaz _))) (fun _ _ _ _ _=>(zbj (pa_B (pe_op zbI (pv 0) (pe_op zc4 (pe_op zdj (pv 5) zak) (pv 2))) (pa_B (pe_op zbI (pv 1) (pe_op zc4 (pe_op zdj (pv 6) zak) (pv 2))) zad))))) zad))))))
      (zag (zat (pv 9))))))),?_⟩
    refine⟨_,rfl,_,rfl,a,ns,st,rfl,hS,fun c0=>⟨c0,60,6,rfl,by decide,by decide,by decide,fun p1 H1 ms hp1 s1 e1 hl1 hb1=>?_⟩⟩
    obtain⟨wd,hg,sh,lf,lw,wy,rfl⟩:=six hl1
    have bw:=hb1 wd (by simp)
    have bh:=hb1 hg (by simp)
    have bl:=hb1 lf (by simp)
    have bo:=hb1 lw (by simp)
    have by':=hb1 wy (by simp)
    refine⟨p1,_,rfl,SqL.of e1,rfl,_,_,rfl,_,_,rfl,_,_,rfl,_,_,rfl,_,_,rfl,_,_,rfl,rfl,?_⟩
    refine⟨_,_,rfl,rfl,(by refine cpow ?_;decide),two,fun l2 hl2=>?_⟩
    have s2:Same H1 (upd H1 l2 (.lst [.int 1,.int (10 ^ (28:Int).toNat)])):=Same.up hl2
    have e2:upd H1 l2 (.lst [.int 1,.int (10 ^ (28:Int).toNat)]) l2=some (.lst [.int 1,.int (10 ^ (28:Int).toNat)]):=zaa
    generalize upd H1 l2 (.lst [.int 1,.int (10 ^ (28:Int).toNat)])=H2 at s2 e2
    obtain⟨far,hfar⟩:∃ far:Int,atI [V.int 1,V.int (10 ^ (28:Int).toNat)] (wy / 50)=some (.int far):=by
      have:wy / 50=0∨wy / 50=1:=by lia
      rcases this with z | z <;> rw[z]
      · exact⟨_,rfl⟩
      · exact⟨_,rfl⟩
    refine⟨_,rfl,_,_,rfl,rfl,⟨by decide,by decide⟩,l2,_,_,_,rfl,rfl,SqL.of e2,hfar,?_⟩
    refine⟨(by show 0≤sizeLine;decide),fun f hf=>?_⟩
    have s3:Same H2 (upd H2 f (.lst [])):=Same.up hf
    have e3:upd H2 f (.lst []) f=some (.lst []):=zaa
    generalize upd H2 f (.lst [])=H3 at s3 e3
    have s02:=s1.trans s2
    have hf0:H f=none:=s02.free hf
    have s03:=s02.trans s3
    have hh0:=Int.emod_nonneg hg (show (10:Int)≠0 by decide)
    have hh1:=Int.emod_lt_of_pos hg (show (0:Int)<10 by decide)
    have hw0:=Int.emod_nonneg wd (show (12:Int)≠0 by decide)
    have hw1:=Int.emod_lt_of_pos wd (show (0:Int)<12 by decide)
    refine⟨_,rfl,_,_,rfl,rfl,(by show (0:Int)<10;decide),_,_,rfl,rfl,_,rfl,(by show -(2 ^ 62)≤1+hg % 10;lia),(by show 1+hg % 10<2 ^ 62;lia),?_⟩
    refine zck (lo := 0) (n := (1 + hg % 10).toNat) (fun i σ H4 => ∃ o10 o11, σ = [some (.ref a), some (.int st), some (.int wd), some (.int hg), some (.int sh), some (.int lf), some (.int lw), some (.int wy), some (.int far), some (.ref f), o10, o11] ∧ Same H H4 ∧
        ∃ vs cs,H4 f=some (.lst vs)∧VR vs cs cR H4∧cs.Pairwise Bfr∧(∀ c∈cs,c.2<(i:Int)+(lw - 30)*far∧(lw - 30)*far≤c.2∧(lf - 30)*far≤c.1∧c.1<(lf - 30)*far+12)∧cs.length≤12*i)
      ⟨_,_,rfl,s03,[],[],e3,VR.nil,.nil,by simp,Nat.zero_le _⟩ ?_ ?_
    · rintro i σ H4 hi ⟨o10,o11,rfl,s4,vs,cs,e4,hv4,hpw,hup,hcl⟩
      have hi10:i<10:=by lia
      refine⟨_,rfl,_,rfl,_,_,rfl,rfl,_,rfl,_,_,rfl,rfl,a,ns,st+1+i,(by rw[Int.zero_add];rfl),s4.seq hS,fun c1=>⟨_,rfl,_,_,rfl,rfl,?_⟩⟩
      refine⟨_,rfl,_,_,rfl,rfl,(by show (0:Int)<12;decide),_,_,rfl,rfl,_,4,(1+wd % 12).toNat,(by rw[Int.toNat_of_nonneg (by lia)];rfl),by lia,by decide,by decide,fun p5 H5 rs hp5 s5 e5 hl5 _=>?_⟩
      have e45:=s5 _ _ e4
      refine⟨_,rfl,.inl ⟨rfl,_,SqL.of e45⟩,_,rfl,p5,_,rfl,.inl (SqL.of e5),_,rfl,(by rw[List.length_map];lia),(by rw[List.length_map];lia),fun g hg5=>?_⟩
      rw[show ((((rs.map V.int).length:Nat):Int)).toNat=rs.length by rw[List.length_map];rfl]
      have hrl:rs.length≤12:=by lia
      refine zck (lo:=0) (n:=rs.length) (fun j σ H6=>∃ o0,σ=[o0,some (.int (0+(i:Int))),some (.int far),some (.ref p5),some (.int sh),some (.int lf),some (.int lw)]∧Same H5 H6∧∃ zs,H6 g=some (.lst zs)∧VR zs (rowX rs (sh % 3) ((lf - 30)*far) ((i:Int)+(lw - 30)*far) j) cR H6)
        ⟨_,rfl,Same.up hg5,[],zaa,VR.nil⟩ ?_ ?_
      · rintro j σ H6 hj ⟨o0,rfl,s6,zs,e6,hz6⟩
        have hzl:zs.length≤12:=by rw[hz6.1];have:=zdK rs (sh % 3) ((lf - 30)*far) ((i:Int)+(lw - 30)*far) j;lia
        have hget:(rs.map V.int)[j]?=some (.int (rs.getD j 0)):=by
          rw[List.getElem?_map,List.getD_eq_getElem?_getD,List.getElem?_eq_getElem hj];rfl
        refine⟨_,rfl,_,rfl,p5,_,_,_,rfl,rfl,SqL.of (s6 _ _ e5),(by rw[Int.zero_add];exact zbm hget),_,rfl,_,_,rfl,rfl,(by show (0:Int)<3;decide),_,_,rfl,rfl,_,rfl,?_⟩
        rw[zit]
        refine ite2 (fun hy=>?_) (fun hn=>?_)
        · rw[if_pos (of_decide_eq_true hy)]
          refine⟨_,rfl,_,rfl,_,_,rfl,rfl,_,rfl,_,_,rfl,rfl,.inl ⟨by lia,by lia⟩,_,_,rfl,rfl,?_⟩
          refine⟨_,rfl,_,rfl,_,_,rfl,rfl,_,rfl,_,_,rfl,rfl,.inl ⟨by lia,by lia⟩,_,_,rfl,rfl,two,fun t ht=>?_⟩
          have s7:Same H6 (upd H6 t (.tup [.int (0+(j:Int)+(lf - 30)*far),.int (0+(i:Int)+(lw - 30)*far)])):=Same.up ht
          have r7:cR ((j:Int)+(lf - 30)*far,(i:Int)+(lw - 30)*far) (.ref t) (upd H6 t (.tup [.int (0+(j:Int)+(lf - 30)*far),.int (0+(i:Int)+(lw - 30)*far)])):=⟨t,rfl,by rw[zaa,Int.zero_add,Int.zero_add];rfl⟩
          generalize upd H6 t (.tup [.int (0+(j:Int)+(lf - 30)*far),.int (0+(i:Int)+(lw - 30)*far)])=H7 at s7 r7
          have e7:=s7 _ _ e6
          refine⟨zs,e7,zap (by lia),_,rfl,zav hg5 (s6.trans s7),_,zaa,?_⟩
          exact hz6.snoc (fun x v h=>(h.kt (KT.of s7)).kt (KT.lst e7)) (r7.kt (KT.lst e7))
        · rw[if_neg (by simpa using hn)]
          exact⟨_,rfl,s6,zs,e6,by rw[List.append_nil];exact hz6⟩
      · rintro σ H6 ⟨o0,rfl,s6,zs,e6,hz6⟩
        have hrx:=zdK rs (sh % 3) ((lf - 30)*far) ((i:Int)+(lw - 30)*far) rs.length
        have hzl:zs.length≤12:=by rw[hz6.1];lia
        have hvl:vs.length≤120:=by rw[hv4.1];lia
        have e46:=s6 _ _ e45
        refine⟨f,g,_,_,rfl,rfl,e46,e6,Nat.le_of_lt (zap (by lia)),?_⟩
        have k7:KT H6 (upd H6 f (.lst (vs++zs))):=KT.lst e46
        refine⟨_,_,rfl,zav hf0 (s4.trans (s5.trans s6)),_,_,zaa,(hv4.mono fun x v h=>(h.kt (KT.of (s5.trans s6))).kt k7).app (hz6.mono fun x v h=>h.kt k7),?_,?_,?_⟩
        · refine List.pairwise_append.mpr ⟨hpw,zkV _ _ _ _ _,fun x hx y hy=>zl3 ?_⟩
          have:=(hup x hx).1
          rw[zkt hy];exact this
        · intro c hc
          rcases List.mem_append.mp hc with h | h
          · have:=hup c h;lia
          · have e1:=zkt h
            have e2:=zlH h
            lia
        · rw[List.length_append];lia
    · rintro σ H4 ⟨o10,o11,rfl,s4,vs,cs,e4,hv4,hpw,hup,hcl⟩
      exact⟨_,rfl,k f H4 vs cs hf0 s4 e4 hv4 hpw (by lia) ⟨(lf - 30)*far,(lw - 30)*far,fun c hc=>by have:=hup c hc;lia⟩⟩
end
open PySem L2 RP
section
variable {P:Program}{w:World}{K:W.Frag}{mg:Str→Option Value}{base:Heap}
theorem zgK {a b:Cell}:Bfr a b ↔ Ahd a b:=by
 have h:=zkA (a:=a.2) (b:=a.1) (c:=b.2) (d:=b.1)
 unfold Bfr Ahd
 cases e:HT.lexLt [a.2,a.1] [b.2,b.1] with
 | false=>simp only[Bool.false_eq_true,false_iff];exact h.mp e
 | true =>
  simp only[true_iff]
  exact Classical.byContradiction fun z=>by rw[h.mpr z] at e;cases e
theorem ziX {α:Type}:∀ {L:List (List α)},(∀ l∈L,0<l.length)→L.length≤L.flatten.length
 | [],_=>Nat.le_refl _
 | a::r,h=>by
  have h1:=h a List.mem_cons_self
  have h2:=ziX fun l hl=>h l (List.mem_cons_of_mem _ hl)
  rw[List.flatten_cons,List.length_append,List.length_cons]
  lia
def zgY (K:W.Frag):Sp:=fun vs H Q _=>∃ (p q:Addr) (us ws:List V) (R:List Rnd),vs=[.ref p,.ref q]∧H p=some (.lst us)∧H q=some (.lst ws)∧VR us R rR H∧VR ws R rR H∧R.length≤480∧(∀ r∈R,SoOk r)∧∀ H',Same H H'→Q .non H'
def zif (K:W.Frag):Sp:=fun vs H Q _=>∃ (p:Addr) (us:List V) (R R0:List Rnd) (cs:List Cell),vs=[.ref p]∧H p=some (.lst us)∧VR us R rR H∧R.Perm R0∧InKey R∧Whole cs R0∧cs.Pairwise Bfr∧cs.length≤120 ∧
 (∃ l lo:Int,∀ c∈cs,l≤c.1∧c.1<l+60∧lo≤c.2∧c.2<lo+60)∧∀ g H' zs,H g=none→Same H H'→H' g=some (.lst zs)→VR zs cs cR H'→Q (.ref g) H'
theorem ze2 (g_cells_told:Fn P w K mg base 8 "cells_told" ["some"] (zkl K)) (g_first_unlike:Fn P w K mg base 2 "first_unlike" ["some","others"] (zgY K)) (g_rounds:Fn P w K mg base 7 "rounds" ["picture"] (zeM K)) (d:Df K mg "picture_of" zbe ["some"]):FnOk P w K mg base CX0 9 d.f d.fd ["some"] (zif K):=by
 refine d.F.ok zcl (fun vs H Q E h=>?_) (fun cdv A outer s H vs Q E hr h=>?_)
 ·obtain⟨p,us,R,R0,cs,rfl,_⟩:=h
  rfl
 ·obtain⟨p,us,R,R0,cs,rfl,hp,hv,hpm,hin,hwh,hbf,hcl,⟨l,lo,hB⟩,k⟩:=h
  refine⟨_,(zac (zaq (i:=1) zcl.nd (by rfl) (Or.inl rfl) (zah g_cells_told.ok (hr.mono (by decide)) (by rfl) g_cells_told.m g_cells_told.kp g_cells_told.b .nil pass0 (pa_N (pv 0) zad)))
   (zac (zaq (i:=2) zcl.nd (by rfl) (Or.inl rfl) (zah g_first_unlike.ok (hr.mono (by decide)) (by rfl) g_first_unlike.m g_first_unlike.kp g_first_unlike.b .nil pass0 (pa_N (pv 0) (zam (zah g_rounds.ok (hr.mono (by decide)) (by rfl) g_rounds.m g_rounds.kp g_rounds.b .nil pass0 (pa_N (pv 1) zad)) zad))))
   (zac (ps_if (zaB zdM (pv 2) zci (zaz _))
   (zag zdy)
   za9)
   (zag (zat (pv 1)))))),?_⟩
  obtain⟨ESS,hcan⟩:=Whole.cans hpm hwh
  have hE:∀ es∈ESS,∀ e∈es,IsE (isIn cs) e:=fun es hes e he=>(hcan.all e).mp (List.mem_flatten.mpr ⟨es,hes,he⟩)
  have hshort:∀ es∈ESS,es.length≤480:=fun es hes=>by
   obtain⟨j,hj,ej⟩:=List.getElem_of_mem hes
   have hjR:j<R.length:=by rw[hcan.al.length];exact hj
   have:=(hcan.al.at (i:=j) (b:=es) (by rw[List.getElem?_eq_getElem hj,ej]) (List.getElem?_eq_getElem hjR)).cl.1.short
   lia
  refine⟨_,rfl,p,us,R,ESS,cs,rfl,hp,hv,hcan,hshort,⟨l,lo,fun es hes e he=>hB e.c (of_decide_eq_true (hE es hes e he).2.1)⟩,hbf.imp fun h=>zgK.mp h,hcl,fun g H1 zs hg s1 e1 hz1=>?_⟩
  refine⟨_,rfl,_,rfl,g,cs,rfl,LR.of e1 hz1,zg7 hbf,hcl,fun q H2 ws S S0 hq s2 e2 hw2 hpS hkS hwS=>?_⟩
  have hS:S=R:=Whole.one hpS hpm hkS hin hwS hwh
  subst hS
  have hRl:S.length≤480:=by
   have h1:=hcan.al.length
   have h2:ESS.length≤ESS.flatten.length:=ziX fun es hes=>by
    obtain⟨j,hj,ej⟩:=List.getElem_of_mem hes
    have hjR:j<S.length:=by rw[hcan.al.length];exact hj
    exact (hcan.al.at (i:=j) (b:=es) (by rw[List.getElem?_eq_getElem hj,ej]) (List.getElem?_eq_getElem hjR)).cl.pos
   have h3:ESS.flatten.length≤(sides cs).length:=zaA hcan.nd fun e he=>zcx.mpr ⟨of_decide_eq_true ((hcan.all e).mp he).2.1,((hcan.all e).mp he).1⟩
   rw[zby] at h3
   lia
  refine⟨p,q,us,ws,S,rfl,s2 _ _ (s1 _ _ hp),e2,hv.mono fun x v h=>h.kt (KT.of (s1.trans s2)),hw2,hRl,fun r h=>hwh.so r (hpm.mem_iff.mp h),fun H3 s3=>?_⟩
  refine⟨_,rfl,rfl,_,rfl,iteF ?_⟩
  exact⟨_,rfl,k g H3 zs hg ((s1.trans s2).trans s3) (s3 _ _ (s2 _ _ e1)) (hz1.mono fun x v h=>h.kt (KT.of (s2.trans s3)))⟩
end
open PySem L2 RP
section
variable {P:Program}{w:World}{K:W.Frag}{mg:Str→Option Value}{base:Heap}
theorem zdP (T:Txt P w K mg) (d:Df K mg "first_unlike" zaP ["some","others"]):FnOk P w K mg base CX0 2 d.f d.fd ["some","others"] (zgY K):=by
 refine d.F.ok zbF (fun vs H Q E h=>?_) (fun cdv A outer s H vs Q E hr h=>?_)
 ·obtain⟨p,q,us,ws,R,rfl,_⟩:=h
  rfl
 ·obtain⟨p,q,us,ws,R,rfl,hp,hq,hu,hw,hl,hsk,k⟩:=h
  have hu64:=hr.units
  refine⟨_,(zac (zbX PassesOwn.never rfl (zhF (by rfl) T.nenumerate (by rfl) T.nzip (pa_N (pv 0) (pa_N (pv 1) zad))) (zbL (by rfl) (zae (zaf (i:=2) zbF.nd (by rfl) (Or.inl rfl)) (zae (zbL (by rfl) (zae (zaf (i:=3) zbF.nd (by rfl) (Or.inl rfl)) (zae (zaf (i:=4) zbF.nd (by rfl) (Or.inl rfl)) zay))) zay)))
   (zag (ps_if (zaB (zex hu64) (pv 3) (pv 4) (zaz _))
   (zag (zat (pv 2)))
   za9)))
   (zac (ps_if (zaB op_ne (zbb zaI (by rfl) T.nlen (by rfl) (pa_N (pv 0) zad)) (zbb zaI (by rfl) T.nlen (by rfl) (pa_N (pv 1) zad)) (zaz _))
   (zag (zat (zbb (zjt rfl) (by rfl) T.nmin (by rfl) (zam (zbb zaI (by rfl) T.nlen (by rfl) (pa_N (pv 0) zad)) (zam (zbb zaI (by rfl) T.nlen (by rfl) (pa_N (pv 1) zad)) zad)))))
   za9)
   (zag (zat zci)))),?_⟩
  refine⟨_,rfl,_,rfl,p,q,rfl,⟨_,SqL.of hp⟩,⟨_,SqL.of hq⟩,?_⟩
  have hlen:us.length=ws.length:=by rw[hu.1,hw.1]
  refine zgH (K:=K) (a:=p) (b:=q) (xs:=us) (ys:=ws) hlen (fun j σ H2=>∃ o2 o3 o4,σ=[some (.ref p),some (.ref q),o2,o3,o4]∧Same H H2)
   ⟨_,_,_,rfl,Same.refl _⟩ (fun j σ H2 _ ⟨_,_,_,_,s2⟩=>⟨SqL.of (s2 _ _ hp),SqL.of (s2 _ _ hq)⟩) ?_ ?_
  ·rintro j x y σ H2 o t hx hy ⟨o2,o3,o4,rfl,s2⟩ ht ho hne
   obtain⟨r,hr1,hxr⟩:=hu.at hx
   obtain⟨r',hr2,hyr⟩:=hw.at hy
   rw[hr1] at hr2
   cases hr2
   have s3:Same H2 (upd (upd H2 t (.tup [x,y])) o (.tup [.int j,.ref t])):=(Same.up ht).trans (Same.up (by rw[zaj hne.symm];exact ho))
   have eo:upd (upd H2 t (.tup [x,y])) o (.tup [.int j,.ref t]) o=some (.tup [.int j,.ref t]):=zaa
   have et:upd (upd H2 t (.tup [x,y])) o (.tup [.int j,.ref t]) t=some (.tup [x,y]):=by rw[zaj hne];exact zaa
   generalize upd (upd H2 t (.tup [x,y])) o (.tup [.int j,.ref t])=H3 at s3 eo et
   refine⟨o,_,rfl,SqT.of eo,rfl,_,_,rfl,_,_,rfl,⟨t,_,rfl,SqT.of et,rfl,_,_,rfl,_,_,rfl,rfl,?_⟩⟩
   have s13:=s2.trans s3
   have hm:=List.mem_of_getElem? hr1
   refine⟨rfl,_,rfl,_,rfl,dR r,dR r,zeV (rR.kt hxr (KT.of s13)),zeV (rR.kt hyr (KT.of s13)),zfD (hsk r hm),zfD (hsk r hm),_,rfl,iteN (by rw[zkC];simp) ?_⟩
   exact⟨_,_,_,rfl,s13⟩
  ·rintro σ H2 ⟨o2,o3,o4,rfl,s2⟩
   refine⟨_,rfl,p,us,rfl,.inl (SqL.of (s2 _ _ hp)),_,rfl,q,ws,rfl,.inl (SqL.of (s2 _ _ hq)),rfl,_,rfl,iteN (by rw[hlen];simp) ?_⟩
   exact k H2 s2
end
open PySem L2 RP
theorem Al.get {α β:Type}{P Q:α→β→Prop}{l:List α}{m m':List β}(h:Al P l m) (k:Al Q l m') (e:∀ a b c,P a b→Q a c→b=c):m=m':=by
 have l1:=h.length
 have l2:=k.length
 refine List.ext_getElem? fun i=>?_
 by_cases hi:i<m.length
 ·have h1:m[i]?=some m[i]:=List.getElem?_eq_getElem hi
  have h2:m'[i]?=some (m'[i]'(by lia)):=List.getElem?_eq_getElem (by lia)
  have h3:l[i]?=some (l[i]'(by lia)):=List.getElem?_eq_getElem (by lia)
  rw[h1,h2,e _ _ _ (h.at h1 h3) (k.at h2 h3)]
 ·rw[List.getElem?_eq_none (by lia),List.getElem?_eq_none (by lia)]
theorem Cans.cells {cs ds:List Cell}{ESS FSS:List (List Edge)}{R:List Rnd}(h:Cans (isIn cs) ESS R) (k:Cans (isIn ds) FSS R) (c:Cell):c∈cs ↔ c∈ds:=by
 have e:ESS=FSS:=h.al.get k.al fun r es fs a b=>a.cl.one b.cl (by rw[← a.row,← b.row])
 subst e
 obtain⟨m,hm⟩:=zdx cs
 obtain⟨n,hn⟩:=zdx ds
 have h1:=zeE h.nd h.all (m:=m) (fun c hc=>hm c (of_decide_eq_true hc)) c
 have h2:=zeE k.nd k.all (m:=n) (fun c hc=>hn c (of_decide_eq_true hc)) c
 rw[h1] at h2
 unfold isIn at h2
 by_cases z:c∈cs <;> by_cases y:c∈ds <;> simp[z,y] at h2 ⊢
theorem zlp {cs ds:List Cell}(h:cs.Pairwise Bfr) (k:ds.Pairwise Bfr) (e:∀ c,c∈cs ↔ c∈ds):cs=ds:=by
 have ha:cs.Pairwise Ahd:=h.imp fun h=>zgK.mp h
 have ka:ds.Pairwise Ahd:=k.imp fun h=>zgK.mp h
 have nd:∀ {l:List Cell},l.Pairwise Ahd→l.Nodup:=fun h=>h.imp fun {x y} h e=>by subst e;rcases h with h | h <;> lia
 refine List.Perm.eq_of_pairwise (le:=fun a b:Cell=>¬ Ahd b a) (fun a b _ _ h k=>?_) (ha.imp fun {x y} h z=>by unfold Ahd at h z;lia) (ka.imp fun {x y} h z=>by unfold Ahd at h z;lia) ((List.perm_ext_iff_of_nodup (nd ha) (nd ka)).mpr e)
 obtain⟨a1,a2⟩:=a
 obtain⟨b1,b2⟩:=b
 simp only[Ahd] at h k
 have:a1=b1:=by lia
 have:a2=b2:=by lia
 simp[*]
theorem zje:∀ l m:List (List Int),PyData.eqvAll (l.map tI) (m.map tI)=decide (l=m)
 | [],[]=>rfl
 | [],_::_=>rfl
 | _::_,[]=>rfl
 | x::l,y::m=>by
  show (PyData.eqv (tI x) (tI y) && PyData.eqvAll (l.map tI) (m.map tI))=_
  rw[zje l m,zdX]
  by_cases h1:x=y <;> by_cases h2:l=m <;> simp[h1,h2]
theorem eqv2 (cs ds:List Cell):PyData.eqv (lT (cs.map cI)) (lT (ds.map cI))=decide (cs=ds):=by
 show PyData.eqvAll ((cs.map cI).map tI) ((ds.map cI).map tI)=_
 rw[zje]
 refine decide_eq_decide.mpr ⟨fun h=>(List.map_inj_right (fun x y e=>?_)).mp h,fun h=>by rw[h]⟩
 obtain⟨a,b⟩:=x
 obtain⟨c,d⟩:=y
 simp[cI] at e
 rw[e.1,e.2]
section
variable {P:Program}{w:World}{K:W.Frag}{mg:Str→Option Value}{base:Heap}
def spLaw (K:W.Frag):Sp:=fun vs H Q _=>∃ (a:Addr) (ns:List Int),vs=[.ref a]∧SqL K H a (ns.map V.int)∧ns.length≤63∧∀ H',Q (.bl true) H'
theorem zlR (T : Txt P w K mg) (g__law_picture : Fn P w K mg base 2 "_law_picture" ["_law_script", "_law_start"] (zko K)) (g_rounds : Fn P w K mg base 7 "rounds" ["picture"] (zeM K)) (g_picture_of : Fn P w K mg base 9 "picture_of" ["some"] (zif K))
  (d:Df K mg "law" s_law ["_law_script"]):FnOk P w K mg base CX0 10 d.f d.fd ["_law_script"] (spLaw K):=by
 refine d.F.ok zdH (fun vs H Q E h=>?_) (fun cdv A outer s H vs Q E hr h=>?_)
 ·obtain⟨a,ns,rfl,_⟩:=h
  rfl
 ·obtain⟨a,ns,rfl,hS,_,k⟩:=h
  have hu64:=hr.units
  refine⟨_,(zac (zaq (i:=1) zdH.nd (by rfl) (Or.inl rfl) (zah g__law_picture.ok (hr.mono (by decide)) (by rfl) g__law_picture.m g__law_picture.kp g__law_picture.b .nil pass0 (pa_N (pv 0) (pa_C zak zad))))
   (zac (zaq (i:=2) zdH.nd (by rfl) (Or.inl rfl) (zah g__law_picture.ok (hr.mono (by decide)) (by rfl) g__law_picture.m g__law_picture.kp g__law_picture.b .nil pass0 (pa_N (pv 0) (pa_C zak zad))))
   (zac (zaq (i:=3) zdH.nd (by rfl) (Or.inl rfl) (zah g_rounds.ok (hr.mono (by decide)) (by rfl) g_rounds.m g_rounds.kp g_rounds.b .nil pass0 (pa_N (pv 1) zad)))
   (zac (zaq (i:=4) zdH.nd (by rfl) (Or.inl rfl) (zfJ zf5 (by rfl) T.nlist (by rfl) (pa_N (pv 3) zad)))
   (zac (zaq (i:=5) zdH.nd (by rfl) (Or.inl rfl) (zah g_picture_of.ok (hr.mono (by decide)) (by rfl) g_picture_of.m g_picture_of.kp g_picture_of.b .nil pass0 (pa_N (pv 4) zad)))
   (zac (ps_if (pw_or (ziw (zfH (zbb zka (by rfl) T.nisinstance (by rfl) (pa_N (pv 5) (pa_N (zk1 (v:=.ty "list") (by rfl) T.nlist (by rfl) rfl) zad))))) (pw_or (zaB (zex hu64) (pv 5) (pv 1) (zaz _)) (zku (zaB (zex hu64) (pv 4) (pv 3) (zaz _))))).pt
   (zag (zat pe_bl))
   za9)
   (zac (zbv (zlO PySem.F.plainAttrs_list PySem.F.slot_list_clear PySem.F.type_list_clear zjY (pv 5)))
   (zac (ps_if (zaB (zex hu64) (zah g_rounds.ok (hr.mono (by decide)) (by rfl) g_rounds.m g_rounds.kp g_rounds.b .nil pass0 (zam (zah g_picture_of.ok (hr.mono (by decide)) (by rfl) g_picture_of.m g_picture_of.kp g_picture_of.b .nil pass0 (pa_N (pv 4) zad)) zad)) (pv 3) (zaz _))
   (zag (zat pe_bl))
   za9)
   (zac (zaq (i:=6) zdH.nd (by rfl) (Or.inl rfl) (zah g_rounds.ok (hr.mono (by decide)) (by rfl) g_rounds.m g_rounds.kp g_rounds.b .nil pass0 (pa_N (pv 2) zad)))
   (zag (zat (ziI (zco op_eq (zco (zg8 hu64) (pv 6) (pv 3) (zaz _)) (zco (zg8 hu64) (pv 2) (pv 1) (zaz _)) (zaz _)) (ziH (zco (zg8 hu64) (zah g_picture_of.ok (hr.mono (by decide)) (by rfl) g_picture_of.m g_picture_of.kp g_picture_of.b .nil pass0 (pa_N (pv 6) zad)) (pv 2) (zaz _))))))))))))))),?_⟩
  refine⟨_,rfl,a,ns,0,rfl,hS,fun p1 H1 v1 cs hp1 s1 e1 hv1 hb1 hl1 hB1=>?_⟩
  refine⟨_,rfl,a,ns,11,rfl,s1.seq hS,fun p2 H2 v2 ds hp2 s2 e2 hv2 hb2 hl2 hB2=>?_⟩
  have e12:=s2 _ _ e1
  have hv12:=hv1.mono fun x v h=>h.same s2
  refine⟨_,rfl,p1,cs,rfl,LR.of e12 hv12,zg7 hb1,hl1,fun q H3 rs R R0 hq s3 e3 hr3 hpm hin hwh=>?_⟩
  refine⟨_,rfl,q,_,rfl,.inl (SqL.of e3),fun f hf=>?_⟩
  have s4:Same H3 (upd H3 f (.lst rs)):=Same.up hf
  have e4:upd H3 f (.lst rs) f=some (.lst rs):=zaa
  generalize upd H3 f (.lst rs)=H4 at s4 e4
  have hr4:=hr3.mono fun x v h=>rR.kt h (KT.of s4)
  have hso:∀ r∈R,SoOk r:=fun r h=>hwh.so r (hpm.mem_iff.mp h)
  refine⟨_,rfl,f,rs,R,R0,cs,rfl,e4,hr4,hpm,hin,hwh,hb1,hl1,hB1,fun g H5 zs hg s5 e5 hz5=>?_⟩
  have e15:=s5 _ _ (s4 _ _ (s3 _ _ e12))
  have hv15:=hv12.mono fun x v h=>h.same (s3.trans (s4.trans s5))
  have e35:=s5 _ _ (s4 _ _ e3)
  have hr35:=hr4.mono fun x v h=>rR.kt h (KT.of s5)
  have e45:=s5 _ _ e4
  refine⟨_,rfl,.ref g,"list",_,true,rfl,.lst e5,zj0 _ _,_,rfl,iteF ?_⟩
  refine⟨_,rfl,_,rfl,lT (cs.map cI),lT (cs.map cI),zcD (SqL.of e5) hz5,zcD (SqL.of e15) hv15,zce _,zce _,_,rfl,iteN (by rw[eqv2];simp) ?_⟩
  refine⟨_,rfl,_,rfl,lR R,lR R,zch (SqL.of e45) hr35,zch (SqL.of e35) hr35,zcf hso,zcf hso,_,rfl,iteN (by rw[zjd];simp) ?_⟩
  refine⟨_,rfl,.inl ⟨rfl,_,SqL.of e5⟩,g,zs,rfl,rfl,e5,?_⟩
  have ng:∀ {b o},H4 b=some o→b≠g:=fun h=>zar h hg
  have kt6:KT H5 (upd H5 g (.lst [])):=KT.lst e5
  have e46:upd H5 g (.lst []) f=some (.lst rs):=by rw[zaj (ng e4)];exact e45
  have e36:upd H5 g (.lst []) q=some (.lst rs):=by rw[zaj (ng (s4 _ _ e3))];exact e35
  have e16:upd H5 g (.lst []) p1=some (.lst v1):=by rw[zaj (ng (s4 _ _ (s3 _ _ e12)))];exact e15
  have e24:=s4 _ _ (s3 _ _ e2)
  have e26:upd H5 g (.lst []) p2=some (.lst v2):=by rw[zaj (ng e24)];exact s5 _ _ e24
  generalize upd H5 g (.lst [])=H6 at kt6 e46 e36 e16 e26
  have hr6:=hr35.mono fun x v h=>rR.kt h kt6
  have hv16:=hv15.mono fun x v h=>h.kt kt6
  have hv26:=(hv2.mono fun x v h=>h.same (s3.trans (s4.trans s5))).mono fun x v h=>h.kt kt6
  refine⟨_,rfl,f,rs,R,R0,cs,rfl,e46,hr6,hpm,hin,hwh,hb1,hl1,hB1,fun g2 H7 zs2 hg2 s7 e7 hz7=>?_⟩
  refine⟨g2,cs,rfl,LR.of e7 hz7,zg7 hb1,hl1,fun q2 H8 rs2 S S0 hq2 s8 e8 hr8 hpS hkS hwS=>?_⟩
  have hSR:S=R:=Whole.one hpS hpm hkS hin hwS hwh
  subst hSR
  have s78:=s7.trans s8
  refine⟨_,rfl,lR S,lR S,zch (SqL.of e8) hr8,zch (SqL.of (s78 _ _ e36)) (hr6.mono fun x v h=>rR.kt h (KT.of s78)),zcf hso,zcf hso,_,rfl,iteN (by rw[zjd];simp) ?_⟩
  have e28:=s78 _ _ e26
  have hv28:=hv26.mono fun x v h=>h.same s78
  refine⟨_,rfl,p2,ds,rfl,LR.of e28 hv28,zg7 hb2,hl2,fun q3 H9 rs3 M M0 hq3 s9 e9 hr9 hpM hkM hwM=>?_⟩
  have hsoM:∀ r∈M,SoOk r:=fun r h=>hwM.so r (hpM.mem_iff.mp h)
  have s79:=s78.trans s9
  refine⟨_,rfl,_,rfl,lR M,lR S,zch (SqL.of e9) hr9,zch (SqL.of (s79 _ _ e36)) (hr6.mono fun x v h=>rR.kt h (KT.of s79)),zcf hsoM,zcf hso,?_⟩
  refine⟨_,rfl,_,rfl,lT (ds.map cI),lT (cs.map cI),zcD (SqL.of (s9 _ _ e28)) (hv28.mono fun x v h=>h.same s9),zcD (SqL.of (s79 _ _ e16)) (hv16.mono fun x v h=>h.same s79),zce _,zce _,?_⟩
  have key:M=S ↔ ds=cs:=by
   constructor
   ·intro z
    obtain⟨ESS,h1⟩:=Whole.cans hpm hwh
    obtain⟨FSS,h2⟩:=Whole.cans hpM hwM
    rw[z] at h2
    exact zlp hb2 hb1 fun c=>Cans.cells h2 h1 c
   ·intro z
    rw[z] at hwM
    exact Whole.one hpM hpm hkM hin hwM hwh
  have hdec:decide (M=S)=decide (ds=cs):=decide_eq_decide.mpr key
  refine⟨rfl,_,rfl,iteY (by rw[zjd,eqv2,hdec];simp) ?_⟩
  refine⟨_,rfl,q3,rs3,M,M0,ds,rfl,e9,hr9,hpM,hkM,hwM,hb2,hl2,hB2,fun g3 H10 zs3 hg3 s10 e10 hz10=>?_⟩
  refine⟨_,rfl,lT (ds.map cI),lT (ds.map cI),zcD (SqL.of e10) hz10,zcD (SqL.of (s10 _ _ (s9 _ _ e28))) (hv28.mono fun x v h=>h.same (s9.trans s10)),zce _,zce _,?_⟩
  rw[eqv2,decide_eq_true rfl]
  exact k H10
end
open PySem L2 RP
theorem all_mk {l : W.OpenLaw}{w : World}{K : W.Frag}{h : Heap}{mg : Str → Option Value}{fa : Addr}(X : K.In h) (G : h.Ns mainGlobals mg) (hfa : mg "law" = some (.ref fa))
  {f0:Addr} {od0 an0:Option Addr} {sl0:Array (Option Value)} {oc0 kV0 dc0 pm0 cd0 ct0:Value}
  (a0:W.nsIn K mainGlobals "cell_order" = some (some (.ref f0))) (l0:K.lookup f0=some ⟨oc0,od0,.func (W.fnOf "cell_order" "cell_order" (zan zbh) (zal zbh) (zab zbh) .none kV0 dc0 pm0 an0 cd0 ct0),sl0⟩) (c0:W.codeIn K cd0 "cell_order" = true) (k0:W.keepIn K (.ref f0)=true)
  {f1:Addr} {od1 an1:Option Addr} {sl1:Array (Option Value)} {oc1 kV1 dc1 pm1 cd1 ct1:Value}
  (a1:W.nsIn K mainGlobals "ask_picture" = some (some (.ref f1))) (l1:K.lookup f1=some ⟨oc1,od1,.func (W.fnOf "ask_picture" "ask_picture" (zan za2) (zal za2) (zab za2) .none kV1 dc1 pm1 an1 cd1 ct1),sl1⟩) (c1:W.codeIn K cd1 "ask_picture" = true) (k1:W.keepIn K (.ref f1)=true)
  {f2:Addr} {od2 an2:Option Addr} {sl2:Array (Option Value)} {oc2 kV2 dc2 pm2 cd2 ct2:Value}
  (a2:W.nsIn K mainGlobals "gone" = some (some (.ref f2))) (l2:K.lookup f2=some ⟨oc2,od2,.func (W.fnOf "gone" "gone" (zan zdJ) (zal zdJ) (zab zdJ) .none kV2 dc2 pm2 an2 cd2 ct2),sl2⟩) (c2:W.codeIn K cd2 "gone" = true) (k2:W.keepIn K (.ref f2)=true)
  {f3:Addr} {od3 an3:Option Addr} {sl3:Array (Option Value)} {oc3 kV3 dc3 pm3 cd3 ct3:Value}
  (a3:W.nsIn K mainGlobals "cell_table" = some (some (.ref f3))) (l3:K.lookup f3=some ⟨oc3,od3,.func (W.fnOf "cell_table" "cell_table" (zan zaW) (zal zaW) (zab zaW) .none kV3 dc3 pm3 an3 cd3 ct3),sl3⟩) (c3:W.codeIn K cd3 "cell_table" = true) (k3:W.keepIn K (.ref f3)=true)
  {f4:Addr} {od4 an4:Option Addr} {sl4:Array (Option Value)} {oc4 kV4 dc4 pm4 cd4 ct4:Value}
  (a4:W.nsIn K mainGlobals "gap_beside" = some (some (.ref f4))) (l4:K.lookup f4=some ⟨oc4,od4,.func (W.fnOf "gap_beside" "gap_beside" (zan zbf) (zal zbf) (zab zbf) .none kV4 dc4 pm4 an4 cd4 ct4),sl4⟩) (c4:W.codeIn K cd4 "gap_beside" = true) (k4:W.keepIn K (.ref f4)=true)
  {f5:Addr} {od5 an5:Option Addr} {sl5:Array (Option Value)} {oc5 kV5 dc5 pm5 cd5 ct5:Value}
  (a5:W.nsIn K mainGlobals "all_edges" = some (some (.ref f5))) (l5:K.lookup f5=some ⟨oc5,od5,.func (W.fnOf "all_edges" "all_edges" (zan za3) (zal za3) (zab za3) .none kV5 dc5 pm5 an5 cd5 ct5),sl5⟩) (c5:W.codeIn K cd5 "all_edges" = true) (k5:W.keepIn K (.ref f5)=true)
  {f6:Addr} {od6 an6:Option Addr} {sl6:Array (Option Value)} {oc6 kV6 dc6 pm6 cd6 ct6:Value}
  (a6:W.nsIn K mainGlobals "straight_step" = some (some (.ref f6))) (l6:K.lookup f6=some ⟨oc6,od6,.func (W.fnOf "straight_step" "straight_step" (zan zaL) (zal zaL) (zab zaL) .none kV6 dc6 pm6 an6 cd6 ct6),sl6⟩) (c6:W.codeIn K cd6 "straight_step" = true) (k6:W.keepIn K (.ref f6)=true)
  {f7:Addr} {od7 an7:Option Addr} {sl7:Array (Option Value)} {oc7 kV7 dc7 pm7 cd7 ct7:Value}
  (a7:W.nsIn K mainGlobals "slant_step" = some (some (.ref f7))) (l7:K.lookup f7=some ⟨oc7,od7,.func (W.fnOf "slant_step" "slant_step" (zan zbd) (zal zbd) (zab zbd) .none kV7 dc7 pm7 an7 cd7 ct7),sl7⟩) (c7:W.codeIn K cd7 "slant_step" = true) (k7:W.keepIn K (.ref f7)=true)
  {f8:Addr} {od8 an8:Option Addr} {sl8:Array (Option Value)} {oc8 kV8 dc8 pm8 cd8 ct8:Value}
  (a8:W.nsIn K mainGlobals "step_behind" = some (some (.ref f8))) (l8:K.lookup f8=some ⟨oc8,od8,.func (W.fnOf "step_behind" "step_behind" (zan zaX) (zal zaX) (zab zaX) .none kV8 dc8 pm8 an8 cd8 ct8),sl8⟩) (c8:W.codeIn K cd8 "step_behind" = true) (k8:W.keepIn K (.ref f8)=true)
  {f9:Addr} {od9 an9:Option Addr} {sl9:Array (Option Value)} {oc9 kV9 dc9 pm9 cd9 ct9:Value}
  (a9:W.nsIn K mainGlobals "is_slant" = some (some (.ref f9))) (l9:K.lookup f9=some ⟨oc9,od9,.func (W.fnOf "is_slant" "is_slant" (zan zbQ) (zal zbQ) (zab zbQ) .none kV9 dc9 pm9 an9 cd9 ct9),sl9⟩) (c9:W.codeIn K cd9 "is_slant" = true) (k9:W.keepIn K (.ref f9)=true)
  {f10:Addr} {od10 an10:Option Addr} {sl10:Array (Option Value)} {oc10 kV10 dc10 pm10 cd10 ct10:Value}
  (a10:W.nsIn K mainGlobals "edge_behind" = some (some (.ref f10))) (l10:K.lookup f10=some ⟨oc10,od10,.func (W.fnOf "edge_behind" "edge_behind" (zan za0) (zal za0) (zab za0) .none kV10 dc10 pm10 an10 cd10 ct10),sl10⟩) (c10:W.codeIn K cd10 "edge_behind" = true) (k10:W.keepIn K (.ref f10)=true)
  {f11:Addr} {od11 an11:Option Addr} {sl11:Array (Option Value)} {oc11 kV11 dc11 pm11 cd11 ct11:Value}
  (a11:W.nsIn K mainGlobals "walk_from" = some (some (.ref f11))) (l11:K.lookup f11=some ⟨oc11,od11,.func (W.fnOf "walk_from" "walk_from" (zan zbt) (zal zbt) (zab zbt) .none kV11 dc11 pm11 an11 cd11 ct11),sl11⟩) (c11:W.codeIn K cd11 "walk_from" = true) (k11:W.keepIn K (.ref f11)=true)
  {f12:Addr} {od12 an12:Option Addr} {sl12:Array (Option Value)} {oc12 kV12 dc12 pm12 cd12 ct12:Value}
  (a12:W.nsIn K mainGlobals "lefts_and_slants" = some (some (.ref f12))) (l12:K.lookup f12=some ⟨oc12,od12,.func (W.fnOf "lefts_and_slants" "lefts_and_slants" (zan zas) (zal zas) (zab zas) .none kV12 dc12 pm12 an12 cd12 ct12),sl12⟩) (c12:W.codeIn K cd12 "lefts_and_slants" = true) (k12:W.keepIn K (.ref f12)=true)
  {f13:Addr} {od13 an13:Option Addr} {sl13:Array (Option Value)} {oc13 kV13 dc13 pm13 cd13 ct13:Value}
  (a13:W.nsIn K mainGlobals "lefts_less_slants" = some (some (.ref f13))) (l13:K.lookup f13=some ⟨oc13,od13,.func (W.fnOf "lefts_less_slants" "lefts_less_slants" (zan zaw) (zal zaw) (zab zaw) .none kV13 dc13 pm13 an13 cd13 ct13),sl13⟩) (c13:W.codeIn K cd13 "lefts_less_slants" = true) (k13:W.keepIn K (.ref f13)=true)
  {f14:Addr} {od14 an14:Option Addr} {sl14:Array (Option Value)} {oc14 kV14 dc14 pm14 cd14 ct14:Value}
  (a14:W.nsIn K mainGlobals "sort_of" = some (some (.ref f14))) (l14:K.lookup f14=some ⟨oc14,od14,.func (W.fnOf "sort_of" "sort_of" (zan zb6) (zal zb6) (zab zb6) .none kV14 dc14 pm14 an14 cd14 ct14),sl14⟩) (c14:W.codeIn K cd14 "sort_of" = true) (k14:W.keepIn K (.ref f14)=true)
  {f15:Addr} {od15 an15:Option Addr} {sl15:Array (Option Value)} {oc15 kV15 dc15 pm15 cd15 ct15:Value}
  (a15:W.nsIn K mainGlobals "begin_of" = some (some (.ref f15))) (l15:K.lookup f15=some ⟨oc15,od15,.func (W.fnOf "begin_of" "begin_of" (zan zbC) (zal zbC) (zab zbC) .none kV15 dc15 pm15 an15 cd15 ct15),sl15⟩) (c15:W.codeIn K cd15 "begin_of" = true) (k15:W.keepIn K (.ref f15)=true)
  {f16:Addr} {od16 an16:Option Addr} {sl16:Array (Option Value)} {oc16 kV16 dc16 pm16 cd16 ct16:Value}
  (a16:W.nsIn K mainGlobals "round_of" = some (some (.ref f16))) (l16:K.lookup f16=some ⟨oc16,od16,.func (W.fnOf "round_of" "round_of" (zan za7) (zal za7) (zab za7) .none kV16 dc16 pm16 an16 cd16 ct16),sl16⟩) (c16:W.codeIn K cd16 "round_of" = true) (k16:W.keepIn K (.ref f16)=true)
  {f17:Addr} {od17 an17:Option Addr} {sl17:Array (Option Value)} {oc17 kV17 dc17 pm17 cd17 ct17:Value}
  (a17:W.nsIn K mainGlobals "round_order" = some (some (.ref f17))) (l17:K.lookup f17=some ⟨oc17,od17,.func (W.fnOf "round_order" "round_order" (zan zaY) (zal zaY) (zab zaY) .none kV17 dc17 pm17 an17 cd17 ct17),sl17⟩) (c17:W.codeIn K cd17 "round_order" = true) (k17:W.keepIn K (.ref f17)=true)
  {f18:Addr} {od18 an18:Option Addr} {sl18:Array (Option Value)} {oc18 kV18 dc18 pm18 cd18 ct18:Value}
  (a18:W.nsIn K mainGlobals "rounds_along" = some (some (.ref f18))) (l18:K.lookup f18=some ⟨oc18,od18,.func (W.fnOf "rounds_along" "rounds_along" (zan zaO) (zal zaO) (zab zaO) .none kV18 dc18 pm18 an18 cd18 ct18),sl18⟩) (c18:W.codeIn K cd18 "rounds_along" = true) (k18:W.keepIn K (.ref f18)=true)
  {f19:Addr} {od19 an19:Option Addr} {sl19:Array (Option Value)} {oc19 kV19 dc19 pm19 cd19 ct19:Value}
  (a19:W.nsIn K mainGlobals "rounds" = some (some (.ref f19))) (l19:K.lookup f19=some ⟨oc19,od19,.func (W.fnOf "rounds" "rounds" (zan zcn) (zal zcn) (zab zcn) .none kV19 dc19 pm19 an19 cd19 ct19),sl19⟩) (c19:W.codeIn K cd19 "rounds" = true) (k19:W.keepIn K (.ref f19)=true)
  {f20:Addr} {od20 an20:Option Addr} {sl20:Array (Option Value)} {oc20 kV20 dc20 pm20 cd20 ct20:Value}
  (a20:W.nsIn K mainGlobals "begin_edge" = some (some (.ref f20))) (l20:K.lookup f20=some ⟨oc20,od20,.func (W.fnOf "begin_edge" "begin_edge" (zan zbi) (zal zbi) (zab zbi) .none kV20 dc20 pm20 an20 cd20 ct20),sl20⟩) (c20:W.codeIn K cd20 "begin_edge" = true) (k20:W.keepIn K (.ref f20)=true)
  {f21:Addr} {od21 an21:Option Addr} {sl21:Array (Option Value)} {oc21 kV21 dc21 pm21 cd21 ct21:Value}
  (a21:W.nsIn K mainGlobals "way_for" = some (some (.ref f21))) (l21:K.lookup f21=some ⟨oc21,od21,.func (W.fnOf "way_for" "way_for" (zan zb3) (zal zb3) (zab zb3) .none kV21 dc21 pm21 an21 cd21 ct21),sl21⟩) (c21:W.codeIn K cd21 "way_for" = true) (k21:W.keepIn K (.ref f21)=true)
  {f22:Addr} {od22 an22:Option Addr} {sl22:Array (Option Value)} {oc22 kV22 dc22 pm22 cd22 ct22:Value}
  (a22:W.nsIn K mainGlobals "deeds_along" = some (some (.ref f22))) (l22:K.lookup f22=some ⟨oc22,od22,.func (W.fnOf "deeds_along" "deeds_along" (zan za1) (zal za1) (zab za1) .none kV22 dc22 pm22 an22 cd22 ct22),sl22⟩) (c22:W.codeIn K cd22 "deeds_along" = true) (k22:W.keepIn K (.ref f22)=true)
  {f23:Addr} {od23 an23:Option Addr} {sl23:Array (Option Value)} {oc23 kV23 dc23 pm23 cd23 ct23:Value}
  (a23:W.nsIn K mainGlobals "walk_by" = some (some (.ref f23))) (l23:K.lookup f23=some ⟨oc23,od23,.func (W.fnOf "walk_by" "walk_by" (zan zb5) (zal zb5) (zab zb5) .none kV23 dc23 pm23 an23 cd23 ct23),sl23⟩) (c23:W.codeIn K cd23 "walk_by" = true) (k23:W.keepIn K (.ref f23)=true)
  {f24:Addr} {od24 an24:Option Addr} {sl24:Array (Option Value)} {oc24 kV24 dc24 pm24 cd24 ct24:Value}
  (a24:W.nsIn K mainGlobals "walk_along" = some (some (.ref f24))) (l24:K.lookup f24=some ⟨oc24,od24,.func (W.fnOf "walk_along" "walk_along" (zan zbc) (zal zbc) (zab zbc) .none kV24 dc24 pm24 an24 cd24 ct24),sl24⟩) (c24:W.codeIn K cd24 "walk_along" = true) (k24:W.keepIn K (.ref f24)=true)
  {f25:Addr} {od25 an25:Option Addr} {sl25:Array (Option Value)} {oc25 kV25 dc25 pm25 cd25 ct25:Value}
  (a25:W.nsIn K mainGlobals "seen_between" = some (some (.ref f25))) (l25:K.lookup f25=some ⟨oc25,od25,.func (W.fnOf "seen_between" "seen_between" (zan zaN) (zal zaN) (zab zaN) .none kV25 dc25 pm25 an25 cd25 ct25),sl25⟩) (c25:W.codeIn K cd25 "seen_between" = true) (k25:W.keepIn K (.ref f25)=true)
  {f26:Addr} {od26 an26:Option Addr} {sl26:Array (Option Value)} {oc26 kV26 dc26 pm26 cd26 ct26:Value}
  (a26:W.nsIn K mainGlobals "gainsaid_at" = some (some (.ref f26))) (l26:K.lookup f26=some ⟨oc26,od26,.func (W.fnOf "gainsaid_at" "gainsaid_at" (zan zaZ) (zal zaZ) (zab zaZ) .none kV26 dc26 pm26 an26 cd26 ct26),sl26⟩) (c26:W.codeIn K cd26 "gainsaid_at" = true) (k26:W.keepIn K (.ref f26)=true)
  {f27:Addr} {od27 an27:Option Addr} {sl27:Array (Option Value)} {oc27 kV27 dc27 pm27 cd27 ct27:Value}
  (a27:W.nsIn K mainGlobals "comes_back" = some (some (.ref f27))) (l27:K.lookup f27=some ⟨oc27,od27,.func (W.fnOf "comes_back" "comes_back" (zan zbg) (zal zbg) (zab zbg) .none kV27 dc27 pm27 an27 cd27 ct27),sl27⟩) (c27:W.codeIn K cd27 "comes_back" = true) (k27:W.keepIn K (.ref f27)=true)
  {f28:Addr} {od28 an28:Option Addr} {sl28:Array (Option Value)} {oc28 kV28 dc28 pm28 cd28 ct28:Value}
  (a28:W.nsIn K mainGlobals "is_closed" = some (some (.ref f28))) (l28:K.lookup f28=some ⟨oc28,od28,.func (W.fnOf "is_closed" "is_closed" (zan zbu) (zal zbu) (zab zbu) .none kV28 dc28 pm28 an28 cd28 ct28),sl28⟩) (c28:W.codeIn K cd28 "is_closed" = true) (k28:W.keepIn K (.ref f28)=true)
  {f29:Addr} {od29 an29:Option Addr} {sl29:Array (Option Value)} {oc29 kV29 dc29 pm29 cd29 ct29:Value}
  (a29:W.nsIn K mainGlobals "walk_of" = some (some (.ref f29))) (l29:K.lookup f29=some ⟨oc29,od29,.func (W.fnOf "walk_of" "walk_of" (zan zb4) (zal zb4) (zab zb4) .none kV29 dc29 pm29 an29 cd29 ct29),sl29⟩) (c29:W.codeIn K cd29 "walk_of" = true) (k29:W.keepIn K (.ref f29)=true)
  {f30:Addr} {od30 an30:Option Addr} {sl30:Array (Option Value)} {oc30 kV30 dc30 pm30 cd30 ct30:Value}
  (a30:W.nsIn K mainGlobals "edges_of" = some (some (.ref f30))) (l30:K.lookup f30=some ⟨oc30,od30,.func (W.fnOf "edges_of" "edges_of" (zan zbB) (zal zbB) (zab zbB) .none kV30 dc30 pm30 an30 cd30 ct30),sl30⟩) (c30:W.codeIn K cd30 "edges_of" = true) (k30:W.keepIn K (.ref f30)=true)
  {f31:Addr} {od31 an31:Option Addr} {sl31:Array (Option Value)} {oc31 kV31 dc31 pm31 cd31 ct31:Value}
  (a31:W.nsIn K mainGlobals "uprights" = some (some (.ref f31))) (l31:K.lookup f31=some ⟨oc31,od31,.func (W.fnOf "uprights" "uprights" (zan zbP) (zal zbP) (zab zbP) .none kV31 dc31 pm31 an31 cd31 ct31),sl31⟩) (c31:W.codeIn K cd31 "uprights" = true) (k31:W.keepIn K (.ref f31)=true)
  {f32:Addr} {od32 an32:Option Addr} {sl32:Array (Option Value)} {oc32 kV32 dc32 pm32 cd32 ct32:Value}
  (a32:W.nsIn K mainGlobals "cells_within" = some (some (.ref f32))) (l32:K.lookup f32=some ⟨oc32,od32,.func (W.fnOf "cells_within" "cells_within" (zan zaF) (zal zaF) (zab zaF) .none kV32 dc32 pm32 an32 cd32 ct32),sl32⟩) (c32:W.codeIn K cd32 "cells_within" = true) (k32:W.keepIn K (.ref f32)=true)
  {f33:Addr} {od33 an33:Option Addr} {sl33:Array (Option Value)} {oc33 kV33 dc33 pm33 cd33 ct33:Value}
  (a33:W.nsIn K mainGlobals "cells_told" = some (some (.ref f33))) (l33:K.lookup f33=some ⟨oc33,od33,.func (W.fnOf "cells_told" "cells_told" (zan zaV) (zal zaV) (zab zaV) .none kV33 dc33 pm33 an33 cd33 ct33),sl33⟩) (c33:W.codeIn K cd33 "cells_told" = true) (k33:W.keepIn K (.ref f33)=true)
  {f34:Addr} {od34 an34:Option Addr} {sl34:Array (Option Value)} {oc34 kV34 dc34 pm34 cd34 ct34:Value}
  (a34:W.nsIn K mainGlobals "first_unlike" = some (some (.ref f34))) (l34:K.lookup f34=some ⟨oc34,od34,.func (W.fnOf "first_unlike" "first_unlike" (zan zaP) (zal zaP) (zab zaP) .none kV34 dc34 pm34 an34 cd34 ct34),sl34⟩) (c34:W.codeIn K cd34 "first_unlike" = true) (k34:W.keepIn K (.ref f34)=true)
  {f35:Addr} {od35 an35:Option Addr} {sl35:Array (Option Value)} {oc35 kV35 dc35 pm35 cd35 ct35:Value}
  (a35:W.nsIn K mainGlobals "picture_of" = some (some (.ref f35))) (l35:K.lookup f35=some ⟨oc35,od35,.func (W.fnOf "picture_of" "picture_of" (zan zbe) (zal zbe) (zab zbe) .none kV35 dc35 pm35 an35 cd35 ct35),sl35⟩) (c35:W.codeIn K cd35 "picture_of" = true) (k35:W.keepIn K (.ref f35)=true)
  {f36:Addr} {od36 an36:Option Addr} {sl36:Array (Option Value)} {oc36 kV36 dc36 pm36 cd36 ct36:Value}
  (a36:W.nsIn K mainGlobals "_law_cell_at" = some (some (.ref f36))) (l36:K.lookup f36=some ⟨oc36,od36,.func (W.fnOf "_law_cell_at" "_law_cell_at" (zan zaQ) (zal zaQ) (zab zaQ) .none kV36 dc36 pm36 an36 cd36 ct36),sl36⟩) (c36:W.codeIn K cd36 "_law_cell_at" = true) (k36:W.keepIn K (.ref f36)=true)
  {f37:Addr} {od37 an37:Option Addr} {sl37:Array (Option Value)} {oc37 kV37 dc37 pm37 cd37 ct37:Value}
  (a37:W.nsIn K mainGlobals "_law_row" = some (some (.ref f37))) (l37:K.lookup f37=some ⟨oc37,od37,.func (W.fnOf "_law_row" "_law_row" (zan zbR) (zal zbR) (zab zbR) .none kV37 dc37 pm37 an37 cd37 ct37),sl37⟩) (c37:W.codeIn K cd37 "_law_row" = true) (k37:W.keepIn K (.ref f37)=true)
  {f38:Addr} {od38 an38:Option Addr} {sl38:Array (Option Value)} {oc38 kV38 dc38 pm38 cd38 ct38:Value}
  (a38:W.nsIn K mainGlobals "_law_picture" = some (some (.ref f38))) (l38:K.lookup f38=some ⟨oc38,od38,.func (W.fnOf "_law_picture" "_law_picture" (zan zaG) (zal zaG) (zab zaG) .none kV38 dc38 pm38 an38 cd38 ct38),sl38⟩) (c38:W.codeIn K cd38 "_law_picture" = true) (k38:W.keepIn K (.ref f38)=true)
  {f39:Addr} {od39 an39:Option Addr} {sl39:Array (Option Value)} {oc39 kV39 dc39 pm39 cd39 ct39:Value}
  (a39:W.nsIn K mainGlobals "law" = some (some (.ref f39))) (l39:K.lookup f39=some ⟨oc39,od39,.func (W.fnOf "law" "law" (zan s_law) (zal s_law) (zab s_law) .none kV39 dc39 pm39 an39 cd39 ct39),sl39⟩) (c39:W.codeIn K cd39 "law" = true) (k39:W.keepIn K (.ref f39)=true)
  {M m0 m1 m2 m3 m4 m5 m6 m7:Addr} {odM:Option Addr} {nM:Nat} {slM:Array (Option Value)}
  (aM:W.nsIn K mainGlobals "MOVES" = some (some (.ref M))) (lM:K.lookup M=some ⟨.type "tuple",odM,.seq #[.ref m0,.ref m1,.ref m2,.ref m3,.ref m4,.ref m5,.ref m6,.ref m7] nM,slM⟩)
  {odm0:Option Addr} {nm0:Nat} {slm0:Array (Option Value)} {tm0 um0:Tok} (x0:K.lookup m0=some ⟨.type "tuple",odm0,.seq #[.int (1) tm0,.int (0) um0] nm0,slm0⟩)
  {odm1:Option Addr} {nm1:Nat} {slm1:Array (Option Value)} {tm1 um1:Tok} (x1:K.lookup m1=some ⟨.type "tuple",odm1,.seq #[.int (1) tm1,.int (1) um1] nm1,slm1⟩)
  {odm2:Option Addr} {nm2:Nat} {slm2:Array (Option Value)} {tm2 um2:Tok} (x2:K.lookup m2=some ⟨.type "tuple",odm2,.seq #[.int (0) tm2,.int (1) um2] nm2,slm2⟩)
  {odm3:Option Addr} {nm3:Nat} {slm3:Array (Option Value)} {tm3 um3:Tok} (x3:K.lookup m3=some ⟨.type "tuple",odm3,.seq #[.int (-1) tm3,.int (1) um3] nm3,slm3⟩)
  {odm4:Option Addr} {nm4:Nat} {slm4:Array (Option Value)} {tm4 um4:Tok} (x4:K.lookup m4=some ⟨.type "tuple",odm4,.seq #[.int (-1) tm4,.int (0) um4] nm4,slm4⟩)
  {odm5:Option Addr} {nm5:Nat} {slm5:Array (Option Value)} {tm5 um5:Tok} (x5:K.lookup m5=some ⟨.type "tuple",odm5,.seq #[.int (-1) tm5,.int (-1) um5] nm5,slm5⟩)
  {odm6:Option Addr} {nm6:Nat} {slm6:Array (Option Value)} {tm6 um6:Tok} (x6:K.lookup m6=some ⟨.type "tuple",odm6,.seq #[.int (0) tm6,.int (-1) um6] nm6,slm6⟩)
  {odm7:Option Addr} {nm7:Nat} {slm7:Array (Option Value)} {tm7 um7:Tok} (x7:K.lookup m7=some ⟨.type "tuple",odm7,.seq #[.int (1) tm7,.int (-1) um7] nm7,slm7⟩)
  {B:Addr} {t1 t2 t3 t4:Tok} {nB:Nat} (aB:W.nsIn K mainGlobals "BEGIN_WAYS" = some (some (.ref B))) (lB:K.lookup B=some ⟨.type "dict",none,.dict #[⟨PyData.keyHash w.params "rim",.str "rim" t1,.int 0 t2⟩,⟨PyData.keyHash w.params "hole",.str "hole" t3,.int 2 t4⟩] nB,#[]⟩)
  {B2:Addr} {u1 u2 u3 u4:Tok} {nB2:Nat} (aB2:W.nsIn K mainGlobals "MORE_LEFTS" = some (some (.ref B2))) (lB2:K.lookup B2=some ⟨.type "dict",none,.dict #[⟨PyData.keyHash w.params "rim",.str "rim" u1,.int 4 u2⟩,⟨PyData.keyHash w.params "hole",.str "hole" u3,.int (-4) u4⟩] nB2,#[]⟩)
  (z_range:W.nsIn K mainGlobals "range" = some none)
  (z_len:W.nsIn K mainGlobals "len" = some none)
  (z_min:W.nsIn K mainGlobals "min" = some none)
  (z_sorted:W.nsIn K mainGlobals "sorted" = some none)
  (z_tuple:W.nsIn K mainGlobals "tuple" = some none)
  (z_int:W.nsIn K mainGlobals "int" = some none)
  (z_bool:W.nsIn K mainGlobals "bool" = some none)
  (z_str:W.nsIn K mainGlobals "str" = some none)
  (z_all:W.nsIn K mainGlobals "all" = some none)
  (z_isinstance:W.nsIn K mainGlobals "isinstance" = some none)
  (z_list:W.nsIn K mainGlobals "list" = some none)
  (z_sum:W.nsIn K mainGlobals "sum" = some none)
  (z_enumerate:W.nsIn K mainGlobals "enumerate" = some none)
  (z_zip:W.nsIn K mainGlobals "zip" = some none) :
  ∃ fd:FuncData,(∀ (s:Shared) (v:Value),BindsTo s fd ⟨[v],[]⟩ [("_law_script",v)])∧∀ base:Heap,K.In base→base.Ns mainGlobals mg→FnOk l.prog w K mg base CX0 10 fa fd ["_law_script"] (spLaw K):=by
 have e:=hfa.symm.trans (W.mg_of X G a39)
 cases e
 have moves:∃ M,mg "MOVES" = some (.ref M)∧∀ H,∃ ms:List Addr,SqT K H M (ms.map V.ref)∧ms.length=8∧∀ (i:Nat) a,ms[i]?=some a→SqT K H a [.int (mv i).1,.int (mv i).2]:=by
  refine⟨M,W.mg_of X G aM,fun H=>⟨[m0,m1,m2,m3,m4,m5,m6,m7],.inr ⟨_,_,_,lM,rfl,rfl,(by show 8≤sizeLine;decide),.cons rfl (.cons rfl (.cons rfl (.cons rfl (.cons rfl (.cons rfl (.cons rfl (.cons rfl .nil)))))))⟩,rfl,fun i a e=>?_⟩⟩
  match i,e with
  | 0,e=>cases e;exact .inr ⟨_,_,_,x0,rfl,rfl,(by show 2≤sizeLine;decide),.cons ⟨_,rfl⟩ (.cons ⟨_,rfl⟩ .nil)⟩
  | 1,e=>cases e;exact .inr ⟨_,_,_,x1,rfl,rfl,(by show 2≤sizeLine;decide),.cons ⟨_,rfl⟩ (.cons ⟨_,rfl⟩ .nil)⟩
  | 2,e=>cases e;exact .inr ⟨_,_,_,x2,rfl,rfl,(by show 2≤sizeLine;decide),.cons ⟨_,rfl⟩ (.cons ⟨_,rfl⟩ .nil)⟩
  | 3,e=>cases e;exact .inr ⟨_,_,_,x3,rfl,rfl,(by show 2≤sizeLine;decide),.cons ⟨_,rfl⟩ (.cons ⟨_,rfl⟩ .nil)⟩
  | 4,e=>cases e;exact .inr ⟨_,_,_,x4,rfl,rfl,(by show 2≤sizeLine;decide),.cons ⟨_,rfl⟩ (.cons ⟨_,rfl⟩ .nil)⟩
  | 5,e=>cases e;exact .inr ⟨_,_,_,x5,rfl,rfl,(by show 2≤sizeLine;decide),.cons ⟨_,rfl⟩ (.cons ⟨_,rfl⟩ .nil)⟩
  | 6,e=>cases e;exact .inr ⟨_,_,_,x6,rfl,rfl,(by show 2≤sizeLine;decide),.cons ⟨_,rfl⟩ (.cons ⟨_,rfl⟩ .nil)⟩
  | 7,e=>cases e;exact .inr ⟨_,_,_,x7,rfl,rfl,(by show 2≤sizeLine;decide),.cons ⟨_,rfl⟩ (.cons ⟨_,rfl⟩ .nil)⟩
  | i+8,e=>exact absurd (List.getElem?_eq_some_iff.mp e).1 (by simp)
 have ways:Ways l.prog w K mg:=⟨⟨B,t1,t2,t3,t4,nB,W.mg_of X G aB,lB⟩⟩
 have T:Txt l.prog w K mg:={ moves:=moves,ways:=ways,more:=⟨⟨B2,u1,u2,u3,u4,nB2,W.mg_of X G aB2,lB2⟩⟩,nrange:=W.mg_none_of X G z_range,nlen:=W.mg_none_of X G z_len,nmin:=W.mg_none_of X G z_min,nsorted:=W.mg_none_of X G z_sorted,ntuple:=W.mg_none_of X G z_tuple,nint:=W.mg_none_of X G z_int,nbool:=W.mg_none_of X G z_bool,nstr:=W.mg_none_of X G z_str,nall:=W.mg_none_of X G z_all,nisinstance:=W.mg_none_of X G z_isinstance,nlist:=W.mg_none_of X G z_list,nsum:=W.mg_none_of X G z_sum,nenumerate:=W.mg_none_of X G z_enumerate,nzip:=W.mg_none_of X G z_zip }
 have F0:=zax (st:=zbh) l0 c0 k0
 have b0:=F0.binds (ps:=["cell"]) fun _ _ _ _ _ _ us hl=>match us,hl with | [_],_=>rfl
 have d_cell_order:Df K mg "cell_order" zbh ["cell"]:=⟨f0,_,F0,W.mg_of X G a0,b0⟩
 have F1:=zax (st:=za2) l1 c1 k1
 have b1:=F1.binds (ps:=["picture"]) fun _ _ _ _ _ _ us hl=>match us,hl with | [_],_=>rfl
 have d_ask_picture:Df K mg "ask_picture" za2 ["picture"]:=⟨f1,_,F1,W.mg_of X G a1,b1⟩
 have F2:=zax (st:=zdJ) l2 c2 k2
 have b2:=F2.binds (ps:=["x","y","step"]) fun _ _ _ _ _ _ us hl=>match us,hl with | [_,_,_],_=>rfl
 have d_gone:Df K mg "gone" zdJ ["x","y","step"]:=⟨f2,_,F2,W.mg_of X G a2,b2⟩
 have F3:=zax (st:=zaW) l3 c3 k3
 have b3:=F3.binds (ps:=["picture"]) fun _ _ _ _ _ _ us hl=>match us,hl with | [_],_=>rfl
 have d_cell_table:Df K mg "cell_table" zaW ["picture"]:=⟨f3,_,F3,W.mg_of X G a3,b3⟩
 have F4:=zax (st:=zbf) l4 c4 k4
 have b4:=F4.binds (ps:=["edge"]) fun _ _ _ _ _ _ us hl=>match us,hl with | [_],_=>rfl
 have d_gap_beside:Df K mg "gap_beside" zbf ["edge"]:=⟨f4,_,F4,W.mg_of X G a4,b4⟩
 have F5:=zax (st:=za3) l5 c5 k5
 have b5:=F5.binds (ps:=["picture"]) fun _ _ _ _ _ _ us hl=>match us,hl with | [_],_=>rfl
 have d_all_edges:Df K mg "all_edges" za3 ["picture"]:=⟨f5,_,F5,W.mg_of X G a5,b5⟩
 have F6:=zax (st:=zaL) l6 c6 k6
 have b6:=F6.binds (ps:=["way"]) fun _ _ _ _ _ _ us hl=>match us,hl with | [_],_=>rfl
 have d_straight_step:Df K mg "straight_step" zaL ["way"]:=⟨f6,_,F6,W.mg_of X G a6,b6⟩
 have F7:=zax (st:=zbd) l7 c7 k7
 have b7:=F7.binds (ps:=["way"]) fun _ _ _ _ _ _ us hl=>match us,hl with | [_],_=>rfl
 have d_slant_step:Df K mg "slant_step" zbd ["way"]:=⟨f7,_,F7,W.mg_of X G a7,b7⟩
 have F8:=zax (st:=zaX) l8 c8 k8
 have b8:=F8.binds (ps:=["table","edge"]) fun _ _ _ _ _ _ us hl=>match us,hl with | [_,_],_=>rfl
 have d_step_behind:Df K mg "step_behind" zaX ["table","edge"]:=⟨f8,_,F8,W.mg_of X G a8,b8⟩
 have F9:=zax (st:=zbQ) l9 c9 k9
 have b9:=F9.binds (ps:=["step"]) fun _ _ _ _ _ _ us hl=>match us,hl with | [_],_=>rfl
 have d_is_slant:Df K mg "is_slant" zbQ ["step"]:=⟨f9,_,F9,W.mg_of X G a9,b9⟩
 have F10:=zax (st:=za0) l10 c10 k10
 have b10:=F10.binds (ps:=["edge","step"]) fun _ _ _ _ _ _ us hl=>match us,hl with | [_,_],_=>rfl
 have d_edge_behind:Df K mg "edge_behind" za0 ["edge","step"]:=⟨f10,_,F10,W.mg_of X G a10,b10⟩
 have F11:=zax (st:=zbt) l11 c11 k11
 have b11:=F11.binds (ps:=["table","begin"]) fun _ _ _ _ _ _ us hl=>match us,hl with | [_,_],_=>rfl
 have d_walk_from:Df K mg "walk_from" zbt ["table","begin"]:=⟨f11,_,F11,W.mg_of X G a11,b11⟩
 have F12:=zax (st:=zas) l12 c12 k12
 have b12:=F12.binds (ps:=["walk"]) fun _ _ _ _ _ _ us hl=>match us,hl with | [_],_=>rfl
 have d_lefts_and_slants:Df K mg "lefts_and_slants" zas ["walk"]:=⟨f12,_,F12,W.mg_of X G a12,b12⟩
 have F13:=zax (st:=zaw) l13 c13 k13
 have b13:=F13.binds (ps:=["walk"]) fun _ _ _ _ _ _ us hl=>match us,hl with | [_],_=>rfl
 have d_lefts_less_slants:Df K mg "lefts_less_slants" zaw ["walk"]:=⟨f13,_,F13,W.mg_of X G a13,b13⟩
 have F14:=zax (st:=zb6) l14 c14 k14
 have b14:=F14.binds (ps:=["walk"]) fun _ _ _ _ _ _ us hl=>match us,hl with | [_],_=>rfl
 have d_sort_of:Df K mg "sort_of" zb6 ["walk"]:=⟨f14,_,F14,W.mg_of X G a14,b14⟩
 have F15:=zax (st:=zbC) l15 c15 k15
 have b15:=F15.binds (ps:=["walk","sort"]) fun _ _ _ _ _ _ us hl=>match us,hl with | [_,_],_=>rfl
 have d_begin_of:Df K mg "begin_of" zbC ["walk","sort"]:=⟨f15,_,F15,W.mg_of X G a15,b15⟩
 have F16:=zax (st:=za7) l16 c16 k16
 have b16:=F16.binds (ps:=["walk"]) fun _ _ _ _ _ _ us hl=>match us,hl with | [_],_=>rfl
 have d_round_of:Df K mg "round_of" za7 ["walk"]:=⟨f16,_,F16,W.mg_of X G a16,b16⟩
 have F17:=zax (st:=zaY) l17 c17 k17
 have b17:=F17.binds (ps:=["one"]) fun _ _ _ _ _ _ us hl=>match us,hl with | [_],_=>rfl
 have d_round_order:Df K mg "round_order" zaY ["one"]:=⟨f17,_,F17,W.mg_of X G a17,b17⟩
 have F18:=zax (st:=zaO) l18 c18 k18
 have b18:=F18.binds (ps:=["table","edges"]) fun _ _ _ _ _ _ us hl=>match us,hl with | [_,_],_=>rfl
 have d_rounds_along:Df K mg "rounds_along" zaO ["table","edges"]:=⟨f18,_,F18,W.mg_of X G a18,b18⟩
 have F19:=zax (st:=zcn) l19 c19 k19
 have b19:=F19.binds (ps:=["picture"]) fun _ _ _ _ _ _ us hl=>match us,hl with | [_],_=>rfl
 have d_rounds:Df K mg "rounds" zcn ["picture"]:=⟨f19,_,F19,W.mg_of X G a19,b19⟩
 have F20:=zax (st:=zbi) l20 c20 k20
 have b20:=F20.binds (ps:=["one"]) fun _ _ _ _ _ _ us hl=>match us,hl with | [_],_=>rfl
 have d_begin_edge:Df K mg "begin_edge" zbi ["one"]:=⟨f20,_,F20,W.mg_of X G a20,b20⟩
 have F21:=zax (st:=zb3) l21 c21 k21
 have b21:=F21.binds (ps:=["step"]) fun _ _ _ _ _ _ us hl=>match us,hl with | [_],_=>rfl
 have d_way_for:Df K mg "way_for" zb3 ["step"]:=⟨f21,_,F21,W.mg_of X G a21,b21⟩
 have F22:=zax (st:=za1) l22 c22 k22
 have b22:=F22.binds (ps:=["begin_way","row"]) fun _ _ _ _ _ _ us hl=>match us,hl with | [_,_],_=>rfl
 have d_deeds_along:Df K mg "deeds_along" za1 ["begin_way","row"]:=⟨f22,_,F22,W.mg_of X G a22,b22⟩
 have F23:=zax (st:=zb5) l23 c23 k23
 have b23:=F23.binds (ps:=["begin","deeds"]) fun _ _ _ _ _ _ us hl=>match us,hl with | [_,_],_=>rfl
 have d_walk_by:Df K mg "walk_by" zb5 ["begin","deeds"]:=⟨f23,_,F23,W.mg_of X G a23,b23⟩
 have F24:=zax (st:=zbc) l24 c24 k24
 have b24:=F24.binds (ps:=["begin","row"]) fun _ _ _ _ _ _ us hl=>match us,hl with | [_,_],_=>rfl
 have d_walk_along:Df K mg "walk_along" zbc ["begin","row"]:=⟨f24,_,F24,W.mg_of X G a24,b24⟩
 have F25:=zax (st:=zaN) l25 c25 k25
 have b25:=F25.binds (ps:=["edge","step"]) fun _ _ _ _ _ _ us hl=>match us,hl with | [_,_],_=>rfl
 have d_seen_between:Df K mg "seen_between" zaN ["edge","step"]:=⟨f25,_,F25,W.mg_of X G a25,b25⟩
 have F26:=zax (st:=zaZ) l26 c26 k26
 have b26:=F26.binds (ps:=["walk"]) fun _ _ _ _ _ _ us hl=>match us,hl with | [_],_=>rfl
 have d_gainsaid_at:Df K mg "gainsaid_at" zaZ ["walk"]:=⟨f26,_,F26,W.mg_of X G a26,b26⟩
 have F27:=zax (st:=zbg) l27 c27 k27
 have b27:=F27.binds (ps:=["walk"]) fun _ _ _ _ _ _ us hl=>match us,hl with | [_],_=>rfl
 have d_comes_back:Df K mg "comes_back" zbg ["walk"]:=⟨f27,_,F27,W.mg_of X G a27,b27⟩
 have F28:=zax (st:=zbu) l28 c28 k28
 have b28:=F28.binds (ps:=["walk","sort"]) fun _ _ _ _ _ _ us hl=>match us,hl with | [_,_],_=>rfl
 have d_is_closed:Df K mg "is_closed" zbu ["walk","sort"]:=⟨f28,_,F28,W.mg_of X G a28,b28⟩
 have F29:=zax (st:=zb4) l29 c29 k29
 have b29:=F29.binds (ps:=["one"]) fun _ _ _ _ _ _ us hl=>match us,hl with | [_],_=>rfl
 have d_walk_of:Df K mg "walk_of" zb4 ["one"]:=⟨f29,_,F29,W.mg_of X G a29,b29⟩
 have F30:=zax (st:=zbB) l30 c30 k30
 have b30:=F30.binds (ps:=["one"]) fun _ _ _ _ _ _ us hl=>match us,hl with | [_],_=>rfl
 have d_edges_of:Df K mg "edges_of" zbB ["one"]:=⟨f30,_,F30,W.mg_of X G a30,b30⟩
 have F31:=zax (st:=zbP) l31 c31 k31
 have b31:=F31.binds (ps:=["edges"]) fun _ _ _ _ _ _ us hl=>match us,hl with | [_],_=>rfl
 have d_uprights:Df K mg "uprights" zbP ["edges"]:=⟨f31,_,F31,W.mg_of X G a31,b31⟩
 have F32:=zax (st:=zaF) l32 c32 k32
 have b32:=F32.binds (ps:=["one"]) fun _ _ _ _ _ _ us hl=>match us,hl with | [_],_=>rfl
 have d_cells_within:Df K mg "cells_within" zaF ["one"]:=⟨f32,_,F32,W.mg_of X G a32,b32⟩
 have F33:=zax (st:=zaV) l33 c33 k33
 have b33:=F33.binds (ps:=["some"]) fun _ _ _ _ _ _ us hl=>match us,hl with | [_],_=>rfl
 have d_cells_told:Df K mg "cells_told" zaV ["some"]:=⟨f33,_,F33,W.mg_of X G a33,b33⟩
 have F34:=zax (st:=zaP) l34 c34 k34
 have b34:=F34.binds (ps:=["some","others"]) fun _ _ _ _ _ _ us hl=>match us,hl with | [_,_],_=>rfl
 have d_first_unlike:Df K mg "first_unlike" zaP ["some","others"]:=⟨f34,_,F34,W.mg_of X G a34,b34⟩
 have F35:=zax (st:=zbe) l35 c35 k35
 have b35:=F35.binds (ps:=["some"]) fun _ _ _ _ _ _ us hl=>match us,hl with | [_],_=>rfl
 have d_picture_of:Df K mg "picture_of" zbe ["some"]:=⟨f35,_,F35,W.mg_of X G a35,b35⟩
 have F36:=zax (st:=zaQ) l36 c36 k36
 have b36:=F36.binds (ps:=["_law_script","_law_k"]) fun _ _ _ _ _ _ us hl=>match us,hl with | [_,_],_=>rfl
 have d__law_cell_at:Df K mg "_law_cell_at" zaQ ["_law_script","_law_k"]:=⟨f36,_,F36,W.mg_of X G a36,b36⟩
 have F37:=zax (st:=zbR) l37 c37 k37
 have b37:=F37.binds (ps:=["_law_cell","_law_many","_law_base"]) fun _ _ _ _ _ _ us hl=>match us,hl with | [_,_,_],_=>rfl
 have d__law_row:Df K mg "_law_row" zbR ["_law_cell","_law_many","_law_base"]:=⟨f37,_,F37,W.mg_of X G a37,b37⟩
 have F38:=zax (st:=zaG) l38 c38 k38
 have b38:=F38.binds (ps:=["_law_script","_law_start"]) fun _ _ _ _ _ _ us hl=>match us,hl with | [_,_],_=>rfl
 have d__law_picture:Df K mg "_law_picture" zaG ["_law_script","_law_start"]:=⟨f38,_,F38,W.mg_of X G a38,b38⟩
 have F39:=zax (st:=s_law) l39 c39 k39
 have b39:=F39.binds (ps:=["_law_script"]) fun _ _ _ _ _ _ us hl=>match us,hl with | [_],_=>rfl
 refine⟨W.fnOf "law" "law" (zan s_law) (zal s_law) (zab s_law) .none kV39 dc39 pm39 an39 cd39 ct39,fun s v=>.of_eq rfl,fun base _ _=>?_⟩
 have g_cell_order:=d_cell_order.fn (P:=l.prog) (w:=w) (base:=base) (ze7 d_cell_order)
 have g_gone:=d_gone.fn (P:=l.prog) (w:=w) (base:=base) (zk4 T d_gone)
 have g_straight_step:=d_straight_step.fn (P:=l.prog) (w:=w) (base:=base) (zds d_straight_step)
 have g_slant_step:=d_slant_step.fn (P:=l.prog) (w:=w) (base:=base) (ze1 d_slant_step)
 have g_is_slant:=d_is_slant.fn (P:=l.prog) (w:=w) (base:=base) (zgC d_is_slant)
 have g_gap_beside:=d_gap_beside.fn (P:=l.prog) (w:=w) (base:=base) (ze3 g_gone d_gap_beside)
 have g_ask_picture:=d_ask_picture.fn (P:=l.prog) (w:=w) (base:=base) (zee T g_cell_order d_ask_picture)
 have g_cell_table:=d_cell_table.fn (P:=l.prog) (w:=w) (base:=base) (ze6 d_cell_table)
 have g_step_behind:=d_step_behind.fn (P:=l.prog) (w:=w) (base:=base) (zd7 g_gone g_slant_step g_straight_step d_step_behind)
 have g_edge_behind:=d_edge_behind.fn (P:=l.prog) (w:=w) (base:=base) (zec g_gone g_is_slant d_edge_behind)
 have g_all_edges:=d_all_edges.fn (P:=l.prog) (w:=w) (base:=base) (zfO T g_cell_table g_gap_beside d_all_edges)
 have g_walk_from:=d_walk_from.fn (P:=l.prog) (w:=w) (base:=base) (zfM g_step_behind g_edge_behind d_walk_from)
 have g_lefts_and_slants:=d_lefts_and_slants.fn (P:=l.prog) (w:=w) (base:=base) (zcO T g_is_slant d_lefts_and_slants)
 have g_lefts_less_slants:=d_lefts_less_slants.fn (P:=l.prog) (w:=w) (base:=base) (zcG g_lefts_and_slants d_lefts_less_slants)
 have g_sort_of:=d_sort_of.fn (P:=l.prog) (w:=w) (base:=base) (zhJ g_lefts_less_slants d_sort_of)
 have g_begin_of:=d_begin_of.fn (P:=l.prog) (w:=w) (base:=base) (zgE T g_cell_order d_begin_of)
 have g_round_of:=d_round_of.fn (P:=l.prog) (w:=w) (base:=base) (zgB T g_sort_of g_begin_of d_round_of)
 have g_round_order:=d_round_order.fn (P:=l.prog) (w:=w) (base:=base) (zd8 d_round_order)
 have g_rounds_along:=d_rounds_along.fn (P:=l.prog) (w:=w) (base:=base) (zdO T g_walk_from g_round_of g_round_order d_rounds_along)
 have g_rounds:=d_rounds.fn (P:=l.prog) (w:=w) (base:=base) (ziM T g_ask_picture g_cell_table g_all_edges g_rounds_along d_rounds)
 have g_begin_edge:=d_begin_edge.fn (P:=l.prog) (w:=w) (base:=base) (ze8 T d_begin_edge)
 have g_way_for:=d_way_for.fn (P:=l.prog) (w:=w) (base:=base) (zhG d_way_for)
 have g_deeds_along:=d_deeds_along.fn (P:=l.prog) (w:=w) (base:=base) (zed g_way_for d_deeds_along)
 have g_walk_by:=d_walk_by.fn (P:=l.prog) (w:=w) (base:=base) (zhI g_edge_behind d_walk_by)
 have g_walk_along:=d_walk_along.fn (P:=l.prog) (w:=w) (base:=base) (ze0 g_walk_by g_deeds_along d_walk_along)
 have g_seen_between:=d_seen_between.fn (P:=l.prog) (w:=w) (base:=base) (zdN g_edge_behind g_gap_beside g_is_slant g_gone g_slant_step g_straight_step d_seen_between)
 have g_gainsaid_at:=d_gainsaid_at.fn (P:=l.prog) (w:=w) (base:=base) (zeb g_seen_between d_gainsaid_at)
 have g_comes_back:=d_comes_back.fn (P:=l.prog) (w:=w) (base:=base) (ze4 g_edge_behind d_comes_back)
 have g_is_closed:=d_is_closed.fn (P:=l.prog) (w:=w) (base:=base) (zfN T g_comes_back g_lefts_less_slants d_is_closed)
 have g_walk_of:=d_walk_of.fn (P:=l.prog) (w:=w) (base:=base) (zhH g_begin_edge g_walk_along g_gainsaid_at g_is_closed g_begin_of d_walk_of)
 have g_edges_of:=d_edges_of.fn (P:=l.prog) (w:=w) (base:=base) (zgD g_walk_of d_edges_of)
 have g_uprights:=d_uprights.fn (P:=l.prog) (w:=w) (base:=base) (zgA T d_uprights)
 have g_cells_within:=d_cells_within.fn (P:=l.prog) (w:=w) (base:=base) (zdQ T g_edges_of g_uprights d_cells_within)
 have g_cells_told:=d_cells_told.fn (P:=l.prog) (w:=w) (base:=base) (ze5 T g_cells_within g_cell_order d_cells_told)
 have g_first_unlike:=d_first_unlike.fn (P:=l.prog) (w:=w) (base:=base) (zdP T d_first_unlike)
 have g_picture_of:=d_picture_of.fn (P:=l.prog) (w:=w) (base:=base) (ze2 g_cells_told g_first_unlike g_rounds d_picture_of)
 have g__law_cell_at:=d__law_cell_at.fn (P:=l.prog) (w:=w) (base:=base) (zea T d__law_cell_at)
 have g__law_row:=d__law_row.fn (P:=l.prog) (w:=w) (base:=base) (zhK T d__law_row)
 have g__law_picture:=d__law_picture.fn (P:=l.prog) (w:=w) (base:=base) (zd9 T g__law_cell_at g__law_row d__law_picture)
 exact zlR T g__law_picture g_rounds g_picture_of ⟨_,_,F39,W.mg_of X G a39,b39⟩
theorem walk {l : W.OpenLaw}{q : Program}{loose : List Str}{XP : (Str → Option Value) → Heap → Prop}{YP : World → Heap → Prop}{d : DefRec}{K : Params → W.Frag}(hn : l.most = some 63) (hdf : d.params.defaults = [])
  (hY:∀ (w:World) (h:Heap),YP w h→(K w.params).In h)
  (F:∀ (w:World) (mg:Str→Option Value) (fa:Addr) (h:Heap),(K w.params).In h→h.Ns mainGlobals mg→mg d.name=some (.ref fa) →
   ∃ fd:FuncData,(∀ (s:Shared) (u:Value),BindsTo s fd ⟨[u],[]⟩ [("_law_script",u)])∧∀ base:Heap,(K w.params).In base→base.Ns mainGlobals mg→FnOk l.prog w (K w.params) mg base CX0 10 fa fd ["_law_script"] (spLaw (K w.params))) :
  W.WalkO q loose XP YP l.row.toRowW d [] (fun f vs=>PySem.call f vs) :=
 L2.walk_of (n:=63) (k:=10) (x:="_law_script") (CX:=fun _=>CX0) (sp:=fun w=>spLaw (K w.params)) hn (by decide) hdf ⟨rfl,by decide,by decide⟩ hY F (fun _ _ a ns hl _ hS=>⟨a,ns,rfl,hS,hl,fun _=>rfl⟩) fun _ _ _ _ _ z=>z
end RR
namespace PySem.W.Fast
def tw3053534756732284386:=()
def tw15378162163561161568:=()
def tw14188758070579335841:=()
def tw10655277023674811125:=()
def tw13777075300262620651:=()
def tw4116268592001928718:=()
def tw1990092803110439231:=()
def tw15156509962730665807:=()
def tw1199920114384401014:=()
def tw13899603471581909088:=()
def tw3474128121091977051:=()
def tw16555300646275764644:=()
def tw7571652345613151545:=()
def tw11713936525675638238:=()
def tw3131118740151403556:=()
def tw3023465324412952431:=()
def tw11979931859339082376:=()
def tw16257728196762377269:=()
def tw13294692664354762281:=()
def tw5777090027795862044:=()
def tw10942195017274697614:=()
def tw12532532754520734532:=()
def tw13185236136277032720:=()
def tw993059729034457422:=()
def tw9254674386901952131:=()
def tw13957792209610699986:=()
def tw9192182034194592251:=()
def tw14968648612613540341:=()
def tw11290275926976311656:=()
def tw3010515832447774573:=()
def tw13766645678337014277:=()
def tw13620734942640984541:=()
def tw5381988010921157306:=()
def tw2787554681828642408:=()
def tw10482311411595557931:=()
def tw8138388673078647033:=()
def tw849380459396388762:=()
def tw16671627446503969289:=()
def tw11290038733320188936:=()
def tw4715873846680381969:=()
def tw3856332385705684376:=()
def tw343677492314417991:=()
def tw1750258696688434428:=()
def tw8607547847510547659:=()
def tw13582938418939835796:=()
def tw8028723836741046946:=()
def tw3926761548175654895:=()
def tw14473678016597315672:=()
def tw17538093427820488736:=()
def tw6450150043324665443:=()
def tw2038644453617903195:=()
def tw1459825439891459171:=()
def tw13982696988024580043:=()
def tw15176692715906726125:=()
def tw18378647325474453771:=()
def tw3589961597600219611:=()
def tw12730269949253496724:=()
def tw6417896238605176078:=()
def tw10806550440362059477:=()
def tw6050787681884159246:=()
def tw7130663043383186842:=()
def tw15615636306340955363:=()
def tw15872845483224996894:=()
def tw3872453100394369806:=()
def tw5923457813105503008:=()
def tw1615929055414387410:=()
def tw3009303303554845554:=()
def tw3650188689173522842:=()
def tw14038141056612592249:=()
def tw5227685152282471939:=()
def tw14809300018244808423:=()
def tw14096006300218827375:=()
def tw445184732767275686:=()
def tw9508698510094647188:=()
def tw18153340403649021396:=()
def tw3410833225231502426:=()
def tw14650751596826147114:=()
def tw9462939503837587574:=()
def tw75478975866334742:=()
def tw4199418486452227582:=()
def tw15519595764755750062:=()
def tw12062206502364863260:=()
def tw15810826407640399393:=()
def tw11885218786422093368:=()
def tw12977034042894186320:=()
def tw16503866868927171841:=()
def tw2101563011580540526:=()
def tw17466003936126475563:=()
def tw1564327785752037585:=()
def tw7078132459375672674:=()
def tw15702294905529292577:=()
def tw7511158153948628511:=()
def tw3917400282380099097:=()
def tw1765777513085477170:=()
def tw11415036272752931523:=()
def tw6328292500039082233:=()
def tw3173616454563108088:=()
def tw815366031552616144:=()
def tw3979594144903977647:=()
def tw16071225556041030813:=()
def tw14886825144136950580:=()
def tw2082602210192993532:=()
def tw4173325001491781187:=()
def tw6500710767375480968:=()
def tw2862965440726655780:=()
def tw11941895115459254100:=()
def tw18069185260964472266:=()
def tw16865196255742620132:=()
def tw14459289393797479458:=()
def tw14012467833310865811:=()
def tw18322455925916326768:=()
def tw1034797717917844405:=()
def tw14919905285752379851:=()
def tw18141302433381010233:=()
def tw4919561985847943763:=()
def tw15338023868782418715:=()
def tw17449824432330929629:=()
def tw11245458130004661421:=()
def tw2144750455826742754:=()
def tw9985171946221020385:=()
def tw3885651575654208405:=()
def tw11275255305557905661:=()
def tw6901672062615687679:=()
def tw6839957359217226286:=()
def tw8157830478065561943:=()
def tw2996278516558259872:=()
def tw12593721818864143577:=()
def tw16127388089171457094:=()
def tw18163979722562112378:=()
def tw9479333548599979816:=()
def tw18241972851094380572:=()
def tw19582278115802934:=()
def tw7101295097430768675:=()
def tw3694647430778249254:=()
def tw7390681296456647176:=()
def tw3540654687176663950:=()
def tw8812732197096618402:=()
def tw6612542638922768846:=()
def tw14904144855438128700:=()
def tw9327691859534228447:=()
def tw12845000919321294227:=()
def tw7338809985485585618:=()
def tw370188318621055633:=()
def tw17104674117568181173:=()
def tw13397452748672013194:=()
def tw163518336838412163:=()
def tw16554539671591483267:=()
def tw11039470234142270984:=()
def tw13993307048458409155:=()
def tw17867206710169895294:=()
def tw8178988451286644200:=()
def tw16860956316322692067:=()
def tw3040714413678225684:=()
def tw4743911313940881427:=()
def tw7767447364348410482:=()
def tw6974793796174181066:=()
def tw5876303244132387855:=()
def tw16152283481976526493:=()
def tw14481337169695326103:=()
def tw15584722559323467129:=()
def tw4526729318365801604:=()
def tw961977738410466168:=()
def tw18310769473842266056:=()
def tw15561163759861129435:=()
def tw15667116446150017992:=()
def tw10787018462103831369:=()
def tw9458460263784150082:=()
def tw17404050113476900571:=()
def tw7686201992459233512:=()
def tw11832254110530073147:=()
def tw16777607247381688531:=()
def tw10006291096763074675:=()
def tw11636635428924457956:=()
def tw11873906103537940414:=()
def tw6863142029141737852:=()
def tw14473868551798645042:=()
def tw8949137041091760917:=()
def tw12581066818428846156:=()
def tw8642176126329046999:=()
def tw1712656969783086623:=()
def tw15409566805605828135:=()
def tw12377651163811921642:=()
def tw5349435219637142520:=()
def tw10820313761873950410:=()
def tw14407284200855302645:=()
def tw1736732220214198293:=()
def tw5158935717790055512:=()
def tw2176360180887449288:=()
def tw12823237457790426255:=()
def tw5725764368873922015:=()
def tw12401614144646300011:=()
def tw1902234244200401905:=()
def tw105464039640623194:=()
def tw3188664839216731283:=()
end PySem.W.Fast
open PySem PySem.W PyProof.Rows
set_option maxRecDepth 100000 in
set_option maxHeartbeats 0 in
theorem PySem.Challenge.cw_rimsteps_k13_whole_told_back_holds : PySem.Challenge.rw_rimsteps_k13_whole_told_back.Holds := by
 w_on;o_law;k_head;(case hw=>w_witness2)
 k_fill
 refine RR.walk (l:=PySem.Challenge.rw_rimsteps_k13_whole_told_back) rfl rfl (fun w h Y=>W.kIn_of Y) ?F
 case F =>
  intro w mg fa h KX G hmg
  refine' RR.all_mk KX G hmg ?a0 ?l0 ?c0 ?k0 ?a1 ?l1 ?c1 ?k1 ?a2 ?l2 ?c2 ?k2 ?a3 ?l3 ?c3 ?k3 ?a4 ?l4 ?c4 ?k4 ?a5 ?l5 ?c5 ?k5 ?a6 ?l6 ?c6 ?k6 ?a7 ?l7 ?c7 ?k7 ?a8 ?l8 ?c8 ?k8 ?a9 ?l9 ?c9 ?k9 ?a10 ?l10 ?c10 ?k10 ?a11 ?l11 ?c11 ?k11 ?a12 ?l12 ?c12 ?k12 ?a13 ?l13 ?c13 ?k13 ?a14 ?l14 ?c14 ?k14 ?a15 ?l15 ?c15 ?k15 ?a16 ?l16 ?c16 ?k16 ?a17 ?l17 ?c17 ?k17 ?a18 ?l18 ?c18 ?k18 ?a19 ?l19 ?c19 ?k19 ?a20 ?l20 ?c20 ?k20 ?a21 ?l21 ?c21 ?k21 ?a22 ?l22 ?c22 ?k22 ?a23 ?l23 ?c23 ?k23 ?a24 ?l24 ?c24 ?k24 ?a25 ?l25 ?c25 ?k25 ?a26 ?l26 ?c26 ?k26 ?a27 ?l27 ?c27 ?k27 ?a28 ?l28 ?c28 ?k28 ?a29 ?l29 ?c29 ?k29 ?a30 ?l30 ?c30 ?k30 ?a31 ?l31 ?c31 ?k31 ?a32 ?l32 ?c32 ?k32 ?a33 ?l33 ?c33 ?k33 ?a34 ?l34 ?c34 ?k34 ?a35 ?l35 ?c35 ?k35 ?a36 ?l36 ?c36 ?k36 ?a37 ?l37 ?c37 ?k37 ?a38 ?l38 ?c38 ?k38 ?a39 ?l39 ?c39 ?k39 ?aM ?lM ?x0 ?x1 ?x2 ?x3 ?x4 ?x5 ?x6 ?x7 ?aB ?lB ?aB2 ?lB2 ?z_range ?z_len ?z_min ?z_sorted ?z_tuple ?z_int ?z_bool ?z_str ?z_all ?z_isinstance ?z_list ?z_sum ?z_enumerate ?z_zip
  (case a0=>k_is)
  (case l0=>k_is)
  (case c0=>k_is)
  (case k0=>k_is)
  (case a1=>k_is)
  (case l1=>k_is)
  (case c1=>k_is)
  (case k1=>k_is)
  (case a2=>k_is)
  (case l2=>k_is)
  (case c2=>k_is)
  (case k2=>k_is)
  (case a3=>k_is)
  (case l3=>k_is)
  (case c3=>k_is)
  (case k3=>k_is)
  (case a4=>k_is)
  (case l4=>k_is)
  (case c4=>k_is)
  (case k4=>k_is)
  (case a5=>k_is)
  (case l5=>k_is)
  (case c5=>k_is)
  (case k5=>k_is)
  (case a6=>k_is)
  (case l6=>k_is)
  (case c6=>k_is)
  (case k6=>k_is)
  (case a7=>k_is)
  (case l7=>k_is)
  (case c7=>k_is)
  (case k7=>k_is)
  (case a8=>k_is)
  (case l8=>k_is)
  (case c8=>k_is)
  (case k8=>k_is)
  (case a9=>k_is)
  (case l9=>k_is)
  (case c9=>k_is)
  (case k9=>k_is)
  (case a10=>k_is)
  (case l10=>k_is)
  (case c10=>k_is)
  (case k10=>k_is)
  (case a11=>k_is)
  (case l11=>k_is)
  (case c11=>k_is)
  (case k11=>k_is)
  (case a12=>k_is)
  (case l12=>k_is)
  (case c12=>k_is)
  (case k12=>k_is)
  (case a13=>k_is)
  (case l13=>k_is)
  (case c13=>k_is)
  (case k13=>k_is)
  (case a14=>k_is)
  (case l14=>k_is)
  (case c14=>k_is)
  (case k14=>k_is)
  (case a15=>k_is)
  (case l15=>k_is)
  (case c15=>k_is)
  (case k15=>k_is)
  (case a16=>k_is)
  (case l16=>k_is)
  (case c16=>k_is)
  (case k16=>k_is)
  (case a17=>k_is)
  (case l17=>k_is)
  (case c17=>k_is)
  (case k17=>k_is)
  (case a18=>k_is)
  (case l18=>k_is)
  (case c18=>k_is)
  (case k18=>k_is)
  (case a19=>k_is)
  (case l19=>k_is)
  (case c19=>k_is)
  (case k19=>k_is)
  (case a20=>k_is)
  (case l20=>k_is)
  (case c20=>k_is)
  (case k20=>k_is)
  (case a21=>k_is)
  (case l21=>k_is)
  (case c21=>k_is)
  (case k21=>k_is)
  (case a22=>k_is)
  (case l22=>k_is)
  (case c22=>k_is)
  (case k22=>k_is)
  (case a23=>k_is)
  (case l23=>k_is)
  (case c23=>k_is)
  (case k23=>k_is)
  (case a24=>k_is)
  (case l24=>k_is)
  (case c24=>k_is)
  (case k24=>k_is)
  (case a25=>k_is)
  (case l25=>k_is)
  (case c25=>k_is)
  (case k25=>k_is)
  (case a26=>k_is)
  (case l26=>k_is)
  (case c26=>k_is)
  (case k26=>k_is)
  (case a27=>k_is)
  (case l27=>k_is)
  (case c27=>k_is)
  (case k27=>k_is)
  (case a28=>k_is)
  (case l28=>k_is)
  (case c28=>k_is)
  (case k28=>k_is)
  (case a29=>k_is)
  (case l29=>k_is)
  (case c29=>k_is)
  (case k29=>k_is)
  (case a30=>k_is)
  (case l30=>k_is)
  (case c30=>k_is)
  (case k30=>k_is)
  (case a31=>k_is)
  (case l31=>k_is)
  (case c31=>k_is)
  (case k31=>k_is)
  (case a32=>k_is)
  (case l32=>k_is)
  (case c32=>k_is)
  (case k32=>k_is)
  (case a33=>k_is)
  (case l33=>k_is)
  (case c33=>k_is)
  (case k33=>k_is)
  (case a34=>k_is)
  (case l34=>k_is)
  (case c34=>k_is)
  (case k34=>k_is)
  (case a35=>k_is)
  (case l35=>k_is)
  (case c35=>k_is)
  (case k35=>k_is)
  (case a36=>k_is)
  (case l36=>k_is)
  (case c36=>k_is)
  (case k36=>k_is)
  (case a37=>k_is)
  (case l37=>k_is)
  (case c37=>k_is)
  (case k37=>k_is)
  (case a38=>k_is)
  (case l38=>k_is)
  (case c38=>k_is)
  (case k38=>k_is)
  (case a39=>k_is)
  (case l39=>k_is)
  (case c39=>k_is)
  (case k39=>k_is)
  (case aM=>k_is)
  (case lM=>k_is)
  (case x0=>k_is)
  (case x1=>k_is)
  (case x2=>k_is)
  (case x3=>k_is)
  (case x4=>k_is)
  (case x5=>k_is)
  (case x6=>k_is)
  (case x7=>k_is)
  (case aB=>k_is)
  (case lB=>k_is)
  (case aB2=>k_is)
  (case lB2=>k_is)
  (case z_range=>k_is)
  (case z_len=>k_is)
  (case z_min=>k_is)
  (case z_sorted=>k_is)
  (case z_tuple=>k_is)
  (case z_int=>k_is)
  (case z_bool=>k_is)
  (case z_str=>k_is)
  (case z_all=>k_is)
  (case z_isinstance=>k_is)
  (case z_list=>k_is)
  (case z_sum=>k_is)
  (case z_enumerate=>k_is)
  (case z_zip=>k_is)

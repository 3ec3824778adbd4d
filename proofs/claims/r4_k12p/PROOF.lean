import PyProof.Rows.All
import Wide.All
import OpenK.AllK
import Wide.FinOn
import Lean
import PyProof.EqAt
import PyProof.EqKinds
import PyProof.TupleCall
import PySem.Challenge.RW_rimsteps_k12_cells_within
set_option Elab.async false
set_option linter.all false
set_option maxRecDepth 100000
namespace L2
open PySem PySem.Spec PyProof.Rows
abbrev Key:=Sum Int Str
def keyIs:Key->Value->Bool
 |.inl k,v=>Value.isInt k v
 |.inr x,v=>Value.isStrOf x v
def keyH(w:World):Key->Int
 |.inl k=>hashInt k
 |.inr x=>hashStr w x
theorem zaU:∀{k:Key}{v:Value},keyIs k v=true->(∃i t,k=Sum.inl i/\v=Value.int i t)∨(∃x t,k=Sum.inr x/\v=Value.str x t)
 |.inl i,v,h=>by
  obtain⟨t,e⟩:=Value.isInt_shape (k:=i) (v:=v) h;exact .inl ⟨i,t,rfl,e⟩
 |.inr x,v,h=>by
  obtain⟨t,e⟩:=Value.isStrOf_shape (x:=x) (v:=v) h;exact .inr ⟨x,t,rfl,e⟩
theorem ziS(i:Int)(t:Tok):keyIs (.inl i) (.int i t)=true:=by simp[keyIs,Value.isInt]
theorem ziR(x:Str)(t:Tok):keyIs (.inr x) (.str x t)=true:=by simp[keyIs,Value.isStrOf]
theorem zlM(a b:Int):decide ((Sum.inl a:Key)=Sum.inl b)=(a == b):=by
 by_cases e:a=b
 .subst e;simp
 .have h:¬ (Sum.inl a:Key)=Sum.inl b:=fun q=>e (Sum.inl.inj q)
  rw[decide_eq_false h];exact (beq_eq_false_iff_ne.mpr e).symm
theorem zlJ(a b:Str):decide ((Sum.inr a:Key)=Sum.inr b)=decide (a=b):=by
 by_cases e:a=b
 .subst e;simp
 .have h:¬ (Sum.inr a:Key)=Sum.inr b:=fun q=>e (Sum.inr.inj q)
  rw[decide_eq_false h,decide_eq_false e]
theorem zlL(a:Int)(b:Str):decide ((Sum.inl a:Key)=Sum.inr b)=false:=decide_eq_false (fun q=>nomatch q)
theorem zlK(a:Str)(b:Int):decide ((Sum.inr a:Key)=Sum.inl b)=false:=decide_eq_false (fun q=>nomatch q)
def zaC(prog:Program)(w:World):PySem.KeyKind prog w Key where
 is:=keyIs
 hash:=keyH w
 inj:=fun v a b ha hb=>by
  rcases zaU ha with⟨i,t,rfl,rfl⟩ |⟨x,t,rfl,rfl⟩
  .rcases zaU hb with⟨j,u,rfl,e⟩ |⟨y,u,rfl,e⟩
   .injection e with e1 _;rw[e1]
   .exact nomatch e
  .rcases zaU hb with⟨j,u,rfl,e⟩ |⟨y,u,rfl,e⟩
   .exact nomatch e
   .injection e with e1 _;rw[e1]
 byValue:=fun k v h=>by rcases zaU h with⟨i,t,rfl,rfl⟩ |⟨x,t,rfl,rfl⟩ <;> rfl
 pyHash:=fun hv h=>by
  rcases zaU hv with⟨i,t,rfl,rfl⟩ |⟨x,t,rfl,rfl⟩
  .exact wpAny_pyHash_int h
  .exact wpAny_pyHash_str h
 eqBool:=fun hu hv h=>by
  rcases zaU hu with⟨i,t,rfl,rfl⟩ |⟨x,t,rfl,rfl⟩
  .rcases zaU hv with⟨j,u,rfl,rfl⟩ |⟨y,u,rfl,rfl⟩
   .rw[zlM]at h;exact wpAny_eqBool_int h
   .rw[zlL]at h;exact SeqAt.EqAt.int_str i t y u _ _ _ _ h
  .rcases zaU hv with⟨j,u,rfl,rfl⟩ |⟨y,u,rfl,rfl⟩
   .rw[zlK]at h;exact SeqAt.EqAt.str_int x t j u _ _ _ _ h
   .rw[zlJ]at h;exact wpAny_eqBool_str h
 «strs»:=fun k x t v h=>by
  rcases zaU h with⟨i,u,rfl,e⟩ |⟨y,u,rfl,e⟩
  .exact nomatch e
  .injection e with e1 _;subst e1
   cases v <;> rfl
theorem zgq(prog:Program)(w:World)(i:Int)(t:Tok):(zaC prog w).is (.inl i) (.int i t)=true:=ziS i t
theorem zb6(prog:Program)(w:World)(x:Str)(t:Tok):(zaC prog w).is (.inr x) (.str x t)=true:=ziR x t
inductive V where
 |non |bl (b:Bool) |int (i:Int) |str (x:Str) |byt (b:Array UInt8) |flt (b:UInt64) |ref (a:Addr) |ty (n:String)
 deriving DecidableEq
def RelV:V->Value->Prop
 |.non,u=>u=Value.none
 |.bl b,u=>u=Value.bool b
 |.int i,u=>∃t,u=Value.int i t
 |.str x,u=>∃t,u=Value.str x t
 |.byt b,u=>∃t,u=Value.bytes b t
 |.flt b,u=>∃t,u=Value.float b t
 |.ref a,u=>u=Value.ref a
 |.ty n,u=>u=Value.type n
abbrev Vals:List V->List Value->Prop:=Paired RelV
theorem Vals.length{xs:List V}{us:List Value}(r:Vals xs us):xs.length=us.length:=Paired.length r
theorem Vals.get:∀{xs:List V}{us:List Value}{i:Nat}{x:V},Vals xs us->xs[i]?=some x->∃u,us[i]?=some u/\RelV x u
 |_,_,_,_,.nil,e=>by simp at e
 |_,_,0,_,.cons r _,e=>by simp at e;subst e;exact⟨_,rfl,r⟩
 |_,_,i+1,x,.cons _ t,e=>by
  obtain⟨u,h1,h2⟩:=Vals.get (i:=i) (x:=x) t (by simpa using e);exact⟨u,by simpa using h1,h2⟩
theorem Vals.append:∀{xs ys:List V}{us ws:List Value},Vals xs us->Vals ys ws->Vals (xs++ys) (us++ws)
 |_,_,_,_,.nil,s=>s
 |_,_,_,_,.cons r t,s=>.cons r (Vals.append t s)
theorem Vals.take:∀{xs:List V}{us:List Value}(n:Nat),Vals xs us->Vals (xs.take n) (us.take n)
 |_,_,0,_=>.nil
 |_,_,_+1,.nil=>.nil
 |_,_,n+1,.cons r t=>.cons r (Vals.take n t)
theorem Vals.drop:∀{xs:List V}{us:List Value}(n:Nat),Vals xs us->Vals (xs.drop n) (us.drop n)
 |_,_,0,r=>r
 |_,_,_+1,.nil=>.nil
 |_,_,n+1,.cons _ t=>Vals.drop n t
def RelO:Option V->Option Value->Prop
 |some v,some u=>RelV v u
 |none,none=>True
 |_,_=>False
def KV{κ:Type}:List (κ×V)->List (κ×Value)->Prop:=Paired fun (p:κ×V) (q:κ×Value)=>p.1=q.1/\RelV p.2 q.2
def kV:Key->V
 |.inl i=>.int i
 |.inr x=>.str x
inductive HO where
 /-- a list -/
 |lst (xs:List V)
 /-- a tuple (never changes) -/
 |tup (xs:List V)
 /-- a dict whose keys are ints and texts;one whose keys are tuples of ints and texts (the empty one is both) -/
 |dK (kvs:List (Key×V)) |dT (kvs:List (List Key×V))
 /-- a set of ints: its members,its size -/
 |set (S:Int->Bool) (n:Nat)
 /-- an instance of the class at C,its dict at dx,its attributes -/
 |ins (C dx:Addr) (fs:List (Str×V))
 /-- the dict of the instance at x -/
 |own (x:Addr)
 /-- the dict of an exception -/
 |xd (fs:List (Str×V))
 /-- a bound method,f of x -/
 |met (f x:Addr)
 /-- a range object lo,lo+1,.. below hi -/
 |rng (lo hi:Int)
 /-- a thing that is known to the object (the script;a dict while a loop walks it): read,never written while it is so -/
 |frz (o:Obj) (u:HO)
 /-- a code object's table -/
 |tbl (ps:Array Value)
 /-- any other thing,by what is true of its one object (a def of one's own: SetO a S n:=HO.ext fun h=>..) -/
 |ext (φ:Heap->Prop)
abbrev Hp:=Addr->Option HO
def upd(H:Hp)(a:Addr)(o:HO):Hp:=fun b=>if b=a then some o else H b
theorem zaa{H:Hp}{a:Addr}{o:HO}:upd H a o a=some o:=by unfold upd;rw[if_pos rfl]
theorem zai{H:Hp}{a b:Addr}{o:HO}(h:b≠a):upd H a o b=H b:=by unfold upd;rw[if_neg h]
theorem zks{H:Hp}{a:Addr}{o u:HO}:upd (upd H a o) a u=upd H a u:=by
 funext b;unfold upd;split <;> rfl
theorem ne_of{H:Hp}{a b:Addr}{o u:HO}(h:H a=some o)(h':H b=some u)(d:o≠u):a≠b:=by intro e;subst e;rw[h]at h';exact d (Option.some.inj h')
theorem zam{H:Hp}{a b:Addr}{o:HO}(h:H a=some o)(h':H b=none):a≠b:=by intro e;subst e;rw[h]at h';cases h'
section
variable (P:Program) (w:World)
def ObjOk(H:Hp)(h:Heap)(a:Addr):HO->Prop
  |.lst xs=>xs.length<=sizeLine/\∃(its:List Value) (n:Nat),Vals xs its/\h.get? a=some { cls:=.type "list",data:=.seq its.toArray n }
  |.tup xs=>xs.length<=sizeLine/\∃its:List Value,Vals xs its/\IsTup h a its.toArray
  |.dK kvs=>kvs.length<=sizeLine/\(a == sysModules)=false/\∃vs,KV kvs vs/\h.DictOf (zaC P w) a vs
  |.dT kvs => kvs.length <= sizeLine /\ (a == sysModules)=false /\ ∃xs:List (List Key × Addr × Value),
      Paired (fun (p:List Key×V) (q:List Key×Addr×Value)=>p.1=q.1/\H q.2.1=some (.tup (p.1.map kV))/\RelV p.2 q.2.2) kvs xs /\
      ∃o es ep,h.get? a=some o/\o.ExactDict/\o.data=.dict es ep/\es.toList=xs.map (entryOfKey (tupleKind (zaC P w)))/\(xs.map (·.1)).Nodup
  |.set S n=>h.SetOf (intKind P w) a S n
  |.ins C dx fs => H dx=some (.own a) /\ fs.length <= 1000 /\ dx ≠ a /\ h.get? a=some (W.instObj C dx) /\
      ∃mA,h.Ns1 dx mA/\(∀f,RelO (fs.lookup f) (mA f))/\PySem.Within mA (fs.map (·.1))
  |.own _=>∃o,h.get? a=some o
  |.xd fs=>∃mA,h.Ns1 a mA/\∀f,RelO (fs.lookup f) (mA f)
  |.rng lo hi=>∃t u v,h.get? a=some { cls:=.type "range",data:=.fields #[.int lo t,.int hi u,.int 1 v] }
  |.frz o u=>h.get? a=some o/\ObjOk H h a u
  |.tbl ps=>h.get? a=some { cls:=.none,data:=.fields ps }
  |.met f x=>h.get? a=some (W.methodObj (.ref f) (.ref x))
  |.ext φ=>φ h/\(∃o,h.get? a=some o)/\∀h1 h2:Heap,φ h1->(∀o,h1.get? a=some o->h2.get? a=some o)->φ h2
def HOk(H:Hp)(h:Heap):Prop:=∀a o,H a=some o->ObjOk P w H h a o
end
section
variable {P:Program}{w:World}{H H':Hp}{h h':Heap}{a:Addr}{o:HO}
theorem ObjOk.lt(x:ObjOk P w H h a o):a<h.objs.size:=by
 cases o with
 |lst xs=>obtain⟨_,_,_,_,e⟩:=x;exact Heap.lt_size e
 |tup xs=>obtain⟨_,_,_,p⟩:=x;exact p.lt
 |dK kvs=>obtain⟨_,_,_,_,o,_,_,e,_⟩:=x;exact Heap.lt_size e
 |dT kvs=>obtain⟨_,_,_,_,o,_,_,e,_⟩:=x;exact Heap.lt_size e
 |set S n=>obtain⟨o,_,_,_,e,_⟩:=x;exact Heap.lt_size e
 |ins C dx fs=>obtain⟨_,_,_,e,_⟩:=x;exact Heap.lt_size e
 |own y=>obtain⟨_,e⟩:=x;exact Heap.lt_size e
 |xd fs=>obtain⟨_,⟨_,_,_,e,_⟩,_⟩:=x;exact Heap.lt_size e
 |rng lo hi=>obtain⟨_,_,_,e⟩:=x;exact Heap.lt_size e
 |frz ob u=>obtain⟨e,_⟩:=x;exact Heap.lt_size e
 |tbl ps=>exact Heap.lt_size (show h.get? a=some _ from x)
 |met f y=>exact Heap.lt_size (show h.get? a=some _ from x)
 |ext φ=>obtain⟨_,⟨_,e⟩,_⟩:=x;exact Heap.lt_size e
theorem Paired.mapP{α β:Type}{F G:α->β->Prop}:∀{l₁:List α}{l₂:List β},Paired F l₁ l₂->(∀a b,F a b->G a b)->Paired G l₁ l₂
 |_,_,.nil,_=>.nil
 |_,_,.cons r t,f=>.cons (f _ _ r) (Paired.mapP t f)
theorem ObjOk.stay(x:ObjOk P w H h a o)(k:∀b u, (b=a ∨ H b=some (.own a)) -> h.get? b=some u -> h'.get? b=some u)
  (ho:∀b,H b=some (.own a)->H' b=some (.own a)) (ht:∀b xs,H b=some (.tup xs)->H' b=some (.tup xs)):ObjOk P w H' h' a o:=by
 induction o with
 |lst xs=>obtain⟨z,its,n,r,e⟩:=x;exact⟨z,its,n,r,k _ _ (.inl rfl) e⟩
 |tup xs=>obtain⟨z,its,r,ob,e,c⟩:=x;exact⟨z,its,r,ob,k _ _ (.inl rfl) e,c⟩
 |dK kvs=>obtain⟨z,y,vs,r,ob,es,ep,e,c⟩:=x;exact⟨z,y,vs,r,ob,es,ep,k _ _ (.inl rfl) e,c⟩
 |dT kvs =>
  obtain⟨z,y,xs,r,ob,es,ep,e,c⟩:=x;exact⟨z,y,xs,Paired.mapP r fun p q z=>⟨z.1,ht _ _ z.2.1,z.2.2⟩,ob,es,ep,k _ _ (.inl rfl) e,c⟩
 |set S n=>obtain⟨ob,es,ep,t,e,c⟩:=x;exact⟨ob,es,ep,t,k _ _ (.inl rfl) e,c⟩
 |ins C dx fs =>
  obtain⟨d,z,ne,e,mA,⟨od,es,ep,e2,c⟩,r⟩:=x;exact⟨ho _ d,z,ne,k _ _ (.inl rfl) e,mA,⟨od,es,ep,k _ _ (.inr d) e2,c⟩,r⟩
 |own y=>obtain⟨ob,e⟩:=x;exact⟨ob,k _ _ (.inl rfl) e⟩
 |xd fs=>obtain⟨mA,⟨od,es,ep,e,c⟩,r⟩:=x;exact⟨mA,⟨od,es,ep,k _ _ (.inl rfl) e,c⟩,r⟩
 |rng lo hi=>obtain⟨t,u,v,e⟩:=x;exact⟨t,u,v,k _ _ (.inl rfl) e⟩
 |frz ob u ih=>obtain⟨e,q⟩:=x;exact⟨k _ _ (.inl rfl) e,ih q⟩
 |tbl ps =>
  have e:h.get? a=some { cls:=.none,data:=.fields ps }:=x;show h'.get? a=some { cls:=.none,data:=.fields ps };exact k a _ (.inl rfl) e
 |met f y =>
  have e:h.get? a=some (W.methodObj (.ref f) (.ref y)):=x;show h'.get? a=some (W.methodObj (.ref f) (.ref y));exact k a _ (.inl rfl) e
 |ext φ=>obtain⟨p,⟨o,e⟩,st⟩:=x;exact⟨st _ _ p fun o q=>k _ _ (.inl rfl) q,⟨o,k _ _ (.inl rfl) e⟩,st⟩
theorem HOk.lt(x:HOk P w H h)(e:H a=some o):a<h.objs.size:=(x a o e).lt
theorem HOk.fresh(x:HOk P w H h)(e:h.objs.size<=a):H a=none:=by
 cases q:H a with
 |none=>rfl
 |some u=>exact absurd (Nat.lt_of_lt_of_le (x.lt q) e) (Nat.lt_irrefl _)
theorem HOk.kept(x:HOk P w H h)(k:∀b u,h.get? b=some u->h'.get? b=some u):HOk P w H h':=fun a o e =>
 (x a o e).stay (fun b u _ q=>k b u q) (fun _ q=>q) fun _ _ q=>q
theorem HOk.laid(x:HOk P w H h)(k:∀b u,h.get? b=some u->h'.get? b=some u)(hp:h.objs.size<=a)(new:ObjOk P w (upd H a o) h' a o):HOk P w (upd H a o) h':=fun b u e=>by
 have hn:=x.fresh hp
 by_cases hb:b=a
 .subst hb;rw[zaa]at e;cases e;exact new
 .rw[zai hb]at e;exact (x b u e).stay (fun c v _ q=>k c v q) (fun c q=>by rw[zai (zam q hn)];exact q) fun c xs q=>by rw[zai (zam q hn)];exact q
end
def Rd(H:Hp)(a:Addr)(u:HO):Prop:=H a=some u∨∃o,H a=some (.frz o u)
theorem Rd.of{H:Hp}{a:Addr}{u:HO}(h:H a=some u):Rd H a u:=.inl h
theorem Rd.ok{P:Program}{w:World}{H:Hp}{h:Heap}{a:Addr}{u:HO}(r:Rd H a u)(x:HOk P w H h):ObjOk P w H h a u:=by
 rcases r with r |⟨o,r⟩
 .exact x a u r
 .obtain⟨_,q⟩:=x a _ r;exact q
def Mut:Option HO->Prop
 |some (.lst _)=>True
 |some (.dK _)=>True
 |some (.dT _)=>True
 |some (.set _ _)=>True
 |some (.ins _ _ _)=>True
 |some (.ext _)=>True
 |_=>False
section
variable {P:Program}{w:World}{H:Hp}{h h':Heap}{x e:Addr}{o':HO}
theorem HOk.write(ok:HOk P w H h)(mu:Mut (H x))(he:e=x ∨ H e=some (.own x))(k:∀b u, b ≠ e -> h.get? b=some u -> h'.get? b=some u)(heo:∃u, h'.get? e=some u)
  (new:ObjOk P w (upd H x o') h' x o'):HOk P w (upd H x o') h':=fun b u q=>by
 have nown:∀c y,H c=some (.own y)->c≠x:=fun c y r z=>by subst z;rw[r]at mu;exact mu
 have ntup:∀c xs,H c=some (.tup xs)->c≠x:=fun c xs r z=>by subst z;rw[r]at mu;exact mu
 by_cases hb:b=x
 .subst hb;rw[zaa]at q;cases q;exact new
 .rw[zai hb]at q
  by_cases hbe:b=e
  .have q':H b=some (.own x) := by
    rcases he with z |z
    .exact absurd (hbe.trans z) hb
    .rw[hbe];exact z
   rw[q]at q';cases q';obtain⟨v,hv⟩:=heo;exact⟨v,by rw[hbe];exact hv⟩
  .refine (ok b u q).stay (fun c v hc r=>k c v ?_ r) (fun c r=>by rw[zai (nown c b r)];exact r) fun c xs r=>by rw[zai (ntup c xs r)];exact r
   rcases hc with rfl |hc
   .exact hbe
   .rintro rfl;rcases he with z |z
    .exact nown c b hc z
    .rw[hc]at z;cases z;exact hb rfl
end
structure Un (fs ex:List Addr) (H H':Hp) (h h':Heap):Prop where
 keep:∀b o,h.get? b=some o->H b=none->b ∉ fs->b ∉ ex->h'.get? b=some o
 slot:∀b o,h.get? b=some o->H b=none->b∈fs->b ∉ ex->∃sl,h'.get? b=some { o with slots:=sl }
 free:∀b o,h.get? b=some o->H b=none->b ∉ ex->H' b=none
 there:∀b o,h.get? b=some o->b ∉ ex->∃o',h'.get? b=some o'
 tups:∀b xs,H b=some (.tup xs)->H' b=some (.tup xs)
 frzs:∀b o u,H b=some (.frz o u)->H' b=some (.frz o u)
 tbls:∀b ps,H b=some (.tbl ps)->∃more,H' b=some (.tbl (ps++more))
section
variable {fs fs' ex ex':List Addr}{H H1 H2:Hp}{h h1 h2 h':Heap}{a x e:Addr}{o:HO}
theorem Un.any(u:Un fs ex H H1 h h1){b:Addr}{ob:Obj}(q:h.get? b=some ob)(n:H b=none)(hx:b ∉ ex):∃sl,h1.get? b=some { ob with slots:=sl }:=by
 by_cases hb:b∈fs
 .exact u.slot b ob q n hb hx
 .exact⟨ob.slots,u.keep b ob q n hb hx⟩
theorem Un.kept(k:∀b u,h.get? b=some u->h'.get? b=some u):Un fs ex H H h h' :=
 ⟨fun b ob q _ _ _=>k b ob q,fun b ob q _ _ _=>⟨ob.slots,k b ob q⟩,fun _ _ _ n _=>n,fun b ob q _=>⟨ob,k b ob q⟩,fun _ _ q=>q,fun _ _ _ q=>q,fun _ ps q=>⟨#[],by rw[q];simp⟩⟩
theorem Un.refl:Un fs ex H H h h:=Un.kept fun _ _ q=>q
theorem Un.laid(k:∀b u,h.get? b=some u->h'.get? b=some u)(hp:h.objs.size<=a)(hn:H a=none):Un fs ex H (upd H a o) h h' where
 keep:=fun b u q _ _ _=>k b u q
 slot:=fun b u q _ _ _=>⟨u.slots,k b u q⟩
 free:=fun b u q n _=>by rw[zai (Nat.ne_of_lt (Nat.lt_of_lt_of_le (Heap.lt_size q) hp))];exact n
 there:=fun b u q _=>⟨u,k b u q⟩
 tups:=fun b xs q=>by rw[zai (zam q hn)];exact q
 frzs:=fun b u xs q=>by rw[zai (zam q hn)];exact q
 tbls:=fun b ps q=>⟨#[],by rw[zai (zam q hn),q];simp⟩
theorem Un.write(mu:Mut (H x))(he:e=x∨H e=some (.own x))(k:∀b u,b≠e->h.get? b=some u->h'.get? b=some u)(heo:∃u,h'.get? e=some u):Un fs ex H (upd H x o) h h':=by
 have hx:∀b,H b=none->b≠x:=fun b n z=>by subst z;rw[n]at mu;exact mu
 have hb:∀b,H b=none->b≠e:=fun b n z=>by
  subst z;rcases he with r |r
  .exact hx b n r
  .rw[n]at r;cases r
 have hm:∀b u,H b=some u->¬ Mut (some u)->b≠x:=fun b u q nm z=>by subst z;rw[q]at mu;exact nm mu
 refine⟨fun b u q n _ _=>k b u (hb b n) q,fun b u q n _ _=>⟨u.slots,k b u (hb b n) q⟩,fun b u q n _=>by rw[zai (hx b n)];exact n,fun b u q _=>?_,
  fun b xs q=>by rw[zai (hm b _ q fun z=>z)];exact q,fun b u xs q=>by rw[zai (hm b _ q fun z=>z)];exact q,fun b ps q=>⟨#[],by rw[zai (hm b _ q fun z=>z),q];simp⟩⟩
 by_cases hbe:b=e
 .subst hbe;exact heo
 .exact⟨u,k b u hbe q⟩
end
def trk(h:Heap)(H:Hp):List Addr:=(List.range h.objs.size).filter fun a=>(H a).isSome
def hidT(h:Heap)(H:Hp):Heap:=W.hideAll h (trk h H)
theorem ziZ(h:Heap)(H:Hp):(hidT h H).objs.size=h.objs.size:=W.hideAll_size _ _
theorem zjJ{h:Heap}{H:Hp}{b:Addr}{o:Obj}(e:h.get? b=some o)(n:H b=none):(hidT h H).get? b=some o :=
 W.hideAll_get _ e fun hm=>by have q:(H b).isSome=true:=(List.mem_filter.mp hm).2;rw[n]at q;simp at q
theorem zkL{h:Heap}{H:Hp}{b:Addr}{o:Obj}(e:(hidT h H).get? b=some o):h.get? b=some o/\H b=none:=by
 have e':h.get? b=some o:=W.of_hideAll (trk h H) e;refine⟨e',?_⟩
 cases q:H b with
 |none=>rfl
 |some x =>
  have hm:b∈trk h H:=List.mem_filter.mpr ⟨List.mem_range.mpr (Heap.lt_size e'),by simp[q]⟩;have z:(hidT h H).get? b=none:=W.hideAll_none (trk h H) hm;rw[z]at e;cases e
def zk3(g h:Heap)(L:Addr):List (Addr×Obj):=(List.range h.objs.size).filterMap fun a=>if a=L∨(g.get? a).isSome=true then none else (h.get? a).map fun o=>(a,o)
def rest(g h:Heap)(L d:Addr):List (Addr×Obj):=(zk3 g h L).filter fun p=>decide (p.1≠d)
structure Mod (K:W.Frag) (mg:Str->Option Value) (base:Heap):Prop where
 kin:K.In base
 glob:base.Ns mainGlobals mg
 blt:∃mb,base.Ns builtinsNs mb/\∀x:Str,x ≠ "__name__" -> mb x=bootBuiltins x
 nolimit:base.NoLimit
structure Cx where
 prog:Program
 w:World
 K:W.Frag
 mg:Str->Option Value
 base:Heap
 A:Around
 N:List Str
 s₀:Shared
 H₀:Hp
 env:Env
 outer:List Env
 stack:List Env
 ex:List Addr
 fn:Str->Bool
 calm:Bool
 pn:List (Addr×Obj)
 xe:Value->Shared->Prop
def frs(l:List Env):List Addr:=l.filterMap (·.frame)
abbrev Cx.fs(X:Cx):List Addr:=frs X.outer
def Vis(sc:Scope)(x:Str):Prop:=sc.names.lookup x=some .local∨sc.names.lookup x=some .cell∨sc.names.lookup x=some .free
def Loc(sc:Scope)(x:Str):Prop:=sc.names.lookup x=some .local∨sc.names.lookup x=some .cell
def Look(env:Env)(h:Heap)(m:Str->Option Value)(x:Str)(u:Value):Prop :=
 (env.kindOf x=some .local/\m x=some u)∨((env.kindOf x=some .cell∨env.kindOf x=some .free)/\∃c,env.cells.lookup x=some c/\h.IsCell c (some u))
structure Cx.Ok (X:Cx):Prop where
 mod:Mod X.K X.mg X.base
 kind:X.env.scope.kind=.function
 glob:X.env.globals=mainGlobals
 blt:X.env.builtins=builtinsNs
 above:X.s₀.heap.objs.size<=X.env.locals
 inj:∀x y c,X.env.cells.lookup x=some c->X.env.cells.lookup y=some c->x=y
 has:∀x,(X.env.kindOf x=some .cell∨X.env.kindOf x=some .free)->∃c,X.env.cells.lookup x=some c
 cab:∀x c,X.fn x=true->X.env.cells.lookup x=some c->X.s₀.heap.objs.size<=c
 hd:X.calm=true->X.A.handled=none
 frames:X.A.frames=some X.stack
 stk:X.stack=X.outer∨(X.stack=X.env::X.outer/\X.env.frame=some X.env.locals)
 exf:∀b∈X.ex,b≠X.env.locals/\∀x c,X.env.cells.lookup x=some c->c≠b
 bs:∀b o,X.base.get? b=some o->X.s₀.heap.get? b=some o/\X.H₀ b=none
 bsz:X.base.objs.size<=X.s₀.heap.objs.size
 noex:∀b o,X.base.get? b=some o->b ∉ X.ex
 exfs:∀b∈X.ex,b ∉ X.fs
 funs:X.s₀.heap.FunFrames X.base X.outer
 frf:∀b∈X.fs,X.H₀ b=none
structure Inv (X:Cx) (pins:List (Addr×Obj)) (σ:List (Option V)) (H:Hp) (s:Shared):Prop where
 ok:X.Ok
 os:s.os=X.s₀.os
 bare:AllBare s.gens
 base:Un X.fs X.ex X.H₀ H X.s₀.heap s.heap
 loc:∃m,s.heap.Ns X.env.locals m/\∀(i:Nat) (x:Str) (v:V),X.N[i]?=some x->σ[i]?=some (some v)->Vis X.env.scope x->∃u,RelV v u/\Look X.env s.heap m x u
 cell:∀x c,X.env.cells.lookup x=some c->∃v,s.heap.IsCell c v
 free:H X.env.locals=none
 freeC:∀x c,X.env.cells.lookup x=some c->H c=none
 pin:∀p∈X.pn++pins,s.heap.get? p.1=some p.2/\H p.1=none/\p.1≠X.env.locals/\p.1 ∉ X.fs/\∀v,p.2.data≠.cell v
 hok:HOk X.prog X.w H s.heap
 len:σ.length=X.N.length
section
variable {X:Cx}{pins:List (Addr×Obj)}{σ:List (Option V)}{H H':Hp}{s:Shared}{h':Heap}
theorem Cx.Ok.nofr(ok:X.Ok){b:Addr}{o:Obj}(e:X.base.get? b=some o):b ∉ X.fs:=fun hb=>by have:=(ok.funs.mem hb).1;rw[e]at this;cases this
theorem Inv.bs(I:Inv X pins σ H s):∀b o,X.base.get? b=some o->s.heap.get? b=some o/\H b=none:=fun b o e =>
 ⟨I.base.keep b o (I.ok.bs b o e).1 (I.ok.bs b o e).2 (I.ok.nofr e) (I.ok.noex b o e),I.base.free b o (I.ok.bs b o e).1 (I.ok.bs b o e).2 (I.ok.noex b o e)⟩
theorem Inv.bk(I:Inv X pins σ H s):∀b o,X.base.get? b=some o->s.heap.get? b=some o:=fun b o e=>(I.bs b o e).1
theorem Inv.mod(I:Inv X pins σ H s):Mod X.K X.mg X.base:=I.ok.mod
theorem Inv.kIn(I:Inv X pins σ H s):X.K.In s.heap:=I.ok.mod.kin.keeps I.bk
theorem Inv.lt(I:Inv X pins σ H s):X.env.locals<s.heap.objs.size:=let ⟨_,hn,_⟩:=I.loc;hn.lt
theorem Inv.sz(I:Inv X pins σ H s):X.s₀.heap.objs.size<=s.heap.objs.size:=Nat.le_trans I.ok.above (Nat.le_of_lt I.lt)
theorem Inv.nofs(I:Inv X pins σ H s){a:Addr}(h:s.heap.objs.size<=a):a ∉ X.fs:=fun hb=>by obtain⟨_,o,ho,_⟩:=I.ok.funs.mem hb;exact absurd (Nat.lt_of_lt_of_le (Heap.lt_size ho) (Nat.le_trans I.sz h)) (Nat.lt_irrefl _)
theorem Inv.cne(I:Inv X pins σ H s):∀x c,X.env.cells.lookup x=some c->c≠X.env.locals:=fun x c e z=>by obtain⟨v,o,ho,hd⟩:=I.cell x c e;obtain⟨m,⟨o',es,ep,ho',hd',_⟩,_⟩:=I.loc;rw[z,ho']at ho;cases ho;rw[hd']at hd;cases hd
theorem Inv.funs(I:Inv X pins σ H s):s.heap.FunFrames X.base X.outer:=by
 have all:∀(l:List Env),(∀b∈frs l,b∈X.fs)->X.s₀.heap.FunFrames X.base l->s.heap.FunFrames X.base l:=by
  intro l
  induction l with
  |nil=>intro _ _;trivial
  |cons env r ih =>
   intro hs hl;obtain⟨hk,⟨L,o,hf,hn,ho,hd⟩,hr⟩:=hl;have hL:L∈X.fs:=hs L (by unfold frs;rw[List.filterMap_cons,hf];exact List.mem_cons_self);obtain⟨sl,e⟩:=I.base.slot L o ho (I.ok.frf L hL) hL fun z=>I.ok.exfs L z hL
   exact⟨hk,⟨L,_,hf,hn,e,hd⟩,ih (fun b hb=>hs b (by unfold frs;rw[List.filterMap_cons,hf];exact List.mem_cons_of_mem _ hb)) hr⟩
 exact all X.outer (fun _ hb=>hb) I.ok.funs
theorem Inv.stack(I:Inv X pins σ H s):s.heap.FunFrames X.base X.stack:=by
 rcases I.ok.stk with e |⟨e,hf⟩
 .rw[e];exact I.funs
 .rw[e];obtain⟨m,hn,_⟩:=I.loc;refine .cons (by rw[I.ok.kind];decide) hf hn ?_ I.funs;exact Heap.get?_none_of_le (Nat.le_trans I.ok.bsz I.ok.above)
theorem Inv.stkSub(I:Inv X pins σ H s):∀b∈frs X.stack,b∈X.env.locals::X.fs:=fun b hb=>by
 rcases I.ok.stk with e |⟨e,hf⟩
 .rw[e]at hb;exact List.mem_cons_of_mem _ hb
 .rw[e]at hb;unfold frs at hb;rw[List.filterMap_cons,hf]at hb;exact hb
theorem Inv.stkFree(I:Inv X pins σ H s):∀b∈frs X.stack,H b=none:=fun b hb=>by
 rcases List.mem_cons.mp (I.stkSub b hb) with e |hb
 .rw[e];exact I.free
 .obtain⟨_,o,ho,_⟩:=I.ok.funs.mem hb;exact I.base.free b o ho (I.ok.frf b hb) fun z=>I.ok.exfs b z hb
theorem Inv.step{g':Array GenState}{t':Nat}{d':Drawn}{ch:List Addr}(I:Inv X pins σ H s)
  (hch:∀b∈ch,(b∈X.ex∨X.s₀.heap.objs.size<=b)/\b≠X.env.locals/\(∀x c,X.env.cells.lookup x=some c->c≠b)/\∀p∈X.pn++pins,p.1≠b)
  (keep:∀b o,b≠X.env.locals->b ∉ X.fs->b ∉ ch->s.heap.get? b=some o->H b=none->h'.get? b=some o)
  (slot:∀b o,b≠X.env.locals->b∈X.fs->b ∉ ch->s.heap.get? b=some o->H b=none->∃sl,h'.get? b=some { o with slots:=sl }) (free:∀b o,b ∉ ch->s.heap.get? b=some o->H b=none->H' b=none)
  (there:∀b o,b ∉ ch->s.heap.get? b=some o->∃o',h'.get? b=some o')
  (tups:∀b xs,H b=some (.tup xs)->H' b=some (.tup xs)) (frzs:∀b o u,H b=some (.frz o u)->H' b=some (.frz o u)) (tbls:∀b ps,H b=some (.tbl ps)->∃more,H' b=some (.tbl (ps++more)))
  (ns:∀m,s.heap.Ns X.env.locals m->h'.Ns X.env.locals m) (hok:HOk X.prog X.w H' h') (hg:AllBare g') :
  Inv X pins σ H' { s with heap:=h',gens:=g',drawn:=d',toks:=t' }:=by
 have neL:∀b o,X.s₀.heap.get? b=some o->b≠X.env.locals:=fun b o e=>Nat.ne_of_lt (Nat.lt_of_lt_of_le (Heap.lt_size e) I.ok.above)
 have neC:∀b o,X.s₀.heap.get? b=some o->b ∉ X.ex->b ∉ ch:=fun b o e hx hb=>by
  rcases (hch b hb).1 with z |z
  .exact hx z
  .exact absurd (Nat.lt_of_lt_of_le (Heap.lt_size e) z) (Nat.lt_irrefl _)
 have cellK:∀x c,X.env.cells.lookup x=some c->∀v,s.heap.IsCell c v->h'.IsCell c v:=fun x c e v ⟨o,ho,hd⟩=>by
  have nch:c ∉ ch:=fun z=>(hch c z).2.2.1 x c e rfl
  by_cases hc:c∈X.fs
  .obtain⟨sl,q⟩:=slot c o (I.cne x c e) hc nch ho (I.freeC x c e);exact⟨_,q,hd⟩
  .exact⟨o,keep c o (I.cne x c e) hc nch ho (I.freeC x c e),hd⟩
 refine⟨I.ok,I.os,hg,⟨fun b o e n hb hx=>?_,fun b o e n hb hx=>?_,fun b o e n hx=>?_,fun b o e hx=>?_,fun b xs e=>tups b xs (I.base.tups b xs e),fun b o xs e=>frzs b o xs (I.base.frzs b o xs e),fun b ps e=>?_⟩,?_,fun x c e=>?_,?_,fun x c e=>?_,fun p hp=>?_,hok,I.len⟩
 .exact keep b o (neL b o e) hb (neC b o e hx) (I.base.keep b o e n hb hx) (I.base.free b o e n hx)
 .obtain⟨sl,e1⟩:=I.base.slot b o e n hb hx;obtain⟨sl',e2⟩:=slot b _ (neL b o e) hb (neC b o e hx) e1 (I.base.free b o e n hx);exact⟨sl',e2⟩
 .obtain⟨o',e1⟩:=I.base.there b o e hx;exact free b o' (neC b o e hx) e1 (I.base.free b o e n hx)
 .obtain⟨o',e1⟩:=I.base.there b o e hx;exact there b o' (neC b o e hx) e1
 .obtain⟨m1,e1⟩:=I.base.tbls b ps e;obtain⟨m2,e2⟩:=tbls b _ e1;exact⟨m1++m2,by rw[e2,Array.append_assoc]⟩
 .obtain⟨m,hn,hl⟩:=I.loc;refine⟨m,ns m hn,fun i x v e1 e2 e3=>?_⟩;obtain⟨u,r,l⟩:=hl i x v e1 e2 e3;refine⟨u,r,?_⟩;rcases l with l |⟨k,c,e,z⟩
  .exact .inl l
  .exact .inr ⟨k,c,e,cellK x c e _ z⟩
 .obtain⟨v,z⟩:=I.cell x c e;exact⟨v,cellK x c e v z⟩
 .obtain⟨m,⟨o,_,_,ho,_⟩,_⟩:=I.loc;exact free _ o (fun z=>(hch _ z).2.1 rfl) ho I.free
 .obtain⟨v,o,ho,hd⟩:=I.cell x c e;exact free c o (fun z=>(hch c z).2.2.1 x c e rfl) ho (I.freeC x c e)
 .obtain⟨e,n,ne,nf,d⟩:=I.pin p hp;have nch:p.1 ∉ ch:=fun z=>(hch p.1 z).2.2.2 p hp rfl
  exact⟨keep p.1 p.2 ne nf nch e n,free p.1 p.2 nch e n,ne,nf,d⟩
theorem Inv.un{t':Nat}(I:Inv X pins σ H s)(u:Un X.fs [] H H' s.heap h')(hok:HOk X.prog X.w H' h'):Inv X pins σ H' { s with heap:=h',toks:=t' }:=by
 obtain⟨m,⟨o,es,ep,ho,r⟩,_⟩:=id I.loc;obtain⟨sl,hL⟩:=u.any ho I.free (by simp)
 exact I.step (g':=s.gens) (d':=s.drawn) (ch:=[]) (fun _ z=>nomatch z) (fun b o _ hb _ e n=>u.keep b o e n hb (by simp)) (fun b o _ hb _ e n=>u.slot b o e n hb (by simp)) (fun b o _ e n=>u.free b o e n (by simp)) (fun b o _ e=>u.there b o e (by simp)) u.tups u.frzs u.tbls (fun m' hm=>by obtain⟨o',es',ep',ho',r'⟩:=hm;rw[ho]at ho';cases ho';exact⟨_,es',ep',hL,r'⟩) hok I.bare
theorem Inv.call{g':Array GenState}{t':Nat}{d':Drawn}{ch:List Addr}(I:Inv X pins σ H s)(u:Un (frs X.stack) ch H H' s.heap h')(hok:HOk X.prog X.w H' h')(hg:AllBare g')
  (hch:∀b∈ch,(b∈X.ex∨X.s₀.heap.objs.size<=b)/\b≠X.env.locals/\(∀x c,X.env.cells.lookup x=some c->c≠b)/\∀p∈X.pn++pins,p.1≠b) :
  Inv X pins σ H' { s with heap:=h',gens:=g',drawn:=d',toks:=t' }:=by
 obtain⟨m,⟨o,es,ep,ho,r⟩,_⟩:=id I.loc;obtain⟨sl,hL⟩:=u.any ho I.free fun z=>(hch _ z).2.1 rfl
 exact I.step (ch:=ch) hch (fun b o hL hb hc e n=>u.keep b o e n (fun z=>(List.mem_cons.mp (I.stkSub b z)).elim hL hb) hc) (fun b o _ _ hc e n=>u.any e n hc) (fun b o hc e n=>u.free b o e n hc) (fun b o hc e=>u.there b o e hc) u.tups u.frzs u.tbls (fun m' hm=>by obtain⟨o',es',ep',ho',r'⟩:=hm;rw[ho]at ho';cases ho';exact⟨_,es',ep',hL,r'⟩) hok hg
theorem Inv.turned{t':Nat}{it:Addr}(I:Inv X pins σ H s)(k:∀b o, b ≠ it -> s.heap.get? b=some o -> h'.get? b=some o)(hn:H it=none)(hL:it ≠ X.env.locals)
  (h1:it∈X.ex∨X.s₀.heap.objs.size<=it) (h2:∀x c,X.env.cells.lookup x=some c->c≠it) (h3:∀p∈X.pn++pins,p.1≠it):Inv X pins σ H { s with heap:=h',toks:=t' }:=by
 have nit:∀b u,H b=some u->b≠it:=fun b u e z=>by rw[z,hn]at e;cases e
 refine I.step (g':=s.gens) (d':=s.drawn) (ch:=[it]) (fun b hb=>?_) (fun b o _ _ hc e _=>k b o (fun z=>hc (by simp[z])) e) (fun b o _ _ hc e _=>⟨o.slots,k b o (fun z=>hc (by simp[z])) e⟩) (fun _ _ _ _ n=>n)
  (fun b o hc e=>⟨o,k b o (fun z=>hc (by simp[z])) e⟩) (fun _ _ e=>e) (fun _ _ _ e=>e) (fun b ps e=>⟨#[],by rw[e];simp⟩) (fun m hm=>?_) (fun b u e=>?_) I.bare
 .have e:b=it:=by simpa using hb
  subst e;exact⟨h1,hL,h2,h3⟩
 .obtain⟨o,es,ep,ho,r⟩:=hm;exact⟨o,es,ep,k _ o (Ne.symm hL) ho,r⟩
 .refine (I.hok b u e).stay (fun c v hc q=>k c v ?_ q) (fun _ q=>q) fun _ _ q=>q
  rcases hc with z |z
  .rw[z];exact nit b u e
  .exact nit c _ z
theorem Inv.tok(I:Inv X pins σ H s)(t:Nat):Inv X pins σ H { s with toks:=t }:=I.un (h':=s.heap) (t':=t) Un.refl I.hok
theorem Inv.kept{t':Nat}(I:Inv X pins σ H s)(k:∀b u,s.heap.get? b=some u->h'.get? b=some u):Inv X pins σ H { s with heap:=h',toks:=t' }:=I.un (Un.kept k) (I.hok.kept k)
theorem Inv.laid{a:Addr}{o:HO}{t':Nat}(I:Inv X pins σ H s)(k:∀b u, s.heap.get? b=some u -> h'.get? b=some u)(hp:s.heap.objs.size <= a)(new:ObjOk X.prog X.w (upd H a o) h' a o) :
  Inv X pins σ (upd H a o) { s with heap:=h',toks:=t' }:=I.un (Un.laid k hp (I.hok.fresh hp)) (I.hok.laid k hp new)
theorem Inv.write{x e:Addr}{o:HO}{t':Nat}(I:Inv X pins σ H s)(mu:Mut (H x))(he:e=x ∨ H e=some (.own x))(k:∀b u, b ≠ e -> s.heap.get? b=some u -> h'.get? b=some u)(heo:∃u, h'.get? e=some u)
  (new:ObjOk X.prog X.w (upd H x o) h' x o):Inv X pins σ (upd H x o) { s with heap:=h',toks:=t' }:=I.un (Un.write mu he k heo) (I.hok.write mu he k heo new)
theorem Inv.pins_of{pins':List (Addr×Obj)}(I:Inv X pins σ H s)(h:∀p∈pins',s.heap.get? p.1=some p.2/\H p.1=none/\p.1≠X.env.locals/\p.1 ∉ X.fs/\∀v,p.2.data≠.cell v):Inv X pins' σ H s :=
 ⟨I.ok,I.os,I.bare,I.base,I.loc,I.cell,I.free,I.freeC,fun p hp=>(List.mem_append.mp hp).elim (fun z=>I.pin p (List.mem_append_left _ z)) (h p),I.hok,I.len⟩
theorem zg4{N:List Str}(hN:N.Nodup){i j:Nat}{x:Str}(a:N[i]?=some x)(b:N[j]?=some x):i=j:=by obtain⟨h1,e1⟩:=List.getElem?_eq_some_iff.mp a;obtain⟨h2,e2⟩:=List.getElem?_eq_some_iff.mp b;exact (List.getElem_inj hN).mp (e1.trans e2.symm)
theorem zfi{M:Model}{A:Around}{E:Value -> Shared -> Prop}{i:Nat}{x:Str}{v:V}{u:Value}{Q:Unit -> Shared -> Prop}(I:Inv X pins σ H s)(hN:X.N.Nodup)(hi:X.N[i]? = some x)(hx:Loc X.env.scope x)(r:RelV v u)
  (h:∀s',Inv X pins (σ.set i (some v)) H s'->(∃a,Heap.SameBut a s.heap s'.heap/\(a=X.env.locals∨X.env.cells.lookup x=some a))->Q () s') (hf:X.fn x=true∨X.env.scope.names.lookup x=some .local:=by first |exact .inl rfl |exact .inr rfl |assumption):wpAny M A (storeName X.env x u) Q E s:=by
 obtain⟨m,hn,hl⟩:=id I.loc;have hcls:(X.env.scope.kind == .class || (X.env.scope.kind == .module && X.env.locals != X.env.globals))=false:=by rw[I.ok.kind];rfl
 have hiσ:i<σ.length:=by rw[I.len];exact (List.getElem?_eq_some_iff.mp hi).1
 have cne:=I.cne
 have tracked:∀{a:Addr} {h':Heap},(∃o,s.heap.get? a=some o/\H a=none)->Heap.SameBut a s.heap h'->HOk X.prog X.w H h':=fun {a h'} ha hs b ob e=>by
  obtain⟨_,_,hfree⟩:=ha;refine (I.hok b ob e).stay (fun c w' hc q=>(hs.2 c ?_).trans q) (fun _ q=>q) fun _ _ q=>q
  rintro rfl;rcases hc with rfl |hc
  .rw[hfree]at e;cases e
  .rw[hfree]at hc;cases hc
 rcases hx with hk |hk
 .refine wpAny_storeName_local hk hn (fun h' hn' hs=>?_) hcls;obtain⟨oL,_,_,hoL,_⟩:=id hn;refine h _ ⟨I.ok,I.os,I.bare,⟨fun b o e n hb hx=>?_,fun b o e n hb hx=>?_,I.base.free,fun b o e hx=>?_,I.base.tups,I.base.frzs,I.base.tbls⟩,⟨_,hn',fun j y v' e1 e2 e3=>?_⟩,fun y c e=>?_,I.free,I.freeC,fun p hp=>?_,tracked ⟨oL,hoL,I.free⟩ hs,by simpa using I.len⟩ ⟨_,hs,.inl rfl⟩
  .exact (hs.2 b (Nat.ne_of_lt (Nat.lt_of_lt_of_le (Heap.lt_size e) I.ok.above))).trans (I.base.keep b o e n hb hx)
  .obtain⟨sl,e1⟩:=I.base.slot b o e n hb hx;exact⟨sl,(hs.2 b (Nat.ne_of_lt (Nat.lt_of_lt_of_le (Heap.lt_size e) I.ok.above))).trans e1⟩
  .obtain⟨o',e1⟩:=I.base.there b o e hx;exact⟨o',(hs.2 b (Nat.ne_of_lt (Nat.lt_of_lt_of_le (Heap.lt_size e) I.ok.above))).trans e1⟩
  .by_cases hj:j=i
   .subst hj;rw[hi]at e1;cases e1;rw[List.getElem?_set_self hiσ]at e2
    cases e2
    exact⟨u,r,.inl ⟨hk,by simp⟩⟩
   .rw[List.getElem?_set_ne (Ne.symm hj)]at e2;obtain⟨u',r',q⟩:=hl j y v' e1 e2 e3;refine⟨u',r',?_⟩;rcases q with⟨k,e⟩ |⟨k,c,e,z⟩
    .refine .inl ⟨k,?_⟩;have:y≠x:=fun e=>hj (zg4 hN e1 (e ▸ hi))
     simp[this,e]
    .exact .inr ⟨k,c,e,z.sameBut hs (cne y c e)⟩
  .obtain⟨w',z⟩:=I.cell y c e;exact⟨w',z.sameBut hs (cne y c e)⟩
  .obtain⟨e,n,ne,nf,d⟩:=I.pin p hp;exact⟨(hs.2 p.1 ne).trans e,n,ne,nf,d⟩
 .have hfn:X.fn x=true := by
   rcases hf with z |z
   .exact z
   .rw[z]at hk;cases hk
  obtain⟨c,hc⟩:=I.ok.has x (.inl hk);obtain⟨w',z⟩:=I.cell x c hc;refine wpAny_storeName_cell I.ok.kind hk hc z (fun h' hc' hs=>?_);obtain⟨oc,hoc,hocd⟩:=id z;refine h { s with heap:=h' } ⟨I.ok,I.os,I.bare,⟨fun b o e n hb hx=>?_,fun b o e n hb hx=>?_,I.base.free,fun b o e hx=>?_,I.base.tups,I.base.frzs,I.base.tbls⟩,⟨m,hn.sameBut hs (Ne.symm (cne x c hc)),fun j y v' e1 e2 e3=>?_⟩,fun y c' e=>?_,I.free,I.freeC,fun p hp=>?_,tracked ⟨oc,hoc,I.freeC x c hc⟩ hs,by simpa using I.len⟩ ⟨c,hs,.inr hc⟩
  .exact (hs.2 b (Nat.ne_of_lt (Nat.lt_of_lt_of_le (Heap.lt_size e) (I.ok.cab x c hfn hc)))).trans (I.base.keep b o e n hb hx)
  .obtain⟨sl,e1⟩:=I.base.slot b o e n hb hx;exact⟨sl,(hs.2 b (Nat.ne_of_lt (Nat.lt_of_lt_of_le (Heap.lt_size e) (I.ok.cab x c hfn hc)))).trans e1⟩
  .obtain⟨o',e1⟩:=I.base.there b o e hx;exact⟨o',(hs.2 b (Nat.ne_of_lt (Nat.lt_of_lt_of_le (Heap.lt_size e) (I.ok.cab x c hfn hc)))).trans e1⟩
  .by_cases hj:j=i
   .subst hj;rw[hi]at e1;cases e1;rw[List.getElem?_set_self hiσ]at e2
    cases e2
    exact⟨u,r,.inr ⟨.inl hk,c,hc,hc'⟩⟩
   .rw[List.getElem?_set_ne (Ne.symm hj)]at e2;obtain⟨u',r',q⟩:=hl j y v' e1 e2 e3;refine⟨u',r',?_⟩;rcases q with q |⟨k,c',e,z'⟩
    .exact .inl q
    .refine .inr ⟨k,c',e,z'.sameBut hs ?_⟩;rintro rfl;exact hj (zg4 hN e1 (I.ok.inj _ _ _ e hc ▸ hi))
  .by_cases hcc:c'=c
   .subst hcc;exact⟨_,hc'⟩
   .obtain⟨w2,z2⟩:=I.cell y c' e;exact⟨w2,z2.sameBut hs hcc⟩
  .obtain⟨e,n,ne,nf,d⟩:=I.pin p hp;refine⟨(hs.2 p.1 ?_).trans e,n,ne,nf,d⟩;intro q;rw[q,hoc]at e;have q':oc=p.2:=Option.some.inj e;exact d w' (by rw[<- q'];exact hocd)
theorem zez{M:Model}{A:Around}{E:Value -> Shared -> Prop}{i:Nat}{x:Str}{v:V}{u:Value}{Q:Unit -> Shared -> Prop}(I:Inv X pins σ H s)(hN:X.N.Nodup)(hi:X.N[i]? = some x)(hx:Loc X.env.scope x)(r:RelV v u)
  (h:∀s',Inv X pins (σ.set i (some v)) H s'->Q () s') (hf:X.fn x=true∨X.env.scope.names.lookup x=some .local:=by first |exact .inl rfl |exact .inr rfl |assumption):wpAny M A (storeName X.env x u) Q E s :=
 zfi I hN hi hx r (fun s' I' _=>h s' I') hf
theorem Inv.call'{s':Shared}{ch:List Addr}(I:Inv X pins σ H s)(ho:s'.os=s.os)(u:Un (frs X.stack) ch H H' s.heap s'.heap)(hok:HOk X.prog X.w H' s'.heap)(hg:AllBare s'.gens)
  (hch:∀b∈ch,(b∈X.ex∨X.s₀.heap.objs.size<=b)/\b≠X.env.locals/\(∀x c,X.env.cells.lookup x=some c->c≠b)/\∀p∈X.pn++pins,p.1≠b):Inv X pins σ H' s':=by
 obtain⟨h',g',d',t',o'⟩:=s';have e:o'=s.os:=ho;subst e;exact I.call (g':=g') (t':=t') (d':=d') u hok hg hch
end
abbrev XK:=Value->Option Addr->Hp->Prop
abbrev St:=List (Option V)
abbrev VK:=V->Hp->Prop
abbrev TE:=St->Hp->VK->Prop
abbrev TT:=St->Hp->(Bool->Hp->Prop)->Prop
abbrev TA:=St->Hp->(List V->Hp->Prop)->Prop
structure Ends where
 nx:St->Hp->Prop
 rt:VK
 bk:St->Hp->Prop:=fun _ _=>False
 ct:St->Hp->Prop:=fun _ _=>False
abbrev TS:=Ends->St->Hp->Prop
def EP(X:Cx)(pins:List (Addr×Obj))(σ:St)(Q:VK)(u:Value)(s':Shared):Prop:=∃v H',Inv X pins σ H' s'/\RelV v u/\Q v H'
def TP(X:Cx)(pins:List (Addr×Obj))(σ:St)(Q:Bool->Hp->Prop)(b:Bool)(s':Shared):Prop:=∃H',Inv X pins σ H' s'/\Q b H'
def AP(X:Cx)(pins:List (Addr×Obj))(σ:St)(Q:List V->Hp->Prop)(us:List Value)(s':Shared):Prop:=∃vs H',Inv X pins σ H' s'/\Vals vs us/\Q vs H'
def SP(X:Cx)(pins:List (Addr×Obj))(D:Ends)(f:Flow)(s':Shared):Prop :=
 match f with
 |.next=>∃ σ' H',Inv X pins σ' H' s'/\D.nx σ' H'
 |.brk=>∃ σ' H',Inv X pins σ' H' s'/\D.bk σ' H'
 |.cont=>∃ σ' H',Inv X pins σ' H' s'/\D.ct σ' H'
 |.ret u=>∃v σ' H',Inv X pins σ' H' s'/\RelV v u/\D.rt v H'
def PE(X:Cx)(e:Expr)(t:TE):Prop :=
 ∀(pins:List (Addr×Obj)) (s:Shared) (σ:St) (H:Hp) (Q:VK),Inv X pins σ H s->t σ H Q->wpAny (model X.prog X.w) X.A (eval e X.env) (EP X pins σ Q) X.xe s
def PT(X:Cx)(e:Expr)(t:TT):Prop :=
 ∀(pins:List (Addr×Obj)) (s:Shared) (σ:St) (H:Hp) (Q:Bool->Hp->Prop),Inv X pins σ H s->t σ H Q->wpAny (model X.prog X.w) X.A (isTrue e X.env (eval e X.env)) (TP X pins σ Q) X.xe s
def PW(X:Cx)(e:Expr)(t:TT):Prop :=
 ∀(whole:Sem Value) (pins:List (Addr×Obj)) (s:Shared) (σ:St) (H:Hp) (Q:Bool->Hp->Prop),Inv X pins σ H s->t σ H Q->wpAny (model X.prog X.w) X.A (isTrue e X.env whole) (TP X pins σ Q) X.xe s
theorem PW.pt{X:Cx}{e:Expr}{t:TT}(h:PW X e t):PT X e t:=h _
def PA(X:Cx)(es:List Expr)(t:TA):Prop :=
 ∀(pos:Pos) (pins:List (Addr×Obj)) (s:Shared) (σ:St) (H:Hp) (Q:List V->Hp->Prop),Inv X pins σ H s->t σ H Q->wpAny (model X.prog X.w) X.A (spliced (backTo pos (starEach es X.env))) (AP X pins σ Q) X.xe s
def PS(X:Cx)(st:Stmt)(t:TS):Prop :=
 ∀(pins:List (Addr×Obj)) (s:Shared) (σ:St) (H:Hp) (D:Ends),Inv X pins σ H s->t D σ H->wpAny (model X.prog X.w) X.A (exec st X.env) (SP X pins D) X.xe s
def PSs(X:Cx)(st:List Stmt)(t:TS):Prop :=
 ∀(pins:List (Addr×Obj)) (s:Shared) (σ:St) (H:Hp) (D:Ends),Inv X pins σ H s->t D σ H->wpAny (model X.prog X.w) X.A (execs st X.env) (SP X pins D) X.xe s
theorem thn{α:Type}{t:Sem α}{Q Q':α->Shared->Prop}{M:Model}{A:Around}{E:Value->Shared->Prop}{s:Shared}(h:wpAny M A t Q E s)(hQ:∀a s,Q a s->Q' a s):wpAny M A t Q' E s:=wpAny_mono h hQ fun _ _ x=>x
section
variable {X:Cx}
def tVar(i:Nat):TE:=fun σ H Q=>∃v,σ[i]?=some (some v)/\Q v H
def tC(v:V):TE:=fun _ H Q=>Q v H
theorem zlw {i:Nat}{x:Str}{pos:Pos}(hN:X.N[i]?=some x) (hv:Vis X.env.scope x) (hd:(x == ("__debug__" : Str))=false:=by decide) (hcd:(x == ("__classdict__" : Str))=false:=by decide):PE X (.Name x pos) (tVar i):=by
 intro pins s σ H Q I h;obtain⟨v,e,h⟩:=h;obtain⟨m,hn,hl⟩:=I.loc;obtain⟨u,r,l⟩:=hl i x v hN e hv;have fin:EP X pins σ Q u s:=⟨v,H,I,r,h⟩;rcases l with⟨hk,hm⟩ |⟨hk,c,hc,hcell⟩
 .exact wpAny_Name (wpAny_loadName_local I.ok.kind hk hn hm fin) hd
 .rcases hk with hk |hk
  .exact wpAny_Name (wpAny_loadName_cell I.ok.kind hk hc hcell fin) hd
  .exact wpAny_Name (wpAny_loadName_free I.ok.kind hk hc hcell fin hcd) hd
theorem zag{i j pos}:PE X (.Constant (.int i) j pos) (tC (.int i)):=fun _ _ _ H _ I h=>wpAny_Constant_int ⟨.int i,H,I.tok _,⟨_,rfl⟩,h⟩
theorem pe_bl{b j pos}:PE X (.Constant (.bool b) j pos) (tC (.bl b)):=fun _ _ _ H _ I h=>Constant_bool ⟨.bl b,H,I,rfl,h⟩
theorem zcf{j pos}:PE X (.Constant .none j pos) (tC .non):=fun _ _ _ H _ I h=>Constant_none ⟨.non,H,I,rfl,h⟩
theorem zgY{x j pos}:PE X (.Constant (.str x) j pos) (tC (.str x)):=fun _ _ _ H _ I h=>Calls.Constant_str ⟨.str x,H,I.tok _,⟨_,rfl⟩,h⟩
def Gl(X:Cx)(x:Str):Prop:=X.env.kindOf x=some .globalImplicit
theorem ziP{E:Value -> Shared -> Prop}{pins:List (Addr × Obj)}{s:Shared}{σ : St}{H:Hp}{x:Str}{u:Value}{pos:Pos}{Q:Value -> Shared -> Prop}(I:Inv X pins σ H s)(hg:Gl X x)(hm:X.mg x=some u)(h:Q u s)
  (hd:(x == ("__debug__" : Str))=false:=by decide):wpAny (model X.prog X.w) X.A (eval (.Name x pos) X.env) Q E s :=
 Calls.Name_function_global I.ok.kind hg (Calls.loadGlobal_global (by rw[I.ok.glob];exact I.mod.glob.keeps I.bk) hm h) hd
theorem zcx{E:Value -> Shared -> Prop}{pins:List (Addr × Obj)}{s:Shared}{σ : St}{H:Hp}{x:Str}{u:Value}{pos:Pos}{Q:Value -> Shared -> Prop}(I:Inv X pins σ H s)(hg:Gl X x)(hm:X.mg x=none)(hv:bootBuiltins x=some u)(h:Q u s)
  (hn:x ≠ "__name__":=by decide) (hd:(x == ("__debug__" : Str))=false:=by decide):wpAny (model X.prog X.w) X.A (eval (.Name x pos) X.env) Q E s:=by
 obtain⟨mb,h1,h2⟩:=I.mod.blt;exact Calls.Name_function_global I.ok.kind hg (Calls.loadGlobal_builtin (by rw[I.ok.glob];exact I.mod.glob.keeps I.bk) hm (by rw[I.ok.blt];exact h1.keeps I.bk) ((h2 x hn).trans hv) h) hd
theorem zeK {x:Str}{v:V}{u:Value}{pos:Pos}(hg:Gl X x) (hm:X.mg x=some u) (r:RelV v u) (hd:(x == ("__debug__" : Str))=false:=by decide):PE X (.Name x pos) (tC v) :=
 fun _ _ _ H _ I h=>ziP I hg hm ⟨v,H,I,r,h⟩ hd
theorem ziw {x:Str}{v:V}{u:Value}{pos:Pos}(hg:Gl X x) (hm:X.mg x=none) (hv:bootBuiltins x=some u) (r:RelV v u) (hn:x ≠ "__name__":=by decide) (hd:(x == ("__debug__" : Str))=false:=by decide):PE X (.Name x pos) (tC v) :=
 fun _ _ _ H _ I h=>zcx I hg hm hv ⟨v,H,I,r,h⟩ hn hd
variable {a b:Expr}{ta tb:TE}{pos:Pos}
def PC(X:Cx)(op:CmpOp)(a b:Expr)(t:TE):Prop :=
 ∀(pins:List (Addr×Obj)) (s:Shared) (σ:St) (H:Hp) (Q:VK),Inv X pins σ H s->t σ H Q ->
  wpAny (model X.prog X.w) X.A (eval a X.env) (fun v s₁=>wpAny (model X.prog X.w) X.A (eval b X.env) (fun u s₂=>wpAny (model X.prog X.w) X.A (compareOp op v u) (EP X pins σ Q) X.xe s₂) X.xe s₁) X.xe s
def tB(t:TE):TT:=fun σ H Q=>t σ H fun x H1=>∃c,x=.bl c/\Q c H1
theorem zc1{op:CmpOp}{t:TE}(h:PC X op a b t)(h1:behindInMarks op b=false:=by first |exact nobehind _ (by decide) (by decide) |rfl):PT X (.Compare a [op] [b] pos) (tB t):=by
 intro pins s σ H Q I hw;refine wpAny_isTrue_Compare1 (thn (h pins s σ H _ I hw) fun v s1 h1=>thn h1 fun u s2 h2=>thn h2 fun c s3 ⟨x,H1,I1,r1,q1⟩=>?_) h1;obtain⟨d,rfl,q⟩:=q1
 cases r1
 exact wpAny_truthy_bool ⟨H1,I1,q⟩
theorem zek{e:Expr}{t:TE}(h:PE X e t)(he:∀whole,isTrue e X.env whole=(do let v <- whole;standAt e.pos;holding [v] (truthy v)):=by intro _;rfl):PT X e (tB t):=by
 intro pins s σ H Q I hw;refine isTrue_plain (thn (h pins s σ H _ I hw) fun v s1 ⟨x,H1,I1,r1,q1⟩=>?_) (he _);obtain⟨d,rfl,q⟩:=q1
 cases r1
 exact wpAny_truthy_bool ⟨H1,I1,q⟩
variable {tA tB':TT}{rest:List Expr}
def tAnd(t u:TT):TT:=fun σ H Q=>t σ H fun c H1=>if c=true then u σ H1 Q else Q false H1
def tOr(t u:TT):TT:=fun σ H Q=>t σ H fun c H1=>if c=true then Q true H1 else u σ H1 Q
def tNot(t:TT):TT:=fun σ H Q=>t σ H fun c H1=>Q (!c) H1
theorem ziq(ha:PT X a tA):PW X (.BoolOp .And [a] pos) tA:=by
 intro wh pins s σ H Q I h;refine isTrue_and (thn (ha pins s σ H Q I h) fun c s1 e=>?_)
 cases c with
 |true=>exact isTrue_and_nil e
 |false=>exact e
theorem zj7(ha:PT X a tA):PW X (.BoolOp .Or [a] pos) tA:=by
 intro wh pins s σ H Q I h;refine isTrue_or (thn (ha pins s σ H Q I h) fun c s1 e=>?_)
 cases c with
 |false=>exact isTrue_or_nil e
 |true=>exact e
theorem zj8(ha:PT X a tA)(hb:PW X (.BoolOp .And (b::rest) pos) tB'):PW X (.BoolOp .And (a::b::rest) pos) (tAnd tA tB'):=by
 intro wh pins s σ H Q I h;refine isTrue_and (thn (ha pins s σ H _ I h) fun c s1 ⟨H1,I1,q1⟩=>?_)
 cases c with
 |true=>exact hb wh pins s1 σ H1 Q I1 q1
 |false=>exact⟨H1,I1,q1⟩
theorem pw_or(ha:PT X a tA)(hb:PW X (.BoolOp .Or (b::rest) pos) tB'):PW X (.BoolOp .Or (a::b::rest) pos) (tOr tA tB'):=by
 intro wh pins s σ H Q I h;refine isTrue_or (thn (ha pins s σ H _ I h) fun c s1 ⟨H1,I1,q1⟩=>?_)
 cases c with
 |true=>exact⟨H1,I1,q1⟩
 |false=>exact hb wh pins s1 σ H1 Q I1 q1
theorem zgT(ha:PT X a tA):PT X (.UnaryOp .Not a pos) (tNot tA):=by intro pins s σ H Q I h;exact isTrue_not (ha pins s σ H (fun c H1=>Q (!c) H1) I h)
def tAndV(ta tb:TE):TE:=fun σ H Q=>ta σ H fun x H1=>∃c,x=.bl c/\if c=true then tb σ H1 Q else Q (.bl false) H1
theorem zka{op}{t:TE}(h:PE X a t):PE X (.BoolOp op [a] pos) t:=fun pins s σ H Q I hw=>BoolOp_one (h pins s σ H Q I hw)
theorem zkc(ha:PE X a ta)(hb:PE X (.BoolOp .And (b::rest) pos) tb):PE X (.BoolOp .And (a::b::rest) pos) (tAndV ta tb):=by
 intro pins s σ H Q I h;refine BoolOp_and (thn (ha pins s σ H _ I h) fun v s1 ⟨x,H1,I1,r1,q1⟩=>?_);obtain⟨c,rfl,q1⟩:=q1
 cases r1
 refine wpAny_truthy_bool ?_
 cases c with
 |true=>exact hb pins s1 σ H1 Q I1 q1
 |false=>exact⟨.bl false,H1,I1,rfl,q1⟩
def tIf(t:TT)(ta tb:TE):TE:=fun σ H Q=>t σ H fun c H1=>if c=true then ta σ H1 Q else tb σ H1 Q
theorem zjz{c:Expr}(hc:PT X c tA)(ha:PE X a ta)(hb:PE X b tb):PE X (.IfExp c a b pos) (tIf tA ta tb):=by
 intro pins s σ H Q I h;refine wpAny_IfExp (thn (hc pins s σ H _ I h) fun d s1 ⟨H1,I1,q1⟩=>?_)
 cases d with
 |true=>exact ha pins s1 σ H1 Q I1 q1
 |false=>exact hb pins s1 σ H1 Q I1 q1
end
def SqL(K:W.Frag)(H:Hp)(a:Addr)(xs:List V):Prop :=
 Rd H a (.lst xs) ∨
  ∃(o:Obj) (its:Array Value) (n:Nat),K.lookup a=some o/\o.cls=.type "list" /\ o.dict=none/\o.data=.seq its n/\its.size<=sizeLine/\Vals xs its.toList
def SqT(K:W.Frag)(H:Hp)(a:Addr)(xs:List V):Prop :=
 Rd H a (.tup xs) ∨
  ∃(o:Obj) (its:Array Value) (n:Nat),K.lookup a=some o/\o.cls=.type "tuple" /\ o.data=.seq its n/\its.size<=sizeLine/\Vals xs its.toList
def absV:Value->Option V
 |.none=>some .non
 |.bool b=>some (.bl b)
 |.int i _=>some (.int i)
 |.str x _=>some (.str x)
 |.bytes b _=>some (.byt b)
 |.float b _=>some (.flt b)
 |.ref a=>some (.ref a)
 |.type n=>some (.ty n)
 |_=>none
theorem RelV.abs{x:V}{u:Value}(r:RelV x u):absV u=some x:=by
 cases x with
 |non=>cases r;rfl
 |bl _=>cases r;rfl
 |int _=>obtain⟨t,rfl⟩:=r;rfl
 |str _=>obtain⟨t,rfl⟩:=r;rfl
 |byt _=>obtain⟨t,rfl⟩:=r;rfl
 |flt _=>obtain⟨t,rfl⟩:=r;rfl
 |ref _=>cases r;rfl
 |ty _=>cases r;rfl
theorem RelV.inj{x y:V}{u:Value}(r:RelV x u)(q:RelV y u):x=y:=Option.some.inj (r.abs.symm.trans q.abs)
theorem Vals.inj:∀{xs ys:List V}{us:List Value},Vals xs us->Vals ys us->xs=ys
 |_,_,_,.nil,.nil=>rfl
 |_,_,_,.cons r t,.cons r' t'=>by rw[r.inj r',Vals.inj t t']
section
variable {X:Cx}{pins:List (Addr×Obj)}{σ:St}{H:Hp}{s:Shared}{a:Addr}{xs ys:List V}
theorem SqL.of{K:W.Frag}(h:H a=some (.lst xs)):SqL K H a xs:=.inl (.inl h)
theorem SqT.of{K:W.Frag}(h:H a=some (.tup xs)):SqT K H a xs:=.inl (.inl h)
theorem Inv.list(I:Inv X pins σ H s)(h:SqL X.K H a xs):∃its:List Value,Vals xs its/\PlainL s.heap a its.toArray/\xs.length<=sizeLine:=by
 rcases h with h |⟨o,its,n,hk,hc,hd,hs,hz,r⟩
 .obtain⟨z,its,n,r,e⟩:=h.ok I.hok;exact⟨its,r,⟨_,n,e,rfl,rfl,rfl⟩,z⟩
 .refine⟨its.toList,r,⟨o,n,I.kIn a o hk,hc,hd,by simpa using hs⟩,?_⟩;have e:=r.length;simp only[Array.length_toList]at e;lia
theorem Inv.tuple(I:Inv X pins σ H s)(h:SqT X.K H a xs):∃its:List Value,Vals xs its/\IsTup s.heap a its.toArray/\xs.length<=sizeLine:=by
 rcases h with h |⟨o,its,n,hk,hc,hs,hz,r⟩
 .obtain⟨z,its,r,p⟩:=h.ok I.hok;exact⟨its,r,p,z⟩
 .refine⟨its.toList,r,⟨o,I.kIn a o hk,hc,n,by simpa using hs⟩,?_⟩;have e:=r.length;simp only[Array.length_toList]at e;lia
theorem Inv.list_inj(I:Inv X pins σ H s)(h:SqL X.K H a xs)(h':SqL X.K H a ys):xs=ys:=by
 obtain⟨its,r,⟨o,n,e,_,_,d⟩,_⟩:=I.list h;obtain⟨its',r',⟨o',n',e',_,_,d'⟩,_⟩:=I.list h';rw[e]at e';cases e';rw[d]at d';injection d' with d1 _;have:its=its':=by simpa using congrArg Array.toList d1
 subst this;exact r.inj r'
theorem Inv.tuple_inj(I:Inv X pins σ H s)(h:SqT X.K H a xs)(h':SqT X.K H a ys):xs=ys:=by
 obtain⟨its,r,⟨o,e,_,n,d⟩,_⟩:=I.tuple h;obtain⟨its',r',⟨o',e',_,n',d'⟩,_⟩:=I.tuple h';rw[e]at e';cases e';rw[d]at d';injection d' with d1 _;have:its=its':=by simpa using congrArg Array.toList d1
 subst this;exact r.inj r'
end
abbrev Cx.wish(X:Cx)(E:Value->Shared->Prop):Cx:={ X with xe:=E }
abbrev Cx.nox(X:Cx):Cx:=X.wish fun _ _=>False
theorem Cx.Ok.wish{X:Cx}(ok:X.Ok)(E:Value->Shared->Prop):(X.wish E).Ok :=
 ⟨ok.mod,ok.kind,ok.glob,ok.blt,ok.above,ok.inj,ok.has,ok.cab,ok.hd,ok.frames,ok.stk,ok.exf,ok.bs,ok.bsz,ok.noex,ok.exfs,ok.funs,ok.frf⟩
theorem Cx.Ok.unwish{X:Cx}{E:Value->Shared->Prop}(ok:(X.wish E).Ok):X.Ok :=
 ⟨ok.mod,ok.kind,ok.glob,ok.blt,ok.above,ok.inj,ok.has,ok.cab,ok.hd,ok.frames,ok.stk,ok.exf,ok.bs,ok.bsz,ok.noex,ok.exfs,ok.funs,ok.frf⟩
section
variable {X:Cx}{pins:List (Addr×Obj)}{σ:St}{H:Hp}{s:Shared}{E:Value->Shared->Prop}
theorem Inv.wish(I:Inv X pins σ H s)(E:Value->Shared->Prop):Inv (X.wish E) pins σ H s:=⟨I.ok.wish E,I.os,I.bare,I.base,I.loc,I.cell,I.free,I.freeC,I.pin,I.hok,I.len⟩
theorem Inv.unwish(I:Inv (X.wish E) pins σ H s):Inv X pins σ H s:=⟨I.ok.unwish,I.os,I.bare,I.base,I.loc,I.cell,I.free,I.freeC,I.pin,I.hok,I.len⟩
theorem SP.unwish{D:Ends}{f:Flow}{s':Shared}(h:SP (X.wish E) pins D f s'):SP X pins D f s':=by
 cases f with
 |next=>obtain⟨σ',H',I,q⟩:=h;exact⟨σ',H',I.unwish,q⟩
 |brk=>obtain⟨σ',H',I,q⟩:=h;exact⟨σ',H',I.unwish,q⟩
 |cont=>obtain⟨σ',H',I,q⟩:=h;exact⟨σ',H',I.unwish,q⟩
 |ret u=>obtain⟨v,σ',H',I,r,q⟩:=h;exact⟨v,σ',H',I.unwish,r,q⟩
theorem PE.nox{e:Expr}{t:TE}(h:PE X.nox e t):PE X e t:=fun pins s σ H Q I hw =>
 wpAny_mono (h pins s σ H Q (I.wish _) hw) (fun _ _ ⟨v,H',I',r,q⟩=>⟨v,H',I'.unwish,r,q⟩) fun _ _ z=>False.elim z
theorem PSs.nox{st:List Stmt}{t:TS}(h:PSs X.nox st t):PSs X st t:=fun pins s σ H D I hw =>
 wpAny_mono (h pins s σ H D (I.wish _) hw) (fun _ _ q=>q.unwish) fun _ _ z=>False.elim z
end
section
variable {X:Cx}{st:Stmt}{rest:List Stmt}{t u:TS}{e:Expr}{te:TE}{pos:Pos}
def tNext:TS:=fun D σ H=>D.nx σ H
def tSeq(t u:TS):TS:=fun D σ H=>t { D with nx:=u D } σ H
theorem za8:PSs X [] tNext:=fun _ _ σ H _ I h=>wpAny_execs_nil ⟨σ,H,I,h⟩
theorem zab(h1:PS X st t)(h2:PSs X rest u):PSs X (st::rest) (tSeq t u):=by
 intro pins s σ H D I h;refine wpAny_execs_cons (thn (h1 pins s σ H { D with nx:=u D } I h) fun f s1 q=>?_)
 cases f with
 |next =>
  obtain⟨σ',H',I',q⟩:=q;exact h2 pins s1 σ' H' D I' q
 |ret v=>exact q
 |brk=>exact q
 |cont=>exact q
theorem zah(h1:PS X st t):PSs X [st] t:=by
 intro pins s σ H D I h;refine wpAny_execs_cons (thn (h1 pins s σ H D I h) fun f s1 q=>?_)
 cases f with
 |next=>exact wpAny_execs_nil q
 |ret v=>exact q
 |brk=>exact q
 |cont=>exact q
theorem Inv.quiet{pins:List (Addr×Obj)}{σ:St}{H:Hp}{s:Shared}(I:Inv X pins σ H s):interactive X.env=false:=by simp[interactive,I.ok.kind]
def tDrop(te:TE):TS:=fun D σ H=>te σ H fun _ H1=>D.nx σ H1
theorem zbo(he:PE X e te)(hs:swapsWith e none pos.line X.env=pure false:=by rfl):PS X (.Expr e pos) (tDrop te):=by intro pins s σ H D I h;exact wpAny_Expr_any (thn (he pins s σ H _ I h) fun v s1 ⟨x,H1,I1,r1,q1⟩=>⟨σ,H1,I1,q1⟩) I.quiet hs
def tRet(te:TE):TS:=fun D σ H=>te σ H D.rt
theorem zay(he:PE X e te):PS X (.Return (some e) pos) (tRet te):=by intro pins s σ H D I h;exact wpAny_Return_some (thn (he pins s σ H _ I h) fun v s1 ⟨x,H1,I1,r1,q1⟩=>⟨x,σ,H1,I1,r1,q1⟩)
def tIfS(c:TT)(t u:TS):TS:=fun D σ H=>c σ H fun b H1=>if b=true then t D σ H1 else u D σ H1
theorem ps_if{c:Expr}{a b:List Stmt}{tc:TT}(hc:PT X c tc)(ha:PSs X a t)(hb:PSs X b u):PS X (.If c a b pos) (tIfS tc t u):=by
 intro pins s σ H D I h;refine wpAny_If (thn (hc pins s σ H _ I h) fun d s1 ⟨H1,I1,q1⟩=>?_)
 cases d with
 |true=>exact ha pins s1 σ H1 D I1 q1
 |false=>exact hb pins s1 σ H1 D I1 q1
def zk9:TS:=fun _ _ _=>False
theorem zgV:PS X st zk9:=fun _ _ _ _ _ _ h=>h.elim
end
abbrev TG:=V->St->Hp->(St->Hp->Prop)->Prop
abbrev TGs:=List V->St->Hp->(St->Hp->Prop)->Prop
def PG(X:Cx)(target:Expr)(t:TG):Prop :=
 ∀(pins:List (Addr×Obj)) (s:Shared) (σ:St) (H:Hp) (v:V) (u:Value) (Q:St->Hp->Prop),Inv X pins σ H s->RelV v u->t v σ H Q ->
  wpAny (model X.prog X.w) X.A (assign target X.env u) (fun _ s'=>∃ σ' H',Inv X pins σ' H' s'/\Q σ' H') X.xe s
def PGs(X:Cx)(ts:List Expr)(t:TGs):Prop :=
 ∀(pins:List (Addr×Obj)) (s:Shared) (σ:St) (H:Hp) (vs:List V) (us:List Value) (Q:St->Hp->Prop),Inv X pins σ H s->Vals vs us->t vs σ H Q ->
  wpAny (model X.prog X.w) X.A (assignInOrder ((assignEach ts X.env).map (·.2)) us) (fun _ s'=>∃ σ' H',Inv X pins σ' H' s'/\Q σ' H') X.xe s
abbrev TIp:=V->V->Hp->VK->Prop
def PIp(X:Cx)(op:Operator)(t:TIp):Prop :=
 ∀(pins:List (Addr×Obj)) (s:Shared) (σ:St) (H:Hp) (x y:V) (v u:Value) (Q:VK),Inv X pins σ H s->RelV x v->RelV y u->t x y H Q ->
  wpAny (model X.prog X.w) X.A (inplaceOp op v u) (EP X pins σ Q) X.xe s
section
variable {X:Cx}{pos:Pos}
def gName(i:Nat):TG:=fun v σ H Q=>Q (σ.set i (some v)) H
theorem zae{i:Nat}{x:Str}(hN:X.N.Nodup)(hi:X.N[i]?=some x)(hx:Loc X.env.scope x)(hf:X.fn x=true∨X.env.scope.names.lookup x=some .local:=by first |exact .inl rfl |exact .inr rfl |assumption):PG X (.Name x pos) (gName i):=by intro pins s σ H v u Q I r h;exact wpAny_assign_Name (zez I hN hi hx r (fun s' I'=>⟨_,H,I',h⟩) hf)
def gNil:TGs:=fun vs σ H Q=>vs=[]/\Q σ H
def gCons(t:TG)(u:TGs):TGs:=fun vs σ H Q=>∃v r,vs=v::r/\t v σ H fun σ' H'=>u r σ' H' Q
theorem zaA:PGs X [] gNil:=by
 intro pins s σ H vs us Q I r h;obtain⟨e,h⟩:=h;subst e
 cases r
 exact assignInOrder_nil ⟨σ,H,I,h⟩
theorem zaf{e:Expr}{es:List Expr}{t:TG}{u:TGs}(h1:PG X e t)(h2:PGs X es u)
  (hs:(assignEach (e::es) X.env).map (·.2)=assign e X.env::(assignEach es X.env).map (·.2):=by rfl):PGs X (e::es) (gCons t u):=by
 intro pins s σ H vs us Q I r h;obtain⟨v,vr,e1,h⟩:=h;subst e1
 cases r with
 |cons r rr =>
  rw[hs];refine assignInOrder_cons (thn (h1 pins s σ H _ _ _ I r h) fun _ s1 ⟨σ1,H1,I1,q1⟩=>?_);exact h2 pins s1 σ1 H1 _ _ Q I1 rr q1
def gTup(K:W.Frag)(n:Nat)(t:TGs):TG:=fun v σ H Q=>∃a xs,v=.ref a/\SqT K H a xs/\xs.length=n/\t xs σ H Q
theorem zbr{es:List Expr}{k:Nat}{t:TGs}{n:Nat}(hc:X.calm=true)(h:PGs X es t)
  (hn:(assignEach es X.env).length=n:=by rfl) (hst:(assignEach es X.env).findIdx? (·.1)=none:=by rfl):PG X (.Tuple es k pos) (gTup X.K n t):=by
 intro pins s σ H v u Q I r hw;obtain⟨a,xs,e1,hq,hl,hw⟩:=hw;subst e1
 cases r
 obtain⟨its,rv,ht,hz⟩:=I.tuple hq;refine assign_Tuple_tuple (I.ok.hd hc) ht (by simp[hn,<- hl,rv.length]) hst fun h' hx=>?_
 have I1:Inv X pins σ H { s with heap:=h' }:=I.kept (t':=s.toks) fun b o e=>hx b o (Nat.ne_of_lt (Heap.lt_size e)) e
 exact h pins _ σ H xs _ Q I1 (by simpa using rv) hw
def tAsg(te:TE)(g:TG):TS:=fun D σ H=>te σ H fun x H1=>g x σ H1 D.nx
theorem zbM{tg e:Expr}{te:TE}{g:TG}(he:PE X e te)(hg:PG X tg g)(hs:swapsWithSole [tg] e pos.line X.env=pure false := by rfl)(hw:swappedStores [tg] e X.env=pure none := by rfl)
  (h1:(assignEach [tg] X.env).map (·.2)=[assign tg X.env]:=by rfl):PS X (.Assign [tg] e pos) (tAsg te g):=by
 intro pins s σ H D I h;refine wpAny_Assign_stores (thn (he pins s σ H _ I h) fun v s1 ⟨x,H1,I1,r1,q1⟩=>?_) hs hw;rw[h1];exact thn (hg pins s1 σ H1 x v _ I1 r1 q1) fun _ s2 q=>q
theorem zas{i:Nat}{x:Str}{e:Expr}{te:TE}{pos':Pos}(hN:X.N.Nodup)(hi:X.N[i]? = some x)(hx:Loc X.env.scope x)(he:PE X e te)(hs:swapsWith e (some (.Name x pos')) pos.line X.env=pure false := by rfl)(hf:X.fn x=true ∨ X.env.scope.names.lookup x=some .local := by first |exact .inl rfl |exact .inr rfl |assumption) :
  PS X (.Assign [.Name x pos'] e pos) (tAsg te (gName i)):=by
 intro pins s σ H D I h;refine wpAny_Assign_Name (thn (he pins s σ H _ I h) fun v s1 ⟨y,H1,I1,r1,q1⟩=>?_) hs;exact zez I1 hN hi hx r1 (fun s2 I2=>⟨_,H1,I2,q1⟩) hf
def tAug(i:Nat)(te:TE)(ti:TIp):TS:=fun D σ H=>∃x,σ[i]?=some (some x)/\te σ H fun y H1=>ti x y H1 fun z H2=>D.nx (σ.set i (some z)) H2
theorem zlt{i:Nat}{x:Str}{e:Expr}{te:TE}{op:Operator}{ti:TIp}{pos':Pos}(hN:X.N.Nodup)(hi:X.N[i]? = some x)(hx:Loc X.env.scope x)(he:PE X e te)(ho:PIp X op ti)(hf:X.fn x=true ∨ X.env.scope.names.lookup x=some .local := by first |exact .inl rfl |exact .inr rfl |assumption) :
  PS X (.AugAssign (.Name x pos') op e pos) (tAug i te ti):=by
 intro pins s σ H D I h;obtain⟨v,e1,h⟩:=h;obtain⟨m,hn,hl⟩:=I.loc;have vis:Vis X.env.scope x:=by rcases hx with k |k;exact .inl k;exact .inr (.inl k)
 obtain⟨u,r,l⟩:=hl i x v hi e1 vis;refine wpAny_AugAssign_Name ?_
 have go:wpAny (model X.prog X.w) X.A (eval e X.env) (fun w s₂=>wpAny (model X.prog X.w) X.A (inplaceOp op u w) (fun r s₃=>wpAny (model X.prog X.w) X.A (storeName X.env x r) (fun _=>SP X pins D .next) X.xe s₃) X.xe s₂) X.xe s:=by
  refine thn (he pins s σ H _ I h) fun w s1 ⟨y,H1,I1,r1,q1⟩=>?_
  refine thn (ho pins s1 σ H1 v y u w _ I1 r r1 q1) fun z s2 ⟨zv,H2,I2,r2,q2⟩=>?_
  exact zez I2 hN hi hx r2 (fun s3 I3=>⟨_,H2,I3,q2⟩) hf
 rcases l with⟨hk,hm⟩ |⟨hk,c,hc,hcell⟩
 .exact wpAny_loadName_local I.ok.kind hk hn hm go
 .rcases hk with hk |hk
  .exact wpAny_loadName_cell I.ok.kind hk hc hcell go
  .rcases hx with k |k
   .have:X.env.scope.names.lookup x=some .free:=hk;rw[k]at this;cases this
   .have:X.env.scope.names.lookup x=some .free:=hk;rw[k]at this;cases this
def ipI(f:Int->Int->Int):TIp:=fun x y H Q=>∃i j,x=.int i/\y=.int j/\Q (.int (f i j)) H
theorem zlO:PIp X .Add (ipI fun i j=>i+j):=by intro pins s σ H x y v u Q I r1 r2 h;obtain⟨i,j,e1,e2,q⟩:=h;subst e1;subst e2;obtain⟨t,rfl⟩:=r1;obtain⟨t',rfl⟩:=r2;exact iadd_int ⟨.int _,H,I.tok _,⟨_,rfl⟩,q⟩
end
section
variable {X:Cx}{pos:Pos}
def zjY(c:TT)(tb:TS):TS:=fun D σ H=>∃W:Nat->St->Hp->Prop,(∃m,W m σ H)/\∀m σ H,W m σ H ->
 c σ H fun b H1=>if b=true then ∃N:St->Hp->Prop,(∀ σ' H',N σ' H'->∃m',m'<m/\W m' σ' H')/\tb { D with nx:=N,ct:=N,bk:=D.nx } σ H1 else D.nx σ H1
theorem zgU{c:Expr}{body:List Stmt}{tc:TT}{tb:TS}(hp:PassesOwn (model X.prog X.w) X.A X.env X.xe)(hc:PT X c tc)(hb:PSs X body tb):PS X (.While c body [] pos) (zjY tc tb):=by
 intro pins s σ H D I h;obtain⟨W,⟨m0,w0⟩,turn⟩:=h;refine wpAny_While (codeAny_whileLoop (fun n s'=>∃ σ' H',Inv X pins σ' H' s'/\W n σ' H') ?_ m0 ⟨σ,H,I,w0⟩);rintro n s1 ⟨σ1,H1,I1,w1⟩;refine wpAny_passesOwn hp (thn (hc pins s1 σ1 H1 _ I1 (turn n σ1 H1 w1)) fun b s2 ⟨H2,I2,q2⟩=>?_)
 cases b with
 |true =>
  obtain⟨N,hN,q2⟩:=q2;rw[if_pos rfl];refine wpAny_passesOwn hp (thn (hb pins s2 σ1 H2 _ I2 q2) fun f s3 q3=>?_)
  cases f with
  |next =>
   obtain⟨σ3,H3,I3,n3⟩:=q3;obtain⟨m',hm,w3⟩:=hN σ3 H3 n3;exact⟨m',hm,σ3,H3,I3,w3⟩
  |cont =>
   obtain⟨σ3,H3,I3,n3⟩:=q3;obtain⟨m',hm,w3⟩:=hN σ3 H3 n3;exact⟨m',hm,σ3,H3,I3,w3⟩
  |brk=>exact q3
  |ret v=>exact q3
 |false =>
  rw[if_neg Bool.false_ne_true];exact wpAny_execs_nil ⟨σ1,H2,I2,q2⟩
end
structure It where
 go:Nat->Hp->Prop
 yld:Nat->Hp->V->Hp->Prop
 stop:Nat->Hp->Prop
def FpOk(X:Cx)(pins:List (Addr×Obj))(H:Hp)(b:Addr):Prop :=
 H b=none/\b≠X.env.locals/\b ∉ X.fs/\(b∈X.ex∨X.s₀.heap.objs.size<=b)/\(∀x c,X.env.cells.lookup x=some c->c≠b)/\∀p∈X.pn++pins,p.1≠b
theorem Inv.fpOk{X:Cx}{pins:List (Addr×Obj)}{σ:St}{H H':Hp}{s:Shared}{b:Addr}(I:Inv X pins σ H s)(hb:s.heap.objs.size<=b)(hn:H' b=none):FpOk X pins H' b:=by
 refine⟨hn,Nat.ne_of_gt (Nat.lt_of_lt_of_le I.lt hb),I.nofs hb,.inr (Nat.le_trans I.sz hb),fun x c e z=>?_,fun p hp z=>?_⟩
 .obtain⟨v,q⟩:=I.cell x c e;exact absurd (Nat.lt_of_lt_of_le q.lt (by rw[z];exact hb)) (Nat.lt_irrefl _)
 .exact absurd (Nat.lt_of_lt_of_le (Heap.lt_size (I.pin p hp).1) (by rw[z];exact hb)) (Nat.lt_irrefl _)
structure Turn (P:Program) (w:World) (K:W.Frag) (tg:Expr) (J:It) (fp:List Addr) (it:Addr) (tn:Nat->Heap->Prop):Prop where
 mem:it∈fp
 obj:∀i h,tn i h->∀b∈fp,∃o,h.get? b=some o/\∀v,o.data≠.cell v
 keep:∀i h h',tn i h->(∀b∈fp,∀o,h.get? b=some o->h'.get? b=some o)->tn i h'
 item:∀(X:Cx),X.prog=P->X.w=w->X.K=K->X.calm=true->∀(i:Nat) (pins:List (Addr×Obj)) (s:Shared) (σ:St) (H:Hp) (E:Value->Shared->Prop),Inv X pins σ H s->(∀b∈fp,FpOk X pins H b)->tn i s.heap->J.go i H ->
  wpAny (model P w) X.A (pyNext (.ref it)) (fun r s1=>∃u,r=some u /\
   wpAny (model P w) X.A (letOwnedTupleGo tg (.ref it) u) (fun _ s2=>∃x H',Inv X pins σ H' s2/\RelV x u/\J.yld i H x H'/\tn (i+1) s2.heap/\∀b∈fp,H' b=none) E s1) E s
 done:∀(X:Cx),X.prog=P->X.w=w->X.K=K->X.calm=true->∀(i:Nat) (pins:List (Addr×Obj)) (s:Shared) (σ:St) (H:Hp) (E:Value->Shared->Prop),Inv X pins σ H s->(∀b∈fp,FpOk X pins H b)->tn i s.heap->J.stop i H ->
  wpAny (model P w) X.A (pyNext (.ref it)) (fun r s1=>r=none/\Inv X pins σ H s1) E s
 self:∀(A:Around) (i:Nat) (s:Shared) (Q:Value->Shared->Prop) (E:Value->Shared->Prop),tn i s.heap->Q (.ref it) s->wpAny (model P w) A (pyIter (.ref it)) Q E s
abbrev TI:=St->Hp->(It->Hp->Prop)->Prop
def PIE(X:Cx)(pins:List (Addr×Obj))(σ:St)(tg:Expr)(R:It->Hp->Prop)(itv:Value)(s2:Shared):Prop :=
 ∃(it:Addr) (fp:List Addr) (tn:Nat->Heap->Prop) (J:It) (H':Hp),itv=.ref it/\Inv X pins σ H' s2/\Turn X.prog X.w X.K tg J fp it tn/\tn 0 s2.heap/\(∀b∈fp,FpOk X pins H' b)/\R J H'
def PI(X:Cx)(tg iter:Expr)(wi:TI):Prop :=
 ∀(pins:List (Addr×Obj)) (s:Shared) (σ:St) (H:Hp) (R:It->Hp->Prop),Inv X pins σ H s->wi σ H R ->
  wpAny (model X.prog X.w) X.A (eval iter X.env) (fun v s1=>wpAny (model X.prog X.w) X.A (pyIter v) (PIE X pins σ tg R) X.xe s1) X.xe s
theorem go_of {M : Model}{A : Around}{E : Value → Shared → Prop}{s : Shared}{tg : Expr}{it : Addr}{u : Value}{o : Obj}{n : String}{vs : Array Value}{Q : Unit → Shared → Prop}(ho : s.heap.get? it = some o) (hc : o.cls = .type n) (hd : o.data = .fields vs)
    (hn:["enumerate","zip","dict_itemiterator","dict_reverseitemiterator","odict_iterator","itertools.zip_longest","itertools.pairwise"].contains n=false) (hQ:Q () s):wpAny M A (letOwnedTupleGo tg (.ref it) u) Q E s:=by
  unfold letOwnedTupleGo
  cases tg <;> first
    | exact wpAny_pure hQ
    | (cases u <;> first
        | exact wpAny_pure hQ
        | (refine wpAny_bind (wpAny_load ho ?_)
           rw[hc,hd]
           show wpAny M A (if (["enumerate","zip","dict_itemiterator","dict_reverseitemiterator","odict_iterator","itertools.zip_longest","itertools.pairwise"].contains n && vs[0]? == some (rawInt _))=true then _ else _) Q E s
           rw[if_neg (by intro h;rw[hn,Bool.false_and] at h;cases h)]
           exact wpAny_pure hQ))
def Itl(K:W.Frag)(a:Addr):It :=
 ⟨fun i H=>∃xs x,SqL K H a xs/\xs[i]?=some x,fun i H x H'=>H'=H/\∀xs,SqL K H a xs->xs[i]?=some x,fun i H=>∃xs,SqL K H a xs/\xs.length<=i⟩
def Itt(K:W.Frag)(a:Addr):It :=
 ⟨fun i H=>∃xs x,SqT K H a xs/\xs[i]?=some x,fun i H x H'=>H'=H/\∀xs,SqT K H a xs->xs[i]?=some x,fun i H=>∃xs,SqT K H a xs/\xs.length<=i⟩
def Itr(lo:Int)(n:Nat):It:=⟨fun i _=>i<n,fun i H x H'=>H'=H/\x=.int (lo+i),fun i _=>n<=i⟩
theorem zh0{P:Program}{w:World}{K:W.Frag}{tg:Expr}(a it:Addr):Turn P w K tg (Itl K a) [it] it (fun i h=>h.IsListIter it a i) where
 mem:=by simp
 obj:=fun i h st b hb=>by
  have e:b=it:=by simpa using hb
  subst e;obtain⟨o,e,c,d⟩:=st;exact⟨o,e,fun v z=>by rw[d]at z;cases z⟩
 keep:=fun i h h' st k=>st.at fun o e=>k it (by simp) o e
 item:=by
  intro X hP hw hK hc i pins s σ H E I hf st hg;subst hP hw hK;obtain⟨xs,x,hq,hx⟩:=hg;obtain⟨its,rv,p,hz⟩:=I.list hq;obtain⟨u,hu,ru⟩:=rv.get hx;obtain⟨f0,f1,f2,f3,f4,f5⟩:=hf it (by simp);refine wpAny_pyNext_list_item st p.isList (x:=u) (by simpa using hu) fun h' st' sb=>?_
  have I1:Inv X pins σ H { s with heap:=h' }:=I.turned (t':=s.toks) (fun b o hb e=>(sb.2 b hb).trans e) f0 f1 f3 f4 f5;obtain⟨o,e,c,d⟩:=id st';exact⟨u,rfl,go_of (s:={ s with heap:=h' }) e c d (by decide) ⟨x,H,I1,ru,⟨rfl,fun ys hy=>by rw[I.list_inj hy hq];exact hx⟩,st',fun b hb=>(hf b hb).1⟩⟩
 done:=by intro X hP hw hK hc i pins s σ H E I hf st hg;subst hP hw hK;obtain⟨xs,hq,hx⟩:=hg;obtain⟨its,rv,p,hz⟩:=I.list hq;obtain⟨f0,f1,f2,f3,f4,f5⟩:=hf it (by simp);have hl:=rv.length;exact wpAny_pyNext_list_end (I.ok.hd hc) st p.isList (by simp;lia) fun h' eb=>⟨rfl,I.turned (t':=s.toks) (fun b o hb e=>eb b o hb e) f0 f1 f3 f4 f5⟩
 self:=fun _ _ _ _ _ st h=>wpAny_pyIter_listiter st h
theorem zht{P:Program}{w:World}{K:W.Frag}{tg:Expr}(a it:Addr):Turn P w K tg (Itt K a) [it] it (fun i h=>h.IsTupleIter it a i) where
 mem:=by simp
 obj:=fun i h st b hb=>by
  have e:b=it:=by simpa using hb
  subst e;obtain⟨o,e,c,d⟩:=st;exact⟨o,e,fun v z=>by rw[d]at z;cases z⟩
 keep:=fun i h h' st k=>st.at fun o e=>k it (by simp) o e
 item:=by
  intro X hP hw hK hc i pins s σ H E I hf st hg;subst hP hw hK;obtain⟨xs,x,hq,hx⟩:=hg;obtain⟨its,rv,p,hz⟩:=I.tuple hq;obtain⟨u,hu,ru⟩:=rv.get hx;obtain⟨f0,f1,f2,f3,f4,f5⟩:=hf it (by simp);refine wpAny_pyNext_tuple_item st (show s.heap.IsTuple a its.toArray from p) (x:=u) (by simpa using hu) fun h' st' sb=>?_
  have I1:Inv X pins σ H { s with heap:=h' }:=I.turned (t':=s.toks) (fun b o hb e=>(sb.2 b hb).trans e) f0 f1 f3 f4 f5;obtain⟨o,e,c,d⟩:=id st';exact⟨u,rfl,go_of (s:={ s with heap:=h' }) e c d (by decide) ⟨x,H,I1,ru,⟨rfl,fun ys hy=>by rw[I.tuple_inj hy hq];exact hx⟩,st',fun b hb=>(hf b hb).1⟩⟩
 done:=by intro X hP hw hK hc i pins s σ H E I hf st hg;subst hP hw hK;obtain⟨xs,hq,hx⟩:=hg;obtain⟨its,rv,p,hz⟩:=I.tuple hq;obtain⟨f0,f1,f2,f3,f4,f5⟩:=hf it (by simp);have hl:=rv.length;exact wpAny_pyNext_tuple_end (I.ok.hd hc) st (show s.heap.IsTuple a its.toArray from p) (by simp;lia) fun h' eb=>⟨rfl,I.turned (t':=s.toks) (fun b o hb e=>eb b o hb e) f0 f1 f3 f4 f5⟩
 self:=fun _ _ _ _ _ st h=>wpAny_pyIter_tupleiter st h
theorem zec{P:Program}{w:World}{K:W.Frag}{tg:Expr}(it:Addr)(lo:Int)(n:Nat):Turn P w K tg (Itr lo n) [it] it (fun i h=>IsRangeIter h it (lo+(i:Nat)*1) ((n:Int)-(i:Nat)) 1) where
 mem:=by simp
 obj:=fun i h st b hb=>by
  have e:b=it:=by simpa using hb
  subst e
  exact⟨_,st,fun v z=>by
   have z':Data.fields _=Data.cell v:=z
   cases z'⟩
 keep:=fun i h h' st k=>k it (by simp) _ st
 item:=by
  intro X hP hw hK hc i pins s σ H E I hf st hg;subst hP hw hK;obtain⟨f0,f1,f2,f3,f4,f5⟩:=hf it (by simp);have W:=Walks.range (prog:=X.prog) (w:=X.w) (I.ok.hd hc) it lo 1 n;refine W.item i s _ _ hg st fun v h' tk hv st' kk=>?_
  obtain⟨t,rfl⟩:=hv;have I1:Inv X pins σ H { s with heap:=h',toks:=tk }:=I.turned (fun b o hb e=>kk b o (by simpa using hb) e) f0 f1 f3 f4 f5;refine⟨_,rfl,go_of (s:={ s with heap:=h',toks:=tk }) (n:="range_iterator") st' rfl rfl (by decide) ⟨.int (lo+i),H,I1,⟨t,?_⟩,⟨rfl,rfl⟩,st',fun b hb=>(hf b hb).1⟩⟩;rw[Int.mul_one]
 done:=by intro X hP hw hK hc i pins s σ H E I hf st hg;subst hP hw hK;obtain⟨f0,f1,f2,f3,f4,f5⟩:=hf it (by simp);exact wpAny_pyNext_range_end (I.ok.hd hc) st (by have:n<=i:=hg;lia) fun h' eb=>⟨rfl,I.turned (t':=s.toks) (fun b o hb e=>eb b o hb e) f0 f1 f3 f4 f5⟩
 self:=fun _ _ _ _ _ st h=>wpAny_pyIter_rangeiter st h
section
variable {X:Cx}{tg:Expr}
def iList(K:W.Frag)(tl:TE):TI:=fun σ H R=>tl σ H fun x H1=>∃a,x=.ref a/\(∃xs,SqL K H1 a xs)/\R (Itl K a) H1
def iTup(K:W.Frag)(tl:TE):TI:=fun σ H R=>tl σ H fun x H1=>∃a,x=.ref a/\(∃xs,SqT K H1 a xs)/\R (Itt K a) H1
theorem za9{l:Expr}{tl:TE}(hl:PE X l tl):PI X tg l (iList X.K tl):=by
 intro pins s σ H R I h;refine thn (hl pins s σ H _ I h) fun v s1 ⟨x,H1,I1,r1,q1⟩=>?_
 obtain⟨a,e,⟨xs,hq⟩,q⟩:=q1;subst e
 cases r1
 obtain⟨its,rv,p,hz⟩:=I1.list hq;refine wpAny_pyIter_list p.isList ?_
 refine⟨s1.heap.objs.size,[s1.heap.objs.size],_,_,H1,rfl,I1.kept (t':=s1.toks) fun b o e=>Heap.get?_push_of_some _ e,zh0 a _,⟨_,Heap.get?_push_size _ rfl,rfl,rfl⟩,fun b hb=>?_,q⟩;have e:b=s1.heap.objs.size:=by simpa using hb
 subst e;exact I1.fpOk (Nat.le_refl _) (I1.hok.fresh (Nat.le_refl _))
theorem zlu{l:Expr}{tl:TE}(hl:PE X l tl):PI X tg l (iTup X.K tl):=by
 intro pins s σ H R I h;refine thn (hl pins s σ H _ I h) fun v s1 ⟨x,H1,I1,r1,q1⟩=>?_
 obtain⟨a,e,⟨xs,hq⟩,q⟩:=q1;subst e
 cases r1
 obtain⟨its,rv,p,hz⟩:=I1.tuple hq;refine wpAny_pyIter_tuple (show s1.heap.IsTuple a its.toArray from p) ?_
 refine⟨s1.heap.objs.size,[s1.heap.objs.size],_,_,H1,rfl,I1.kept (t':=s1.toks) fun b o e=>Heap.get?_push_of_some _ e,zht a _,⟨_,Heap.get?_push_size _ rfl,rfl,rfl⟩,fun b hb=>?_,q⟩;have e:b=s1.heap.objs.size:=by simpa using hb
 subst e;exact I1.fpOk (Nat.le_refl _) (I1.hok.fresh (Nat.le_refl _))
theorem zjw{pins:List (Addr × Obj)}{σ : St}{H:Hp}{s:Shared}{R:It -> Hp -> Prop}{E:Value -> Shared -> Prop}{lo hi:Int}{t u v:Tok}{tk:Nat}(I:Inv X pins σ H s)(h1 : -(2 ^ 62) <= lo)(h2:lo < 2 ^ 62)(h3 : -(2 ^ 62) <= hi)(h4:hi < 2 ^ 62)
  (q:R (Itr lo (hi-lo).toNat) H):wpAny (model X.prog X.w) X.A (pyIter (.ref s.heap.objs.size)) (PIE X pins σ tg R) E { s with heap:=s.heap.push { cls:=.type "range",data:=.fields #[.int lo t,.int hi u,.int 1 v] },toks:=tk }:=by
 refine wpAny_pyIter_range (IsRange.new ..) (small_one h1 h2 h3 h4) ?_
 have I1:Inv X pins σ H { s with heap:=s.heap.push { cls:=.type "range",data:=.fields #[.int lo t,.int hi u,.int 1 v] },toks:=tk }:=I.kept fun b o e=>Heap.get?_push_of_some _ e
 refine⟨(s.heap.push { cls:=.type "range",data:=.fields #[.int lo t,.int hi u,.int 1 v] }).objs.size,[(s.heap.push { cls:=.type "range",data:=.fields #[.int lo t,.int hi u,.int 1 v] }).objs.size],_,_,H,rfl,
  I1.kept (t':=tk) fun b o e=>Heap.get?_push_of_some _ e,zec _ lo (hi-lo).toNat,?_,fun b hb=>?_,q⟩
 .have e1:lo+((0:Nat):Int)*1=lo:=by simp
  have e2:(((hi-lo).toNat:Nat):Int)-((0:Nat):Int)=Builtin.Range.rangeSize lo hi 1:=by rw[rangeSize_one];split <;> lia
  show IsRangeIter _ _ (lo+((0:Nat):Int)*1) ((((hi-lo).toNat:Nat):Int)-((0:Nat):Int)) 1;rw[e1,e2];exact Heap.get?_push_size _ rfl
 .have e:b=(s.heap.push { cls:=.type "range",data:=.fields #[.int lo t,.int hi u,.int 1 v] }).objs.size:=by simpa using hb
  subst e;exact I1.fpOk (Nat.le_refl _) (I1.hok.fresh (Nat.le_refl _))
def iRng1(ta:TA):TI:=fun σ H R=>ta σ H fun vs H1=>∃j:Int,vs=[.int j]/\-(2 ^ 62)<=j/\j<2 ^ 62/\R (Itr 0 j.toNat) H1
theorem zc2 {a:Expr}{ta:TA}{p pos:Pos}(hg:Gl X "range") (hm:X.mg "range" = none) (ha:PA X [a] ta) (hs:starEach [a] X.env=[(false,eval a X.env)]:=by rfl):PI X tg (.Call (.Name "range" p) [a] [] pos) (iRng1 ta):=by
 intro pins s σ H R I h;refine Call_ (zcx I hg hm boot_range (PyProof.Rows.callWith_type1 (thn (ha pos pins s σ H _ I h) fun us s1 ⟨vs,H1,I1,r1,q1⟩=>?_) hs rfl));obtain⟨j,e,q1,q2,q⟩:=q1;subst e
 cases r1 with
 |cons r rr =>
  cases rr
  obtain⟨t,rfl⟩:=r;exact call_range_1 (zjw I1 (by lia) (by lia) q1 q2 (by simpa using q))
def tFor(wi:TI)(g:TG)(tb:TS):TS:=fun D σ H=>wi σ H fun J H1=>∃W:Nat->Nat->St->Hp->Prop,(∃m,W 0 m σ H1)/\∀i m σ H,W i m σ H ->
 (J.stop i H/\D.nx σ H)∨(J.go i H/\∃N:St->Hp->Prop,(∀ σ' H',N σ' H'->∃m',m'<m/\W (i+1) m' σ' H')/\∀x H',J.yld i H x H'->g x σ H' fun σ2 H2=>tb { D with nx:=N,ct:=N,bk:=D.nx } σ2 H2)
def zdl(fp:List Addr)(h:Heap):List (Addr×Obj):=fp.filterMap fun b=>(h.get? b).map fun o=>(b,o)
theorem zbf{fp:List Addr}{h:Heap}{b:Addr}{o:Obj}(hb:b∈fp)(e:h.get? b=some o):(b,o)∈zdl fp h:=List.mem_filterMap.mpr ⟨b,hb,by rw[e];rfl⟩
theorem ziB{fp:List Addr}{h:Heap}{p:Addr×Obj}(hp:p∈zdl fp h):p.1∈fp/\h.get? p.1=some p.2:=by
 obtain⟨b,hb,e⟩:=List.mem_filterMap.mp hp
 cases q:h.get? b with
 |none=>rw[q]at e;cases e
 |some o =>
  rw[q]at e;have e':(b,o)=p:=Option.some.inj e;subst e';exact⟨hb,q⟩
theorem Inv.pinned{pins:List (Addr×Obj)}{σ:St}{H:Hp}{s:Shared}{fp:List Addr}(I:Inv X pins σ H s)(hf:∀b∈fp,FpOk X pins H b)(ho:∀b∈fp,∃o,s.heap.get? b=some o/\∀v,o.data≠.cell v):Inv X (pins++zdl fp s.heap) σ H s :=
 I.pins_of fun p hp=>(List.mem_append.mp hp).elim (fun z=>I.pin p (List.mem_append_right _ z)) fun z=>by obtain⟨hb,e⟩:=ziB z;obtain⟨f0,f1,f2,_⟩:=hf p.1 hb;obtain⟨o,e',d⟩:=ho p.1 hb;rw[e]at e';cases e';exact⟨e,f0,f1,f2,d⟩
theorem Inv.unpinned{pins pl:List (Addr×Obj)}{σ:St}{H:Hp}{s:Shared}(I:Inv X (pins++pl) σ H s):Inv X pins σ H s:=I.pins_of fun p hp=>I.pin p (List.mem_append_right _ (List.mem_append_left _ hp))
theorem zbI{iter:Expr}{body:List Stmt}{wi:TI}{g:TG}{tb:TS}{pos:Pos}(hp:PassesOwn (model X.prog X.w) X.A X.env X.xe)(hc:X.calm=true)(hi:PI X tg iter wi)(hg:PG X tg g)(hb:PSs X body tb)
  (hs:∀x,foldedSetIterable iter X.env x=pure x:=by intro _;rfl):PS X (.For tg iter body [] pos) (tFor wi g tb):=by
 intro pins s σ H D I h;refine wpAny_For (thn (hi pins s σ H _ I h) fun v s1 h1=>thn h1 fun itv s2 h2=>?_) hs;obtain⟨it,fp,tn,J,H2,e,I2,T,st2,f2,W,⟨m0,w0⟩,turn⟩:=h2;subst e;have stat:∀{H':Hp},(∀b∈fp,H' b=none)->∀b∈fp,FpOk X pins H' b:=fun hn b hb=>⟨hn b hb,(f2 b hb).2⟩
 refine codeAny_forLoop_any (fun n s'=>∃i σ' H',Inv X pins σ' H' s'/\tn i s'.heap/\(∀b∈fp,H' b=none)/\W i n σ' H') ?_ m0 ⟨0,σ,H2,I2,st2,fun b hb=>(f2 b hb).1,w0⟩;rintro n s3 ⟨i,σ3,H3,I3,st3,fr3,w3⟩;rcases turn i n σ3 H3 w3 with⟨stop,qn⟩ |⟨go,N,hN,step⟩
 .refine wpAny_passesOwn hp (thn (T.done X rfl rfl rfl hc i pins s3 σ3 H3 X.xe I3 (stat fr3) st3 stop) fun r s4 ⟨hr,I4⟩=>?_);subst hr;exact wpAny_execs_nil ⟨σ3,H3,I4,qn⟩
 .refine wpAny_passesOwn hp (thn (T.item X rfl rfl rfl hc i pins s3 σ3 H3 X.xe I3 (stat fr3) st3 go) fun r s4 ⟨u,hr,h4⟩=>?_);subst hr;refine wpAny_passesOwn hp (thn h4 fun _ s5 ⟨x,H5,I5,r5,y5,st5,fr5⟩=>?_);have I5':=I5.pinned (stat fr5) (T.obj _ _ st5);refine wpAny_passesOwn hp (thn (hg _ s5 σ3 H5 x u _ I5' r5 (step x H5 y5)) fun _ s6 ⟨σ6,H6,I6,q6⟩=>?_);refine wpAny_passesOwn hp (thn (hb _ s6 σ6 H6 _ I6 q6) fun f s7 q7=>?_)
  have again:∀{σ7:St} {H7:Hp},Inv X (pins++zdl fp s5.heap) σ7 H7 s7->N σ7 H7->∃m,m<n/\∃i σ' H',Inv X pins σ' H' s7/\tn i s7.heap/\(∀b∈fp,H' b=none)/\W i m σ' H':=fun {σ7 H7} I7 n7=>by obtain⟨m',hm,w7⟩:=hN σ7 H7 n7;refine⟨m',hm,i+1,σ7,H7,I7.unpinned,T.keep _ _ _ st5 fun b hb o e=>(I7.pin (b,o) (List.mem_append_right _ (List.mem_append_right _ (zbf hb e)))).1,fun b hb=>?_,w7⟩;obtain⟨o,e,d⟩:=T.obj _ _ st5 b hb;exact (I7.pin (b,o) (List.mem_append_right _ (List.mem_append_right _ (zbf hb e)))).2.1
  cases f with
  |next=>obtain⟨σ7,H7,I7,n7⟩:=q7;exact again I7 n7
  |cont=>obtain⟨σ7,H7,I7,n7⟩:=q7;exact again I7 n7
  |brk=>obtain⟨σ7,H7,I7,q7⟩:=q7;exact⟨σ7,H7,I7.unpinned,q7⟩
  |ret v=>obtain⟨x7,σ7,H7,I7,r7,q7⟩:=q7;exact⟨x7,σ7,H7,I7.unpinned,r7,q7⟩
end
theorem zaD{K:W.Frag}{a:Addr}{xs:List V}{g:TG}{tb:TS}{D:Ends}{σ : St}{H:Hp}(Pv:Nat -> St -> Hp -> Prop)(h0:Pv 0 σ H)(hl:∀i σ H, i <= xs.length -> Pv i σ H -> SqL K H a xs)
  (hs:∀i x σ H,xs[i]?=some x->Pv i σ H->g x σ H fun σ2 H2=>tb { D with nx:=Pv (i+1),ct:=Pv (i+1),bk:=D.nx } σ2 H2) (hd:∀ σ H,Pv xs.length σ H->D.nx σ H) :
  ∃W:Nat->Nat->St->Hp->Prop,(∃m,W 0 m σ H)/\∀i m σ H,W i m σ H ->
   ((Itl K a).stop i H/\D.nx σ H)∨((Itl K a).go i H/\∃N:St->Hp->Prop,(∀ σ' H',N σ' H'->∃m',m'<m/\W (i+1) m' σ' H')/\∀x H',(Itl K a).yld i H x H'->g x σ H' fun σ2 H2=>tb { D with nx:=N,ct:=N,bk:=D.nx } σ2 H2):=by
 refine⟨fun i m σ H=>m=xs.length-i/\i<=xs.length/\Pv i σ H,⟨xs.length,by simp,Nat.zero_le _,h0⟩,?_⟩;rintro i m σ H ⟨rfl,hi,p⟩;have q:=hl i σ H hi p
 by_cases hlt:i<xs.length
 .refine .inr ⟨⟨xs,xs[i],q,by simp[hlt]⟩,Pv (i+1),fun σ' H' p'=>⟨xs.length-(i+1),by lia,rfl,hlt,p'⟩,fun x H' y=>?_⟩;obtain⟨e,y⟩:=y;subst e;exact hs i x σ _ (y xs q) p
 .have e:i=xs.length:=by lia
  subst e;exact .inl ⟨⟨xs,q,Nat.le_refl _⟩,hd σ H p⟩
theorem zkW{K:W.Frag}{a:Addr}{xs:List V}{g:TG}{tb:TS}{D:Ends}{σ : St}{H:Hp}(Pv:Nat -> St -> Hp -> Prop)(h0:Pv 0 σ H)(hl:∀i σ H, i <= xs.length -> Pv i σ H -> SqT K H a xs)
  (hs:∀i x σ H,xs[i]?=some x->Pv i σ H->g x σ H fun σ2 H2=>tb { D with nx:=Pv (i+1),ct:=Pv (i+1),bk:=D.nx } σ2 H2) (hd:∀ σ H,Pv xs.length σ H->D.nx σ H) :
  ∃W:Nat->Nat->St->Hp->Prop,(∃m,W 0 m σ H)/\∀i m σ H,W i m σ H ->
   ((Itt K a).stop i H/\D.nx σ H)∨((Itt K a).go i H/\∃N:St->Hp->Prop,(∀ σ' H',N σ' H'->∃m',m'<m/\W (i+1) m' σ' H')/\∀x H',(Itt K a).yld i H x H'->g x σ H' fun σ2 H2=>tb { D with nx:=N,ct:=N,bk:=D.nx } σ2 H2):=by
 refine⟨fun i m σ H=>m=xs.length-i/\i<=xs.length/\Pv i σ H,⟨xs.length,by simp,Nat.zero_le _,h0⟩,?_⟩;rintro i m σ H ⟨rfl,hi,p⟩;have q:=hl i σ H hi p
 by_cases hlt:i<xs.length
 .refine .inr ⟨⟨xs,xs[i],q,by simp[hlt]⟩,Pv (i+1),fun σ' H' p'=>⟨xs.length-(i+1),by lia,rfl,hlt,p'⟩,fun x H' y=>?_⟩;obtain⟨e,y⟩:=y;subst e;exact hs i x σ _ (y xs q) p
 .have e:i=xs.length:=by lia
  subst e;exact .inl ⟨⟨xs,q,Nat.le_refl _⟩,hd σ H p⟩
theorem zbK{lo:Int}{n:Nat}{g:TG}{tb:TS}{D:Ends}{σ : St}{H:Hp}(Pv:Nat -> St -> Hp -> Prop)(h0:Pv 0 σ H)
  (hs:∀i σ H,i<n->Pv i σ H->g (.int (lo+i)) σ H fun σ2 H2=>tb { D with nx:=Pv (i+1),ct:=Pv (i+1),bk:=D.nx } σ2 H2) (hd:∀ σ H,Pv n σ H->D.nx σ H) :
  ∃W:Nat->Nat->St->Hp->Prop,(∃m,W 0 m σ H)/\∀i m σ H,W i m σ H ->
   ((Itr lo n).stop i H/\D.nx σ H)∨((Itr lo n).go i H/\∃N:St->Hp->Prop,(∀ σ' H',N σ' H'->∃m',m'<m/\W (i+1) m' σ' H')/\∀x H',(Itr lo n).yld i H x H'->g x σ H' fun σ2 H2=>tb { D with nx:=N,ct:=N,bk:=D.nx } σ2 H2):=by
 refine⟨fun i m σ H=>m=n-i/\i<=n/\Pv i σ H,⟨n,by simp,Nat.zero_le _,h0⟩,?_⟩;rintro i m σ H ⟨rfl,hi,p⟩
 by_cases hlt:i<n
 .refine .inr ⟨hlt,Pv (i+1),fun σ' H' p'=>⟨n-(i+1),by lia,rfl,hlt,p'⟩,fun x H' y=>?_⟩;obtain⟨e,y⟩:=y;subst e y;exact hs i σ _ hlt p
 .have e:i=n:=by lia
  subst e;exact .inl ⟨Nat.le_refl _,hd σ H p⟩
theorem zjp{c:TT}{tb:TS}{D:Ends}{σ : St}{H:Hp}(Pv:St -> Hp -> Prop)(μ : St -> Hp -> Nat)(h0:Pv σ H)
  (hs:∀ σ H,Pv σ H->c σ H fun b H1=>if b=true then tb { D with nx:=fun σ' H'=>Pv σ' H'/\μ σ' H'<μ σ H,ct:=fun σ' H'=>Pv σ' H'/\μ σ' H'<μ σ H,bk:=D.nx } σ H1 else D.nx σ H1)
  (mono:∀ σ H Q Q',(∀b H1,Q b H1->Q' b H1)->c σ H Q->c σ H Q'):zjY c tb D σ H:=by
 refine⟨fun m σ H=>m=μ σ H/\Pv σ H,⟨_,rfl,h0⟩,?_⟩;rintro m σ H ⟨rfl,p⟩;refine mono σ H _ _ (fun b H1 q=>?_) (hs σ H p)
 cases b with
 |true=>exact⟨_,fun σ' H' ⟨p',l⟩=>⟨_,l,rfl,p'⟩,q⟩
 |false=>exact q
abbrev R2:=V->V->Hp->VK->Prop
def OpR(X:Cx)(f:Value->Value->Sem Value)(r:R2):Prop :=
 ∀(pins:List (Addr×Obj)) (s:Shared) (σ:St) (H:Hp) (x y:V) (v u:Value) (Q:VK),Inv X pins σ H s->RelV x v->RelV y u->r x y H Q ->
  wpAny (model X.prog X.w) X.A (f v u) (EP X pins σ Q) X.xe s
def UnR(X:Cx)(f:Value->Sem Value)(r:V->Hp->VK->Prop):Prop :=
 ∀(pins:List (Addr×Obj)) (s:Shared) (σ:St) (H:Hp) (x:V) (v:Value) (Q:VK),Inv X pins σ H s->RelV x v->r x H Q ->
  wpAny (model X.prog X.w) X.A (f v) (EP X pins σ Q) X.xe s
def CallR(X:Cx)(f:Value)(r:List V->Hp->VK->Prop):Prop :=
 ∀(pins:List (Addr×Obj)) (s:Shared) (σ:St) (H:Hp) (xs:List V) (us:List Value) (Q:VK),Inv X pins σ H s->Vals xs us->r xs H Q ->
  wpAny (model X.prog X.w) X.A (call f us) (EP X pins σ Q) X.xe s
def TruR(X:Cx)(r:V->Hp->(Bool->Hp->Prop)->Prop):Prop :=
 ∀(pins:List (Addr×Obj)) (s:Shared) (σ:St) (H:Hp) (x:V) (v:Value) (Q:Bool->Hp->Prop),Inv X pins σ H s->RelV x v->r x H Q ->
  wpAny (model X.prog X.w) X.A (truthy v) (TP X pins σ Q) X.xe s
def tOp(r:R2)(ta tb:TE):TE:=fun σ H Q=>ta σ H fun x H1=>tb σ H1 fun y H2=>r x y H2 Q
def tUn(r:V->Hp->VK->Prop)(ta:TE):TE:=fun σ H Q=>ta σ H fun x H1=>r x H1 Q
def rI(C:Int->Int->Prop)(g:Int->Int->V):R2:=fun x y H Q=>∃i j,x=.int i/\y=.int j/\C i j/\Q (g i j) H
def rI0(g:Int->Int->V):R2:=fun x y H Q=>∃i j,x=.int i/\y=.int j/\Q (g i j) H
def rU(g:Int->V):V->Hp->VK->Prop:=fun x H Q=>∃i,x=.int i/\Q (g i) H
section
variable {X:Cx}{a b c:Expr}{ta tb tc:TE}{pos:Pos}
theorem binT(ha:PE X a ta)(hb:PE X b tb){pins:List (Addr × Obj)}{s:Shared}{σ : St}{H:Hp}{R:V -> V -> Hp -> Prop}(I:Inv X pins σ H s)
  (h:ta σ H fun x H1=>tb σ H1 fun y H2=>R x y H2) {Q:Value->Shared->Prop} {f:Value->Value->Sem Value}
  (hf:∀v u s2 x y H2,Inv X pins σ H2 s2->RelV x v->RelV y u->R x y H2->wpAny (model X.prog X.w) X.A (f v u) Q X.xe s2) :
  wpAny (model X.prog X.w) X.A (eval a X.env) (fun v s₁=>wpAny (model X.prog X.w) X.A (eval b X.env) (fun u s₂=>wpAny (model X.prog X.w) X.A (f v u) Q X.xe s₂) X.xe s₁) X.xe s:=by
 refine thn (ha pins s σ H _ I h) fun v s1 ⟨x,H1,I1,r1,q1⟩=>?_
 refine thn (hb pins s1 σ H1 _ I1 q1) fun u s2 ⟨y,H2,I2,r2,q2⟩=>?_
 exact hf v u s2 x y H2 I2 r1 r2 q2
theorem pe_op{op:Operator}{r:R2}(ho:OpR X (binaryOp op) r)(ha:PE X a ta)(hb:PE X b tb):PE X (.BinOp a op b pos) (tOp r ta tb):=by intro pins s σ H Q I h;exact wpAny_BinOp (binT ha hb I h fun v u s2 x y H2 I2 rx ry q=>ho pins s2 σ H2 x y v u Q I2 rx ry q)
theorem pe_un{op:UnaryOp}{r:V->Hp->VK->Prop}(ho:UnR X (unaryOp op) r)(ha:PE X a ta):PE X (.UnaryOp op a pos) (tUn r ta):=by intro pins s σ H Q I h;exact UnaryOp_ (thn (ha pins s σ H _ I h) fun v s1 ⟨x,H1,I1,r1,q1⟩=>ho pins s1 σ H1 x v Q I1 r1 q1)
theorem opI{f:Value -> Value -> Sem Value}{C:Int -> Int -> Prop}{g:Int -> Int -> Int}
  (rule:∀(i j:Int) (t u:Tok) (s:Shared) (Q:Value->Shared->Prop) (E:Value->Shared->Prop),C i j->Q (.int (g i j) s.toks) { s with toks:=s.toks+1 }->wpAny (model X.prog X.w) X.A (f (.int i t) (.int j u)) Q E s) :
  OpR X f (rI C fun i j=>.int (g i j)):=by
 intro pins s σ H x y v u Q I rx ry h;obtain⟨i,j,rfl,rfl,hc,q⟩:=h;obtain⟨t,rfl⟩:=rx;obtain⟨t',rfl⟩:=ry;exact rule i j t t' s _ _ hc ⟨.int (g i j),H,I.tok _,⟨_,rfl⟩,q⟩
theorem opI0{f:Value -> Value -> Sem Value}{g:Int -> Int -> Int}
  (rule:∀(i j:Int) (t u:Tok) (s:Shared) (Q:Value->Shared->Prop) (E:Value->Shared->Prop),Q (.int (g i j) s.toks) { s with toks:=s.toks+1 }->wpAny (model X.prog X.w) X.A (f (.int i t) (.int j u)) Q E s) :
  OpR X f (rI0 fun i j=>.int (g i j)):=by
 intro pins s σ H x y v u Q I rx ry h;obtain⟨i,j,rfl,rfl,q⟩:=h;obtain⟨t,rfl⟩:=rx;obtain⟨t',rfl⟩:=ry;exact rule i j t t' s _ _ ⟨.int (g i j),H,I.tok _,⟨_,rfl⟩,q⟩
theorem opB0{f:Value -> Value -> Sem Value}{g:Int -> Int -> Bool}
  (rule:∀(i j:Int) (t u:Tok) (s:Shared) (Q:Value->Shared->Prop) (E:Value->Shared->Prop),Q (.bool (g i j)) s->wpAny (model X.prog X.w) X.A (f (.int i t) (.int j u)) Q E s) :
  OpR X f (rI0 fun i j=>.bl (g i j)):=by
 intro pins s σ H x y v u Q I rx ry h;obtain⟨i,j,rfl,rfl,q⟩:=h;obtain⟨t,rfl⟩:=rx;obtain⟨t',rfl⟩:=ry;exact rule i j t t' s _ _ ⟨.bl (g i j),H,I,rfl,q⟩
def CDiv(i j:Int):Prop:=0<j/\j<1073741824
def CPow(i j:Int):Prop:=0<=j/\j<=1000000/\i.natAbs<2 ^ 64
def CMul(i j:Int):Prop:=(-(2 ^ 64)<i/\i<2 ^ 64)∨(-(2 ^ 64)<j/\j<2 ^ 64)
theorem CMul.ok{i j:Int}(h:CMul i j):IntMulOk i j:=by
 rcases h with⟨h1,h2⟩ |⟨h1,h2⟩
 .exact .of_left (intBits_le_64 h1 h2)
 .exact .of_right (intBits_le_64 h1 h2)
theorem zaI:OpR X (binaryOp .Add) (rI0 fun i j=>.int (i+j)):=opI0 fun _ _ _ _ _ _ _ q=>add_int q
theorem zcH:OpR X (binaryOp .Sub) (rI0 fun i j=>.int (i-j)):=opI0 fun _ _ _ _ _ _ _ q=>sub_int q
theorem zb9:OpR X (binaryOp .Mult) (rI CMul fun i j=>.int (i*j)):=opI fun _ _ _ _ _ _ _ hc q=>mul_int q hc.ok
theorem zgi:OpR X (binaryOp .FloorDiv) (rI CDiv fun i j=>.int (i / j)):=opI fun i j _ _ _ _ _ hc q=>by have h1:(0:Int)<j:=hc.1;have h2:j<1073741824:=hc.2;exact floordiv_int (by lia) (by rw[Int.fdiv_eq_ediv_of_nonneg i (by lia)];exact q) (.inl (PyProof.noPylong_small (by lia)))
theorem zbg:OpR X (binaryOp .Mod) (rI (fun _ j=>0<j) fun i j=>.int (i % j)):=opI fun i j _ _ _ _ _ hc q=>by have h1:(0:Int)<j:=hc;exact mod_int' (by lia) (by rw[Int.fmod_eq_emod_of_nonneg i (by lia)];exact q)
theorem ziy:OpR X (binaryOp .Pow) (rI CPow fun i j=>.int (i ^ j.toNat)):=opI fun _ _ _ _ _ _ _ hc q=>pow_int_small hc.1 hc.2.1 hc.2.2 q
theorem unI{f:Value -> Sem Value}{g:Int -> Int}
  (rule:∀(i:Int) (t:Tok) (s:Shared) (Q:Value->Shared->Prop) (E:Value->Shared->Prop),Q (.int (g i) s.toks) { s with toks:=s.toks+1 }->wpAny (model X.prog X.w) X.A (f (.int i t)) Q E s) :
  UnR X f (rU fun i=>.int (g i)):=by
 intro pins s σ H x v Q I rx h;obtain⟨i,rfl,q⟩:=h;obtain⟨t,rfl⟩:=rx;exact rule i t s _ _ ⟨.int (g i),H,I.tok _,⟨_,rfl⟩,q⟩
theorem zdA:UnR X (unaryOp .USub) (rU fun i=>.int (-i)):=unI fun _ _ _ _ _ q=>neg_int q
end
def scal:V->V->Bool
 |.non,.non=>true |.non,.int _=>true |.int _,.non=>true |.non,.bl _=>true |.bl _,.non=>true |.non,.str _=>true |.str _,.non=>true
 |.int _,.int _=>true |.bl _,.bl _=>true |.str _,.str _=>true |.byt _,.byt _=>true
 |.int _,.str _=>true |.str _,.int _=>true |.bl _,.str _=>true |.str _,.bl _=>true
 |_,_=>false
def rEq:R2:=fun x y H Q=>scal x y=true/\Q (.bl (decide (x=y))) H
def rNe:R2:=fun x y H Q=>scal x y=true/\Q (.bl (!decide (x=y))) H
theorem zi6{i j:Int}:decide (V.int i=V.int j)=(i == j):=by rw[Bool.eq_iff_iff];simp
theorem zkk{i j:Bool}:decide (V.bl i=V.bl j)=(i == j):=by rw[Bool.eq_iff_iff];simp
theorem zi5{i j:Str}:decide (V.str i=V.str j)=(i == j):=by rw[Bool.eq_iff_iff];simp
theorem zi7{i j:Array UInt8}:decide (V.byt i=V.byt j)=(i.toList == j.toList):=by
 rw[Bool.eq_iff_iff]
 cases i
 cases j
 simp
section
variable {X:Cx}{a b c:Expr}{ta tb tc:TE}{pos:Pos}
theorem zaJ{pins:List (Addr×Obj)}{σ:St}{H:Hp}{s:Shared}{Q:VK}{k k':Bool}(I:Inv X pins σ H s)(q:Q (.bl k) H)(e:k=k'):EP X pins σ Q (.bool k') s:=by subst e;exact⟨.bl k,H,I,rfl,q⟩
theorem op_eq:OpR X (compareOp .Eq) rEq:=by
 intro pins s σ H x y v u Q I rx ry h;obtain⟨hs,q⟩:=h
 cases x with
 |non =>
  cases rx
  cases y with
  |non=>cases ry;exact PySem.EqNone.eq_none_none (zaJ I q (by simp))
  |bl j=>cases ry;exact PySem.EqNone.eq_none_bool (zaJ I q (by simp))
  |int j=>obtain⟨t',rfl⟩:=ry;exact PySem.EqNone.eq_none_int (zaJ I q (by simp))
  |str j=>obtain⟨t',rfl⟩:=ry;exact PySem.EqNone.eq_none_str (zaJ I q (by simp))
  |_=>exact absurd (show false=true from hs) Bool.false_ne_true
 |bl i =>
  cases rx
  cases y with
  |non=>cases ry;exact PySem.EqNone.eq_bool_none (zaJ I q (by simp))
  |bl j=>cases ry;exact eq_bool (zaJ I q zkk)
  |str j=>obtain⟨t',rfl⟩:=ry;exact PySem.EqMixed.eq_bool_str (zaJ I q (by simp))
  |_=>exact absurd (show false=true from hs) Bool.false_ne_true
 |int i =>
  obtain⟨t,rfl⟩:=rx
  cases y with
  |non=>cases ry;exact PySem.EqNone.eq_int_none (zaJ I q (by simp))
  |int j=>obtain⟨t',rfl⟩:=ry;exact eq_int (zaJ I q zi6)
  |str j=>obtain⟨t',rfl⟩:=ry;exact PySem.EqMixed.eq_int_str (zaJ I q (by simp))
  |_=>exact absurd (show false=true from hs) Bool.false_ne_true
 |str i =>
  obtain⟨t,rfl⟩:=rx
  cases y with
  |non=>cases ry;exact PySem.EqNone.eq_str_none (zaJ I q (by simp))
  |bl j=>cases ry;exact PySem.EqMixed.eq_str_bool (zaJ I q (by simp))
  |int j=>obtain⟨t',rfl⟩:=ry;exact PySem.EqMixed.eq_str_int (zaJ I q (by simp))
  |str j=>obtain⟨t',rfl⟩:=ry;exact eq_str (zaJ I q zi5)
  |_=>exact absurd (show false=true from hs) Bool.false_ne_true
 |byt i =>
  obtain⟨t,rfl⟩:=rx
  cases y with
  |byt j=>obtain⟨t',rfl⟩:=ry;exact W.eq_bytes (zaJ I q zi7)
  |_=>exact absurd (show false=true from hs) Bool.false_ne_true
 |_=>cases y <;> exact absurd (show false=true from hs) Bool.false_ne_true
theorem op_ne:OpR X (compareOp .NotEq) rNe:=by
 intro pins s σ H x y v u Q I rx ry h;obtain⟨hs,q⟩:=h
 cases x with
 |non =>
  cases rx
  cases y with
  |non=>cases ry;exact PySem.EqNone.ne_none_none (zaJ I q (by simp))
  |bl j=>cases ry;exact PySem.EqNone.ne_none_bool (zaJ I q (by simp))
  |int j=>obtain⟨t',rfl⟩:=ry;exact PySem.EqNone.ne_none_int (zaJ I q (by simp))
  |str j=>obtain⟨t',rfl⟩:=ry;exact PySem.EqNone.ne_none_str (zaJ I q (by simp))
  |_=>exact absurd (show false=true from hs) Bool.false_ne_true
 |bl i =>
  cases rx
  cases y with
  |non=>cases ry;exact PySem.EqNone.ne_bool_none (zaJ I q (by simp))
  |bl j=>cases ry;exact ne_bool (zaJ I q (congrArg not zkk))
  |str j=>obtain⟨t',rfl⟩:=ry;exact PySem.EqMixed.ne_bool_str (zaJ I q (by simp))
  |_=>exact absurd (show false=true from hs) Bool.false_ne_true
 |int i =>
  obtain⟨t,rfl⟩:=rx
  cases y with
  |non=>cases ry;exact PySem.EqNone.ne_int_none (zaJ I q (by simp))
  |int j=>obtain⟨t',rfl⟩:=ry;exact ne_int (zaJ I q (congrArg not zi6))
  |str j=>obtain⟨t',rfl⟩:=ry;exact PySem.EqMixed.ne_int_str (zaJ I q (by simp))
  |_=>exact absurd (show false=true from hs) Bool.false_ne_true
 |str i =>
  obtain⟨t,rfl⟩:=rx
  cases y with
  |non=>cases ry;exact PySem.EqNone.ne_str_none (zaJ I q (by simp))
  |bl j=>cases ry;exact PySem.EqMixed.ne_str_bool (zaJ I q (by simp))
  |int j=>obtain⟨t',rfl⟩:=ry;exact PySem.EqMixed.ne_str_int (zaJ I q (by simp))
  |str j=>obtain⟨t',rfl⟩:=ry;exact ne_str (zaJ I q (congrArg not zi5))
  |_=>exact absurd (show false=true from hs) Bool.false_ne_true
 |byt i =>
  obtain⟨t,rfl⟩:=rx
  cases y with
  |byt j=>obtain⟨t',rfl⟩:=ry;exact W.ne_bytes (zaJ I q (congrArg not zi7))
  |_=>exact absurd (show false=true from hs) Bool.false_ne_true
 |_=>cases y <;> exact absurd (show false=true from hs) Bool.false_ne_true
theorem op_lt:OpR X (compareOp .Lt) (rI0 fun i j=>.bl (decide (i<j))):=opB0 fun _ _ _ _ _ _ _ q=>lt_int q
theorem op_le:OpR X (compareOp .LtE) (rI0 fun i j=>.bl (decide (i<=j))):=opB0 fun _ _ _ _ _ _ _ q=>le_int q
theorem op_gt:OpR X (compareOp .Gt) (rI0 fun i j=>.bl (decide (j<i))):=opB0 fun _ _ _ _ _ _ _ q=>gt_int q
theorem op_ge:OpR X (compareOp .GtE) (rI0 fun i j=>.bl (decide (j<=i))):=opB0 fun _ _ _ _ _ _ _ q=>ge_int q
theorem ziz:OpR X (compareOp .Is) (fun x y H Q=>y=.non/\Q (.bl (decide (x=.non))) H):=by
 intro pins s σ H x y v u Q I rx ry h;obtain⟨rfl,q⟩:=h
 cases ry
 refine is_none_gen (zaJ I q ?_)
 cases x <;> first
  | (cases rx;rfl)
  | (obtain⟨t,rfl⟩:=rx;rfl)
theorem zdK:OpR X (compareOp .IsNot) (fun x y H Q=>y=.non/\Q (.bl (!decide (x=.non))) H):=by
 intro pins s σ H x y v u Q I rx ry h;obtain⟨rfl,q⟩:=h
 cases ry
 refine isnot_none_gen (zaJ I q ?_)
 cases x <;> first
  | (cases rx;rfl)
  | (obtain⟨t,rfl⟩:=rx;rfl)
theorem zaO(b:Expr){op:CmpOp}(h:op≠.In:=by decide)(h2:op≠.NotIn:=by decide):behindInMarks op b=false:=by
 have e1:(op == CmpOp.In)=false:=by cases op <;> first |rfl |exact absurd rfl h
 have e2:(op == CmpOp.NotIn)=false:=by cases op <;> first |rfl |exact absurd rfl h2
 cases b <;> simp[behindInMarks,e1,e2]
theorem zcO{op:CmpOp}{r:R2}(ho:OpR X (compareOp op) r)(ha:PE X a ta)(hb:PE X b tb)(hm:behindInMarks op b=false):PE X (.Compare a [op] [b] pos) (tOp r ta tb):=by intro pins s σ H Q I h;exact wpAny_Compare1 (binT ha hb I h fun v u s2 x y H2 I2 rx ry q=>ho pins s2 σ H2 x y v u Q I2 rx ry q) hm
def tTest(t:TE):TT:=fun σ H Q=>t σ H fun x H'=>∃k,x=.bl k/\Q k H'
theorem zaL{op:CmpOp}{r:R2}(ho:OpR X (compareOp op) r)(ha:PE X a ta)(hb:PE X b tb)(hm:behindInMarks op b=false):PT X (.Compare a [op] [b] pos) (tTest (tOp r ta tb)):=by
 intro pins s σ H Q I h
 refine wpAny_isTrue_Compare1 (thn (ha pins s σ H _ I h) fun v s1 ⟨x,H1,I1,r1,q1⟩=>thn (hb pins s1 σ H1 _ I1 q1) fun u s2 ⟨y,H2,I2,r2,q2⟩ =>
  thn (ho pins s2 σ H2 x y v u _ I2 r1 r2 q2) fun c s3 ⟨z,H3,I3,r3,k,e,q3⟩=>?_) hm
 subst e
 cases r3
 exact wpAny_truthy_bool ⟨H3,I3,q3⟩
def TruV(K:W.Frag)(x:V)(H:Hp)(k:Bool):Prop :=
 match x with
 |.non=>k=false
 |.bl b=>k=b
 |.int i=>k=(i != 0)
 |.str y=>y.length<=sizeLine/\k=((y.length:Int) != 0)
 |.byt y=>y.size<=sizeLine/\k=((y.size:Int) != 0)
 |.ref p=>(∃xs,SqL K H p xs/\k=!xs.isEmpty)∨(∃xs,SqT K H p xs/\k=!xs.isEmpty)∨∃kvs,H p=some (.dK kvs)/\k=!kvs.isEmpty
 |_=>False
theorem zhG{κ:Type}{kvs:List (κ×V)}{vs:List (κ×Value)}(r:KV kvs vs):(!vs.isEmpty)=!kvs.isEmpty:=by
 cases r <;> rfl
theorem zem{xs:List V}{its:List Value}(r:Vals xs its):(!its.toArray.isEmpty)=!xs.isEmpty:=by
 cases r <;> simp
theorem zg9:(sizeLine:Nat)<2 ^ 63:=by rw[sizeLine_eq];decide
theorem zk6:TruR X (fun x H Q=>∃k,TruV X.K x H k/\Q k H):=by
 intro pins s σ H x v Q I rx h;obtain⟨k,e,q⟩:=h;have hl:=zg9;have hs:sizeLine=16777216:=sizeLine_eq
 cases x with
 |non =>
  cases rx
  have e':k=false:=e;subst e';exact truthy_none ⟨H,I,q⟩
 |bl b =>
  cases rx
  have e':k=b:=e;subst e';exact wpAny_truthy_bool ⟨H,I,q⟩
 |int i =>
  obtain⟨t,rfl⟩:=rx;have e':k=(i != 0):=e;subst e';exact PySem.P.truthy_int ⟨H,I,q⟩
 |str y =>
  obtain⟨t,rfl⟩:=rx;obtain⟨hy,e'⟩:y.length<=sizeLine/\k=((y.length:Int) != 0):=e;subst e';exact PySem.P.truthy_str (by lia) ⟨H,I.tok _,q⟩
 |byt y =>
  obtain⟨t,rfl⟩:=rx;obtain⟨hy,e'⟩:y.size<=sizeLine/\k=((y.size:Int) != 0):=e;subst e';exact W.truthy_bytes (by lia) ⟨H,I.tok _,q⟩
 |ref p =>
  cases rx
  have e':(∃xs,SqL X.K H p xs/\k=!xs.isEmpty)∨(∃xs,SqT X.K H p xs/\k=!xs.isEmpty)∨∃kvs,H p=some (.dK kvs)/\k=!kvs.isEmpty:=e;rcases e' with⟨xs,hx,e'⟩ |⟨xs,hx,e'⟩ |⟨kvs,hx,e'⟩
  .subst e';obtain⟨its,r,pl,hz⟩:=I.list hx;have hlen:=r.length;exact wpAny_truthy_list pl.isList (by simp only[List.size_toArray];lia) ⟨H,I.tok _,by rw[zem r];exact q⟩
  .subst e';obtain⟨its,r,pl,hz⟩:=I.tuple hx;have hlen:=r.length;exact truthy_tuple pl (by simp only[List.size_toArray];lia) ⟨H,I.tok _,by rw[zem r];exact q⟩
  .subst e';obtain⟨hz,hS,vs,r,m⟩:kvs.length<=sizeLine/\(p == sysModules)=false/\∃vs,KV kvs vs/\s.heap.DictOf (zaC X.prog X.w) p vs:=I.hok p _ hx;have hlen:kvs.length=vs.length:=Paired.length r;exact wpAny_truthy_dict hS m (by lia) ⟨H,I.tok _,by rw[zhG r];exact q⟩
 |_=>exact (show False from e).elim
theorem zjx(ha:PE X a ta)(he:∀whole, isTrue a X.env whole=(do let v <- whole; standAt a.pos; holding [v] (truthy v))) :
  PT X a (fun σ H Q=>ta σ H fun x H'=>∃k,TruV X.K x H' k/\Q k H'):=by
 intro pins s σ H Q I h;exact isTrue_plain (thn (ha pins s σ H _ I h) fun v s1 ⟨x,H1,I1,r1,q1⟩=>zk6 pins s1 σ H1 x v Q I1 r1 q1) (he _)
theorem vals1{x:V}{us:List Value}(r:Vals [x] us):∃u,us=[u]/\RelV x u:=by
 cases r with
 |cons r1 r2=>cases r2;exact⟨_,rfl,r1⟩
theorem vals2{x y:V}{us:List Value}(r:Vals [x,y] us):∃u w',us=[u,w']/\RelV x u/\RelV y w':=by
 cases r with
 |cons r1 r2 =>
  cases r2 with
  |cons r3 r4=>cases r4;exact⟨_,_,rfl,r1,r3⟩
theorem zfT:CallR X (.type "int") (fun xs H Q=>(∃i,xs=[.int i]/\Q (.int i) H)∨∃k,xs=[.bl k]/\Q (.int (if k then 1 else 0)) H):=by
 intro pins s σ H xs us Q I r h;rcases h with⟨i,rfl,q⟩ |⟨k,rfl,q⟩
 .obtain⟨u,rfl,t,rfl⟩:=vals1 r;exact call_int_int ⟨.int i,H,I,⟨_,rfl⟩,q⟩
 .obtain⟨u,rfl,r1⟩:=vals1 r
  cases r1
  exact call_int_bool ⟨.int (if k then 1 else 0),H,I.tok _,⟨_,rfl⟩,q⟩
end
structure ObjM (h:Heap) (x dx C:Addr) (mA:Str->Option Value):Prop where
 obj:h.get? x=some (W.instObj C dx)
 ns:h.Ns1 dx mA
 ne:dx≠x
theorem ziM{h:Heap}{dx:Addr}{mA:Str->Option Value}(n:h.Ns1 dx mA):∃od,h.get? dx=some od/\∀name,W.lookIn name od=some (mA name):=by
 obtain⟨o,es,ep,ho,hd,hk,_,hm⟩:=n;refine⟨o,ho,fun name=>?_⟩;have e:=hm name;unfold nsFind findBy at e;rw[<- Array.find?_toList]at e;unfold W.lookIn;rw[hd];dsimp only;split
 .rename_i y q
  rw[q]at e;exact congrArg some e
 .rename_i q
  rw[q]at e
  have a:es.toList.any (·.refKey)=false:=by rw[List.any_eq_false];intro y hy;obtain⟨z,t,hkey⟩:=hk y (Array.mem_toList_iff.mp hy);simp[DictEntry.refKey,hkey]
  have a':¬ es.toList.any (·.refKey)=true:=by rw[a];exact Bool.false_ne_true
  rw[if_neg a'];exact congrArg some e
theorem ObjM.look{h:Heap}{x dx C:Addr}{mA:Str->Option Value}(I:ObjM h x dx C mA):∃od,W.InstAt h x (W.instObj C dx) C (some od)/\∀name,W.lookIn name od=some (mA name) :=
 let ⟨od,ho,hl⟩:=ziM I.ns
 ⟨od,⟨I.obj,rfl,rfl,ho⟩,hl⟩
section
variable {prog:Program}{w:World}{A:Around}{E:Value->Shared->Prop}{s:Shared}{K:W.Frag}{x dx C f:Addr}{mA:Str->Option Value}{name:Str}{v:Value}
end
theorem RelO.some_of{v:V}{o:Option Value}(r:RelO (some v) o):∃u,o=some u/\RelV v u:=by
 cases o with
 |none=>exact (show False from r).elim
 |some u=>exact⟨u,rfl,r⟩
section
variable {P:Program}{w:World}{H H':Hp}{h h':Heap}{a C dx:Addr}{fs fs':List (Str×V)}
theorem zkU(hok:HOk P w H h)(e:H a=some (.ins C dx fs)):∃mA,ObjM h a dx C mA/\(∀f,RelO (fs.lookup f) (mA f))/\PySem.Within mA (fs.map (·.1))/\fs.length<=1000/\H dx=some (.own a):=by obtain⟨d,z,ne,ob,mA,n,r,q⟩:=(show ObjOk P w H h a (.ins C dx fs) from hok a _ e);exact⟨mA,⟨ob,n,ne⟩,r,q,z,d⟩
end
structure Cls (K:W.Frag) (C:Addr):Prop where
 pg:W.plainGet K C Str.empty=true
 hd:W.hasDictIn K C=true
 po:W.plainOver K C=true
 sa:W.findIn K (.ref C) "__setattr__" = some (some (.builtin "object.__setattr__"))
theorem Cls.get{K:W.Frag}{C:Addr}(c:Cls K C)(f:Str):W.plainGet K C f=true:=c.pg
structure Con (K:W.Frag) (C:Addr) (f:Str) (v:V) (u:Value):Prop where
 at_:W.findIn K (.ref C) f=some (some u)
 rel:RelV v u
 get:W.specialIn K u "__get__" = some none
 cp:W.copiedNames.contains f=false
structure Meth (K:W.Frag) (C:Addr) (m:Str) (f:Addr):Prop where
 at_:W.findIn K (.ref C) m=some (some (.ref f))
 fn:W.isFn K (.ref f)=true
 kp:W.keepIn K (.ref f)=true
section
variable {X:Cx}{pins:List (Addr×Obj)}{σ:St}{H:Hp}{s:Shared}{a C dx:Addr}{fs:List (Str×V)}{f:Str}{v:V}{A:Around}{E:Value->Shared->Prop}
end
section
variable {X:Cx}{o e value:Expr}{f:Str}{pos pos' tpos:Pos}{ta tv:TE}
end
section
variable {X:Cx}{pins:List (Addr×Obj)}{σ:St}{H:Hp}{s:Shared}{A:Around}{E:Value->Shared->Prop}{Q:Value->Shared->Prop}{c:Value}{b:Bool}
inductive TyOf (K:W.Frag) (H:Hp):V->Value->Prop where
  |non:TyOf K H .non (.type "NoneType")
  |bl (x:Bool):TyOf K H (.bl x) (.type "bool")
  |int (i:Int):TyOf K H (.int i) (.type "int")
  |str (x:Str):TyOf K H (.str x) (.type "str")
  |flt (x:UInt64):TyOf K H (.flt x) (.type "float")
  |lst {a:Addr} {xs:List V} (e:H a=some (.lst xs)):TyOf K H (.ref a) (.type "list")
  |frz {a:Addr} {o:Obj} {xs:List V} (e:H a=some (.frz o (.lst xs))):TyOf K H (.ref a) (.type "list")
  |tup {a:Addr} {xs:List V} (e:H a=some (.tup xs)):TyOf K H (.ref a) (.type "tuple")
  |dK {a:Addr} {kvs:List (Key×V)} (e:H a=some (.dK kvs)):TyOf K H (.ref a) (.type "dict")
  |dT {a:Addr} {kvs:List (List Key×V)} (e:H a=some (.dT kvs)):TyOf K H (.ref a) (.type "dict")
  |ins {a C dx:Addr} {fs:List (Str × V)} (e:H a=some (.ins C dx fs)) (cl:Cls K C) (ha:W.findIn K (.ref C) "__class__" = some (some (.builtin "object.__class__")))
      (hn:W.specialIn K (.builtin "object.__class__") "__get__" = some (some (.builtin "getset_descriptor.__get__"))) (htk:W.takesIn K (.builtin "object.__class__")=some true)
      (hm:W.mroIn K C (.type "object")=some true):TyOf K H (.ref a) (.ref C)
theorem ziU{x:V}{u t:Value}(I:Inv X pins σ H s)(rx:RelV x u)(ty:TyOf X.K H x t)(e:W.kitOne X.K t c=some b)(h:∀tk, Q (.bool b) { s with toks := tk }) :
  wpAny (model X.prog X.w) A (call (.builtin "isinstance") [u,c]) Q E s:=by
 cases ty with
 |non=>cases (show u=Value.none from rx);exact W.kia_one W.kitx_none I.kIn True.intro e (fun z=>nomatch z) h
 |bl y=>cases (show u=Value.bool y from rx);exact W.kia_one W.kitx_bool I.kIn True.intro e (fun z=>nomatch z) h
 |int i=>obtain⟨t,q⟩:=(show ∃t,u=Value.int i t from rx);cases q;exact W.kia_one W.kitx_int I.kIn True.intro e (fun z=>nomatch z) h
 |str y=>obtain⟨t,q⟩:=(show ∃t,u=Value.str y t from rx);cases q;exact W.kia_one W.kitx_str I.kIn True.intro e (fun z=>nomatch z) h
 |flt y=>obtain⟨t,q⟩:=(show ∃t,u=Value.float y t from rx);cases q;exact W.kia_one W.kitx_float I.kIn True.intro e (fun z=>nomatch z) h
 |@lst a xs ea =>
  cases (show u=Value.ref a from rx)
  obtain⟨_,_,n,_,h1⟩:=(show ObjOk X.prog X.w H s.heap a (.lst xs) from I.hok a _ ea);exact W.kia_one W.kitx_list I.kIn ⟨_,h1,rfl⟩ e (fun z=>nomatch z) h
 |@frz a ob xs ea =>
  cases (show u=Value.ref a from rx)
  obtain⟨_,_,_,n,_,h1⟩:=(show ObjOk X.prog X.w H s.heap a (.frz ob (.lst xs)) from I.hok a _ ea);exact W.kia_one W.kitx_list I.kIn ⟨_,h1,rfl⟩ e (fun z=>nomatch z) h
 |@tup a xs ea =>
  cases (show u=Value.ref a from rx)
  obtain⟨_,_,_,p⟩:=(show ObjOk X.prog X.w H s.heap a (.tup xs) from I.hok a _ ea);obtain⟨o,h1,h2,_⟩:=p;exact W.kia_one W.kitx_tuple I.kIn ⟨o,h1,h2⟩ e (fun z=>nomatch z) h
 |@dK a kvs ea =>
  cases (show u=Value.ref a from rx)
  obtain⟨_,_,vs,_,p⟩:=(show ObjOk X.prog X.w H s.heap a (.dK kvs) from I.hok a _ ea);obtain⟨o,es,ep,h1,h2,_⟩:=p;exact W.kia_one W.kitx_dict I.kIn ⟨o,h1,h2.1⟩ e (fun z=>nomatch z) h
 |@dT a kvs ea =>
  cases (show u=Value.ref a from rx)
  obtain⟨_,_,xs,_,o,es,ep,h1,h2,_⟩:=(show ObjOk X.prog X.w H s.heap a (.dT kvs) from I.hok a _ ea);exact W.kia_one W.kitx_dict I.kIn ⟨o,h1,h2.1⟩ e (fun z=>nomatch z) h
 |@ins a C dx fs ea cl ha hn htk hm =>
  cases (show u=Value.ref a from rx)
  obtain⟨mA,O,_⟩:=zkU I.hok ea;obtain⟨od,J,_⟩:=O.look;exact W.kia_one (W.kitx_own (cl.get _) cl.hd ha hn htk hm) I.kIn J e (fun z=>nomatch z) h
end
structure Room (k:Nat) (A:Around):Prop where
 hd:A.handled=none
 dp:A.depth+3*k+5<recursionLimit
 un:A.units+16*k+200<cLine
theorem Room.mono{j k:Nat}{A:Around}(r:Room k A)(h:j<=k):Room j A:=⟨r.hd,by have:=r.dp;lia,by have:=r.un;lia⟩
theorem Room.deeper{k:Nat}{A:Around}(r:Room (k+1) A)(env:Env):Room k (A.deeper env) :=
 ⟨r.hd,by have:=r.dp;show A.depth+1+3*k+5<_;lia,by have:=r.un;show A.units+3+16*k+200<_;lia⟩
theorem Room.in1{k:Nat}{A:Around}(r:Room (k+1) A):Room k A.in1 :=
 ⟨r.hd,by have:=r.dp;show A.depth+3*k+5<_;lia,by have:=r.un;show A.units+1+16*k+200<_;lia⟩
theorem Room.depth{k:Nat}{A:Around}(r:Room k A):A.depth<recursionLimit:=by have:=r.dp;lia
theorem Room.units{k:Nat}{A:Around}(r:Room k A):A.units+64<cLine:=by have:=r.un;lia
def tNil:TA:=fun _ H Q=>Q [] H
def tCons(ta:TE)(tr:TA):TA:=fun σ H Q=>ta σ H fun x H1=>tr σ H1 fun xs H2=>Q (x::xs) H2
section
variable {X:Cx}{e:Expr}{es:List Expr}{te:TE}{t:TA}{pos:Pos}
theorem zac:PA X [] tNil:=fun _ _ _ _ H Q I h=>Calls.spliced_nil ⟨[],H,I,.nil,h⟩
theorem zaj(ha:PE X e te)(hr:PA X es t)(hs:starEach (e::es) X.env=(false,eval e X.env)::starEach es X.env:=by rfl):PA X (e::es) (tCons te t):=by intro pos pins s σ H Q I h;rw[hs];show wpAny _ _ (spliced ((false,eval e X.env)::backTo pos (starEach es X.env))) _ _ s;refine Calls.spliced_cons (thn (ha pins s σ H _ I h) fun u s1 ⟨x,H1,I1,r1,q1⟩=>?_);exact thn (hr pos pins s1 σ H1 _ I1 q1) fun us s2 ⟨xs,H2,I2,r2,q2⟩=>⟨x::xs,H2,I2,.cons r1 r2,q2⟩
def tTup(t:TA):TE:=fun σ H Q=>t σ H fun xs H1=>xs.length<=sizeLine/\∀p,H1 p=none->Q (.ref p) (upd H1 p (.tup xs))
def tLst(t:TA):TE:=fun σ H Q=>t σ H fun xs H1=>xs.length<=sizeLine/\∀p,H1 p=none->Q (.ref p) (upd H1 p (.lst xs))
theorem zax{x1}(h:PA X es t):PE X (.Tuple es x1 pos) (tTup t):=by intro pins s σ H Q I hq;refine wpAny_Tuple_spliced (thn (h pos pins s σ H _ I hq) fun us s1 ⟨xs,H1,I1,r,z,q⟩=>⟨by rw[<- r.length];exact z,?_⟩);have hf:H1 s1.heap.objs.size=none:=I1.hok.fresh (Nat.le_refl _);refine⟨.ref s1.heap.objs.size,upd H1 s1.heap.objs.size (.tup xs),I1.laid (t':=s1.toks) (fun b u e=>Heap.get?_push_of_some _ e) (Nat.le_refl _) ?_,rfl,q _ hf⟩;exact⟨z,us,r,⟨_,Heap.get?_push_size _ rfl,rfl,_,rfl⟩⟩
theorem zbs(h:PA X es t):PE X (.List es pos) (tLst t):=by intro pins s σ H Q I hq;refine wpAny_List_spliced (thn (h pos pins s σ H _ I hq) fun us s1 ⟨xs,H1,I1,r,z,q⟩=>⟨by rw[<- r.length];exact z,?_⟩);have hf:H1 s1.heap.objs.size=none:=I1.hok.fresh (Nat.le_refl _);refine⟨.ref s1.heap.objs.size,upd H1 s1.heap.objs.size (.lst xs),I1.laid (t':=s1.toks) (fun b u e=>Heap.get?_push_of_some _ e) (Nat.le_refl _) ?_,rfl,q _ hf⟩;exact⟨z,us,0,r,Heap.get?_push_size _ rfl⟩
end
abbrev Sp:=List V->Hp->VK->XK->Prop
abbrev CXT:=List Env->Hp->Shared->XK->Value->Shared->Prop
structure Env0 (P:Program) (w:World) (K:W.Frag) (mg:Str->Option Value) (base:Heap) (A:Around) (outer:List Env) (s:Shared) (H:Hp):Prop where
 frames:A.frames=some outer
 mod:Mod K mg base
 bs:∀b o,base.get? b=some o->s.heap.get? b=some o/\H b=none
 bsz:base.objs.size<=s.heap.objs.size
 funs:s.heap.FunFrames base outer
 frf:∀b∈frs outer,H b=none
 hok:HOk P w H s.heap
 bare:AllBare s.gens
def CE(outer:List Env)(P:Program)(w:World)(H:Hp)(s:Shared)(Q:VK)(u:Value)(s':Shared):Prop :=
 ∃v H',s'.os=s.os/\AllBare s'.gens/\Un (frs outer) [] H H' s.heap s'.heap/\HOk P w H' s'.heap/\RelV v u/\Q v H'
def CR(CX:CXT)(outer:List Env)(P:Program)(w:World)(H:Hp)(s:Shared)(Q:VK)(E:XK)(r:Result)(s':Shared):Prop :=
 match r with
 |.ok (.ret u)=>CE outer P w H s Q u s'
 |.ok _=>False
 |.error e=>CX outer H s E e s'
structure FnOk (P:Program) (w:World) (K:W.Frag) (mg:Str->Option Value) (base:Heap) (CX:CXT) (k:Nat) (f:Addr) (fd:FuncData) (ps:List Str) (sp:Sp):Prop where
 len:∀vs H Q E,sp vs H Q E->vs.length=ps.length
 run:∀(A:Around) (outer:List Env) (s:Shared) (H:Hp) (args:Args) (us:List Value) (vs:List V) (Q:VK) (E:XK),Room k A->Env0 P w K mg base A outer s H->BindsTo s fd args (ps.zip us)->Vals vs us->sp vs H Q E ->
  codeAny (model P w) A (.call (.ref f) args) (CR CX outer P w H s Q E) s
theorem Env0.in1{P:Program}{w:World}{K:W.Frag}{mg:Str -> Option Value}{base:Heap}{A:Around}{outer:List Env}{s:Shared}{H:Hp}(e:Env0 P w K mg base A outer s H) :
  Env0 P w K mg base A.in1 outer s H:=⟨e.frames,e.mod,e.bs,e.bsz,e.funs,e.frf,e.hok,e.bare⟩
section
variable {X:Cx}{pins:List (Addr×Obj)}{σ:St}{H:Hp}{s s':Shared}
theorem Inv.env0(I:Inv X pins σ H s):Env0 X.prog X.w X.K X.mg X.base X.A X.stack s H :=
 ⟨I.ok.frames,I.ok.mod,I.bs,Nat.le_trans I.ok.bsz I.sz,I.stack,I.stkFree,I.hok,I.bare⟩
theorem Inv.after{Q:VK}{u:Value}(I:Inv X pins σ H s)(h:CE X.stack X.prog X.w H s Q u s'):EP X pins σ Q u s':=by obtain⟨v,H',os,bare,un,hok,r,q⟩:=h;obtain⟨hh,g,d,t,os'⟩:=s';obtain rfl:os'=s.os:=os;exact⟨v,H',I.call (h':=hh) (g':=g) (d':=d) (t':=t) (ch:=[]) un hok bare (fun b z=>absurd z (by simp)),r,q⟩
end
def tCall(sp:Sp)(dvs:List V)(E:XK)(t:TA):TE:=fun σ H Q=>t σ H fun vs H1=>sp (vs++dvs) H1 Q E
def Binds(K:W.Frag)(fd:FuncData)(ps:List Str)(ds:List Value):Prop :=
 ∀(s:Shared) (us:List Value),K.In s.heap->(us++ds).length=ps.length->BindsTo s fd ⟨us,[]⟩ (ps.zip (us++ds))
theorem Binds.all{K:W.Frag}{fd:FuncData}{ps:List Str}(h:∀us:List Value,us.length=ps.length->bindArgs fd ⟨us,[]⟩=pure (ps.zip us)):Binds K fd ps []:=fun s us _ hl=>by rw[List.append_nil]at hl ⊢;exact .of_eq (h us hl)
def zjl(CX:CXT)(X:Cx)(E:XK):Prop:=∀(pins:List (Addr×Obj)) (σ:St) (H:Hp) (s:Shared) (e:Value) (s':Shared),Inv X pins σ H s->CX X.stack H s E e s'->X.xe e s'
section
variable {X:Cx}{CX:CXT}{k:Nat}{f C:Addr}{fd:FuncData}{ps:List Str}{sp:Sp}{dvs:List V}{ds:List Value}{E:XK}{x m:Str}{p pos apos:Pos}{e o:Expr}{es:List Expr}{ta:TE}{t:TA}
theorem zln{pins:List (Addr × Obj)}{σ : St}{H:Hp}{s:Shared}{Q:VK}{us:List Value}{vs:List V}(F:FnOk X.prog X.w X.K X.mg X.base CX k f fd ps sp)(hr:Room k X.A)(hb:Binds X.K fd ps ds)(hd:Vals dvs ds)(hx:zjl CX X E)
  (I:Inv X pins σ H s) (r:Vals vs us) (h:sp (vs++dvs) H Q E):wpAny (model X.prog X.w) X.A (call (.ref f) us) (EP X pins σ Q) X.xe s:=by
 have r2:Vals (vs++dvs) (us++ds):=r.append hd;have hl:(us++ds).length=ps.length:=by rw[<- r2.length];exact F.len _ _ _ _ h
 refine wpAny_call (codeAny_mono (F.run X.A X.stack s H ⟨us,[]⟩ (us++ds) (vs++dvs) Q E hr I.env0 (hb s us I.kIn hl) r2 h) fun r s' hq=>?_)
 cases r with
 |error e=>exact hx pins σ H s e s' I hq
 |ok fl =>
  cases fl with
  |ret u=>exact I.after hq
  |next=>exact False.elim hq
  |brk=>exact False.elim hq
  |cont=>exact False.elim hq
theorem zan(F:FnOk X.prog X.w X.K X.mg X.base CX k f fd ps sp)(hr:Room k X.A)(hg:Gl X x)(hm:X.mg x=some (.ref f))(hk:W.keepIn X.K (.ref f)=true)(hb:Binds X.K fd ps ds)(hd:Vals dvs ds)(hx:zjl CX X E)
  (ha:PA X (e::es) t) (hdb:(x == ("__debug__" : Str))=false:=by decide) (he:starEach (e::es) X.env=(false,eval e X.env)::starEach es X.env:=by rfl) (hpl:(backTo pos (starEach es X.env)).any (·.1)=false:=by rfl) :
  PE X (.Call (.Name x p) (e::es) [] pos) (tCall sp dvs E t):=by
 intro pins s σ H Q I h;refine wpAny_Call_Name_kw (ziP I hg hm ?_ hdb);refine W.callWith_K (h₀:=X.base) I.ok.mod.kin hk (thn (ha pos pins s σ H _ I h) fun us s1 ⟨vs,H1,I1,r,q⟩=>⟨I1.kIn,?_⟩) he hpl;exact zln F hr hb hd hx I1 r q
structure Mk (K:W.Frag) (C f:Addr):Prop where
 makes:W.makesIn K C=true
 init:W.findIn K (.ref C) "__init__" = some (some (.ref f))
 fn:W.isFn K (.ref f)=true
 kp:W.keepIn K (.ref C)=true
end
def PK(X:Cx)(kws:List Keyword)(t:TA):Prop :=
 ∀(pos:Pos) (pins:List (Addr×Obj)) (s:Shared) (σ:St) (H:Hp) (Q:List V->Hp->Prop),Inv X pins σ H s->t σ H Q->wpAny (model X.prog X.w) X.A (evalAll ((backToKw pos (keywordEach kws X.env)).map (·.2))) (AP X pins σ Q) X.xe s
section
variable {X:Cx}{CX:CXT}{k:Nat}{f C:Addr}{fd:FuncData}{ps ks:List Str}{sp:Sp}{E:XK}{x m:Str}{p pos apos kpos:Pos}{e o:Expr}{es:List Expr}{kws:List Keyword}{te ta:TE}{t tk:TA}{nm:Option Str}
theorem zj9:PK X [] tNil:=fun _ _ _ _ H Q I h=>wpAny_evalAll_nil ⟨[],H,I,.nil,h⟩
theorem zit(ha:PE X e te)(hr:PK X kws t):PK X (⟨nm,e,kpos⟩::kws) (tCons te t):=by intro pos pins s σ H Q I h;show wpAny _ _ (evalAll ((do let v <- eval e X.env;standAt pos;pure v)::(backToKw pos (keywordEach kws X.env)).map (·.2))) _ _ s;refine wpAny_evalAll_cons (wpAny_bind (thn (ha pins s σ H _ I h) fun u s1 ⟨x,H1,I1,r1,q1⟩=>wpAny_bind (wpAny_standAt (wpAny_pure ?_))));exact thn (hr pos pins s1 σ H1 _ I1 q1) fun us s2 ⟨xs,H2,I2,r2,q2⟩=>⟨x::xs,H2,I2,.cons r1 r2,q2⟩
structure KBinds (K:W.Frag) (fd:FuncData) (ps ks:List Str) (g:List Value->List Value->List Value) (gV:List V->List V->List V):Prop where
 to:∀(s:Shared) (us ws:List Value),K.In s.heap->(g us ws).length=ps.length->BindsTo s fd ⟨us,ks.zip ws⟩ (ps.zip (g us ws))
 rel:∀{vs:List V} {us:List Value} {zs:List V} {ws:List Value},Vals vs us->Vals zs ws->Vals (gV vs zs) (g us ws)
variable {g:List Value->List Value->List Value}{gV:List V->List V->List V}
end
structure FnScope (N P:List Str) (sc:Scope):Prop where
 kind:sc.kind=.function
 co:sc.isCoroutine=false
 gen:sc.isGenerator=false
 nd:N.Nodup
 pre:N.take P.length=P
 par:∀x∈P,sc.names.lookup x=some .local∨sc.names.lookup x=some .cell
 nofree:∀y∈sc.names,y.2≠.free
theorem zfU{kindOf:Str->Option NameKind}{x:Str}:∀{binds:List (Str×Value)}{m:Str->Option Value},(∀v,(x,v) ∉ binds)->bindL kindOf binds m x=m x
 |[],_,_=>rfl
 | (n,v)::r,m,h=>by
  unfold bindL;rw[zfU fun w hw=>h w (List.mem_cons_of_mem _ hw)];split
  .have:x≠n:=by rintro rfl;exact h v List.mem_cons_self
   simp[this]
  .rfl
theorem zfW{kindOf:Str->Option NameKind}{x:Str}:∀{binds:List (Str×Value)}{m:Str->Option Value},(∀v,(x,v) ∉ binds)->bindC kindOf binds m x=m x
 |[],_,_=>rfl
 | (n,v)::r,m,h=>by
  unfold bindC;rw[zfW fun w hw=>h w (List.mem_cons_of_mem _ hw)];split
  .rfl
  .have:x≠n:=by rintro rfl;exact h v List.mem_cons_self
   simp[this]
theorem zfV{kindOf:Str -> Option NameKind}{x:Str}{v:Value} : ∀{P:List Str}{vs:List Value}{i:Nat}{m:Str -> Option Value}, P.Nodup -> P[i]? = some x -> vs[i]? = some v -> kindOf x=some .local ->
  bindL kindOf (P.zip vs) m x=some v
 |[],_,_,_,_,h,_,_=>by simp at h
 |_::_,[],_,_,_,_,h,_=>by simp at h
 |p::P,w::vs,0,m,nd,h1,h2,hk=>by
  simp at h1 h2;subst h1;subst h2;show bindL kindOf ((p,w)::P.zip vs) m p=_;unfold bindL;rw[zfU fun v hv=>(List.nodup_cons.mp nd).1 (List.of_mem_zip hv).1,if_pos hk];simp
 |p::P,w::vs,i+1,m,nd,h1,h2,hk=>by
  show bindL kindOf ((p,w)::P.zip vs) m x=_;unfold bindL;exact zfV (i:=i) (List.nodup_cons.mp nd).2 (by simpa using h1) (by simpa using h2) hk
theorem zfX{kindOf:Str -> Option NameKind}{x:Str}{v:Value} : ∀{P:List Str}{vs:List Value}{i:Nat}{m:Str -> Option Value}, P.Nodup -> P[i]? = some x -> vs[i]? = some v -> kindOf x ≠ some .local ->
  bindC kindOf (P.zip vs) m x=some v
 |[],_,_,_,_,h,_,_=>by simp at h
 |_::_,[],_,_,_,_,h,_=>by simp at h
 |p::P,w::vs,0,m,nd,h1,h2,hk=>by
  simp at h1 h2;subst h1;subst h2;show bindC kindOf ((p,w)::P.zip vs) m p=_;unfold bindC;rw[zfW fun v hv=>(List.nodup_cons.mp nd).1 (List.of_mem_zip hv).1,if_neg hk];simp
 |p::P,w::vs,i+1,m,nd,h1,h2,hk=>by
  show bindC kindOf ((p,w)::P.zip vs) m x=_;unfold bindC;exact zfX (i:=i) (List.nodup_cons.mp nd).2 (by simpa using h1) (by simpa using h2) hk
def start(N:List Str)(vs:List V):St:=vs.map some++List.replicate (N.length-vs.length) none
def cxOf(CX:CXT)(P:Program)(w:World)(K:W.Frag)(mg:Str->Option Value)(base:Heap)(N:List Str)(qual:Str)(scope:Scope)(f:Addr)(cd:Value)(A:Around)(outer:List Env)(s:Shared)(H:Hp)(E:XK):Cx where
 prog:=P
 w:=w
 K:=K
 mg:=mg
 base:=base
 A:=A.deeper (envOfC qual scope s.heap.objs.size f cd)
 N:=N
 s₀:=s
 H₀:=H
 env:=envOfC qual scope s.heap.objs.size f cd
 outer:=outer
 stack:=envOfC qual scope s.heap.objs.size f cd::outer
 ex:=[]
 calm:=true
 fn:=fun _=>true
 pn:=[]
 xe:=fun e s'=>wpAny (model P w) (A.deeper (envOfC qual scope s.heap.objs.size f cd)) (leaving (envOfC qual scope s.heap.objs.size f cd) e) (fun _ s''=>CX outer H s E e s'') (fun e' s''=>CX outer H s E e' s'') s'
theorem zhn{sc:Scope}{n:Nat}{x:Str}(h:sc.names.lookup x=some .cell):∃c,(cellsFrom n sc.names []).lookup x=some c:=by have q:=W.cellsFrom_some sc.names n [] (.inl h);exact Option.isSome_iff_exists.mp q
theorem zfH{CX:CXT}{P:Program}{w:World}{K:W.Frag}{mg:Str -> Option Value}{base:Heap}{N ps:List Str}{qual:Str}{scope:Scope}{f:Addr}{cd:Value}{A:Around}{outer:List Env}{s s1:Shared}{H:Hp}{E:XK}{us:List Value}{vs:List V}
  (S:FnScope N ps scope) (hd:A.handled=none) (e0:Env0 P w K mg base A outer s H) (hl:vs.length=ps.length) (r:Vals vs us)
  (x:InCallC s s.heap.objs.size (bindL (envOfC qual scope s.heap.objs.size f cd).kindOf (ps.zip us) fun _=>none) (cellsFrom (s.heap.objs.size+1) scope.names []) (bindC (envOfC qual scope s.heap.objs.size f cd).kindOf (ps.zip us) fun _=>none) s1) :
  Inv (cxOf CX P w K mg base N qual scope f cd A outer s H E) [] (start N vs) H s1:=by
 have hpl:ps.length<=N.length:=by have:=congrArg List.length S.pre;rw[List.length_take]at this;lia
 obtain⟨h1,tk,rfl,hk⟩:=x.done;have noA:∀b:Addr,b ∉ (cxOf CX P w K mg base N qual scope f cd A outer s H E).ex:=fun b z=>absurd (show b∈([]:List Addr) from z) (by simp)
 refine⟨⟨e0.mod,S.kind,rfl,rfl,Nat.le_refl _,fun y z c h1 h2=>?_,fun y hy=>?_,fun y c _ h=>?_,fun _=>hd,Around.frames_deeper e0.frames,.inr ⟨rfl,rfl⟩,fun b z=>absurd z (noA b),e0.bs,e0.bsz,fun b _ _=>noA b,fun b z=>absurd z (noA b),e0.funs,e0.frf⟩,
  rfl,e0.bare,Un.kept hk,⟨_,x.toInCall.ns,fun i y v h1 h2 h3=>?_⟩,fun y c h=>⟨_,x.cell y c h⟩,e0.hok.fresh (Nat.le_refl _),fun y c h=>?_,fun p hp=>absurd (show p∈([]:List (Addr×Obj)) from hp) (by simp),e0.hok.kept hk,?_⟩
 .exact name_of_addr x.apart (PySem.mem_of_lookup h1) (PySem.mem_of_lookup h2)
 .have hy:scope.names.lookup y=some .cell∨scope.names.lookup y=some .free:=hy;rcases hy with hy |hy
  .exact zhn hy
  .exact absurd rfl (S.nofree _ (PySem.mem_of_lookup hy))
 .exact Nat.le_of_lt (x.above y c (PySem.mem_of_lookup h))
 .have hi:i < vs.length := by
   unfold start at h2
   by_cases hi:i<vs.length
   .exact hi
   .rw[List.getElem?_append_right (by simpa using hi)]at h2;rw[List.getElem?_replicate]at h2;split at h2 <;> cases h2
  have ha:vs[i]?=some v:=by
   unfold start at h2;rw[List.getElem?_append_left (by simpa using hi),List.getElem?_map]at h2
   cases e:vs[i]? with
   |none=>rw[e]at h2;cases h2
   |some a=>rw[e]at h2;cases h2;rfl
  obtain⟨u,hu,rv⟩:=r.get ha
  have hp:ps[i]?=some y:=by rw[<- S.pre,List.getElem?_take_of_lt (by lia)];exact h1
  have ndP:ps.Nodup:=by rw[<- S.pre];exact S.nd.sublist (List.take_sublist _ _)
  refine⟨u,rv,?_⟩;rcases S.par y (List.mem_of_getElem? hp) with k |k
  .exact .inl ⟨k,zfV ndP hp hu k⟩
  .obtain⟨c,e⟩:=zhn (n:=s.heap.objs.size+1) k;refine .inr ⟨.inl k,c,e,?_⟩;have q:=x.cell y c e;rw[zfX ndP hp hu (by show scope.names.lookup y≠_;rw[k];decide)]at q;exact q
 .exact e0.hok.fresh (Nat.le_of_lt (x.above y c (PySem.mem_of_lookup h)))
 .unfold start;show _=N.length;rw[List.length_append,List.length_map,List.length_replicate];lia
theorem fn_of{CX:CXT}{P:Program}{w:World}{K:W.Frag}{mg:Str -> Option Value}{base:Heap}{k:Nat}{f:Addr}{name qual:Str}{params:Arguments}{body:List Stmt}{scope:Scope}{dV kV doc pm cdv ct oc:Value}{an od:Option Addr}
  {osl:Array (Option Value)} {N ps:List Str} {sp:Sp} (lk:K.lookup f=some ⟨oc,od,.func (W.fnOf name qual params body scope dV kV doc pm an cdv ct),osl⟩) (hcd:W.codeIn K cdv qual=true) (S:FnScope N ps scope)
  (len:∀vs H Q E,sp vs H Q E->vs.length=ps.length)
  (hbody:∀(A:Around) (outer:List Env) (s:Shared) (H:Hp) (vs:List V) (Q:VK) (E:XK),Room k (A.deeper (envOfC qual scope s.heap.objs.size f cdv))->sp vs H Q E ->
   ∃t,PSs (cxOf CX P w K mg base N qual scope f cdv A outer s H E) body t/\t { nx:=fun _ H'=>Q .non H',rt:=Q } (start N vs) H) :
  FnOk P w K mg base CX (k+1) f (W.fnOf name qual params body scope dV kV doc pm an cdv ct) ps sp:=by
 refine⟨len,fun A outer s H args us vs Q E hr e0 hb r hsp=>?_⟩;have hl:=len _ _ _ _ hsp;have KX:K.In s.heap:=e0.mod.kin.keeps fun b o e=>(e0.bs b o e).1
 have lim:s.heap.NoLimit:=e0.mod.nolimit.keeps fun b o e=>(e0.bs b o e).1
 have hkind:∀y∈ps.zip us,scope.names.lookup y.1=some .local∨(scope.names.lookup y.1=some .cell/\((cellsFrom (s.heap.objs.size+1) scope.names []).lookup y.1).isSome=true):=fun⟨n,v⟩ hy=>by
  rcases S.par n (List.of_mem_zip hy).1 with q |q
  .exact .inl q
  .exact .inr ⟨q,W.cellsFrom_some _ _ _ (.inl q)⟩
 refine codeAny_call_function hr.depth (KX _ _ lk) rfl S.co S.gen rfl (W.codeRec_of KX hcd) (hb _ _ _ _ ?_);refine wpAny_newFunctionEnv_cells S.kind hkind fun env he s1 x=>?_
 subst he;refine⟨lim.keeps x.toInCall.keep,codeAny_func ?_⟩;obtain⟨t,ht,hq⟩:=hbody A outer s H vs Q E (hr.deeper _) hsp;have I:Inv (cxOf CX P w K mg base N qual scope f cdv A outer s H E) [] (start N vs) H s1:=zfH S hr.hd e0 hl r x;refine wpAny_mono (ht [] s1 (start N vs) H _ I hq) (fun fl s' hs=>?_) fun e s' hs=>hs
 have fin:∀{σ':St} {H':Hp} {v:V} {u:Value},Inv (cxOf CX P w K mg base N qual scope f cdv A outer s H E) [] σ' H' s'->RelV v u->Q v H'->CE outer P w H s Q u s' :=
  fun {σ' H' v u} J rv q=>⟨v,H',J.os,J.bare,J.base,J.hok,rv,q⟩
 cases fl with
 |ret u =>
  obtain⟨v,σ',H',J,rv,q⟩:=hs;exact fin J rv q
 |next =>
  obtain⟨σ',H',J,q⟩:=hs;exact fin (v:=V.non) (u:=Value.none) J rfl q
 |brk =>
  obtain⟨_,_,_,q⟩:=hs;exact False.elim q
 |cont =>
  obtain⟨_,_,_,q⟩:=hs;exact False.elim q
section
variable {X:Cx}{x:Str}{p pos:Pos}{e:Expr}{es:List Expr}{t:TA}{id T:String}{r:List V->Hp->VK->Prop}
def tCB(r:List V->Hp->VK->Prop)(t:TA):TE:=fun σ H Q=>t σ H fun vs H1=>r vs H1 Q
theorem zaV (hc:CallR X (.builtin id) r) (hg:Gl X x) (hm:X.mg x=none) (hv:bootBuiltins x=some (.builtin id)) (ha:PA X (e :: es) t) (hn:x ≠ "__name__" := by decide) (hdb:(x == ("__debug__" : Str))=false := by decide)
  (he:starEach (e::es) X.env=(false,eval e X.env)::starEach es X.env:=by rfl) (hpl:(backTo pos (starEach es X.env)).any (·.1)=false:=by rfl):PE X (.Call (.Name x p) (e::es) [] pos) (tCB r t):=by
 intro pins s σ H Q I h;refine wpAny_Call_Name_kw (zcx I hg hm hv ?_ hn hdb);exact PyProof.Rows.callWith_builtin1 (thn (ha pos pins s σ H _ I h) fun us s1 ⟨vs,H1,I1,r1,q1⟩=>hc pins s1 σ H1 vs us Q I1 r1 q1) he hpl
theorem zc4 (hc:CallR X (.type T) r) (hg:Gl X x) (hm:X.mg x=none) (hv:bootBuiltins x=some (.type T)) (ha:PA X (e :: es) t) (hn:x ≠ "__name__" := by decide) (hdb:(x == ("__debug__" : Str))=false := by decide)
  (he:starEach (e::es) X.env=(false,eval e X.env)::starEach es X.env:=by rfl) (hpl:(backTo pos (starEach es X.env)).any (·.1)=false:=by rfl):PE X (.Call (.Name x p) (e::es) [] pos) (tCB r t):=by
 intro pins s σ H Q I h;refine wpAny_Call_Name_kw (zcx I hg hm hv ?_ hn hdb);exact PyProof.Rows.callWith_type1 (thn (ha pos pins s σ H _ I h) fun us s1 ⟨vs,H1,I1,r1,q1⟩=>hc pins s1 σ H1 vs us Q I1 r1 q1) he hpl
end
section
variable {κ:Type} [DecidableEq κ]
def valV(kvs:List (κ×V))(k:κ):Option V:=(kvs.find? fun kv=>decide (kv.1=k)).map (·.2)
def putK(kvs:List (κ×V))(k:κ)(v:V):List (κ×V) :=
 if (kvs.any fun kv=>decide (kv.1=k))=true then kvs.map (fun kv=>if kv.1=k then (kv.1,v) else kv) else kvs++[(k,v)]
theorem zbu{p:κ×V}{r:List (κ×V)}{k:κ}(e:p.1=k):valV (p::r) k=some p.2:=by simp[valV,List.find?_cons,e]
theorem zbp{p:κ×V}{r:List (κ×V)}{k:κ}(e:¬ p.1=k):valV (p::r) k=valV r k:=by simp[valV,List.find?_cons,e]
theorem zcA(k:κ):∀kvs:List (κ×V),(kvs.any fun kv=>decide (kv.1=k))=(valV kvs k).isSome
 |[]=>rfl
 |p::r=>by
  rw[List.any_cons]
  by_cases e:p.1=k
  .simp only[zbu e,decide_eq_true e,Bool.true_or,Option.isSome_some]
  .rw[zbp e,decide_eq_false e,Bool.false_or];exact zcA k r
theorem zgB(k j:κ)(y:V):∀kvs:List (κ×V),valV (kvs.map fun kv=>if kv.1=k then (kv.1,y) else kv) j=(valV kvs j).map fun x=>if j=k then y else x
 |[]=>rfl
 |p::r=>by
  have ih:=zgB k j y r;rw[List.map_cons]
  by_cases h:p.1=k
  .rw[if_pos h]
   by_cases e:p.1=j
   .rw[zbu (p:=(p.1,y)) e,zbu e,Option.map_some,if_pos (e.symm.trans h)]
   .rw[zbp (p:=(p.1,y)) e,zbp e,ih]
  .rw[if_neg h]
   by_cases e:p.1=j
   .rw[zbu (p:=p) e,zbu e,Option.map_some,if_neg (fun z=>h (e.trans z))]
   .rw[zbp (p:=p) e,zbp e,ih]
theorem zff(k j:κ)(y:V):∀kvs:List (κ×V),valV kvs k=none->valV (kvs++[(k,y)]) j=if j=k then some y else valV kvs j
 |[],_=>by
  by_cases e:k=j
  .rw[if_pos e.symm];exact zbu (p:=(k,y)) e
  .rw[if_neg (fun z=>e z.symm)];exact zbp (p:=(k,y)) e
 |p::r,hn=>by
  rw[List.cons_append];have hk:¬ p.1=k:=fun z=>by rw[zbu z]at hn;cases hn
  rw[zbp hk]at hn;have ih:=zff k j y r hn
  by_cases e:p.1=j
  .rw[zbu e,zbu e,if_neg (fun z=>hk (e.trans z))]
  .rw[zbp e,zbp e,ih]
theorem zcX(kvs:List (κ×V))(k j:κ)(y:V):valV (putK kvs k y) j=if j=k then some y else valV kvs j:=by
 unfold putK
 by_cases a:(kvs.any fun kv=>decide (kv.1=k))=true
 .rw[if_pos a,zgB];rw[zcA]at a
  by_cases e:j=k
  .obtain⟨x,hx⟩:=Option.isSome_iff_exists.mp a;rw[if_pos e,e,hx,Option.map_some,if_pos rfl]
  .rw[if_neg e]
   cases valV kvs j with
   |none=>rfl
   |some x=>rw[Option.map_some,if_neg e]
 .rw[if_neg a];refine zff k j y kvs ?_
  rw[zcA]at a
  cases q:valV kvs k with
  |none=>rfl
  |some x=>rw[q]at a;exact (a rfl).elim
theorem zba(kvs:List (κ×V))(k:κ)(v:V):(putK kvs k v).length<=kvs.length+1:=by
 unfold putK;split
 .rw[List.length_map];lia
 .rw[List.length_append,List.length_cons,List.length_nil];lia
theorem putK_new{kvs:List (κ×V)}{k:κ}(v:V)(h:valV kvs k=none):putK kvs k v=kvs++[(k,v)]:=by unfold putK;rw[zcA,h];exact if_neg (by decide)
theorem RelO.isSome_eq{o:Option V}{u:Option Value}(r:RelO o u):o.isSome=u.isSome:=by
 cases o with
 |none=>cases u with
  |none=>rfl
  |some _=>exact (show False from r).elim
 |some _=>cases u with
  |none=>exact (show False from r).elim
  |some _=>rfl
theorem KV.val{kvs:List (κ×V)}{vs:List (κ×Value)}(r:KV kvs vs)(k:κ):RelO (valV kvs k) (valueAt vs k):=by
 unfold KV at r
 induction r with
 |nil=>exact True.intro
 |@cons p q ps qs h t ih =>
  obtain⟨h1,h2⟩:=h
  by_cases e:p.1=k
  .have e':q.1=k:=h1.symm.trans e;have b:valueAt (q::qs) k=some q.2:=by simp[valueAt,List.find?_cons,e']
   rw[zbu e,b];exact h2
  .have e':¬ q.1=k:=fun z=>e (h1.trans z)
   have b:valueAt (q::qs) k=valueAt qs k:=by simp[valueAt,List.find?_cons,e']
   rw[zbp e,b];exact ih
theorem KV.any{kvs:List (κ×V)}{vs:List (κ×Value)}(r:KV kvs vs)(k:κ):(kvs.any fun kv=>decide (kv.1=k))=vs.any fun kv=>decide (kv.1=k):=by
 unfold KV at r
 induction r with
 |nil=>rfl
 |cons h t ih=>rw[List.any_cons,List.any_cons,ih,h.1]
theorem KV.repl{kvs:List (κ × V)}{vs:List (κ × Value)}(r:KV kvs vs)(k : κ){y:V}{u:Value}(ry:RelV y u) :
  KV (kvs.map fun kv=>if kv.1=k then (kv.1,y) else kv) (vs.map fun kv=>if kv.1=k then (kv.1,u) else kv):=by
 unfold KV at r ⊢
 induction r with
 |nil=>exact .nil
 |@cons p q ps qs h t ih =>
  rw[List.map_cons,List.map_cons];refine .cons ?_ ih;obtain⟨h1,h2⟩:=h
  by_cases e:p.1=k
  .rw[if_pos e,if_pos (h1.symm.trans e)];exact⟨h1,ry⟩
  .rw[if_neg e,if_neg (fun z=>e (h1.trans z))];exact⟨h1,h2⟩
theorem KV.put{kvs:List (κ×V)}{vs:List (κ×Value)}(r:KV kvs vs)(k:κ){y:V}{u:Value}(ry:RelV y u):KV (putK kvs k y) (stored vs k u):=by
 unfold putK stored;rw[r.any k]
 by_cases e:(vs.any fun kv=>decide (kv.1=k))=true
 .rw[if_pos e,if_pos e];exact r.repl k ry
 .rw[if_neg e,if_neg e];exact Paired.snoc r ⟨rfl,ry⟩
theorem KV.length{kvs:List (κ×V)}{vs:List (κ×Value)}(r:KV kvs vs):kvs.length=vs.length:=Paired.length r
end
theorem kV_is{P:Program}{w:World}{k:Key}{u:Value}(r:RelV (kV k) u):(zaC P w).is k u=true:=by
 cases k with
 |inl i=>obtain⟨t,e⟩:=(show ∃t,u=Value.int i t from r);subst e;exact zgq P w i t
 |inr x=>obtain⟨t,e⟩:=(show ∃t,u=Value.str x t from r);subst e;exact zb6 P w x t
theorem zfG{P:Program}{w:World}:∀{ks:List Key}{us:List Value},Vals (ks.map kV) us->ItemsAre (zaC P w) ks us
 |[],_,r=>by rw[List.map_nil]at r;cases r;exact .nil
 |k::ks,_,r=>by
  rw[List.map_cons]at r
  cases r with
  |cons h t=>exact .cons (kV_is h) (zfG t)
abbrev KT(H:Hp):List (List Key×V)->List (List Key×Addr×Value)->Prop:=Paired fun p q=>p.1=q.1/\H q.2.1=some (.tup (p.1.map kV))/\RelV p.2 q.2.2
theorem KT.val{H:Hp}{kvs:List (List Key×V)}{xs:List (List Key×Addr×Value)}(r:KT H kvs xs)(k:List Key):RelO (valV kvs k) ((atKey xs k).map (·.2)):=by
 induction r with
 |nil=>exact True.intro
 |@cons p q ps qs h t ih =>
  obtain⟨h1,_,h2⟩:=h
  by_cases e:p.1=k
  .have e':q.1=k:=h1.symm.trans e;have b:atKey (q::qs) k=some q.2:=by simp[atKey,List.find?_cons,e']
   rw[zbu e,b];exact h2
  .have e':¬ q.1=k:=fun z=>e (h1.trans z)
   have b:atKey (q::qs) k=atKey qs k:=by simp[atKey,List.find?_cons,e']
   rw[zbp e,b];exact ih
theorem KT.repl{H:Hp}{kvs:List (List Key × V)}{xs:List (List Key × Addr × Value)}(r:KT H kvs xs)(k:List Key){y:V}{u:Value}(ry:RelV y u) :
  KT H (kvs.map fun kv=>if kv.1=k then (kv.1,y) else kv) (xs.map (putAt k u)):=by
 induction r with
 |nil=>exact .nil
 |@cons p q ps qs h t ih =>
  rw[List.map_cons,List.map_cons];refine .cons ?_ ih;obtain⟨h1,h2,h3⟩:=h;unfold putAt
  by_cases e:p.1=k
  .rw[if_pos e,if_pos (h1.symm.trans e)];exact⟨h1,h2,ry⟩
  .rw[if_neg e,if_neg (fun z=>e (h1.trans z))];exact⟨h1,h2,h3⟩
theorem KT.put{H:Hp}{kvs:List (List Key × V)}{xs:List (List Key × Addr × Value)}(r:KT H kvs xs)(k:List Key){b:Addr}{y:V}{u:Value}(hb:H b=some (.tup (k.map kV)))(ry:RelV y u) :
  KT H (putK kvs k y) (storedH xs k b u):=by
 have e:(kvs.any fun kv=>decide (kv.1=k))=(atKey xs k).isSome:=by rw[zcA,(r.val k).isSome_eq,Option.isSome_map]
 unfold putK storedH;rw[e]
 by_cases q:(atKey xs k).isSome=true
 .rw[if_pos q,if_pos q];exact r.repl k ry
 .rw[if_neg q,if_neg q];exact Paired.snoc r ⟨rfl,hb,ry⟩
theorem KT.keeps{H H':Hp}{kvs:List (List Key×V)}{xs:List (List Key×Addr×Value)}(r:KT H kvs xs)(ht:∀b ys,H b=some (.tup ys)->H' b=some (.tup ys)):KT H' kvs xs :=
 Paired.mapP r fun _ _ z=>⟨z.1,ht _ _ z.2.1,z.2.2⟩
section
variable {P:Program}{w:World}{H:Hp}{h:Heap}{a:Addr}
theorem rd_of{u:HO}(ok:HOk P w H h)(e:Rd H a u):ObjOk P w H h a u:=e.ok ok
theorem dk_rd{kvs:List (Key×V)}(ok:HOk P w H h)(e:Rd H a (.dK kvs)):kvs.length<=sizeLine/\(a == sysModules)=false/\∃vs,KV kvs vs/\h.DictOf (zaC P w) a vs :=
 show ObjOk P w H h a (.dK kvs) from rd_of ok e
theorem dk_of{kvs:List (Key×V)}(ok:HOk P w H h)(e:H a=some (.dK kvs)):kvs.length<=sizeLine/\(a == sysModules)=false/\∃vs,KV kvs vs/\h.DictOf (zaC P w) a vs:=dk_rd ok (.inl e)
theorem zdR{ks:List Key}(ok:HOk P w H h)(e:H a=some (.tup (ks.map kV))):(tupleKind (zaC P w)).is h ks a:=by obtain⟨_,its,r,o,h1,h2,n,h3⟩:=(show ObjOk P w H h a (.tup (ks.map kV)) from ok a _ e);exact⟨o,its.toArray,n,h1,h2,h3,by simpa using zfG r⟩
theorem dt_rd{kvs:List (List Key × V)}(ok:HOk P w H h)(e:Rd H a (.dT kvs)):kvs.length <= sizeLine /\ (a == sysModules)=false /\
  ∃xs,KT H kvs xs/\h.DictOfH (tupleKind (zaC P w)) a xs:=by
 obtain⟨z,y,xs,r,o,es,ep,h1,h2,h3,h4,h5⟩:=(show ObjOk P w H h a (.dT kvs) from rd_of ok e);refine⟨z,y,xs,r,o,es,ep,h1,h2,h3,h4,fun x hx=>?_,h5⟩
 have all:∀{l:List (List Key×V)} {m:List (List Key×Addr×Value)},KT H l m->∀x∈m,(tupleKind (zaC P w)).is h x.1 x.2.1:=by
  intro l m q
  induction q with
  |nil=>intro x hx;exact nomatch hx
  |@cons p q ps qs hq t ih =>
   intro x hx;rcases List.mem_cons.mp hx with e |hx
   .subst e;exact zdR ok (by rw[<- hq.1];exact hq.2.1)
   .exact ih x hx
 exact all r x hx
theorem dt_of{kvs:List (List Key × V)}(ok:HOk P w H h)(e:H a=some (.dT kvs)):kvs.length <= sizeLine /\ (a == sysModules)=false /\
  ∃xs,KT H kvs xs/\h.DictOfH (tupleKind (zaC P w)) a xs:=dt_rd ok (.inl e)
end
def DGet(H:Hp)(a:Addr)(y:V)(r:Option V):Prop :=
 (∃kvs k,Rd H a (.dK kvs)/\y=kV k/\r=valV kvs k)∨∃kvs k b,Rd H a (.dT kvs)/\y=.ref b/\H b=some (.tup (k.map kV))/\r=valV kvs k
def DPut(H:Hp)(a:Addr)(y v:V)(H':Hp):Prop :=
 (∃kvs k,H a=some (.dK kvs)/\y=kV k/\kvs.length<sizeLine/\H'=upd H a (.dK (putK kvs k v))) ∨
 ∃kvs k b,H a=some (.dT kvs)/\y=.ref b/\H b=some (.tup (k.map kV))/\kvs.length<sizeLine/\H'=upd H a (.dT (putK kvs k v))
theorem DGet.k{H:Hp}{a:Addr}{kvs:List (Key×V)}{k:Key}(e:H a=some (.dK kvs)):DGet H a (kV k) (valV kvs k):=.inl ⟨kvs,k,.inl e,rfl,rfl⟩
section
variable {X:Cx}{pins:List (Addr×Obj)}{σ:St}{H:Hp}{s:Shared}{a:Addr}{y v:V}{u r:Value}{o:Option V}{A:Around}{E:Value->Shared->Prop}
theorem Inv.big(I:Inv X pins σ H s):sysModules<s.heap.objs.size:=by have h:mainGlobals<s.heap.objs.size:=(I.mod.glob.keeps I.bk).lt;exact Nat.lt_trans (by decide) h
theorem zi9{Q:Value -> Shared -> Prop}(hu:A.units + 1 < cLine)(I:Inv X pins σ H s)(g:DGet H a y (some v))(ry:RelV y u)(h:∀w' s', Inv X pins σ H s' -> RelV v w' -> Q w' s') :
  wpAny (model X.prog X.w) A (getItem (.ref a) u) Q E s:=by
 rcases g with⟨kvs,k,e,ey,l⟩ |⟨kvs,k,b,e,ey,eb,l⟩
 .subst ey;obtain⟨z,hd,vs,rel,dd⟩:=dk_rd I.hok e;obtain⟨w',hw,rw'⟩:=RelO.some_of (v:=v) (o:=valueAt vs k) (by rw[l];exact rel.val k);exact wpAny_getItem_of (kV_is ry) dd.mapOf hw (h w' _ (I.tok _) rw')
 .subst ey
  cases (show u=Value.ref b from ry)
  obtain⟨z,hd,xs,rel,dd⟩:=dt_rd I.hok e;obtain⟨w',hw,rw'⟩:=RelO.some_of (v:=v) (o:=(atKey xs k).map (·.2)) (by rw[l];exact rel.val k);obtain⟨p,hp,hp2⟩:=Option.map_eq_some_iff.mp hw;refine wpAny_getItem_heap (tupleKind_room_in1 hu) (zdR I.hok eb) dd hp ?_
  rw[hp2];exact h w' _ (I.tok _) rw'
theorem d_in{Q:Value -> Shared -> Prop}(hu:A.units + 1 < cLine)(I:Inv X pins σ H s)(g:DGet H a y o)(ry:RelV y u)(h:∀s', Inv X pins σ H s' -> Q (.bool o.isSome) s') :
  wpAny (model X.prog X.w) A (compareOp .In u (.ref a)) Q E s:=by
 rcases g with⟨kvs,k,e,ey,l⟩ |⟨kvs,k,b,e,ey,eb,l⟩
 .subst ey;obtain⟨z,hd,vs,rel,dd⟩:=dk_rd I.hok e;refine wpAny_in_of (kV_is ry) hd dd.mapOf ?_
  rw[<- (rel.val k).isSome_eq,<- l];exact h _ (I.tok _)
 .subst ey
  cases (show u=Value.ref b from ry)
  obtain⟨z,hd,xs,rel,dd⟩:=dt_rd I.hok e;refine wpAny_in_heap (tupleKind_room_in1 hu) (zdR I.hok eb) hd dd ?_
  have q:=(rel.val k).isSome_eq;rw[Option.isSome_map]at q;rw[<- q,<- l];exact h _ (I.tok _)
theorem zkX{Q:Value -> Shared -> Prop}(hu:A.units + 1 < cLine)(I:Inv X pins σ H s)(g:DGet H a y o)(ry:RelV y u)(h:∀s', Inv X pins σ H s' -> Q (.bool (!o.isSome)) s') :
  wpAny (model X.prog X.w) A (compareOp .NotIn u (.ref a)) Q E s:=by
 rcases g with⟨kvs,k,e,ey,l⟩ |⟨kvs,k,b,e,ey,eb,l⟩
 .subst ey;obtain⟨z,hd,vs,rel,dd⟩:=dk_rd I.hok e;refine wpAny_notIn_of (kV_is ry) hd dd.mapOf ?_
  rw[<- (rel.val k).isSome_eq,<- l];exact h _ (I.tok _)
 .subst ey
  cases (show u=Value.ref b from ry)
  obtain⟨z,hd,xs,rel,dd⟩:=dt_rd I.hok e;refine wpAny_notIn_heap (tupleKind_room_in1 hu) (zdR I.hok eb) hd dd ?_
  have q:=(rel.val k).isSome_eq;rw[Option.isSome_map]at q;rw[<- q,<- l];exact h _ (I.tok _)
theorem zdd{h':Heap}{t':Nat}{ob:HO}(I:Inv X pins σ H s)(mu:Mut (H a))(hs:Heap.SameBut a s.heap h')(he:∃q, h'.get? a=some q)(new:ObjOk X.prog X.w (upd H a ob) h' a ob) :
  Inv X pins σ (upd H a ob) { s with heap:=h',toks:=t' } :=
 I.write (x:=a) (e:=a) mu (.inl rfl) (fun b q hb z=>(hs.2 b hb).trans z) he new
theorem zi4{P:Program}{w:World}{H':Hp}{h':Heap}{kvs:List (Key × V)}{vs:List (Key × Value)}(z:kvs.length <= sizeLine)(hd:(a == sysModules)=false)(rel:KV kvs vs)(dd:h'.DictOf (zaC P w) a vs) :
  ObjOk P w H' h' a (.dK kvs):=⟨z,hd,vs,rel,dd⟩
theorem zi8{H':Hp}{Q:Unit -> Shared -> Prop}(hu:A.units + 1 < cLine)(I:Inv X pins σ H s)(g:DPut H a y v H')(ry:RelV y u)(rv:RelV v r)(h:∀s', Inv X pins σ H' s' -> Q () s') :
  wpAny (model X.prog X.w) A (setItem (.ref a) u r) Q E s:=by
 rcases g with⟨kvs,k,e,ey,l,eH⟩ |⟨kvs,k,b,e,ey,eb,l,eH⟩
 .subst ey eH;obtain⟨z,hd,vs,rel,dd⟩:=dk_of I.hok e;have hz:vs.length<=sizeLine:=by rw[<- rel.length];exact z
  have hl:(putK kvs k v).length<=sizeLine:=by have:=zba kvs k v;lia
  refine wpAny_setItem_pairs (hsz:=hz) (kV_is ry) dd fun h' dd' hs=>h _ ?_
  have he:∃q,h'.get? a=some q:=let ⟨q,_,_,hq,_⟩:=dd';⟨q,hq⟩
  exact zdd I (by rw[e];exact True.intro) hs he (zi4 hl hd (rel.put k rv) dd')
 .subst ey eH
  cases (show u=Value.ref b from ry)
  obtain⟨z,hd,xs,rel,dd⟩:=dt_of I.hok e;have hz:xs.length<=sizeLine:=by rw[<- Paired.length rel];exact z
  have hl:(putK kvs k v).length<=sizeLine:=by have:=zba kvs k v;lia
  refine wpAny_setItem_heap (hsz:=hz) (tupleKind_room_in1 hu) (zdR I.hok eb) dd fun h' dd' hs=>h _ ?_
  obtain⟨q,es,ep,hq,h2,h3,h4,_,h5⟩:=dd';refine zdd I (by rw[e];exact True.intro) hs ⟨q,hq⟩ ⟨hl,hd,_,(rel.put k eb rv).keeps fun c ys ec=>?_,q,es,ep,hq,h2,h3,h4,h5⟩;rw[zai (ne_of ec e (fun z=>nomatch z))];exact ec
end
section
variable {X:Cx}{pins:List (Addr×Obj)}{σ:St}{H:Hp}{s:Shared}{a:Addr}{kvs:List (Key×V)}{k:Key}{u:Value}{A:Around}{E:Value->Shared->Prop}
end
def NoSl(i:Expr):Prop:=∀ov iv,subscripted i false ov iv=operate [ov,iv] (getItem ov iv)
theorem zf9{prog:Program}{w:World}{A:Around}{E:Value -> Shared -> Prop}{s:Shared}{env:Env}{value slice:Expr}{pos:Pos}{T id:String}{Q:Value -> Shared -> Prop}
  (hl:typeLookup (.type T) "__getitem__" = pure (some (.builtin id))) (hs:NoSl slice)
  (h:wpAny (model prog w) A (eval value env) (fun o s₁=>wpAny (model prog w) A (eval slice env) (fun i s₂=>s₂.TypeIs o T/\wpAny (model prog w) A (getItem o i) Q E s₂) E s₁) E s) :
  wpAny (model prog w) A (eval (.Subscript value slice pos) env) Q E s:=by
 refine Subscript_ (wpAny_mono h (fun o s₁ h₁=>wpAny_mono h₁ (fun i s₂ h₂=>?_) fun _ _ x=>x) fun _ _ x=>x);obtain⟨hT,h₂⟩:=h₂;unfold subscriptTail;refine wpAny_bind ?_
 rw[getitemInPython_of_ne hT.not_modules];refine wpAny_bind (wpAny_specialOf hT hl ?_)
 have fin:wpAny (model prog w) A (subscripted slice false o i) (fun r s₃=>wpAny (model prog w) A (letTemporaryGo value o r >>= fun _=>pure r) Q E s₃) E s₂:=by rw[hs o i];exact wpAny_operating (wpAny_mono h₂ (fun r s₃ h₃=>wpAny_bind (wpAny_letTemporaryGo (wpAny_pure h₃))) fun _ _ x=>x)
 first
  |exact wpAny_pure (wpAny_bind fin)
  |exact wpAny_bind (wpAny_pure (wpAny_bind fin))
  |exact wpAny_bind fin
theorem zgu {X:Cx}{pins:List (Addr×Obj)}{σ:St}{H:Hp}{s:Shared}{a:Addr}{y:V}{o:Option V}(I:Inv X pins σ H s) (g:DGet H a y o):s.TypeIs (.ref a) "dict":=by
 rcases g with⟨kvs,k,e,_,_⟩ |⟨kvs,k,b,e,_,_,_⟩
 .obtain⟨_,_,vs,_,dd⟩:=dk_rd I.hok e;exact dd.typeIs
 .obtain⟨_,_,xs,_,dd⟩:=dt_rd I.hok e;exact dd.typeIs
def tDGet(td ty:TE):TE:=fun σ H Q=>td σ H fun x H1=>ty σ H1 fun y H2=>∃a v,x=.ref a/\DGet H2 a y (some v)/\Q v H2
def tDIn(ty td:TE):TE:=fun σ H Q=>ty σ H fun y H1=>td σ H1 fun x H2=>∃a o,x=.ref a/\DGet H2 a y o/\Q (.bl o.isSome) H2
def zku(ty td:TE):TE:=fun σ H Q=>ty σ H fun y H1=>td σ H1 fun x H2=>∃a o,x=.ref a/\DGet H2 a y o/\Q (.bl (!o.isSome)) H2
def sDPut(td ty tv:TE):TS:=fun D σ H=>tv σ H fun v H1=>td σ H1 fun x H2=>ty σ H2 fun y H3=>∃a H4,x=.ref a/\DPut H3 a y v H4/\D.nx σ H4
section
variable {X:Cx}{o i e value:Expr}{pos pos' tpos:Pos}{td ty tv:TE}
theorem zkI(hu:X.A.units+1<cLine)(ho:PE X o td)(hi:PE X i ty)(hs:NoSl i):PE X (.Subscript o i pos) (tDGet td ty):=by intro pins s σ H Q I h;refine zf9 PySem.F.slot_dict_getitem.lookup hs (thn (ho pins s σ H _ I h) fun u s1 ⟨x,H1,I1,rx,q1⟩=>thn (hi pins s1 σ H1 _ I1 q1) fun iv s2 ⟨y,H2,I2,ry,a,v,ex,g,q2⟩=>?_);subst ex;obtain rfl:u=Value.ref a:=rx;exact⟨zgu I2 g,zi9 hu I2 g ry fun w' s3 I3 rw'=>⟨v,H2,I3,rw',q2⟩⟩
theorem zix(hu:X.A.units+1<cLine)(hi:PE X i ty)(ho:PE X o td):PC X .In i o (tDIn ty td):=by
 intro pins s σ H Q I h;refine thn (hi pins s σ H _ I h) fun iv s1 ⟨y,H1,I1,ry,q1⟩=>thn (ho pins s1 σ H1 _ I1 q1) fun u s2 ⟨x,H2,I2,rx,a,ov,ex,g,q2⟩=>?_
 subst ex;obtain rfl:u=Value.ref a:=rx;exact d_in hu I2 g ry fun s3 I3=>⟨.bl ov.isSome,H2,I3,rfl,q2⟩
theorem zcg(hu:X.A.units+1<cLine)(hi:PE X i ty)(ho:PE X o td):PC X .NotIn i o (zku ty td):=by
 intro pins s σ H Q I h;refine thn (hi pins s σ H _ I h) fun iv s1 ⟨y,H1,I1,ry,q1⟩=>thn (ho pins s1 σ H1 _ I1 q1) fun u s2 ⟨x,H2,I2,rx,a,ov,ex,g,q2⟩=>?_
 subst ex;obtain rfl:u=Value.ref a:=rx;exact zkX hu I2 g ry fun s3 I3=>⟨.bl (!ov.isSome),H2,I3,rfl,q2⟩
theorem zdJ(hu:X.A.units + 1 < cLine)(ho:PE X o td)(hi:PE X i ty)(hv:PE X value tv)(hs:swapsWith value (some (.Subscript o i pos')) pos.line X.env=pure false) :
  PS X (.Assign [.Subscript o i pos'] value pos) (sDPut td ty tv):=by
 intro pins s σ H D I h;refine wpAny_Assign_Subscript (thn (hv pins s σ H _ I h) fun r s1 ⟨v,H1,I1,rv,q1⟩=>thn (ho pins s1 σ H1 _ I1 q1) fun u s2 ⟨x,H2,I2,rx,q2⟩=>thn (hi pins s2 σ H2 _ I2 q2) fun iv s3 ⟨y,H3,I3,ry,a,H4,ex,g,q3⟩=>?_) hs;subst ex;obtain rfl:u=Value.ref a:=rx;exact zi8 hu I3 g ry rv fun s4 I4=>⟨σ,H4,I4,q3⟩
end
theorem zjP {P:Program}{w:World}{H:Hp}(h:Heap) (hb:sysModules<h.objs.size):ObjOk P w H (h.push { cls:=.type "dict",data:=.dict #[] }) h.objs.size (.dK []) :=
 ⟨Nat.zero_le _,beq_eq_false_iff_ne.mpr (Ne.symm (Nat.ne_of_lt hb)),[],.nil,Heap.DictOf.new h⟩
theorem zhk {P:Program}{w:World}{H:Hp}(h:Heap) (hb:sysModules<h.objs.size):ObjOk P w H (h.push { cls:=.type "dict",data:=.dict #[] }) h.objs.size (.dT []) :=
 ⟨Nat.zero_le _,beq_eq_false_iff_ne.mpr (Ne.symm (Nat.ne_of_lt hb)),[],.nil,_,#[],0,Heap.get?_push_size _ rfl,⟨rfl,rfl,rfl⟩,rfl,rfl,List.nodup_nil⟩
def zlf:TE:=fun _ H Q=>∀p,H p=none->Q (.ref p) (upd H p (.dK []))
def zle:TE:=fun _ H Q=>∀p,H p=none->Q (.ref p) (upd H p (.dT []))
section
variable {X:Cx}{pos:Pos}
theorem zjB:PE X (.Dict [] [] pos) zlf:=fun pins s σ H Q I h =>
 wpAny_Dict_empty ⟨.ref s.heap.objs.size,_,I.laid (a:=s.heap.objs.size) (o:=.dK []) (t':=s.toks) (fun _ _ q=>Heap.get?_push_of_some _ q) (Nat.le_refl _) (zjP s.heap I.big),rfl,h _ (I.hok.fresh (Nat.le_refl _))⟩
theorem zc3:PE X (.Dict [] [] pos) zle:=fun pins s σ H Q I h =>
 wpAny_Dict_empty ⟨.ref s.heap.objs.size,_,I.laid (a:=s.heap.objs.size) (o:=.dT []) (t':=s.toks) (fun _ _ q=>Heap.get?_push_of_some _ q) (Nat.le_refl _) (zhk s.heap I.big),rfl,h _ (I.hok.fresh (Nat.le_refl _))⟩
end
structure M1 (X:Cx) (o:Expr) (m:Str) (apos:Pos) (e:Expr) (cpos:Pos):Prop where
 base:attributeBase o m X.env (eval o X.env)=eval o X.env
 few:((backTo cpos (starEach [e] X.env)).all (fun x=>!x.1) && (backToKw cpos (keywordEach [] X.env)).all (fun x=>x.1.isSome)
  && decide (([e]:List Expr).length+([]:List Keyword).length+(if ([]:List Keyword).isEmpty then 0 else 1)<30))=true
 line:(apos.endLine == cpos.line)=true
 trees:backTo cpos (starEach [e] X.env)=[(false,eval e X.env)]
structure M2 (X:Cx) (o:Expr) (m:Str) (apos:Pos) (e f:Expr) (cpos:Pos):Prop where
 base:attributeBase o m X.env (eval o X.env)=eval o X.env
 few:((backTo cpos (starEach [e,f] X.env)).all (fun x=>!x.1) && (backToKw cpos (keywordEach [] X.env)).all (fun x=>x.1.isSome)
  && decide (([e,f]:List Expr).length+([]:List Keyword).length+(if ([]:List Keyword).isEmpty then 0 else 1)<30))=true
 line:(apos.endLine == cpos.line)=true
 trees:backTo cpos (starEach [e,f] X.env)=[(false,eval e X.env),(false,eval f X.env)]
def IsD(H:Hp)(a:Addr):Prop:=(∃kvs,Rd H a (.dK kvs))∨∃kvs,Rd H a (.dT kvs)
theorem zkg{X:Cx}{pins:List (Addr × Obj)}{σ : St}{H:Hp}{s:Shared}{a:Addr}(I:Inv X pins σ H s)(d:IsD H a) :
  s.TypeIs (.ref a) "dict" /\ (∀b,Value.ref a=.ref b->∃ob,s.heap.get? b=some ob/\ob.dict=none)/\(a == sysModules)=false:=by
 rcases d with⟨kvs,e⟩ |⟨kvs,e⟩
 .obtain⟨_,hd,vs,_,dd⟩:=dk_rd I.hok e;refine⟨dd.typeIs,fun b q=>?_,hd⟩
  cases q
  obtain⟨ob,_,_,h1,h2,_⟩:=dd;exact⟨ob,h1,h2.2.1⟩
 .obtain⟨_,hd,xs,_,dd⟩:=dt_rd I.hok e;refine⟨dd.typeIs,fun b q=>?_,hd⟩
  cases q
  obtain⟨ob,_,_,h1,h2,_⟩:=dd;exact⟨ob,h1,h2.2.1⟩
section
variable {X:Cx}{pins:List (Addr×Obj)}{σ:St}{H:Hp}{s:Shared}{a:Addr}{y d:V}{u r:Value}{o:Option V}{A:Around}{E:Value->Shared->Prop}
end
section
variable {X:Cx}{o e f:Expr}{apos cpos:Pos}{td ty tx:TE}
end
section
variable {X:Cx}{pins:List (Addr×Obj)}{σ:St}{H:Hp}{s:Shared}{a:Addr}{kvs:List (Key×V)}{A:Around}{E:Value->Shared->Prop}
end
section
variable {X:Cx}{pins:List (Addr×Obj)}{σ:St}{H:Hp}{s:Shared}{a:Addr}{y:V}{u:Value}{A:Around}{E:Value->Shared->Prop}
end
end L2
namespace HT
open PySem PyProof.Rows
def lexLt:List Int->List Int->Bool
 |[],[]=>false
 |[],_::_=>true
 |_::_,[]=>false
 |x::xs,y::ys=>if x=y then lexLt xs ys else decide (x<y)
theorem lexLt_cons(x y:Int)(xs ys:List Int):lexLt (x::xs) (y::ys)=if x=y then lexLt xs ys else decide (x<y):=rfl
theorem zeW:lexLt [] []=false:=rfl
theorem zd5(y:Int)(ys:List Int):lexLt [] (y::ys)=true:=rfl
theorem zd6(x:Int)(xs:List Int):lexLt (x::xs) []=false:=rfl
theorem zjN(A:Around)(s:Shared)(a:Int)(t:Tok)(c:Int)(u:Tok):∃e,SeqAt.EqAt A s (.int a t) (.int c u) e/\(e=true ↔ a=c) :=
 ⟨(a == c),SeqAt.EqAt.int_int a t c u,by simp⟩
theorem zjv(A:Around)(s:Shared)(a:Int)(t:Tok)(c:Int)(u:Tok)(prog:Program)(w:World)(E:Value -> Shared -> Prop)(Q:Value -> Shared -> Prop)(h:Q (.bool (decide (a < c))) s) :
  wpAny (model prog w) A (richCompare .Lt (.int a t) (.int c u)) Q E s :=
 (PyProof.Rows.lt_int h:wpAny (model prog w) A (compareOp .Lt (.int a t) (.int c u)) Q E s)
section
open PySem.SeqAt
open PySem.AutoSeq1 (wpAny_loadPart')
open PySem.MeetsSeq PySem.MeetsSeq2 PySem.MeetsSeq3
theorem zew(l b:Addr)(items items2:Array Value)(n n2:Nat)(dd dd2:Option Addr)(sl sl2:Array (Option Value))(ns ms:List Int)(hi:IntsAre items.toList ns)(hj:IntsAre items2.toList ms) :
  Meets (Builtin.«tuple.__lt__» ⟨[.ref l,.ref b],[]⟩)
   (fun _ R s=>s.heap.get? l=some { cls:=.type "tuple",dict:=dd,data:=.seq items n,slots:=sl }/\s.heap.get? b=some { cls:=.type "tuple",dict:=dd2,data:=.seq items2 n2,slots:=sl2 } /\
    R (.ok (.ret (.bool (lexLt ns ms)))) s) :=
 .of_wp fun prog w A R s h=>by
  obtain⟨hp,g,d,tk,os⟩:=s;obtain⟨hl,hb,h⟩:=h;have f2:=AutoSeq1.sub_tuple_tuple;have z1:items.size=ns.length:=by rw[<- hi.length];simp
  have z2:items2.size=ms.length:=by rw[<- hj.length];simp
  wp_walk using wpAny_loadPart' hl,wpAny_loadPart' hb,wpAny_forIn_list _ (fun rest b s'=>b.1=none/\s'=⟨hp,g,d,tk,os⟩/\∃(vs ws:List Value) (ns' ms':List Int),rest=vs.zip ws /\
   IntsAre vs ns'/\IntsAre ws ms'/\ns'.length+items2.size=ms'.length+items.size/\R (.ok (.ret (.bool (lexLt ns' ms')))) ⟨hp,g,d,tk,os⟩) _
  case turn =>
   rintro⟨y,x⟩ rest b s' ⟨hb',rfl,vs,ws,ns',ms',hz,hvi,hwi,hlen,hR⟩
   cases hvi with
   |nil=>rw[List.zip_nil_left]at hz;cases hz
   |cons a t hvi' =>
    cases hwi with
    |nil=>rw[List.zip_nil_right]at hz;cases hz
    |cons c u hwi' =>
     rw[List.zip_cons_cons]at hz;injection hz with hyx hrest;injection hyx with hy hx;subst hy hx;rw[lexLt_cons]at hR;simp only[List.length_cons]at hlen;obtain⟨e,he,hiff⟩:=zjN A.in1 ⟨hp,g,d,tk,os⟩ a t c u;refine wpAny_bind (he prog w _ _ ?_)
     cases e with
     |true =>
      rw[if_pos (hiff.mp rfl)]at hR
      wp_walk
      exact⟨rfl,rfl,_,_,_,_,hrest,hvi',hwi',by lia,hR⟩
     |false =>
      rw[if_neg (fun q=>absurd (hiff.mpr q) Bool.false_ne_true)]at hR;have hri:=zjv A.in1 ⟨hp,g,d,tk,os⟩ a t c u prog w
      wp_walk using hri
      exact⟨_,rfl,by simpa using hR⟩
  case fin =>
   rintro⟨b1,b2⟩ s' ⟨hb',rfl,vs,ws,ns',ms',hz,hvi,hwi,hlen,hR⟩;simp only at hb';subst hb'
   have hv:lexLt ns' ms'=decide (items.size<items2.size):=by
    cases hvi with
    |nil =>
     cases hwi with
     |nil =>
      simp only[List.length_nil]at hlen;rw[zeW];exact (decide_eq_false (by lia)).symm
     |cons c u hw =>
      simp only[List.length_nil,List.length_cons]at hlen;rw[zd5];exact (decide_eq_true (by lia)).symm
    |cons a t hv =>
     cases hwi with
     |nil =>
      simp only[List.length_nil,List.length_cons]at hlen;rw[zd6];exact (decide_eq_false (by lia)).symm
     |cons c u hw =>
      rw[List.zip_cons_cons]at hz
      cases hz
   rw[hv]at hR
   wp_walk
   exact⟨_,rfl,by simpa[Builtin.Tuple.tupleCompareSizes]using hR⟩
  case h =>
   exact⟨rfl,rfl,items.toList,items2.toList,ns,ms,rfl,hi,hj,by lia,h⟩
end
section
variable {prog:Program}{w:World}{A:Around}{E:Value->Shared->Prop}{s:Shared}
theorem lt_tupInts{l b:Addr}{items items2:Array Value}{ns ms:List Int}{Q:Value -> Shared -> Prop}(hl:IsTup s.heap l items)(hb:IsTup s.heap b items2)(hi:IntsAre items.toList ns)(hj:IntsAre items2.toList ms)
  (hu:A.units<cLine) (h:Q (.bool (lexLt ns ms)) s):wpAny (model prog w) A (compareOp .Lt (.ref l) (.ref b)) Q E s:=by
 obtain⟨⟨cls,dd,data,sl⟩,ho,hc,n,hd⟩:=id hl;obtain⟨⟨cls2,dd2,data2,sl2⟩,ho2,hc2,n2,hd2⟩:=id hb;simp only at hc hd hc2 hd2;subst hc hd hc2 hd2
 exact richCompare_meets_room (op:=.Lt) ⟨_,ho,rfl⟩ ⟨_,ho2,rfl⟩ PySem.F.slot_tuple_lt PySem.F.entry_tuple_lt (PySem.F.args_tuple_lt_2 _ _) (zew l b items items2 n n2 dd dd2 sl sl2 ns ms hi hj)
  ⟨ho,ho2,show Value.bool (lexLt ns ms)≠Value.notImplemented/\Q (.bool (lexLt ns ms)) s from ⟨(fun x=>nomatch x),h⟩⟩ hu
theorem cat_tup{t b:Addr}{vs ws:List Value}{Q:Value -> Shared -> Prop}(ht:IsTup s.heap t vs.toArray)(hb:IsTup s.heap b ws.toArray)(hv:vs ≠ [])
  (h1:ws=[]->Q (.ref t) s) (h2:ws≠[]->Q (.ref s.heap.objs.size) { s with heap:=s.heap.push { cls:=.type "tuple",data:=.seq (vs++ws).toArray } })
  (hsz:vs.length+ws.length<=sizeLine):wpAny (model prog w) A (binaryOp .Add (.ref t) (.ref b)) Q E s:=by
 obtain⟨⟨cls,dd,data,sl⟩,ho,hc,n,hd⟩:=id ht;obtain⟨⟨cls2,dd2,data2,sl2⟩,ho2,hc2,n2,hd2⟩:=id hb;simp only at hc hd hc2 hd2;subst hc hd hc2 hd2;have e:vs.toArray++ws.toArray=(vs++ws).toArray:=by simp
 by_cases hw:ws=[]
 .exact concat_meets ⟨_, ho, rfl⟩ ⟨_, ho2, rfl⟩ noFill_tuple_add seq_tuple_add PySem.F.slot_tuple_add PySem.F.entry_tuple_add (PySem.F.args_tuple_add_2 _ _)
   (tuple_addW1 t b vs.toArray ws.toArray n n2 dd dd2 sl sl2 (by simpa using hv) (by simp[hw])) ⟨ho,ho2,h1 hw⟩
 .refine concat_meets ⟨_, ho, rfl⟩ ⟨_, ho2, rfl⟩ noFill_tuple_add seq_tuple_add PySem.F.slot_tuple_add PySem.F.entry_tuple_add (PySem.F.args_tuple_add_2 _ _)
   (tuple_addW2 t b vs.toArray ws.toArray n n2 dd dd2 sl sl2 (by simpa using hv) (by simpa using hw) (by rw[List.size_toArray,List.size_toArray];exact hsz)) ⟨ho,ho2,?_⟩
  rw[e];exact h2 hw
def sIx(n d:Nat):Option Int->Nat
 |none=>d
 |some v=>if v<0 then (v+(n:Int)).toNat else min v.toNat n
theorem zlk(n d:Nat)(hd:d<=n)(o:Option Int):sIx n d o<=n:=by
 cases o with
 |none=>exact hd
 |some v =>
  show (if v<0 then (v+(n:Int)).toNat else min v.toNat n)<=n
  by_cases hv:v<0
  .rw[if_pos hv];lia
  .rw[if_neg hv];exact Nat.min_le_right _ _
theorem zjc(v:Int)(n d:Nat):(if v<0 then max (v+(n:Int)) 0 else min v (n:Int))=((sIx n d (some v):Nat):Int):=by
 show (if v<0 then max (v+(n:Int)) 0 else min v (n:Int))=(((if v<0 then (v+(n:Int)).toNat else min v.toNat n):Nat):Int)
 by_cases hv:v<0
 .simp only[if_pos hv];lia
 .simp only[if_neg hv];lia
theorem zhN(lo hi:Option Int)(n:Nat):Builtin.Slice.sliceAdjust lo hi 1 (n:Int)=(((sIx n 0 lo:Nat):Int),((sIx n n hi:Nat):Int)):=by
 have h1:¬ ((1:Int)<0):=by lia
 unfold Builtin.Slice.sliceAdjust;simp only[h1,if_false];refine Prod.ext ?_ ?_
 .cases lo with
  |none=>rfl
  |some v=>exact zjc v n 0
 .cases hi with
  |none=>rfl
  |some v=>exact zjc v n n
theorem zhz(i j:Nat):Builtin.Slice.slicePlaces (i:Int) (j:Int) 1=j-i:=by
 unfold Builtin.Slice.slicePlaces;have h1:(1:Int) > 0:=by lia
 simp only[h1,if_true,Int.ediv_one];split <;> lia
theorem zej{v:Value}{o:Option Int}{Q:Option Int->Shared->Prop}(p:IsPart v o)(h:Q o s):wpAny (model prog w) A (Builtin.Slice.slicePartIndex v) Q E s:=by
 cases p with
 |none=>exact slicePart_none h
 |int i t=>exact slicePart_int h
theorem zco{sl:Addr}{vl vu:Value}{lo hi:Option Int}{n:Nat}{Q:Int × Int × Nat -> Shared -> Prop}(hs:s.heap.IsSliceOf sl vl vu .none)(pl:IsPart vl lo)(pu:IsPart vu hi)
  (h:Q (((sIx n 0 lo:Nat):Int),1,sIx n n hi-sIx n 0 lo) s):wpAny (model prog w) A (Builtin.Slice.sliceApplied (.ref sl) (pure (n:Int))) Q E s:=by
 obtain⟨os,hos,hcs,hds⟩:=id hs;unfold Builtin.Slice.sliceApplied Builtin.Slice.sliceFields;refine wpAny_bind (wpAny_bind (wpAny_field hos hds (x:=vl) rfl (wpAny_bind (wpAny_field hos hds (x:=vu) rfl (wpAny_bind (wpAny_field hos hds (x:=.none) rfl (wpAny_pure ?_)))))));refine wpAny_bind (slicePart_none ?_);show wpAny _ _ (if ((1:Int) == 0)=true then _ else _) _ _ s;rw[if_neg (by decide)];refine wpAny_bind (zej pl (wpAny_bind (zej pu (wpAny_bind (wpAny_pure ?_)))));show wpAny _ _ (match Builtin.Slice.sliceAdjust lo hi 1 (n:Int) with | (lo,hi)=>pure (lo,(1:Int),Builtin.Slice.slicePlaces lo hi 1)) _ _ s;rw[zhN lo hi n];show wpAny _ _ (pure (((sIx n 0 lo:Nat):Int),(1:Int),Builtin.Slice.slicePlaces ((sIx n 0 lo:Nat):Int) ((sIx n n hi:Nat):Int) 1)) _ _ s;rw[zhz];exact wpAny_pure h
theorem zjy(xs:Array Value)(i k:Nat):((List.range k).filterMap fun (m:Nat)=>xs[((i:Int)+(m:Int)*1).toNat]?).toArray=((xs.toList.drop i).take k).toArray:=by
 have e:(fun (m:Nat)=>xs[((i:Int)+(m:Int)*1).toNat]?)=fun m=>xs[i+m]?:=by
  funext m
  have:((i:Int)+(m:Int)*1).toNat=i+m:=by lia
  rw[this]
 rw[e];have:=pick_run xs i k;rw[List.filterMap_map]at this;have e2:((fun x=>xs[x]?) ∘ fun x=>i+x)=fun m=>xs[i+m]?:=rfl
 rw[e2]at this;rw[this]
theorem getItem_tuple_cut{t sl:Addr}{items:Array Value}{vl vu:Value}{lo hi:Option Int}{Q:Value -> Shared -> Prop}(ht:IsTup s.heap t items)(hs:s.heap.IsSliceOf sl vl vu .none)(pl:IsPart vl lo)(pu:IsPart vu hi)
  (hw:¬ (sIx items.size 0 lo=0/\sIx items.size items.size hi=items.size))
  (h:Q (.ref s.heap.objs.size) { s with heap:=s.heap.push { cls:=.type "tuple",data:=.seq ((items.toList.drop (sIx items.size 0 lo)).take (sIx items.size items.size hi-sIx items.size 0 lo)).toArray } })
  (hsz:items.size<=sizeLine):wpAny (model prog w) A (getItem (.ref t) (.ref sl)) Q E s:=by
 have htake:sizeOk (.seq ((items.toList.drop (sIx items.size 0 lo)).take (sIx items.size items.size hi-sIx items.size 0 lo)).toArray):=by show ((items.toList.drop (sIx items.size 0 lo)).take (sIx items.size items.size hi-sIx items.size 0 lo)).toArray.size<=sizeLine;rw[List.size_toArray,List.length_take,List.length_drop,Array.length_toList];lia
 have hj:sIx items.size items.size hi<=items.size:=zlk _ _ (Nat.le_refl _) hi;obtain⟨os,hos,hcs,hds⟩:=id hs;have hTs:s.TypeIs (.ref sl) "slice":=⟨os,hos,hcs⟩;unfold getItem
 try with_reducible refine wpAny_holding ?_
 first |refine wpAny_bind (wpAny_pure ?_) |skip
 refine wpAny_bind (wpAny_sequenceKey ht.typeIs (by decide) ?_)
 refine wpAny_bind (wpAny_callSpecial?_slot (name:=Str.ofString "__getitem__") ht.typeIs PyProof.Rows.slot_tuple_getitem
  (wpAny_call_entry PyProof.Rows.slot_tuple_getitem ht.typeIs entry_tuple_getitem ?_ (args_tuple_getitem _ _)))
 show wpAny _ _ (Builtin.Tuple.tupleItemsOf (.ref t) >>= _) _ _ s;refine wpAny_bind (tupleItemsOf_ ht ?_);refine wpAny_bind (wpAny_typeOf hTs ?_);rw[if_pos (by decide)];refine wpAny_bind (zco hs pl pu ?_)
 have hno:¬ ((((sIx items.size 0 lo:Nat):Int) == 0 && (1:Int) == 1 && (sIx items.size items.size hi-sIx items.size 0 lo) == items.size)=true):=by intro q;rw[Bool.and_eq_true,Bool.and_eq_true]at q;have q1:((sIx items.size 0 lo:Nat):Int)=0:=eq_of_beq q.1.1;have q2:sIx items.size items.size hi-sIx items.size 0 lo=items.size:=eq_of_beq q.2;exact hw ⟨by lia,by lia⟩
 show wpAny _ _ (if (((sIx items.size 0 lo:Nat):Int) == 0 && (1:Int) == 1 && (sIx items.size items.size hi-sIx items.size 0 lo) == items.size)=true then _ else _) _ _ s;rw[if_neg hno,zjy]
 first
  |exact wpAny_bind (m:=Builtin.Tuple.tupleExact _) (wpAny_newObj_type (wpAny_pure ⟨_,rfl,wpAny_pure h⟩) htake)
  |exact wpAny_bind (m:=Builtin.Tuple.tupleExact _) (wpAny_newObj_type (wpAny_bind (wpAny_pure (wpAny_pure ⟨_,rfl,wpAny_pure h⟩))) htake)
  |exact wpAny_bind (wpAny_bind (m:=Builtin.Tuple.tupleExact _) (wpAny_newObj_type (wpAny_pure (wpAny_pure ⟨_,rfl,wpAny_pure h⟩)) htake))
  |exact wpAny_bind (wpAny_bind (m:=Builtin.Tuple.tupleExact _) (wpAny_newObj_type (wpAny_pure ⟨_,rfl,wpAny_pure h⟩) htake))
end
end HT
namespace L2
open PySem PySem.Spec PyProof.Rows
abbrev TO:=St->Hp->(Option Int->Hp->Prop)->Prop
def PO(X:Cx)(e:Option Expr)(t:TO):Prop :=
 ∀(pins:List (Addr×Obj)) (s:Shared) (σ:St) (H:Hp) (Q:Option Int->Hp->Prop),Inv X pins σ H s->t σ H Q ->
  wpAny (model X.prog X.w) X.A (evalPart e X.env) (fun u s'=>∃o H',Inv X pins σ H' s'/\IsPart u o/\Q o H') X.xe s
def zkt:TO:=fun _ H Q=>Q none H
def tPart(t:TE):TO:=fun σ H Q=>t σ H fun x H1=>∃i,x=.int i/\Q (some i) H1
theorem zcD{ns:List Int}:∀{us:List Value},Vals (ns.map V.int) us->IntsAre us ns:=by
 induction ns with
 |nil=>intro us r;rw[List.map_nil]at r;cases r;exact .nil
 |cons n ns ih =>
  intro us r;rw[List.map_cons]at r
  cases r with
  |cons r1 r2 =>
   obtain⟨t,e⟩:=r1;subst e;exact .cons n t (ih r2)
section
variable {X:Cx}{e:Expr}{te:TE}{lo hi:Option Expr}{tl th:TO}{pos p2:Pos}
theorem zeJ:PO X none zkt:=by intro pins s σ H Q I h;rw[evalPart_none];exact wpAny_pure ⟨none,H,I,.none,h⟩
theorem zeI(h:PE X e te):PO X (some e) (tPart te):=by
 intro pins s σ H Q I hw;rw[evalPart_some];refine thn (h pins s σ H _ I hw) fun u s1 ⟨x,H1,I1,r1,q1⟩=>?_
 obtain⟨i,rfl,q⟩:=q1;obtain⟨t,rfl⟩:=r1;exact⟨some i,H1,I1,.int i t,q⟩
def SlR(X:Cx)(r:V->Option Int->Option Int->Hp->VK->Prop):Prop :=
 ∀(pins:List (Addr×Obj)) (s:Shared) (σ:St) (H:Hp) (x:V) (v vl vu:Value) (lo hi:Option Int) (sl:Addr) (Q:VK),Inv X pins σ H s->RelV x v->s.heap.IsSliceOf sl vl vu .none->IsPart vl lo->IsPart vu hi->r x lo hi H Q ->
  ∃T id,typeLookup (.type T) "__getitem__" = pure (some (.builtin id))/\s.TypeIs v T/\wpAny (model X.prog X.w) X.A (getItem v (.ref sl)) (EP X pins σ Q) X.xe s
def tSl(r:V->Option Int->Option Int->Hp->VK->Prop)(te:TE)(tl th:TO):TE:=fun σ H Q=>te σ H fun x H1=>tl σ H1 fun l H2=>th σ H2 fun u H3=>r x l u H3 Q
theorem zdv{r:V->Option Int->Option Int->Hp->VK->Prop}(hr:SlR X r)(he:PE X e te)(hl:PO X lo tl)(hu:PO X hi th):PE X (.Subscript e (.Slice lo hi none p2) pos) (tSl r te tl th):=by
 intro pins s σ H Q I h;refine Subscript_ (thn (he pins s σ H _ I h) fun v s1 ⟨x,H1,I1,r1,q1⟩=>?_);refine wpAny_Slice (thn (hl pins s1 σ H1 _ I1 q1) fun vl s2 ⟨l,H2,I2,pl,q2⟩=>thn (hu pins s2 σ H2 _ I2 q2) fun vu s3 ⟨u,H3,I3,pu,q3⟩=>?_);rw[evalPart_none];refine wpAny_pure ?_
 have I4:Inv X pins σ H3 { s3 with heap:=s3.heap.push { cls:=.type "slice",data:=.fields #[vl,vu,.none] } }:=I3.kept (t':=s3.toks) fun b ob q=>Heap.get?_push_of_some _ q
 obtain⟨T,id,hT,ht,hg⟩:=hr pins { s3 with heap:=s3.heap.push { cls:=.type "slice",data:=.fields #[vl,vu,.none] } } σ H3 x v vl vu l u s3.heap.objs.size Q I4 r1 (Heap.IsSliceOf.new ..) pl pu q3;show wpAny (model X.prog X.w) X.A (subscriptTail e (.Slice lo hi none p2) v (.ref s3.heap.objs.size)) (EP X pins σ Q) X.xe { s3 with heap:=s3.heap.push { cls:=.type "slice",data:=.fields #[vl,vu,.none] } };exact tail_any (ops:=[.ref s3.heap.objs.size,v]) ht hT hg (by with_unfolding_all rfl)
def cutV(xs:List V)(lo hi:Option Int):List V:=(xs.drop (HT.sIx xs.length 0 lo)).take (HT.sIx xs.length xs.length hi-HT.sIx xs.length 0 lo)
theorem zdX(xs:List V)(lo hi:Option Int):(cutV xs lo hi).length<=xs.length:=by unfold cutV;rw[List.length_take,List.length_drop];lia
def rSlT(K:W.Frag):V->Option Int->Option Int->Hp->VK->Prop:=fun x lo hi H Q=>∃a xs,x=.ref a/\SqT K H a xs /\
 ¬ (HT.sIx xs.length 0 lo=0/\HT.sIx xs.length xs.length hi=xs.length)/\∀p,H p=none->Q (.ref p) (upd H p (.tup (cutV xs lo hi)))
theorem zli:SlR X (rSlT X.K):=by
 intro pins s σ H x v vl vu lo hi sl Q I rx hs pl pu h;obtain⟨a,xs,rfl,hx,hw,q⟩:=h
 cases rx
 obtain⟨its,r,ht,hz⟩:=I.tuple hx;have hlen:its.toArray.size=xs.length:=by rw[List.size_toArray];exact r.length.symm
 refine⟨"tuple",_,PyProof.Rows.slot_tuple_getitem.lookup,ht.typeIs,?_⟩;refine HT.getItem_tuple_cut ht hs pl pu (by rw[hlen];exact hw) ?_ (by rw[hlen];exact hz)
 rw[hlen];refine⟨.ref s.heap.objs.size,_,I.laid (t':=s.toks) (o:=.tup (cutV xs lo hi)) (fun b ob q=>Heap.get?_push_of_some _ q) (Nat.le_refl _) ?_,rfl,q _ (I.hok.fresh (Nat.le_refl _))⟩;exact⟨Nat.le_trans (zdX xs lo hi) hz,_,(r.drop (HT.sIx xs.length 0 lo)).take (HT.sIx xs.length xs.length hi-HT.sIx xs.length 0 lo),IsTup.new _ _⟩
def rCatT(K:W.Frag):R2:=fun x y H Q=>∃a b xs ys,x=.ref a/\y=.ref b/\SqT K H a xs/\SqT K H b ys/\xs≠[]/\xs.length+ys.length<=sizeLine /\
 (ys=[]->Q (.ref a) H)/\(ys≠[]->∀p,H p=none->Q (.ref p) (upd H p (.tup (xs++ys))))
theorem Vals.nil_iff{xs:List V}{us:List Value}(r:Vals xs us):us=[] ↔ xs=[]:=by
 cases r with
 |nil=>simp
 |cons _ _=>simp
theorem ziA:OpR X (binaryOp .Add) (rCatT X.K):=by
 intro pins s σ H x y v u Q I rx ry h;obtain⟨a,b,xs,ys,rfl,rfl,ha,hb,hx,hz,q1,q2⟩:=h
 cases rx
 cases ry
 obtain⟨its,r1,p1,_⟩:=I.tuple ha;obtain⟨its2,r2,p2,_⟩:=I.tuple hb;refine HT.cat_tup p1 p2 (fun z=>hx (r1.nil_iff.mp z)) (fun z=>⟨.ref a,H,I,rfl,q1 (r2.nil_iff.mp z)⟩) (fun z=>?_) (by rw[<- r1.length,<- r2.length];exact hz);refine⟨.ref s.heap.objs.size,_,I.laid (t':=s.toks) (o:=.tup (xs++ys)) (fun b ob q=>Heap.get?_push_of_some _ q) (Nat.le_refl _) ?_,rfl,q2 (fun w=>z (r2.nil_iff.mpr w)) _ (I.hok.fresh (Nat.le_refl _))⟩;exact⟨by rw[List.length_append];exact hz,_,r1.append r2,IsTup.new _ _⟩
end
def ixN(n:Nat)(i:Int):Option Nat:=if 0<=i then (if i<n then some i.toNat else none) else if -(n:Int)<=i then some (i+n).toNat else none
def atI{α:Type}(xs:List α)(i:Int):Option α:=(ixN xs.length i).bind fun j=>xs[j]?
theorem zkS{n:Nat}{i:Int}{j:Nat}(h:ixN n i=some j):seqIndex? i n=some j/\j<n/\-(n:Int)<=i/\i<n:=by
 unfold ixN at h
 by_cases h0:0<=i
 .rw[if_pos h0]at h
  by_cases h1:i<n
  .rw[if_pos h1]at h;have e:i.toNat=j:=Option.some.inj h;exact⟨by rw[seqIndex_of h0 h1,e],by lia,by lia,h1⟩
  .rw[if_neg h1]at h;cases h
 .rw[if_neg h0]at h
  by_cases h1:-(n:Int)<=i
  .rw[if_pos h1]at h;have e:(i+n).toNat=j:=Option.some.inj h;exact⟨by rw[seqIndex_neg (by lia) h1,e],by lia,h1,by lia⟩
  .rw[if_neg h1]at h;cases h
theorem zji{α:Type}{xs:List α}{i:Int}{v:α}(h:atI xs i=some v):∃j,seqIndex? i xs.length=some j/\xs[j]?=some v/\j<xs.length/\-(xs.length:Int)<=i/\i<xs.length:=by
 unfold atI at h
 cases e:ixN xs.length i with
 |none=>rw[e]at h;cases h
 |some j =>
  rw[e]at h;obtain⟨h1,h2,h3,h4⟩:=zkS e;exact⟨j,h1,h,h2,h3,h4⟩
theorem zaM{α:Type}{xs:List α}{j:Nat}{v:α}(h:xs[j]?=some v):atI xs (j:Int)=some v:=by
 have hj:j<xs.length:=(List.getElem?_eq_some_iff.mp h).1
 have e:ixN xs.length (j:Int)=some j:=by unfold ixN;rw[if_pos (by lia),if_pos (by lia)];simp
 unfold atI;rw[e];exact h
def zk4(b:Expr):Prop:=∀o i,subscripted b false o i=operate [o,i] (getItem o i)
def IxR(X:Cx)(r:R2):Prop :=
 ∀(value slice:Expr) (pins:List (Addr×Obj)) (s:Shared) (σ:St) (H:Hp) (x y:V) (v u:Value) (Q:VK),Inv X pins σ H s->RelV x v->RelV y u->r x y H Q ->
  subscripted slice false v u=operate [v,u] (getItem v u)->wpAny (model X.prog X.w) X.A (subscriptTail value slice v u) (EP X pins σ Q) X.xe s
def MtR(X:Cx)(id:String)(r:V->List V->Hp->VK->Prop):Prop :=
 ∀(pins:List (Addr×Obj)) (s:Shared) (σ:St) (H:Hp) (x:V) (xs:List V) (v:Value) (us:List Value) (Q:VK),Inv X pins σ H s->RelV x v->Vals xs us->r x xs H Q ->
  wpAny (model X.prog X.w) X.A (call (.builtin id) (v::us)) (EP X pins σ Q) X.xe s
section
variable {X:Cx}{a b:Expr}{ta tb:TE}{pos:Pos}
theorem pe_ix{r:R2}(hr:IxR X r)(ha:PE X a ta)(hb:PE X b tb)(hs:zk4 b):PE X (.Subscript a b pos) (tOp r ta tb):=by intro pins s σ H Q I h;exact Subscript_ (binT ha hb I h fun v u s2 x y H2 I2 rx ry q=>hr a b pins s2 σ H2 x y v u Q I2 rx ry q (hs _ _))
def rIxL(K:W.Frag):R2:=fun x y H Q=>∃p xs i v,x=.ref p/\y=.int i/\SqL K H p xs/\atI xs i=some v/\Q v H
def rIxT(K:W.Frag):R2:=fun x y H Q=>∃p xs i v,x=.ref p/\y=.int i/\SqT K H p xs/\atI xs i=some v/\Q v H
theorem zbX:IxR X (rIxL X.K):=by
 intro value slice pins s σ H x y v u Q I rx ry h hs;obtain⟨p,xs,i,z,rfl,rfl,hq,he,q⟩:=h
 cases rx
 obtain⟨t,rfl⟩:=ry;obtain⟨its,r,pl,hz⟩:=I.list hq;obtain⟨j,h1,h2,h3,h4,h5⟩:=zji he;obtain⟨w,ew,rw'⟩:=r.get h2;have hl:=r.length;have hn:=zg9;have fin:EP X pins σ Q w s:=⟨z,H,I,rw',q⟩
 by_cases h0:0<=i
 .have hj:i.toNat=j := by rw[seqIndex_of h0 h5]at h1;exact Option.some.inj h1
  exact item_listR pl.isList h0 (by lia) (by rw[hj];simpa using ew) fin hs
 .have hj:(i + (its.toArray.size:Int)).toNat=j := by rw[seqIndex_neg (by lia) h4]at h1;rw[List.size_toArray,<- hl];exact Option.some.inj h1
  exact subscriptTail_builtinR (x:=w) pl.isList.typeIs slot_list_getitem.lookup
   (wpAny_getItem_list_neg (Q:=fun r s'=>r=w/\EP X pins σ Q r s') pl.isList (by lia) (by rw[List.size_toArray] <;> lia) (by lia) (by rw[hj];simpa using ew) ⟨rfl,fin⟩) hs
theorem zc7:IxR X (rIxT X.K):=by
 intro value slice pins s σ H x y v u Q I rx ry h hs;obtain⟨p,xs,i,z,rfl,rfl,hq,he,q⟩:=h
 cases rx
 obtain⟨t,rfl⟩:=ry;obtain⟨its,r,pl,hz⟩:=I.tuple hq;obtain⟨j,h1,h2,h3,h4,h5⟩:=zji he;obtain⟨w,ew,rw'⟩:=r.get h2;have hl:=r.length;have hn:=zg9;have fin:EP X pins σ Q w s:=⟨z,H,I,rw',q⟩
 exact subscriptTail_builtinR (x:=w) pl.typeIs slot_tuple_getitem.lookup
  (getItem_tuple (j:=j) (Q:=fun r s'=>r=w/\EP X pins σ Q r s') pl (by lia) (by lia) (by rw[List.size_toArray,<- hl];exact h1) (by simpa using ew) ⟨rfl,fin⟩) hs
theorem zfn(lo hi:Option Int)(n:Nat):(sliceBounds lo hi none n).1=((HT.sIx n 0 lo:Nat):Int)/\(sliceBounds lo hi none n).2.1=((HT.sIx n n hi:Nat):Int)/\(sliceBounds lo hi none n).2.2=1:=by
 refine⟨?_,?_,rfl⟩
 .cases lo with
  |none=>simp[sliceBounds,HT.sIx]
  |some i =>
   simp only[sliceBounds,HT.sIx,Option.getD_none,show (1:Int) > 0 by decide,if_true]
   by_cases h:i<0
   .simp only[h,if_true] <;> lia
   .simp only[h,if_false] <;> lia
 .cases hi with
  |none=>simp[sliceBounds,HT.sIx]
  |some i =>
   simp only[sliceBounds,HT.sIx,Option.getD_none,show (1:Int) > 0 by decide,if_true]
   by_cases h:i<0
   .simp only[h,if_true] <;> lia
   .simp only[h,if_false] <;> lia
theorem zeC(its:List Value)(lo hi:Option Int):slicePick its.toArray lo hi none=((its.drop (HT.sIx its.length 0 lo)).take (HT.sIx its.length its.length hi-HT.sIx its.length 0 lo)).toArray:=by obtain⟨h1,h2,h3⟩:=zfn lo hi its.toArray.size;unfold slicePick;rw[h1,h2,h3];simp only[sliceRange_one,pick_run,List.size_toArray] <;> rfl
def rSlL(K:W.Frag):V->Option Int->Option Int->Hp->VK->Prop:=fun x lo hi H Q=>∃a xs,x=.ref a/\SqL K H a xs/\∀p,H p=none->Q (.ref p) (upd H p (.lst (cutV xs lo hi)))
theorem zga:SlR X (rSlL X.K):=by
 intro pins s σ H x v vl vu lo hi sl Q I rx hs pl pu h;obtain⟨a,xs,rfl,hx,q⟩:=h
 cases rx
 obtain⟨its,r,ht,hz⟩:=I.list hx;have hlen:=r.length;refine⟨"list",_,slot_list_getitem.lookup,ht.isList.typeIs,?_⟩;refine wpAny_getItem_list_slice ht.isList hs pl pu .none (by simp) ?_ (by rw[List.size_toArray] <;> lia)
 rw[zeC,<- hlen];refine⟨.ref s.heap.objs.size,_,I.laid (t':=s.toks) (o:=.lst (cutV xs lo hi)) (fun b ob q=>Heap.get?_push_of_some _ q) (Nat.le_refl _) ?_,rfl,q _ (I.hok.fresh (Nat.le_refl _))⟩;exact⟨Nat.le_trans (zdX xs lo hi) hz,_,0,(r.drop (HT.sIx xs.length 0 lo)).take (HT.sIx xs.length xs.length hi-HT.sIx xs.length 0 lo),Heap.get?_push_size _ rfl⟩
theorem zbG:CallR X (.builtin "len") (fun xs H Q=>∃p ys,xs=[.ref p]/\(SqL X.K H p ys∨SqT X.K H p ys)/\Q (.int ys.length) H):=by
 intro pins s σ H xs us Q I r h;obtain⟨p,ys,rfl,hq,q⟩:=h;obtain⟨u,rfl,rx⟩:=vals1 r
 cases rx
 have hn:=zg9;rcases hq with hq |hq
 .obtain⟨its,r',pl,hz⟩:=I.list hq;have hlen:=r'.length;exact Calls.call_len_list pl.isList (by simp only[List.size_toArray] <;> lia) ⟨.int ys.length,H,I.tok _,⟨s.toks+1,by rw[List.size_toArray,hlen]⟩,q⟩
 .obtain⟨its,r',pl,hz⟩:=I.tuple hq;have hlen:=r'.length;exact len_tuple pl (by simp only[List.size_toArray] <;> lia) ⟨.int ys.length,H,I.tok _,⟨s.toks+1,by rw[List.size_toArray,hlen]⟩,q⟩
theorem ze4:CallR X (.type "tuple") (fun xs H Q=>∃p ys,xs=[.ref p]/\((SqL X.K H p ys/\∀l,H l=none->Q (.ref l) (upd H l (.tup ys)))∨(SqT X.K H p ys/\Q (.ref p) H))):=by
 intro pins s σ H xs us Q I r h;obtain⟨p,ys,rfl,h⟩:=h;obtain⟨u,rfl,rx⟩:=vals1 r
 cases rx
 rcases h with⟨hq,q⟩ |⟨hq,q⟩
 .obtain⟨its,r',pl,hz⟩:=I.list hq;have hlen:=r'.length;refine call_tuple_list pl.isList (fun h' kp=>?_) (by simp only[List.size_toArray] <;> lia);have I1:Inv X pins σ H { s with heap:=h' }:=I.kept (t':=s.toks) kp
  have I2:Inv X pins σ (upd H h'.objs.size (.tup ys)) { s with heap:=h'.push { cls:=.type "tuple",data:=.seq its.toArray } } :=
   I1.laid (t':=s.toks) (fun b o e=>Heap.get?_push_of_some _ e) (Nat.le_refl _) (show ObjOk X.prog X.w _ _ _ (.tup ys) from ⟨hz,its,r',IsTup.new _ _⟩)
  exact⟨.ref h'.objs.size,_,I2,rfl,q _ (I1.hok.fresh (Nat.le_refl _))⟩
 .obtain⟨its,r',pl,hz⟩:=I.tuple hq;exact call_tuple_same pl ⟨.ref p,H,I,rfl,q⟩
def tyV(K:W.Frag)(T:String)(x:V)(H:Hp):Prop:=match x with
  |.str _=>T = "str"
  |.int _=>T = "int"
  |.ref p => (T = "list" /\ ∃xs, SqL K H p xs) ∨ (T = "tuple" /\ ∃o, K.lookup p=some o /\ o.cls = .type "tuple" /\ o.dict=none) ∨
      (T = "dict" /\ ((∃kvs,H p=some (.dK kvs))∨∃kvs,H p=some (.dT kvs)))∨(T = "set" /\ ∃S n,H p=some (.set S n))
  |_=>False
theorem zjW{pins:List (Addr × Obj)}{σ : St}{H:Hp}{s:Shared}{T:String}{x:V}{v:Value}(I:Inv X pins σ H s)(r:RelV x v)(ty:tyV X.K T x H) :
  s.TypeIs v T/\∀a,v=.ref a->∃ob,s.heap.get? a=some ob/\ob.dict=none:=by
 cases x with
 |str z =>
  obtain⟨t,rfl⟩:=r
  cases (show T = "str" from ty)
  exact⟨typeIs_str s z t,fun _ e=>nomatch e⟩
 |int i =>
  obtain⟨t,rfl⟩:=r
  cases (show T = "int" from ty)
  exact⟨typeIs_int s i t,fun _ e=>nomatch e⟩
 |ref p =>
  cases r
  rcases ty with⟨rfl,xs,hq⟩ |⟨rfl,o,hk,hc,hd⟩ |⟨rfl,hk⟩ |⟨rfl,S,n,hk⟩
  .obtain⟨its,_,pl,_⟩:=I.list hq;refine⟨pl.isList.typeIs,fun a e=>?_⟩
   cases e
   obtain⟨o,n,e,c,hd,_⟩:=pl;exact⟨o,e,hd⟩
  .refine⟨⟨o,I.kIn p o hk,hc⟩,fun a e=>?_⟩
   cases e
   exact⟨o,I.kIn _ o hk,hd⟩
  .have z:∃o, s.heap.get? p=some o /\ o.ExactDict := by
    rcases hk with⟨kvs,hk⟩ |⟨kvs,hk⟩
    .obtain⟨_,_,_,_,o,_,_,e,ex,_⟩:=I.hok p _ hk;exact⟨o,e,ex⟩
    .obtain⟨_,_,_,_,o,_,_,e,ex,_⟩:=I.hok p _ hk;exact⟨o,e,ex⟩
   obtain⟨o,e,ex⟩:=z;refine⟨⟨o,e,ex.1⟩,fun a e2=>?_⟩
   cases e2
   exact⟨o,e,ex.2.1⟩
  .obtain⟨o,_,_,_,e,ex,_⟩:=I.hok p _ hk;refine⟨⟨o,e,ex.1⟩,fun a e2=>?_⟩
   cases e2
   exact⟨o,e,ex.2.1⟩
 |_=>exact False.elim ty
def tBM0(K:W.Frag)(T:String)(r:V->List V->Hp->VK->Prop)(to:TE):TE:=fun σ H Q=>to σ H fun x H1=>tyV K T x H1/\r x [] H1 Q
def tBM(K:W.Frag)(T:String)(r:V->List V->Hp->VK->Prop)(to:TE)(t:TA):TE:=fun σ H Q=>to σ H fun x H1=>tyV K T x H1/\t σ H1 fun xs H2=>r x xs H2 Q
variable {o e:Expr}{es:List Expr}{to:TE}{t:TA}{name:Str}{apos cpos:Pos}{T id:String}{r:V->List V->Hp->VK->Prop}
theorem zkb (pa:PlainAttrs T) (slot:Slot T name id) (hty:typeOf (.builtin id)=pure (.type "method_descriptor")) (hm:MtR X id r) (ho:PE X o to)
  (hbase:attributeBase o name X.env (eval o X.env)=eval o X.env:=by rfl) (hline:(apos.endLine == cpos.line)=true:=by rfl):PE X (.Call (.Attribute o name apos) [] [] cpos) (tBM0 X.K T r to):=by
 intro pins s σ H Q I h;refine wpAny_Call_method0_late hbase hline (thn (ho pins s σ H _ I h) fun v s1 ⟨x,H1,I1,r1,ty,q1⟩=>?_);obtain⟨h1,h2⟩:=zjW I1 r1 ty;exact⟨T,id,pa,slot,hty,h1,h2,Calls.callWith_builtin rfl (PySem.evalArgs_none (hm pins s1 σ H1 x [] v [] Q I1 r1 .nil q1))⟩
theorem pe_bm (pa:PlainAttrs T) (slot:Slot T name id) (hty:typeOf (.builtin id)=pure (.type "method_descriptor")) (hm:MtR X id r) (ho:PE X o to) (ha:PA X (e :: es) t)
  (hbase:attributeBase o name X.env (eval o X.env)=eval o X.env:=by rfl)
  (hfew:((backTo cpos (starEach (e::es) X.env)).all (fun x=>!x.1) && (backToKw cpos (keywordEach [] X.env)).all (fun x=>x.1.isSome)
   && decide ((e::es).length+([]:List Keyword).length+(if ([]:List Keyword).isEmpty then 0 else 1)<30))=true:=by rfl)
  (hline:(apos.endLine == cpos.line)=true:=by rfl) (hs:starEach (e::es) X.env=(false,eval e X.env)::starEach es X.env:=by rfl) (hplain:(backTo cpos (starEach es X.env)).any (·.1)=false:=by rfl) :
  PE X (.Call (.Attribute o name apos) (e::es) [] cpos) (tBM X.K T r to t):=by
 intro pins s σ H Q I h;refine wpAny_Call_method_late hbase hfew hline rfl (thn (ho pins s σ H _ I h) fun v s1 ⟨x,H1,I1,r1,ty,q1⟩=>?_);obtain⟨h1,h2⟩:=zjW I1 r1 ty;refine⟨T,id,pa,slot,hty,h1,h2,?_⟩;have hA:=ha cpos pins s1 σ H1 _ I1 q1;rw[hs]at hA ⊢;refine Calls.callWith_builtin (by show (false || (backTo cpos (starEach es X.env)).any (·.1))=false;rw[hplain] <;> rfl) (Calls.evalArgs_plain ?_);exact thn hA fun us s2 ⟨vs,H2,I2,r2,q2⟩=>hm pins s2 σ H2 x vs v us Q I2 r1 r2 q2
/- xs.append(e),list.index on a module's tuple .. are MtR facts of 06m -/
end
def MtM(X:Cx)(id:String)(r:V->List V->Hp->VK->Prop):Prop :=
 ∀(pins:List (Addr×Obj)) (s:Shared) (σ:St) (H:Hp) (x:V) (xs:List V) (v:Value) (us:List Value) (Q:VK),Inv X pins σ H s->RelV x v->Vals xs us->r x xs H Q ->
  wpAny (model X.prog X.w) X.A (call (.builtin id) (v::us)) (EP X pins σ Q) X.xe s
theorem Vals.one:∀{x:V}{us:List Value},Vals [x] us->∃u,us=[u]/\RelV x u
 |_,_,.cons r .nil=>⟨_,rfl,r⟩
theorem Vals.zero:∀{us:List Value},Vals [] us->us=[]
 |_,.nil=>rfl
theorem Vals.dropLast{xs:List V}{us:List Value}(h:Vals xs us):Vals xs.dropLast us.dropLast:=by
 induction h with
 |nil=>exact .nil
 |cons r t ih =>
  cases t with
  |nil=>exact .nil
  |cons q t'=>exact .cons r ih
theorem Vals.rep{xs:List V}{us:List Value}(h:Vals xs us):∀k:Nat,Vals (List.replicate k xs).flatten (List.replicate k us).flatten
 | 0=>.nil
 |k+1=>by
  rw[List.replicate_succ,List.replicate_succ,List.flatten_cons,List.flatten_cons];exact Vals.append h (Vals.rep h k)
theorem zhI{α:Type}(l:List α):l.eraseIdx (l.length-1)=l.dropLast:=by
 induction l with
 |nil=>rfl
 |cons a r ih =>
  cases r with
  |nil=>rfl
  |cons b r =>
   have e:(a::b::r).length-1=((b::r).length-1)+1:=by have h1:(a::b::r).length=r.length+2:=rfl;have h2:(b::r).length=r.length+1:=rfl;lia
   rw[e,List.eraseIdx_cons_succ,ih]
   all_goals rfl
theorem zfI(its:List Value):∀(k:Nat) (acc:List Value),
  List.foldl (fun x1 x2=>x1++x2) acc.toArray (List.replicate k its.toArray)=(acc++(List.replicate k its).flatten).toArray
 | 0,acc=>by simp
 |k+1,acc=>by
  have e:acc.toArray++its.toArray=(acc++its).toArray:=by simp
  have e2:(acc++its)++(List.replicate k its).flatten=acc++(List.replicate (k+1) its).flatten:=by rw[List.replicate_succ,List.flatten_cons,List.append_assoc]
  rw[<- e2,<- zfI its k (acc++its),<- e,List.replicate_succ,List.foldl_cons]
section
variable {X:Cx}{pins:List (Addr×Obj)}{σ:St}{H:Hp}{s:Shared}{l b:Addr}{xs ys zs:List V}
theorem Inv.lset{its its':List Value}{n:Nat}{f:Array Value -> Array Value}{t':Nat}(I:Inv X pins σ H s)(hH:H l=some (.lst xs))
  (e:s.heap.get? l=some { cls:=.type "list",data:=.seq its.toArray n }) (hf:f its.toArray=its'.toArray) (hv:Vals ys its') (hz:ys.length<=sizeLine) :
  Inv X pins σ (upd H l (.lst ys)) { s with heap:=s.heap.update l (Obj.mapSeq f),toks:=t' }:=by
 have q:=PySem.IsL.update e f;rw[hf]at q;refine I.write (x:=l) (e:=l) (by rw[hH];exact trivial) (.inl rfl) (fun b' u hb hu=>(Heap.get?_update_other s.heap (Obj.mapSeq f) (Ne.symm hb)).trans hu) ⟨_,q⟩ ?_
 exact⟨hz,its',_,hv,q⟩
theorem Inv.lnew{its:List Value}{t':Nat}(I:Inv X pins σ H s)(hv:Vals ys its)(hz:ys.length <= sizeLine) :
  Inv X pins σ (upd H s.heap.objs.size (.lst ys)) { s with heap:=s.heap.push { cls:=.type "list",data:=.seq its.toArray },toks:=t' } :=
 I.laid (fun _ _ q=>Heap.get?_push_of_some _ q) (Nat.le_refl _) ⟨hz,its,0,hv,Heap.get?_push_size _ rfl⟩
theorem Inv.fresh(I:Inv X pins σ H s):H s.heap.objs.size=none:=I.hok.fresh (Nat.le_refl _)
theorem Inv.lstM (I:Inv X pins σ H s) (hH:H l=some (.lst xs)):xs.length<=sizeLine/\∃(its:List Value) (n:Nat),Vals xs its/\xs.length=its.length/\s.heap.get? l=some { cls:=.type "list",data:=.seq its.toArray n }:=by obtain⟨z,its,n,r,e⟩:=I.hok l _ hH;exact⟨z,its,n,r,r.length,e⟩
theorem zg2{n:Nat}(h:n<=sizeLine):Builtin.List.listTooLong n=false:=by unfold Builtin.List.listTooLong;exact decide_eq_false (by lia)
end
section
variable {X:Cx}
def zkF:V->List V->Hp->VK->Prop:=fun x vs H Q=>∃l xs y,x=.ref l/\vs=[y]/\H l=some (.lst xs)/\xs.length<sizeLine/\Q .non (upd H l (.lst (xs++[y])))
theorem zaZ:MtM X "list.append" zkF:=by
 intro pins s σ H x vs v us Q I rx rv h;obtain⟨l,xs,y,rfl,rfl,hH,hz,q⟩:=h
 cases rx
 obtain⟨u,rfl,ru⟩:=rv.one;obtain⟨z,its,n,r,hl,e⟩:=I.lstM hH;refine call_meets F.slot_list_append ⟨_,e,rfl⟩ F.entry_list_append (F.args_list_append_2 _ _) (PySem.list_append l its.toArray n u (by rw[List.size_toArray];lia)) ⟨e,?_⟩;refine⟨.non,_,I.lset (its':=its++[u]) hH e (by simp) (r.append (.cons ru .nil)) ?_,rfl,q⟩;rw[List.length_append,List.length_singleton];lia
def zkD:V->List V->Hp->VK->Prop:=fun x vs H Q=>∃l b xs zs,x=.ref l/\vs=[.ref b]/\H l=some (.lst xs)/\H b=some (.lst zs)/\xs.length+zs.length<=sizeLine/\Q .non (upd H l (.lst (xs++zs)))
theorem zc5:MtM X "list.extend" zkD:=by
 intro pins s σ H x vs v us Q I rx rv h;obtain⟨l,b,xs,zs,rfl,rfl,hH,hB,hz,q⟩:=h
 cases rx
 obtain⟨u,rfl,ru⟩:=rv.one
 cases ru
 obtain⟨z,its,n,r,hl,e⟩:=I.lstM hH;obtain⟨z2,its2,n2,r2,hl2,e2⟩:=I.lstM hB;have hsz:its.toArray.size+its2.toArray.size<=sizeLine:=by rw[List.size_toArray,List.size_toArray];lia
 have hlong:¬ (!its.toArray.isEmpty && Builtin.List.listTooLong (its.toArray.size+its2.toArray.size))=true:=by rw[zg2 hsz,Bool.and_false];exact Bool.false_ne_true
 refine call_meets F.slot_list_extend ⟨_,e,rfl⟩ F.entry_list_extend (F.args_list_extend_2 _ _)
  (AutoSeq1.list_extend_list_list_0 l its.toArray n b its2.toArray n2 hlong (by rw[List.size_toArray];lia) (by lia)) ⟨e,e2,?_⟩
 refine⟨.non,_,I.lset (its':=its++its2) hH e (by simp) (r.append r2) ?_,rfl,q⟩;rw[List.length_append];lia
def rPop:V->List V->Hp->VK->Prop:=fun x vs H Q=>∃l xs y,x=.ref l/\vs=[]/\H l=some (.lst xs)/\xs[xs.length-1]?=some y/\Q y (upd H l (.lst xs.dropLast))
theorem zlF:MtM X "list.pop" rPop:=by
 intro pins s σ H x vs v us Q I rx rv h;obtain⟨l,xs,y,rfl,rfl,hH,hy,q⟩:=h
 cases rx
 have hus:=rv.zero;subst hus;obtain⟨z,its,n,r,hl,e⟩:=I.lstM hH;obtain⟨u,hu,ru⟩:=r.get hy
 have hy':its.toArray[its.toArray.size-1]?=some u:=by show its.toArray[its.length-1]?=some u;rw[<- Array.getElem?_toList,<- hl];exact hu
 refine call_meets F.slot_list_pop ⟨_,e,rfl⟩ F.entry_list_pop (F.args_list_pop_1 _) (MeetsSeq.list_pop_last l its.toArray n u hy' (by rw[List.size_toArray];lia)) ⟨e,?_⟩;refine⟨y,_,I.lset (its':=its.dropLast) hH e ?_ r.dropLast ?_,ru,q⟩
 .show its.toArray.eraseIdxIfInBounds (its.toArray.size-1)=its.dropLast.toArray;rw[List.size_toArray,List.eraseIdxIfInBounds_toArray,zhI]
 .rw[List.length_dropLast];lia
def zls:V->List V->Hp->VK->Prop:=fun x vs H Q=>∃l xs,x=.ref l/\vs=[]/\H l=some (.lst xs)/\Q .non (upd H l (.lst []))
theorem zjG:MtM X "list.clear" zls:=by
 intro pins s σ H x vs v us Q I rx rv h;obtain⟨l,xs,rfl,rfl,hH,q⟩:=h
 cases rx
 have hus:=rv.zero;subst hus;obtain⟨z,its,n,r,hl,e⟩:=I.lstM hH;refine call_meets F.slot_list_clear ⟨_,e,rfl⟩ F.entry_list_clear (F.args_list_clear_1 _) (AutoSeq1.list_clear_list_0 l its.toArray n (by rw[List.size_toArray];lia)) ⟨e,?_⟩;exact⟨.non,_,I.lset (its':=[]) (ys:=[]) hH e rfl .nil (Nat.zero_le _),rfl,q⟩
def rCat:R2:=fun x y H Q=>∃l b xs zs,x=.ref l/\y=.ref b/\H l=some (.lst xs)/\H b=some (.lst zs)/\xs.length+zs.length<=sizeLine/\∀p,H p=none->Q (.ref p) (upd H p (.lst (xs++zs)))
theorem zg1:OpR X (binaryOp .Add) rCat:=by
 intro pins s σ H x y v u Q I rx ry h;obtain⟨l,b,xs,zs,rfl,rfl,hH,hB,hz,q⟩:=h
 cases rx
 cases ry
 obtain⟨z,its,n,r,hl,e⟩:=I.lstM hH;obtain⟨z2,its2,n2,r2,hl2,e2⟩:=I.lstM hB;refine PySem.P.add_list e e2 ?_ (by rw[List.size_toArray,List.size_toArray];lia)
 have ea:its.toArray++its2.toArray=(its++its2).toArray:=by simp
 rw[ea];exact⟨.ref _,_,I.lnew (t':=s.toks) (r.append r2) (by rw[List.length_append];lia),rfl,q _ I.fresh⟩
def rRep:R2:=fun x y H Q=>∃l k xs,x=.ref l/\y=.int k/\H l=some (.lst xs)/\-(2 ^ 63)<=k/\k<2 ^ 63/\xs.length*k.toNat<=sizeLine /\
 ∀p,H p=none->Q (.ref p) (upd H p (.lst (List.replicate k.toNat xs).flatten))
theorem zkR{α:Type}(xs:List α)(k:Nat):(List.replicate k xs).flatten.length=k*xs.length:=by
 induction k with
 |zero=>simp
 |succ k ih=>rw[List.replicate_succ,List.flatten_cons,List.length_append,ih,Nat.succ_mul,Nat.add_comm]
theorem zkd:OpR X (binaryOp .Mult) rRep:=by
 intro pins s σ H x y v u Q I rx ry h;obtain⟨l,k,xs,rfl,rfl,hH,h1,h2,hz,q⟩:=h
 cases rx
 obtain⟨t,rfl⟩:=ry;obtain⟨z,its,n,r,hl,e⟩:=I.lstM hH;have hlen:its.toArray.size*k.toNat<=sizeLine:=by rw[List.size_toArray,<- hl];exact hz
 have hcap:¬ its.toArray.size*k.toNat > (2 ^ 63-1) / 8:=by
  have:(sizeLine:Nat)<=(2 ^ 63-1) / 8:=by decide
  lia
 have hfit:¬ (!Builtin.List.listFitsIndex k)=true:=by rw[fitsIndex_both h1 h2];exact Bool.false_ne_true
 have hlong:¬ Builtin.List.listTooLong (its.toArray.size*k.toNat)=true:=by rw[zg2 hlen];exact Bool.false_ne_true
 have hnew:List.foldl (fun x1 x2=>x1++x2) #[] (List.replicate (if its.toArray.isEmpty=true then 0 else k.toNat) its.toArray)=(List.replicate k.toNat its).flatten.toArray:=by
  have f0:∀m:Nat,List.foldl (fun x1 x2=>x1++x2) #[] (List.replicate m its.toArray)=(List.replicate m its).flatten.toArray:=fun m=>by have:=zfI its m [];rw[List.nil_append]at this;exact this
  rw[f0]
  cases its with
  |nil=>simp
  |cons a r'=>rw[if_neg (by simp)]
 refine wpAny_binaryOp_repeat_ref (T:="list") (U:="int") (by decide) ⟨_,e,rfl⟩ (fun s'=>typeIs_int s' k t) noFill_list_mul F.fills_int_mul F.slot_int_rmul repeat_list F.slot_int_index.lookup
  (call_meets F.slot_int_rmul (typeIs_int s k t) F.entry_int_rmul (F.args_int_rmul_2 _ _) (int___rmul___int_list k t l its.toArray n)
   ⟨e,rfl,⟨_,e,rfl⟩,call_meets F.slot_list_mul ⟨_,e,rfl⟩ F.entry_list_mul (F.args_list_mul_2 _ _) (AutoListH.list___mul___list_int_3 l its.toArray n k t hfit hcap hlong) ⟨e,?_⟩⟩)
 rw[hnew];exact⟨.ref _,_,I.lnew (t':=s.toks) (r.rep k.toNat) (by rw[zkR,Nat.mul_comm];exact hz),rfl,q _ I.fresh⟩
end
section
variable {prog:Program}{w:World}{A:Around}{E:Value->Shared->Prop}{s:Shared}
set_option maxRecDepth 100000 in
end
section
variable {X:Cx}
end
end L2
namespace Att
open PySem PySem.W PySem.Calls PyProof.Rows
theorem zdS{P:Params}{h:Heap}:∀(ns:List Int) (vs:List Value),WellAll P h vs (ns.map WData.int)->IntsAre vs ns:=by
 intro ns
 induction ns with
 |nil =>
  intro vs w;rw[List.map_nil]at w
  cases w
  exact .nil
 |cons n ns ih =>
  intro vs w;rw[List.map_cons]at w
  cases w with
  |cons a b =>
   cases a
   exact .cons _ _ (ih _ b)
theorem zii{l:OpenLaw}{n:Nat}(hn:l.most=some n){P:Params}{h:Heap}{args:List WData}{vals:List Value}
  (hpre:l.row.toRowW.claim.pre args=true) (hwl:WellAll P h vals args) :
  ∃a vs ns,vals=[Value.ref a]/\args=[WData.list (ns.map WData.int)]/\h.get? a=some { cls:=.type "list",data:=.seq vs.toArray }/\IntsAre vs ns/\ns.length<=n:=by
 have hsh:WShape.hasAll [] args [.list .int]=true:=(pre_splitW hpre).1;have hc:l.pre.holds [] { args:=args }=true:=(pre_splitW hpre).2;obtain⟨d,r,rfl,h1,h2⟩:=hasAllW_cons hsh;obtain rfl:=hasAllW_nil h2;obtain⟨xs,rfl,h3⟩:=hasW_list h1;obtain⟨ns,rfl⟩:=items_int h3
 have hlen:ns.length<=n:=by
  unfold OpenLaw.pre at hc
  have h4:(WTm.not (.lt (.lit (.int (n:Int))) (.len (.arg 0)))).holds [] { args:=[.list (ns.map .int)] }=true:=by have h4:=(holds_andW hc).1;rw[hn]at h4;exact h4
  have h5:=condW_of h4 (w_not (w_lt w_lit (w_len_list (w_arg rfl))));rw[List.length_map]at h5;refine Nat.le_of_not_lt fun q=>?_
  have q':(n:Int)<((ns.length:Nat):Int):=by lia
  first
   | (rw[decide_eq_true q']at h5;exact absurd h5 (by decide))
   | (simp at h5;lia)
 cases hwl with
 |cons w1 w2 =>
  cases w2
  cases w1 with
  |list ho hall=>exact⟨_,_,ns,rfl,rfl,ho,zdS ns _ hall,hlen⟩
theorem zis(l:OpenLaw)(args:List WData):l.row.toRowW.claim.post args (.bool true) args=true :=
 postW_of (r:=l.row.toRowW) (X:=(true == true))
  (show WShape.has [] (.bool true) .bool=true by first |rfl |decide |simp[WShape.has,WShape.arms,WShape.armsAll])
  (show (WTm.eq .res (.lit (.bool true))).value [] { args:=args,res:=some (.bool true),after:=args }=some (.bool (true == true)) from w_eq_bool (w_res rfl) w_lit) rfl
theorem attach_call{l:OpenLaw}{n:Nat}{q:Program}{loose:List Str}{XP:(Str -> Option Value) -> Heap -> Prop}{YP:World -> Heap -> Prop}{d:DefRec}
  (hn:l.most=some n) (hdf:d.params.defaults=[])
  (call:∀(w:World) (s₀ s₁:Shared) (mg mb:Str->Option Value) (fa:Addr) (o:Obj) (pm cd doc:Value) (a:Addr) (vs:List Value) (ns:List Int),
   Ground q loose [] XP w s₀ mg mb s₁.heap->YP w s₁.heap ->
   s₁.heap.get? fa=some o->o.data=.func (docDef d.name d.params d.body d.scope pm cd doc)->s₁.heap.CodeRec cd d.name->mg d.name=some (.ref fa) ->
   s₁.heap.get? a=some { cls:=.type "list",data:=.seq vs.toArray }->IntsAre vs ns->ns.length<=n->s₁.gens=#[] ->
   codeAny (model l.prog w) callerA (.call (.ref fa) ⟨[.ref a],[]⟩) (fun r s'=>r=.ok (.ret (.bool true))/\OldK s₁.heap s'.heap/\s'.os=s₁.os/\AllBare s'.gens) s₁) :
  WalkO q loose XP YP l.row.toRowW d [] (fun f vs=>PySem.call f vs):=by
 intro w s₀ s₁ mg mb G Y fa o pm cd doc dV kV ho hd hcd hD hmg hg args vals as hpre hlay hrd hwl hlo;obtain rfl:dV=.none:=Dflts.none hD hdf;obtain rfl:kV=.none:=Dflts.noKw hD;obtain⟨a,vs,ns,rfl,rfl,hobj,hints,hlen⟩:=zii hn hpre hwl;refine enter_call (codeAny_mono (call w s₀ s₁ mg mb fa o pm cd doc a vs ns G Y ho (fd_plain hd) hcd hmg hobj hints hlen hg) fun r s' hq=>?_);obtain⟨rfl,h2,h3,h4⟩:=hq;exact⟨.inl ⟨.bool true,.bool true,[],rfl,fun _=>rfl,.bool true,zis l _,fun _=>⟨List.Pairwise.nil,fun _ hm=>(nomatch hm)⟩⟩,h2,h3,h4⟩
section
variable {prog:Program}{w:World}{A:Around}{E:Value->Shared->Prop}{s:Shared}{K:Frag}
def zl0(h:Heap)(L d:Addr):List (Addr×Obj):=(List.range h.objs.size).filterMap fun a=>if a=L∨a=d then none else (h.get? a).map fun o=>(a,o)
end
end Att
namespace L2
open PySem PySem.Spec PyProof.Rows
theorem zcW:∀{vs:List Value}{ns:List Int},IntsAre vs ns->Vals (ns.map V.int) vs
 |_,_,.nil=>.nil
 |_,_,.cons n t h=>.cons ⟨t,rfl⟩ (zcW h)
abbrev KOf{K:W.Frag}{h:Heap}(_:K.In h):W.Frag:=K
end L2
/- THE LAST THEOREM (shape; LID, My.* are yours):
  My.Adr: a structure of the addresses that your layer names (classes,functions);My.Txt K t: a structure (Prop) of the equations over K;
  My.txt_mk:{K} {implicit addresses ..} (e1:nsIn K mainGlobals "law" = some (some (.ref f))) (e2:K.lookup f=some ⟨oc,od,.func (fnOf "law" "law" params body scope dV kV doc pm an cdv ct),sl⟩) (e3:codeIn K cdv "law" = true) ..:∃t,My.Txt K t
set_option maxRecDepth 100000 in
set_option maxHeartbeats 0 in
theorem PySem.Challenge.cw_LID_holds : PySem.Challenge.rw_LID.Holds := by
 w_on;o_law;k_head;(case hw=>w_witness2)
 k_fill
 refine L2.walk_of (l:=PySem.Challenge.rw_LID) (n:=63) (k:=40) (x:="script") (CX:=fun w=>..) (sp:=fun _=>My.sp_law) rfl (by decide) rfl ⟨rfl,by decide,by decide⟩ (fun w h Y=>W.kIn_of Y) ?F ?S ?C
 case F =>
  intro w mg fa h KX G hmg
  have T:∃ t,My.Txt (L2.KOf KX) t:=by
   dsimp only[L2.KOf]                          -- K must stand as «<heap const> w.params» for k_is
   refine' My.txt_mk ?e1 ?e2 ?e3 ..
   (case e1=>W.k_is)                    -- in the order: a name -> its address -> its object -> its parts
   (case e2=>W.k_is)
   ..
  obtain⟨t,T⟩:=T
  have e0:=hmg.symm.trans (W.mg_of KX G T.law)
  cases e0                                       -- fa is the law's own address
  exact⟨_,fun s u=>.of_eq rfl,fun base kb nb=>My.law_fn T kb nb⟩     -- if «.of_eq rfl» comes too early: refine' ⟨_,?b,fun base kb nb=>My.law_fn T kb nb⟩;exact fun s u=>.of_eq rfl
 case S=>exact fun w H a ns hl hO hS=>..
 case C=>exact ..
(the tactic k_is has no namespace: write k_is) -/
namespace L2
open PySem PySem.Spec PyProof.Rows
def zar(s:Stmt):Arguments:=match s with
 |.FunctionDef _ a _ _ _ _ _ _ _ _=>a
 |_=>{ posonlyargs:=[],args:=[],vararg:=none,kwonlyargs:=[],kw_defaults:=[],kwarg:=none,defaults:=[] }
def zaq(s:Stmt):List Stmt:=match s with
 |.FunctionDef _ _ b _ _ _ _ _ _ _=>b
 |_=>[]
def zad(s:Stmt):Scope:=match s with
 |.FunctionDef _ _ _ _ _ _ sc _ _ _=>sc
 |_=>{ kind:=.function,names:=[],isGenerator:=false,isCoroutine:=false }
abbrev CX0:CXT:=fun _ _ _ _ _ _=>False
abbrev E0:XK:=fun _ _ _=>False
theorem pass0{X:Cx}:zjl CX0 X E0:=fun _ _ _ _ _ _ _ h=>h.elim
structure Fun (K:W.Frag) (x qual:Str) (st:Stmt) (f:Addr) (fd:FuncData):Prop where
 ex:∃(oc:Value) (od:Option Addr) (kV doc pm:Value) (an:Option Addr) (cdv ct:Value) (osl:Array (Option Value)),
  fd=W.fnOf x qual (zar st) (zaq st) (zad st) .none kV doc pm an cdv ct/\K.lookup f=some ⟨oc,od,.func fd,osl⟩/\W.codeIn K cdv qual=true
 kp:W.keepIn K (.ref f)=true
section
variable {P:Program}{w:World}{K:W.Frag}{mg:Str->Option Value}{base:Heap}
theorem Fun.ok{x qual:Str}{st:Stmt}{f:Addr}{fd:FuncData}{N ps:List Str}{k:Nat}{sp:Sp}(F:Fun K x qual st f fd)(S:FnScope N ps (zad st))(len:∀vs H Q E, sp vs H Q E -> vs.length=ps.length)
  (hbody:∀(cdv:Value) (A:Around) (outer:List Env) (s:Shared) (H:Hp) (vs:List V) (Q:VK) (E:XK),Room k (A.deeper (envOfC qual (zad st) s.heap.objs.size f cdv))->sp vs H Q E ->
   ∃t,PSs (cxOf CX0 P w K mg base N qual (zad st) f cdv A outer s H E).nox (zaq st) t/\t { nx:=fun _ H'=>Q .non H',rt:=Q } (start N vs) H):FnOk P w K mg base CX0 (k+1) f fd ps sp:=by
 obtain⟨oc,od,kV,doc,pm,an,cdv,ct,osl,rfl,lk,hcd⟩:=F.ex;refine fn_of lk hcd S len fun A outer s H vs Q E hr hsp=>?_
 obtain⟨t,h,q⟩:=hbody cdv A outer s H vs Q E hr hsp;exact⟨t,h.nox,q⟩
theorem Fun.binds{x qual:Str}{st:Stmt}{f:Addr}{fd:FuncData}{ps:List Str}(F:Fun K x qual st f fd)
  (h:∀(kV doc pm:Value) (an:Option Addr) (cdv ct:Value) (us:List Value),us.length=ps.length->bindArgs (W.fnOf x qual (zar st) (zaq st) (zad st) .none kV doc pm an cdv ct) ⟨us,[]⟩=pure (ps.zip us)):Binds K fd ps []:=by
 obtain⟨oc,od,kV,doc,pm,an,cdv,ct,osl,rfl,lk,hcd⟩:=F.ex;exact .all (h kV doc pm an cdv ct)
theorem zaB{x qual:Str}{st:Stmt}{f:Addr}{oc:Value}{od an:Option Addr}{osl:Array (Option Value)}{kV doc pm cdv ct:Value}(l:K.lookup f=some ⟨oc, od, .func (W.fnOf x qual (zar st) (zaq st) (zad st) .none kV doc pm an cdv ct), osl⟩)
  (c:W.codeIn K cdv qual=true) (k:W.keepIn K (.ref f)=true):Fun K x qual st f (W.fnOf x qual (zar st) (zaq st) (zad st) .none kV doc pm an cdv ct):=⟨⟨oc,od,kV,doc,pm,an,cdv,ct,osl,rfl,l,c⟩,k⟩
end
theorem hu_of{A:Around}{k:Nat}(hr:Room k A):A.units+1<cLine:=Nat.lt_of_le_of_lt (Nat.add_le_add_left (by decide:1<=64) _) hr.units
theorem zao{n:Nat}(h:n<=1000):n<sizeLine:=Nat.lt_of_le_of_lt h (by decide)
section
variable {X:Cx}
theorem pv (i:Nat){x:Str}{pos:Pos}(hN:X.N[i]? = some x := by rfl) (hv:Vis X.env.scope x := by first |exact Or.inl rfl |exact Or.inr (Or.inl rfl) |exact Or.inr (Or.inr rfl)) (hd:(x == ("__debug__" : Str))=false := by decide)
  (hcd:(x == ("__classdict__" : Str))=false:=by decide):PE X (.Name x pos) (tVar i):=zlw hN hv hd hcd
end
theorem iteF{A B:Prop}(h:B):if false=true then A else B:=by rw[if_neg Bool.false_ne_true];exact h
theorem iteT{A B:Prop}(h:A):if true=true then A else B:=by rw[if_pos rfl];exact h
theorem ite2{c A B:Prop} [Decidable c](h1:c->A)(h2:¬ c->B):if c then A else B:=by
 by_cases h:c
 .rw[if_pos h];exact h1 h
 .rw[if_neg h];exact h2 h
def Same(H H':Hp):Prop:=∀b o,H b=some o->H' b=some o
theorem Same.refl(H:Hp):Same H H:=fun _ _ h=>h
theorem Same.trans{H H1 H2:Hp}(a:Same H H1)(b:Same H1 H2):Same H H2:=fun c o h=>b c o (a c o h)
theorem Same.free{H H':Hp}(e:Same H H'){l:Addr}(h:H' l=Option.none):H l=Option.none:=by
 cases q:H l with
 |none=>rfl
 |some o =>
  rw[e l o q]at h
  cases h
theorem Same.seq{K:W.Frag}{H H':Hp}{a:Addr}{xs:List V}(e:Same H H')(h:SqL K H a xs):SqL K H' a xs:=by
 rcases h with (h |⟨o,h⟩) |h
 .exact .inl (.inl (e _ _ h))
 .exact .inl (.inr ⟨o,e _ _ h⟩)
 .exact .inr h
section
variable {κ:Type} [DecidableEq κ]
theorem zjq{kvs:List (κ×V)}{k:κ}(h:valV kvs k=none):¬ k∈kvs.map (·.1):=by intro m;obtain⟨p,hp,e⟩:=List.mem_map.mp m;have q:(kvs.any fun kv=>decide (kv.1=k))=true:=List.any_eq_true.mpr ⟨p,hp,decide_eq_true e⟩;rw[zcA,h]at q;exact absurd q (by simp)
theorem zgp:∀{l:List κ}{k:κ},l.Nodup->¬ k∈l->(l++[k]).Nodup
 |[],k,_,_=>by simp
 |a::r,k,h,hk=>by
  obtain⟨h1,h2⟩:=List.nodup_cons.mp h;show (a::(r++[k])).Nodup;refine List.nodup_cons.mpr ⟨fun m=>?_,zgp h2 fun m=>hk (List.mem_cons.mpr (Or.inr m))⟩;rcases List.mem_append.mp m with q |q
  .exact h1 q
  .exact hk (List.mem_cons.mpr (Or.inl (List.mem_singleton.mp q).symm))
theorem zkO{kvs:List (κ×V)}{k:κ}(v:V)(hn:(kvs.map (·.1)).Nodup)(h:valV kvs k=none):((putK kvs k v).map (·.1)).Nodup:=by rw[putK_new v h,List.map_append];exact zgp hn (zjq h)
end
end L2
set_option maxHeartbeats 4000000
namespace L2
open PySem PySem.Spec PyProof.Rows
def zee(J:It)(g:TG)(tb:TS):TS:=fun D σ H=>∃W:Nat->Nat->St->Hp->Prop,(∃m,W 0 m σ H)/\∀i m σ H,W i m σ H ->
 (J.stop i H/\D.nx σ H)∨(J.go i H/\∃N:St->Hp->Prop,(∀ σ' H',N σ' H'->∃m',m'<m/\W (i+1) m' σ' H')/\∀x H',J.yld i H x H'->g x σ H' fun σ2 H2=>tb { D with nx:=N,ct:=N,bk:=D.nx } σ2 H2)
def PTs(X:Cx)(ifs:List Expr)(t:TT):Prop :=
 ∀(pins:List (Addr×Obj)) (s:Shared) (σ:St) (H:Hp) (Q:Bool->Hp->Prop),Inv X pins σ H s->t σ H Q ->
  wpAny (model X.prog X.w) X.A (forIn ifs true fun c r=>if r=true then do let ok <- isTrue c X.env (eval c X.env);pure (ForInStep.yield ok) else pure (ForInStep.yield r)) (TP X pins σ Q) X.xe s
theorem zdI{X:Cx}:PTs X [] (fun _ H Q=>Q true H):=fun pins s σ H Q I h=>wpAny_pure ⟨H,I,h⟩
theorem zci{X:Cx}{c:Expr}{t:TT}(hc:PT X c t):PTs X [c] t:=fun pins s σ H Q I h=>wpAny_tests_one (hc pins s σ H Q I h)
def PB(X:Cx)(inner:Sem Unit)(t:TS):Prop :=
 ∀(pins:List (Addr×Obj)) (s:Shared) (σ:St) (H:Hp) (D:Ends),Inv X pins σ H s->t D σ H->wpAny (model X.prog X.w) X.A inner (fun _ s'=>∃ σ' H',Inv X pins σ' H' s'/\D.nx σ' H') X.xe s
def tIfs(tt:TT)(tb:TS):TS:=fun D σ H=>tt σ H fun b H1=>if b=true then tb D σ H1 else D.nx σ H1
theorem zjb{X:Cx}{e tg:Expr}{d:Nat}{ifs:List Expr}{p:Pos}{acc:Value}{inner:Sem Unit}{g:TG}{tt:TT}{tb:TS}{it:Addr}{fp:List Addr}{tn:Nat -> Heap -> Prop}{J:It}
  {pins:List (Addr×Obj)} {s:Shared} {σ:St} {H:Hp} {D:Ends} {R:Result->Shared->Prop}
  (hq:(Code.compLoop e d (.ref it) acc X.env).quiet=true)
  (hden:(model X.prog X.w).den (.compLoop e d (.ref it) acc X.env)=(compTurn e d (.ref it) acc X.env).onRaise (fun x=>do noteFrame x X.env;theTreesLotGoes x))
  (hT:compTurn e d (.ref it) acc X.env=(do
   standAt p
   match <- pyNext (.ref it) with
   |none=>pure (.done .next)
   |some v =>
    letOwnedTupleGo tg (.ref it) v
    assign tg X.env v
    let mut ok:=true
    for c in ifs do
     if ok then ok <- isTrue c X.env (eval c X.env)
    if ok then
     inner
    again (.compLoop e d (.ref it) acc X.env)))
  (hA:∀(B:Around) {α:Type} {t:Sem α} {Q:α->Shared->Prop} {E:Value->Shared->Prop} {s:Shared},B=X.A.under (.compLoop e d (.ref it) acc X.env)->wpAny (model X.prog X.w) X.A t Q E s->wpAny (model X.prog X.w) B t Q E s)
  (hc:X.calm=true) (hx:X.xe=fun _ _=>False) (hg:PG X tg g) (ht:PTs X ifs tt) (hb:PB X inner tb)
  (I:Inv X pins σ H s) (T:Turn X.prog X.w X.K tg J fp it tn) (st:tn 0 s.heap) (f:∀b∈fp,FpOk X pins H b) (W:zee J g (tIfs tt tb) D σ H)
  (hR:∀fl s',(∃ σ' H',Inv X pins σ' H' s'/\(∀b∈fp,H' b=none)/\D.nx σ' H')->R (.ok fl) s') :
  codeAny (model X.prog X.w) X.A (.compLoop e d (.ref it) acc X.env) R s:=by
 obtain⟨W,⟨m0,w0⟩,turn⟩:=W;have stat:∀{H':Hp},(∀b∈fp,H' b=none)->∀b∈fp,FpOk X pins H' b:=fun hn b hb=>⟨hn b hb,(f b hb).2⟩
 refine codeAny_loop hq (fun n s'=>∃i σ' H',Inv X pins σ' H' s'/\tn i s'.heap/\(∀b∈fp,H' b=none)/\W i n σ' H') ?_ m0 ⟨0,σ,H,I,st,fun b hb=>(f b hb).1,w0⟩;rintro n s3 ⟨i,σ3,H3,I3,st3,fr3,w3⟩;refine hA _ rfl ?_
 rw[hden];refine wpAny_noted (wpAny_noRaise ?_);rw[hT];refine wpAny_bind (wpAny_standAt ?_)
 have nx:∀{α:Type} {t:Sem α} {Q:α->Shared->Prop} {s:Shared},wpAny (model X.prog X.w) X.A t Q X.xe s->wpAny (model X.prog X.w) X.A t Q (fun _ _=>False) s:=fun {α t Q s} h=>by rw[hx]at h;exact h
 rcases turn i n σ3 H3 w3 with⟨stop,qn⟩ |⟨go,N,hN,step⟩
 .refine wpAny_bind (thn (T.done X rfl rfl rfl hc i pins s3 σ3 H3 _ I3 (stat fr3) st3 stop) fun r s4 ⟨hr,I4⟩=>?_);subst hr;exact wpAny_pure (hR _ _ ⟨σ3,H3,I4,fr3,qn⟩)
 .refine wpAny_bind (thn (T.item X rfl rfl rfl hc i pins s3 σ3 H3 _ I3 (stat fr3) st3 go) fun r s4 ⟨u,hr,h4⟩=>?_);subst hr;refine wpAny_bind (thn h4 fun _ s5 ⟨x,H5,I5,r5,y5,st5,fr5⟩=>?_);have I5':=I5.pinned (stat fr5) (T.obj _ _ st5)
  have again:∀{σ7:St} {H7:Hp} {s7:Shared},Inv X (pins++zdl fp s5.heap) σ7 H7 s7->N σ7 H7->∃m,m<n/\∃i σ' H',Inv X pins σ' H' s7/\tn i s7.heap/\(∀b∈fp,H' b=none)/\W i m σ' H':=fun {σ7 H7 s7} I7 n7=>by obtain⟨m',hm,w7⟩:=hN σ7 H7 n7;refine⟨m',hm,i+1,σ7,H7,I7.unpinned,T.keep _ _ _ st5 fun b hb o e=>(I7.pin (b,o) (List.mem_append_right _ (List.mem_append_right _ (zbf hb e)))).1,fun b hb=>?_,w7⟩;obtain⟨o,e,d⟩:=T.obj _ _ st5 b hb;exact (I7.pin (b,o) (List.mem_append_right _ (List.mem_append_right _ (zbf hb e)))).2.1
  refine wpAny_bind (thn (nx (hg _ s5 σ3 H5 x u _ I5' r5 (step x H5 y5))) fun _ s6 ⟨σ6,H6,I6,q6⟩=>?_);refine wpAny_bind (thn (nx (ht _ s6 σ6 H6 _ I6 q6)) fun ok s7 ⟨H7,I7,q7⟩=>?_)
  cases ok with
  |false =>
   exact wpAny_pure ⟨rfl,again I7 q7⟩
  |true =>
   refine wpAny_bind (thn (nx (hb _ s7 σ6 H7 _ I7 q7)) fun _ s8 ⟨σ8,H8,I8,q8⟩=>?_);exact wpAny_pure ⟨rfl,again I8 q8⟩
abbrev blk(X:Cx)(sc:Scope)(cl:List (Str×Addr))(C:Addr)(N':List Str)(s0:Shared)(H0:Hp)(ex:List Addr):Cx :=
 { X with N:=N',s₀:=s0,H₀:=H0,env:=compEnvC sc cl C X.env,outer:=X.stack,stack:=X.stack,ex:=ex,fn:=fun _=>false,pn:=[],xe:=fun _ _=>False }
structure BlkOk (osc:Scope) (N:List Str) (sc:Scope) (N':List Str) (sel:List (Option Nat)):Prop where
 kind:sc.kind=.function
 nocell:∀y∈sc.names,y.2≠.cell
 names:∀y∈sc.names,y.2=.local->sc.names.lookup y.1=some .local
 free:∀y∈sc.names,y.2=.free->osc.names.lookup y.1=some .cell∨osc.names.lookup y.1=some .free
 len:sel.length=N'.length
 sel:∀p∈sel.zip N',∀i∈p.1,N[i]?=some p.2/\sc.names.lookup p.2=some .free
def selSt(sel:List (Option Nat))(σ:St):St:=sel.map fun o=>o.bind fun i=>(σ[i]?).join
theorem zcT{env:Env} : ∀(names:List (Str × NameKind)) (acc:List (Str × Addr)), (∀y ∈ names, y.2 = .free -> ∃c, env.cells.lookup y.1=some c) ->
  ∃cl,(forIn names acc fun (x:Str×NameKind) (r:List (Str×Addr))=>(if (x.2 == .free)=true then do let c <- cellOf env x.1;pure (ForInStep.yield ((x.1,c)::r)) else pure (ForInStep.yield r):Sem (ForInStep (List (Str×Addr)))))=pure cl /\
   (∀x c,cl.lookup x=some c->acc.lookup x=some c∨(env.cells.lookup x=some c/\(x,NameKind.free)∈names))/\(∀y∈names,y.2=.free->∃c,cl.lookup y.1=some c)/\(∀x c,acc.lookup x=some c->∃c',cl.lookup x=some c')
 |[],acc,_=>⟨acc,rfl,fun _ _ h=>.inl h,(fun _ h=>nomatch h),fun x c h=>⟨c,h⟩⟩
 | (n,k)::r,acc,h=>by
  by_cases hk:k=.free
  .subst hk;obtain⟨c,hc⟩:=h (n,.free) List.mem_cons_self rfl;obtain⟨cl,e,h1,h2,h3⟩:=zcT r ((n,c)::acc) fun y hy=>h y (List.mem_cons_of_mem _ hy)
   refine⟨cl,?_,fun x c' hx=>?_,fun y hy hf=>?_,fun x c' hx=>?_⟩
   .rw[List.forIn_cons];have e1:cellOf env n=pure c:=by unfold cellOf;rw[hc]
    simp only[beq_self_eq_true,if_true,e1,pure_bind];exact e
   .rcases h1 x c' hx with q |⟨q,m⟩
    .by_cases hn:x=n
     .subst hn;rw[List.lookup_cons,beq_self_eq_true]at q
      cases q
      exact .inr ⟨hc,List.mem_cons_self⟩
     .have hb:(x == n)=false:=by simpa using hn
      rw[List.lookup_cons,hb]at q;exact .inl q
    .exact .inr ⟨q,List.mem_cons_of_mem _ m⟩
   .rcases List.mem_cons.mp hy with z |z
    .subst z;exact h3 n c (by rw[List.lookup_cons,beq_self_eq_true])
    .exact h2 y z hf
   .by_cases hn:x=n
    .subst hn;exact h3 x c (by rw[List.lookup_cons,beq_self_eq_true])
    .have hb:(x == n)=false:=by simpa using hn
     exact h3 x c' (by rw[List.lookup_cons,hb];exact hx)
  .obtain⟨cl,e,h1,h2,h3⟩:=zcT r acc fun y hy=>h y (List.mem_cons_of_mem _ hy)
   refine⟨cl,?_,fun x c' hx=>?_,fun y hy hf=>?_,h3⟩
   .rw[List.forIn_cons];have hb:(k == NameKind.free)=false:=by simpa using hk
    simp only[hb,Bool.false_eq_true,if_false,pure_bind];exact e
   .rcases h1 x c' hx with q |⟨q,m⟩
    .exact .inl q
    .exact .inr ⟨q,List.mem_cons_of_mem _ m⟩
   .rcases List.mem_cons.mp hy with z |z
    .subst z;exact absurd hf hk
    .exact h2 y z hf
structure Clo (env:Env) (sc:Scope) (cl:List (Str×Addr)):Prop where
 run:closureFor sc env=pure cl
 old:∀x c,cl.lookup x=some c->env.cells.lookup x=some c/\(x,NameKind.free)∈sc.names
 has:∀y∈sc.names,y.2=.free->∃c,cl.lookup y.1=some c
theorem zkm{X:Cx}{osc:Scope}{N:List Str}{sc:Scope}{N':List Str}{sel:List (Option Nat)}(ok:X.Ok)(B:BlkOk osc N sc N' sel)(ho:X.env.scope=osc):∃cl,Clo X.env sc cl:=by
 have hc:∀y∈sc.names,y.2=.free->∃c,X.env.cells.lookup y.1=some c:=fun y hy hf=>ok.has y.1 (by
  show X.env.scope.names.lookup y.1=_∨X.env.scope.names.lookup y.1=_;rw[ho];exact B.free y hy hf)
 obtain⟨cl,e,h1,h2,_⟩:=zcT (env:=X.env) sc.names [] hc;refine⟨cl,?_,fun x c h=>?_,h2⟩
 .unfold closureFor;have e':=e;show (do let r <- forIn sc.names [] _;pure r)=_;simp only[bind_pure];exact e'
 .rcases h1 x c h with q |q
  .cases q
  .exact q
theorem zcb{env:Env} : ∀{names:List (Str × NameKind)}{x:Str}{k:NameKind}, (names.map fun (n, k) => if (k == NameKind.free && env.scope.kind == .function && env.kindOf n == some .cell) then (n, NameKind.cell) else (n, k)).lookup x=some k ->
  ∃k',(x,k')∈names/\(k=k'∨(k=.cell/\k'=.free))
 |[],x,k,h=>nomatch h
 | (n,j)::r,x,k,h=>by
  have ih:=@zcb env r x k;have h:List.lookup x ((if (j == NameKind.free && env.scope.kind == .function && env.kindOf n == some .cell)=true then (n,NameKind.cell) else (n,j))::_)=some k:=h
  by_cases hx:x=n
  .subst hx
   by_cases hc:(j == NameKind.free && env.scope.kind == .function && env.kindOf x == some .cell)=true
   .rw[if_pos hc,List.lookup_cons,beq_self_eq_true]at h
    cases h
    refine⟨j,List.mem_cons_self,.inr ⟨rfl,?_⟩⟩;simp only[Bool.and_eq_true,beq_iff_eq]at hc;exact hc.1.1
   .rw[if_neg hc,List.lookup_cons,beq_self_eq_true]at h
    cases h
    exact⟨j,List.mem_cons_self,.inl rfl⟩
  .have hb:(x == n)=false:=by simpa using hx
   have h':List.lookup x (r.map fun (n,k)=>if (k == NameKind.free && env.scope.kind == .function && env.kindOf n == some .cell) then (n,NameKind.cell) else (n,k))=some k:=by
    by_cases hc:(j == NameKind.free && env.scope.kind == .function && env.kindOf n == some .cell)=true
    .rw[if_pos hc,List.lookup_cons,hb]at h;exact h
    .rw[if_neg hc,List.lookup_cons,hb]at h;exact h
   obtain⟨k',m,e⟩:=ih h';exact⟨k',List.mem_cons_of_mem _ m,e⟩
theorem zb7{env:Env} : ∀{names:List (Str × NameKind)}{x:Str}, names.lookup x=some .free ->
  (names.map fun (n,k)=>if (k == NameKind.free && env.scope.kind == .function && env.kindOf n == some .cell) then (n,NameKind.cell) else (n,k)).lookup x=some .cell ∨
  (names.map fun (n,k)=>if (k == NameKind.free && env.scope.kind == .function && env.kindOf n == some .cell) then (n,NameKind.cell) else (n,k)).lookup x=some .free
 |[],x,h=>nomatch h
 | (n,j)::r,x,h=>by
  have ih:=@zb7 env r x;rw[List.lookup_cons]at h;show List.lookup x ((if (j == NameKind.free && env.scope.kind == .function && env.kindOf n == some .cell)=true then (n,NameKind.cell) else (n,j))::_)=_∨List.lookup x ((if (j == NameKind.free && env.scope.kind == .function && env.kindOf n == some .cell)=true then (n,NameKind.cell) else (n,j))::_)=_
  cases hx:x == n with
  |true =>
   rw[hx]at h
   cases h
   by_cases hc:(NameKind.free == NameKind.free && env.scope.kind == .function && env.kindOf n == some .cell)=true
   .rw[if_pos hc,List.lookup_cons,hx];exact .inl rfl
   .rw[if_neg hc,List.lookup_cons,hx];exact .inr rfl
  |false =>
   rw[hx]at h
   by_cases hc:(j == NameKind.free && env.scope.kind == .function && env.kindOf n == some .cell)=true
   .rw[if_pos hc,List.lookup_cons,hx];exact ih h
   .rw[if_neg hc,List.lookup_cons,hx];exact ih h
section
variable {X:Cx}{osc:Scope}{N:List Str}{sc:Scope}{N':List Str}{sel:List (Option Nat)}{cl:List (Str×Addr)}{pins:List (Addr×Obj)}{σ:St}{H:Hp}{s:Shared}{fp:List Addr}
theorem zkT{h':Heap}{ob:Obj}{tk:Nat}(B:BlkOk osc N sc N' sel)(ho:X.env.scope=osc)(hN:X.N=N)(Cl:Clo X.env sc cl)(I:Inv X pins σ H s)
    (f:∀b∈fp,FpOk X pins H b) (fo:∀b∈fp,∃o,s.heap.get? b=some o) (hns:h'.Ns s.heap.objs.size (fun _=>none)) (hsb:Heap.SameBut s.heap.objs.size (s.heap.push ob) h') :
    Inv (blk X sc cl s.heap.objs.size N' s H fp) [] (selSt sel σ) H { s with heap:=h',toks:=tk }:=by
  have old:∀b o,s.heap.get? b=some o->h'.get? b=some o:=fun b o e=>(hsb.2 b (Nat.ne_of_lt (Heap.lt_size e))).trans (Heap.get?_push_of_some _ e)
  have bel:∀b∈fp,b<s.heap.objs.size:=fun b hb=>by obtain⟨o,e⟩:=fo b hb;exact Heap.lt_size e
  have kk:∀x,(compEnvC sc cl s.heap.objs.size X.env).kindOf x=some .cell∨(compEnvC sc cl s.heap.objs.size X.env).kindOf x=some .free->(x,NameKind.free)∈sc.names:=fun x hx=>by
    rcases hx with hx |hx
    . obtain⟨k',m,e⟩:=zcb hx;rcases e with e |⟨_,e⟩
      . subst e;exact absurd rfl (B.nocell _ m)
      . subst e;exact m
    . obtain⟨k',m,e⟩:=zcb hx;rcases e with e |⟨e,_⟩
      . subst e;exact m
      . cases e
  refine⟨⟨I.mod, B.kind, I.ok.glob, I.ok.blt, Nat.le_refl _, fun x y c e1 e2 => I.ok.inj x y c (Cl.old x c e1).1 (Cl.old y c e2).1, fun x hx => Cl.has _ (kk x hx) rfl, fun x c z => absurd z (by intro q; cases q), I.ok.hd, I.ok.frames, .inl rfl,
      fun b hb=>⟨Nat.ne_of_lt (bel b hb),fun x c e=>(f b hb).2.2.2.2.1 x c (Cl.old x c e).1⟩,I.bs,Nat.le_trans I.ok.bsz I.sz,fun b o e hb=>?_,fun b hb hs=>?_,I.stack,I.stkFree⟩,
    rfl,I.bare,Un.kept old,⟨_,hns,fun j x v e1 e2 e3=>?_⟩,fun x c e=>?_,I.hok.fresh (Nat.le_refl _),fun x c e=>I.freeC x c (Cl.old x c e).1,fun p hp=>absurd (show p∈([]:List (Addr×Obj)) from hp) (by simp),I.hok.kept old,?_⟩
  . rcases (f b hb).2.2.2.1 with z |z
    . exact I.ok.noex b o e z
    . exact absurd (Nat.lt_of_lt_of_le (Heap.lt_size e) (Nat.le_trans I.ok.bsz z)) (Nat.lt_irrefl _)
  . obtain⟨_,f1,f2,_⟩:=f b hb;rcases List.mem_cons.mp (I.stkSub b hs) with z |z
    . exact f1 z
    . exact f2 z
  . have e2':((sel[j]?).map fun o => o.bind fun i => (σ[i]?).join)=some (some v) := by have:=e2;unfold selSt at this;rw[List.getElem?_map]at this;exact this
    cases hj:sel[j]? with
    |none=>rw[hj]at e2';cases e2'
    |some o =>
      rw[hj]at e2'
      cases o with
      |none=>cases e2'
      |some i =>
        have e4:(σ[i]?).join=some v:=Option.some.inj e2'
        have e5:σ[i]?=some (some v):=by
          cases q:σ[i]? with
          |none=>rw[q]at e4;cases e4
          |some z=>rw[q]at e4;exact congrArg some e4
        have hz:(some i,x)∈sel.zip N':=by
          refine List.mem_of_getElem? (i:=j) ?_
          rw[List.getElem?_zip_eq_some];exact⟨hj,e1⟩
        obtain⟨g1,g2⟩:=B.sel _ hz i rfl;obtain⟨m,hn,hl⟩:=I.loc;have m2:(x,NameKind.free)∈sc.names:=PySem.mem_of_lookup g2
        have k2:X.env.kindOf x=some .cell∨X.env.kindOf x=some .free:=by show X.env.scope.names.lookup x=_∨X.env.scope.names.lookup x=_;rw[ho];exact B.free _ m2 rfl
        have v2:Vis X.env.scope x:=by
          rcases k2 with z |z
          . exact .inr (.inl z)
          . exact .inr (.inr z)
        obtain⟨u,r,l⟩:=hl i x v (by rw[hN];exact g1) e5 v2;refine⟨u,r,?_⟩;rcases l with⟨l,_⟩ |⟨_,c,e6,hc⟩
        . rcases k2 with z |z <;> (rw[l]at z;cases z)
        . obtain⟨c',hc'⟩:=Cl.has _ m2 rfl;have e7:=(Cl.old x c' hc').1;rw[e6]at e7
          cases e7
          exact .inr ⟨zb7 g2,c,hc',hc.keeps old⟩
  . obtain⟨v,hc⟩:=I.cell x c (Cl.old x c e).1;exact⟨v,hc.keeps old⟩
  . show (selSt sel σ).length=N'.length;unfold selSt;rw[List.length_map,B.len]
theorem zk0{C:Addr}{H':Hp}{σ':St}{s':Shared}(I:Inv X pins σ H s)(f:∀b∈fp,FpOk X pins H b)(I':Inv (blk X sc cl C N' s H fp) [] σ' H' s'):Inv X pins σ H' s' :=
 I.call' (ch:=fp) I'.os I'.base I'.hok I'.bare fun b hb=>by obtain⟨_,f1,_,f3,f4,f5⟩:=f b hb;exact⟨f3,f1,f4,f5⟩
end
section
variable {X:Cx}
def zdB(p:Addr)(te:TE):TS:=fun D σ H=>te σ H fun v H1=>∃xs,H1 p=some (.lst xs)/\xs.length<sizeLine/\D.nx σ (upd H1 p (.lst (xs++[v])))
theorem zkJ {p:Addr}{elt:Expr}{te:TE}(he:PE X elt te):PB X (do let _ <- call (.builtin "list.append") [.ref p,<- eval elt X.env]) (zdB p te):=by intro pins s σ H D I h;refine wpAny_bind (thn (he pins s σ H _ I h) fun v s1 ⟨x,H1,I1,r1,xs,e1,hl,q⟩=>?_);refine wpAny_bind (thn (zaZ pins s1 σ H1 (.ref p) [x] (.ref p) [v] (fun z H2=>D.nx σ H2) I1 rfl (.cons r1 .nil) ⟨p,xs,x,rfl,rfl,e1,hl,q⟩) fun u s2 ⟨z,H2,I2,_,q2⟩=>?_);exact wpAny_pure ⟨σ,H2,I2,q2⟩
theorem d_set{pins:List (Addr × Obj)}{σ : St}{H H':Hp}{s:Shared}{a:Addr}{y v:V}{u r:Value}{A:Around}{E:Value -> Shared -> Prop}{Q:Unit -> Shared -> Prop}(hu:A.units + 1 < cLine)(I:Inv X pins σ H s)(g:DPut H a y v H')(ry:RelV y u)(rv:RelV v r)(h:∀s', Inv X pins σ H' s' -> Q () s') :
  wpAny (model X.prog X.w) A (dictSet a u r) Q E s:=by
 rcases g with⟨kvs,k,e,ey,l,eH⟩ |⟨kvs,k,b,e,ey,eb,l,eH⟩
 .subst ey eH;obtain⟨z,hd,vs,rel,dd⟩:=dk_of I.hok e;have hz:vs.length<=sizeLine:=by rw[<- rel.length];exact z
  have hl:(putK kvs k v).length<=sizeLine:=by have:=zba kvs k v;lia
  refine wpAny_dictSet_pairs (hsz:=hz) (kV_is ry) dd fun h' dd' hs=>h _ ?_
  have he:∃q,h'.get? a=some q:=let ⟨q,_,_,hq,_⟩:=dd';⟨q,hq⟩
  exact zdd I (by rw[e];exact True.intro) hs he (zi4 hl hd (rel.put k rv) dd')
 .subst ey eH
  cases (show u=Value.ref b from ry)
  obtain⟨z,hd,xs,rel,dd⟩:=dt_of I.hok e;have hz:xs.length<=sizeLine:=by rw[<- Paired.length rel];exact z
  have hl:(putK kvs k v).length<=sizeLine:=by have:=zba kvs k v;lia
  have hr:(tupleKind (zaC X.prog X.w)).room A:=by show A.units<cLine;lia
  refine wpAny_dictSet_heap (hsz:=hz) hr (zdR I.hok eb) dd fun h' dd' hs=>h _ ?_
  obtain⟨q,es,ep,hq,h2,h3,h4,_,h5⟩:=dd';refine zdd I (by rw[e];exact True.intro) hs ⟨q,hq⟩ ⟨hl,hd,_,(rel.put k eb rv).keeps fun c ys ec=>?_,q,es,ep,hq,h2,h3,h4,h5⟩;rw[zai (ne_of ec e (fun z=>nomatch z))];exact ec
end
section
variable {X:Cx}{osc:Scope}{N:List Str}{sc:Scope}{N':List Str}{sel:List (Option Nat)}{pos:Pos}{elt kx vx tg iter:Expr}{ifs:List Expr}{wi:TI}{g:TG}{tt:TT}{te tk tv:TE}
def InBlk(X:Cx)(sc:Scope)(N':List Str)(P:Cx->Prop):Prop:=∀cl C s0 H0 ex,P (blk X sc cl C N' s0 H0 ex)
theorem zfP{e:Expr}{inner:Env -> Addr -> Sem Unit}{tb:Addr -> TS}{use:Option (Value -> Sem Unit)}{pins:List (Addr × Obj)}{s:Shared}{σ : St}{H:Hp}{J:It}{it:Addr}{fp:List Addr}{tn:Nat -> Heap -> Prop}{o0:HO}{ob:Obj}
    {D:Addr->Ends} {Q:Value->Shared->Prop}
    (B:BlkOk osc N sc N' sel) (ho:X.env.scope=osc) (hN:X.N=N) (hc:X.calm=true)
    (hstart:∀(acc:Value) (env:Env) (R:Result->Shared->Prop) (s:Shared),codeAny (model X.prog X.w) X.A (.compLoop e 0 (.ref it) acc env) R s->wpAny (model X.prog X.w) X.A (pyIter (.ref it)) (fun it' s'=>codeAny (model X.prog X.w) X.A (.compLoop e 0 it' acc env) R s') (notedBy (model X.prog X.w) X.A env fun x s'=>R (.error x) s') s->codeAny (model X.prog X.w) X.A (.compStart e 0 (.ref it) acc env) R s)
    (hloop:∀cl C s0 H0 ex p pins s σ H Dn R,Inv (blk X sc cl C N' s0 H0 ex) pins σ H s->tn 0 s.heap->(∀b∈fp,FpOk (blk X sc cl C N' s0 H0 ex) pins H b)->zee J g (tIfs tt (tb p)) Dn σ H ->
      (∀fl s',(∃ σ' H',Inv (blk X sc cl C N' s0 H0 ex) pins σ' H' s'/\(∀b∈fp,H' b=none)/\Dn.nx σ' H')->R (.ok fl) s')->codeAny (model X.prog X.w) X.A (.compLoop e 0 (.ref it) (.ref p) (compEnvC sc cl C X.env)) R s)
    (I:Inv X pins σ H s) (T:Turn X.prog X.w X.K tg J fp it tn) (st:tn 0 s.heap) (f:∀b∈fp,FpOk X pins H b)
    (hnew:ObjOk X.prog X.w (upd H s.heap.objs.size o0) (s.heap.push ob) s.heap.objs.size o0) (hfree:ob.isFreed=false)
    (h:zee J g (tIfs tt (tb s.heap.objs.size)) (D s.heap.objs.size) (selSt sel σ) (upd H s.heap.objs.size o0))
    (hend:∀C H' s',Inv X pins σ H' s'->FpOk X pins H' C->(∃m,s'.heap.Ns C m)->(∃ σ',(D s.heap.objs.size).nx σ' H')->compPost (model X.prog X.w) X.A X.xe use Q (.ref s.heap.objs.size) C (.ok .next) s') (tk:Nat)
    (cl:List (Str×Addr)) (Cl:Clo X.env sc cl) (E:Value->Shared->Prop) :
    wpAny (model X.prog X.w) X.A (newFunctionEnv sc X.env.globals cl [] X.env.qual none .none (some X.env)) (fun cenv s₄ =>
        codeAny (model X.prog X.w) X.A (.compStart e 0 (.ref it) (.ref s.heap.objs.size) { cenv with scope:=relabel sc X.env }) (compPost (model X.prog X.w) X.A X.xe use Q (.ref s.heap.objs.size) cenv.locals) s₄) E { s with heap:=s.heap.push ob,toks:=tk }:=by
  have grow:∀b o,s.heap.get? b=some o->(s.heap.push ob).get? b=some o:=fun _ _ q=>Heap.get?_push_of_some _ q
  have I1:Inv X pins σ (upd H s.heap.objs.size o0) { s with heap:=s.heap.push ob,toks:=tk }:=I.laid grow (Nat.le_refl _) hnew;have bel:∀b∈fp,∃o,s.heap.get? b=some o:=fun b hb=>let ⟨o,e,_⟩:=T.obj _ _ st b hb;⟨o,e⟩
  have f1:∀b∈fp,FpOk X pins (upd H s.heap.objs.size o0) b:=fun b hb=>by obtain⟨o,e⟩:=bel b hb;refine⟨?_,(f b hb).2⟩;rw[zai (Nat.ne_of_lt (Heap.lt_size e))];exact (f b hb).1
  refine wpAny_newFunctionEnv (s:={ s with heap:=s.heap.push ob,toks:=tk }) B.nocell (by intro x hx;cases hx) (fun h1 hns hsb=>?_) B.kind;have I2:=zkT (tk:=tk) B ho hN Cl I1 f1 (fun b hb=>let ⟨o,e⟩:=bel b hb;⟨o,grow b o e⟩) hns hsb;have old:∀b o,s.heap.get? b=some o->h1.get? b=some o:=fun b o e=>(hsb.2 b (Nat.ne_of_lt (Heap.lt_size (grow b o e)))).trans (Heap.get?_push_of_some _ (grow b o e))
  have st1:tn 0 h1:=T.keep _ _ _ st fun b _ o e=>old b o e
  have f2:∀b∈fp,FpOk (blk X sc cl (s.heap.push ob).objs.size N' { s with heap:=s.heap.push ob,toks:=tk } (upd H s.heap.objs.size o0) fp) [] (upd H s.heap.objs.size o0) b:=fun b hb=>by
    obtain⟨g0,g1,g2,g3,g4,g5⟩:=f1 b hb;obtain⟨o,e⟩:=bel b hb;refine⟨g0,Nat.ne_of_lt (Heap.lt_size (grow b o e)),fun z=>?_,.inl hb,fun x c e=>g4 x c (Cl.old x c e).1,fun p hp=>absurd (show p∈([]:List (Addr×Obj)) from hp) (by simp)⟩;rcases List.mem_cons.mp (I1.stkSub b z) with q |q
    . exact g1 q
    . exact g2 q
  have loop:=hloop cl _ _ _ _ s.heap.objs.size [] _ _ _ (D s.heap.objs.size) (compPost (model X.prog X.w) X.A X.xe use Q (.ref s.heap.objs.size) (s.heap.push ob).objs.size) I2 st1 f2 h fun fl s' ⟨σ',H',I',fr',q'⟩=>by
    have I3:=zk0 I1 f1 I';have hC:FpOk X pins H' (s.heap.push ob).objs.size:=I1.fpOk (Nat.le_refl _) I'.free;obtain⟨m,hn,_⟩:=I'.loc;have:=hend _ H' s' I3 hC ⟨m,hn⟩ ⟨σ',q'⟩
    cases use <;> exact this
  exact hstart _ _ _ _ loop (T.self _ 0 _ _ _ st1 loop)
end
section
variable {X:Cx}{osc:Scope}{N:List Str}{sc:Scope}{N':List Str}{sel:List (Option Nat)}{pos:Pos}{elt kx vx tg iter:Expr}{ifs:List Expr}{wi:TI}{g:TG}{tt:TT}{te tk tv:TE}
theorem zeo{it:Addr}{fp:List Addr}{tn:Nat -> Heap -> Prop}{J:It}(T:Turn X.prog X.w X.K tg J fp it tn)(hc:X.calm=true)(hg:InBlk X sc N' fun Y => PG Y tg g)(ht:InBlk X sc N' fun Y => PTs Y ifs tt)(he:InBlk X sc N' fun Y => PE Y elt te) :
  ∀cl C s0 H0 ex p pins s σ H Dn R,Inv (blk X sc cl C N' s0 H0 ex) pins σ H s->tn 0 s.heap->(∀b∈fp,FpOk (blk X sc cl C N' s0 H0 ex) pins H b)->zee J g (tIfs tt (zdB p te)) Dn σ H ->
   (∀fl s',(∃ σ' H',Inv (blk X sc cl C N' s0 H0 ex) pins σ' H' s'/\(∀b∈fp,H' b=none)/\Dn.nx σ' H')->R (.ok fl) s')->codeAny (model X.prog X.w) X.A (.compLoop (.ListComp elt [⟨tg,iter,ifs,0⟩] sc pos) 0 (.ref it) (.ref p) (compEnvC sc cl C X.env)) R s :=
 fun cl C s0 H0 ex p pins s σ H Dn R I st f W hR =>
  zjb (X:=blk X sc cl C N' s0 H0 ex) (p:=iter.pos) (inner:=do let _ <- call (.builtin "list.append") [.ref p,<- eval elt (compEnvC sc cl C X.env)]) rfl rfl rfl (fun B {α t Q E s} h w=>by subst h;exact w) hc rfl (hg _ _ _ _ _) (ht _ _ _ _ _) (zkJ (he _ _ _ _ _)) I T st f W hR
def zlg(wi:TI)(sel:List (Option Nat))(g:TG)(tt:TT)(te:TE):TE:=fun σ H Q=>wi σ H fun J H1=>∀p,H1 p=none ->
 zee J g (tIfs tt (zdB p te)) { nx:=fun _ H'=>Q (.ref p) H',rt:=fun _ _=>False } (selSt sel σ) (upd H1 p (.lst []))
theorem Inv.let_go{pins:List (Addr×Obj)}{σ:St}{H:Hp}{s:Shared}{C:Addr}{h':Heap}(I:Inv X pins σ H s)(f:FpOk X pins H C)(hs:Heap.SameBut C s.heap h'):Inv X pins σ H { s with heap:=h' }:=by obtain⟨f0,f1,_,f3,f4,f5⟩:=f;exact I.turned (t':=s.toks) (fun b o hb e=>(hs.2 b hb).trans e) f0 f1 f3 f4 f5
theorem ziI {P:Program}{w:World}{H:Hp}{h:Heap}:ObjOk P w (upd H h.objs.size (.lst [])) (h.push { cls:=.type "list",dict:=none,data:=.seq ([]:List Value).toArray }) h.objs.size (.lst []) :=
 ⟨Nat.zero_le _,[],_,.nil,Heap.get?_push_size _ rfl⟩
theorem zbv(B:BlkOk osc N sc N' sel)(hi:PI X tg iter wi)(hg:InBlk X sc N' fun Y => PG Y tg g)(ht:InBlk X sc N' fun Y => PTs Y ifs tt)(he:InBlk X sc N' fun Y => PE Y elt te)
  (ho:X.env.scope=osc:=by rfl) (hN:X.N=N:=by rfl) (hc:X.calm=true:=by rfl) (hs:∀x,foldedSetIterable iter X.env x=pure x:=by intro _;rfl) :
  PE X (.ListComp elt [⟨tg,iter,ifs,0⟩] sc pos) (zlg wi sel g tt te):=by
 intro pins s σ H Q I h;obtain⟨cl,Cl⟩:=zkm I.ok B ho;rw[eval_ListComp];refine wpAny_comprehension_free (use:=none) rfl hs Cl.run B.kind B.names (thn (hi pins s σ H _ I h) fun v s1 h1=>thn h1 fun itv s2 h2=>?_);obtain⟨it,fp,tn,J,H2,e,I2,T,st2,f2,h2⟩:=h2;subst e
 refine wpAny_newObj_type (zfP (e:=.ListComp elt [⟨tg,iter,ifs,0⟩] sc pos) (inner:=fun _ _=>pure ()) (D:=fun p=>{ nx:=fun _ H'=>Q (.ref p) H',rt:=fun _ _=>False }) (tb:=fun p=>zdB p te) (use:=none) B ho hN hc (fun acc env R s a b=>codeAny_compStart_list a b)
  (zeo (iter:=iter) (pos:=pos) T hc hg ht he) I2 T st2 f2 ziI rfl (h2 _ (I2.hok.fresh (Nat.le_refl _))) (fun C H' s' I3 fC hn hq=>?_) s2.toks cl Cl X.xe)
 obtain⟨m,hn⟩:=hn;obtain⟨_,hq⟩:=hq;exact⟨m,hn,fun h' hs'=>⟨.ref s2.heap.objs.size,H',I3.let_go fC hs',rfl,hq⟩⟩
def zlm(wi:TI)(sel:List (Option Nat))(g:TG)(tt:TT)(te:TE)(i:Nat):TS:=fun D σ H=>wi σ H fun J H1=>∀p,H1 p=none ->
 zee J g (tIfs tt (zdB p te)) { nx:=fun _ H'=>D.nx (σ.set i (some (.ref p))) H',rt:=fun _ _=>False } (selSt sel σ) (upd H1 p (.lst []))
theorem zgW{i:Nat}{x:Str}{px spos:Pos}(B:BlkOk osc N sc N' sel)(hnd:X.N.Nodup)(hi':X.N[i]? = some x)(hx:Loc X.env.scope x)(hi:PI X tg iter wi)(hg:InBlk X sc N' fun Y => PG Y tg g)(ht:InBlk X sc N' fun Y => PTs Y ifs tt)(he:InBlk X sc N' fun Y => PE Y elt te)
  (hsw:swapsWith (.ListComp elt [⟨tg,iter,ifs,0⟩] sc pos) (some (.Name x px)) spos.line X.env=pure true:=by rfl)
  (ho:X.env.scope=osc:=by rfl) (hN:X.N=N:=by rfl) (hc:X.calm=true:=by rfl) (hs:∀x,foldedSetIterable iter X.env x=pure x:=by intro _;rfl)
  (hf:X.fn x=true∨X.env.scope.names.lookup x=some .local:=by first |exact .inl rfl |exact .inr rfl |assumption) :
  PS X (.Assign [.Name x px] (.ListComp elt [⟨tg,iter,ifs,0⟩] sc pos) spos) (zlm wi sel g tt te i):=by
 intro pins s σ H D I h;obtain⟨cl,Cl⟩:=zkm I.ok B ho;rw[exec_Assign_Name_used _ _ _ _ hsw];refine wpAny_bind (wpAny_standAt (wpAny_bind ?_));show wpAny _ X.A (do let _ <- comprehension (.ListComp elt [⟨tg,iter,ifs,0⟩] sc pos) sc X.env _ (newList []) false (eval iter X.env) (some (assign (.Name x px) X.env))) _ _ s;refine wpAny_bind (thn (wpAny_comprehension_free (use:=some (assign (.Name x px) X.env)) (Q:=fun _ s'=>SP X pins D .next s') rfl hs Cl.run B.kind B.names (thn (hi pins s σ H _ I h) fun v s1 h1=>thn h1 fun itv s2 h2=>?_)) fun _ s' hq=>wpAny_pure (wpAny_pure hq));obtain⟨it,fp,tn,J,H2,e,I2,T,st2,f2,h2⟩:=h2;subst e
 refine wpAny_newObj_type (zfP (e:=.ListComp elt [⟨tg,iter,ifs,0⟩] sc pos) (inner:=fun _ _=>pure ()) (D:=fun p=>{ nx:=fun _ H'=>D.nx (σ.set i (some (.ref p))) H',rt:=fun _ _=>False }) (tb:=fun p=>zdB p te) (use:=some (assign (.Name x px) X.env)) B ho hN hc (fun acc env R s a b=>codeAny_compStart_list a b)
  (zeo (iter:=iter) (pos:=pos) T hc hg ht he) I2 T st2 f2 ziI rfl (h2 _ (I2.hok.fresh (Nat.le_refl _))) (fun C H' s' I3 fC hn hq=>?_) s2.toks cl Cl X.xe)
 obtain⟨m,hn⟩:=hn;obtain⟨_,hq⟩:=hq;show wpAny _ X.A (assign (.Name x px) X.env (.ref s2.heap.objs.size)) _ _ _;refine wpAny_assign_Name (zfi I3 hnd hi' hx (v:=.ref s2.heap.objs.size) rfl (fun s4 I4 hch=>?_) hf);obtain⟨a,sb,ha⟩:=hch
 have nC:C≠a:=by
  rcases ha with z |z
  .rw[z];exact fC.2.1
  .exact fun q=>fC.2.2.2.2.1 x a z q.symm
 refine⟨m,hn.sameBut sb nC,fun h' hs'=>⟨_,H',I4.let_go fC hs',hq⟩⟩
end
mutual
inductive RD (K:W.Frag) (H:Hp):V->PyData->Prop where
 |non:RD K H .non .none
 |bl (b:Bool):RD K H (.bl b) (.bool b)
 |int (i:Int):RD K H (.int i) (.int i)
 |str (x:Str):RD K H (.str x) (.str x)
 |lst {a:Addr} {xs:List V} {ds:List PyData}:SqL K H a xs->RDs K H xs ds->RD K H (.ref a) (.list ds)
 |tup {a:Addr} {xs:List V} {ds:List PyData}:SqT K H a xs->RDs K H xs ds->RD K H (.ref a) (.tuple ds)
inductive RDs (K:W.Frag) (H:Hp):List V->List PyData->Prop where
 |nil:RDs K H [] []
 |cons {x:V} {xs:List V} {d:PyData} {ds:List PyData}:RD K H x d->RDs K H xs ds->RDs K H (x::xs) (d::ds)
end
section
variable {X:Cx}{pins:List (Addr×Obj)}{σ:St}{H:Hp}{s:Shared}
mutual
theorem Inv.reads(I:Inv X pins σ H s):∀{v:V}{d:PyData}{u:Value},RD X.K H v d->RelV v u->∃as,Reads s.heap u d as
 |_,_,_,.non,r=>by cases (show _=Value.none from r);exact⟨_,.none⟩
 |_,_,_,.bl b,r=>by cases (show _=Value.bool b from r);exact⟨_,.bool b⟩
 |_,_,_,.int i,r=>by obtain⟨t,rfl⟩:=r;exact⟨_,.int i t⟩
 |_,_,_,.str x,r=>by obtain⟨t,rfl⟩:=r;exact⟨_,.str x t⟩
 |_,_,_,.lst (a:=a) hq hs,r=>by
  cases (show _=Value.ref a from r)
  obtain⟨its,rv,p,hz⟩:=I.list hq;obtain⟨as,ra⟩:=I.readsAll hs rv;obtain⟨o,ho,hc,n,hd⟩:=p.isList;exact⟨_,.list ho hc hd (by simpa using ra)⟩
 |_,_,_,.tup (a:=a) hq hs,r=>by
  cases (show _=Value.ref a from r)
  obtain⟨its,rv,p,hz⟩:=I.tuple hq;obtain⟨as,ra⟩:=I.readsAll hs rv;obtain⟨o,ho,hc,n,hd⟩:=p;exact⟨_,.tuple ho hc hd (by simpa using ra)⟩
theorem Inv.readsAll(I:Inv X pins σ H s):∀{vs:List V}{ds:List PyData}{us:List Value},RDs X.K H vs ds->Vals vs us->∃as,ReadsAll s.heap us ds as
 |_,_,_,.nil,r=>by cases r;exact⟨_,.nil⟩
 |_,_,_,.cons h t,.cons r rr=>by
  obtain⟨as,h1⟩:=I.reads h r;obtain⟨bs,h2⟩:=I.readsAll t rr;exact⟨_,.cons h1 h2⟩
end
end
theorem RDs.ints{K:W.Frag}{H:Hp}:∀(ns:List Int),RDs K H (ns.map V.int) (ns.map PyData.int)
 |[]=>.nil
 |n::r=>.cons (.int n) (RDs.ints r)
mutual
theorem RD.mono{K:W.Frag}{H H':Hp}(hl:∀a xs,SqL K H a xs->SqL K H' a xs)(ht:∀a xs,SqT K H a xs->SqT K H' a xs):∀{v:V}{d:PyData},RD K H v d->RD K H' v d
 |_,_,.non=>.non
 |_,_,.bl b=>.bl b
 |_,_,.int i=>.int i
 |_,_,.str x=>.str x
 |_,_,.lst h t=>.lst (hl _ _ h) (RDs.mono hl ht t)
 |_,_,.tup h t=>.tup (ht _ _ h) (RDs.mono hl ht t)
theorem RDs.mono{K:W.Frag}{H H':Hp}(hl:∀a xs,SqL K H a xs->SqL K H' a xs)(ht:∀a xs,SqT K H a xs->SqT K H' a xs):∀{v:List V}{d:List PyData},RDs K H v d->RDs K H' v d
 |_,_,.nil=>.nil
 |_,_,.cons h t=>.cons (RD.mono hl ht h) (RDs.mono hl ht t)
end
def rEqD(K:W.Frag):R2:=fun x y H Q=>∃d e,RD K H x d/\RD K H y e/\SeqAt.shaped d=true/\SeqAt.shaped e=true/\Q (.bl (PyData.eqv d e)) H
def rNeD(K:W.Frag):R2:=fun x y H Q=>∃d e,RD K H x d/\RD K H y e/\SeqAt.shaped d=true/\SeqAt.shaped e=true/\Q (.bl (!PyData.eqv d e)) H
section
variable {X:Cx}
theorem zlA(hu:X.A.units+64<cLine):OpR X (compareOp .Eq) (rEqD X.K):=by intro pins s σ H x y v u Q I rx ry h;obtain⟨d,e,hd,he,sd,se,q⟩:=h;obtain⟨as,ra⟩:=I.reads hd rx;obtain⟨bs,rb⟩:=I.reads he ry;exact SeqAt.compareEq_shaped ra rb sd se hu ⟨.bl _,H,I,rfl,q⟩
theorem zft(hu:X.A.units+64<cLine):OpR X (compareOp .NotEq) (rNeD X.K):=by intro pins s σ H x y v u Q I rx ry h;obtain⟨d,e,hd,he,sd,se,q⟩:=h;obtain⟨as,ra⟩:=I.reads hd rx;obtain⟨bs,rb⟩:=I.reads he ry;exact SeqAt.compareNe_shaped ra rb sd se hu ⟨.bl _,H,I,rfl,q⟩
theorem zdU:∀ns ms:List Int,PyData.eqvAll (ns.map PyData.int) (ms.map PyData.int)=decide (ns=ms)
 |[],[]=>rfl
 |[],_::_=>rfl
 |_::_,[]=>rfl
 |n::r,m::t=>by
  show (n == m && PyData.eqvAll (r.map PyData.int) (t.map PyData.int))=_;rw[zdU r t]
  by_cases e:n=m
  .subst e;by_cases e2:r=t <;> simp[e2]
  .simp[e]
theorem zck:∀ns:List Int,PyData.depthAll (ns.map PyData.int)=0
 |[]=>rfl
 |n::r=>by show max 0 (PyData.depthAll (r.map PyData.int))=0;rw[zck r];rfl
theorem zcI:∀ns:List Int,PyData.canLayAll0 (ns.map PyData.int)=true
 |[]=>rfl
 |n::r=>by show (true && PyData.canLayAll0 (r.map PyData.int))=true;rw[zcI r];rfl
def tI(ns:List Int):PyData:=.tuple (ns.map .int)
theorem zhh(ns ms:List Int):PyData.eqv (tI ns) (tI ms)=decide (ns=ms):=zdU ns ms
theorem zb1(ns:List Int):SeqAt.shaped (tI ns)=true:=by unfold SeqAt.shaped tI;rw[PyData.canLay0,zcI,PyData.depth,zck];rfl
end
section
variable {prog:Program}{w:World}{A:Around}{E:Value->Shared->Prop}{s:Shared}
theorem zfN{it t:Addr}{items:Array Value}(hne:t ≠ it):∀(n i:Nat) (s:Shared) (Q:List Value -> Shared -> Prop), s.heap.IsListIter it t i -> s.heap.IsList t items -> i + n <= items.size ->
  (∀h',h'.IsListIter it t (i+n)->Heap.SameBut it s.heap h'->Q ((items.toList.drop i).take n) { s with heap:=h' })->wpAny (model prog w) A (draw (.ref it) n) Q E s
 | 0,i,s,Q,hit,_,_,hQ=>by
  show wpAny _ _ (pure []) Q E s;exact wpAny_pure (by simpa using hQ s.heap hit (Heap.SameBut.refl ..))
 |n+1,i,s,Q,hit,ht,hle,hQ=>by
  have hlt:i<items.size:=by lia
  show wpAny _ _ (pyNext (.ref it) >>= _) Q E s;refine wpAny_bind (wpAny_pyNext_list_item hit ht (x:=items[i]) (by simp[hlt]) fun h₁ hit₁ hs₁=>?_);refine wpAny_bind (wpAny_holding (zfN hne n (i+1) _ _ hit₁ (ht.extBut hs₁.extBut hne) (by lia) fun h₂ hit₂ hs₂=>wpAny_pure ?_));have hd:items.toList.drop i=items[i]::items.toList.drop (i+1):=by simp[List.drop_eq_getElem_cons,hlt]
  have:=hQ h₂ (by rw[show i+(n+1)=i+1+n by lia];exact hit₂) (hs₁.trans hs₂);rw[hd,List.take_succ_cons]at this;exact this
theorem zdq{t:Addr}{items:Array Value}{Q:List Value -> Shared -> Prop}(hh:A.handled=none)(ht:s.heap.IsList t items)
  (hQ:∀h',Heap.ExtBut s.heap.objs.size s.heap h'->Q items.toList { s with heap:=h' }):wpAny (model prog w) A (unpackItems (.ref t) items.size none) Q E s:=by
 have hlt:t≠s.heap.objs.size:=by obtain⟨o,ho,_⟩:=ht;exact Nat.ne_of_lt (Heap.lt_size ho)
 unfold unpackItems;refine wpAny_bind ?_
 .unfold notIterableAtAll;refine wpAny_bind (wpAny_specialOf ht.typeIs PySem.F.slot_list_iter.lookup ?_);refine wpAny_pure ?_
  simp only[Bool.false_eq_true,if_false];refine wpAny_bind (wpAny_holding (wpAny_pyIter_list ht ?_));refine wpAny_bind (wpAny_holding (zfN hlt items.size 0 _ _ ⟨_,Heap.get?_push_size _ rfl,rfl,rfl⟩ (ht.push _) (by lia) fun h₁ hit₁ hs₁=>?_))
  have hall:List.take items.size (List.drop 0 items.toList)=items.toList:=by rw[List.drop_zero];exact List.take_of_length_le (by simp)
  rw[hall];rw[if_neg (by simp)];have ht₁:h₁.IsList t items:=(ht.push _).extBut hs₁.extBut hlt;refine wpAny_bind (wpAny_holding (wpAny_pyNext_list_end hh hit₁ ht₁ (by simp) fun h₂ he₂=>?_));simp only[Option.isSome_none,Bool.false_eq_true,if_false];refine wpAny_pure (hQ h₂ fun b o hb e=>he₂ b o hb (hs₁.extBut b o hb (Heap.get?_push_of_some _ e)))
theorem zde{env:Env}{elts:List Expr}{x1}{pos:Pos}{t:Addr}{items:Array Value}{Q:Unit -> Shared -> Prop}(hh:A.handled=none)(ht:s.heap.IsList t items)
  (hn:(assignEach elts env).length=items.size) (hstar:(assignEach elts env).findIdx? (·.1)=none)
  (h:∀h',Heap.ExtBut s.heap.objs.size s.heap h'->wpAny (model prog w) A (assignInOrder ((assignEach elts env).map (·.2)) items.toList) Q E { s with heap:=h' }) :
  wpAny (model prog w) A (assign (.Tuple elts x1 pos) env (.ref t)) Q E s:=by
 rw[assign_Tuple];refine wpAny_bind (wpAny_standAt ?_);unfold unpack;rw[hn,hstar];exact wpAny_bind (wpAny_holding (zdq hh ht h))
end
section
variable {X:Cx}{pos:Pos}
def gLst(K:W.Frag)(n:Nat)(t:TGs):TG:=fun v σ H Q=>∃a xs,v=.ref a/\SqL K H a xs/\xs.length=n/\t xs σ H Q
theorem zlv{es:List Expr}{k:Nat}{t:TGs}{n:Nat}(hc:X.calm=true)(h:PGs X es t)
  (hn:(assignEach es X.env).length=n:=by rfl) (hst:(assignEach es X.env).findIdx? (·.1)=none:=by rfl):PG X (.Tuple es k pos) (gLst X.K n t):=by
 intro pins s σ H v u Q I r hw;obtain⟨a,xs,e1,hq,hl,hw⟩:=hw;subst e1
 cases r
 obtain⟨its,rv,ht,hz⟩:=I.list hq;refine zde (I.ok.hd hc) ht.isList (by simp[hn,<- hl,rv.length]) hst fun h' hx=>?_
 have I1:Inv X pins σ H { s with heap:=h' }:=I.kept (t':=s.toks) fun b o e=>hx b o (Nat.ne_of_lt (Heap.lt_size e)) e
 exact h pins _ σ H xs _ Q I1 (by simpa using rv) hw
def CDivB(i j:Int):Prop:=0<j/\j.natAbs.log2<9000
theorem zjD:OpR X (binaryOp .FloorDiv) (rI CDivB fun i j=>.int (i / j)):=opI fun i j _ _ _ _ _ hc q=>by have e:i.fdiv j=i / j:=Int.fdiv_eq_ediv_of_nonneg i (Int.le_of_lt hc.1);rw[<- e]at q;exact floordiv_int (by have:=hc.1;lia) q (.inl (PyProof.noPylong_of_log2 hc.2))
theorem zjh (hh:X.calm=true):CallR X (.builtin "all") (fun xs H Q=>∃(p:Addr) (bs:List Bool),xs=[.ref p]/\SqL X.K H p (bs.map V.bl)/\Q (.bl (bs.all id)) H):=by
 intro pins s σ H xs us Q I r h;obtain⟨p,bs,rfl,hq,q⟩:=h;obtain⟨u,rfl,ru⟩:=vals1 r
 cases (show u=Value.ref p from ru)
 obtain⟨its,rv,pl,hz⟩:=I.list hq;have hlp:p<s.heap.objs.size:=by obtain⟨o,ho,_⟩:=pl.isList;exact Heap.lt_size ho
 have hlen:its.length=bs.length:=by have:=rv.length;simpa using this.symm
 refine call_all_walk (wpAny_pyIter_list pl.isList ?_);refine⟨_,_,_,_,_,_,fun i=>bs.getD i true,rfl,Walks.list (A:=X.A.in1) (I.ok.hd hh) s.heap.objs.size p (Nat.ne_of_lt hlp) its.toArray,⟨⟨_,Heap.get?_push_size _ rfl,rfl,rfl⟩,pl.isList.push _⟩,?_,fun h' tk hk=>?_⟩
 .intro i v s1 Q1 E1 hv hQ;have hv':its[i]?=some v:=by simpa using hv
  have hi:i<its.length:=(List.getElem?_eq_some_iff.mp hv').1;obtain⟨w',hw,rw'⟩:=rv.get (i:=i) (x:=V.bl (bs[i]'(by lia))) (by simp[List.getElem?_eq_getElem,show i<bs.length by lia]);rw[hv']at hw
  cases hw
  cases (show v=Value.bool _ from rw')
  refine wpAny_truthy_bool ?_
  have e:bs.getD i true=bs[i]'(by lia):=by simp[List.getD_eq_getElem?_getD,show i<bs.length by lia]
  rw[<- e];exact hQ
 .have I1:Inv X pins σ H { s with heap:=h',toks:=tk }:=I.kept fun b o e=>hk b o (by simp;exact Nat.ne_of_lt (Heap.lt_size e)) (Heap.get?_push_of_some _ e)
  refine⟨.bl _,H,I1,rfl,?_⟩
  have e:(List.range its.toArray.size).all (fun i=>bs.getD i true)=bs.all id:=by
   rw[show its.toArray.size=bs.length by simpa using hlen];rw[Bool.eq_iff_iff];simp only[List.all_eq_true,List.mem_range,id];constructor
   .intro h b hb;obtain⟨i,hi,e⟩:=List.getElem_of_mem hb;have:=h i hi;simpa[List.getD_eq_getElem?_getD,hi,e]using this
   .intro h i hi;have:=h bs[i] (List.getElem_mem hi);simpa[List.getD_eq_getElem?_getD,hi]using this
  rw[e];exact q
end
section
variable {X:Cx}
theorem zho:CallR X (.builtin "isinstance") (fun xs H Q=>∃x T t b,xs=[x,.ty T]/\TyOf X.K H x t/\W.kitOne X.K t (.type T)=some b/\Q (.bl b) H):=by
 intro pins s σ H xs us Q I r h;obtain⟨x,T,t,b,rfl,ty,e,q⟩:=h;obtain⟨u,w',rfl,ru,rw'⟩:=vals2 r
 cases (show w'=Value.type T from rw')
 exact ziU I ru ty e fun tk=>⟨.bl b,H,I.tok tk,rfl,q⟩
theorem zhb(K:W.Frag)(T:String):W.kitOne K (.type T) (.type T)=some true:=by unfold W.kitOne;rw[if_pos (by simp)]
end
end L2
namespace HT
open PySem PyProof.Rows
section
open PySem.SeqAt
open PySem.AutoSeq1 (wpAny_loadPart')
open PySem.MeetsSeq PySem.MeetsSeq2 PySem.MeetsSeq3
end
section
variable {prog:Program}{w:World}{A:Around}{E:Value->Shared->Prop}{s:Shared}
end
end HT
namespace L2
open PySem PySem.Spec PyProof.Rows
section
variable {X:Cx}
end
section
variable {X:Cx}
end
section
variable {X:Cx}{k:Nat}{f:Addr}{fd:FuncData}{ps:List Str}{sp:Sp}{pins:List (Addr×Obj)}{σ:St}
theorem zij{H:Hp}{s:Shared}{Q:VK}{us:List Value}{vs:List V}{E:Value -> Shared -> Prop}(F:FnOk X.prog X.w X.K X.mg X.base CX0 k f fd ps sp)(hr:Room (k + 1) X.A)(hb:Binds X.K fd ps [])
  (I:Inv X pins σ H s) (r:Vals vs us) (h:sp vs H Q E0):wpAny (model X.prog X.w) X.A.in1 (call (.ref f) us) (EP X pins σ Q) E s:=by
 have hl:(us++[]).length=ps.length:=by rw[List.append_nil,<- r.length];exact F.len _ _ _ _ h
 have hb':=hb s us I.kIn hl;rw[List.append_nil]at hb';refine wpAny_call (codeAny_mono (F.run X.A.in1 X.stack s H ⟨us,[]⟩ us vs Q E0 hr.in1 I.env0.in1 hb' r h) fun r s' hq=>?_)
 cases r with
 |error e=>exact False.elim hq
 |ok fl =>
  cases fl with
  |ret u=>exact I.after hq
  |next=>exact False.elim hq
  |brk=>exact False.elim hq
  |cont=>exact False.elim hq
theorem Inv.moved{H:Hp}{s:Shared}{b:Addr}{h':Heap}{t':Nat}(I:Inv X pins σ H s)(fb:FpOk X pins H b)(hk:∀c o,c ∉ [b]->s.heap.get? c=some o->h'.get? c=some o):Inv X pins σ H { s with heap:=h',toks:=t' } :=
 I.turned (fun c o hc e=>hk c o (fun z=>hc (List.mem_singleton.mp z)) e) fb.1 fb.2.1 fb.2.2.2.1 fb.2.2.2.2.1 fb.2.2.2.2.2
theorem FpOk.again{H H':Hp}{b:Addr}(fb:FpOk X pins H b)(hn:H' b=none):FpOk X pins H' b:=⟨hn,fb.2⟩
structure MK (X:Cx) (pins:List (Addr×Obj)) (σ:St) (H:Hp) (s:Shared) (it st l:Addr) (j:Nat) (vb kb:Value):Prop where
 inv:Inv X pins σ H s
 fi:FpOk X pins H it
 fs:FpOk X pins H st
 ne:st≠it
 iter:s.heap.IsListIter it l j
 hold:∃c,s.heap.get? st=some (seqObj "list" #[vb,kb] c)
def Least(κ:Nat->List Int)(n i:Nat):Prop:=∀j,j<n->HT.lexLt (κ j) (κ i)=false/\(j<i->HT.lexLt (κ i) (κ j)=true)
end
end L2
namespace HT
theorem lexLt_irrefl:∀a:List Int,lexLt a a=false
 |[]=>rfl
 |x::r=>by rw[lexLt_cons,if_pos rfl];exact lexLt_irrefl r
theorem lexLt_trans:∀{a b c:List Int},lexLt a b=true->lexLt b c=true->lexLt a c=true
 |[],[],_,h,_=>by cases h
 |[],_::_,[],_,h=>by cases h
 |[],_::_,_::_,_,_=>rfl
 |_::_,[],_,h,_=>by cases h
 |_::_,_::_,[],_,h=>by cases h
 |x::a,y::b,z::c,h,g=>by
  rw[lexLt_cons]at h g ⊢
  by_cases e1:x=y
  .subst e1;rw[if_pos rfl]at h
   by_cases e2:x=z
   .subst e2;rw[if_pos rfl]at g ⊢;exact lexLt_trans h g
   .rw[if_neg e2]at g ⊢;exact g
  .rw[if_neg e1]at h;have h':x<y:=by simpa using h
   by_cases e2:y=z
   .subst e2;rw[if_neg e1];exact h
   .rw[if_neg e2]at g;have g':y<z:=by simpa using g
    rw[if_neg (by lia)];exact decide_eq_true (by lia)
theorem lexLt_total:∀{a b:List Int},lexLt a b=false->lexLt b a=false->a=b
 |[],[],_,_=>rfl
 |[],_::_,h,_=>by cases h
 |_::_,[],_,h=>by cases h
 |x::a,y::b,h,g=>by
  rw[lexLt_cons]at h g
  by_cases e:x=y
  .subst e;rw[if_pos rfl]at h g;rw[lexLt_total h g]
  .rw[if_neg e]at h;rw[if_neg (Ne.symm e)]at g;have h':¬ x<y:=by simpa using h
   have g':¬ y<x:=by simpa using g
   lia
theorem lexLt_of_not_lt_lt{a b c:List Int}(h:lexLt b a=false)(g:lexLt b c=true):lexLt a c=true:=by
 cases e:lexLt a b with
 |true=>exact lexLt_trans e g
 |false=>rw[lexLt_total e h];exact g
theorem lexLt_asym{a b:List Int}(h:lexLt a b=true):lexLt b a=false:=by
 cases e:lexLt b a with
 |false=>rfl
 |true=>have:=lexLt_trans h e;rw[lexLt_irrefl]at this;cases this
end HT
namespace L2
open PySem PySem.Spec PyProof.Rows
section
variable {X:Cx}{k:Nat}{f:Addr}{fd:FuncData}{ps:List Str}{sp:Sp}{pins:List (Addr×Obj)}{σ:St}{H0:Hp}{Q:VK}{l it st:Addr}{xs:List V}{κ:Nat->List Int}
def MKR(X:Cx)(pins:List (Addr×Obj))(σ:St)(Q:VK):Result->Shared->Prop:=fun r s'=>match r with
 |.ok (.ret v)=>EP X pins σ Q v s'
 |.ok _=>False
 |.error e=>X.xe e s'
theorem zcC {xs:Array Value}{c:Nat}:∀v,(seqObj "list" xs c).data≠.cell v:=fun v h=>by cases h
theorem zdO{h:Heap}{it l:Addr}{j:Nat}(hi:h.IsListIter it l j):∃o,h.get? it=some o/\∀v,o.data≠.cell v:=by obtain⟨o,ho,_,hd⟩:=hi;exact⟨o,ho,fun v z=>by rw[hd]at z;cases z⟩
theorem zjt{H:Hp}{s:Shared}{Q1:VK}{u:Value}{x:V}{E:Value -> Shared -> Prop}{j:Nat}{vb kb:Value}(F:FnOk X.prog X.w X.K X.mg X.base CX0 k f fd ps sp)(hr:Room (k + 1) X.A)(hb:Binds X.K fd ps [])
    (M:MK X pins σ H s it st l j vb kb) (r:RelV x u) (h:sp [x] H Q1 E0):wpAny (model X.prog X.w) X.A.in1 (call (.ref f) [u]) (fun v s'=>∃y H',RelV y v/\Q1 y H'/\MK X pins σ H' s' it st l j vb kb) E s:=by
  obtain⟨c,hc⟩:=M.hold;obtain⟨oi,hoi,ci,di⟩:=id M.iter
  have I1:Inv X (pins ++ zdl [it, st] s.heap) σ H s := M.inv.pinned (fun b hb => by
      rcases List.mem_cons.mp hb with rfl |hb
      . exact M.fi
      . rw[List.mem_singleton.mp hb];exact M.fs) (fun b hb=>by
      rcases List.mem_cons.mp hb with rfl |hb
      . exact zdO M.iter
      . rw[List.mem_singleton.mp hb];exact⟨_,hc,zcC⟩)
  refine wpAny_mono (zij F hr hb I1 (.cons r .nil) h) (fun v s' hv=>?_) fun _ _ e=>e
  obtain⟨y,H',I2,ry,q⟩:=hv;have p1:=I2.pin (it,oi) (List.mem_append_right _ (List.mem_append_right _ (zbf (by simp) hoi)));have p2:=I2.pin (st,seqObj "list" #[vb,kb] c) (List.mem_append_right _ (List.mem_append_right _ (zbf (by simp) hc)));exact⟨y,H',ry,q,I2.unpinned,M.fi.again p1.2.1,M.fs.again p2.2.1,M.ne,⟨oi,p1.1,ci,di⟩,c,p2.1⟩
theorem ziH{H:Hp}{s:Shared}{a b:Addr}{ns ms:List Int}{E:Value -> Shared -> Prop}{Q1:Value -> Shared -> Prop}(hu:X.A.units + 1 < cLine)(I:Inv X pins σ H s)(ha:SqT X.K H a (ns.map V.int))(hb:SqT X.K H b (ms.map V.int))(q:Q1 (.bool (HT.lexLt ns ms)) s) :
  wpAny (model X.prog X.w) X.A.in1 (richCompare .Lt (.ref a) (.ref b)) Q1 E s:=by
 obtain⟨its,r1,p1,_⟩:=I.tuple ha;obtain⟨its2,r2,p2,_⟩:=I.tuple hb;exact (HT.lt_tupInts p1 p2 (zcD r1) (zcD r2) hu q:wpAny (model X.prog X.w) X.A.in1 (compareOp .Lt (.ref a) (.ref b)) Q1 E s)
theorem MK.set{H:Hp}{s:Shared}{j:Nat}{vb kb v kv:Value}(M:MK X pins σ H s it st l j vb kb):MK X pins σ H { s with heap:=s.heap.update st (Obj.mapSeq fun _=>#[v,kv]) } it st l j v kv:=by obtain⟨c,hc⟩:=M.hold;have sb:=Heap.SameBut.update s.heap st (Obj.mapSeq fun _=>#[v,kv]);obtain⟨oi,hoi,ci,di⟩:=id M.iter;exact⟨M.inv.moved (t':=s.toks) M.fs (fun b o hb e=>(sb.2 b fun z=>hb (by simp[z])).trans e),M.fi,M.fs,M.ne,⟨oi,(sb.2 it M.ne.symm).trans hoi,ci,di⟩,_,get?_update_seq hc fun _=>#[v,kv]⟩
theorem Least.next{n i:Nat}(h:Least κ n i)(e:HT.lexLt (κ n) (κ i)=false)(hi:i<n):Least κ (n+1) i:=fun j hj=>by
 by_cases z:j=n
 .subst z;exact⟨e,fun q=>absurd q (by lia)⟩
 .exact h j (by lia)
theorem Least.take{n i:Nat}(h:Least κ n i)(e:HT.lexLt (κ n) (κ i)=true)(hi:i<n):Least κ (n+1) n:=fun j hj=>by
 by_cases z:j=n
 .subst z;exact⟨HT.lexLt_irrefl _,fun q=>absurd q (by lia)⟩
 .have g:=(h j (by lia)).1
  have t:HT.lexLt (κ n) (κ j)=true:=by
   cases q:HT.lexLt (κ i) (κ j) with
   |true=>exact HT.lexLt_trans e q
   |false=>rw[<- HT.lexLt_total q g];exact e
  exact⟨HT.lexLt_asym t,fun _=>t⟩
theorem Room.un1{n:Nat}{A:Around}(r:Room n A):A.units+1<cLine:=by have:=r.units;lia
theorem Same.seqT{K:W.Frag}{H H':Hp}{a:Addr}{xs:List V}(e:Same H H')(h:SqT K H a xs):SqT K H' a xs:=by
 rcases h with (h |⟨o,h⟩) |h
 .exact .inl (.inl (e _ _ h))
 .exact .inl (.inr ⟨o,e _ _ h⟩)
 .exact .inr h
theorem ziF(hh:X.A.handled=none)(F:FnOk X.prog X.w X.K X.mg X.base CX0 k f fd ps sp)(hr:Room (k + 1) X.A)(hb:Binds X.K fd ps [])
  (turn:∀i x H,xs[i]?=some x->Same H0 H->sp [x] H (fun v H'=>Same H H'/\∃a,v=.ref a/\SqT X.K H' a ((κ i).map V.int)) E0)
  (hl:SqL X.K H0 l xs) (hli:l≠it) (hQ:∀i x H',xs[i]?=some x->Least κ xs.length i->Same H0 H'->Q x H') :
  ∀(r j i:Nat) (H:Hp) (s:Shared) (vb:Value) (xb:V) (b:Addr),xs.length-(j+1)=r->j+1<=xs.length->Same H0 H->MK X pins σ H s it st l (j+1) vb (.ref b)->xs[i]?=some xb->RelV xb vb->SqT X.K H b ((κ i).map V.int)->i<=j->Least κ (j+1) i ->
   codeAny (model X.prog X.w) X.A (.builtin "min.loop" ⟨[.ref it,.ref f,.ref st],[]⟩) (MKR X pins σ Q) s:=by
 have nm:(toString "min" ++ toString ".loop" : String) = "min.loop":=by decide
 intro r
 induction r with
 |zero =>
  intro j i H s vb xb b hr0 hj hS M hxb rb kb' hij best;have hend:j+1=xs.length:=by lia
  obtain⟨its,rv,pl,hz⟩:=M.inv.list (hS.seq hl);have hlen:its.length=xs.length:=rv.length.symm;have W:=Walks.list (prog:=X.prog) (w:=X.w) (A:=X.A.in1) hh it l hli its.toArray;obtain⟨c,hc⟩:=M.hold;refine codeAny_builtin PySem.F.entry_min_loop ?_
  rw[Around.under_plainId PySem.F.plain_min_loop _];show wpAny _ X.A.in1 (seqItems? (.ref st) >>= _) _ _ _;refine wpAny_bind (wpAny_seqItems hc rfl ?_);show wpAny _ X.A.in1 (tryCatch (pyNext (.ref it)) _ >>= _) _ _ _;refine wpAny_bind (wpAny_tryCatch (W.done _ _ _ ⟨by rw[List.size_toArray,hlen,<- hend];exact M.iter,pl.isList⟩ fun h1 tk1 hk1=>?_));have I1:=M.inv.moved (t':=tk1) M.fi hk1;have hc1:=hk1 st _ (by simpa using M.ne) hc;have sb:=Heap.SameBut.update h1 st (Obj.mapSeq fun _=>(#[]:Array Value));show wpAny _ X.A.in1 (updateSeq st (fun _=>#[]) >>= _) _ _ _;refine wpAny_bind ?_
  refine wpAny_updateSeq hc1 rfl (wpAny_bind (wpAny_letGo (wpAny_pure ?_)));have I2:Inv X pins σ H { s with heap:=h1.update st (Obj.mapSeq fun _=>(#[]:Array Value)),toks:=tk1 }:=I1.moved (s:={ s with heap:=h1,toks:=tk1 }) (t':=tk1) M.fs (fun b o hb e=>(sb.2 b fun z=>hb (by simp[z])).trans e);exact⟨xb,H,I2,rb,hQ i xb H hxb (by rw[<- hend];exact best) hS⟩
 |succ r ih =>
  intro j i H s vb xb b hr0 hj hS M hxb rb kb' hij best;have hlt:j+1<xs.length:=by lia
  obtain⟨its,rv,pl,hz⟩:=M.inv.list (hS.seq hl);have hlen:its.length=xs.length:=rv.length.symm;have W:=Walks.list (prog:=X.prog) (w:=X.w) (A:=X.A.in1) hh it l hli its.toArray;obtain⟨c,hc⟩:=M.hold;refine codeAny_builtin PySem.F.entry_min_loop ?_
  rw[Around.under_plainId PySem.F.plain_min_loop _];show wpAny _ X.A.in1 (seqItems? (.ref st) >>= _) _ _ _;refine wpAny_bind (wpAny_seqItems hc rfl ?_);show wpAny _ X.A.in1 (tryCatch (pyNext (.ref it)) _ >>= _) _ _ _;refine wpAny_bind (wpAny_tryCatch (W.item (j+1) _ _ _ (by rw[List.size_toArray,hlen];exact hlt) ⟨M.iter,pl.isList⟩ fun v h1 tk1 hP hst1 hk1=>?_));have hv:its[j+1]?=some v:=by simpa using hP
  obtain⟨x,hx⟩:∃x,xs[j+1]?=some x:=⟨_,List.getElem?_eq_getElem hlt⟩;obtain⟨v',hv',rx⟩:=rv.get hx;rw[hv]at hv'
  cases hv'
  have M1:MK X pins σ H { s with heap:=h1,toks:=tk1 } it st l (j+1+1) vb (.ref b):=⟨M.inv.moved (t':=tk1) M.fi hk1,M.fi,M.fs,M.ne,hst1.1,c,hk1 st _ (by simpa using M.ne) hc⟩;show wpAny _ X.A.in1 (tryCatch (holding [v] (call (.ref f) [v])) _ >>= _) _ _ _;refine wpAny_bind (wpAny_tryCatch (wpAny_holding (wpAny_mono (zjt F hr hb M1 rx (turn (j+1) x H hx hS) (E:=fun _ _=>False)) (fun kv s2 he=>?_) fun _ _ hF=>hF.elim)));obtain⟨y,H2,ry,⟨hS2,a2,ey,ka2⟩,M2⟩:=he;subst ey
  cases (show kv=Value.ref a2 from ry)
  have hS3:=hS.trans hS2;have kb2:SqT X.K H2 b ((κ i).map V.int):=hS2.seqT kb';show wpAny _ X.A.in1 (tryCatch (holding [v,.ref a2] (richCompare .Lt (.ref a2) (.ref b) >>= _)) _ >>= _) _ _ _;refine wpAny_bind (wpAny_tryCatch (wpAny_holding (wpAny_bind (ziH hr.un1 M2.inv ka2 kb2 ?_))));refine wpAny_bind (wpAny_holding (wpAny_truthy_bool ?_));refine wpAny_bind (wpAny_letGo (wpAny_pure ?_));obtain⟨c2,hc2⟩:=M2.hold
  by_cases hbt:HT.lexLt (κ (j+1)) (κ i)=true
  .simp only[hbt,if_true];refine wpAny_bind ?_
   refine wpAny_updateSeq hc2 rfl (wpAny_bind (wpAny_letGo ?_));rw[nm];exact wpAny_pure ⟨plainId_quiet PySem.F.plain_min_loop _,ih (j+1) (j+1) H2 _ v _ a2 (by lia) hlt hS3 M2.set hx rx ka2 (Nat.le_refl _) (best.take hbt (by lia))⟩
  .have hbf:HT.lexLt (κ (j+1)) (κ i)=false:=by simpa using hbt
   simp only[hbf,Bool.false_eq_true,if_false];refine wpAny_bind (wpAny_letGo ?_);rw[nm];exact wpAny_pure ⟨plainId_quiet PySem.F.plain_min_loop _,ih (j+1) i H2 _ vb _ b (by lia) hlt hS3 M2 hxb rb kb2 (by lia) (best.next hbf (by lia))⟩
theorem ziE(hh:X.A.handled=none)(hu:X.A.units + 1 < cLine)
  (turn:∀i x,xs[i]?=some x->∃a,x=.ref a/\SqT X.K H0 a ((κ i).map V.int))
  (hl:SqL X.K H0 l xs) (hli:l≠it) (hQ:∀i x H',xs[i]?=some x->Least κ xs.length i->Same H0 H'->Q x H') :
  ∀(r j i:Nat) (H:Hp) (s:Shared) (vb:Value) (xb:V) (b:Addr),xs.length-(j+1)=r->j+1<=xs.length->Same H0 H->MK X pins σ H s it st l (j+1) vb (.ref b)->xs[i]?=some xb->RelV xb vb->SqT X.K H b ((κ i).map V.int)->i<=j->Least κ (j+1) i ->
   codeAny (model X.prog X.w) X.A (.builtin "min.loop" ⟨[.ref it,.none,.ref st],[]⟩) (MKR X pins σ Q) s:=by
 have nm:(toString "min" ++ toString ".loop" : String) = "min.loop":=by decide
 intro r
 induction r with
 |zero =>
  intro j i H s vb xb b hr0 hj hS M hxb rb kb' hij best;have hend:j+1=xs.length:=by lia
  obtain⟨its,rv,pl,hz⟩:=M.inv.list (hS.seq hl);have hlen:its.length=xs.length:=rv.length.symm;have W:=Walks.list (prog:=X.prog) (w:=X.w) (A:=X.A.in1) hh it l hli its.toArray;obtain⟨c,hc⟩:=M.hold;refine codeAny_builtin PySem.F.entry_min_loop ?_
  rw[Around.under_plainId PySem.F.plain_min_loop _];show wpAny _ X.A.in1 (seqItems? (.ref st) >>= _) _ _ _;refine wpAny_bind (wpAny_seqItems hc rfl ?_);show wpAny _ X.A.in1 (tryCatch (pyNext (.ref it)) _ >>= _) _ _ _;refine wpAny_bind (wpAny_tryCatch (W.done _ _ _ ⟨by rw[List.size_toArray,hlen,<- hend];exact M.iter,pl.isList⟩ fun h1 tk1 hk1=>?_));have I1:=M.inv.moved (t':=tk1) M.fi hk1;have hc1:=hk1 st _ (by simpa using M.ne) hc;have sb:=Heap.SameBut.update h1 st (Obj.mapSeq fun _=>(#[]:Array Value));show wpAny _ X.A.in1 (updateSeq st (fun _=>#[]) >>= _) _ _ _;refine wpAny_bind ?_
  refine wpAny_updateSeq hc1 rfl (wpAny_bind (wpAny_letGo (wpAny_pure ?_)));have I2:Inv X pins σ H { s with heap:=h1.update st (Obj.mapSeq fun _=>(#[]:Array Value)),toks:=tk1 }:=I1.moved (s:={ s with heap:=h1,toks:=tk1 }) (t':=tk1) M.fs (fun b o hb e=>(sb.2 b fun z=>hb (by simp[z])).trans e);exact⟨xb,H,I2,rb,hQ i xb H hxb (by rw[<- hend];exact best) hS⟩
 |succ r ih =>
  intro j i H s vb xb b hr0 hj hS M hxb rb kb' hij best;have hlt:j+1<xs.length:=by lia
  obtain⟨its,rv,pl,hz⟩:=M.inv.list (hS.seq hl);have hlen:its.length=xs.length:=rv.length.symm;have W:=Walks.list (prog:=X.prog) (w:=X.w) (A:=X.A.in1) hh it l hli its.toArray;obtain⟨c,hc⟩:=M.hold;refine codeAny_builtin PySem.F.entry_min_loop ?_
  rw[Around.under_plainId PySem.F.plain_min_loop _];show wpAny _ X.A.in1 (seqItems? (.ref st) >>= _) _ _ _;refine wpAny_bind (wpAny_seqItems hc rfl ?_);show wpAny _ X.A.in1 (tryCatch (pyNext (.ref it)) _ >>= _) _ _ _;refine wpAny_bind (wpAny_tryCatch (W.item (j+1) _ _ _ (by rw[List.size_toArray,hlen];exact hlt) ⟨M.iter,pl.isList⟩ fun v h1 tk1 hP hst1 hk1=>?_));have hv:its[j+1]?=some v:=by simpa using hP
  obtain⟨x,hx⟩:∃x,xs[j+1]?=some x:=⟨_,List.getElem?_eq_getElem hlt⟩;obtain⟨v',hv',rx⟩:=rv.get hx;rw[hv]at hv'
  cases hv'
  have M1:MK X pins σ H { s with heap:=h1,toks:=tk1 } it st l (j+1+1) vb (.ref b):=⟨M.inv.moved (t':=tk1) M.fi hk1,M.fi,M.fs,M.ne,hst1.1,c,hk1 st _ (by simpa using M.ne) hc⟩;obtain⟨a2,ex,ka2'⟩:=turn (j+1) x hx;subst ex
  cases (show v=Value.ref a2 from rx)
  have hS3:=hS;have M2:=M1;have ka2:SqT X.K H a2 ((κ (j+1)).map V.int):=hS.seqT ka2';have kb2:=kb';show wpAny _ X.A.in1 (pure (Value.ref a2) >>= _) _ _ _;refine wpAny_bind (wpAny_pure ?_);show wpAny _ X.A.in1 (tryCatch (holding [.ref a2,.ref a2] (richCompare .Lt (.ref a2) (.ref b) >>= _)) _ >>= _) _ _ _;refine wpAny_bind (wpAny_tryCatch (wpAny_holding (wpAny_bind (ziH hu M2.inv ka2 kb2 ?_))));refine wpAny_bind (wpAny_holding (wpAny_truthy_bool ?_));refine wpAny_bind (wpAny_letGo (wpAny_pure ?_));obtain⟨c2,hc2⟩:=M2.hold
  by_cases hbt:HT.lexLt (κ (j+1)) (κ i)=true
  .simp only[hbt,if_true];refine wpAny_bind ?_
   refine wpAny_updateSeq hc2 rfl (wpAny_bind (wpAny_letGo ?_));rw[nm];exact wpAny_pure ⟨plainId_quiet PySem.F.plain_min_loop _,ih (j+1) (j+1) H _ (.ref a2) _ a2 (by lia) hlt hS3 M2.set hx rx ka2 (Nat.le_refl _) (best.take hbt (by lia))⟩
  .have hbf:HT.lexLt (κ (j+1)) (κ i)=false:=by simpa using hbt
   simp only[hbf,Bool.false_eq_true,if_false];refine wpAny_bind (wpAny_letGo ?_);rw[nm];exact wpAny_pure ⟨plainId_quiet PySem.F.plain_min_loop _,ih (j+1) i H _ vb _ b (by lia) hlt hS3 M2 hxb rb kb2 (by lia) (best.next hbf (by lia))⟩
end
theorem ziG (a:Value):argsOk "min" ⟨[a],[]⟩:=by unfold argsOk;kernel_rfl
section
variable {X:Cx}{k:Nat}{f:Addr}{fd:FuncData}{ps:List Str}{sp:Sp}{pins:List (Addr×Obj)}{σ:St}{H0:Hp}{Q:VK}{l it st:Addr}{xs:List V}{κ:Nat->List Int}
structure MK0 (X:Cx) (pins:List (Addr×Obj)) (σ:St) (H:Hp) (s:Shared) (it st l:Addr) (j:Nat):Prop where
 inv:Inv X pins σ H s
 fi:FpOk X pins H it
 fs:FpOk X pins H st
 ne:st≠it
 iter:s.heap.IsListIter it l j
 hold:∃c,s.heap.get? st=some (seqObj "list" #[] c)
theorem zik{H:Hp}{s:Shared}{Q1:VK}{u:Value}{x:V}{E:Value -> Shared -> Prop}{j:Nat}(F:FnOk X.prog X.w X.K X.mg X.base CX0 k f fd ps sp)(hr:Room (k + 1) X.A)(hb:Binds X.K fd ps [])
    (M:MK0 X pins σ H s it st l j) (r:RelV x u) (h:sp [x] H Q1 E0):wpAny (model X.prog X.w) X.A.in1 (call (.ref f) [u]) (fun v s'=>∃y H',RelV y v/\Q1 y H'/\MK0 X pins σ H' s' it st l j) E s:=by
  obtain⟨c,hc⟩:=M.hold;obtain⟨oi,hoi,ci,di⟩:=id M.iter
  have I1:Inv X (pins ++ zdl [it, st] s.heap) σ H s := M.inv.pinned (fun b hb => by
      rcases List.mem_cons.mp hb with rfl |hb
      . exact M.fi
      . rw[List.mem_singleton.mp hb];exact M.fs) (fun b hb=>by
      rcases List.mem_cons.mp hb with rfl |hb
      . exact zdO M.iter
      . rw[List.mem_singleton.mp hb];exact⟨_,hc,zcC⟩)
  refine wpAny_mono (zij F hr hb I1 (.cons r .nil) h) (fun v s' hv=>?_) fun _ _ e=>e
  obtain⟨y,H',I2,ry,q⟩:=hv;have p1:=I2.pin (it,oi) (List.mem_append_right _ (List.mem_append_right _ (zbf (by simp) hoi)));have p2:=I2.pin (st,seqObj "list" #[] c) (List.mem_append_right _ (List.mem_append_right _ (zbf (by simp) hc)));exact⟨y,H',ry,q,I2.unpinned,M.fi.again p1.2.1,M.fs.again p2.2.1,M.ne,⟨oi,p1.1,ci,di⟩,c,p2.1⟩
theorem MK0.set{H:Hp}{s:Shared}{j:Nat}{v kv:Value}(M:MK0 X pins σ H s it st l j):MK X pins σ H { s with heap:=s.heap.update st (Obj.mapSeq fun _=>#[v,kv]) } it st l j v kv:=by obtain⟨c,hc⟩:=M.hold;have sb:=Heap.SameBut.update s.heap st (Obj.mapSeq fun _=>#[v,kv]);obtain⟨oi,hoi,ci,di⟩:=id M.iter;exact⟨M.inv.moved (t':=s.toks) M.fs (fun b o hb e=>(sb.2 b fun z=>hb (by simp[z])).trans e),M.fi,M.fs,M.ne,⟨oi,(sb.2 it M.ne.symm).trans hoi,ci,di⟩,_,get?_update_seq hc fun _=>#[v,kv]⟩
theorem zjf{s:Shared}(hh:X.A.handled=none)(F:FnOk X.prog X.w X.K X.mg X.base CX0 k f fd ps sp)(hr:Room (k + 1) X.A)(hb:Binds X.K fd ps [])
  (turn:∀i x H,xs[i]?=some x->Same H0 H->sp [x] H (fun v H'=>Same H H'/\∃a,v=.ref a/\SqT X.K H' a ((κ i).map V.int)) E0)
  (hl:SqL X.K H0 l xs) (hne:0<xs.length) (hQ:∀i x H',xs[i]?=some x->Least κ xs.length i->Same H0 H'->Q x H') (I:Inv X pins σ H0 s) :
  wpAny (model X.prog X.w) X.A (call (.builtin "min") [.ref l] [(Str.ofString "key",.ref f)]) (EP X pins σ Q) X.xe s:=by
 have nm:(toString "min" ++ toString ".loop" : String) = "min.loop":=by decide
 obtain⟨its,rv,pl,hz⟩:=I.list hl;have hlen:its.length=xs.length:=rv.length.symm;have hll:l<s.heap.objs.size:=by obtain⟨o,ho,_⟩:=pl.isList;exact Heap.lt_size ho
 refine kmk_tree PySem.F.kind_min PySem.F.plain_min PySem.F.entry_min (kmk_min_key _ _) ?_
 show wpAny _ X.A.in1 (Builtin.Builtins.bindParams "min" ["key","default"] 0 ⟨[],[(Str.ofString "key",.ref f)]⟩ >>= _) _ _ s;refine wpAny_bind (wpAny_of_eq (show Builtin.Builtins.bindParams "min" ["key","default"] 0 ⟨[],[(Str.ofString "key",.ref f)]⟩=pure [some (.ref f),none] from rfl) ?_);refine wpAny_bind (wpAny_pure ?_);refine wpAny_bind (wpAny_pyIter_list pl.isList ?_);refine wpAny_bind (wpAny_newList ?_ (Nat.zero_le _));rw[nm];refine wpAny_pure ⟨plainId_quiet PySem.F.plain_min_loop _,?_⟩;have keep:∀b o,s.heap.get? b=some o->((s.heap.push { cls:=.type "list_iterator",data:=.fields #[.ref l,.int 0 0] }).push (seqObj "list" #[] 0)).get? b=some o:=fun b o e=>Heap.get?_push_of_some _ (Heap.get?_push_of_some _ e)
 have gi:((s.heap.push { cls:=.type "list_iterator",data:=.fields #[.ref l,.int 0 0] }).push (seqObj "list" #[] 0)).get? s.heap.objs.size=some { cls:=.type "list_iterator",data:=.fields #[.ref l,.int 0 0] }:=Heap.get?_push_of_some _ (Heap.get?_push_size _ rfl);have hsS:(s.heap.push { cls:=.type "list_iterator",data:=.fields #[.ref l,.int 0 0] }).objs.size=s.heap.objs.size+1:=size_push' ..;have gs:((s.heap.push { cls:=.type "list_iterator",data:=.fields #[.ref l,.int 0 0] }).push (seqObj "list" #[] 0)).get? (s.heap.objs.size+1)=some (seqObj "list" #[] 0):=by rw[<- hsS];exact Heap.get?_push_size _ rfl
 rw[hsS];have I1:Inv X pins σ H0 { s with heap:=(s.heap.push { cls:=.type "list_iterator",data:=.fields #[.ref l,.int 0 0] }).push (seqObj "list" #[] 0) }:=I.kept (t':=s.toks) keep;have fi:FpOk X pins H0 s.heap.objs.size:=I.fpOk (Nat.le_refl _) (I.hok.fresh (Nat.le_refl _));have fs:FpOk X pins H0 (s.heap.objs.size+1):=I.fpOk (Nat.le_succ _) (I.hok.fresh (Nat.le_succ _));have M0:MK0 X pins σ H0 _ s.heap.objs.size (s.heap.objs.size+1) l 0:=⟨I1,fi,fs,Nat.ne_of_gt (Nat.lt_succ_self _),⟨_,gi,rfl,rfl⟩,⟨0,gs⟩⟩;have hli:l≠s.heap.objs.size:=Nat.ne_of_lt hll;have W:=Walks.list (prog:=X.prog) (w:=X.w) (A:=X.A.in1) hh s.heap.objs.size l hli its.toArray;refine codeAny_builtin PySem.F.entry_min_loop ?_
 rw[Around.under_plainId PySem.F.plain_min_loop _];show wpAny _ X.A.in1 (seqItems? (.ref _) >>= _) _ _ _;refine wpAny_bind (wpAny_seqItems gs rfl ?_);show wpAny _ X.A.in1 (tryCatch (pyNext (.ref s.heap.objs.size)) _ >>= _) _ _ _;obtain⟨its2,rv2,pl2,_⟩:=I1.list hl;refine wpAny_bind (wpAny_tryCatch (W.item 0 _ _ _ (by rw[List.size_toArray,hlen];exact hne) ⟨M0.iter,pl.isList.at fun o e=>keep _ _ e⟩ fun v h1 tk1 hP hst1 hk1=>?_));have hv:its[0]?=some v:=by simpa using hP
 obtain⟨x,hx⟩:∃x,xs[0]?=some x:=⟨_,List.getElem?_eq_getElem hne⟩;obtain⟨v',hv',rx⟩:=rv.get hx;rw[hv]at hv'
 cases hv'
 have M1:MK0 X pins σ H0 { s with heap:=h1,toks:=tk1 } s.heap.objs.size (s.heap.objs.size+1) l 1:=⟨I1.moved (t':=tk1) fi hk1,fi,fs,M0.ne,hst1.1,0,hk1 _ _ (by simp) gs⟩;show wpAny _ X.A.in1 (tryCatch (holding [v] (call (.ref f) [v])) _ >>= _) _ _ _;refine wpAny_bind (wpAny_tryCatch (wpAny_holding (wpAny_mono (zik F hr hb M1 rx (turn 0 x H0 hx (Same.refl _)) (E:=fun _ _=>False)) (fun kv s2 he=>?_) fun _ _ hF=>hF.elim)));obtain⟨y,H2,ry,⟨hS2,a2,ey,ka2⟩,M2⟩:=he;subst ey
 cases (show kv=Value.ref a2 from ry)
 obtain⟨c2,hc2⟩:=M2.hold;show wpAny _ X.A.in1 (updateSeq (s.heap.objs.size+1) (fun _=>#[v,.ref a2]) >>= _) _ _ _;refine wpAny_bind ?_
 refine wpAny_updateSeq hc2 rfl ?_
 rw[nm];refine wpAny_pure ⟨plainId_quiet PySem.F.plain_min_loop _,?_⟩
 exact codeAny_mono (ziF hh F hr hb turn hl hli hQ _ 0 0 H2 _ v _ a2 rfl hne hS2 M2.set hx rx ka2 (Nat.le_refl _) (fun j hj=>by
  have e:j=0:=by lia
  subst e;exact⟨HT.lexLt_irrefl _,fun z=>absurd z (Nat.lt_irrefl _)⟩)) fun r s' hr'=>hr'
theorem zjd{s:Shared}(hh:X.A.handled=none)(hu:X.A.units + 1 < cLine)
  (turn:∀i x,xs[i]?=some x->∃a,x=.ref a/\SqT X.K H0 a ((κ i).map V.int))
  (hl:SqL X.K H0 l xs) (hne:0<xs.length) (hQ:∀i x H',xs[i]?=some x->Least κ xs.length i->Same H0 H'->Q x H') (I:Inv X pins σ H0 s) :
  wpAny (model X.prog X.w) X.A (call (.builtin "min") [.ref l] []) (EP X pins σ Q) X.xe s:=by
 have nm:(toString "min" ++ toString ".loop" : String) = "min.loop":=by decide
 obtain⟨its,rv,pl,hz⟩:=I.list hl;have hlen:its.length=xs.length:=rv.length.symm;have hll:l<s.heap.objs.size:=by obtain⟨o,ho,_⟩:=pl.isList;exact Heap.lt_size ho
 refine kmk_tree PySem.F.kind_min PySem.F.plain_min PySem.F.entry_min (ziG _) ?_
 show wpAny _ X.A.in1 (Builtin.Builtins.bindParams "min" ["key","default"] 0 ⟨[],[]⟩ >>= _) _ _ s;refine wpAny_bind (wpAny_of_eq (show Builtin.Builtins.bindParams "min" ["key","default"] 0 ⟨[],[]⟩=pure [none,none] from rfl) ?_);refine wpAny_bind (wpAny_pure ?_);refine wpAny_bind (wpAny_pyIter_list pl.isList ?_);refine wpAny_bind (wpAny_newList ?_ (Nat.zero_le _));rw[nm];refine wpAny_pure ⟨plainId_quiet PySem.F.plain_min_loop _,?_⟩;have keep:∀b o,s.heap.get? b=some o->((s.heap.push { cls:=.type "list_iterator",data:=.fields #[.ref l,.int 0 0] }).push (seqObj "list" #[] 0)).get? b=some o:=fun b o e=>Heap.get?_push_of_some _ (Heap.get?_push_of_some _ e)
 have gi:((s.heap.push { cls:=.type "list_iterator",data:=.fields #[.ref l,.int 0 0] }).push (seqObj "list" #[] 0)).get? s.heap.objs.size=some { cls:=.type "list_iterator",data:=.fields #[.ref l,.int 0 0] }:=Heap.get?_push_of_some _ (Heap.get?_push_size _ rfl);have hsS:(s.heap.push { cls:=.type "list_iterator",data:=.fields #[.ref l,.int 0 0] }).objs.size=s.heap.objs.size+1:=size_push' ..;have gs:((s.heap.push { cls:=.type "list_iterator",data:=.fields #[.ref l,.int 0 0] }).push (seqObj "list" #[] 0)).get? (s.heap.objs.size+1)=some (seqObj "list" #[] 0):=by rw[<- hsS];exact Heap.get?_push_size _ rfl
 rw[hsS];have I1:Inv X pins σ H0 { s with heap:=(s.heap.push { cls:=.type "list_iterator",data:=.fields #[.ref l,.int 0 0] }).push (seqObj "list" #[] 0) }:=I.kept (t':=s.toks) keep;have fi:FpOk X pins H0 s.heap.objs.size:=I.fpOk (Nat.le_refl _) (I.hok.fresh (Nat.le_refl _));have fs:FpOk X pins H0 (s.heap.objs.size+1):=I.fpOk (Nat.le_succ _) (I.hok.fresh (Nat.le_succ _));have M0:MK0 X pins σ H0 _ s.heap.objs.size (s.heap.objs.size+1) l 0:=⟨I1,fi,fs,Nat.ne_of_gt (Nat.lt_succ_self _),⟨_,gi,rfl,rfl⟩,⟨0,gs⟩⟩;have hli:l≠s.heap.objs.size:=Nat.ne_of_lt hll;have W:=Walks.list (prog:=X.prog) (w:=X.w) (A:=X.A.in1) hh s.heap.objs.size l hli its.toArray;refine codeAny_builtin PySem.F.entry_min_loop ?_
 rw[Around.under_plainId PySem.F.plain_min_loop _];show wpAny _ X.A.in1 (seqItems? (.ref _) >>= _) _ _ _;refine wpAny_bind (wpAny_seqItems gs rfl ?_);show wpAny _ X.A.in1 (tryCatch (pyNext (.ref s.heap.objs.size)) _ >>= _) _ _ _;obtain⟨its2,rv2,pl2,_⟩:=I1.list hl;refine wpAny_bind (wpAny_tryCatch (W.item 0 _ _ _ (by rw[List.size_toArray,hlen];exact hne) ⟨M0.iter,pl.isList.at fun o e=>keep _ _ e⟩ fun v h1 tk1 hP hst1 hk1=>?_));have hv:its[0]?=some v:=by simpa using hP
 obtain⟨x,hx⟩:∃x,xs[0]?=some x:=⟨_,List.getElem?_eq_getElem hne⟩;obtain⟨v',hv',rx⟩:=rv.get hx;rw[hv]at hv'
 cases hv'
 have M1:MK0 X pins σ H0 { s with heap:=h1,toks:=tk1 } s.heap.objs.size (s.heap.objs.size+1) l 1:=⟨I1.moved (t':=tk1) fi hk1,fi,fs,M0.ne,hst1.1,0,hk1 _ _ (by simp) gs⟩;obtain⟨a2,ex,ka2⟩:=turn 0 x hx;subst ex
 cases (show v=Value.ref a2 from rx)
 have M2:=M1;show wpAny _ X.A.in1 (pure (Value.ref a2) >>= _) _ _ _;refine wpAny_bind (wpAny_pure ?_);obtain⟨c2,hc2⟩:=M2.hold;show wpAny _ X.A.in1 (updateSeq (s.heap.objs.size+1) (fun _=>#[(.ref a2),.ref a2]) >>= _) _ _ _;refine wpAny_bind ?_
 refine wpAny_updateSeq hc2 rfl ?_
 rw[nm];refine wpAny_pure ⟨plainId_quiet PySem.F.plain_min_loop _,?_⟩
 exact codeAny_mono (ziE hh hu turn hl hli hQ _ 0 0 H0 _ (.ref a2) _ a2 rfl hne (Same.refl _) M2.set hx rx ka2 (Nat.le_refl _) (fun j hj=>by
  have e:j=0:=by lia
  subst e;exact⟨HT.lexLt_irrefl _,fun z=>absurd z (Nat.lt_irrefl _)⟩)) fun r s' hr'=>hr'
end
end L2
namespace RK
open PySem PySem.W PyProof.Rows
variable {n:Nat}{ans:Nat->Nat->Bool}
def Pm(n:Nat)(p:Array Nat):Prop:=p.Perm (List.toArray (List.range n))
inductive Col:Value->Value->Int->Int->Prop where
 |int (a:Int) (t:Tok) (b:Int) (u:Tok):Col (.int a t) (.int b u) a b
 |bl (p q:Bool):Col (.bool p) (.bool q) (b2i p) (b2i q)
inductive Cols:List Value->List Value->List Int->List Int->Prop where
 |nil:Cols [] [] [] []
 |cons {u v:Value} {us vs:List Value} {a b:Int} {as bs:List Int}:Col u v a b->Cols us vs as bs->Cols (u::us) (v::vs) (a::as) (b::bs)
section
variable {prog:Program}{w:World}{A:Around}{s:Shared}{Q:Bool->Shared->Prop}
theorem zkl{u v:Value}{a b:Int}(c:Col u v a b){E:Value->Shared->Prop}(h:Q (decide (a=b)) s):wpAny (model prog w) A (eqBool u v) Q E s:=by
 cases c with
 |int _ t _ u =>
  refine wpAny_eqBool_int ?_
  rw[show (a == b)=decide (a=b) from by rw[Bool.beq_eq_decide_eq]];exact h
 |bl p q =>
  refine SeqAt.EqAt.bool_bool p q prog w E Q ?_
  have e:(p == q)=decide (b2i p=b2i q):=by cases p <;> cases q <;> decide
  rw[e];exact h
theorem zlT{u v:Value}{a b:Int}(c:Col u v a b){E:Value->Shared->Prop}(h:Q (decide (a<b)) s):wpAny (model prog w) A (oneLt' false u v) Q E s:=by
 cases c with
 |int _ t _ u=>exact kat_one _ _ (lt_int (show W.BoolBack Q (.bool (decide (a<b))) s from h))
 |bl p q=>exact kat_one _ _ (lt_bool (show W.BoolBack Q (.bool (decide (b2i p<b2i q))) s from h))
theorem zhd{bb:Bool}:∀{us vs:List Value}{as bs:List Int}(i:Nat),Cols us vs as bs->Q (HT.lexLt as bs) s->KatLex prog w A bb false Q (us.zip vs) (i+1) s
 |_,_,_,_,_,.nil,h=>kat_nil h
 |_,_,_,_,i,.cons (a:=a) (b:=b) (as:=as) (bs:=bs) c r,h=>by
  rw[HT.lexLt_cons]at h;refine kat_cons (zkl c ?_)
  by_cases e:a=b
  .rw[decide_eq_true e];rw[if_pos e]at h;exact kat_yes (zhd (i+1) r h)
  .rw[decide_eq_false e];rw[if_neg e]at h;refine kat_no ?_
   rw[show (bb && (i+1 == 0))=false by simp];exact zlT c h
theorem kat_cols0{us vs:List Value}{as bs:List Int}{a b:Int}{t u:Tok}(r:Cols us vs as bs)(h:Q (HT.lexLt (a::as) (b::bs)) s):KatLex prog w A true false Q ((Value.int a t::us).zip (Value.int b u::vs)) 0 s:=by
 rw[HT.lexLt_cons]at h;refine kat_cons (zkl (.int a t b u) ?_)
 by_cases e:a=b
 .rw[decide_eq_true e];rw[if_pos e]at h;exact kat_yes (zhd 0 r h)
 .rw[decide_eq_false e];rw[if_neg e]at h;exact kat_no (oneLt_int h)
end
end RK
namespace L2
open PySem PySem.Spec PyProof.Rows
section
variable {X:Cx}{k:Nat}{f:Addr}{fd:FuncData}{ps:List Str}{sp:Sp}{pins:List (Addr×Obj)}{σ:St}{H0:Hp}{Q:VK}
theorem Inv.adopt{H:Hp}{s:Shared}{D:Addr}{o:HO}{h':Heap}{t':Nat}(I:Inv X pins σ H s)(fb:FpOk X pins H D)(hk:∀b u, b ≠ D -> s.heap.get? b=some u -> h'.get? b=some u)(heo:∃u, h'.get? D=some u)
  (new:ObjOk X.prog X.w (upd H D o) h' D o):Inv X pins σ (upd H D o) { s with heap:=h',toks:=t' }:=by
 have hn:=fb.1;have nit:∀b u,H b=some u->b≠D:=fun b u e z=>by rw[z,hn]at e;cases e
 refine I.step (g':=s.gens) (d':=s.drawn) (ch:=[D]) (fun b hb=>?_) (fun b u _ _ hc e _=>hk b u (fun z=>hc (by simp[z])) e) (fun b u _ _ hc e _=>⟨u.slots,hk b u (fun z=>hc (by simp[z])) e⟩)
  (fun b u hc _ n=>by rw[zai (fun z=>hc (by simp[z]))];exact n)
  (fun b u hc e=>⟨u,hk b u (fun z=>hc (by simp[z])) e⟩) (fun b xs e=>by rw[zai (nit _ _ e)];exact e) (fun b u xs e=>by rw[zai (nit _ _ e)];exact e) (fun b ps e=>⟨#[],by rw[zai (nit _ _ e),e];simp⟩) (fun m hm=>?_) (fun b u e=>?_) I.bare
 .have e:b=D:=by simpa using hb
  subst e;exact⟨fb.2.2.2.1,fb.2.1,fb.2.2.2.2.1,fb.2.2.2.2.2⟩
 .obtain⟨u,es,ep,ho,r⟩:=hm;exact⟨u,es,ep,hk _ u (Ne.symm fb.2.1) ho,r⟩
 .by_cases hb:b=D
  .subst hb;rw[zaa]at e;cases e;exact new
  .rw[zai hb]at e;refine (I.hok b u e).stay (fun c v hc q=>hk c v ?_ q) (fun c q=>by rw[zai (nit _ _ q)];exact q) fun c xs q=>by rw[zai (nit _ _ q)];exact q
   rcases hc with z |z
   .rw[z];exact nit b u e
   .exact nit c _ z
def zhq(X:Cx)(σ:St)(H0:Hp)(f:Addr)(xs:List V)(κV:Nat->List V):Prop:=∀(pins:List (Addr×Obj)) (i:Nat) (x:V) (u:Value) (H:Hp) (s:Shared),xs[i]?=some x->Same H0 H->Inv X pins σ H s->RelV x u ->
 wpAny (model X.prog X.w) X.A.in1.in1 (call (.ref f) [u]) (EP X pins σ fun v H'=>Same H H'/\∃a,v=.ref a/\SqT X.K H' a (κV i)) (fun _ _=>False) s
inductive VCol:V->V->Int->Int->Prop where
 |int (a b:Int):VCol (.int a) (.int b) a b
 |bl (p q:Bool):VCol (.bl p) (.bl q) (b2i p) (b2i q)
inductive VCols:List V->List V->List Int->List Int->Prop where
 |nil:VCols [] [] [] []
 |cons {x y:V} {xs ys:List V} {a b:Int} {as bs:List Int}:VCol x y a b->VCols xs ys as bs->VCols (x::xs) (y::ys) (a::as) (b::bs)
theorem VCols.vals:∀{xs ys:List V}{as bs:List Int}{us vs:List Value},VCols xs ys as bs->Vals xs us->Vals ys vs->RK.Cols us vs as bs
  |_,_,_,_,_,_,.nil,.nil,.nil=>.nil
  |_, _, _, _, _, _, .cons c r, .cons h t, .cons g q => .cons (by
      cases c with
      |int a b=>obtain⟨t,rfl⟩:=h;obtain⟨u,rfl⟩:=g;exact .int _ _ _ _
      |bl p q=>cases h;cases g;exact .bl _ _) (r.vals t q)
structure SK (X:Cx) (pins:List (Addr×Obj)) (σ:St) (H:Hp) (s:Shared) (D st:Addr) (e:Nat) (κV:Nat->List V) (ks:List Addr):Prop where
 inv:Inv X pins σ H s
 fd:FpOk X pins H D
 fs:FpOk X pins H st
 ne:st≠D
 hd:s.heap.get? D=some (seqObj "list" #[] e)
 hs:∃c,s.heap.get? st=some (seqObj "list" (ks.map Value.ref).toArray c)
 hk:∀i a,ks[i]?=some a->SqT X.K H a (κV i)
theorem zhf{M:Model}{A:Around}{E:Value -> Shared -> Prop}{body:Value -> PUnit -> Sem (ForInStep PUnit)}{vs:List Value}(P:Nat -> Shared -> Prop)
  (hb:∀i x s,vs[i]?=some x->P i s->wpAny M A (body x ⟨⟩) (fun r s'=>r=.yield ⟨⟩/\P (i+1) s') E s):∀(r:List Value) (i:Nat) (s:Shared),vs.drop i=r->i<=vs.length->P i s ->
   wpAny M A (forIn r PUnit.unit body) (fun _ s'=>P vs.length s') E s
 |[],i,s,hr,hi,h=>by
  rw[List.forIn_nil];have:vs.length<=i:=List.drop_eq_nil_iff.mp hr;exact wpAny_pure (by rw[show vs.length=i by lia];exact h)
 |x::r,i,s,hr,hi,h=>by
  have hx:vs[i]?=some x:=by have:=congrArg (·[0]?) hr;simpa using this
  have hlt:i<vs.length:=(List.getElem?_eq_some_iff.mp hx).1;have hr':vs.drop (i+1)=r:=by rw[<- List.tail_drop,hr];rfl
  rw[List.forIn_cons];refine wpAny_bind (wpAny_mono (hb i x s hx h) (fun q s' hq=>?_) fun _ _ e=>e);obtain⟨rfl,h'⟩:=hq;exact zhf P hb r (i+1) s' hr' hlt h'
end
section
variable {X:Cx}{pins:List (Addr×Obj)}{σ:St}{H:Hp}{s:Shared}{D st:Addr}{e:Nat}{κV:Nat->List V}{ks:List Addr}{E:Value->Shared->Prop}
def zhr(X:Cx)(G:Array Nat->Prop)(ks vs:List Value)(E:Value->Shared->Prop)(s:Shared):Prop :=
 wpAny (model X.prog X.w) X.A.in1.in1 (keyKind' ks.toArray) (fun κ s0=>s0=s /\
  wpAny (model X.prog X.w) X.A.in1.in1 ((sortRuns').run (SortSt.mk' κ (ks.toArray.zip vs.toArray) #[] 7 none)) (fun r s'=>s'=s/\failedOf r.2=none/\∃p:Array Nat,G p/\p.size=vs.length/\arrOf r.2=p.map (W.kas_item (ks.toArray.zip vs.toArray))) E s) E s
theorem ziT{as:List Addr}(I:Inv X pins σ H s):∀{ks:List Addr}{vs:List (List V)}{ns:List Int}, (∀(i:Nat) (a:Addr), ks[i]? = some a -> ∃n r, ns[i]? = some n /\ SqT X.K H a (.int n :: r)) -> ns.length=ks.length ->
  ∃fs:List Value,W.KatTups s.heap (ks.map Value.ref) fs/\fs.length=ks.length/\∀v∈fs,∃n t,v=Value.int n t
 |[],_,_,_,_=>⟨[],.nil,rfl,fun _ h=>nomatch h⟩
 |a::r,vs,[],_,h=>by cases h
 |a::r,vs,n::ns,hk,h=>by
  obtain⟨m,q,e1,hq⟩:=hk 0 a rfl;obtain⟨fs,t,hl,hi⟩:=ziT (as:=as) (vs:=vs) I (ks:=r) (ns:=ns) (fun i b hb=>by simpa using hk (i+1) b (by simpa using hb)) (by simpa using h);obtain⟨its,rv,⟨o,ho,hc,c,hd⟩,_⟩:=I.tuple hq
  cases rv with
  |cons rx rr =>
   obtain⟨t1,rfl⟩:=rx;refine⟨Value.int m t1::fs,.cons ho hc hd (by simp) t,by simp[hl],fun v hv=>?_⟩;rcases List.mem_cons.mp hv with rfl |hv
   .exact⟨_,_,rfl⟩
   .exact hi v hv
end
section
variable {X:Cx}{k:Nat}{f:Addr}{fd:FuncData}{ps:List Str}{sp:Sp}{pins:List (Addr×Obj)}{σ:St}{H0 H:Hp}{s:Shared}{D st l:Addr}{e:Nat}{κV:Nat->List V}{ks:List Addr}{E:Value->Shared->Prop}{G:Array Nat->Prop}{xs:List V}{vs:List Value}{Q:VK}
def outV(xs:List V)(p:Array Nat):List V:=p.toList.map fun i=>xs.getD i .non
theorem zhW{xs:List V}{vs:List Value}(r:Vals xs vs)(i:Nat)(hi:i<xs.length):RelV (xs.getD i .non) (vs.getD i Value.none):=by
 have hx:xs[i]?=some xs[i]:=by simp[hi]
 obtain⟨u,hu,ru⟩:=r.get hx;rw[List.getD_eq_getElem?_getD,hx,List.getD_eq_getElem?_getD,hu];exact ru
theorem zgA{xs:List V}{vs:List Value}(r:Vals xs vs):∀(l:List Nat),(∀i∈l,i<xs.length)->Vals (l.map fun i=>xs.getD i .non) (l.map fun i=>vs.getD i Value.none)
 |[],_=>.nil
 |i::t,h=>.cons (zhW r i (h i List.mem_cons_self)) (zgA r t fun j hj=>h j (List.mem_cons_of_mem _ hj))
theorem zgh{p:Array Nat}:(outV xs p).length=p.size:=by unfold outV;simp
theorem zkz{P:PySem.Fin -> Shared -> Prop}{so:SortSt}{out:List Value}{ys:List V}(K:SK X pins σ H s D st e κV ks)(hks:ks.length <= sizeLine)(ho:(arrOf so).map (·.2)=out.toArray)(ry:Vals ys out)(hz:ys.length <= sizeLine)(hf:failedOf so=none)
  (h:∀s',Inv X pins σ (upd H D (.lst ys)) s'->P (.done (.ret .none)) s'):wpAny (model X.prog X.w) X.A.in1.in1 (ksk_tail D false e (.ref st) so) P E s:=by
 obtain⟨c,hc⟩:=K.hs;have hzo:out.length<=sizeLine:=by rw[<- ry.length];exact hz
 have s1:=Heap.SameBut.update s.heap st (Obj.mapSeq fun _=>(#[]:Array Value));have hd1:(s.heap.update st (Obj.mapSeq fun _=>(#[]:Array Value))).get? D=some (seqObj "list" #[] e):=(s1.2 D K.ne.symm).trans K.hd;have s2:=Heap.SameBut.update (s.heap.update st (Obj.mapSeq fun _=>(#[]:Array Value))) D (Obj.mapSeq fun _=>out.toArray);obtain⟨c2,hc2⟩:∃c2,((s.heap.update st (Obj.mapSeq fun _=>(#[]:Array Value))).update D (Obj.mapSeq fun _=>out.toArray)).get? D=some (seqObj "list" out.toArray c2):=⟨_,get?_update_seq hd1 fun _=>out.toArray⟩;unfold ksk_tail
 try dsimp only
 rw[ho];refine wpAny_bind (listUpdate_at hc rfl ?_ (by simpa using hks) (Nat.zero_le _));refine wpAny_bind (wpAny_letGo ?_);refine wpAny_bind (seqEpoch_at hd1 rfl ?_);simp only[Bool.false_eq_true,if_false];refine wpAny_bind (listUpdate_at hd1 rfl ?_ (Nat.zero_le _) (by simp;lia));rw[hf];simp only[bne_self_eq_false,Bool.false_eq_true,if_false];refine wpAny_pure (h _ ?_);have I1:Inv X pins σ H { s with heap:=s.heap.update st (Obj.mapSeq fun _=>(#[]:Array Value)) }:=K.inv.moved (t':=s.toks) K.fs (fun b o hb e=>(s1.2 b fun z=>hb (by simp[z])).trans e);exact I1.adopt (t':=s.toks) K.fd (fun b u hb q=>(s2.2 b hb).trans q) ⟨_,hc2⟩ ⟨hz,out,c2,ry,hc2⟩
theorem zlj{P:PySem.Fin -> Shared -> Prop}(K:SK X pins σ H s D st e κV ks)(hl:ks.length=vs.length)(r:Vals xs vs)(hz:xs.length <= sizeLine)(hG:∀p, G p -> ∀i ∈ p.toList, i < xs.length)
  (h0:vs.length<2->G (List.toArray (List.range vs.length))) (core:2<=vs.length->zhr X G (ks.map Value.ref) vs E s)
  (h:∀p s',G p->p.size=xs.length->Inv X pins σ (upd H D (.lst (outV xs p))) s'->P (.done (.ret .none)) s'):wpAny (model X.prog X.w) X.A.in1.in1 (ksk_end D false vs.toArray e (.ref st) (ks.map Value.ref).toArray) P E s:=by
 have hlx:xs.length=vs.length:=r.length;have hl':(ks.map Value.ref).length=vs.length:=by simp[hl]
 have fin:∀(p:Array Nat) (so:SortSt),G p->p.size=vs.length->arrOf so=p.map (W.kas_item ((ks.map Value.ref).toArray.zip vs.toArray))->failedOf so=none->wpAny (model X.prog X.w) X.A.in1.in1 (ksk_tail D false e (.ref st) so) P E s:=fun p so g hp ha hf =>
  zkz K (by lia) (W.kat_snds hl' ha) (ys:=outV xs p) (zgA r _ (hG p g)) (by rw[zgh];lia) hf fun s' I'=>h p s' g (by lia) I'
 unfold ksk_end
 try dsimp only
 simp only[Bool.false_eq_true,if_false]
 by_cases h2:vs.length<2
 .have h2':vs.toArray.size<2:=by simpa using h2
  rw[if_pos h2',if_pos h2'];refine wpAny_bind (wpAny_pure ?_);show wpAny (model X.prog X.w) X.A.in1.in1 (pure ((),SortSt.mk' general' ((ks.map Value.ref).toArray.zip vs.toArray) #[] 7 none) >>= _) P E s;refine wpAny_bind (wpAny_pure ?_)
  try dsimp only
  refine fin (List.toArray (List.range vs.length)) _ (h0 h2) (by simp) ?_ rfl;have:=W.kas_range ((ks.map Value.ref).toArray.zip vs.toArray);rw[show ((ks.map Value.ref).toArray.zip vs.toArray).size=vs.length by simp[hl]]at this;exact this.symm
 .have h2':¬ vs.toArray.size<2:=by simpa using h2
  rw[if_neg h2',if_neg h2'];refine wpAny_bind (wpAny_mono (core (by lia)) (fun κ s0 hk=>?_) fun _ _ z=>z);obtain⟨rfl,hk⟩:=hk;refine wpAny_bind (wpAny_mono hk (fun r' s' hr=>?_) fun _ _ z=>z);obtain⟨rfl,hf,p,g,hp,ha⟩:=hr;obtain⟨⟨⟩,so⟩:=r'
  try dsimp only
  exact fin p so g hp ha hf
theorem zkA{P:PySem.Fin -> Shared -> Prop}(F:zhq X σ H0 f xs κV)
    (K:SK X pins σ H0 s D st e κV []) (r:Vals xs vs) (hz:xs.length<=sizeLine)
    (h:∀H' s' ks,ks.length=vs.length->Same H0 H'->SK X pins σ H' s' D st e κV ks->wpAny (model X.prog X.w) X.A.in1.in1 (ksk_end D false vs.toArray e (.ref st) (ks.map Value.ref).toArray) P E s') :
    wpAny (model X.prog X.w) X.A.in1.in1 (ksk_rest D (.ref f) false vs.toArray e (.ref st)) P E s:=by
  have hlx:xs.length=vs.length:=r.length;unfold ksk_rest;refine wpAny_bind (wpAny_rule ?_);rw[List.forIn_toArray];refine wpAny_bind (wpAny_mono (zhf (vs:=vs) (fun i s'=>∃H' ks,ks.length=i/\Same H0 H'/\SK X pins σ H' s' D st e κV ks) (fun i x s1 hx hP=>?_) vs 0 s rfl (Nat.zero_le _) ⟨H0,[],rfl,Same.refl _,K⟩) (fun _ s' hd=>?_) fun _ _ z=>z)
  . obtain⟨H1,ks,hkl,hS,K1⟩:=hP;have hi:i<xs.length:=by rw[hlx];exact (List.getElem?_eq_some_iff.mp hx).1
    have hxx:xs[i]?=some xs[i]:=by simp[hi]
    obtain⟨u,hu,ru⟩:=r.get hxx;rw[hx]at hu
    cases hu
    obtain⟨c,hc⟩:=K1.hs
    have I1:Inv X (pins ++ zdl [D, st] s1.heap) σ H1 s1 := K1.inv.pinned (fun b hb => by
        rcases List.mem_cons.mp hb with rfl |hb
        . exact K1.fd
        . rw[List.mem_singleton.mp hb];exact K1.fs) (fun b hb=>by
        rcases List.mem_cons.mp hb with rfl |hb
        . exact⟨_,K1.hd,zcC⟩
        . rw[List.mem_singleton.mp hb];exact⟨_,hc,zcC⟩)
    refine wpAny_bind (wpAny_attempt (wpAny_mono (F _ i _ _ H1 _ hxx hS I1 ru) (fun v s2 hv=>?_) fun _ _ hF=>hF.elim));obtain⟨y,H2,I2,ry,hS2,a,ey,ka⟩:=hv;subst ey
    cases (show v=Value.ref a from ry)
    have p1:=I2.pin (D,seqObj "list" #[] e) (List.mem_append_right _ (List.mem_append_right _ (zbf (by simp) K1.hd)));have p2:=I2.pin (st,seqObj "list" (ks.map Value.ref).toArray c) (List.mem_append_right _ (List.mem_append_right _ (zbf (by simp) hc)));have sb:=Heap.SameBut.update s2.heap st (Obj.mapSeq (·.push (Value.ref a)));have ea:(ks.map Value.ref).toArray.push (Value.ref a)=((ks++[a]).map Value.ref).toArray:=by simp
    obtain⟨c2,hc2⟩:∃c2,(s2.heap.update st (Obj.mapSeq (·.push (Value.ref a)))).get? st=some (seqObj "list" ((ks++[a]).map Value.ref).toArray c2):=⟨_,by rw[<- ea];exact get?_update_seq p2.1 (·.push (Value.ref a))⟩
    try dsimp only
    refine wpAny_bind (listUpdate_at p2.1 rfl ?_ (by simp;lia) (by simp;lia));refine wpAny_pure ⟨rfl,H2,ks++[a],by simp[hkl],hS.trans hS2,I2.unpinned.moved (t':=s2.toks) (K1.fs.again p2.2.1) (fun b o hb e=>(sb.2 b fun z=>hb (by simp[z])).trans e),K1.fd.again p1.2.1,K1.fs.again p2.2.1,K1.ne,(sb.2 D K1.ne.symm).trans p1.1,⟨c2,hc2⟩,fun j b hj=>?_⟩;rcases Nat.lt_or_ge j ks.length with hjl |hjl
    . rw[List.getElem?_append_left hjl]at hj;exact hS2.seqT (K1.hk j b hj)
    . rw[List.getElem?_append_right hjl]at hj
      have hj0:j-ks.length=0:=by have:=(List.getElem?_eq_some_iff.mp hj).1;simp at this;lia
      rw[hj0]at hj
      cases Option.some.inj hj
      rw[show j=i by lia];exact ka
  . obtain⟨H',ks,hkl,hS,K'⟩:=hd;obtain⟨c,hc⟩:=K'.hs
    try dsimp only
    refine wpAny_bind (listItems_at hc rfl ?_);exact h H' s' ks hkl hS K'
theorem zky{P:PySem.Fin -> Shared -> Prop}{c0:Nat}(F:zhq X σ H0 f xs κV)
  (I:Inv X pins σ H0 s) (fb:FpOk X pins H0 D) (hd:s.heap.get? D=some (seqObj "list" vs.toArray c0)) (r:Vals xs vs) (hz:xs.length<=sizeLine)
  (h:∀e H' s' ks st,ks.length=vs.length->Same H0 H'->SK X pins σ H' s' D st e κV ks->wpAny (model X.prog X.w) X.A.in1.in1 (ksk_end D false vs.toArray e (.ref st) (ks.map Value.ref).toArray) P E s') :
  wpAny (model X.prog X.w) X.A.in1.in1 (ksk_tree D (.ref f) false) P E s:=by
 have hlx:xs.length=vs.length:=r.length;have s1:=Heap.SameBut.update s.heap D (Obj.mapSeq fun _=>(#[]:Array Value));obtain⟨e1,ho1⟩:∃e1,(s.heap.update D (Obj.mapSeq fun _=>(#[]:Array Value))).get? D=some (seqObj "list" #[] e1):=⟨_,get?_update_seq hd fun _=>#[]⟩;have hDl:D<s.heap.objs.size:=Heap.lt_size hd;unfold ksk_tree;refine wpAny_bind (listItems_at hd rfl ?_);refine wpAny_bind (listUpdate_at hd rfl ?_ (by simp;lia) (Nat.zero_le _));refine wpAny_bind (seqEpoch_at ho1 rfl ?_);refine wpAny_bind (wpAny_newTuple ?_ (by simp;lia));refine wpAny_bind (wpAny_newList ?_ (Nat.zero_le _));refine wpAny_holding ?_
 have I1:Inv X pins σ H0 { s with heap:=s.heap.update D (Obj.mapSeq fun _=>(#[]:Array Value)) }:=I.moved (t':=s.toks) fb (fun b o hb e=>(s1.2 b fun z=>hb (by simp[z])).trans e);have keep:∀b o,(s.heap.update D (Obj.mapSeq fun _=>(#[]:Array Value))).get? b=some o->(((s.heap.update D (Obj.mapSeq fun _=>(#[]:Array Value))).push (seqObj "tuple" vs.toArray.toList.toArray 0)).push (seqObj "list" #[] 0)).get? b=some o:=fun b o q=>Heap.get?_push_of_some _ (Heap.get?_push_of_some _ q)
 have hsz:((s.heap.update D (Obj.mapSeq fun _=>(#[]:Array Value))).push (seqObj "tuple" vs.toArray.toList.toArray 0)).objs.size=s.heap.objs.size+1:=by rw[size_push',Heap.size_update]
 have I2:Inv X pins σ H0 { s with heap:=((s.heap.update D (Obj.mapSeq fun _=>(#[]:Array Value))).push (seqObj "tuple" vs.toArray.toList.toArray 0)).push (seqObj "list" #[] 0) }:=I1.kept (t':=s.toks) keep;show wpAny (model X.prog X.w) X.A.in1.in1 (ksk_rest D (.ref f) false vs.toArray _ (.ref ((s.heap.update D (Obj.mapSeq fun _=>(#[]:Array Value))).push (seqObj "tuple" vs.toArray.toList.toArray 0)).objs.size)) P E { s with heap:=((s.heap.update D (Obj.mapSeq fun _=>(#[]:Array Value))).push (seqObj "tuple" vs.toArray.toList.toArray 0)).push (seqObj "list" #[] 0) };rw[hsz];have hss:(((s.heap.update D (Obj.mapSeq fun _=>(#[]:Array Value))).push (seqObj "tuple" vs.toArray.toList.toArray 0)).push (seqObj "list" #[] 0)).get? (s.heap.objs.size+1)=some (seqObj "list" #[] 0):=by rw[<- hsz];exact Heap.get?_push_size _ rfl
 exact zkA F ⟨I2,fb,I.fpOk (Nat.le_succ _) (I.hok.fresh (Nat.le_succ _)),Nat.ne_of_gt (Nat.lt_succ_of_lt hDl),keep _ _ ho1,⟨0,by simpa using hss⟩,fun i a ha=>by simp at ha⟩ r hz fun H' s' ks a b c=>h _ H' s' ks _ a b c
end
section
variable {X:Cx}{k:Nat}{f:Addr}{fd:FuncData}{ps:List Str}{sp:Sp}{pins:List (Addr×Obj)}{σ:St}{H0:Hp}{s:Shared}{l:Addr}{κV:Nat->List V}{G:Array Nat->Prop}{xs:List V}{Q:VK}
theorem zhK(F:zhq X σ H0 f xs κV)
  (hl:SqL X.K H0 l xs) (hG:∀p,G p->∀i∈p.toList,i<xs.length) (h0:xs.length<2->G (List.toArray (List.range xs.length)))
  (core:∀{vs:List Value} {ks:List Addr} {H':Hp} {s':Shared} {D st:Addr} {e:Nat},Vals xs vs->SK X pins σ H' s' D st e κV ks->ks.length=vs.length->2<=vs.length->zhr X G (ks.map Value.ref) vs X.xe s')
  (hQ:∀p D H',G p->p.size=xs.length->H0 D=none->Same H0 H'->H' D=some (.lst (outV xs p))->Q (.ref D) H') (I:Inv X pins σ H0 s) :
  wpAny (model X.prog X.w) X.A (call (.builtin "sorted") [.ref l] [(Str.ofString "key",.ref f)]) (EP X pins σ Q) X.xe s:=by
 obtain⟨vs,r,pl,hz⟩:=I.list hl;have hlx:xs.length=vs.length:=r.length;refine call_function_entry_kw kind_sorted plain_sorted entry_sorted (ksk_s1 _ _) ?_
 unfold Builtin.«sorted»;refine wpAny_bind (m:=checkCount "sorted" 1 1 _) (wpAny_pure ?_);refine wpAny_bind (collect_list pl.isList ?_ (by first |lia | (rw[List.size_toArray];lia) | (simp;lia)));refine wpAny_bind (wpAny_newList ?_ (by first |lia | (rw[List.size_toArray];lia) | (simp;lia)));have hsz:((s.heap.push (seqObj "list" #[] 0)).update s.heap.objs.size (Obj.mapSeq (·++vs.toArray))).objs.size=s.heap.objs.size+1:=by rw[Heap.size_update,size_push']
 have hoL:(((s.heap.push (seqObj "list" #[] 0)).update s.heap.objs.size (Obj.mapSeq (·++vs.toArray))).push (seqObj "list" vs.toArray 0)).get? (s.heap.objs.size+1)=some (seqObj "list" vs.toArray 0):=by rw[<- hsz];exact Heap.get?_push_size _ rfl
 have keep:∀b o,s.heap.get? b=some o->(((s.heap.push (seqObj "list" #[] 0)).update s.heap.objs.size (Obj.mapSeq (·++vs.toArray))).push (seqObj "list" vs.toArray 0)).get? b=some o:=fun b o q=>by have hlt:b<s.heap.objs.size:=Heap.lt_size q;rw[Heap.get?_push_ne _ _ _ (by rw[hsz];exact Nat.ne_of_lt (Nat.lt_succ_of_lt hlt)),Heap.get?_update_ne _ _ _ _ (Nat.ne_of_lt hlt),Heap.get?_push_ne _ _ _ (Nat.ne_of_lt hlt)];exact q
 show wpAny _ _ _ _ _ { s with heap:=((s.heap.push (seqObj "list" #[] 0)).update s.heap.objs.size (Obj.mapSeq (·++vs.toArray))).push (seqObj "list" vs.toArray 0) };rw[hsz];refine wpAny_bind (wpAny_holding (wpAny_call_entry_kw slot_list_sort ⟨_,hoL,rfl⟩ entry_list_sort ?body (ksk_l1 _ _)))
 case body =>
  show wpAny (model X.prog X.w) X.A.in1.in1 (Builtin.«list.sort» ⟨[.ref (s.heap.objs.size+1)],[(Str.ofString "key",.ref f)]⟩) _ _ _;rw[ksk_t1];have I1:Inv X pins σ H0 { s with heap:=((s.heap.push (seqObj "list" #[] 0)).update s.heap.objs.size (Obj.mapSeq (·++vs.toArray))).push (seqObj "list" vs.toArray 0) }:=I.kept (t':=s.toks) keep;have hDn:H0 (s.heap.objs.size+1)=none:=I.hok.fresh (Nat.le_succ _);refine zky F I1 (I.fpOk (Nat.le_succ _) hDn) hoL r hz fun e H' s' ks st hks hS K=>?_
  refine zlj K hks r hz hG (fun h2=>by rw[<- hlx];exact h0 (by lia)) (core r K hks) fun p s2 g hp I2=>⟨_,rfl,?_⟩
  refine wpAny_pure ⟨_,rfl,.ref (s.heap.objs.size+1),_,I2,rfl,hQ p _ _ g hp hDn (fun b o q=>?_) zaa⟩;rw[zai (zam q hDn)];exact hS b o q
end
section
variable {X:Cx}{x:Str}{p pos kp kpos:Pos}{e:Expr}{te:TE}{k:Nat}{f:Addr}{fd:FuncData}{ps:List Str}{sp:Sp}{fn:Str}
def tMinK(K:W.Frag)(te:TE)(sp:Sp):TE:=fun σ H Q=>te σ H fun v H1=>∃l xs,∃ κ:Nat->List Int,[v]=[V.ref l]/\SqL K H1 l xs/\0<xs.length /\
 (∀i x H2,xs[i]?=some x->Same H1 H2->sp [x] H2 (fun v H'=>Same H2 H'/\∃a,v=.ref a/\SqT K H' a ((κ i).map V.int)) E0)/\∀i x H',xs[i]?=some x->Least κ xs.length i->Same H1 H'->Q x H'
theorem zkH (F:FnOk X.prog X.w X.K X.mg X.base CX0 k f fd ps sp) (hr:Room (k + 1) X.A) (hb:Binds X.K fd ps []) (hg:Gl X "min") (hm:X.mg "min" = none) (hgf:Gl X fn) (hmf:X.mg fn=some (.ref f)) (he:PE X e te)
  (hdb:(fn == ("__debug__" : Str))=false:=by decide) (hse:starEach [e] X.env=[(false,eval e X.env)]:=by rfl) (hh:X.calm=true:=by rfl)
  (hall:(backToKw pos (keywordEach [⟨some "key",.Name fn kp,kpos⟩] X.env)).all (·.1.isSome)=true:=by rfl) (hkw:(backToKw pos (keywordEach [⟨some "key",.Name fn kp,kpos⟩] X.env)).any (·.1.isNone)=false:=by rfl)
  (hks:(backToKw pos (keywordEach [⟨some "key",.Name fn kp,kpos⟩] X.env)).filterMap (·.1)=[Str.ofString "key"]:=by rfl) :
  PE X (.Call (.Name "min" p) [e] [⟨some "key",.Name fn kp,kpos⟩] pos) (tMinK X.K te sp):=by
 intro pins s σ H Q I h;refine wpAny_Call_Name_kw (zcx I hg hm boot_min ?_ (by decide) (by decide))
 refine callWith_kw (thn (zaj he zac (hs:=hse) pos pins s σ H (fun vs H1=>∃l xs,∃ κ:Nat->List Int,vs=[V.ref l]/\SqL X.K H1 l xs/\0<xs.length /\
  (∀i x H2,xs[i]?=some x->Same H1 H2->sp [x] H2 (fun v H'=>Same H2 H'/\∃a,v=.ref a/\SqT X.K H' a ((κ i).map V.int)) E0)/\∀i x H',xs[i]?=some x->Least κ xs.length i->Same H1 H'->Q x H') I ?_) fun us s1 ⟨vs,H1,I1,r,q⟩=>?_) (by rw[hse];rfl) (by rw[hse];rfl) hall hkw
 .show te σ H _;exact h
 .obtain⟨l,xs,κ,rfl,hq,hne,turn,hQ⟩:=q;obtain⟨u,rfl,ru⟩:=Vals.one r
  cases (show u=Value.ref l from ru)
  refine thn (zit (nm:=some "key") (kpos:=kpos) (zeK (v:=.ref f) hgf hmf rfl hdb) zj9 pos pins s1 σ H1 (fun zs H2=>zs=[.ref f]/\H2=H1) I1 ⟨rfl,rfl⟩) fun ws s2 ⟨zs,H2,I2,rz,q2⟩=>?_
  obtain⟨rfl,rfl⟩:=q2;obtain⟨u2,rfl,ru2⟩:=Vals.one rz
  cases (show u2=Value.ref f from ru2)
  rw[hks];exact zjf (I1.ok.hd hh) F hr hb turn hq hne hQ I2
theorem zje (hu:X.A.units + 1 < cLine) (hh:X.calm=true):CallR X (.builtin "min") (fun vs H Q => ∃l xs, ∃ κ : Nat -> List Int, vs = [.ref l] /\ SqL X.K H l xs /\ 0 < xs.length /\
  (∀i x,xs[i]?=some x->∃a,x=.ref a/\SqT X.K H a ((κ i).map V.int))/\∀i x H',xs[i]?=some x->Least κ xs.length i->Same H H'->Q x H'):=by
 intro pins s σ H vs us Q I r h;obtain⟨l,xs,κ,rfl,hq,hne,turn,hQ⟩:=h;obtain⟨u,rfl,ru⟩:=Vals.one r
 cases (show u=Value.ref l from ru)
 exact zjd (I.ok.hd hh) hu turn hq hne hQ I
end
end L2
namespace TS
open PySem PyProof.Rows
def zdT:Bool->Keyed->Array Keyed->Nat->Nat->Nat->StateT SortSt Sem (Option Nat):=sortPriv% PySem.Builtin.gallop
def zg5:Array Keyed->Array Keyed->StateT SortSt Sem (Array Keyed):=sortPriv% PySem.Builtin.mergeLo
def zg6:Array Keyed->Array Keyed->StateT SortSt Sem (Array Keyed):=sortPriv% PySem.Builtin.mergeHi
structure LtOk (M:Model) (A:Around) (E:Value->Shared->Prop) (s:Shared) (kd:SortKind) (S:Keyed->Prop) (L:Keyed->Keyed->Bool):Prop where
 lt:∀x y,S x->S y->∀(st:SortSt) (Q:Option Bool->SortSt->Prop),kindOf st=kd->Q (some (L x y)) st->wpS M A E s (lt' x y) Q st
 tr:∀x y z,S x->S y->S z->L y x=false->L z y=false->L z x=false
 as:∀x y,S x->S y->L x y=true->L y x=false
section
variable {M:Model}{A:Around}{E:Value->Shared->Prop}{s:Shared}{kd:SortKind}{S:Keyed->Prop}{L:Keyed->Keyed->Bool}
theorem zak{arr:Array Keyed}{i:Nat}{x:Keyed}{st:SortSt}{Q:Keyed->SortSt->Prop}(h:arr[i]?=some x)(q:Q x st):wpS M A E s (elem' arr i) Q st:=by rw[elem'_eq,h];exact wpS_pure q
theorem zbT (O : LtOk M A E s kd S L){left : Bool}{key : Keyed}{arr : Array Keyed}{base n hint : Nat}{b : Nat → Bool}{Q : Option Nat → SortSt → Prop}{st : SortSt}(hk : kindOf st = kd) (hS : S key)
    (hb:∀ i,i<n→∃ x,arr[base+i]?=some x∧S x∧(if left=true then L x key else !L key x)=b i) (mono:∀ i j,i≤j→j<n→b j=true→b i=true) (hh:hint<n)
    (hQ:∀ k,k≤n→(∀ i,i<k→b i=true)→(∀ i,k≤i→i<n→b i=false)→Q (some k) st):wpS M A E s (zdT left key arr base n hint) Q st:=by
  have bey : ∀ i, i < n → ∀ (Q' : Option Bool → SortSt → Prop), Q' (some (b i)) st → wpS M A E s ((fun i => do
        let x ← elem' arr (base+i)
        if left=true then lt' x key
          else do
            let r ← lt' key x
            pure (Option.map (fun x=>!x) r)) i) Q' st:=fun i hi Q' q=>by
    obtain⟨x,e,sx,eb⟩:=hb i hi
    refine wpS_bind (zak e ?_)
    cases left with
    | true =>
      rw[if_pos rfl] at eb ⊢
      exact O.lt x key sx hS st Q' hk (by rw[eb];exact q)
    | false =>
      rw[if_neg (by simp)] at eb ⊢
      refine wpS_bind (O.lt key x hS sx st _ hk (wpS_pure ?_))
      show Q' (some (!L key x)) st
      rw[eb];exact q
  refine wpS_bind (bey hint hh _ ?_)
  dsimp only
  cases hbh:b hint with
  | true =>
    rw[if_pos rfl]
    refine wpS_bind (wpS_mono (wpS_forRange (I:=fun x c st'=>st'=st∧∃ la of,c=(none,la,of)∧la<n - hint∧la<of∧x+1≤of∧b (hint+la)=true)
      (Q:=fun c st'=>st'=st∧∃ la of,c=(none,la,of)∧la<n - hint∧la<of∧b (hint+la)=true∧(of<n - hint→b (hint+of)=false)) ?_ ?_ ⟨rfl,0,1,rfl,by lia,by lia,by lia,hbh⟩) ?_)
    . rintro x c st' _ hx ⟨rfl,la,of,rfl,g1,g2,g3,g4⟩
      dsimp only
      by_cases hge:of ≥ n - hint
      . rw[if_pos hge]
        exact wpS_pure ⟨rfl,la,of,rfl,g1,g2,g4,fun z=>absurd z (by lia)⟩
      . rw[if_neg hge]
        refine wpS_bind (bey (hint+of) (by lia) _ ?_)
        dsimp only
        cases hbo:b (hint+of) with
        | true =>
          rw[if_neg (by simp)]
          exact wpS_pure ⟨rfl,of,2*of+1,rfl,by lia,by lia,by lia,hbo⟩
        | false =>
          rw[if_pos (by simp)]
          exact wpS_pure ⟨rfl,la,of,rfl,g1,g2,g4,fun _=>hbo⟩
    . rintro c st' ⟨rfl,la,of,rfl,g1,g2,g3,g4⟩
      exact⟨rfl,la,of,rfl,g1,g2,g4,fun z=>absurd z (by simp at g3;lia)⟩
    . rintro c st' ⟨rfl,la,of,rfl,g1,g2,g3,g4⟩
      dsimp only
      have hlo:∀ i,i<hint+la+1→b i=true:=fun i hi=>mono i (hint+la) (by lia) (by lia) g3
      have hhi:∀ i,hint+min of (n - hint)≤i→i<n→b i=false:=fun i h1 h2=>by
        by_cases ho:of<n - hint
        . cases q:b i with
          | false=>rfl
          | true =>
            have:=mono (hint+of) i (by lia) h2 q
            rw[g4 ho] at this;cases this
        . exact absurd h2 (by lia)
      refine wpS_bind (wpS_mono (wpS_forRange (I:=fun x c z=>z=st'∧∃ lo hi,c=(none,lo,hi)∧lo≤hi∧hi≤n∧(hi - lo)+x≤n∧(∀ i,i<lo→b i=true)∧∀ i,hi≤i→i<n→b i=false)
        (Q:=fun c z=>z=st'∧∃ k,c=(none,k,k)∧k≤n∧(∀ i,i<k→b i=true)∧∀ i,k≤i→i<n→b i=false) ?_ ?_ ⟨rfl,hint+la+1,hint+min of (n - hint),rfl,by lia,by lia,by lia,hlo,hhi⟩) ?_)
      . rintro x c st'' _ hx ⟨rfl,lo,hi,rfl,g1,g2,g3,g4,g5⟩
        dsimp only
        by_cases hge:lo ≥ hi
        . rw[if_pos hge]
          have e:lo=hi:=by lia
          subst e
          exact wpS_pure ⟨rfl,lo,rfl,g2,g4,g5⟩
        . rw[if_neg hge]
          have hm:lo+(hi - lo) / 2<n:=by lia
          refine wpS_bind (bey _ hm _ ?_)
          dsimp only
          cases hbm:b (lo+(hi - lo) / 2) with
          | true =>
            rw[if_pos rfl]
            refine wpS_pure ⟨rfl,_,_,rfl,by lia,g2,by lia,fun i hi'=>?_,g5⟩
            exact mono i _ (by lia) hm hbm
          | false =>
            rw[if_neg (by simp)]
            refine wpS_pure ⟨rfl,_,_,rfl,by lia,by lia,by lia,g4,fun i hi1 hi2=>?_⟩
            cases q:b i with
            | false=>rfl
            | true=>rw[mono _ i hi1 hi2 q] at hbm;cases hbm
      . rintro c st'' ⟨rfl,lo,hi,rfl,g1,g2,g3,g4,g5⟩
        have e:lo=hi:=by simp at g3;lia
        subst e
        exact⟨rfl,lo,rfl,g2,g4,g5⟩
      . rintro c st'' ⟨rfl,k,rfl,g1,g2,g3⟩
        exact wpS_pure (hQ k g1 g2 g3)
  | false =>
    rw[if_neg (by simp)]
    refine wpS_bind (wpS_mono (wpS_forRange (I:=fun x c st'=>st'=st∧∃ la of,c=(none,la,of)∧la<hint+1∧la<of∧x+1≤of∧b (hint - la)=false)
      (Q:=fun c st'=>st'=st∧∃ la of,c=(none,la,of)∧la<hint+1∧la<of∧b (hint - la)=false∧(of<hint+1→b (hint - of)=true)) ?_ ?_ ⟨rfl,0,1,rfl,by lia,by lia,by lia,hbh⟩) ?_)
    . rintro x c st' _ hx ⟨rfl,la,of,rfl,g1,g2,g3,g4⟩
      dsimp only
      by_cases hge:of ≥ hint+1
      . rw[if_pos hge]
        exact wpS_pure ⟨rfl,la,of,rfl,g1,g2,g4,fun z=>absurd z (by lia)⟩
      . rw[if_neg hge]
        refine wpS_bind (bey (hint - of) (by lia) _ ?_)
        dsimp only
        cases hbo:b (hint - of) with
        | true =>
          rw[if_pos rfl]
          exact wpS_pure ⟨rfl,la,of,rfl,g1,g2,g4,fun _=>hbo⟩
        | false =>
          rw[if_neg (by simp)]
          exact wpS_pure ⟨rfl,of,2*of+1,rfl,by lia,by lia,by lia,hbo⟩
    . rintro c st' ⟨rfl,la,of,rfl,g1,g2,g3,g4⟩
      exact⟨rfl,la,of,rfl,g1,g2,g4,fun z=>absurd z (by simp at g3;lia)⟩
    . rintro c st' ⟨rfl,la,of,rfl,g1,g2,g3,g4⟩
      dsimp only
      have hlo:∀ i,i<hint+1 - min of (hint+1)→b i=true:=fun i hi=>by
        by_cases ho:of<hint+1
        . exact mono i (hint - of) (by lia) (by lia) (g4 ho)
        . exact absurd hi (by lia)
      have hhi:∀ i,hint - la≤i→i<n→b i=false:=fun i h1 h2=>by
        cases q:b i with
        | false=>rfl
        | true =>
          have:=mono (hint - la) i (by lia) h2 q
          rw[g3] at this;cases this
      refine wpS_bind (wpS_mono (wpS_forRange (I:=fun x c z=>z=st'∧∃ lo hi,c=(none,lo,hi)∧lo≤hi∧hi≤n∧(hi - lo)+x≤n∧(∀ i,i<lo→b i=true)∧∀ i,hi≤i→i<n→b i=false)
        (Q:=fun c z=>z=st'∧∃ k,c=(none,k,k)∧k≤n∧(∀ i,i<k→b i=true)∧∀ i,k≤i→i<n→b i=false) ?_ ?_ ⟨rfl,hint+1 - min of (hint+1),hint - la,rfl,by lia,by lia,by lia,hlo,hhi⟩) ?_)
      . rintro x c st'' _ hx ⟨rfl,lo,hi,rfl,g1,g2,g3,g4,g5⟩
        dsimp only
        by_cases hge:lo ≥ hi
        . rw[if_pos hge]
          have e:lo=hi:=by lia
          subst e
          exact wpS_pure ⟨rfl,lo,rfl,g2,g4,g5⟩
        . rw[if_neg hge]
          have hm:lo+(hi - lo) / 2<n:=by lia
          refine wpS_bind (bey _ hm _ ?_)
          dsimp only
          cases hbm:b (lo+(hi - lo) / 2) with
          | true =>
            rw[if_pos rfl]
            refine wpS_pure ⟨rfl,_,_,rfl,by lia,g2,by lia,fun i hi'=>?_,g5⟩
            exact mono i _ (by lia) hm hbm
          | false =>
            rw[if_neg (by simp)]
            refine wpS_pure ⟨rfl,_,_,rfl,by lia,by lia,by lia,g4,fun i hi1 hi2=>?_⟩
            cases q:b i with
            | false=>rfl
            | true=>rw[mono _ i hi1 hi2 q] at hbm;cases hbm
      . rintro c st'' ⟨rfl,lo,hi,rfl,g1,g2,g3,g4,g5⟩
        have e:lo=hi:=by simp at g3;lia
        subst e
        exact⟨rfl,lo,rfl,g2,g4,g5⟩
      . rintro c st'' ⟨rfl,k,rfl,g1,g2,g3⟩
        exact wpS_pure (hQ k g1 g2 g3)
end
end TS
namespace TS
section
variable {α:Type}{le:α->α->Prop}
structure MI (le:α->α->Prop) (a b out:List α) (ia ib:Nat):Prop where
 ha:ia<=a.length
 hb:ib<=b.length
 perm:(out++a.drop ia++b.drop ib).Perm (a++b)
 sorted:out.Pairwise le
 lea:∀x∈out,∀y∈a.drop ia,le x y
 leb:∀x∈out,∀y∈b.drop ib,le x y
theorem zcF(a:List α)(i k:Nat):a.drop i=(a.drop i).take k++a.drop (i+k):=by rw[<- List.drop_drop,List.take_append_drop]
theorem MI.takeA{a b out:List α}{ia ib:Nat}(m:MI le a b out ia ib)(sa:a.Pairwise le)(k:Nat)(hk:ia + k <= a.length)(h:∀x ∈ (a.drop ia).take k, ∀y ∈ b.drop ib, le x y) :
  MI le a b (out++(a.drop ia).take k) (ia+k) ib:=by
 have e:=zcF a ia k;have sd:((a.drop ia).take k++a.drop (ia+k)).Pairwise le:=by rw[<- e];exact sa.sublist (List.drop_sublist _ _)
 obtain⟨s1,s2,s3⟩:=List.pairwise_append.mp sd;refine⟨hk,m.hb,?_,List.pairwise_append.mpr ⟨m.sorted,s1,fun x hx y hy=>m.lea x hx y ?_⟩,fun x hx y hy=>?_,fun x hx y hy=>?_⟩
 .have:=m.perm;rw[e]at this;simpa[List.append_assoc]using this
 .rw[e];exact List.mem_append_left _ hy
 .rcases List.mem_append.mp hx with q |q
  .exact m.lea x q y (by rw[e];exact List.mem_append_right _ hy)
  .exact s3 x q y hy
 .rcases List.mem_append.mp hx with q |q
  .exact m.leb x q y hy
  .exact h x q y hy
theorem MI.takeB{a b out:List α}{ia ib:Nat}(m:MI le a b out ia ib)(sb:b.Pairwise le)(k:Nat)(hk:ib + k <= b.length)(h:∀x ∈ (b.drop ib).take k, ∀y ∈ a.drop ia, le x y) :
  MI le a b (out++(b.drop ib).take k) ia (ib+k):=by
 have e:=zcF b ib k;have sd:((b.drop ib).take k++b.drop (ib+k)).Pairwise le:=by rw[<- e];exact sb.sublist (List.drop_sublist _ _)
 obtain⟨s1,s2,s3⟩:=List.pairwise_append.mp sd;refine⟨m.ha,hk,?_,List.pairwise_append.mpr ⟨m.sorted,s1,fun x hx y hy=>m.leb x hx y ?_⟩,fun x hx y hy=>?_,fun x hx y hy=>?_⟩
 .have:=m.perm;rw[e]at this;refine List.Perm.trans ?_ this;rw[List.append_assoc,List.append_assoc,List.append_assoc,<- List.append_assoc ((b.drop ib).take k),<- List.append_assoc (a.drop ia)];exact List.Perm.append_left _ (List.Perm.append_right _ List.perm_append_comm)
 .rw[e];exact List.mem_append_left _ hy
 .rcases List.mem_append.mp hx with q |q
  .exact m.lea x q y hy
  .exact h x q y hy
 .rcases List.mem_append.mp hx with q |q
  .exact m.leb x q y (by rw[e];exact List.mem_append_right _ hy)
  .exact s3 x q y hy
def Res(le:α->α->Prop)(a b r:List α):Prop:=r.Perm (a++b)/\r.Pairwise le
theorem MI.done{a b out:List α}{ia ib:Nat}(m:MI le a b out ia ib)(sa:a.Pairwise le)(h:b.length<=ib):Res le a b (out++a.drop ia++b.drop ib):=by refine⟨m.perm,?_⟩;rw[List.drop_of_length_le h,List.append_nil];exact List.pairwise_append.mpr ⟨m.sorted,sa.sublist (List.drop_sublist _ _),m.lea⟩
theorem MI.lastA{a b out:List α}{ia ib:Nat}(m:MI le a b out ia ib)(sa:a.Pairwise le)(sb:b.Pairwise le)(h:∀x∈b.drop ib,∀y∈a.drop ia,le x y):Res le a b (out++b.drop ib++a.drop ia):=by
 refine⟨?_,?_⟩
 .refine List.Perm.trans ?_ m.perm;rw[List.append_assoc,List.append_assoc];exact List.Perm.append_left _ List.perm_append_comm
 .refine List.pairwise_append.mpr ⟨List.pairwise_append.mpr ⟨m.sorted,sb.sublist (List.drop_sublist _ _),m.leb⟩,sa.sublist (List.drop_sublist _ _),fun x hx y hy=>?_⟩;rcases List.mem_append.mp hx with q |q
  .exact m.lea x q y hy
  .exact h x q y hy
theorem MI.start{a b:List α}{y:α}(sb:b.Pairwise le)(h0:b[0]?=some y)(h:∀x∈a,le y x):MI le a b [y] 0 1:=by
 cases b with
 |nil=>cases h0
 |cons z r =>
  cases h0
  obtain⟨s1,s2⟩:=List.pairwise_cons.mp sb;refine⟨Nat.zero_le _,by simp,?_,by simp,fun x hx w hw=>?_,fun x hx w hw=>?_⟩
  .show ([y]++a++r).Perm (a++y::r);exact List.perm_middle.symm
  .rw[List.mem_singleton.mp hx];exact h w hw
  .rw[List.mem_singleton.mp hx];exact s1 w hw
end
end TS
namespace TS
open PySem PyProof.Rows
def Like(st st':SortSt):Prop:=kindOf st'=kindOf st/\arrOf st'=arrOf st/\pendingOf st'=pendingOf st/\failedOf st'=failedOf st
theorem Like.refl(st:SortSt):Like st st:=⟨rfl,rfl,rfl,rfl⟩
abbrev leOf(L:Keyed->Keyed->Bool):Keyed->Keyed->Prop:=fun x y=>L y x=false
section
variable {M:Model}{A:Around}{E:Value->Shared->Prop}{s:Shared}{kd:SortKind}{S:Keyed->Prop}{L:Keyed->Keyed->Bool}
theorem LtOk.rf(O:LtOk M A E s kd S L){x:Keyed}(h:S x):L x x=false:=by
 cases q:L x x with
 |false=>rfl
 |true=>rw[O.as x x h h q]at q;cases q
structure Two (S:Keyed->Prop) (L:Keyed->Keyed->Bool) (a b:Array Keyed):Prop where
 sa:a.toList.Pairwise (leOf L)
 sb:b.toList.Pairwise (leOf L)
 Sa:∀x∈a.toList,S x
 Sb:∀x∈b.toList,S x
theorem zat{a:Array Keyed}{i:Nat}{x:Keyed}(h:a[i]?=some x):x∈a.toList:=by
 have:a.toList[i]?=some x:=by simpa using h
 exact List.mem_of_getElem? this
theorem zcc{a:Array Keyed}{i:Nat}{x:Keyed}(h:a[i]?=some x):a.toList.drop i=x::a.toList.drop (i+1):=by
 have hl:i<a.toList.length:=by have:=(Array.getElem?_eq_some_iff.mp h).1;simpa using this
 rw[List.drop_eq_getElem_cons hl]
 congr 1
 have:=(Array.getElem?_eq_some_iff.mp h).2;simpa using this
theorem zcw{a:Array Keyed}(O:LtOk M A E s kd S L)(sa:a.toList.Pairwise (leOf L))(Sa:∀x∈a.toList,S x){i:Nat}{x y:Keyed}(h:a[i]?=some x)(hy:y∈a.toList.drop i):leOf L x y:=by
 rw[zcc h]at hy;rcases List.mem_cons.mp hy with e |q
 .rw[e];exact O.rf (Sa x (zat h))
 .have:=sa.sublist (List.drop_sublist i _);rw[zcc h]at this;exact (List.pairwise_cons.mp this).1 y q
variable {a b:Array Keyed}{out:Array Keyed}{ia ib:Nat}
theorem one_B(O:LtOk M A E s kd S L)(T:Two S L a b)(m:MI (leOf L) a.toList b.toList out.toList ia ib){x y:Keyed}(hb:b[ib]? = some x)(ha:a[ia]? = some y)(h:L x y=true) :
  MI (leOf L) a.toList b.toList (out.push x).toList ia (ib+1):=by
 have e:(b.toList.drop ib).take 1=[x]:=by rw[zcc hb];rfl
 have hl:ib+1<=b.toList.length:=by have:=(Array.getElem?_eq_some_iff.mp hb).1;rw[Array.length_toList];exact this
 have:=m.takeB T.sb 1 hl fun z hz w hw=>by rw[e]at hz;rw[List.mem_singleton.mp hz];have h1:leOf L x y:=O.as x y (T.Sb x (zat hb)) (T.Sa y (zat ha)) h;exact O.tr x y w (T.Sb x (zat hb)) (T.Sa y (zat ha)) (T.Sa w (List.mem_of_mem_drop hw)) h1 (zcw O T.sa T.Sa ha hw)
 rw[e]at this;rw[Array.toList_push];exact this
theorem one_A(O:LtOk M A E s kd S L)(T:Two S L a b)(m:MI (leOf L) a.toList b.toList out.toList ia ib){x y:Keyed}(hb:b[ib]? = some x)(ha:a[ia]? = some y)(h:L x y=false) :
  MI (leOf L) a.toList b.toList (out.push y).toList (ia+1) ib:=by
 have e:(a.toList.drop ia).take 1=[y]:=by rw[zcc ha];rfl
 have hl:ia+1<=a.toList.length:=by have:=(Array.getElem?_eq_some_iff.mp ha).1;rw[Array.length_toList];exact this
 have:=m.takeA T.sa 1 hl fun z hz w hw=>by rw[e]at hz;rw[List.mem_singleton.mp hz];exact O.tr y x w (T.Sa y (zat ha)) (T.Sb x (zat hb)) (T.Sb w (List.mem_of_mem_drop hw)) h (zcw O T.sb T.Sb hb hw)
 rw[e]at this;rw[Array.toList_push];exact this
theorem zcB(a:Array Keyed)(i k:Nat):(a.extract i (i+k)).toList=(a.toList.drop i).take k:=by rw[Array.toList_extract,List.extract_eq_take_drop,Nat.add_sub_cancel_left]
theorem zeV{a:Array Keyed}{i k:Nat}{x:Keyed}(h:x∈(a.toList.drop i).take k):∃j,j<k/\a[i+j]?=some x:=by
 obtain⟨j,hj,e⟩:=List.getElem_of_mem h
 have hk:j<k:=by have:=hj;rw[List.length_take]at this;lia
 refine⟨j,hk,?_⟩;have h1:((a.toList.drop i).take k)[j]?=some x:=by rw[List.getElem?_eq_getElem hj,e]
 rw[List.getElem?_take_of_lt hk,List.getElem?_drop]at h1;simpa using h1
theorem blk_A(O:LtOk M A E s kd S L)(T:Two S L a b)(m:MI (leOf L) a.toList b.toList out.toList ia ib){x:Keyed}(hb:b[ib]? = some x)(k:Nat)(hk:ia + k <= a.size)(h:∀j y, j < k -> a[ia + j]? = some y -> L x y=false) :
  MI (leOf L) a.toList b.toList (out++a.extract ia (ia+k)).toList (ia+k) ib:=by
 rw[Array.toList_append,zcB];refine m.takeA T.sa k (by rw[Array.length_toList];exact hk) fun z hz w hw=>?_
 obtain⟨j,hj,e⟩:=zeV hz;exact O.tr z x w (T.Sa z (zat e)) (T.Sb x (zat hb)) (T.Sb w (List.mem_of_mem_drop hw)) (h j z hj e) (zcw O T.sb T.Sb hb hw)
theorem blk_B(O:LtOk M A E s kd S L)(T:Two S L a b)(m:MI (leOf L) a.toList b.toList out.toList ia ib){y:Keyed}(ha:a[ia]? = some y)(k:Nat)(hk:ib + k <= b.size)(h:∀j x, j < k -> b[ib + j]? = some x -> L x y=true) :
  MI (leOf L) a.toList b.toList (out++b.extract ib (ib+k)).toList ia (ib+k):=by
 rw[Array.toList_append,zcB];refine m.takeB T.sb k (by rw[Array.length_toList];exact hk) fun z hz w hw=>?_
 obtain⟨j,hj,e⟩:=zeV hz;exact O.tr z y w (T.Sb z (zat e)) (T.Sa y (zat ha)) (T.Sa w (List.mem_of_mem_drop hw)) (O.as z y (T.Sb z (zat e)) (T.Sa y (zat ha)) (h j z hj e)) (zcw O T.sa T.Sa ha hw)
theorem zj4(O:LtOk M A E s kd S L)(T:Two S L a b){st:SortSt}(hk:kindOf st=kd){x:Keyed}(Sx:S x)(hi:ia < a.size){Q:Option Nat -> SortSt -> Prop}
  (hQ:∀k,ia+k<=a.size->(∀j y,j<k->a[ia+j]?=some y->L x y=false)->(∀j y,k<=j->a[ia+j]?=some y->L x y=true)->Q (some k) st) {hint:Nat} (hh:hint<a.size-ia) :
  wpS M A E s (zdT false x a ia (a.size-ia) hint) Q st:=by
 have at_:∀i,i<a.size-ia->∃y,a[ia+i]?=some y:=fun i h=>⟨a[ia+i],by simp[show ia+i<a.size by lia]⟩
 refine zbT (b:=fun i=>!(a[ia+i]?.elim false fun y=>L x y)) O hk Sx (fun i h=>?_) (fun i j hij hj q=>?_) hh fun k h1 h2 h3=>?_
 .obtain⟨y,e⟩:=at_ i h;exact⟨y,e,T.Sa y (zat e),by rw[if_neg (by simp),e];rfl⟩
 .obtain⟨y,e⟩:=at_ j hj;obtain⟨z,e2⟩:=at_ i (by lia);rw[e]at q;rw[e2];have q1:L x y=false:=by simpa using q
  have le1:leOf L z y:=zcw O T.sa T.Sa e2 (by
   have:y∈(a.toList.drop (ia+i)).drop (j-i):=by rw[List.drop_drop,show ia+i+(j-i)=ia+j by lia,zcc e];exact List.mem_cons_self
   exact List.mem_of_mem_drop this)
  have:L x z=false:=O.tr z y x (T.Sa z (zat e2)) (T.Sa y (zat e)) Sx le1 q1;simpa using this
 .refine hQ k (by lia) (fun j y hj e=>?_) (fun j y hj e=>?_)
  .have:=h2 j hj;rw[e]at this;simpa using this
  .have hlt:j < a.size-ia := by have:=(Array.getElem?_eq_some_iff.mp e).1;lia
   have:=h3 j hj hlt;rw[e]at this;simpa using this
theorem zgQ(O:LtOk M A E s kd S L)(T:Two S L a b){st:SortSt}(hk:kindOf st=kd){y:Keyed}(Sy:S y)(hi:ib < b.size){Q:Option Nat -> SortSt -> Prop}
  (hQ:∀k,ib+k<=b.size->(∀j x,j<k->b[ib+j]?=some x->L x y=true)->(∀j x,k<=j->b[ib+j]?=some x->L x y=false)->Q (some k) st) {hint:Nat} (hh:hint<b.size-ib) :
  wpS M A E s (zdT true y b ib (b.size-ib) hint) Q st:=by
 have at_:∀i,i<b.size-ib->∃x,b[ib+i]?=some x:=fun i h=>⟨b[ib+i],by simp[show ib+i<b.size by lia]⟩
 refine zbT (b:=fun i=>b[ib+i]?.elim false fun x=>L x y) O hk Sy (fun i h=>?_) (fun i j hij hj q=>?_) hh fun k h1 h2 h3=>?_
 .obtain⟨x,e⟩:=at_ i h;exact⟨x,e,T.Sb x (zat e),by rw[if_pos rfl,e];rfl⟩
 .obtain⟨x,e⟩:=at_ j hj;obtain⟨z,e2⟩:=at_ i (by lia);rw[e]at q;rw[e2];have q1:L x y=true:=q;show L z y=true
  have le1:leOf L z x:=zcw O T.sb T.Sb e2 (by
   have:x∈(b.toList.drop (ib+i)).drop (j-i):=by rw[List.drop_drop,show ib+i+(j-i)=ib+j by lia,zcc e];exact List.mem_cons_self
   exact List.mem_of_mem_drop this)
  cases w:L z y with
  |true=>rfl
  |false =>
   have:L x y=false:=O.tr y z x Sy (T.Sb z (zat e2)) (T.Sb x (zat e)) w le1;rw[this]at q1;cases q1
 .refine hQ k (by lia) (fun j x hj e=>?_) (fun j x hj e=>?_)
  .have:=h2 j hj;rw[e]at this;exact this
  .have hlt:j < b.size-ib := by have:=(Array.getElem?_eq_some_iff.mp e).1;lia
   have:=h3 j hj hlt;rw[e]at this;exact this
end
end TS
set_option maxHeartbeats 8000000
namespace TS
open PySem PyProof.Rows
section
variable {M:Model}{A:Around}{E:Value->Shared->Prop}{s:Shared}{kd:SortKind}{S:Keyed->Prop}{L:Keyed->Keyed->Bool}{a b out:Array Keyed}{ia ib:Nat}
theorem zbO(a:Array Keyed)(i:Nat):(a.extract i a.size).toList=a.toList.drop i:=by rw[Array.toList_extract,List.extract_eq_take_drop,List.take_of_length_le (by simp)]
theorem zbU(T:Two S L a b)(m:MI (leOf L) a.toList b.toList out.toList ia ib)(h:b.size<=ib):Res (leOf L) a.toList b.toList (out++a.extract ia a.size++b.extract ib b.size).toList:=by rw[Array.toList_append,Array.toList_append,zbO,zbO];exact m.done T.sa (by rw[Array.length_toList];exact h)
theorem zfK(T:Two S L a b)(m:MI (leOf L) a.toList b.toList out.toList ia ib)(h:a.size<=ia):Res (leOf L) a.toList b.toList (out++a.extract ia a.size++b.extract ib b.size).toList:=by rw[Array.toList_append,Array.toList_append,zbO,zbO];have e:a.toList.drop ia=[]:=List.drop_of_length_le (by rw[Array.length_toList];exact h);refine⟨m.perm,?_⟩;rw[e,List.append_nil];exact List.pairwise_append.mpr ⟨m.sorted,T.sb.sublist (List.drop_sublist _ _),m.leb⟩
theorem zbw(T:Two S L a b)(hl:∀z,a[a.size-1]?=some z->∀x∈b.toList,leOf L x z)(m:MI (leOf L) a.toList b.toList out.toList ia ib)(h:ia+1=a.size):Res (leOf L) a.toList b.toList (out++b.extract ib b.size++a.extract ia a.size).toList:=by
 rw[Array.toList_append,Array.toList_append,zbO,zbO];have hlt:ia<a.size:=by lia
 have e:a[ia]?=some a[ia]:=by simp[hlt]
 refine m.lastA T.sa T.sb fun x hx y hy=>?_
 rw[zcc e,List.drop_of_length_le (by rw[Array.length_toList];lia)]at hy;rw[List.mem_singleton.mp hy];exact hl _ (by rw[show a.size-1=ia by lia];exact e) x (List.mem_of_mem_drop hx)
theorem zfx(O:LtOk M A E s kd S L)(T:Two S L a b){st:SortSt}{Q:Array Keyed -> SortSt -> Prop}(hk:kindOf st=kd)(ha : 0 < a.size)(hb : 0 < b.size)(h0:∀y, b[0]? = some y -> ∀x ∈ a.toList, leOf L y x)
  (hl:∀z,a[a.size-1]?=some z->∀x∈b.toList,leOf L x z) (hQ:∀r st',Res (leOf L) a.toList b.toList r.toList->Like st st'->Q r st'):wpS M A E s (zg5 a b) Q st:=by
 have atA:∀i,i<a.size->∃x,a[i]?=some x:=fun i h=>⟨a[i],by simp[h]⟩
 have atB:∀i,i<b.size->∃x,b[i]?=some x:=fun i h=>⟨b[i],by simp[h]⟩
 obtain⟨b0,e0⟩:=atB 0 hb;have m0:MI (leOf L) a.toList b.toList (#[b0]:Array Keyed).toList 0 1:=MI.start T.sb (by simpa using e0) (h0 b0 e0);refine wpS_bind (wpS_lift (wpAny_rule ⟨rfl,?_⟩));refine wpS_bind (zak e0 ?_);dsimp only
 by_cases hb1:b.size=1
 .rw[if_pos (by simp[hb1])];exact wpS_pure (hQ _ _ (zbU T m0 (by lia)) (Like.refl _))
 rw[if_neg (by simp;lia)]
 by_cases ha1:a.size=1
 .rw[if_pos (by simp[ha1])];exact wpS_pure (hQ _ _ (zbw T hl m0 (by lia)) (Like.refl _))
 rw[if_neg (by simp;lia)];refine wpS_bind (wpS_get ?_)
 refine wpS_bind (wpS_mono (wpS_forRange (I:=fun x c st'=>Like st st'/\∃out ia ib mg,c=(none,out,ia,ib,mg)/\MI (leOf L) a.toList b.toList out.toList ia ib/\ia+1<a.size/\ib<b.size/\x+1<=ia+ib)
  (Q:=fun c st'=>Like st st'/\∃r,c.1=some r/\Res (leOf L) a.toList b.toList r.toList) ?step ?fin ⟨Like.refl _,_,_,_,_,rfl,m0,by lia,by lia,by lia⟩) ?post)
 case fin =>
  rintro c st' ⟨_,out,ia,ib,mg,rfl,m,g1,g2,g3⟩;exact absurd g3 (by lia)
 case post =>
  rintro c st' ⟨lk,r,e,res⟩;rw[e];exact wpS_pure (hQ r st' res lk)
 case step =>
  rintro x c st' _ hx ⟨lk,out,ia,ib,mg,rfl,m,g1,g2,g3⟩;have hk':kindOf st'=kd:=lk.1.trans hk;dsimp only
  refine wpS_bind (wpS_mono (wpS_forRange (I:=fun y c z=>z=st'/\∃out' ia' ib' ac bc,c=(none,out',ia',ib',ac,bc)/\MI (leOf L) a.toList b.toList out'.toList ia' ib'/\ia'+1<a.size/\ib'<b.size/\ia+ib+y<=ia'+ib')
   (Q:=fun c z=>z=st'/\((∃r,c.1=some r/\Res (leOf L) a.toList b.toList r.toList)∨∃out' ia' ib' ac bc,c=(none,out',ia',ib',ac,bc)/\MI (leOf L) a.toList b.toList out'.toList ia' ib'/\ia'+1<a.size/\ib'<b.size/\ia+ib+1<=ia'+ib')) ?istep ?ifin ⟨rfl,out,ia,ib,_,_,rfl,m,g1,g2,by lia⟩) ?ipost)
  case ifin =>
   rintro c z ⟨rfl,out',ia',ib',ac,bc,rfl,m',j1,j2,j3⟩;exact⟨rfl,.inr ⟨out',ia',ib',ac,bc,rfl,m',j1,j2,by lia⟩⟩
  case istep =>
   rintro y c z _ hy ⟨rfl,out',ia',ib',ac,bc,rfl,m',j1,j2,j3⟩;obtain⟨xb,eb⟩:=atB ib' j2;obtain⟨xa,ea⟩:=atA ia' (by lia);dsimp only;refine wpS_bind (zak eb (wpS_bind (zak ea (wpS_bind (O.lt xb xa (T.Sb _ (zat eb)) (T.Sa _ (zat ea)) _ _ hk' ?_)))));dsimp only
   cases hw:L xb xa with
   |true =>
    rw[if_pos rfl];have m2:=one_B O T m' eb ea hw;refine wpS_bind (zak eb ?_)
    by_cases hend:ib'+1=b.size
    .rw[if_pos (by simp[hend])];exact wpS_pure ⟨rfl,.inl ⟨_,rfl,zbU T m2 (by lia)⟩⟩
    .rw[if_neg (by simp[hend])]
     by_cases hg:bc+1 ≥ mg
     .rw[if_pos hg];exact wpS_pure ⟨rfl,.inr ⟨_,_,_,_,_,rfl,m2,j1,by lia,by lia⟩⟩
     .rw[if_neg hg];exact wpS_pure ⟨rfl,_,_,_,_,_,rfl,m2,j1,by lia,by lia⟩
   |false =>
    rw[if_neg (by simp)];have m2:=one_A O T m' eb ea hw;refine wpS_bind (zak ea ?_)
    by_cases hend:ia'+1+1=a.size
    .rw[if_pos (by simp[hend])];exact wpS_pure ⟨rfl,.inl ⟨_,rfl,zbw T hl m2 (by lia)⟩⟩
    .rw[if_neg (by simp[hend])]
     by_cases hg:ac+1 ≥ mg
     .rw[if_pos hg];exact wpS_pure ⟨rfl,.inr ⟨_,_,_,_,_,rfl,m2,by lia,j2,by lia⟩⟩
     .rw[if_neg hg];exact wpS_pure ⟨rfl,_,_,_,_,_,rfl,m2,by lia,j2,by lia⟩
  case ipost =>
   rintro c z ⟨rfl,hc⟩;rcases hc with⟨r,e,res⟩ |⟨out',ia',ib',ac,bc,rfl,m',j1,j2,j3⟩
   .rw[e];exact wpS_pure ⟨lk,r,rfl,res⟩
   .dsimp only;refine wpS_bind (wpS_lift (wpAny_rule ⟨rfl,?_⟩))
    refine wpS_bind (wpS_mono (wpS_forRange (I:=fun y c z=>Like st z/\∃out2 ia2 ib2 mg2 ac2 bc2,c=(none,out2,ia2,ib2,mg2,ac2,bc2)/\MI (leOf L) a.toList b.toList out2.toList ia2 ib2/\ia2+1<a.size/\ib2<b.size/\ia'+ib'<=ia2+ib2)
     (Q:=fun c z=>Like st z/\((∃r,c.1=some r/\Res (leOf L) a.toList b.toList r.toList)∨∃out2 ia2 ib2 mg2 ac2 bc2,c=(none,out2,ia2,ib2,mg2,ac2,bc2)/\MI (leOf L) a.toList b.toList out2.toList ia2 ib2/\ia2+1<a.size/\ib2<b.size/\ia'+ib'<=ia2+ib2)) ?gstep ?gfin ⟨lk,out',ia',ib',_,_,_,rfl,m',j1,j2,Nat.le_refl _⟩) ?gpost)
    case gfin =>
     rintro c z ⟨lk2,rest⟩;exact⟨lk2,.inr rest⟩
    case gpost =>
     rintro c z ⟨lk2,hc⟩;rcases hc with⟨r,e,res⟩ |⟨out2,ia2,ib2,mg2,ac2,bc2,rfl,m2,k1,k2,k3⟩
     .rw[e];exact wpS_pure ⟨lk2,r,rfl,res⟩
     .dsimp only;refine wpS_bind (wpS_modify ?_);exact wpS_pure ⟨lk2,_,_,_,_,rfl,m2,k1,k2,by lia⟩
    case gstep =>
     rintro y c z _ hy ⟨lk2,out2,ia2,ib2,mg2,ac2,bc2,rfl,m2,k1,k2,k3⟩;obtain⟨xb,eb⟩:=atB ib2 k2;have hkz:kindOf z=kd:=lk2.1.trans hk;have lk3:=lk2;dsimp only
     by_cases hmg:mg2 > 1
     .rw[if_pos hmg];refine wpS_bind (wpS_modify ?_);refine wpS_bind (zak eb ?_);refine wpS_bind (zj4 O T (by exact hkz) (T.Sb _ (zat eb)) (by lia) (fun k q1 q2 q3=>?_) (by lia));dsimp only
      by_cases hk0:k > 0
      .rw[if_pos hk0];have n1:=blk_A O T m2 eb k q1 q2
       by_cases e1:ia2+k+1=a.size
       .rw[if_pos (by simp[e1])];exact wpS_pure ⟨lk3,.inl ⟨_,rfl,zbw T hl n1 e1⟩⟩
       .rw[if_neg (by simp[e1])]
        by_cases e2:ia2+k=a.size
        .rw[if_pos (by simp[e2])];exact wpS_pure ⟨lk3,.inl ⟨_,rfl,zfK T n1 (by lia)⟩⟩
        .rw[if_neg (by simp[e2])];obtain⟨ya,ea3⟩:=atA (ia2+k) (by lia);have hw:L xb ya=true:=q3 k ya (Nat.le_refl _) ea3;have n2:=one_B O T n1 eb ea3 hw;refine wpS_bind (zak eb ?_)
         by_cases e3:ib2+1=b.size
         .rw[if_pos (by simp[e3])];exact wpS_pure ⟨lk3,.inl ⟨_,rfl,zbU T n2 (by lia)⟩⟩
         .rw[if_neg (by simp[e3])];refine wpS_bind (zak ea3 ?_);refine wpS_bind (zgQ O T (by exact hkz) (T.Sa _ (zat ea3)) (by lia) (fun k' r1 r2 r3=>?_) (by lia));dsimp only
          by_cases hk1:k' > 0
          .rw[if_pos hk1];have n3:=blk_B O T n2 ea3 k' r1 r2
           by_cases e4:ib2+1+k'=b.size
           .rw[if_pos (by simp[e4])];exact wpS_pure ⟨lk3,.inl ⟨_,rfl,zbU T n3 (by lia)⟩⟩
           .rw[if_neg (by simp[e4])];obtain⟨xb3,eb3⟩:=atB (ib2+1+k') (by lia);have hw2:L xb3 ya=false:=r3 k' xb3 (Nat.le_refl _) eb3;have n4:=one_A O T n3 eb3 ea3 hw2;refine wpS_bind (zak ea3 ?_)
            by_cases e5:ia2+k+1+1=a.size
            .rw[if_pos (by simp[e5])];exact wpS_pure ⟨lk3,.inl ⟨_,rfl,zbw T hl n4 (by lia)⟩⟩
            .rw[if_neg (by simp[e5])];split
             .exact wpS_pure ⟨lk3,.inr ⟨_,_,_,_,_,_,rfl,n4,by lia,by lia,by lia⟩⟩
             .exact wpS_pure ⟨lk3,_,_,_,_,_,_,rfl,n4,by lia,by lia,by lia⟩
          .rw[if_neg hk1];have kz1:k'=0:=by lia
           subst kz1;obtain⟨xb3,eb3⟩:=atB (ib2+1) (by lia);have hw2:L xb3 ya=false:=r3 0 xb3 (Nat.le_refl _) (by simpa using eb3);have n4:=one_A O T n2 eb3 ea3 hw2;refine wpS_bind (zak ea3 ?_)
           by_cases e5:ia2+k+1+1=a.size
           .rw[if_pos (by simp[e5])];exact wpS_pure ⟨lk3,.inl ⟨_,rfl,zbw T hl n4 (by lia)⟩⟩
           .rw[if_neg (by simp[e5])];split
            .exact wpS_pure ⟨lk3,.inr ⟨_,_,_,_,_,_,rfl,n4,by lia,by lia,by lia⟩⟩
            .exact wpS_pure ⟨lk3,_,_,_,_,_,_,rfl,n4,by lia,by lia,by lia⟩
      .rw[if_neg hk0];have kz:k=0:=by lia
       subst kz;obtain⟨ya,ea3⟩:=atA (ia2) (by lia);have hw:L xb ya=true:=q3 0 ya (Nat.le_refl _) (by simpa using ea3);have n2:=one_B O T m2 eb ea3 hw;refine wpS_bind (zak eb ?_)
       by_cases e3:ib2+1=b.size
       .rw[if_pos (by simp[e3])];exact wpS_pure ⟨lk3,.inl ⟨_,rfl,zbU T n2 (by lia)⟩⟩
       .rw[if_neg (by simp[e3])];refine wpS_bind (zak ea3 ?_);refine wpS_bind (zgQ O T (by exact hkz) (T.Sa _ (zat ea3)) (by lia) (fun k' r1 r2 r3=>?_) (by lia));dsimp only
        by_cases hk1:k' > 0
        .rw[if_pos hk1];have n3:=blk_B O T n2 ea3 k' r1 r2
         by_cases e4:ib2+1+k'=b.size
         .rw[if_pos (by simp[e4])];exact wpS_pure ⟨lk3,.inl ⟨_,rfl,zbU T n3 (by lia)⟩⟩
         .rw[if_neg (by simp[e4])];obtain⟨xb3,eb3⟩:=atB (ib2+1+k') (by lia);have hw2:L xb3 ya=false:=r3 k' xb3 (Nat.le_refl _) eb3;have n4:=one_A O T n3 eb3 ea3 hw2;refine wpS_bind (zak ea3 ?_)
          by_cases e5:ia2+1+1=a.size
          .rw[if_pos (by simp[e5])];exact wpS_pure ⟨lk3,.inl ⟨_,rfl,zbw T hl n4 (by lia)⟩⟩
          .rw[if_neg (by simp[e5])];split
           .exact wpS_pure ⟨lk3,.inr ⟨_,_,_,_,_,_,rfl,n4,by lia,by lia,by lia⟩⟩
           .exact wpS_pure ⟨lk3,_,_,_,_,_,_,rfl,n4,by lia,by lia,by lia⟩
        .rw[if_neg hk1];have kz1:k'=0:=by lia
         subst kz1;obtain⟨xb3,eb3⟩:=atB (ib2+1) (by lia);have hw2:L xb3 ya=false:=r3 0 xb3 (Nat.le_refl _) (by simpa using eb3);have n4:=one_A O T n2 eb3 ea3 hw2;refine wpS_bind (zak ea3 ?_)
         by_cases e5:ia2+1+1=a.size
         .rw[if_pos (by simp[e5])];exact wpS_pure ⟨lk3,.inl ⟨_,rfl,zbw T hl n4 (by lia)⟩⟩
         .rw[if_neg (by simp[e5])];split
          .exact wpS_pure ⟨lk3,.inr ⟨_,_,_,_,_,_,rfl,n4,by lia,by lia,by lia⟩⟩
          .exact wpS_pure ⟨lk3,_,_,_,_,_,_,rfl,n4,by lia,by lia,by lia⟩
     .rw[if_neg hmg];refine wpS_bind (wpS_modify ?_);refine wpS_bind (zak eb ?_);refine wpS_bind (zj4 O T (by exact hkz) (T.Sb _ (zat eb)) (by lia) (fun k q1 q2 q3=>?_) (by lia));dsimp only
      by_cases hk0:k > 0
      .rw[if_pos hk0];have n1:=blk_A O T m2 eb k q1 q2
       by_cases e1:ia2+k+1=a.size
       .rw[if_pos (by simp[e1])];exact wpS_pure ⟨lk3,.inl ⟨_,rfl,zbw T hl n1 e1⟩⟩
       .rw[if_neg (by simp[e1])]
        by_cases e2:ia2+k=a.size
        .rw[if_pos (by simp[e2])];exact wpS_pure ⟨lk3,.inl ⟨_,rfl,zfK T n1 (by lia)⟩⟩
        .rw[if_neg (by simp[e2])];obtain⟨ya,ea3⟩:=atA (ia2+k) (by lia);have hw:L xb ya=true:=q3 k ya (Nat.le_refl _) ea3;have n2:=one_B O T n1 eb ea3 hw;refine wpS_bind (zak eb ?_)
         by_cases e3:ib2+1=b.size
         .rw[if_pos (by simp[e3])];exact wpS_pure ⟨lk3,.inl ⟨_,rfl,zbU T n2 (by lia)⟩⟩
         .rw[if_neg (by simp[e3])];refine wpS_bind (zak ea3 ?_);refine wpS_bind (zgQ O T (by exact hkz) (T.Sa _ (zat ea3)) (by lia) (fun k' r1 r2 r3=>?_) (by lia));dsimp only
          by_cases hk1:k' > 0
          .rw[if_pos hk1];have n3:=blk_B O T n2 ea3 k' r1 r2
           by_cases e4:ib2+1+k'=b.size
           .rw[if_pos (by simp[e4])];exact wpS_pure ⟨lk3,.inl ⟨_,rfl,zbU T n3 (by lia)⟩⟩
           .rw[if_neg (by simp[e4])];obtain⟨xb3,eb3⟩:=atB (ib2+1+k') (by lia);have hw2:L xb3 ya=false:=r3 k' xb3 (Nat.le_refl _) eb3;have n4:=one_A O T n3 eb3 ea3 hw2;refine wpS_bind (zak ea3 ?_)
            by_cases e5:ia2+k+1+1=a.size
            .rw[if_pos (by simp[e5])];exact wpS_pure ⟨lk3,.inl ⟨_,rfl,zbw T hl n4 (by lia)⟩⟩
            .rw[if_neg (by simp[e5])];split
             .exact wpS_pure ⟨lk3,.inr ⟨_,_,_,_,_,_,rfl,n4,by lia,by lia,by lia⟩⟩
             .exact wpS_pure ⟨lk3,_,_,_,_,_,_,rfl,n4,by lia,by lia,by lia⟩
          .rw[if_neg hk1];have kz1:k'=0:=by lia
           subst kz1;obtain⟨xb3,eb3⟩:=atB (ib2+1) (by lia);have hw2:L xb3 ya=false:=r3 0 xb3 (Nat.le_refl _) (by simpa using eb3);have n4:=one_A O T n2 eb3 ea3 hw2;refine wpS_bind (zak ea3 ?_)
           by_cases e5:ia2+k+1+1=a.size
           .rw[if_pos (by simp[e5])];exact wpS_pure ⟨lk3,.inl ⟨_,rfl,zbw T hl n4 (by lia)⟩⟩
           .rw[if_neg (by simp[e5])];split
            .exact wpS_pure ⟨lk3,.inr ⟨_,_,_,_,_,_,rfl,n4,by lia,by lia,by lia⟩⟩
            .exact wpS_pure ⟨lk3,_,_,_,_,_,_,rfl,n4,by lia,by lia,by lia⟩
      .rw[if_neg hk0];have kz:k=0:=by lia
       subst kz;obtain⟨ya,ea3⟩:=atA (ia2) (by lia);have hw:L xb ya=true:=q3 0 ya (Nat.le_refl _) (by simpa using ea3);have n2:=one_B O T m2 eb ea3 hw;refine wpS_bind (zak eb ?_)
       by_cases e3:ib2+1=b.size
       .rw[if_pos (by simp[e3])];exact wpS_pure ⟨lk3,.inl ⟨_,rfl,zbU T n2 (by lia)⟩⟩
       .rw[if_neg (by simp[e3])];refine wpS_bind (zak ea3 ?_);refine wpS_bind (zgQ O T (by exact hkz) (T.Sa _ (zat ea3)) (by lia) (fun k' r1 r2 r3=>?_) (by lia));dsimp only
        by_cases hk1:k' > 0
        .rw[if_pos hk1];have n3:=blk_B O T n2 ea3 k' r1 r2
         by_cases e4:ib2+1+k'=b.size
         .rw[if_pos (by simp[e4])];exact wpS_pure ⟨lk3,.inl ⟨_,rfl,zbU T n3 (by lia)⟩⟩
         .rw[if_neg (by simp[e4])];obtain⟨xb3,eb3⟩:=atB (ib2+1+k') (by lia);have hw2:L xb3 ya=false:=r3 k' xb3 (Nat.le_refl _) eb3;have n4:=one_A O T n3 eb3 ea3 hw2;refine wpS_bind (zak ea3 ?_)
          by_cases e5:ia2+1+1=a.size
          .rw[if_pos (by simp[e5])];exact wpS_pure ⟨lk3,.inl ⟨_,rfl,zbw T hl n4 (by lia)⟩⟩
          .rw[if_neg (by simp[e5])];split
           .exact wpS_pure ⟨lk3,.inr ⟨_,_,_,_,_,_,rfl,n4,by lia,by lia,by lia⟩⟩
           .exact wpS_pure ⟨lk3,_,_,_,_,_,_,rfl,n4,by lia,by lia,by lia⟩
        .rw[if_neg hk1];have kz1:k'=0:=by lia
         subst kz1;obtain⟨xb3,eb3⟩:=atB (ib2+1) (by lia);have hw2:L xb3 ya=false:=r3 0 xb3 (Nat.le_refl _) (by simpa using eb3);have n4:=one_A O T n2 eb3 ea3 hw2;refine wpS_bind (zak ea3 ?_)
         by_cases e5:ia2+1+1=a.size
         .rw[if_pos (by simp[e5])];exact wpS_pure ⟨lk3,.inl ⟨_,rfl,zbw T hl n4 (by lia)⟩⟩
         .rw[if_neg (by simp[e5])];split
          .exact wpS_pure ⟨lk3,.inr ⟨_,_,_,_,_,_,rfl,n4,by lia,by lia,by lia⟩⟩
          .exact wpS_pure ⟨lk3,_,_,_,_,_,_,rfl,n4,by lia,by lia,by lia⟩
end
end TS
set_option maxHeartbeats 8000000
namespace TS
open PySem PyProof.Rows
section
variable {α:Type}{le:α->α->Prop}
structure MJ (le:α->α->Prop) (a b r:List α) (na nb:Nat):Prop where
 ha:na<=a.length
 hb:nb<=b.length
 perm:(a.take na++b.take nb++r).Perm (a++b)
 sorted:r.Pairwise le
 lea:∀x∈a.take na,∀y∈r,le x y
 leb:∀x∈b.take nb,∀y∈r,le x y
theorem zed(a:List α)(i n:Nat)(h:i<=n):a.take n=a.take i++(a.drop i).take (n-i):=by rw[<- List.take_add,show i+(n-i)=n by lia]
theorem MJ.takeA{a b r:List α}{na nb:Nat}(m:MJ le a b r na nb)(sa:a.Pairwise le)(i:Nat)(hi:i <= na)(h:∀x ∈ b.take nb, ∀y ∈ (a.drop i).take (na-i), le x y) :
  MJ le a b ((a.drop i).take (na-i)++r) i nb:=by
 have e:=zed a i na hi;have sd:(a.take i++(a.drop i).take (na-i)).Pairwise le:=by rw[<- e];exact sa.sublist (List.take_sublist _ _)
 obtain⟨s1,s2,s3⟩:=List.pairwise_append.mp sd;refine⟨Nat.le_trans hi m.ha,m.hb,?_,List.pairwise_append.mpr ⟨s2,m.sorted,fun x hx y hy=>m.lea x (by rw[e];exact List.mem_append_right _ hx) y hy⟩,fun x hx y hy=>?_,fun x hx y hy=>?_⟩
 .have:=m.perm;rw[e]at this;refine List.Perm.trans ?_ this;rw[List.append_assoc,List.append_assoc,List.append_assoc,<- List.append_assoc (b.take nb),<- List.append_assoc ((a.drop i).take (na-i))];exact List.Perm.append_left _ (List.Perm.append_right _ List.perm_append_comm)
 .rcases List.mem_append.mp hy with q |q
  .exact s3 x hx y q
  .exact m.lea x (by rw[e];exact List.mem_append_left _ hx) y q
 .rcases List.mem_append.mp hy with q |q
  .exact h x hx y q
  .exact m.leb x hx y q
theorem MJ.takeB{a b r:List α}{na nb:Nat}(m:MJ le a b r na nb)(sb:b.Pairwise le)(i:Nat)(hi:i <= nb)(h:∀x ∈ a.take na, ∀y ∈ (b.drop i).take (nb-i), le x y) :
  MJ le a b ((b.drop i).take (nb-i)++r) na i:=by
 have e:=zed b i nb hi;have sd:(b.take i++(b.drop i).take (nb-i)).Pairwise le:=by rw[<- e];exact sb.sublist (List.take_sublist _ _)
 obtain⟨s1,s2,s3⟩:=List.pairwise_append.mp sd;refine⟨m.ha,Nat.le_trans hi m.hb,?_,List.pairwise_append.mpr ⟨s2,m.sorted,fun x hx y hy=>m.leb x (by rw[e];exact List.mem_append_right _ hx) y hy⟩,fun x hx y hy=>?_,fun x hx y hy=>?_⟩
 .have:=m.perm;rw[e]at this;simpa[List.append_assoc]using this
 .rcases List.mem_append.mp hy with q |q
  .exact h x hx y q
  .exact m.lea x hx y q
 .rcases List.mem_append.mp hy with q |q
  .exact s3 x hx y q
  .exact m.leb x (by rw[e];exact List.mem_append_left _ hx) y q
theorem MJ.doneB{a b r:List α}{nb:Nat}(m:MJ le a b r 0 nb)(sb:b.Pairwise le):Res le a b (a.take 0++b.take nb++r) :=
 ⟨m.perm,by rw[List.take_zero,List.nil_append];exact List.pairwise_append.mpr ⟨sb.sublist (List.take_sublist _ _),m.sorted,m.leb⟩⟩
theorem MJ.doneA{a b r:List α}{na:Nat}(m:MJ le a b r na 0)(sa:a.Pairwise le):Res le a b (a.take na++b.take 0++r) :=
 ⟨m.perm,by rw[List.take_zero,List.append_nil];exact List.pairwise_append.mpr ⟨sa.sublist (List.take_sublist _ _),m.sorted,m.lea⟩⟩
theorem MJ.firstB{a b r:List α}{na nb:Nat}(m:MJ le a b r na nb)(sa:a.Pairwise le)(sb:b.Pairwise le)(h:∀x∈b.take nb,∀y∈a.take na,le x y):Res le a b (b.take nb++a.take na++r):=by
 refine⟨List.Perm.trans (List.Perm.append_right _ List.perm_append_comm) m.perm,?_⟩;refine List.pairwise_append.mpr ⟨List.pairwise_append.mpr ⟨sb.sublist (List.take_sublist _ _),sa.sublist (List.take_sublist _ _),h⟩,m.sorted,fun x hx y hy=>?_⟩;rcases List.mem_append.mp hx with q |q
 .exact m.leb x q y hy
 .exact m.lea x q y hy
end
end TS
set_option maxHeartbeats 8000000
namespace TS
open PySem PyProof.Rows
section
variable {M:Model}{A:Around}{E:Value->Shared->Prop}{s:Shared}{kd:SortKind}{S:Keyed->Prop}{L:Keyed->Keyed->Bool}{a b out:Array Keyed}{na nb:Nat}
theorem zeX{a:Array Keyed}(O:LtOk M A E s kd S L)(sa:a.toList.Pairwise (leOf L))(Sa:∀x∈a.toList,S x){i:Nat}{x y:Keyed}(h:a[i]?=some x)(hy:y∈a.toList.take (i+1)):leOf L y x:=by
 have hi:i<a.toList.length:=by have:=(Array.getElem?_eq_some_iff.mp h).1;rw[Array.length_toList];exact this
 have e:a.toList.take (i+1)=a.toList.take i++[x]:=by
  rw[List.take_succ];have:a.toList[i]?=some x:=by simpa using h
  rw[this];rfl
 rw[e]at hy;rcases List.mem_append.mp hy with q |q
 .have:=sa.sublist (List.take_sublist (i+1) _);rw[e]at this;exact (List.pairwise_append.mp this).2.2 y q x List.mem_cons_self
 .rw[List.mem_singleton.mp q];exact O.rf (Sa x (zat h))
theorem zdW{a:Array Keyed}{i:Nat}{x:Keyed}(h:a[i]?=some x):(a.toList.drop i).take (i+1-i)=[x]:=by rw[zcc h,show i+1-i=1 by lia];rfl
theorem zlI(O:LtOk M A E s kd S L)(T:Two S L a b)(m:MJ (leOf L) a.toList b.toList out.reverse.toList (na + 1) (nb + 1)){x y:Keyed}(hb:b[nb]? = some x)(ha:a[na]? = some y)(h:L x y=true) :
  MJ (leOf L) a.toList b.toList (out.push y).reverse.toList na (nb+1):=by
 have:=m.takeA T.sa na (Nat.le_succ _) fun z hz w hw=>by rw[zdW ha]at hw;rw[List.mem_singleton.mp hw];exact O.tr z x y (T.Sb z (List.mem_of_mem_take hz)) (T.Sb x (zat hb)) (T.Sa y (zat ha)) (zeX O T.sb T.Sb hb hz) (O.as x y (T.Sb x (zat hb)) (T.Sa y (zat ha)) h)
 rw[zdW ha]at this;simpa using this
theorem zlH(O:LtOk M A E s kd S L)(T:Two S L a b)(m:MJ (leOf L) a.toList b.toList out.reverse.toList (na + 1) (nb + 1)){x y:Keyed}(hb:b[nb]? = some x)(ha:a[na]? = some y)(h:L x y=false) :
  MJ (leOf L) a.toList b.toList (out.push x).reverse.toList (na+1) nb:=by
 have:=m.takeB T.sb nb (Nat.le_succ _) fun z hz w hw=>by rw[zdW hb]at hw;rw[List.mem_singleton.mp hw];exact O.tr z y x (T.Sa z (List.mem_of_mem_take hz)) (T.Sa y (zat ha)) (T.Sb x (zat hb)) (zeX O T.sa T.Sa ha hz) h
 rw[zdW hb]at this;simpa using this
theorem zlW(O:LtOk M A E s kd S L)(T:Two S L a b)(m:MJ (leOf L) a.toList b.toList out.reverse.toList na (nb + 1)){x:Keyed}(hb:b[nb]? = some x)(i:Nat)(hi:i <= na)(h:∀j y, i <= j -> j < na -> a[j]? = some y -> L x y=true) :
  MJ (leOf L) a.toList b.toList (out++(a.extract i na).reverse).reverse.toList i (nb+1):=by
 have:=m.takeA T.sa i hi fun z hz w hw=>by obtain⟨j,hj,e⟩:=zeV hw;exact O.tr z x w (T.Sb z (List.mem_of_mem_take hz)) (T.Sb x (zat hb)) (T.Sa w (zat e)) (zeX O T.sb T.Sb hb hz) (O.as x w (T.Sb x (zat hb)) (T.Sa w (zat e)) (h (i+j) w (by lia) (by lia) e))
 have e2:(out++(a.extract i na).reverse).reverse.toList=(a.toList.drop i).take (na-i)++out.reverse.toList:=by simp[Array.toList_extract,List.extract_eq_take_drop]
 rw[e2];exact this
theorem zlV(O:LtOk M A E s kd S L)(T:Two S L a b)(m:MJ (leOf L) a.toList b.toList out.reverse.toList (na + 1) nb){y:Keyed}(ha:a[na]? = some y)(i:Nat)(hi:i <= nb)(h:∀j x, i <= j -> j < nb -> b[j]? = some x -> L x y=false) :
  MJ (leOf L) a.toList b.toList (out++(b.extract i nb).reverse).reverse.toList (na+1) i:=by
 have:=m.takeB T.sb i hi fun z hz w hw=>by obtain⟨j,hj,e⟩:=zeV hw;exact O.tr z y w (T.Sa z (List.mem_of_mem_take hz)) (T.Sa y (zat ha)) (T.Sb w (zat e)) (zeX O T.sa T.Sa ha hz) (h (i+j) w (by lia) (by lia) e)
 have e2:(out++(b.extract i nb).reverse).reverse.toList=(b.toList.drop i).take (nb-i)++out.reverse.toList:=by simp[Array.toList_extract,List.extract_eq_take_drop]
 rw[e2];exact this
end
end TS
set_option maxHeartbeats 8000000
namespace TS
open PySem PyProof.Rows
section
variable {M:Model}{A:Around}{E:Value->Shared->Prop}{s:Shared}{kd:SortKind}{S:Keyed->Prop}{L:Keyed->Keyed->Bool}{a b out:Array Keyed}{na nb:Nat}
theorem zj5(O:LtOk M A E s kd S L)(T:Two S L a b){st:SortSt}(hk:kindOf st=kd){x:Keyed}(Sx:S x){n:Nat}(hn:n <= a.size){Q:Option Nat -> SortSt -> Prop}
  (hQ:∀k,k<=n->(∀j y,j<k->a[j]?=some y->L x y=false)->(∀j y,k<=j->j<n->a[j]?=some y->L x y=true)->Q (some k) st) {hint:Nat} (hh:hint<n) :
  wpS M A E s (zdT false x a 0 n hint) Q st:=by
 have at_:∀i,i<n->∃y,a[0+i]?=some y:=fun i h=>⟨a[0+i]'(by lia),by simp[show i<a.size by lia]⟩
 refine zbT (b:=fun i=>!(a[0+i]?.elim false fun y=>L x y)) O hk Sx (fun i h=>?_) (fun i j hij hj q=>?_) hh fun k h1 h2 h3=>?_
 .obtain⟨y,e⟩:=at_ i h;exact⟨y,e,T.Sa y (zat e),by rw[if_neg (by simp),e];rfl⟩
 .obtain⟨y,e⟩:=at_ j hj;obtain⟨z,e2⟩:=at_ i (by lia);rw[e]at q;rw[e2];have q1:L x y=false:=by simpa using q
  have le1:leOf L z y:=zcw O T.sa T.Sa e2 (by
   have:y∈(a.toList.drop (0+i)).drop (j-i):=by rw[List.drop_drop,show 0+i+(j-i)=0+j by lia,zcc e];exact List.mem_cons_self
   exact List.mem_of_mem_drop this)
  have:L x z=false:=O.tr z y x (T.Sa z (zat e2)) (T.Sa y (zat e)) Sx le1 q1;simpa using this
 .refine hQ k h1 (fun j y hj e=>?_) (fun j y hj hjn e=>?_)
  .have:=h2 j hj;rw[Nat.zero_add,e]at this;simpa using this
  .have:=h3 j hj hjn;rw[Nat.zero_add,e]at this;simpa using this
theorem zgR(O:LtOk M A E s kd S L)(T:Two S L a b){st:SortSt}(hk:kindOf st=kd){y:Keyed}(Sy:S y){n:Nat}(hn:n <= b.size){Q:Option Nat -> SortSt -> Prop}
  (hQ:∀k,k<=n->(∀j x,j<k->b[j]?=some x->L x y=true)->(∀j x,k<=j->j<n->b[j]?=some x->L x y=false)->Q (some k) st) {hint:Nat} (hh:hint<n) :
  wpS M A E s (zdT true y b 0 n hint) Q st:=by
 have at_:∀i,i<n->∃x,b[0+i]?=some x:=fun i h=>⟨b[0+i]'(by lia),by simp[show i<b.size by lia]⟩
 refine zbT (b:=fun i=>b[0+i]?.elim false fun x=>L x y) O hk Sy (fun i h=>?_) (fun i j hij hj q=>?_) hh fun k h1 h2 h3=>?_
 .obtain⟨x,e⟩:=at_ i h;exact⟨x,e,T.Sb x (zat e),by rw[if_pos rfl,e];rfl⟩
 .obtain⟨x,e⟩:=at_ j hj;obtain⟨z,e2⟩:=at_ i (by lia);rw[e]at q;rw[e2];have q1:L x y=true:=q;show L z y=true
  have le1:leOf L z x:=zcw O T.sb T.Sb e2 (by
   have:x∈(b.toList.drop (0+i)).drop (j-i):=by rw[List.drop_drop,show 0+i+(j-i)=0+j by lia,zcc e];exact List.mem_cons_self
   exact List.mem_of_mem_drop this)
  cases w:L z y with
  |true=>rfl
  |false =>
   have:L x y=false:=O.tr y z x Sy (T.Sb z (zat e2)) (T.Sb x (zat e)) w le1;rw[this]at q1;cases q1
 .refine hQ k h1 (fun j x hj e=>?_) (fun j x hj hjn e=>?_)
  .have:=h2 j hj;rw[Nat.zero_add,e]at this;exact this
  .have:=h3 j hj hjn;rw[Nat.zero_add,e]at this;exact this
theorem zbN(a:Array Keyed)(i:Nat):(a.extract 0 i).toList=a.toList.take i:=by rw[Array.toList_extract,List.extract_eq_take_drop,List.drop_zero,Nat.sub_zero]
theorem end_A(T:Two S L a b)(m:MJ (leOf L) a.toList b.toList out.reverse.toList 0 nb):Res (leOf L) a.toList b.toList (a.extract 0 0++b.extract 0 nb++out.reverse).toList:=by rw[Array.toList_append,Array.toList_append,zbN,zbN];exact m.doneB T.sb
theorem zhi(T:Two S L a b)(m:MJ (leOf L) a.toList b.toList out.reverse.toList na 0):Res (leOf L) a.toList b.toList (a.extract 0 na++b.extract 0 0++out.reverse).toList:=by rw[Array.toList_append,Array.toList_append,zbN,zbN];exact m.doneA T.sa
theorem end_B (T:Two S L a b) (h0:∀ y,b[0]?=some y→∀ x∈a.toList,leOf L y x) (m:MJ (leOf L) a.toList b.toList out.reverse.toList na 1):Res (leOf L) a.toList b.toList (b.extract 0 1++a.extract 0 na++out.reverse).toList:=by
  rw[Array.toList_append,Array.toList_append,zbN,zbN]
  refine m.firstB T.sa T.sb fun x hx y hy=>?_
  cases hb:b.toList with
  | nil=>rw[hb] at hx;cases hx
  | cons z r =>
    rw[hb] at hx
    have e:x=z:=List.mem_singleton.mp hx
    subst e
    exact h0 x (by have : b.toList[0]? = some x := by rw[hb]; rfl
                   simpa using this) y (List.mem_of_mem_take hy)
end
end TS
set_option maxHeartbeats 8000000
namespace TS
open PySem PyProof.Rows
section
variable {M:Model}{A:Around}{E:Value->Shared->Prop}{s:Shared}{kd:SortKind}{S:Keyed->Prop}{L:Keyed->Keyed->Bool}{a b out:Array Keyed}{na nb:Nat}
theorem lastA(O:LtOk M A E s kd S L)(T:Two S L a b)(h1:0<na)(h2:0<nb)(m:MJ (leOf L) a.toList b.toList out.reverse.toList na nb){x y:Keyed}(hb:b[nb-1]?=some x)(ha:a[na-1]?=some y)(h:L x y=true):MJ (leOf L) a.toList b.toList (out.push y).reverse.toList (na-1) nb:=by obtain⟨p,rfl⟩:∃p,na=p+1:=⟨na-1,by lia⟩;obtain⟨q,rfl⟩:∃q,nb=q+1:=⟨nb-1,by lia⟩;exact zlI O T m hb ha h
theorem lastB(O:LtOk M A E s kd S L)(T:Two S L a b)(h1:0<na)(h2:0<nb)(m:MJ (leOf L) a.toList b.toList out.reverse.toList na nb){x y:Keyed}(hb:b[nb-1]?=some x)(ha:a[na-1]?=some y)(h:L x y=false):MJ (leOf L) a.toList b.toList (out.push x).reverse.toList na (nb-1):=by obtain⟨p,rfl⟩:∃p,na=p+1:=⟨na-1,by lia⟩;obtain⟨q,rfl⟩:∃q,nb=q+1:=⟨nb-1,by lia⟩;exact zlH O T m hb ha h
theorem backA(O:LtOk M A E s kd S L)(T:Two S L a b)(h2:0<nb)(m:MJ (leOf L) a.toList b.toList out.reverse.toList na nb){x:Keyed}(hb:b[nb-1]?=some x)(i:Nat)(hi:i<=na)(h:∀j y,i<=j->j<na->a[j]?=some y->L x y=true):MJ (leOf L) a.toList b.toList (out++(a.extract i na).reverse).reverse.toList i nb:=by obtain⟨q,rfl⟩:∃q,nb=q+1:=⟨nb-1,by lia⟩;exact zlW O T m hb i hi h
theorem backB(O:LtOk M A E s kd S L)(T:Two S L a b)(h1:0<na)(m:MJ (leOf L) a.toList b.toList out.reverse.toList na nb){y:Keyed}(ha:a[na-1]?=some y)(i:Nat)(hi:i<=nb)(h:∀j x,i<=j->j<nb->b[j]?=some x->L x y=false):MJ (leOf L) a.toList b.toList (out++(b.extract i nb).reverse).reverse.toList na i:=by obtain⟨p,rfl⟩:∃p,na=p+1:=⟨na-1,by lia⟩;exact zlV O T m ha i hi h
theorem zfy(O:LtOk M A E s kd S L)(T:Two S L a b){st:SortSt}{Q:Array Keyed -> SortSt -> Prop}(hk:kindOf st=kd)(ha : 0 < a.size)(hb : 0 < b.size)(h0:∀y, b[0]? = some y -> ∀x ∈ a.toList, leOf L y x)
  (hl:∀z,a[a.size-1]?=some z->∀x∈b.toList,leOf L x z) (hQ:∀r st',Res (leOf L) a.toList b.toList r.toList->Like st st'->Q r st'):wpS M A E s (zg6 a b) Q st:=by
 have atA:∀i,i<a.size->∃x,a[i]?=some x:=fun i h=>⟨a[i],by simp[h]⟩
 have atB:∀i,i<b.size->∃x,b[i]?=some x:=fun i h=>⟨b[i],by simp[h]⟩
 obtain⟨a1,e1⟩:=atA (a.size-1) (by lia);have mS:MJ (leOf L) a.toList b.toList (#[]:Array Keyed).reverse.toList a.size b.size:=⟨by simp,by simp,by rw[List.take_of_length_le (by simp),List.take_of_length_le (by simp)];simp,by simp,(fun _ _ _ h=>by simp at h),(fun _ _ _ h=>by simp at h)⟩
 have m0:MJ (leOf L) a.toList b.toList (#[a1]:Array Keyed).reverse.toList (a.size-1) b.size:=by
  have hc:=zdW e1;rw[show a.size-1+1=a.size by lia]at hc
  have:=mS.takeA T.sa (a.size-1) (by lia) fun x hx y hy=>by rw[hc]at hy;rw[List.mem_singleton.mp hy];exact hl a1 e1 x (List.mem_of_mem_take hx)
  rw[hc]at this;simpa using this
 refine wpS_bind (wpS_lift (wpAny_rule ⟨rfl,?_⟩));refine wpS_bind (zak e1 ?_);dsimp only
 by_cases ha1:a.size-1=0
 .rw[if_pos (by simp[ha1])];rw[ha1]at m0;rw[ha1];exact wpS_pure (hQ _ _ (end_A T m0) (Like.refl _))
 rw[if_neg (by simp[ha1])]
 by_cases hb1:b.size=1
 .rw[if_pos (by simp[hb1])];rw[hb1]at m0;rw[hb1];exact wpS_pure (hQ _ _ (end_B T h0 m0) (Like.refl _))
 rw[if_neg (by simp[hb1])];refine wpS_bind (wpS_get ?_)
 refine wpS_bind (wpS_mono (wpS_forRange (I:=fun x c st'=>Like st st'/\∃na nb out mg,c=(none,na,nb,out,mg)/\MJ (leOf L) a.toList b.toList out.reverse.toList na nb/\0<na/\1<nb/\na+nb+x+1<=a.size+b.size/\na<=a.size/\nb<=b.size)
  (Q:=fun c st'=>Like st st'/\∃r,c.1=some r/\Res (leOf L) a.toList b.toList r.toList) ?step ?fin ⟨Like.refl _,_,_,_,_,rfl,m0,by lia,by lia,by lia,by lia,by lia⟩) ?post)
 case fin =>
  rintro c st' ⟨_,na,nb,out,mg,rfl,m,g1,g2,g3,g4,g5⟩;exact absurd g3 (by lia)
 case post =>
  rintro c st' ⟨lk,r,e,res⟩;rw[e];exact wpS_pure (hQ r st' res lk)
 case step =>
  rintro x c st' _ hx ⟨lk,na,nb,out,mg,rfl,m,g1,g2,g3,g4,g5⟩;have hk':kindOf st'=kd:=lk.1.trans hk;dsimp only
  refine wpS_bind (wpS_mono (wpS_forRange (I:=fun y c z=>z=st'/\∃na' nb' out' ac bc,c=(none,na',nb',out',ac,bc)/\MJ (leOf L) a.toList b.toList out'.reverse.toList na' nb'/\0<na'/\1<nb'/\na'+nb'+y<=na+nb/\na'<=a.size/\nb'<=b.size)
   (Q:=fun c z=>z=st'/\((∃r,c.1=some r/\Res (leOf L) a.toList b.toList r.toList)∨∃na' nb' out' ac bc,c=(none,na',nb',out',ac,bc)/\MJ (leOf L) a.toList b.toList out'.reverse.toList na' nb'/\0<na'/\1<nb'/\na'+nb'+1<=na+nb/\na'<=a.size/\nb'<=b.size)) ?istep ?ifin ⟨rfl,na,nb,out,_,_,rfl,m,g1,g2,by lia,g4,g5⟩) ?ipost)
  case ifin =>
   rintro c z ⟨rfl,na',nb',out',ac,bc,rfl,m',j1,j2,j3,j4,j5⟩;exact⟨rfl,.inr ⟨na',nb',out',ac,bc,rfl,m',j1,j2,by lia,j4,j5⟩⟩
  case istep =>
   rintro y c z _ hy ⟨rfl,na',nb',out',ac,bc,rfl,m',j1,j2,j3,j4,j5⟩;obtain⟨xb,eb⟩:=atB (nb'-1) (by lia);obtain⟨xa,ea⟩:=atA (na'-1) (by lia);dsimp only;refine wpS_bind (zak eb (wpS_bind (zak ea (wpS_bind (O.lt xb xa (T.Sb _ (zat eb)) (T.Sa _ (zat ea)) _ _ hk' ?_)))));dsimp only
   cases hw:L xb xa with
   |true =>
    rw[if_pos rfl];have m2:=lastA O T j1 (by lia) m' eb ea hw;refine wpS_bind (zak ea ?_)
    by_cases hend:na'-1=0
    .rw[if_pos (by simp[hend])];rw[hend]at m2;rw[hend];exact wpS_pure ⟨rfl,.inl ⟨_,rfl,end_A T m2⟩⟩
    .rw[if_neg (by simp[hend])]
     by_cases hg:ac+1 ≥ mg
     .rw[if_pos hg];exact wpS_pure ⟨rfl,.inr ⟨_,_,_,_,_,rfl,m2,by lia,j2,by lia,by lia,j5⟩⟩
     .rw[if_neg hg];exact wpS_pure ⟨rfl,_,_,_,_,_,rfl,m2,by lia,j2,by lia,by lia,j5⟩
   |false =>
    rw[if_neg (by simp)];have m2:=lastB O T j1 (by lia) m' eb ea hw;refine wpS_bind (zak eb ?_)
    by_cases hend:nb'-1=1
    .rw[if_pos (by simp[hend])];rw[hend]at m2;rw[hend];exact wpS_pure ⟨rfl,.inl ⟨_,rfl,end_B T h0 m2⟩⟩
    .rw[if_neg (by simp[hend])]
     by_cases hg:bc+1 ≥ mg
     .rw[if_pos hg];exact wpS_pure ⟨rfl,.inr ⟨_,_,_,_,_,rfl,m2,j1,by lia,by lia,j4,by lia⟩⟩
     .rw[if_neg hg];exact wpS_pure ⟨rfl,_,_,_,_,_,rfl,m2,j1,by lia,by lia,j4,by lia⟩
  case ipost =>
   rintro c z ⟨rfl,hc⟩;rcases hc with⟨r,e,res⟩ |⟨na',nb',out',ac,bc,rfl,m',j1,j2,j3,j4,j5⟩
   .rw[e];exact wpS_pure ⟨lk,r,rfl,res⟩
   .dsimp only;refine wpS_bind (wpS_lift (wpAny_rule ⟨rfl,?_⟩))
    refine wpS_bind (wpS_mono (wpS_forRange (I:=fun y c z=>Like st z/\∃na2 nb2 out2 mg2 ac2 bc2,c=(none,na2,nb2,out2,mg2,ac2,bc2)/\MJ (leOf L) a.toList b.toList out2.reverse.toList na2 nb2/\0<na2/\1<nb2/\na2+nb2<=na'+nb'/\na2<=a.size/\nb2<=b.size)
     (Q:=fun c z=>Like st z/\((∃r,c.1=some r/\Res (leOf L) a.toList b.toList r.toList)∨∃na2 nb2 out2 mg2 ac2 bc2,c=(none,na2,nb2,out2,mg2,ac2,bc2)/\MJ (leOf L) a.toList b.toList out2.reverse.toList na2 nb2/\0<na2/\1<nb2/\na2+nb2<=na'+nb'/\na2<=a.size/\nb2<=b.size)) ?gstep ?gfin ⟨lk,na',nb',out',_,_,_,rfl,m',j1,j2,Nat.le_refl _,j4,j5⟩) ?gpost)
    case gfin =>
     rintro c z ⟨lk2,rest⟩;exact⟨lk2,.inr rest⟩
    case gpost =>
     rintro c z ⟨lk2,hc⟩;rcases hc with⟨r,e,res⟩ |⟨na2,nb2,out2,mg2,ac2,bc2,rfl,m2,k1,k2,k3,k4,k5⟩
     .rw[e];exact wpS_pure ⟨lk2,r,rfl,res⟩
     .dsimp only;refine wpS_bind (wpS_modify ?_);exact wpS_pure ⟨lk2,_,_,_,_,rfl,m2,k1,k2,by lia,k4,k5⟩
    case gstep =>
     rintro y c z _ hy ⟨lk2,na2,nb2,out2,mg2,ac2,bc2,rfl,m2,k1,k2,k3,k4,k5⟩;obtain⟨xb,eb⟩:=atB (nb2-1) (by lia);have hkz:kindOf z=kd:=lk2.1.trans hk;have lk3:=lk2;dsimp only
     by_cases hmg:mg2 > 1
     .rw[if_pos hmg];refine wpS_bind (wpS_modify ?_);refine wpS_bind (zak eb ?_);refine wpS_bind (zj5 O T (by exact hkz) (T.Sb _ (zat eb)) (by lia) (fun t q1 q2 q3=>?_) (by lia));dsimp only
      by_cases hk0:na2-t > 0
      .rw[if_pos hk0];have n1:=backA O T (by lia) m2 eb t q1 q3
       by_cases e1:t=0
       .rw[if_pos (by simp[e1])];rw[e1]at n1;rw[e1];exact wpS_pure ⟨lk3,.inl ⟨_,rfl,end_A T n1⟩⟩
       .rw[if_neg (by simp[e1])];obtain⟨ya,ea3⟩:=atA (t-1) (by lia);have hw:L xb ya=false:=q2 (t-1) ya (by lia) ea3;have n2:=lastB O T (by lia) (by lia) n1 eb ea3 hw;refine wpS_bind (zak eb ?_)
        by_cases e3:nb2-1=1
        .rw[if_pos (by simp[e3])];rw[e3]at n2;rw[e3];exact wpS_pure ⟨lk3,.inl ⟨_,rfl,end_B T h0 n2⟩⟩
        .rw[if_neg (by simp[e3])];refine wpS_bind (zak ea3 ?_);refine wpS_bind (zgR O T (by exact hkz) (T.Sa _ (zat ea3)) (by lia) (fun t' r1 r2 r3=>?_) (by lia));dsimp only
         by_cases hk1:nb2-1-t' > 0
         .rw[if_pos hk1];have n3:=backB O T (by lia) n2 ea3 t' r1 r3
          by_cases e4:t'=1
          .rw[if_pos (by simp[e4])];rw[e4]at n3;rw[e4];exact wpS_pure ⟨lk3,.inl ⟨_,rfl,end_B T h0 n3⟩⟩
          .rw[if_neg (by simp[e4])]
           by_cases e6:t'=0
           .rw[if_pos (by simp[e6])];rw[e6]at n3;rw[e6];exact wpS_pure ⟨lk3,.inl ⟨_,rfl,zhi T n3⟩⟩
           .rw[if_neg (by simp[e6])];obtain⟨xb3,eb3⟩:=atB (t'-1) (by lia);have hw2:L xb3 ya=true:=r2 (t'-1) xb3 (by lia) eb3;have n4:=lastA O T (by lia) (by lia) n3 eb3 ea3 hw2;refine wpS_bind (zak ea3 ?_)
            by_cases e5:t-1=0
            .rw[if_pos (by simp[e5])];rw[e5]at n4;rw[e5];exact wpS_pure ⟨lk3,.inl ⟨_,rfl,end_A T n4⟩⟩
            .rw[if_neg (by simp[e5])];split
             .exact wpS_pure ⟨lk3,.inr ⟨_,_,_,_,_,_,rfl,n4,by lia,by lia,by lia,by lia,by lia⟩⟩
             .exact wpS_pure ⟨lk3,_,_,_,_,_,_,rfl,n4,by lia,by lia,by lia,by lia,by lia⟩
         .rw[if_neg hk1];obtain⟨xb3,eb3⟩:=atB ((nb2-1)-1) (by lia);have hw2:L xb3 ya=true:=r2 (nb2-1-1) xb3 (by lia) eb3;have n4:=lastA O T (by lia) (by lia) n2 eb3 ea3 hw2;refine wpS_bind (zak ea3 ?_)
          by_cases e5:t-1=0
          .rw[if_pos (by simp[e5])];rw[e5]at n4;rw[e5];exact wpS_pure ⟨lk3,.inl ⟨_,rfl,end_A T n4⟩⟩
          .rw[if_neg (by simp[e5])];split
           .exact wpS_pure ⟨lk3,.inr ⟨_,_,_,_,_,_,rfl,n4,by lia,by lia,by lia,by lia,by lia⟩⟩
           .exact wpS_pure ⟨lk3,_,_,_,_,_,_,rfl,n4,by lia,by lia,by lia,by lia,by lia⟩
      .rw[if_neg hk0];obtain⟨ya,ea3⟩:=atA (na2-1) (by lia);have hw:L xb ya=false:=q2 (na2-1) ya (by lia) ea3;have n2:=lastB O T (by lia) (by lia) m2 eb ea3 hw;refine wpS_bind (zak eb ?_)
       by_cases e3:nb2-1=1
       .rw[if_pos (by simp[e3])];rw[e3]at n2;rw[e3];exact wpS_pure ⟨lk3,.inl ⟨_,rfl,end_B T h0 n2⟩⟩
       .rw[if_neg (by simp[e3])];refine wpS_bind (zak ea3 ?_);refine wpS_bind (zgR O T (by exact hkz) (T.Sa _ (zat ea3)) (by lia) (fun t' r1 r2 r3=>?_) (by lia));dsimp only
        by_cases hk1:nb2-1-t' > 0
        .rw[if_pos hk1];have n3:=backB O T (by lia) n2 ea3 t' r1 r3
         by_cases e4:t'=1
         .rw[if_pos (by simp[e4])];rw[e4]at n3;rw[e4];exact wpS_pure ⟨lk3,.inl ⟨_,rfl,end_B T h0 n3⟩⟩
         .rw[if_neg (by simp[e4])]
          by_cases e6:t'=0
          .rw[if_pos (by simp[e6])];rw[e6]at n3;rw[e6];exact wpS_pure ⟨lk3,.inl ⟨_,rfl,zhi T n3⟩⟩
          .rw[if_neg (by simp[e6])];obtain⟨xb3,eb3⟩:=atB (t'-1) (by lia);have hw2:L xb3 ya=true:=r2 (t'-1) xb3 (by lia) eb3;have n4:=lastA O T (by lia) (by lia) n3 eb3 ea3 hw2;refine wpS_bind (zak ea3 ?_)
           by_cases e5:na2-1=0
           .rw[if_pos (by simp[e5])];rw[e5]at n4;rw[e5];exact wpS_pure ⟨lk3,.inl ⟨_,rfl,end_A T n4⟩⟩
           .rw[if_neg (by simp[e5])];split
            .exact wpS_pure ⟨lk3,.inr ⟨_,_,_,_,_,_,rfl,n4,by lia,by lia,by lia,by lia,by lia⟩⟩
            .exact wpS_pure ⟨lk3,_,_,_,_,_,_,rfl,n4,by lia,by lia,by lia,by lia,by lia⟩
        .rw[if_neg hk1];obtain⟨xb3,eb3⟩:=atB ((nb2-1)-1) (by lia);have hw2:L xb3 ya=true:=r2 (nb2-1-1) xb3 (by lia) eb3;have n4:=lastA O T (by lia) (by lia) n2 eb3 ea3 hw2;refine wpS_bind (zak ea3 ?_)
         by_cases e5:na2-1=0
         .rw[if_pos (by simp[e5])];rw[e5]at n4;rw[e5];exact wpS_pure ⟨lk3,.inl ⟨_,rfl,end_A T n4⟩⟩
         .rw[if_neg (by simp[e5])];split
          .exact wpS_pure ⟨lk3,.inr ⟨_,_,_,_,_,_,rfl,n4,by lia,by lia,by lia,by lia,by lia⟩⟩
          .exact wpS_pure ⟨lk3,_,_,_,_,_,_,rfl,n4,by lia,by lia,by lia,by lia,by lia⟩
     .rw[if_neg hmg];refine wpS_bind (wpS_modify ?_);refine wpS_bind (zak eb ?_);refine wpS_bind (zj5 O T (by exact hkz) (T.Sb _ (zat eb)) (by lia) (fun t q1 q2 q3=>?_) (by lia));dsimp only
      by_cases hk0:na2-t > 0
      .rw[if_pos hk0];have n1:=backA O T (by lia) m2 eb t q1 q3
       by_cases e1:t=0
       .rw[if_pos (by simp[e1])];rw[e1]at n1;rw[e1];exact wpS_pure ⟨lk3,.inl ⟨_,rfl,end_A T n1⟩⟩
       .rw[if_neg (by simp[e1])];obtain⟨ya,ea3⟩:=atA (t-1) (by lia);have hw:L xb ya=false:=q2 (t-1) ya (by lia) ea3;have n2:=lastB O T (by lia) (by lia) n1 eb ea3 hw;refine wpS_bind (zak eb ?_)
        by_cases e3:nb2-1=1
        .rw[if_pos (by simp[e3])];rw[e3]at n2;rw[e3];exact wpS_pure ⟨lk3,.inl ⟨_,rfl,end_B T h0 n2⟩⟩
        .rw[if_neg (by simp[e3])];refine wpS_bind (zak ea3 ?_);refine wpS_bind (zgR O T (by exact hkz) (T.Sa _ (zat ea3)) (by lia) (fun t' r1 r2 r3=>?_) (by lia));dsimp only
         by_cases hk1:nb2-1-t' > 0
         .rw[if_pos hk1];have n3:=backB O T (by lia) n2 ea3 t' r1 r3
          by_cases e4:t'=1
          .rw[if_pos (by simp[e4])];rw[e4]at n3;rw[e4];exact wpS_pure ⟨lk3,.inl ⟨_,rfl,end_B T h0 n3⟩⟩
          .rw[if_neg (by simp[e4])]
           by_cases e6:t'=0
           .rw[if_pos (by simp[e6])];rw[e6]at n3;rw[e6];exact wpS_pure ⟨lk3,.inl ⟨_,rfl,zhi T n3⟩⟩
           .rw[if_neg (by simp[e6])];obtain⟨xb3,eb3⟩:=atB (t'-1) (by lia);have hw2:L xb3 ya=true:=r2 (t'-1) xb3 (by lia) eb3;have n4:=lastA O T (by lia) (by lia) n3 eb3 ea3 hw2;refine wpS_bind (zak ea3 ?_)
            by_cases e5:t-1=0
            .rw[if_pos (by simp[e5])];rw[e5]at n4;rw[e5];exact wpS_pure ⟨lk3,.inl ⟨_,rfl,end_A T n4⟩⟩
            .rw[if_neg (by simp[e5])];split
             .exact wpS_pure ⟨lk3,.inr ⟨_,_,_,_,_,_,rfl,n4,by lia,by lia,by lia,by lia,by lia⟩⟩
             .exact wpS_pure ⟨lk3,_,_,_,_,_,_,rfl,n4,by lia,by lia,by lia,by lia,by lia⟩
         .rw[if_neg hk1];obtain⟨xb3,eb3⟩:=atB ((nb2-1)-1) (by lia);have hw2:L xb3 ya=true:=r2 (nb2-1-1) xb3 (by lia) eb3;have n4:=lastA O T (by lia) (by lia) n2 eb3 ea3 hw2;refine wpS_bind (zak ea3 ?_)
          by_cases e5:t-1=0
          .rw[if_pos (by simp[e5])];rw[e5]at n4;rw[e5];exact wpS_pure ⟨lk3,.inl ⟨_,rfl,end_A T n4⟩⟩
          .rw[if_neg (by simp[e5])];split
           .exact wpS_pure ⟨lk3,.inr ⟨_,_,_,_,_,_,rfl,n4,by lia,by lia,by lia,by lia,by lia⟩⟩
           .exact wpS_pure ⟨lk3,_,_,_,_,_,_,rfl,n4,by lia,by lia,by lia,by lia,by lia⟩
      .rw[if_neg hk0];obtain⟨ya,ea3⟩:=atA (na2-1) (by lia);have hw:L xb ya=false:=q2 (na2-1) ya (by lia) ea3;have n2:=lastB O T (by lia) (by lia) m2 eb ea3 hw;refine wpS_bind (zak eb ?_)
       by_cases e3:nb2-1=1
       .rw[if_pos (by simp[e3])];rw[e3]at n2;rw[e3];exact wpS_pure ⟨lk3,.inl ⟨_,rfl,end_B T h0 n2⟩⟩
       .rw[if_neg (by simp[e3])];refine wpS_bind (zak ea3 ?_);refine wpS_bind (zgR O T (by exact hkz) (T.Sa _ (zat ea3)) (by lia) (fun t' r1 r2 r3=>?_) (by lia));dsimp only
        by_cases hk1:nb2-1-t' > 0
        .rw[if_pos hk1];have n3:=backB O T (by lia) n2 ea3 t' r1 r3
         by_cases e4:t'=1
         .rw[if_pos (by simp[e4])];rw[e4]at n3;rw[e4];exact wpS_pure ⟨lk3,.inl ⟨_,rfl,end_B T h0 n3⟩⟩
         .rw[if_neg (by simp[e4])]
          by_cases e6:t'=0
          .rw[if_pos (by simp[e6])];rw[e6]at n3;rw[e6];exact wpS_pure ⟨lk3,.inl ⟨_,rfl,zhi T n3⟩⟩
          .rw[if_neg (by simp[e6])];obtain⟨xb3,eb3⟩:=atB (t'-1) (by lia);have hw2:L xb3 ya=true:=r2 (t'-1) xb3 (by lia) eb3;have n4:=lastA O T (by lia) (by lia) n3 eb3 ea3 hw2;refine wpS_bind (zak ea3 ?_)
           by_cases e5:na2-1=0
           .rw[if_pos (by simp[e5])];rw[e5]at n4;rw[e5];exact wpS_pure ⟨lk3,.inl ⟨_,rfl,end_A T n4⟩⟩
           .rw[if_neg (by simp[e5])];split
            .exact wpS_pure ⟨lk3,.inr ⟨_,_,_,_,_,_,rfl,n4,by lia,by lia,by lia,by lia,by lia⟩⟩
            .exact wpS_pure ⟨lk3,_,_,_,_,_,_,rfl,n4,by lia,by lia,by lia,by lia,by lia⟩
        .rw[if_neg hk1];obtain⟨xb3,eb3⟩:=atB ((nb2-1)-1) (by lia);have hw2:L xb3 ya=true:=r2 (nb2-1-1) xb3 (by lia) eb3;have n4:=lastA O T (by lia) (by lia) n2 eb3 ea3 hw2;refine wpS_bind (zak ea3 ?_)
         by_cases e5:na2-1=0
         .rw[if_pos (by simp[e5])];rw[e5]at n4;rw[e5];exact wpS_pure ⟨lk3,.inl ⟨_,rfl,end_A T n4⟩⟩
         .rw[if_neg (by simp[e5])];split
          .exact wpS_pure ⟨lk3,.inr ⟨_,_,_,_,_,_,rfl,n4,by lia,by lia,by lia,by lia,by lia⟩⟩
          .exact wpS_pure ⟨lk3,_,_,_,_,_,_,rfl,n4,by lia,by lia,by lia,by lia,by lia⟩
end
end TS
namespace TS
open PySem PyProof.Rows
section
variable {M:Model}{A:Around}{E:Value->Shared->Prop}{s:Shared}{kd:SortKind}{S:Keyed->Prop}{L:Keyed->Keyed->Bool}
def Seg(L:Keyed->Keyed->Bool)(a:Array Keyed)(lo n:Nat):Prop:=∀(i j:Nat) x y,i<=j->j<n->a[lo+i]?=some x->a[lo+j]?=some y->L y x=false
def Rev(L:Keyed->Keyed->Bool)(a:Array Keyed)(lo n:Nat):Prop:=∀(i j:Nat) x y,i<=j->j<n->a[lo+i]?=some x->a[lo+j]?=some y->L x y=false
structure SB (kd:SortKind) (S:Keyed->Prop) (st0 st:SortSt) (lo hi:Nat):Prop where
 kind:kindOf st=kd
 pend:pendingOf st=pendingOf st0
 fail:failedOf st=failedOf st0
 perm:(arrOf st).Perm (arrOf st0)
 out:∀k:Nat,k<lo∨hi<=k->(arrOf st)[k]?=(arrOf st0)[k]?
 all:∀(k:Nat) x,(arrOf st)[k]?=some x->S x
theorem SB.size{st0 st:SortSt}{lo hi:Nat}(h:SB kd S st0 st lo hi):(arrOf st).size=(arrOf st0).size:=h.perm.size_eq
theorem zea(O:LtOk M A E s kd S L){st:SortSt}{i j:Nat}{x y:Keyed}{Q:Option Bool->SortSt->Prop}(hk:kindOf st=kd)(hi:(arrOf st)[i]?=some x)(hj:(arrOf st)[j]?=some y)(sx:S x)(sy:S y)(q:Q (some (L x y)) st):wpS M A E s (ltAt' i j) Q st:=by rw[ltAt'_eq];refine wpS_bind (wpS_get ?_);refine wpS_bind (zak hi ?_);refine wpS_bind (zak hj ?_);exact O.lt x y sx sy st Q hk q
theorem zbJ{st:SortSt}{i:Nat}(h:i<(arrOf st).size):∃x,(arrOf st)[i]?=some x:=⟨(arrOf st)[i],by simp[h]⟩
theorem Seg.more(O:LtOk M A E s kd S L){a:Array Keyed}{lo n:Nat}{x y:Keyed}(hS:∀(k:Nat) x,a[k]?=some x->S x)(h:Seg L a lo (n+1))(hx:a[lo+n]?=some x)(hy:a[lo+(n+1)]?=some y)(hl:L y x=false):Seg L a lo (n+2):=by
 intro i j u v hij hj hu hv;rcases Nat.lt_or_ge j (n+1) with q |q
 .exact h i j u v hij q hu hv
 .have ej:j=n+1:=by lia
  subst ej;rw[hy]at hv
  cases hv
  rcases Nat.lt_or_ge i (n+1) with q2 |q2
  .have h1:=h i n u x (by lia) (by lia) hu hx;exact O.tr u x y (hS _ _ hu) (hS _ _ hx) (hS _ _ hy) h1 hl
  .have ei:i=n+1:=by lia
   subst ei;rw[hy]at hu
   cases hu
   exact O.rf (hS _ _ hy)
def Blk(L:Keyed->Keyed->Bool)(a:Array Keyed)(lo n q:Nat):Prop:=∀(i j:Nat) x y,n-(q+1)<=i->i<n->n-(q+1)<=j->j<n->a[lo+i]?=some x->a[lo+j]?=some y->L x y=false
theorem SB.refl{st:SortSt}{lo hi:Nat}(hk:kindOf st=kd)(hS:∀(k:Nat) x,(arrOf st)[k]?=some x->S x):SB kd S st st lo hi:=⟨hk,rfl,rfl,Array.Perm.refl _,fun _ _=>rfl,hS⟩
theorem SB.mir{st0 st:SortSt}{lo hi i j:Nat}(h:SB kd S st0 st lo hi)(h1:lo<=i)(h2:j<=hi)(hz:j<=(arrOf st).size):SB kd S st0 (setArr st (mirror (arrOf st) i j ((j-i) / 2))) lo hi:=by
 refine⟨h.kind,h.pend,h.fail,(mirror_perm _ _ _ _).trans h.perm,fun k hk=>?_,fun k x hx=>?_⟩
 .show (mirror (arrOf st) i j ((j-i) / 2))[k]?=_;rw[getElem?_mirror_all hz,if_neg (by lia)];exact h.out k hk
 .have hx':(mirror (arrOf st) i j ((j-i) / 2))[k]?=some x:=hx;rw[getElem?_mirror_all hz]at hx';split at hx'
  .exact h.all _ x hx'
  .exact h.all _ x hx'
theorem Rev.blk{a:Array Keyed}{lo n q:Nat}(h:Rev L a lo n)(hb:Blk L a lo n q)(hq:q<n)(hz:lo+n<=a.size):Rev L (mirror a (lo+n-(q+1)) (lo+n) ((lo+n-(lo+n-(q+1))) / 2)) lo n:=by
 intro i j x y hij hj hx hy;rw[getElem?_mirror_all hz]at hx hy
 by_cases hi:lo+n-(q+1)<=lo+i/\lo+i<lo+n
 .rw[if_pos hi]at hx;rw[if_pos (by lia)]at hy;rw[show lo+n-(q+1)+(lo+n)-1-(lo+i)=lo+(n-(q+1)+n-1-i) by lia]at hx;rw[show lo+n-(q+1)+(lo+n)-1-(lo+j)=lo+(n-(q+1)+n-1-j) by lia]at hy;exact hb _ _ x y (by lia) (by lia) (by lia) (by lia) hx hy
 .rw[if_neg hi]at hx
  by_cases hj':lo+n-(q+1)<=lo+j/\lo+j<lo+n
  .rw[if_pos hj']at hy;rw[show lo+n-(q+1)+(lo+n)-1-(lo+j)=lo+(n-(q+1)+n-1-j) by lia]at hy;exact h i _ x y (by lia) (by lia) hx hy
  .rw[if_neg hj']at hy;exact h i j x y hij hj hx hy
theorem Rev.flip{a:Array Keyed}{lo n:Nat}(h:Rev L a lo n)(hz:lo+n<=a.size):Seg L (mirror a lo (lo+n) ((lo+n-lo) / 2)) lo n:=by intro i j x y hij hj hx hy;rw[getElem?_mirror_all hz,if_pos (by lia)]at hx hy;rw[show lo+(lo+n)-1-(lo+i)=lo+(n-1-i) by lia]at hx;rw[show lo+(lo+n)-1-(lo+j)=lo+(n-1-j) by lia]at hy;exact h _ _ y x (by lia) (by lia) hy hx
theorem Rev.more(O:LtOk M A E s kd S L){a:Array Keyed}{lo n:Nat}{x y:Keyed}(hS:∀(k:Nat) x,a[k]?=some x->S x)(h:Rev L a lo (n+1))(hx:a[lo+n]?=some x)(hy:a[lo+(n+1)]?=some y)(hl:L x y=false):Rev L a lo (n+2):=by
 intro i j u v hij hj hu hv;rcases Nat.lt_or_ge j (n+1) with q |q
 .exact h i j u v hij q hu hv
 .have ej:j=n+1:=by lia
  subst ej;rw[hy]at hv
  cases hv
  rcases Nat.lt_or_ge i (n+1) with q2 |q2
  .have h1:=h i n u x (by lia) (by lia) hu hx;exact O.tr y x u (hS _ _ hy) (hS _ _ hx) (hS _ _ hu) hl h1
  .have ei:i=n+1:=by lia
   subst ei;rw[hy]at hu
   cases hu
   exact O.rf (hS _ _ hy)
theorem Blk.more(O:LtOk M A E s kd S L){a:Array Keyed}{lo n q:Nat}{x y:Keyed}(hS:∀(k:Nat) x,a[k]?=some x->S x)(h:Blk L a lo (n+1) q)(hq:q<n+1)(hx:a[lo+n]?=some x)(hy:a[lo+(n+1)]?=some y)(h1:L x y=false)(h2:L y x=false):Blk L a lo (n+2) (q+1):=by
 have old:∀(i:Nat) u,n+1-(q+1)<=i->i<n+1->a[lo+i]?=some u->L u y=false/\L y u=false:=fun i u a1 a2 hu=>by have e1:=h i n u x a1 a2 (by lia) (by lia) hu hx;have e2:=h n i x u (by lia) (by lia) a1 a2 hx hu;exact⟨O.tr y x u (hS _ _ hy) (hS _ _ hx) (hS _ _ hu) h1 e1,O.tr u x y (hS _ _ hu) (hS _ _ hx) (hS _ _ hy) e2 h2⟩
 intro i j u v a1 a2 b1 b2 hu hv;rcases Nat.lt_or_ge i (n+1) with ci |ci
 .rcases Nat.lt_or_ge j (n+1) with cj |cj
  .exact h i j u v (by lia) ci (by lia) cj hu hv
  .have ej:j=n+1:=by lia
   subst ej;rw[hy]at hv;cases hv;exact (old i u (by lia) ci hu).1
 .have ei:i=n+1:=by lia
  subst ei;rw[hy]at hu;cases hu;rcases Nat.lt_or_ge j (n+1) with cj |cj
  .exact (old j v (by lia) cj hv).2
  .have ej:j=n+1:=by lia
   subst ej;rw[hy]at hv;cases hv;exact O.rf (hS _ _ hy)
theorem Blk.one(O:LtOk M A E s kd S L){a:Array Keyed}{lo n:Nat}(hS:∀(k:Nat) x,a[k]?=some x->S x):Blk L a lo (n+1) 0:=fun i j x y a1 a2 b1 b2 hx hy=>by
 have ei:i=n:=by lia
 have ej:j=n:=by lia
 subst ei;subst ej;rw[hx]at hy;cases hy;exact O.rf (hS _ _ hx)
theorem zfh{B:Prop}{D:SortSt->Prop}(C:SortSt->Prop)(g:(∀st,D st->C st)->B)(h:∀st,D st->C st):B:=g h
theorem ze3 (O : LtOk M A E s kd S L){st : SortSt}{lo nrem : Nat}{Q : Option Nat → SortSt → Prop}(h1 : 1 ≤ nrem) (hz : lo + nrem ≤ (arrOf st).size) (hk : kindOf st = kd) (hS : ∀ (k : Nat) x, (arrOf st)[k]? = some x → S x)
    (hQ:∀ m st',SB kd S st st' lo (lo+nrem)→1≤m→m≤nrem→Seg L (arrOf st') lo m→Q (some m) st'):wpS M A E s (countRun' lo nrem) Q st:=by
  rw[countRun'_eq]
  refine wpS_bind (wpS_mono (wpS_forRange (I:=fun x c st'=>c=(none,x)∧st'=st∧x≤nrem∧Seg L (arrOf st) lo x)
    (Q:=fun c st'=>∃ m,c=(none,m)∧st'=st∧1≤m∧m≤nrem∧Seg L (arrOf st) lo m∧(m<nrem→∃ x y,(arrOf st)[lo+m]?=some x∧(arrOf st)[lo+m - 1]?=some y∧L x y=true)) ?step ?fin ?init) ?post)
  case init =>
    refine⟨rfl,rfl,h1,fun i j x y hij hj hx hy=>?_⟩
    have ei:i=0:=by lia
    have ej:j=0:=by lia
    subst ei;subst ej
    rw[hx] at hy
    cases hy
    exact O.rf (hS _ _ hx)
  case fin =>
    rintro c st' ⟨rfl,rfl,hle,hsg⟩
    exact⟨_,rfl,rfl,by lia,hle,hsg,fun h=>absurd h (by lia)⟩
  case step =>
    rintro n c st' hn1 hn2 ⟨rfl,rfl,hle,hsg⟩
    obtain⟨x,hx⟩:=zbJ (st:=st') (i:=lo+n) (by lia)
    obtain⟨y,hy⟩:=zbJ (st:=st') (i:=lo+n - 1) (by lia)
    refine wpS_bind (zea O hk hx hy (hS _ _ hx) (hS _ _ hy) ?_)
    dsimp only
    by_cases hl:L x y=true
    . rw[if_pos hl]
      exact wpS_pure ⟨n,rfl,rfl,hn1,hle,hsg,fun _=>⟨x,y,hx,hy,hl⟩⟩
    . rw[if_neg hl]
      refine wpS_pure ⟨rfl,rfl,hn2,?_⟩
      obtain⟨p,rfl⟩:∃ p,n=p+1:=⟨n - 1,by lia⟩
      exact hsg.more O hS (by rw[show lo+(p+1) - 1=lo+p by lia] at hy;exact hy) hx (by simpa using hl)
  case post =>
    rintro c st' ⟨m,rfl,rfl,hm1,hm2,hsg,hnx⟩
    dsimp only
    by_cases hmn:(m == nrem)=true
    . rw[if_pos hmn]
      exact wpS_pure (hQ m st' (SB.refl hk hS) hm1 hm2 hsg)
    . rw[if_neg hmn]
      have hlt : m < nrem := by have : m ≠ nrem := by simpa using hmn
                                lia
      obtain⟨x0,y0,hx0,hy0,hl0⟩:=hnx hlt
      refine zfh (D:=fun st1=>SB kd S st' st1 lo (lo+nrem)∧Rev L (arrOf st1) lo m∧(∃ x y,(arrOf st1)[lo+m]?=some x∧(arrOf st1)[lo+m - 1]?=some y∧L y x=false)) ?C (fun share=>?g) ?h
      case g =>
        by_cases hm:m > 1
        . rw[if_pos hm]
          obtain⟨a,ha⟩:=zbJ (st:=st') (i:=lo) (by lia)
          obtain⟨b,hb⟩:=zbJ (st:=st') (i:=lo+m - 1) (by lia)
          refine wpS_bind (zea O hk ha hb (hS _ _ ha) (hS _ _ hb) ?_)
          dsimp only
          by_cases hr:L a b=true
          . rw[if_pos hr]
            exact wpS_pure (hQ m st' (SB.refl hk hS) hm1 hm2 hsg)
          . rw[if_neg hr]
            have hr':L a b=false:=by simpa using hr
            rw[reverseSlice'_eq]
            refine wpS_bind (wpS_modify ?_)
            have hz2:lo+m≤(arrOf st').size:=by lia
            have hb':(arrOf st')[lo+(m - 1)]?=some b:=by rw[show lo+(m - 1)=lo+m - 1 by lia];exact hb
            have eqv:Rev L (arrOf st') lo m:=fun i j x y hij hj hx hy=>by
              have e1:=hsg 0 j a y (by lia) hj (by simpa using ha) hy
              have e2:=hsg i (m - 1) x b (by lia) (by lia) hx hb'
              have e3:=O.tr x b a (hS _ _ hx) (hS _ _ hb) (hS _ _ ha) e2 hr'
              have e4:=hsg j (m - 1) y b (by lia) (by lia) hy hb'
              have e5:=hsg 0 i a x (by lia) (by lia) (by simpa using ha) hx
              exact O.tr y b x (hS _ _ hy) (hS _ _ hb) (hS _ _ hx) e4 (O.tr b a x (hS _ _ hb) (hS _ _ ha) (hS _ _ hx) hr' e5)
            have rv2:Rev L (mirror (arrOf st') lo (lo+m) ((lo+m - lo) / 2)) lo m:=fun i j x y hij hj hx hy=>by
              rw[getElem?_mirror_all hz2,if_pos (by lia)] at hx hy
              rw[show lo+(lo+m) - 1 - (lo+i)=lo+(m - 1 - i) by lia] at hx
              rw[show lo+(lo+m) - 1 - (lo+j)=lo+(m - 1 - j) by lia] at hy
              exact hsg _ _ y x (by lia) (by lia) hy hx
            refine share _ ⟨(SB.refl hk hS).mir (Nat.le_refl _) (by lia) hz2,rv2,x0,a,?_,?_,?_⟩
            . show (mirror (arrOf st') lo (lo+m) ((lo+m - lo) / 2))[lo+m]?=_
              rw[getElem?_mirror_all hz2,if_neg (by lia)];exact hx0
            . show (mirror (arrOf st') lo (lo+m) ((lo+m - lo) / 2))[lo+m - 1]?=_
              rw[getElem?_mirror_all hz2,if_pos (by lia),show lo+(lo+m) - 1 - (lo+m - 1)=lo by lia];exact ha
            . have eb:b=y0:=by rw[hb] at hy0;exact Option.some.inj hy0
              subst eb
              exact O.tr x0 b a (hS _ _ hx0) (hS _ _ hb) (hS _ _ ha) (O.as x0 b (hS _ _ hx0) (hS _ _ hb) hl0) hr'
        . rw[if_neg hm]
          have em:m=1:=by lia
          subst em
          refine share _ ⟨SB.refl hk hS,fun i j x y hij hj hx hy=>?_,x0,y0,hx0,hy0,O.as x0 y0 (hS _ _ hx0) (hS _ _ hy0) hl0⟩
          have ei:i=0:=by lia
          have ej:j=0:=by lia
          subst ei;subst ej
          rw[hx] at hy;cases hy
          exact O.rf (hS _ _ hx)
      case h =>
        rintro st1 ⟨sb1,rv1,x1,y1,hx1,hy1,hl1⟩
        have hz1:lo+nrem≤(arrOf st1).size:=by rw[sb1.size];exact hz
        refine wpS_bind (wpS_lift (wpAny_rule ⟨rfl,?_⟩))
        obtain⟨p,rfl⟩:∃ p,m=p+1:=⟨m - 1,by lia⟩
        rw[show lo+(p+1) - 1=lo+p by lia] at hy1
        have rv2:Rev L (arrOf st1) lo (p+1+1):=rv1.more O sb1.all hy1 hx1 hl1
        refine wpS_bind (wpS_mono (wpS_forRange (I:=fun x c st2=>∃ q,c=(none,x,q)∧SB kd S st' st2 lo (lo+nrem)∧1≤x∧x≤nrem∧q<x∧Rev L (arrOf st2) lo x∧Blk L (arrOf st2) lo x q)
          (Q:=fun c st2=>∃ x q,c=(none,x,q)∧SB kd S st' st2 lo (lo+nrem)∧1≤x∧x≤nrem∧q<x∧Rev L (arrOf st2) lo x∧Blk L (arrOf st2) lo x q) ?step ?fin ⟨0,rfl,sb1,by lia,by lia,by lia,rv2,Blk.one O sb1.all⟩) ?post)
        case fin =>
          rintro c st2 ⟨q,rfl,hh⟩
          exact⟨_,q,rfl,hh⟩
        case step =>
          rintro x c st2 hx1' hx2 ⟨q,rfl,sb2,hn1,hn2,hq,rv,bk⟩
          have hz2:lo+nrem≤(arrOf st2).size:=by rw[sb2.size];exact hz
          obtain⟨u,hu⟩:=zbJ (st:=st2) (i:=lo+x) (by lia)
          obtain⟨v,hv⟩:=zbJ (st:=st2) (i:=lo+x - 1) (by lia)
          obtain⟨r,rfl⟩:∃ r,x=r+1:=⟨x - 1,by lia⟩
          rw[show lo+(r+1) - 1=lo+r by lia] at hv
          refine wpS_bind (zea O sb2.kind hu (by rw[show lo+(r+1) - 1=lo+r by lia];exact hv) (sb2.all _ _ hu) (sb2.all _ _ hv) ?_)
          dsimp only
          by_cases hl:L u v=true
          . rw[if_pos hl]
            have hvu:=O.as u v (sb2.all _ _ hu) (sb2.all _ _ hv) hl
            by_cases hq0:q > 0
            . rw[if_pos hq0,reverseSlice'_eq]
              refine wpS_bind (wpS_modify ?_)
              have hzr:lo+(r+1)≤(arrOf st2).size:=by lia
              have sb3:=sb2.mir (i:=lo+(r+1) - (q+1)) (j:=lo+(r+1)) (by lia) (by lia) hzr
              have rv3:=rv.blk bk hq hzr
              refine wpS_pure ⟨0,rfl,sb3,by lia,by lia,by lia,?_,Blk.one O sb3.all⟩
              have hz3:r<r+1:=by lia
              obtain⟨v2,hv2⟩:=zbJ (st:=setArr st2 (mirror (arrOf st2) (lo+(r+1) - (q+1)) (lo+(r+1)) ((lo+(r+1) - (lo+(r+1) - (q+1))) / 2))) (i:=lo+r) (by show lo+r<(mirror (arrOf st2) _ _ _).size;rw[mirror_size];lia)
              have hv2':(arrOf st2)[lo+(r+1 - (q+1)+r - r)]?=some v2:=by
                have h0:(mirror (arrOf st2) (lo+(r+1) - (q+1)) (lo+(r+1)) ((lo+(r+1) - (lo+(r+1) - (q+1))) / 2))[lo+r]?=some v2:=hv2
                rw[getElem?_mirror_all hzr,if_pos (by lia),show lo+(r+1) - (q+1)+(lo+(r+1)) - 1 - (lo+r)=lo+(r+1 - (q+1)+r - r) by lia] at h0
                exact h0
              refine rv3.more O sb3.all hv2 (y:=u) ?_ ?_
              . show (mirror (arrOf st2) (lo+(r+1) - (q+1)) (lo+(r+1)) ((lo+(r+1) - (lo+(r+1) - (q+1))) / 2))[lo+(r+1)]?=some u
                rw[getElem?_mirror_all hzr,if_neg (by lia)];exact hu
              . exact O.tr u v v2 (sb2.all _ _ hu) (sb2.all _ _ hv) (sb2.all _ _ hv2') hvu (rv _ r v2 v (by lia) (by lia) hv2' hv)
            . rw[if_neg hq0]
              exact wpS_pure ⟨0,rfl,sb2,by lia,by lia,by lia,rv.more O sb2.all hv hu hvu,Blk.one O sb2.all⟩
          . rw[if_neg hl]
            have hl':L u v=false:=by simpa using hl
            refine wpS_bind (zea O sb2.kind (by rw[show lo+(r+1) - 1=lo+r by lia];exact hv) hu (sb2.all _ _ hv) (sb2.all _ _ hu) ?_)
            dsimp only
            by_cases hg:L v u=true
            . rw[if_pos hg]
              exact wpS_pure ⟨r+1,q,rfl,sb2,hn1,hn2,hq,rv,bk⟩
            . rw[if_neg hg]
              have hg':L v u=false:=by simpa using hg
              exact wpS_pure ⟨q+1,rfl,sb2,by lia,by lia,by lia,rv.more O sb2.all hv hu hg',bk.more O sb2.all hq hv hu hg' hl'⟩
        case post =>
          rintro c st2 ⟨x,q,rfl,sb2,hx1',hx2,hq,rv,bk⟩
          dsimp only
          have hz2:lo+nrem≤(arrOf st2).size:=by rw[sb2.size];exact hz
          refine zfh (D:=fun st3=>SB kd S st' st3 lo (lo+nrem)∧Rev L (arrOf st3) lo x) ?C2 (fun share=>?g2) ?h2
          case g2 =>
            by_cases hq0:q > 0
            . rw[if_pos hq0,reverseSlice'_eq]
              refine wpS_bind (wpS_modify ?_)
              exact share _ ⟨sb2.mir (by lia) (by lia) (by lia),rv.blk bk hq (by lia)⟩
            . rw[if_neg hq0]
              exact share _ ⟨sb2,rv⟩
          case h2 =>
            rintro st3 ⟨sb3,rv3⟩
            have hz3:lo+nrem≤(arrOf st3).size:=by rw[sb3.size];exact hz
            rw[reverseSlice'_eq]
            refine wpS_bind (wpS_modify ?_)
            have sb4:=sb3.mir (i:=lo) (j:=lo+x) (Nat.le_refl _) (by lia) (by lia)
            have sg4:=rv3.flip (show lo+x≤(arrOf st3).size by lia)
            have sg5:Seg L (arrOf (setArr st3 (mirror (arrOf st3) lo (lo+x) ((lo+x - lo) / 2)))) lo x:=sg4
            generalize setArr st3 (mirror (arrOf st3) lo (lo+x) ((lo+x - lo) / 2))=st4 at sb4 sg5
            have hz4:lo+nrem≤(arrOf st4).size:=by rw[sb4.size];exact hz
            refine wpS_bind (wpS_mono (wpS_forRange (I:=fun n c st5=>c=(none,n)∧st5=st4∧n≤nrem∧Seg L (arrOf st4) lo n) (Q:=fun c st5=>∃ m,c=(none,m)∧st5=st4∧1≤m∧m≤nrem∧Seg L (arrOf st4) lo m) ?step ?fin ⟨rfl,rfl,hx2,sg5⟩) ?post)
            case fin =>
              rintro c st5 ⟨rfl,rfl,hle,hsg⟩
              exact⟨_,rfl,rfl,by lia,hle,hsg⟩
            case step =>
              rintro n c st5 hn1 hn2 ⟨rfl,rfl,hle,hsg⟩
              obtain⟨u,hu⟩:=zbJ (st:=st5) (i:=lo+n) (by lia)
              obtain⟨v,hv⟩:=zbJ (st:=st5) (i:=lo+n - 1) (by lia)
              refine wpS_bind (zea O sb4.kind hu hv (sb4.all _ _ hu) (sb4.all _ _ hv) ?_)
              dsimp only
              by_cases hl:L u v=true
              . rw[if_pos hl]
                exact wpS_pure ⟨n,rfl,rfl,by lia,hle,hsg⟩
              . rw[if_neg hl]
                refine wpS_pure ⟨rfl,rfl,hn2,?_⟩
                obtain⟨p,rfl⟩:∃ p,n=p+1:=⟨n - 1,by lia⟩
                exact hsg.more O sb4.all (by rw[show lo+(p+1) - 1=lo+p by lia] at hv;exact hv) hu (by simpa using hl)
            case post =>
              rintro c st5 ⟨n,rfl,rfl,h1n,hn2,hsg⟩
              exact wpS_pure (hQ n st5 sb4 h1n hn2 hsg)
end
end TS
namespace TS
open PySem PyProof.Rows
section
variable {M:Model}{A:Around}{E:Value->Shared->Prop}{s:Shared}{kd:SortKind}{S:Keyed->Prop}{L:Keyed->Keyed->Bool}
theorem SB.bub{st0 st:SortSt}{lo hi i d:Nat}(h:SB kd S st0 st lo hi)(h1:lo<=i-d)(hd:d<=i)(h2:i<hi)(hz:i<(arrOf st).size):SB kd S st0 (setArr st (bubble (arrOf st) i d)) lo hi:=by
 refine⟨h.kind,h.pend,h.fail,(bubble_perm _ _ _).trans h.perm,fun k hk=>?_,fun k x hx=>?_⟩
 .show (bubble (arrOf st) i d)[k]?=_;rw[getElem?_bubble hz _ hd,if_neg (by lia),if_neg (by lia)];exact h.out k hk
 .have hx':(bubble (arrOf st) i d)[k]?=some x:=hx;rw[getElem?_bubble hz _ hd]at hx';split at hx'
  .exact h.all _ x hx'
  .split at hx'
   .exact h.all _ x hx'
   .exact h.all _ x hx'
theorem Seg.ins(O:LtOk M A E s kd S L){a:Array Keyed}{lo k l:Nat}{p:Keyed}(hS:∀(k:Nat) x, a[k]? = some x -> S x)(h:Seg L a lo k)(hlk:l <= k)(hz:lo + k < a.size)(hp:a[lo + k]? = some p)
  (h1:∀(i:Nat) x,i<l->a[lo+i]?=some x->L p x=false) (h2:∀(i:Nat) x,l<=i->i<k->a[lo+i]?=some x->L p x=true):Seg L (bubble a (lo+k) (lo+k-(lo+l))) lo (k+1):=by
 have at':∀(i:Nat) x,i<k+1->(bubble a (lo+k) (lo+k-(lo+l)))[lo+i]?=some x->(i<l/\a[lo+i]?=some x)∨(i=l/\x=p)∨(l<i/\a[lo+(i-1)]?=some x):=fun i x hi hx=>by
  rw[getElem?_bubble hz _ (by lia)]at hx
  by_cases e:lo+i=lo+k-(lo+k-(lo+l))
  .rw[if_pos e,hp]at hx;exact .inr (.inl ⟨by lia,(Option.some.inj hx).symm⟩)
  .rw[if_neg e]at hx
   by_cases e2:lo+k-(lo+k-(lo+l))<lo+i/\lo+i<=lo+k
   .rw[if_pos e2,show lo+i-1=lo+(i-1) by lia]at hx;exact .inr (.inr ⟨by lia,hx⟩)
   .rw[if_neg e2]at hx;exact .inl ⟨by lia,hx⟩
 intro i j x y hij hj hx hy;have sp:=hS _ _ hp;rcases at' i x (by lia) hx with⟨a1,a2⟩ |⟨a1,a2⟩ |⟨a1,a2⟩
 .rcases at' j y hj hy with⟨b1,b2⟩ |⟨b1,b2⟩ |⟨b1,b2⟩
  .exact h i j x y hij (by lia) a2 b2
  .rw[b2];exact h1 i x a1 a2
  .exact h i (j-1) x y (by lia) (by lia) a2 b2
 .subst a2;rcases at' j y hj hy with⟨b1,b2⟩ |⟨b1,b2⟩ |⟨b1,b2⟩
  .lia
  .rw[b2];exact O.rf sp
  .exact O.as x y sp (hS _ _ b2) (h2 (j-1) y (by lia) (by lia) b2)
 .rcases at' j y hj hy with⟨b1,b2⟩ |⟨b1,b2⟩ |⟨b1,b2⟩
  .lia
  .lia
  .exact h (i-1) (j-1) x y (by lia) (by lia) a2 b2
theorem zdY(O:LtOk M A E s kd S L){st:SortSt}{lo n ok:Nat}{Q:Bool -> SortSt -> Prop}(hok : 1 <= ok)(hn:ok <= n)(hz:lo + n <= (arrOf st).size)(hk:kindOf st=kd)(hS:∀(k:Nat) x, (arrOf st)[k]? = some x -> S x)(hs:Seg L (arrOf st) lo ok)
  (hQ:∀st',SB kd S st st' lo (lo+n)->Seg L (arrOf st') lo n->Q true st'):wpS M A E s (binarySort' lo n ok) Q st:=by
 rw[binarySort'_eq];have em:max ok 1=ok:=by lia
 rw[em]
 refine wpS_bind (wpS_mono (wpS_forRange (I:=fun k c st'=>c=(none,())/\SB kd S st st' lo (lo+n)/\k<=n/\Seg L (arrOf st') lo k)
  (Q:=fun c st'=>c=(none,())/\SB kd S st st' lo (lo+n)/\Seg L (arrOf st') lo n) ?step ?fin ⟨rfl,SB.refl hk hS,hn,hs⟩) ?post)
 case post =>
  rintro c st' ⟨rfl,sb,sg⟩;exact wpS_pure (hQ st' sb sg)
 case fin =>
  rintro c st' ⟨rfl,sb,hle,sg⟩;rw[show max ok n=n by lia]at sg;exact⟨rfl,sb,sg⟩
 case step =>
  rintro k c st' hk1 hk2 ⟨rfl,sb,hle,sg⟩;have hz':lo+n<=(arrOf st').size:=by rw[sb.size];exact hz
  obtain⟨p,hp⟩:=zbJ (st:=st') (i:=lo+k) (by lia);dsimp only
  refine wpS_bind (wpS_mono (wpS_forRange (I:=fun x c st2=>∃l r,c=(none,l,r)/\st2=st'/\l<=r/\r<=k/\r-l<=k-x/\(∀(i:Nat) z,i<l->(arrOf st')[lo+i]?=some z->L p z=false)/\(∀(i:Nat) z,r<=i->i<k->(arrOf st')[lo+i]?=some z->L p z=true))
   (Q:=fun c st2=>∃l,c=(none,l,l)/\st2=st'/\l<=k/\(∀(i:Nat) z,i<l->(arrOf st')[lo+i]?=some z->L p z=false)/\(∀(i:Nat) z,l<=i->i<k->(arrOf st')[lo+i]?=some z->L p z=true)) ?step2 ?fin2 ⟨0,k,rfl,rfl,Nat.zero_le _,Nat.le_refl _,Nat.le_refl _,(fun i z h=>absurd h (Nat.not_lt_zero _)),(fun i z h1 h2=>absurd h2 (by lia))⟩) ?post2)
  case fin2 =>
   rintro c st2 ⟨l,r,rfl,rfl,h1,h2,h3,h4,h5⟩;have:l=r:=by lia
   subst this;exact⟨l,rfl,rfl,h2,h4,h5⟩
  case step2 =>
   rintro x c st2 _ hx ⟨l,r,rfl,rfl,h1,h2,h3,h4,h5⟩;dsimp only
   by_cases hlr:l ≥ r
   .rw[if_pos hlr];have:l=r:=by lia
    subst this;exact wpS_pure ⟨l,rfl,rfl,h2,h4,h5⟩
   .rw[if_neg hlr];obtain⟨u,hu⟩:=zbJ (st:=st2) (i:=lo+(l+r) / 2) (by lia);refine wpS_bind (zea O sb.kind hp hu (sb.all _ _ hp) (sb.all _ _ hu) ?_);dsimp only
    by_cases hl:L p u=true
    .rw[if_pos hl];refine wpS_pure ⟨l,(l+r) / 2,rfl,rfl,by lia,by lia,by lia,h4,fun i z a1 a2 hz2=>?_⟩
     cases q:L p z with
     |true=>rfl
     |false =>
      have e1:=sg ((l+r) / 2) i u z a1 a2 hu hz2;have e2:=O.tr u z p (sb.all _ _ hu) (sb.all _ _ hz2) (sb.all _ _ hp) e1 q;rw[hl]at e2;cases e2
    .rw[if_neg hl];have hl':L p u=false:=by simpa using hl
     refine wpS_pure ⟨(l+r) / 2+1,r,rfl,rfl,by lia,by lia,by lia,fun i z a1 hz2=>?_,h5⟩;have e1:=sg i ((l+r) / 2) z u (by lia) (by lia) hz2 hu;exact O.tr z u p (sb.all _ _ hz2) (sb.all _ _ hu) (sb.all _ _ hp) e1 hl'
  case post2 =>
   rintro c st2 ⟨l,rfl,rfl,h2,h4,h5⟩;dsimp only;rw[moveDown'_eq];refine wpS_bind (wpS_modify (wpS_pure ⟨rfl,sb.bub (by lia) (by lia) (by lia) (by lia),by lia,?_⟩));exact sg.ins O sb.all h2 (by lia) hp h4 h5
end
end TS
set_option maxHeartbeats 8000000
namespace TS
open PySem PyProof.Rows
def wr(a:Array Keyed)(o:Nat)(l:List Keyed)(k:Nat):Array Keyed:=(l.zipIdx k).foldl (fun a (p:Keyed×Nat)=>a.setIfInBounds (o+p.2) p.1) a
theorem zhS:∀(l:List Keyed) (k:Nat) (a:Array Keyed) (o i:Nat),o+k+l.length<=a.size->(wr a o l k)[i]?=if o+k<=i/\i<o+k+l.length then l[i-(o+k)]? else a[i]?
 |[],k,a,o,i,_=>by
  show a[i]?=_;rw[if_neg (by simp)]
 |x::l,k,a,o,i,hz=>by
  have ih:=zhS l (k+1) (a.setIfInBounds (o+k) x) o i (by rw[Array.size_setIfInBounds];simp at hz;lia);unfold wr at ih ⊢;rw[List.zipIdx_cons,List.foldl_cons,ih];simp only[List.length_cons]at hz ⊢
  by_cases h1:o+(k+1)<=i/\i<o+(k+1)+l.length
  .rw[if_pos h1,if_pos (by lia),show i-(o+k)=(i-(o+(k+1)))+1 by lia];rfl
  .rw[if_neg h1]
   by_cases h2:i=o+k
   .subst h2;rw[if_pos (by lia),Nat.sub_self];rw[Array.getElem?_setIfInBounds_self_of_lt (by lia)];rfl
   .rw[if_neg (by lia),Array.getElem?_setIfInBounds_ne (Ne.symm h2)]
theorem zkp{a:Array Keyed}{o:Nat}{l:List Keyed}(hz:o+l.length<=a.size):(wr a o l 0).toList=a.toList.take o++l++a.toList.drop (o+l.length):=by
 apply List.ext_getElem?
 intro i;rw[Array.getElem?_toList,zhS l 0 a o i (by simpa using hz)];have h1:(a.toList.take o).length=o:=by rw[List.length_take,Array.length_toList];lia
 by_cases c1:i<o
 .rw[if_neg (by lia),List.append_assoc,List.getElem?_append_left (by lia),List.getElem?_take,if_pos c1,Array.getElem?_toList]
 .by_cases c2:i<o+l.length
  .rw[if_pos (by lia),List.append_assoc,List.getElem?_append_right (by lia),List.getElem?_append_left (by lia),h1];rfl
  .rw[if_neg (by lia),List.getElem?_append_right (by simp;lia),List.getElem?_drop,<- Array.getElem?_toList]
   congr 1
   simp;lia
section
variable {M:Model}{A:Around}{E:Value->Shared->Prop}{s:Shared}{kd:SortKind}{S:Keyed->Prop}{L:Keyed->Keyed->Bool}
structure SM (kd:SortKind) (S:Keyed->Prop) (L:Keyed->Keyed->Bool) (st0 st:SortSt) (pd:Array (Nat×Nat×Nat)) (lo n:Nat):Prop where
 kind:kindOf st=kd
 pend:pendingOf st=pd
 fail:failedOf st=none
 perm:(arrOf st).Perm (arrOf st0)
 out:∀k:Nat,k<lo∨lo+n<=k->(arrOf st)[k]?=(arrOf st0)[k]?
 all:∀(k:Nat) x,(arrOf st)[k]?=some x->S x
 seg:Seg L (arrOf st) lo n
theorem Seg.glue{a:Array Keyed}(O:LtOk M A E s kd S L){lo n m:Nat}(hS:∀(k:Nat) x,a[k]?=some x->S x)(h1:Seg L a lo n)(h2:Seg L a (lo+n) m)(h:∀x y,a[lo+(n-1)]?=some x->a[lo+n]?=some y->L y x=false)(hn:0<n)(hz:lo+n+m<=a.size):Seg L a lo (n+m):=by
 intro i j x y hij hj hx hy;rcases Nat.lt_or_ge j n with cj |cj
 .exact h1 i j x y hij cj hx hy
 .rw[show lo+j=lo+n+(j-n) by lia]at hy;rcases Nat.lt_or_ge i n with ci |ci
  .have e1:a[lo+(n-1)]?=some a[lo+(n-1)]:=by rw[Array.getElem?_eq_getElem (by lia)]
   have e2:a[lo+n]?=some a[lo+n]:=by rw[Array.getElem?_eq_getElem (by lia)]
   have q1:=h1 i (n-1) x _ (by lia) (by lia) hx e1;have q2:=h _ _ e1 e2;have q3:=h2 0 (j-n) _ y (Nat.zero_le _) (by lia) e2 hy;exact O.tr x _ y (hS _ _ hx) (hS _ _ e1) (hS _ _ hy) q1 (O.tr _ _ y (hS _ _ e1) (hS _ _ e2) (hS _ _ hy) q2 q3)
  .rw[show lo+i=lo+n+(i-n) by lia]at hx;exact h2 (i-n) (j-n) x y (by lia) (by lia) hx hy
theorem zkq{x:SortSt}{Q:PUnit->SortSt->Prop}{st:SortSt}(h:Q ⟨⟩ x):wpS M A E s (set x:StateT SortSt Sem PUnit) Q st:=by unfold wpS;rw[StateT.run_set];exact wpAny_pure ⟨rfl,h⟩
theorem ze0{a:Array Keyed}{o n i:Nat}(hz:o+n<=a.size):(a.extract o (o+n))[i]?=if i<n then a[o+i]? else none:=by
 rw[Array.getElem?_extract]
 by_cases h:i<n
 .rw[if_pos h,if_pos (by lia)]
 .rw[if_neg h,if_neg (by lia)]
theorem zgP{a:Array Keyed}{o n:Nat}(hz:o+n<=a.size)(h:Seg L a o n):(a.extract o (o+n)).toList.Pairwise (leOf L):=by
 rw[List.pairwise_iff_getElem];intro i j hi hj hij;rw[Array.length_toList,Array.size_extract]at hi hj;have e1:(a.extract o (o+n))[i]?=some (a.extract o (o+n)).toList[i]:=by rw[<- Array.getElem?_toList,List.getElem?_eq_getElem]
 have e2:(a.extract o (o+n))[j]?=some (a.extract o (o+n)).toList[j]:=by rw[<- Array.getElem?_toList,List.getElem?_eq_getElem]
 rw[ze0 hz,if_pos (by lia)]at e1 e2;exact h i j _ _ (by lia) (by lia) e1 e2
theorem zdc{a:Array Keyed}{o n:Nat}{x:Keyed}(hz:o+n<=a.size)(h:x∈(a.extract o (o+n)).toList):∃i,i<n/\a[o+i]?=some x:=by
 obtain⟨i,hi,e⟩:=List.getElem_of_mem h;have e1:(a.extract o (o+n))[i]?=some x:=by rw[<- Array.getElem?_toList,List.getElem?_eq_getElem hi,e]
 rw[Array.length_toList,Array.size_extract]at hi;refine⟨i,by lia,?_⟩;rw[ze0 hz,if_pos (by lia)]at e1;exact e1
theorem SM.write(O:LtOk M A E s kd S L){st0 st:SortSt}{pd:Array (Nat × Nat × Nat)}{sa na nb k m:Nat}{r:Array Keyed}(hna : 1 <= na)(hk:k < na)(hm0 : 0 < m)(hm:m <= nb)(hz:sa + na + nb <= (arrOf st0).size)(hS:∀(k:Nat) x, (arrOf st0)[k]? = some x -> S x)
  (sA:Seg L (arrOf st0) sa na) (sB:Seg L (arrOf st0) (sa+na) nb) (y0 z0:Keyed) (hy0:(arrOf st0)[sa+na]?=some y0) (hz0:(arrOf st0)[sa+(na-1)]?=some z0)
  (A1:∀(i:Nat) x,i<k->(arrOf st0)[sa+i]?=some x->L y0 x=false) (B2:∀(i:Nat) y,m<=i->i<nb->(arrOf st0)[sa+na+i]?=some y->L y z0=false)
  (hr:Res (leOf L) ((arrOf st0).extract (sa+k) (sa+k+(na-k))).toList ((arrOf st0).extract (sa+na) (sa+na+m)).toList r.toList) (hkd:kindOf st=kd) (hp:pendingOf st=pd) (hf:failedOf st=none) (ha:arrOf st=wr (arrOf st0) (sa+k) r.toList 0) :
  SM kd S L st0 st pd sa (na+nb):=by
 obtain⟨hperm,hpair⟩:=hr
 have hrl:r.toList.length=(na-k)+m:=by rw[hperm.length_eq,List.length_append,Array.length_toList,Array.length_toList,Array.size_extract,Array.size_extract];lia
 have hz2:sa+k+r.toList.length<=(arrOf st0).size:=by lia
 have get':∀i:Nat,(arrOf st)[i]?=if sa+k<=i/\i<sa+k+r.toList.length then r.toList[i-(sa+k)]? else (arrOf st0)[i]?:=fun i=>by rw[ha,zhS _ _ _ _ _ (by lia)];simp only[Nat.add_zero]
 have rmem:∀x∈r.toList,(∃i,k<=i/\i<na/\(arrOf st0)[sa+i]?=some x)∨(∃i,i<m/\(arrOf st0)[sa+na+i]?=some x):=fun x hx=>by
  rcases List.mem_append.mp (hperm.mem_iff.mp hx) with q |q
  .obtain⟨i,hi,e⟩:=zdc (by lia) q;exact .inl ⟨k+i,by lia,by lia,by rw[show sa+(k+i)=sa+k+i by lia];exact e⟩
  .obtain⟨i,hi,e⟩:=zdc (by lia) q;exact .inr ⟨i,hi,e⟩
 have y0le:∀(i:Nat) y,i<nb->(arrOf st0)[sa+na+i]?=some y->L y y0=false:=fun i y hi hy=>sB 0 i y0 y (Nat.zero_le _) hi (by simpa using hy0) hy
 have lez0:∀(i:Nat) x,i<na->(arrOf st0)[sa+i]?=some x->L z0 x=false:=fun i x hi hx=>sA i (na-1) x z0 (by lia) (by lia) hx hz0
 refine⟨hkd,hp,hf,?_,fun i hi=>?_,fun i x hx=>?_,fun i j x y hij hj hx hy=>?_⟩
 .rw[ha];refine Array.perm_iff_toList_perm.mpr ?_
  rw[zkp hz2]
  have e:(arrOf st0).toList=(arrOf st0).toList.take (sa+k)++(((arrOf st0).extract (sa+k) (sa+k+(na-k))).toList++((arrOf st0).extract (sa+na) (sa+na+m)).toList)++(arrOf st0).toList.drop (sa+k+r.toList.length):=by rw[zcB,zcB];have d1:=List.take_append_drop (sa+k) (arrOf st0).toList;have d2:=zcF (arrOf st0).toList (sa+k) (na-k);have d3:=zcF (arrOf st0).toList (sa+na) m;rw[show sa+k+(na-k)=sa+na by lia]at d2;rw[show sa+k+r.toList.length=sa+na+m by lia,List.append_assoc,List.append_assoc,<- d3,<- d2,d1]
  conv=>rhs;rw[e]
  exact (hperm.append_left _).append_right _
 .rw[get',if_neg (by lia)]
 .rw[get']at hx;split at hx
  .rcases rmem x (List.mem_of_getElem? hx) with⟨_,_,_,e⟩ |⟨_,_,e⟩
   .exact hS _ _ e
   .exact hS _ _ e
  .exact hS _ _ hx
 .rw[get']at hx hy
  by_cases ci:sa+k<=sa+i/\sa+i<sa+k+r.toList.length
  .rw[if_pos ci]at hx
   by_cases cj:sa+k<=sa+j/\sa+j<sa+k+r.toList.length
   .rw[if_pos cj]at hy;rcases Nat.lt_or_ge i j with q |q
    .have h1:sa+i-(sa+k)<r.toList.length:=by lia
     have h2:sa+j-(sa+k)<r.toList.length:=by lia
     rw[List.getElem?_eq_getElem h1]at hx;rw[List.getElem?_eq_getElem h2]at hy;have:=List.pairwise_iff_getElem.mp hpair _ _ h1 h2 (by lia);rw[Option.some.inj hx,Option.some.inj hy]at this;exact this
    .have e:i=j:=by lia
     subst e;rw[hx]at hy;cases hy;rcases rmem x (List.mem_of_getElem? hx) with⟨_,_,_,e⟩ |⟨_,_,e⟩
     .exact O.rf (hS _ _ e)
     .exact O.rf (hS _ _ e)
   .rw[if_neg cj,show sa+j=sa+na+(j-na) by lia]at hy;have q1:=B2 (j-na) y (by lia) (by lia) hy;rcases rmem x (List.mem_of_getElem? hx) with⟨t,_,h2,e⟩ |⟨t,h2,e⟩
    .exact O.tr x z0 y (hS _ _ e) (hS _ _ hz0) (hS _ _ hy) (lez0 t x h2 e) q1
    .exact sB t (j-na) x y (by lia) (by lia) e hy
  .rw[if_neg ci]at hx
   by_cases cj:sa+k<=sa+j/\sa+j<sa+k+r.toList.length
   .rw[if_pos cj]at hy;rcases rmem y (List.mem_of_getElem? hy) with⟨t,h1,h2,e⟩ |⟨t,h2,e⟩
    .exact sA i t x y (by lia) h2 hx e
    .exact O.tr x y0 y (hS _ _ hx) (hS _ _ hy0) (hS _ _ e) (A1 i x (by lia) hx) (y0le t y (by lia) e)
   .rw[if_neg cj]at hy;rcases Nat.lt_or_ge i k with ck |ck
    .rcases Nat.lt_or_ge j k with cl |cl
     .exact sA i j x y hij (by lia) hx hy
     .rw[show sa+j=sa+na+(j-na) by lia]at hy;exact O.tr x y0 y (hS _ _ hx) (hS _ _ hy0) (hS _ _ hy) (A1 i x ck hx) (y0le (j-na) y (by lia) hy)
    .rw[show sa+i=sa+na+(i-na) by lia]at hx;rw[show sa+j=sa+na+(j-na) by lia]at hy;exact sB (i-na) (j-na) x y (by lia) (by lia) hx hy
theorem zfz (O : LtOk M A E s kd S L){st : SortSt}{i sa na pw nb pw2 : Nat}{Q : Bool → SortSt → Prop}(h1 : (pendingOf st)[i]? = some (sa, na, pw)) (h2 : (pendingOf st)[i + 1]? = some (sa + na, nb, pw2)) (hna : 1 ≤ na) (hnb : 1 ≤ nb) (hz : sa + na + nb ≤ (arrOf st).size)
    (hk:kindOf st=kd) (hf:failedOf st=none) (hS:∀ (k:Nat) x,(arrOf st)[k]?=some x→S x) (sA:Seg L (arrOf st) sa na) (sB:Seg L (arrOf st) (sa+na) nb)
    (hQ:∀ st',SM kd S L st st' (((pendingOf st).setIfInBounds i (sa,na+nb,pw)).eraseIdxIfInBounds (i+1)) sa (na+nb)→Q true st'):wpS M A E s (mergeAt' i) Q st:=by
  refine wpS_bind (wpS_get ?_)
  rw[h1,h2]
  dsimp only
  refine wpS_bind (zkq ?_)
  obtain⟨y0,hy0⟩:=zbJ (st:=st) (i:=sa+na) (by lia)
  obtain⟨z0,hz0⟩:=zbJ (st:=st) (i:=sa+(na - 1)) (by lia)
  refine wpS_bind (zak hy0 ?_)
  have Sy:=hS _ _ hy0
  refine wpS_bind (zbT O (left:=false) (b:=fun i=>match (arrOf st)[sa+i]? with | some x=>!L y0 x | none=>false) hk Sy (fun i hi=>?_) (fun i j hij hj hb=>?_) (by lia) (fun k hkn kt kf=>?_))
  . obtain⟨x,hx⟩:=zbJ (st:=st) (i:=sa+i) (by lia)
    refine⟨x,hx,hS _ _ hx,?_⟩
    simp only[hx]
    rfl
  . obtain⟨x,hx⟩:=zbJ (st:=st) (i:=sa+i) (by lia)
    obtain⟨y,hy⟩:=zbJ (st:=st) (i:=sa+j) (by lia)
    simp only[hx,hy] at hb ⊢
    have e1:=sA i j x y hij hj hx hy
    have e2:L y0 y=false:=by simpa using hb
    rw[O.tr x y y0 (hS _ _ hx) (hS _ _ hy) Sy e1 e2];rfl
  have A1:∀ (i:Nat) x,i<k→(arrOf st)[sa+i]?=some x→L y0 x=false:=fun i x hi hx=>by
    have:=kt i hi
    simp only[hx] at this
    simpa using this
  have A2:∀ (i:Nat) x,k≤i→i<na→(arrOf st)[sa+i]?=some x→L y0 x=true:=fun i x h3 h4 hx=>by
    have:=kf i h3 h4
    simp only[hx] at this
    simpa using this
  dsimp only
  by_cases hk0:(na - k == 0)=true
  . rw[if_pos hk0]
    have ek : k = na := by have : na - k = 0 := by simpa using hk0
                           lia
    refine wpS_pure (hQ _ ⟨hk,rfl,hf,Array.Perm.refl _,fun _ _=>rfl,hS,sA.glue O hS sB (fun x y hx hy=>?_) (by lia) hz⟩)
    rw[hy0] at hy;cases hy
    exact A1 (na - 1) x (by lia) hx
  . rw[if_neg hk0]
    have hkl : k < na := by have : na - k ≠ 0 := by simpa using hk0
                            lia
    have hz0':(arrOf st)[sa+k+(na - k) - 1]?=some z0:=by rw[show sa+k+(na - k) - 1=sa+(na - 1) by lia];exact hz0
    refine wpS_bind (zak hz0' ?_)
    have Sz:=hS _ _ hz0
    refine wpS_bind (zbT O (left:=true) (b:=fun i=>match (arrOf st)[sa+na+i]? with | some x=>L x z0 | none=>false) hk Sz (fun i hi=>?_) (fun i j hij hj hb=>?_) (by lia) (fun m hmn mt mf=>?_))
    . obtain⟨x,hx⟩:=zbJ (st:=st) (i:=sa+na+i) (by lia)
      refine⟨x,hx,hS _ _ hx,?_⟩
      simp only[hx]
      rfl
    . obtain⟨x,hx⟩:=zbJ (st:=st) (i:=sa+na+i) (by lia)
      obtain⟨y,hy⟩:=zbJ (st:=st) (i:=sa+na+j) (by lia)
      simp only[hx,hy] at hb ⊢
      have e1:=sB i j x y hij hj hx hy
      cases q:L x z0 with
      | true=>rfl
      | false =>
        have:=O.tr z0 x y Sz (hS _ _ hx) (hS _ _ hy) q e1
        rw[hb] at this;cases this
    have B1:∀ (i:Nat) y,i<m→(arrOf st)[sa+na+i]?=some y→L y z0=true:=fun i y hi hy=>by
      have:=mt i hi
      simp only[hy] at this
      exact this
    have B2:∀ (i:Nat) y,m≤i→i<nb→(arrOf st)[sa+na+i]?=some y→L y z0=false:=fun i y h3 h4 hy=>by
      have:=mf i h3 h4
      simp only[hy] at this
      exact this
    dsimp only
    have y0z:L y0 z0=true:=A2 (na - 1) z0 (by lia) (by lia) hz0
    have hm0:0<m:=by
      rcases Nat.eq_zero_or_pos m with q | q
      . have:=B2 0 y0 (by lia) (by lia) (by simpa using hy0)
        rw[y0z] at this;cases this
      . exact q
    rw[if_neg (by simp;lia)]
    have exA:sa+na=sa+k+(na - k):=by lia
    have hX:((arrOf st).extract (sa+k) (sa+na))=(arrOf st).extract (sa+k) (sa+k+(na - k)):=by rw[← exA]
    have sA':Seg L (arrOf st) (sa+k) (na - k):=fun i j x y hij hj hx hy=>sA (k+i) (k+j) x y (by lia) (by lia) (by rw[show sa+(k+i)=sa+k+i by lia];exact hx) (by rw[show sa+(k+j)=sa+k+j by lia];exact hy)
    have sB':Seg L (arrOf st) (sa+na) m:=fun i j x y hij hj hx hy=>sB i j x y hij (by lia) hx hy
    have T:Two S L ((arrOf st).extract (sa+k) (sa+k+(na - k))) ((arrOf st).extract (sa+na) (sa+na+m)):=⟨zgP (by lia) sA',zgP (by lia) sB',(fun x hx=>by obtain⟨i,_,e⟩:=zdc (by lia) hx;exact hS _ _ e),(fun x hx=>by obtain⟨i,_,e⟩:=zdc (by lia) hx;exact hS _ _ e)⟩
    have zA:0<((arrOf st).extract (sa+k) (sa+k+(na - k))).size:=by rw[Array.size_extract];lia
    have zB:0<((arrOf st).extract (sa+na) (sa+na+m)).size:=by rw[Array.size_extract];lia
    have c0:∀ y,((arrOf st).extract (sa+na) (sa+na+m))[0]?=some y→∀ x∈((arrOf st).extract (sa+k) (sa+k+(na - k))).toList,leOf L y x:=fun y hy x hx=>by
      rw[ze0 (by lia),if_pos hm0] at hy
      rw[Nat.add_zero,hy0] at hy;cases hy
      obtain⟨i,hi,e⟩:=zdc (by lia) hx
      exact O.as y0 x Sy (hS _ _ e) (A2 (k+i) x (by lia) (by lia) (by rw[show sa+(k+i)=sa+k+i by lia];exact e))
    have c1:∀ z,((arrOf st).extract (sa+k) (sa+k+(na - k)))[((arrOf st).extract (sa+k) (sa+k+(na - k))).size - 1]?=some z→∀ x∈((arrOf st).extract (sa+na) (sa+na+m)).toList,leOf L x z:=fun z hz' x hx=>by
      have es:((arrOf st).extract (sa+k) (sa+k+(na - k))).size=na - k:=by rw[Array.size_extract];lia
      rw[es,ze0 (by lia),if_pos (by lia),show sa+k+(na - k - 1)=sa+(na - 1) by lia,hz0] at hz'
      cases hz'
      obtain⟨i,hi,e⟩:=zdc (by lia) hx
      exact O.as x z0 (hS _ _ e) Sz (B1 i x hi e)
    by_cases hle:na - k≤m
    . rw[if_pos hle]
      refine wpS_bind ?_
      show wpS M A E s (zg5 ((arrOf st).extract (sa+k) (sa+na)) ((arrOf st).extract (sa+na) (sa+na+m))) _ _
      rw[hX]
      refine zfx O T hk zA zB c0 c1 fun r st2 hr hlk=>?_
      refine wpS_bind (wpS_modify (wpS_bind (wpS_get (wpS_pure ?_))))
      have hf2:failedOf st2=none:=by rw[hlk.2.2.2];exact hf
      have:=hQ (setArr st2 (wr (arrOf st) (sa+k) r.toList 0)) (SM.write O hna hkl hm0 hmn hz hS sA sB y0 z0 hy0 hz0 A1 B2 hr (by show kindOf st2=kd;rw[hlk.1];exact hk) (by show pendingOf st2=_;rw[hlk.2.2.1]) hf2 rfl)
      have ea:arrOf st2=arrOf st:=hlk.2.1
      rw[← ea] at this
      show Q (failedOf st2).isNone _
      rw[hf2]
      exact this
    . rw[if_neg hle]
      refine wpS_bind ?_
      show wpS M A E s (zg6 ((arrOf st).extract (sa+k) (sa+na)) ((arrOf st).extract (sa+na) (sa+na+m))) _ _
      rw[hX]
      refine zfy O T hk zA zB c0 c1 fun r st2 hr hlk=>?_
      refine wpS_bind (wpS_modify (wpS_bind (wpS_get (wpS_pure ?_))))
      have hf2:failedOf st2=none:=by rw[hlk.2.2.2];exact hf
      have:=hQ (setArr st2 (wr (arrOf st) (sa+k) r.toList 0)) (SM.write O hna hkl hm0 hmn hz hS sA sB y0 z0 hy0 hz0 A1 B2 hr (by show kindOf st2=kd;rw[hlk.1];exact hk) (by show pendingOf st2=_;rw[hlk.2.2.1]) hf2 rfl)
      have ea:arrOf st2=arrOf st:=hlk.2.1
      rw[← ea] at this
      show Q (failedOf st2).isNone _
      rw[hf2]
      exact this
end
end TS
set_option maxHeartbeats 8000000
namespace TS
open PySem PyProof.Rows
abbrev Run:=Nat×Nat×Nat
section
variable {M:Model}{A:Around}{E:Value->Shared->Prop}{s:Shared}{kd:SortKind}{S:Keyed->Prop}{L:Keyed->Keyed->Bool}
def Runs(L:Keyed->Keyed->Bool)(a:Array Keyed):List Run->Nat->Nat->Prop
 |[],x,y=>x=y
 |r::l,x,y=>r.1=x/\1<=r.2.1/\Seg L a r.1 r.2.1/\Runs L a l (x+r.2.1) y
theorem Runs.le{a:Array Keyed}:∀{l:List Run}{x y:Nat},Runs L a l x y->x+l.length<=y
 |[],x,y,h=>by have:x=y:=h;simp;lia
 |r::l,x,y,h=>by
  have:=Runs.le h.2.2.2;have:=h.2.1;simp only[List.length_cons];lia
theorem Seg.cong{a b:Array Keyed}{lo n:Nat}(h:Seg L a lo n)(e:∀k:Nat,lo<=k->k<lo+n->b[k]?=a[k]?):Seg L b lo n:=fun i j x y hij hj hx hy =>
 h i j x y hij hj (by rw[<- e _ (by lia) (by lia)];exact hx) (by rw[<- e _ (by lia) (by lia)];exact hy)
theorem Runs.cong{a b:Array Keyed}:∀{l:List Run}{x y:Nat},Runs L a l x y->(∀k:Nat,x<=k->k<y->b[k]?=a[k]?)->Runs L b l x y
 |[],_,_,h,_=>h
 |r::l,x,y,h,e=>by
  have hl:=h.2.2.2.le;have h1:=h.1;exact⟨h.1,h.2.1,h.2.2.1.cong fun k h2 h3=>e k (by lia) (by lia),Runs.cong h.2.2.2 fun k h2 h3=>e k (by lia) h3⟩
theorem Runs.snoc{a:Array Keyed}:∀{l:List Run}{x y n pw:Nat},Runs L a l x y->1<=n->Seg L a y n->Runs L a (l++[(y,n,pw)]) x (y+n)
 |[],x,y,n,pw,h,hn,hs=>by
  have:x=y:=h;subst this;exact⟨rfl,hn,hs,rfl⟩
 |r::l,x,y,n,pw,h,hn,hs=>⟨h.1,h.2.1,h.2.2.1,Runs.snoc h.2.2.2 hn hs⟩
theorem Runs.pair{a:Array Keyed} : ∀{l:List Run}{x y i sa na pw sb nb pw2:Nat}, Runs L a l x y -> l[i]? = some (sa, na, pw) -> l[i + 1]? = some (sb, nb, pw2) ->
  sb=sa+na/\1<=na/\1<=nb/\x<=sa/\sa+na+nb<=y/\Seg L a sa na/\Seg L a (sa+na) nb /\
  ∀b:Array Keyed,(∀k:Nat,k<sa∨sa+na+nb<=k->b[k]?=a[k]?)->Seg L b sa (na+nb)->Runs L b ((l.set i (sa,na+nb,pw)).eraseIdx (i+1)) x y
 |[],_,_,_,_,_,_,_,_,_,_,h1,_=>by simp at h1
 |[_],_,_,i,_,_,_,_,_,_,_,_,h2=>by simp at h2
 |r::q::l,x,y,0,sa,na,pw,sb,nb,pw2,h,h1,h2=>by
  have e1:r=(sa,na,pw):=Option.some.inj h1;have e2:q=(sb,nb,pw2):=Option.some.inj h2;subst e1;subst e2;obtain⟨a1,a2,a3,b1,b2,b3,hr⟩:=h;simp only at a1 a2 a3 b1 b2 b3 hr;subst a1;have hl:=hr.le;refine⟨b1,a2,b2,Nat.le_refl _,by lia,a3,by rw[<- b1];exact b3,fun b hb hs=>⟨rfl,by show 1<=na+nb;lia,hs,?_⟩⟩;show Runs L b l (sa+(na+nb)) y;rw[show sa+(na+nb)=sa+na+nb by lia];exact hr.cong fun k h3 h4=>hb k (.inr h3)
 |r::q::l,x,y,i+1,sa,na,pw,sb,nb,pw2,h,h1,h2=>by
  obtain⟨a1,a2,a3,hr⟩:=h;obtain⟨c1,c2,c3,c4,c5,c6,c7,c8⟩:=Runs.pair hr (i:=i) (by simpa using h1) (by simpa using h2);refine⟨c1,c2,c3,by lia,c5,c6,c7,fun b hb hs=>⟨a1,a2,a3.cong fun k h3 h4=>hb k (.inl (by lia)),?_⟩⟩;exact c8 b hb hs
theorem Runs.power{a:Array Keyed}:∀{l:List Run}{x y:Nat}(f:Run->Run) (i:Nat),(∀r,(f r).1=r.1/\(f r).2.1=r.2.1)->Runs L a l x y->Runs L a (l.modify i f) x y
 |[],_,_,f,i,_,h=>by cases i <;> exact h
 |r::l,x,y,f,0,hf,h=>by
  refine⟨by rw[(hf r).1];exact h.1,by rw[(hf r).2];exact h.2.1,by rw[(hf r).1,(hf r).2];exact h.2.2.1,?_⟩;show Runs L a l (x+(f r).2.1) y;rw[(hf r).2];exact h.2.2.2
 |r::l,x,y,f,i+1,hf,h=>⟨h.1,h.2.1,h.2.2.1,Runs.power f i hf h.2.2.2⟩
structure PD (kd:SortKind) (S:Keyed->Prop) (L:Keyed->Keyed->Bool) (a0:Array Keyed) (st:SortSt) (lo:Nat):Prop where
 kind:kindOf st=kd
 fail:failedOf st=none
 perm:(arrOf st).Perm a0
 all:∀(k:Nat) x,(arrOf st)[k]?=some x->S x
 runs:Runs L (arrOf st) (pendingOf st).toList 0 lo
theorem PD.size{a0:Array Keyed}{st:SortSt}{lo:Nat}(h:PD kd S L a0 st lo):(arrOf st).size=a0.size:=h.perm.size_eq
theorem PD.merge(O:LtOk M A E s kd S L){a0:Array Keyed}{st:SortSt}{lo i:Nat}{Q:Bool -> SortSt -> Prop}(h:PD kd S L a0 st lo)(hlo:lo <= a0.size)(hi:i + 1 < (pendingOf st).size)
  (hQ:∀st',PD kd S L a0 st' lo->(pendingOf st').size+1=(pendingOf st).size->(∀k:Nat,lo<=k->(arrOf st')[k]?=(arrOf st)[k]?)->Q true st'):wpS M A E s (mergeAt' i) Q st:=by
 obtain⟨⟨sa,na,pw⟩,h1⟩:∃r,(pendingOf st)[i]?=some r:=⟨_,Array.getElem?_eq_getElem (by lia)⟩;obtain⟨⟨sb,nb,pw2⟩,h2⟩:∃r,(pendingOf st)[i+1]?=some r:=⟨_,Array.getElem?_eq_getElem hi⟩;obtain⟨c1,c2,c3,c4,c5,c6,c7,c8⟩:=h.runs.pair (i:=i) (by rw[Array.getElem?_toList];exact h1) (by rw[Array.getElem?_toList];exact h2);subst c1;refine zfz O h1 h2 c2 c3 (by rw[h.size];lia) h.kind h.fail h.all c6 c7 fun st' sm=>hQ st' ⟨sm.kind,sm.fail,sm.perm.trans h.perm,sm.all,?_⟩ ?_ fun k hk=>sm.out k (by lia)
 .rw[sm.pend];have e:(((pendingOf st).setIfInBounds i (sa,na+nb,pw)).eraseIdxIfInBounds (i+1)).toList=((pendingOf st).toList.set i (sa,na+nb,pw)).eraseIdx (i+1):=by simp
  rw[e];exact c8 _ (fun k hk=>sm.out k (by lia)) sm.seg
 .rw[sm.pend];have e:(((pendingOf st).setIfInBounds i (sa,na+nb,pw)).eraseIdxIfInBounds (i+1)).toList=((pendingOf st).toList.set i (sa,na+nb,pw)).eraseIdx (i+1):=by simp
  have e2:=congrArg List.length e;rw[List.length_eraseIdx_of_lt (by rw[List.length_set,Array.length_toList];exact hi),List.length_set,Array.length_toList,Array.length_toList]at e2;lia
theorem sortRuns_spec(O:LtOk M A E s kd S L){st:SortSt}{Q:Unit -> SortSt -> Prop}(h2 : 2 <= (arrOf st).size)(hk:kindOf st=kd)(hp:pendingOf st = #[])(hf:failedOf st=none)(hS:∀(k:Nat) x, (arrOf st)[k]? = some x -> S x)
  (hQ:∀st',(arrOf st').Perm (arrOf st)->failedOf st'=none->Seg L (arrOf st') 0 (arrOf st).size->Q () st'):wpS M A E s sortRuns' Q st:=by
 rw[sortRuns'_eq];refine wpS_bind (wpS_get ?_);dsimp only;have pd0:PD kd S L (arrOf st) st 0:=⟨hk,hf,Array.Perm.refl _,hS,by rw[hp];rfl⟩;generalize ha0:arrOf st=a0 at h2 pd0 hQ
 refine wpS_bind (wpS_mono (wpS_forRange (I:=fun x c st'=>∃lo,c=(none,lo)/\(x<=lo∨a0.size<=lo)/\lo<=a0.size/\PD kd S L a0 st' lo)
  (Q:=fun c st'=>c=(none,a0.size)/\PD kd S L a0 st' a0.size) ?step ?fin ⟨0,rfl,.inl (Nat.le_refl _),Nat.zero_le _,pd0⟩) ?post)
 case fin =>
  rintro c st' ⟨lo,rfl,h3,h4,pd⟩;have:lo=a0.size:=by lia
  subst this;exact⟨rfl,pd⟩
 case step =>
  rintro x c st' _ hx ⟨lo,rfl,h3,h4,pd⟩;dsimp only
  by_cases hge:lo ≥ a0.size
  .rw[if_pos hge];have:lo=a0.size:=by lia
   subst this;exact wpS_pure ⟨rfl,pd⟩
  .rw[if_neg hge];refine wpS_bind (ze3 O (by lia) (by rw[pd.size];lia) pd.kind pd.all fun m st1 sb1 hm1 hm2 sg1=>?_);dsimp only;have pd1:PD kd S L a0 st1 lo:=⟨sb1.kind,by rw[sb1.fail];exact pd.fail,sb1.perm.trans pd.perm,sb1.all,by rw[sb1.pend];exact pd.runs.cong fun k _ h5=>sb1.out k (.inl h5)⟩
   by_cases hlt:m<minRun' a0.size a0.size 0
   .rw[if_pos hlt];refine wpS_bind (wpS_lift (wpAny_rule ⟨rfl,?_⟩));refine wpS_bind (zdY O hm1 (by lia) (by rw[pd1.size];lia) pd1.kind pd1.all sg1 fun st2 sb2 sg2=>?_)
    try dsimp only
    rw[if_neg (by decide)];have pdX:PD kd S L a0 st2 lo:=⟨sb2.kind,by rw[sb2.fail];exact pd1.fail,sb2.perm.trans pd1.perm,sb2.all,by rw[sb2.pend];exact pd1.runs.cong fun k _ h5=>sb2.out k (.inl h5)⟩;have sgX:=sg2;refine wpS_bind (wpS_get ?_)
    cases hb:(pendingOf st2).back? with
    |none =>
     try dsimp only
     refine wpS_bind (wpS_modify (wpS_pure ⟨lo+min (a0.size-lo) (minRun' a0.size a0.size 0),rfl,.inl (by lia),by lia,?_⟩));refine⟨pdX.kind,pdX.fail,pdX.perm,pdX.all,?_⟩;show Runs L (arrOf st2) ((pendingOf st2).push (lo,min (a0.size-lo) (minRun' a0.size a0.size 0),0)).toList 0 (lo+min (a0.size-lo) (minRun' a0.size a0.size 0));rw[Array.toList_push];exact pdX.runs.snoc (by lia) sgX
    |some r =>
     obtain⟨s1,n1,p1⟩:=r
     try dsimp only
     refine wpS_bind (wpS_mono (wpS_forRange (I:=fun y c st3=>c=(none,())/\PD kd S L a0 st3 lo/\Seg L (arrOf st3) lo (min (a0.size-lo) (minRun' a0.size a0.size 0))) (Q:=fun c st3=>c=(none,())/\PD kd S L a0 st3 lo/\Seg L (arrOf st3) lo (min (a0.size-lo) (minRun' a0.size a0.size 0))) ?stepI ?finI ⟨rfl,pdX,sgX⟩) ?postI)
     case finI =>
      rintro c st3 hh;exact hh
     case stepI =>
      rintro y c st3 _ _ ⟨rfl,pd3,sg3⟩;refine wpS_bind (wpS_get ?_)
      by_cases hsz:(pendingOf st3).size > 1
      .rw[if_pos hsz];obtain⟨⟨u1,u2,older⟩,hu⟩:∃r,(pendingOf st3)[(pendingOf st3).size-2]?=some r:=⟨_,Array.getElem?_eq_getElem (by lia)⟩;rw[hu]
       try dsimp only
       by_cases hol:older<=power' a0.size (2*s1+n1) (2*s1+n1+n1+min (a0.size-lo) (minRun' a0.size a0.size 0)) a0.size
       .rw[if_pos hol];exact wpS_pure ⟨rfl,pd3,sg3⟩
       .rw[if_neg hol];refine wpS_bind (pd3.merge O (by lia) (by lia) fun st4 pd4 _ ho=>?_)
        try dsimp only
        rw[if_neg (by decide)];exact wpS_pure ⟨rfl,pd4,sg3.cong fun k h5 _=>ho k h5⟩
      .rw[if_neg hsz];exact wpS_pure ⟨rfl,pd3,sg3⟩
     case postI =>
      rintro c st3 ⟨rfl,pd3,sg3⟩
      try dsimp only
      refine wpS_bind (wpS_modify (wpS_bind (wpS_modify (wpS_pure ⟨lo+min (a0.size-lo) (minRun' a0.size a0.size 0),rfl,.inl (by lia),by lia,?_⟩))));refine⟨pd3.kind,pd3.fail,pd3.perm,pd3.all,?_⟩;show Runs L (arrOf st3) (((pendingOf st3).modify ((pendingOf st3).size-1) _).push (lo,min (a0.size-lo) (minRun' a0.size a0.size 0),0)).toList 0 (lo+min (a0.size-lo) (minRun' a0.size a0.size 0));rw[Array.toList_push,Array.toList_modify];refine Runs.snoc (Runs.power _ _ ?_ pd3.runs) (by lia) sg3;exact fun r=>⟨rfl,rfl⟩
   .rw[if_neg hlt];have pdX:=pd1;have sgX:=sg1;refine wpS_bind (wpS_get ?_)
    cases hb:(pendingOf st1).back? with
    |none =>
     try dsimp only
     refine wpS_bind (wpS_modify (wpS_pure ⟨lo+m,rfl,.inl (by lia),by lia,?_⟩));refine⟨pdX.kind,pdX.fail,pdX.perm,pdX.all,?_⟩;show Runs L (arrOf st1) ((pendingOf st1).push (lo,m,0)).toList 0 (lo+m);rw[Array.toList_push];exact pdX.runs.snoc (by lia) sgX
    |some r =>
     obtain⟨s1,n1,p1⟩:=r
     try dsimp only
     refine wpS_bind (wpS_mono (wpS_forRange (I:=fun y c st3=>c=(none,())/\PD kd S L a0 st3 lo/\Seg L (arrOf st3) lo (m)) (Q:=fun c st3=>c=(none,())/\PD kd S L a0 st3 lo/\Seg L (arrOf st3) lo (m)) ?stepI ?finI ⟨rfl,pdX,sgX⟩) ?postI)
     case finI =>
      rintro c st3 hh;exact hh
     case stepI =>
      rintro y c st3 _ _ ⟨rfl,pd3,sg3⟩;refine wpS_bind (wpS_get ?_)
      by_cases hsz:(pendingOf st3).size > 1
      .rw[if_pos hsz];obtain⟨⟨u1,u2,older⟩,hu⟩:∃r,(pendingOf st3)[(pendingOf st3).size-2]?=some r:=⟨_,Array.getElem?_eq_getElem (by lia)⟩;rw[hu]
       try dsimp only
       by_cases hol:older<=power' a0.size (2*s1+n1) (2*s1+n1+n1+m) a0.size
       .rw[if_pos hol];exact wpS_pure ⟨rfl,pd3,sg3⟩
       .rw[if_neg hol];refine wpS_bind (pd3.merge O (by lia) (by lia) fun st4 pd4 _ ho=>?_)
        try dsimp only
        rw[if_neg (by decide)];exact wpS_pure ⟨rfl,pd4,sg3.cong fun k h5 _=>ho k h5⟩
      .rw[if_neg hsz];exact wpS_pure ⟨rfl,pd3,sg3⟩
     case postI =>
      rintro c st3 ⟨rfl,pd3,sg3⟩
      try dsimp only
      refine wpS_bind (wpS_modify (wpS_bind (wpS_modify (wpS_pure ⟨lo+m,rfl,.inl (by lia),by lia,?_⟩))));refine⟨pd3.kind,pd3.fail,pd3.perm,pd3.all,?_⟩;show Runs L (arrOf st3) (((pendingOf st3).modify ((pendingOf st3).size-1) _).push (lo,m,0)).toList 0 (lo+m);rw[Array.toList_push,Array.toList_modify];refine Runs.snoc (Runs.power _ _ ?_ pd3.runs) (by lia) sg3;exact fun r=>⟨rfl,rfl⟩
 case post =>
  rintro c st1 ⟨rfl,pd1⟩
  try dsimp only
  have hlen:(pendingOf st1).size<=a0.size:=by have:=pd1.runs.le;rw[Array.length_toList]at this;lia
  refine wpS_bind (wpS_mono (wpS_forRange (I:=fun x c st2=>c=(none,())/\PD kd S L a0 st2 a0.size/\((pendingOf st2).size+x<=a0.size+1))
   (Q:=fun c st2=>c=(none,())/\PD kd S L a0 st2 a0.size/\(pendingOf st2).size<=1) ?step ?fin ⟨rfl,pd1,by lia⟩) ?post)
  case fin =>
   rintro c st2 ⟨rfl,pd2,h5⟩;exact⟨rfl,pd2,by lia⟩
  case step =>
   rintro x c st2 _ hx ⟨rfl,pd2,h5⟩;refine wpS_bind (wpS_get ?_)
   try dsimp only
   by_cases hle:(pendingOf st2).size<=1
   .rw[if_pos hle];exact wpS_pure ⟨rfl,pd2,hle⟩
   .rw[if_neg hle];refine wpS_bind (pd2.merge O (Nat.le_refl _) ?_ fun st3 pd3 hs3 _=>?_)
    .have le':∀(c:Prop) [Decidable c] (p q:Nat),(if c then p else q)<=max p q:=fun c _ p q=>by split <;> lia
     have:=le' (Option.any (fun x=>decide (x<(pendingOf st2)[(pendingOf st2).size-2+1]?.elim 0 fun x=>x.snd.fst)) (if (pendingOf st2).size-2 > 0 then Option.map (fun x=>x.snd.fst) (pendingOf st2)[(pendingOf st2).size-2-1]? else none)=true) ((pendingOf st2).size-2-1) ((pendingOf st2).size-2);lia
    .try dsimp only
     rw[if_neg (by decide)];exact wpS_pure ⟨rfl,pd3,by lia⟩
  case post =>
   rintro c st2 ⟨rfl,pd2,h5⟩;refine wpS_pure (hQ st2 pd2.perm pd2.fail ?_);have hr:=pd2.runs
   cases hl:(pendingOf st2).toList with
   |nil =>
    rw[hl]at hr;have:0=a0.size:=hr;lia
   |cons r l =>
    have hll:(pendingOf st2).toList.length<=1:=by rw[Array.length_toList];exact h5
    rw[hl]at hll hr;have:l=[]:=List.length_eq_zero_iff.mp (by simp at hll;simpa using hll);subst this;obtain⟨c1,c2,c3,c4⟩:=hr;have c4':0+r.2.1=a0.size:=c4;rw[c1,show r.2.1=a0.size by lia]at c3;exact c3
end
end TS
namespace L2
open PySem PySem.Spec PyProof.Rows
theorem zfr{α β:Type}{f:α->β}{xs ys:List β}(p:ys.Perm xs):∀{l:List α},xs=l.map f->∃l':List α,l'.Perm l/\ys=l'.map f:=by
 induction p with
 |nil=>intro l h;exact⟨l,List.Perm.refl _,h⟩
 |cons v _ ih =>
  intro l h
  match l,h with
  |x::l,h =>
   injection h with h1 h2;obtain⟨l',p',e⟩:=ih h2;exact⟨x::l',p'.cons x,by rw[e,h1];rfl⟩
 |swap a b r =>
  intro l h
  match l,h with
  |x::y::l,h =>
   injection h with h1 h2;injection h2 with h2 h3;exact⟨y::x::l,List.Perm.swap _ _ _,by rw[h1,h2,h3];rfl⟩
 |trans _ _ ih1 ih2 =>
  intro l h;obtain⟨l1,p1,h1⟩:=ih2 h;obtain⟨l2,p2,h2⟩:=ih1 h1;exact⟨l2,p2.trans p1,h2⟩
section
variable {X:Cx}{pins:List (Addr×Obj)}{σ:St}{H:Hp}{s:Shared}{D st:Addr}{e:Nat}{κV:Nat->List V}{ks:List Addr}{E:Value->Shared->Prop}
def Ordd(κ:Nat->List Int)(n:Nat)(p:Array Nat):Prop:=RK.Pm n p/\p.toList.Pairwise fun i j=>HT.lexLt (κ j) (κ i)=false
def zfE(κ:Nat->List Int)(ks:List Addr):Value->List Int
 |.ref a=>κ (ks.idxOf a)
 |_=>[]
theorem zkY{vs:List Value}{κ : Nat -> List Int}(K:SK X pins σ H s D st e κV ks)(hl:ks.length=vs.length)(h2 : 2 <= vs.length)
  (hcol:∀i j,i<ks.length->j<ks.length->∃n m r q rn rm,κV i=.int n::r/\κV j=.int m::q/\VCols r q rn rm/\κ i=n::rn/\κ j=m::rm) :
  zhr X (Ordd κ vs.length) (ks.map Value.ref) vs E s:=by
 unfold zhr
 obtain⟨fs,kt,hfl,hfi⟩:=ziT (as:=[]) (vs:=[]) K.inv (ks:=ks) (ns:=(List.range ks.length).map fun i=>((κ i).headD 0)) (fun i a ha=>by
  have hi:i<ks.length:=(List.getElem?_eq_some_iff.mp ha).1;obtain⟨n,m,r,q,rn,rm,e1,_,_,e2,_⟩:=hcol i i hi hi;refine⟨n,r,?_,?_⟩
  .rw[List.getElem?_map,List.getElem?_range hi,Option.map_some,e2];rfl
  .rw[<- e1];exact K.hk i a ha) (by simp)
 refine W.kat_kind (T:=.type "int") kt (by lia) (fun v hv=>?_) rfl ⟨rfl,?_⟩
 .obtain⟨n,t,rfl⟩:=hfi v hv;exact .now
 have hl':(ks.map Value.ref).length=vs.length:=by simp[hl]
 have hsz0:((ks.map Value.ref).toArray.zip vs.toArray).size=vs.length:=by simp[hl]
 generalize hZ:(ks.map Value.ref).toArray.zip vs.toArray=Z at hsz0;have hsz:Z.size=vs.length:=hsz0
 have kap:∀i (hi:i<ks.length),zfE κ ks (Value.ref ks[i])=κ i:=fun i hi=>by
  have hj:ks.idxOf ks[i]<ks.length:=List.idxOf_lt_length_iff.mpr (List.getElem_mem hi);have ej:ks[ks.idxOf ks[i]]=ks[i]:=List.getElem_idxOf hj;obtain⟨n,m,r,q,rn,rm,e1,e2,vc,e3,e4⟩:=hcol (ks.idxOf ks[i]) i hj hi;have k1:=K.hk (ks.idxOf ks[i]) ks[i] (by rw[List.getElem?_eq_getElem hj,ej]);have k2:=K.hk i ks[i] (List.getElem?_eq_getElem hi);have eq:=K.inv.tuple_inj k1 k2;show κ (ks.idxOf ks[i])=κ i;rw[e1,e2]at eq;injection eq with q1 q2;injection q1 with q1;subst q1;subst q2;rw[e3,e4]
  congr 1
  have same:∀{xs:List V} {as bs:List Int},VCols xs xs as bs->as=bs:=fun {xs}=>by
   induction xs with
   |nil=>intro as bs h;cases h;rfl
   |cons x xs ih =>
    intro as bs h
    cases h with
    |cons c h=>cases c <;> rw[ih h]
  exact same vc
 have itm:∀i,i<vs.length->W.kas_item Z i=(Value.ref (ks.getD i 0),vs.getD i Value.none):=fun i hi=>by
  rw[<- hZ,W.kat_item hl'];have:(ks.map Value.ref).getD i Value.none=Value.ref (ks.getD i 0):=by simp[show i<ks.length by lia]
  rw[this]
 have O:TS.LtOk (model X.prog X.w) X.A.in1.in1 E s (tuples' true) (fun x=>∃i,i<ks.length/\x.1=Value.ref (ks.getD i 0)) (fun x y=>HT.lexLt (zfE κ ks x.1) (zfE κ ks y.1)):=by
  refine⟨fun x y hx hy st' Q hk q=>?_,fun x y z _ _ _ h1 h2=>?_,fun x y _ _ h=>HT.lexLt_asym h⟩
  .obtain⟨i,hi,ex⟩:=hx;obtain⟨j,hj,ey⟩:=hy;have gi:ks.getD i 0=ks[i]:=by simp[hi]
   have gj:ks.getD j 0=ks[j]:=by simp[hj]
   rw[gi]at ex;rw[gj]at ey;rw[ex,ey,kap i hi,kap j hj]at q;rw[lt'_eq];refine wpS_bind (wpS_get ?_);rw[hk,ex,ey];obtain⟨n,m,r,q',rn,rm,e1,e2,vc,e3,e4⟩:=hcol i j hi hj;have k1:=K.hk i ks[i] (List.getElem?_eq_getElem hi);have k2:=K.hk j ks[j] (List.getElem?_eq_getElem hj);rw[e1]at k1;rw[e2]at k2;obtain⟨its,rv,⟨o,ho,hcl,c,hd⟩,_⟩:=K.inv.tuple k1;obtain⟨its2,rv2,⟨o2,ho2,hcl2,c2,hd2⟩,_⟩:=K.inv.tuple k2;refine wpS_bind (wpS_lift (wpAny_attempt (W.kat_lt ho hd ho2 hd2 ?_)))
   cases rv with
   |cons rx rr =>
    cases rv2 with
    |cons rx2 rr2 =>
     obtain⟨t1,rfl⟩:=rx;obtain⟨t2,rfl⟩:=rx2;have cs:=vc.vals rr rr2
     have hlen:∀{us vs:List Value} {as bs:List Int},RK.Cols us vs as bs->us.length=vs.length:=fun c=>by induction c with
      |nil=>rfl
      |cons _ _ ih=>simp[ih]
     simp only[List.size_toArray,List.length_cons,hlen cs,Nat.lt_irrefl,decide_false];refine RK.kat_cols0 cs ?_
     rw[e3,e4]at q;exact⟨rfl,wpS_pure q⟩
  .cases q:HT.lexLt (zfE κ ks z.1) (zfE κ ks x.1) with
   |false=>rfl
   |true =>
    have:=HT.lexLt_of_not_lt_lt h2 q;rw[h1]at this;cases this
 have run:=TS.sortRuns_spec O (st:=SortSt.mk' (tuples' true) Z #[] 7 none) (Q:=fun _ st'=>failedOf st'=none/\∃p:Array Nat,Ordd κ vs.length p/\p.size=vs.length/\arrOf st'=p.map (W.kas_item Z))
  (by show 2<=Z.size;lia) rfl rfl rfl (fun k x hx=>?_) (fun st' hp hf hs=>?_)
 .exact wpAny_mono run (fun r s' h=>⟨h.1,h.2⟩) fun _ _ z=>z
 .have hk':k<vs.length:=by rw[<- hsz];exact (Array.getElem?_eq_some_iff.mp hx).1
  have hx':Z[k]?=some x:=hx
  have e1:W.kas_item Z k=x:=by unfold W.kas_item;rw[Array.getD_eq_getD_getElem?,hx'];rfl
  rw[itm k hk']at e1;exact⟨k,by lia,by rw[<- e1]⟩
 .refine⟨hf,?_⟩;have hp':(arrOf st').Perm Z:=hp;have hrng:=W.kas_range Z;rw[hsz]at hrng;obtain⟨l,pl,el⟩:=zfr (Array.perm_iff_toList_perm.mp hp') (l:=List.range vs.length) (f:=W.kas_item Z) (by have:=congrArg Array.toList hrng;simpa using this.symm);have hll:l.length=vs.length:=by rw[pl.length_eq,List.length_range]
  refine⟨l.toArray,⟨?_,?_⟩,by simpa using hll,?_⟩
  .exact Array.perm_iff_toList_perm.mpr (by simpa using pl)
  .rw[List.pairwise_iff_getElem];intro i j hi hj hij;have hi':i<l.length:=by simpa using hi
   have hj':j<l.length:=by simpa using hj
   have ai:(arrOf st')[i]?=some (W.kas_item Z l[i]):=by rw[<- Array.getElem?_toList,el,List.getElem?_map,List.getElem?_eq_getElem hi'];rfl
   have aj:(arrOf st')[j]?=some (W.kas_item Z l[j]):=by rw[<- Array.getElem?_toList,el,List.getElem?_map,List.getElem?_eq_getElem hj'];rfl
   have li:l[i]<vs.length:=List.mem_range.mp (pl.mem_iff.mp (List.getElem_mem hi'));have lj:l[j]<vs.length:=List.mem_range.mp (pl.mem_iff.mp (List.getElem_mem hj'));have:=hs i j _ _ (by lia) (by show j<Z.size;lia) (by rw[Nat.zero_add];exact ai) (by rw[Nat.zero_add];exact aj);rw[itm _ li,itm _ lj]at this;have g1:ks.getD l[i] 0=ks[l[i]]'(by lia):=by simp[show l[i]<ks.length by lia]
   have g2:ks.getD l[j] 0=ks[l[j]]'(by lia):=by simp[show l[j]<ks.length by lia]
   simp only[g1,g2]at this;rw[kap _ (by lia),kap _ (by lia)]at this;simpa using this
  .apply Array.toList_inj.mp
   rw[el];simp
end
section
variable {X:Cx}{x:Str}{p pos kp kpos:Pos}{e:Expr}{te:TE}{k:Nat}{f:Addr}{fd:FuncData}{ps:List Str}{sp:Sp}{fn:Str}
end
section
variable {prog:Program}{w:World}{A:Around}{R:Result->Shared->Prop}{s:Shared}
end
section
variable {X:Cx}{osc:Scope}{N:List Str}{sc:Scope}{N':List Str}{sel:List (Option Nat)}{pos:Pos}{elt kx vx tg iter tg2 iter2:Expr}{ifs ifs2:List Expr}{wi wi2:TI}{g g2:TG}{tt tt2:TT}{te tk tv:TE}
end
end L2
namespace RP
def mv(i:Nat):Int×Int:=([(1,0),(1,1),(0,1),(-1,1),(-1,0),(-1,-1),(0,-1),(1,-1)]:List (Int×Int)).getD i (0,0)
abbrev Cell:=Int×Int
def go(c:Cell)(i:Nat):Cell:=(c.1+(mv i).1,c.2+(mv i).2)
structure Edge where
 c:Cell
 w:Nat
 deriving DecidableEq
def gap(e:Edge):Cell:=go e.c ((2*e.w+6) % 8)
def stepB(C:Cell->Bool)(e:Edge):Option Nat :=
 if C (go e.c ((2*e.w+7) % 8))=true then some ((2*e.w+7) % 8) else if C (go e.c (2*e.w))=true then some (2*e.w) else none
def slant:Option Nat->Bool
 |none=>false
 |some s=>s % 2 == 1
def edgeB(e:Edge):Option Nat->Edge
 |none=>⟨e.c,(e.w+1) % 4⟩
 |some s=>if s % 2=1 then ⟨go e.c s,(e.w+3) % 4⟩ else ⟨go e.c s,e.w⟩
def nxt(C:Cell->Bool)(e:Edge):Edge:=edgeB e (stepB C e)
def IsE(C:Cell->Bool)(e:Edge):Prop:=e.w<4/\C e.c=true/\C (gap e)=false
def prv(C:Cell->Bool)(f:Edge):Edge :=
 if C (go f.c ((2*f.w+5) % 8))=true then ⟨go f.c ((2*f.w+5) % 8),(f.w+1) % 4⟩
 else if C (go f.c ((2*f.w+4) % 8))=true then ⟨go f.c ((2*f.w+4) % 8),f.w⟩ else ⟨f.c,(f.w+3) % 4⟩
theorem way4{w:Nat}(h:w<4):w=0∨w=1∨w=2∨w=3:=by lia
def mvAdd(a b d:Nat):Bool:=(mv a).1+(mv b).1 == (mv d).1 && (mv a).2+(mv b).2 == (mv d).2
def mvNil(a b:Nat):Bool:=(mv a).1+(mv b).1 == 0 && (mv a).2+(mv b).2 == 0
theorem go_go{c:Cell}{a b d:Nat}(h:mvAdd a b d=true):go (go c a) b=go c d:=by unfold mvAdd at h;simp only[Bool.and_eq_true,beq_iff_eq]at h;unfold go;exact Prod.ext (by show c.1+(mv a).1+(mv b).1=c.1+(mv d).1;lia) (by show c.2+(mv a).2+(mv b).2=c.2+(mv d).2;lia)
theorem zgr{c:Cell}{a b:Nat}(h:mvNil a b=true):go (go c a) b=c:=by unfold mvNil at h;simp only[Bool.and_eq_true,beq_iff_eq]at h;unfold go;exact Prod.ext (by show c.1+(mv a).1+(mv b).1=c.1;lia) (by show c.2+(mv a).2+(mv b).2=c.2;lia)
theorem f1:∀w<4,mvAdd ((2*w+7) % 8) ((2*((w+3) % 4)+6) % 8) ((2*w+6) % 8)=true:=by decide
theorem f2:∀w<4,mvAdd (2*w) ((2*w+6) % 8) ((2*w+7) % 8)=true:=by decide
theorem f3:∀w<4,(2*((w+1) % 4)+6) % 8=2*w:=by decide
theorem f4:∀w<4,mvNil ((2*w+7) % 8) ((2*((w+3) % 4)+5) % 8)=true:=by decide
theorem f5:∀w<4,mvAdd (2*w) ((2*w+5) % 8) ((2*w+6) % 8)=true:=by decide
theorem f6:∀w<4,mvNil (2*w) ((2*w+4) % 8)=true:=by decide
theorem f7:∀w<4,(2*((w+1) % 4)+5) % 8=(2*w+7) % 8:=by decide
theorem f8:∀w<4,(2*((w+1) % 4)+4) % 8=(2*w+6) % 8:=by decide
theorem odd7(w:Nat):(2*w+7) % 8 % 2=1:=by lia
theorem zaY{C:Cell -> Bool}{e:Edge}(h:IsE C e) :
  (C (go e.c ((2*e.w+7) % 8))=true/\stepB C e=some ((2*e.w+7) % 8)/\nxt C e=⟨go e.c ((2*e.w+7) % 8),(e.w+3) % 4⟩) ∨
  (C (go e.c ((2*e.w+7) % 8))=false/\C (go e.c (2*e.w))=true/\stepB C e=some (2*e.w)/\nxt C e=⟨go e.c (2*e.w),e.w⟩) ∨
  (C (go e.c ((2*e.w+7) % 8))=false/\C (go e.c (2*e.w))=false/\stepB C e=none/\nxt C e=⟨e.c,(e.w+1) % 4⟩):=by
 unfold nxt stepB
 by_cases h1:C (go e.c ((2*e.w+7) % 8))=true
 .left;rw[if_pos h1];exact⟨h1,rfl,by simp only[edgeB];rw[if_pos (odd7 _)]⟩
 .right;have h1':C (go e.c ((2*e.w+7) % 8))=false:=by simpa using h1
  rw[if_neg h1]
  by_cases h2:C (go e.c (2*e.w))=true
  .left;rw[if_pos h2];exact⟨h1',h2,rfl,by simp only[edgeB];rw[if_neg (by lia)]⟩
  .right;rw[if_neg h2];exact⟨h1',by simpa using h2,rfl,rfl⟩
theorem zdm{C:Cell->Bool}{e:Edge}(h:IsE C e):IsE C (nxt C e):=by
 obtain⟨hw,hc,hg⟩:=id h;rcases zaY h with⟨h1,_,q⟩ |⟨h1,h2,_,q⟩ |⟨h1,h2,_,q⟩ <;> rw[q]
 .refine⟨Nat.mod_lt _ (by decide),h1,?_⟩;unfold gap;rw[go_go (f1 _ hw)];exact hg
 .refine⟨hw,h2,?_⟩;unfold gap;rw[go_go (f2 _ hw)];exact h1
 .refine⟨Nat.mod_lt _ (by decide),hc,?_⟩;unfold gap;simp only;rw[f3 _ hw];exact h2
theorem zir{C:Cell->Bool}{e:Edge}(h:IsE C e):prv C (nxt C e)=e:=by
 obtain⟨hw,hc,hg⟩:=id h;unfold gap at hg;rcases zaY h with⟨h1,_,q⟩ |⟨h1,h2,_,q⟩ |⟨h1,h2,_,q⟩ <;> rw[q] <;> unfold prv <;> simp only
 .rw[zgr (f4 _ hw),if_pos hc];rw[show ((e.w+3) % 4+1) % 4=e.w by lia]
 .rw[go_go (f5 _ hw),hg,if_neg (by decide),zgr (f6 _ hw),if_pos hc]
 .rw[f7 _ hw,h1,if_neg (by decide),f8 _ hw,hg,if_neg (by decide)];rw[show ((e.w+1) % 4+3) % 4=e.w by lia]
theorem zdN{C:Cell->Bool}{e f:Edge}(he:IsE C e)(hf:IsE C f)(h:nxt C e=nxt C f):e=f:=by rw[<- zir he,<- zir hf,h]
def Chain(C:Cell->Bool)(b:Edge)(es:List Edge):Prop:=es[0]?=some b/\(∀i e f,es[i]?=some e->es[i+1]?=some f->f=nxt C e)/\(∀e∈es,IsE C e)/\es.Nodup
theorem Chain.start{C:Cell->Bool}{b:Edge}(h:IsE C b):Chain C b [b] :=
 ⟨rfl,fun i e f _ h2=>by simp at h2,fun e he=>by rw[List.mem_singleton.mp he];exact h,by simp⟩
theorem Chain.more{C:Cell->Bool}{b l:Edge}{es:List Edge}(h:Chain C b (es++[l]))(hn:nxt C l≠b):Chain C b ((es++[l])++[nxt C l]):=by
 obtain⟨h0,hs,hE,hnd⟩:=h;have hl:(es++[l])[es.length]?=some l:=by simp
 have lE:=hE l (by simp);refine⟨?_,fun i e f h1 h2=>?_,fun e he=>?_,?_⟩
 .rw[List.getElem?_append_left (by simp)];exact h0
 .rcases Nat.lt_or_ge (i+1) (es++[l]).length with hi |hi
  .rw[List.getElem?_append_left (by lia)]at h1;rw[List.getElem?_append_left hi]at h2;exact hs i e f h1 h2
  .have hi2:=(List.getElem?_eq_some_iff.mp h2).1;simp at hi2 hi;have hi3:i=es.length:=by lia
   subst hi3;rw[List.getElem?_append_left (by simp)]at h1;rw[hl]at h1
   cases h1
   rw[List.getElem?_append_right (by simp)]at h2;simp at h2;exact h2.symm
 .rcases List.mem_append.mp he with he |he
  .exact hE e he
  .rw[List.mem_singleton.mp he];exact zdm lE
 .rw[List.nodup_append];refine⟨hnd,by simp,fun x hx y hy=>?_⟩;rw[List.mem_singleton.mp hy];intro e;subst e;obtain⟨i,hi,ei⟩:=List.getElem_of_mem hx;rcases Nat.eq_zero_or_pos i with rfl |hp
  .rw[List.getElem?_eq_getElem hi,ei]at h0;exact hn (Option.some.inj h0)
  .have hi':i-1<(es++[l]).length:=by lia
   have e1:=hs (i-1) ((es++[l])[i-1]) (nxt C l) (List.getElem?_eq_getElem hi') (by rw[show i-1+1=i by lia,List.getElem?_eq_getElem hi,ei]);have e2:=zdN lE (hE _ (List.getElem_mem hi')) e1;have e3:es.length=i-1:=(List.getElem?_inj (by simp) hnd).mp (by rw[hl,List.getElem?_eq_getElem hi',<- e2]);simp at hi;lia
theorem zap{α:Type} [DecidableEq α]:∀{a b:List α},a.Nodup->(∀x∈a,x∈b)->a.length<=b.length
 |[],_,_,_=>Nat.zero_le _
 |x::a,b,hn,hs=>by
  have hx:x∈b:=hs x List.mem_cons_self
  have h1:=zap (a:=a) (b:=b.erase x) (List.nodup_cons.mp hn).2 (fun y hy=>by refine (List.mem_erase_of_ne ?_).mpr (hs y (List.mem_cons_of_mem _ hy));intro e;subst e;exact (List.nodup_cons.mp hn).1 hy)
  rw[List.length_erase_of_mem hx]at h1;have:0<b.length:=List.length_pos_of_mem hx;simp only[List.length_cons];lia
def sides(cs:List Cell):List Edge:=cs.flatMap fun c=>(List.range 4).map fun w=>⟨c,w⟩
theorem zcr(cs:List Cell):(sides cs).length=4*cs.length:=by
 unfold sides
 induction cs with
 |nil=>rfl
 |cons c r ih=>rw[List.flatMap_cons,List.length_append,ih];simp;lia
theorem zdP{cs:List Cell}{e:Edge}:e∈sides cs ↔ e.c∈cs/\e.w<4:=by
 unfold sides;rw[List.mem_flatMap];constructor
 .rintro⟨c,hc,h⟩;obtain⟨w,hw,rfl⟩:=List.mem_map.mp h;exact⟨hc,List.mem_range.mp hw⟩
 .rintro⟨hc,hw⟩;exact⟨e.c,hc,List.mem_map.mpr ⟨e.w,List.mem_range.mpr hw,rfl⟩⟩
def isIn(cs:List Cell)(c:Cell):Bool:=decide (c∈cs)
theorem Chain.short{cs:List Cell}{b:Edge}{es:List Edge}(h:Chain (isIn cs) b es):es.length<=4*cs.length:=by rw[<- zcr];exact zap h.2.2.2 fun e he=>zdP.mpr ⟨of_decide_eq_true (h.2.2.1 e he).2.1,(h.2.2.1 e he).1⟩
def allE(cs:List Cell):List Edge:=(sides cs).filter fun e=>!isIn cs (gap e)
theorem zg8{cs:List Cell}{e:Edge}:e∈allE cs ↔ IsE (isIn cs) e:=by
 unfold allE;rw[List.mem_filter,zdP];unfold IsE isIn;constructor
 .rintro⟨⟨h1,h2⟩,h3⟩;exact⟨h2,decide_eq_true h1,by simpa using h3⟩
 .rintro⟨h1,h2,h3⟩;exact⟨⟨of_decide_eq_true h2,h1⟩,by simpa using h3⟩
def dx(w:Nat):Int:=if w=0 then 1 else if w=2 then -1 else 0
def dy(w:Nat):Int:=if w=1 then 1 else if w=3 then -1 else 0
def px(e:Edge):Int:=e.c.1+(if e.w=1∨e.w=2 then 1 else 0)
def py(e:Edge):Int:=e.c.2+(if e.w=2∨e.w=3 then 1 else 0)
theorem zfs{C:Cell->Bool}{e:Edge}(h:IsE C e):px (nxt C e)=px e+dx e.w/\py (nxt C e)=py e+dy e.w:=by
 have hw:=h.1
 rcases zaY h with⟨_,_,q⟩ |⟨_,_,_,q⟩ |⟨_,_,_,q⟩ <;> rw[q] <;> obtain⟨c,w⟩:=e <;> simp only at hw <;>
  rcases way4 hw with rfl |rfl |rfl |rfl <;> simp[px,py,dx,dy,go,mv] <;> lia
theorem zk5{C:Cell->Bool}{e:Edge}(h:IsE C e):(nxt C e).w=(e.w+3) % 4∨(nxt C e).w=e.w∨(nxt C e).w=(e.w+1) % 4:=by
 rcases zaY h with⟨_,_,q⟩ |⟨_,_,_,q⟩ |⟨_,_,_,q⟩ <;> rw[q]
 .exact .inl rfl
 .exact .inr (.inl rfl)
 .exact .inr (.inr rfl)
def Closed(C:Cell->Bool)(b:Edge)(es:List Edge):Prop:=Chain C b es/\∃l,es[es.length-1]?=some l/\nxt C l=b
theorem psum{C:Cell->Bool}{b:Edge}{es:List Edge}(h:Chain C b es):∀i e,es[i]?=some e->px e=px b+((es.take i).map fun e=>dx e.w).sum/\py e=py b+((es.take i).map fun e=>dy e.w).sum
 | 0,e,he=>by
  have h0:=h.1;rw[he]at h0
  cases h0
  simp
 |i+1,e,he=>by
  have hi:i+1<es.length:=(List.getElem?_eq_some_iff.mp he).1;have h1:es[i]?=some es[i]:=List.getElem?_eq_getElem (by lia)
  obtain⟨a,c⟩:=psum h i _ h1;have hn:=h.2.1 i _ e h1 he;obtain⟨p,q⟩:=zfs (h.2.2.1 _ (List.getElem_mem (show i<es.length by lia)));rw[<- hn]at p q;rw[List.take_succ,h1];simp only[Option.toList_some,List.map_append,List.map_cons,List.map_nil,List.sum_append,List.sum_cons,List.sum_nil];lia
theorem Closed.sums{C:Cell->Bool}{b:Edge}{es:List Edge}(h:Closed C b es):(es.map fun e=>dx e.w).sum=0/\(es.map fun e=>dy e.w).sum=0:=by
 obtain⟨hc,l,hl,hb⟩:=h;have hlt:=(List.getElem?_eq_some_iff.mp hl).1;obtain⟨a,c⟩:=psum hc _ l hl;have hlm:=(List.getElem?_eq_some_iff.mp hl).2;obtain⟨p,q⟩:=zfs (hc.2.2.1 l (by rw[<- hlm];exact List.getElem_mem _));rw[hb]at p q
 have e:es=es.take (es.length-1)++[l]:=by have:=List.take_succ (l:=es) (i:=es.length-1);rw[hl,show es.length-1+1=es.length by lia,List.take_length]at this;simpa using this
 have s1:(es.map fun e=>dx e.w).sum=((es.take (es.length-1)).map fun e=>dx e.w).sum+dx l.w:=by
  conv=>lhs;rw[e]
  simp
 have s2:(es.map fun e=>dy e.w).sum=((es.take (es.length-1)).map fun e=>dy e.w).sum+dy l.w:=by
  conv=>lhs;rw[e]
  simp
 lia
theorem zhu{l:List Int}(h:∀x∈l,0<=x):0<=l.sum:=by
 induction l with
 |nil=>simp
 |cons a r ih =>
  have:=h a List.mem_cons_self;have:=ih fun x hx=>h x (List.mem_cons_of_mem _ hx)
  simp only[List.sum_cons];lia
theorem zgE{l:List Int}(h:∀x∈l,0<=x)(hs:l.sum=0):∀x∈l,x=0:=by
 induction l with
 |nil=>intro x hx;cases hx
 |cons a r ih =>
  have h1:=h a List.mem_cons_self;have h2:=zhu fun x hx=>h x (List.mem_cons_of_mem _ hx)
  simp only[List.sum_cons]at hs;intro x hx;rcases List.mem_cons.mp hx with rfl |hx
  .lia
  .exact ih (fun x hx=>h x (List.mem_cons_of_mem _ hx)) (by lia) x hx
theorem zkN(l:List Int):(l.map fun x=>-x).sum=-l.sum:=by
 induction l with
 |nil=>rfl
 |cons a r ih=>simp only[List.map_cons,List.sum_cons,ih];lia
theorem zja(l:List Int)(d:Int)(h:∀x∈l,x=d):l.sum=d*l.length:=by
 induction l with
 |nil=>simp
 |cons a r ih =>
  have h1:=h a List.mem_cons_self;have h2:=ih fun x hx=>h x (List.mem_cons_of_mem _ hx)
  simp only[List.sum_cons,List.length_cons,h1,h2];rw[Int.natCast_add,Int.mul_add];lia
theorem Closed.has{C:Cell->Bool}{b:Edge}{es:List Edge}(h:Closed C b es){k:Nat}(hk:k=0∨k=2):∃e∈es,e.w=k:=by
 apply Classical.byContradiction
 intro hno;have hno':∀e∈es,e.w≠k:=fun e he z=>hno ⟨e,he,z⟩
 obtain⟨s1,s2⟩:=h.sums;obtain⟨hc,_⟩:=h
 have hpos:0<es.length:=by have:=hc.1;exact (List.getElem?_eq_some_iff.mp this).1
 have z:∀e∈es,dx e.w=0:=by
  rcases hk with rfl |rfl
  .have := zgE (l := (es.map fun e => dx e.w).map fun x => -x) (fun x hx => by obtain⟨y,hy,rfl⟩:=List.mem_map.mp hx;obtain⟨e,he,rfl⟩:=List.mem_map.mp hy;have:=hno' e he;unfold dx;rw[if_neg this];split <;> decide) (by rw[zkN,s1];rfl)
   intro e he;have:=this (-(dx e.w)) (List.mem_map.mpr ⟨_,List.mem_map.mpr ⟨e,he,rfl⟩,rfl⟩);lia
  .have := zgE (l := es.map fun e => dx e.w) (fun x hx => by obtain⟨e,he,rfl⟩:=List.mem_map.mp hx;have:=hno' e he;unfold dx;rw[if_neg this];split <;> decide) s1
   intro e he;exact this _ (List.mem_map.mpr ⟨e,he,rfl⟩)
 have odd:∀e∈es,e.w=1∨e.w=3:=fun e he=>by
  have h4:=(hc.2.2.1 e he).1;have hz:=z e he;rcases way4 h4 with q |q |q |q
  .rw[q]at hz;exact absurd hz (by decide)
  .exact .inl q
  .rw[q]at hz;exact absurd hz (by decide)
  .exact .inr q
 have same:∀(i:Nat) (e:Edge),es[i]?=some e->e.w=b.w:=by
  intro i
  induction i with
  |zero=>intro e he;have:=hc.1;rw[he]at this;cases this;rfl
  |succ i ih =>
   intro e he;have hi:i+1<es.length:=(List.getElem?_eq_some_iff.mp he).1;have h1:es[i]?=some es[i]:=List.getElem?_eq_getElem (by lia)
   have hn:=hc.2.1 i _ e h1 he;have m1:es[i]∈es:=List.getElem_mem _;have m2:e∈es:=List.mem_of_getElem? he;have w1:=ih _ h1;have o1:=odd _ m1;have o2:=odd _ m2;have:=zk5 (hc.2.2.1 _ m1);rw[<- hn]at this;lia
 have all:∀x∈es.map (fun e=>dy e.w),x=dy b.w:=fun x hx=>by obtain⟨e,he,rfl⟩:=List.mem_map.mp hx;obtain⟨i,hi,ei⟩:=List.getElem_of_mem he;rw[same i e (by rw[List.getElem?_eq_getElem hi,ei])]
 have t:=zja _ _ all;rw[s2,List.length_map]at t
 have ob:b.w=1∨b.w=3:=by have:=hc.1;exact odd b (List.mem_of_getElem? this)
 have d1:dy b.w=1∨dy b.w=-1:=by rcases ob with q |q <;> rw[q] <;> decide
 rcases d1 with q |q <;> rw[q]at t <;> lia
end RP
namespace L2
open PySem PySem.Spec PyProof.Rows
structure Fn (P:Program) (w:World) (K:W.Frag) (mg:Str->Option Value) (base:Heap) (k:Nat) (x:Str) (ps:List Str) (sp:Sp) where
 f:Addr
 fd:FuncData
 ok:FnOk P w K mg base CX0 k f fd ps sp
 m:mg x=some (.ref f)
 kp:W.keepIn K (.ref f)=true
 b:Binds K fd ps []
structure Df (K:W.Frag) (mg:Str->Option Value) (x:Str) (st:Stmt) (ps:List Str) where
 f:Addr
 fd:FuncData
 F:Fun K x x st f fd
 m:mg x=some (.ref f)
 b:Binds K fd ps []
def Df.fn{P:Program}{w:World}{K:W.Frag}{mg:Str->Option Value}{base:Heap}{k:Nat}{x:Str}{st:Stmt}{ps:List Str}{sp:Sp}(d:Df K mg x st ps)(h:FnOk P w K mg base CX0 k d.f d.fd ps sp):Fn P w K mg base k x ps sp :=
 ⟨d.f,d.fd,h,d.m,d.F.kp,d.b⟩
structure Ways (P:Program) (w:World) (K:W.Frag) (mg:Str->Option Value):Prop where
 ex:∃(B:Addr) (t1 t2 t3 t4:Tok) (n:Nat),mg "BEGIN_WAYS" = some (.ref B)/\K.lookup B=some ⟨.type "dict",none,.dict #[⟨PyData.keyHash w.params "rim",.str "rim" t1,.int 0 t2⟩,⟨PyData.keyHash w.params "hole",.str "hole" t3,.int 2 t4⟩] n,#[]⟩
def tWays (ti:TE):TE:=fun σ H Q=>ti σ H fun y H1=>(y=.str "rim" /\ Q (.int 0) H1)∨(y=.str "hole" /\ Q (.int 2) H1)
theorem ziv {X:Cx}{i:Expr}{ti:TE}{p pos:Pos}(hg:Gl X "BEGIN_WAYS") (hw:Ways X.prog X.w X.K X.mg) (hi:PE X i ti) (hs:NoSl i:=by exact fun _ _=>rfl):PE X (.Subscript (.Name "BEGIN_WAYS" p) i pos) (tWays ti):=by
 intro pins s σ H Q I h;obtain⟨B,t1,t2,t3,t4,n,hm,hl⟩:=hw.ex;refine zf9 PySem.F.slot_dict_getitem.lookup hs (thn ((zeK (v:=.ref B) hg hm rfl:PE X (.Name "BEGIN_WAYS" p) _) pins s σ H (fun v H1=>v=V.ref B/\H1=H) I ⟨rfl,rfl⟩) fun u s1 ⟨x,H1,I1,rx,q1⟩=>?_);obtain⟨rfl,rfl⟩:=q1;obtain rfl:u=Value.ref B:=rx;refine thn (hi pins s1 σ H1 _ I1 h) fun iv s2 ⟨y,H2,I2,ry,q2⟩=>?_
 have ho:s2.heap.get? B=some _:=I2.kIn B _ hl
 have mo:s2.heap.MapOf (zaC X.prog X.w) B (PySem.findBy (zaC X.prog X.w).is #[⟨PyData.keyHash X.w.params "rim",.str "rim" t1,.int 0 t2⟩,⟨PyData.keyHash X.w.params "hole",.str "hole" t3,.int 2 t4⟩]) :=
  ⟨_,_,_,ho,⟨rfl,rfl,rfl⟩,rfl,fun e he=>by
   simp only[List.mem_toArray,List.mem_cons,List.not_mem_nil,or_false]at he;rcases he with rfl |rfl
   .exact⟨.inr "rim",zb6 _ _ _ _,rfl⟩
   .exact⟨.inr "hole",zb6 _ _ _ _,rfl⟩,fun _=>rfl⟩
 refine⟨⟨_,ho,rfl⟩,?_⟩;rcases q2 with⟨rfl,q⟩ |⟨rfl,q⟩
 .exact wpAny_getItem_of (kV_is (k:=.inr "rim") ry) mo (v:=.int 0 t2) rfl ⟨.int 0,H2,I2.tok _,⟨_,rfl⟩,q⟩
 .exact wpAny_getItem_of (kV_is (k:=.inr "hole") ry) mo (v:=.int 2 t4) rfl ⟨.int 2,H2,I2.tok _,⟨_,rfl⟩,q⟩
section
variable {X:Cx}{K:W.Frag}
theorem zdb(hK:X.K=K:=by rfl):IxR X (rIxT K):=by subst hK;exact zc7
theorem zjH(hK:X.K=K:=by rfl):IxR X (rIxL K):=by subst hK;exact zbX
theorem zjg (hK:X.K=K:=by rfl):CallR X (.builtin "isinstance") (fun xs H Q=>∃x T t b,xs=[x,.ty T]/\TyOf K H x t/\W.kitOne K t (.type T)=some b/\Q (.bl b) H):=by subst hK;exact zho
theorem zcu{es:List Expr}{k:Nat}{t:TGs}{n:Nat}{pos:Pos}(hc:X.calm=true)(h:PGs X es t)
  (hn:(assignEach es X.env).length=n:=by rfl) (hst:(assignEach es X.env).findIdx? (·.1)=none:=by rfl) (hK:X.K=K:=by rfl):PG X (.Tuple es k pos) (gTup K n t):=by
 subst hK;exact zbr hc h hn hst
end
section
variable {X:Cx}
def rSlTW(K:W.Frag):V->Option Int->Option Int->Hp->VK->Prop:=fun x lo hi H Q=>∃a xs,x=.ref a/\SqT K H a xs /\
 ((HT.sIx xs.length 0 lo=0/\HT.sIx xs.length xs.length hi=xs.length)->Q (.ref a) H) /\
 (¬ (HT.sIx xs.length 0 lo=0/\HT.sIx xs.length xs.length hi=xs.length)->∀p,H p=none->Q (.ref p) (upd H p (.tup (cutV xs lo hi))))
end
end L2
namespace HT
open PySem PyProof.Rows
variable {prog:Program}{w:World}{A:Around}{E:Value->Shared->Prop}{s:Shared}
theorem getItem_tuple_all{t sl:Addr}{items:Array Value}{vl vu:Value}{lo hi:Option Int}{Q:Value -> Shared -> Prop}(ht:IsTup s.heap t items)(hs:s.heap.IsSliceOf sl vl vu .none)(pl:IsPart vl lo)(pu:IsPart vu hi)
  (hw:sIx items.size 0 lo=0/\sIx items.size items.size hi=items.size) (h:Q (.ref t) s):wpAny (model prog w) A (getItem (.ref t) (.ref sl)) Q E s:=by
 obtain⟨os,hos,hcs,hds⟩:=id hs;have hTs:s.TypeIs (.ref sl) "slice":=⟨os,hos,hcs⟩;unfold getItem
 try with_reducible refine wpAny_holding ?_
 first |refine wpAny_bind (wpAny_pure ?_) |skip
 refine wpAny_bind (wpAny_sequenceKey ht.typeIs (by decide) ?_)
 refine wpAny_bind (wpAny_callSpecial?_slot (name:=Str.ofString "__getitem__") ht.typeIs PyProof.Rows.slot_tuple_getitem
  (wpAny_call_entry PyProof.Rows.slot_tuple_getitem ht.typeIs entry_tuple_getitem ?_ (args_tuple_getitem _ _)))
 show wpAny _ _ (Builtin.Tuple.tupleItemsOf (.ref t) >>= _) _ _ s;refine wpAny_bind (tupleItemsOf_ ht ?_);refine wpAny_bind (wpAny_typeOf hTs ?_);rw[if_pos (by decide)];refine wpAny_bind (zco hs pl pu ?_)
 have hyes:(((sIx items.size 0 lo:Nat):Int) == 0 && (1:Int) == 1 && (sIx items.size items.size hi-sIx items.size 0 lo) == items.size)=true:=by rw[hw.1,hw.2];simp
 show wpAny _ _ (if (((sIx items.size 0 lo:Nat):Int) == 0 && (1:Int) == 1 && (sIx items.size items.size hi-sIx items.size 0 lo) == items.size)=true then _ else _) _ _ s;rw[if_pos hyes];refine wpAny_bind ?_
 unfold Builtin.Tuple.tupleIsExact;refine wpAny_bind (wpAny_typeOf ht.typeIs (wpAny_pure ?_));rw[if_pos (by decide)];exact wpAny_bind (wpAny_rule (wpAny_pure ⟨_,rfl,wpAny_pure h⟩))
end HT
namespace L2
open PySem PySem.Spec PyProof.Rows
section
variable {X:Cx}{K:W.Frag}
theorem zkx:SlR X (rSlTW X.K):=by
 intro pins s σ H x v vl vu lo hi sl Q I rx hs pl pu h;obtain⟨a,xs,rfl,hx,q1,q2⟩:=h
 by_cases hw:HT.sIx xs.length 0 lo=0/\HT.sIx xs.length xs.length hi=xs.length
 .cases rx
  obtain⟨its,r,ht,hz⟩:=I.tuple hx;have hlen:its.toArray.size=xs.length:=by rw[List.size_toArray];exact r.length.symm
  refine⟨"tuple",_,PyProof.Rows.slot_tuple_getitem.lookup,ht.typeIs,?_⟩;exact HT.getItem_tuple_all ht hs pl pu (by rw[hlen];exact hw) ⟨.ref a,H,I,rfl,q1 hw⟩
 .exact zli pins s σ H _ v vl vu lo hi sl Q I rx hs pl pu ⟨a,xs,rfl,hx,hw,q2 hw⟩
end
section
variable {prog:Program}{w:World}{K:Type} [DecidableEq K] {knd:HeapKind prog w K}{A:Around}{E:Value->Shared->Prop}{s:Shared}{d a:Addr}{xs:List (K×Addr×Value)}{k:K}{dflt:Value}
theorem zeq{p:Addr×Value}(h:atKey xs k=some p):∃j:Nat,xs[j]?=some (k,p):=by
 unfold atKey at h;obtain⟨x,hx,e⟩:=Option.map_eq_some_iff.mp h;have hm:=List.mem_of_find?_eq_some hx;have hk:=List.find?_some hx;obtain⟨j,hj,ej⟩:=List.getElem_of_mem hm;have:x.1=k:=by simpa using hk
 exact⟨j,by rw[List.getElem?_eq_getElem hj,ej,<- e,<- this]⟩
theorem zjT{p:Addr×Value}{j:Nat}(hn:(xs.map fun x=>x.1).Nodup)(h:xs[j]?=some (k,p)):atKey xs k=some p:=by
 cases e:atKey xs k with
 |none =>
  exfalso;unfold atKey at e;have:=List.find?_eq_none.mp (Option.map_eq_none_iff.mp e) _ (List.mem_of_getElem? h);simp at this
 |some q =>
  obtain⟨i,hi⟩:=zeq e;have hl:=(List.getElem?_eq_some_iff.mp hi).1;have:=(List.getElem?_inj (i:=i) (j:=j) (by rw[List.length_map];exact hl) hn).mp (by rw[List.getElem?_map,List.getElem?_map,hi,h];rfl);subst this;rw[hi]at h
  cases h
  rfl
theorem zdE{Q:Value -> Shared -> Prop}(hr:knd.room A)(hk:knd.is s.heap k a)(hD:Heap.DictOfH knd s.heap d xs)(hsz:xs.length <= sizeLine)
  (h1:∀p,atKey xs k=some p->Q p.2 { s with toks:=s.toks+knd.draws k })
  (h2:atKey xs k=none->∀h',Heap.DictOfH knd h' d (storedH xs k a dflt)->Heap.SameBut d s.heap h'->Q dflt { s with heap:=h',toks:=s.toks+knd.draws k }) :
  wpAny (model prog w) A (dictSetDefault d (.ref a) dflt) Q E s:=by
 obtain⟨o,es,ep,ho,hx,hd,he,hi,hn⟩:=id hD;unfold dictSetDefault;refine wpAny_holding (wpAny_bind (knd.pyHash hr hk ?_));refine wpAny_bind (wpAny_dictFind_heap (s:={ s with toks:=s.toks+knd.draws k }) hr hk ho hd he hi hn (fun hno=>?_) fun j p hj=>?_)
 .have hnone:atKey xs k=none := by
   cases e:atKey xs k with
   |none=>rfl
   |some p=>obtain⟨j,hj⟩:=zeq e;exact absurd hj (hno j p)
  refine wpAny_bind (wpAny_rule ?_);have hes:es.size=xs.length:=by rw[<- Array.length_toList,he,List.length_map]
  refine wpAny_bind (wpAny_updateDictKeys ho hd (wpAny_pure (h2 hnone _ ?_ ⟨?_,fun b hb=>Heap.get?_update_other _ _ (Ne.symm hb)⟩)) (by lia) (by simp))
  .have hs:Heap.SameBut d s.heap (s.heap.update d (Obj.mapDictKeys fun x=>x.push ⟨knd.hash k,.ref a,dflt⟩)):=⟨?_,fun b hb=>Heap.get?_update_other _ _ (Ne.symm hb)⟩
   .obtain⟨c,dd,dt,sl⟩:=o;simp only at hd;subst hd;refine⟨_,es.push ⟨knd.hash k,.ref a,dflt⟩,ep+1,Heap.get?_update_self _ ho rfl,hx,rfl,?_,fun x hx'=>?_,?_⟩
    .rw[storedH_new hnone,List.map_append,<- he];simp[entryOfKey]
    .rw[storedH_new hnone]at hx';rcases List.mem_append.mp hx' with m |m
     .exact knd.keeps (hi x m) ho rfl hs
     .rw[List.mem_singleton.mp m];exact knd.keeps hk ho rfl hs
    .rw[storedH_new hnone,List.map_append,List.nodup_append];refine⟨hn,by simp,fun x hx' y hy e=>?_⟩;simp at hy;subst hy e;obtain⟨⟨k',p⟩,hm,ek⟩:=List.mem_map.mp hx';obtain⟨j,hj,ej⟩:=List.getElem_of_mem hm;simp only at ek;subst ek;exact hno j p (by rw[List.getElem?_eq_getElem hj,ej])
   .show (s.heap.update d _).objs.size=_;unfold Heap.update;simp
  .show (s.heap.update d _).objs.size=_;unfold Heap.update;simp
 .have hlt:=(List.getElem?_eq_some_iff.mp hj).1;have hes:es.size=xs.length:=by rw[<- Array.length_toList,he,List.length_map]
  have ee:es[j]?=some ⟨knd.hash k,.ref p.1,p.2⟩:=by rw[<- Array.getElem?_toList,he,List.getElem?_map,hj];rfl
  refine wpAny_bind (wpAny_dictEntries ho hd ?_);simp only[ee];refine wpAny_bind (wpAny_rule (wpAny_pure ?_));exact h1 p (zjT hn hj)
theorem zda(knd:HeapKind prog w K)(d a:Addr)(hd:(d == sysModules)=false)(dflt:Value) :
  MeetsIn prog w (Builtin.«dict.setdefault» ⟨[.ref d,.ref a,dflt],[]⟩) fun A R s=>knd.room A.in1/\∃k xs,knd.is s.heap k a/\Heap.DictOfH knd s.heap d xs/\xs.length<=sizeLine /\
   (∀p,atKey xs k=some p->R (.ok (.ret p.2)) { s with toks:=s.toks+knd.draws k }) /\
   (atKey xs k=none->∀h',Heap.DictOfH knd h' d (storedH xs k a dflt)->Heap.SameBut d s.heap h'->R (.ok (.ret dflt)) { s with heap:=h',toks:=s.toks+knd.draws k }):=by
 intro A R s h;obtain⟨hr,k,xs,hk,hD,hsz,h1,h2⟩:=h;unfold Builtin.«dict.setdefault» Builtin.Dict.keyAndDefault;have ht:s.TypeIs (.ref d) "dict":=hD.typeIs;refine wpAny_bind (wpAny_bind (wpAny_notOrdered_dict ht ?_));refine wpAny_bind ?_
 show wpAny (model prog w) A.in1 (pure ()) _ _ s;refine wpAny_pure ?_
 refine wpAny_bind ?_
 show wpAny (model prog w) A.in1 (pure (Value.ref d,[Value.ref a,dflt])) _ _ s;refine wpAny_pure ?_
 show wpAny (model prog w) A.in1 (pure d >>= fun x=>pure (x,Value.ref a,some dflt)) _ _ s;refine wpAny_bind (wpAny_pure (wpAny_pure ?_));simp only;rw[hd];show wpAny (model prog w) A.in1 (dictSetDefault d (.ref a) dflt >>= fun x=>ret x) _ _ s;refine wpAny_bind (zdE hr hk hD hsz (fun p e=>wpAny_pure (h1 p e)) fun e h' hD' hs=>wpAny_pure (h2 e h' hD' hs))
def zld(td ty tx:TE):TE:=fun σ H Q=>td σ H fun x H1=>∃a,x=.ref a/\IsD H1 a/\ty σ H1 fun y H2=>tx σ H2 fun z H3=>∃kvs k b,H3 a=some (.dT kvs)/\y=.ref b/\H3 b=some (.tup (k.map kV))/\kvs.length<sizeLine /\
 (∀v,valV kvs k=some v->Q v H3)/\(valV kvs k=none->Q z (upd H3 a (.dT (putK kvs k z))))
end
section
variable {X:Cx}{o e f:Expr}{apos cpos:Pos}{td ty tx:TE}
theorem zjA (hu:X.A.units+1<cLine) (ho:PE X o td) (he:PE X e ty) (hf:PE X f tx) (m:M2 X o "setdefault" apos e f cpos):PE X (.Call (.Attribute o "setdefault" apos) [e,f] [] cpos) (zld td ty tx):=by
 intro pins s σ H Q I h;refine wpAny_Call_method m.base m.few m.line PySem.F.plainAttrs_dict PySem.F.slot_dict_setdefault PySem.F.type_dict_setdefault (thn (ho pins s σ H _ I h) fun u s1 ⟨x,H1,I1,rx,a,ex,d,q1⟩=>?_);subst ex;obtain rfl:u=Value.ref a:=rx;obtain⟨t1,t2,_⟩:=zkg I1 d;refine⟨t1,t2,?_⟩;rw[m.trees]
 refine Calls.callWith_builtin rfl (Calls.evalArgs_plain (Calls.spliced_cons (thn (he pins s1 σ H1 _ I1 q1) fun iv s2 ⟨y,H2,I2,ry,q2⟩ =>
  Calls.spliced_cons (thn (hf pins s2 σ H2 _ I2 q2) fun fv s3 ⟨z,H3,I3,rz,kvs,k,b,eD,ey,eb,hl,k1,k2⟩=>Calls.spliced_nil ?_))))
 subst ey
 cases (show iv=Value.ref b from ry)
 obtain⟨zz,hd,xs,rel,dd⟩:=dt_of I3.hok eD
 refine call_meetsIn PySem.F.slot_dict_setdefault dd.typeIs PySem.F.entry_dict_setdefault (PySem.F.args_dict_setdefault_3 _ _ _) (zda (tupleKind (zaC X.prog X.w)) a b hd fv)
  ⟨tupleKind_room_in1 hu,k,xs,zdR I3.hok eb,dd,by rw[<- Paired.length rel];exact zz,fun p ep=>?_,fun en h' dd' hs=>?_⟩
 .have rv:=rel.val k;rw[ep]at rv
  cases hv:valV kvs k with
  |none=>rw[hv]at rv;exact False.elim rv
  |some v=>rw[hv]at rv;exact⟨v,H3,I3.tok _,rv,k1 v hv⟩
 .have hn:valV kvs k=none := by
   have rv:=(rel.val k).isSome_eq;rw[en]at rv
   cases hv:valV kvs k with
   |none=>rfl
   |some v=>rw[hv]at rv;exact absurd rv (by simp)
  have hz:(putK kvs k z).length<=sizeLine:=by have:=zba kvs k z;lia
  obtain⟨q,es,ep,hq,h2,h3,h4,_,h5⟩:=dd';refine⟨z,_,?_,rz,k2 hn⟩;refine zdd I3 (by rw[eD];exact True.intro) hs ⟨q,hq⟩ ⟨hz,hd,_,(rel.put k eb rz).keeps fun c ys ec=>?_,q,es,ep,hq,h2,h3,h4,h5⟩;rw[zai (ne_of ec eD (fun z=>nomatch z))];exact ec
end
structure Two (P:Program) (w:World) (K:W.Frag) (mg:Str->Option Value) (nm:Str) (a b:Int):Prop where
 ex:∃(B:Addr) (t1 t2 t3 t4:Tok) (n:Nat),mg nm=some (.ref B)/\K.lookup B=some ⟨.type "dict",none,.dict #[⟨PyData.keyHash w.params "rim",.str "rim" t1,.int a t2⟩,⟨PyData.keyHash w.params "hole",.str "hole" t3,.int b t4⟩] n,#[]⟩
def tTwo (a b:Int) (ti:TE):TE:=fun σ H Q=>ti σ H fun y H1=>(y=.str "rim" /\ Q (.int a) H1)∨(y=.str "hole" /\ Q (.int b) H1)
theorem zlx {X:Cx}{nm:Str}{a b:Int}{i:Expr}{ti:TE}{p pos:Pos}(hg:Gl X nm) (hw:Two X.prog X.w X.K X.mg nm a b) (hi:PE X i ti) (hs:NoSl i:=by exact fun _ _=>rfl) (hdb:(nm == ("__debug__" : Str))=false:=by rfl):PE X (.Subscript (.Name nm p) i pos) (tTwo a b ti):=by
 intro pins s σ H Q I h;obtain⟨B,t1,t2,t3,t4,n,hm,hl⟩:=hw.ex;refine zf9 PySem.F.slot_dict_getitem.lookup hs (thn ((zeK (v:=.ref B) hg hm rfl (hd:=hdb):PE X (.Name nm p) _) pins s σ H (fun v H1=>v=V.ref B/\H1=H) I ⟨rfl,rfl⟩) fun u s1 ⟨x,H1,I1,rx,q1⟩=>?_);obtain⟨rfl,rfl⟩:=q1;obtain rfl:u=Value.ref B:=rx;refine thn (hi pins s1 σ H1 _ I1 h) fun iv s2 ⟨y,H2,I2,ry,q2⟩=>?_
 have ho:s2.heap.get? B=some _:=I2.kIn B _ hl
 have mo:s2.heap.MapOf (zaC X.prog X.w) B (PySem.findBy (zaC X.prog X.w).is #[⟨PyData.keyHash X.w.params "rim",.str "rim" t1,.int a t2⟩,⟨PyData.keyHash X.w.params "hole",.str "hole" t3,.int b t4⟩]) :=
  ⟨_,_,_,ho,⟨rfl,rfl,rfl⟩,rfl,fun e he=>by
   simp only[List.mem_toArray,List.mem_cons,List.not_mem_nil,or_false]at he;rcases he with rfl |rfl
   .exact⟨.inr "rim",zb6 _ _ _ _,rfl⟩
   .exact⟨.inr "hole",zb6 _ _ _ _,rfl⟩,fun _=>rfl⟩
 refine⟨⟨_,ho,rfl⟩,?_⟩;rcases q2 with⟨rfl,q⟩ |⟨rfl,q⟩
 .exact wpAny_getItem_of (kV_is (k:=.inr "rim") ry) mo (v:=.int a t2) rfl ⟨.int a,H2,I2.tok _,⟨_,rfl⟩,q⟩
 .exact wpAny_getItem_of (kV_is (k:=.inr "hole") ry) mo (v:=.int b t4) rfl ⟨.int b,H2,I2.tok _,⟨_,rfl⟩,q⟩
section
variable {X:Cx}
theorem Inv.turned2{pins:List (Addr × Obj)}{σ : St}{H:Hp}{s:Shared}{h':Heap}{t':Nat}{e it:Addr}(I:Inv X pins σ H s)(k:∀b o, b ≠ e -> b ≠ it -> s.heap.get? b=some o -> h'.get? b=some o)(fe:FpOk X pins H e)(fi:FpOk X pins H it) :
  Inv X pins σ H { s with heap:=h',toks:=t' }:=by
 obtain⟨f0,f1,f2,f3,f4,f5⟩:=fe;obtain⟨g0,g1,g2,g3,g4,g5⟩:=fi;have nb:∀b u,H b=some u->b≠e/\b≠it:=fun b u q=>⟨(fun z=>by rw[z,f0]at q;cases q),(fun z=>by rw[z,g0]at q;cases q)⟩
 have out:∀b,b ∉ [e,it]->b≠e/\b≠it:=fun b hc=>⟨fun z=>hc (by simp[z]),fun z=>hc (by simp[z])⟩
 refine I.step (g':=s.gens) (d':=s.drawn) (ch:=[e,it]) (fun b hb=>?_) (fun b o _ _ hc q _=>k b o (out b hc).1 (out b hc).2 q) (fun b o _ _ hc q _=>⟨o.slots,k b o (out b hc).1 (out b hc).2 q⟩) (fun _ _ _ _ n=>n)
  (fun b o hc q=>⟨o,k b o (out b hc).1 (out b hc).2 q⟩) (fun _ _ q=>q) (fun _ _ _ q=>q) (fun b ps q=>⟨#[],by rw[q];simp⟩) (fun m hm=>?_) (fun b u q=>?_) I.bare
 .rcases List.mem_cons.mp hb with z |z
  .subst z;exact⟨f3,f1,f4,f5⟩
  .have z':b=it:=by simpa using z
   subst z';exact⟨g3,g1,g4,g5⟩
 .obtain⟨o,es,ep,ho,r⟩:=hm;exact⟨o,es,ep,k _ o (Ne.symm f1) (Ne.symm g1) ho,r⟩
 .refine (I.hok b u q).stay (fun c v hc q'=>?_) (fun _ q=>q) fun _ _ q=>q
  rcases hc with z |z
  .rw[z]at q' ⊢;exact k _ _ (nb b u q).1 (nb b u q).2 q'
  .exact k _ _ (nb c _ z).1 (nb c _ z).2 q'
def Ite(K:W.Frag)(a:Addr):It :=
 ⟨fun i H=>∃xs x,SqL K H a xs/\xs[i]?=some x,fun i H y H'=>∃p x,y=.ref p/\H p=none/\H'=upd H p (.tup [.int i,x])/\∀xs,SqL K H a xs->xs[i]?=some x,fun i H=>∃xs,SqL K H a xs/\xs.length<=i⟩
theorem zh1{P:Program}{w:World}{K:W.Frag}{es:List Expr}{x1:Nat}{pos:Pos}(a e it:Addr)(hne:e≠it):Turn P w K (.Tuple es x1 pos) (Ite K a) [e,it] e (fun i h=>∃old,IsEnum h e it ((i:Nat):Int) old/\h.IsListIter it a i) where
 mem:=by simp
 obj:=fun i h st b hb=>by
  obtain⟨old,h1,o,h2,c,d⟩:=st;rcases List.mem_cons.mp hb with z |z
  .subst z;exact⟨_,h1,fun v q=>nomatch q⟩
  .have z':b=it:=by simpa using z
   subst z';exact⟨o,h2,fun v q=>by rw[d]at q;cases q⟩
 keep:=fun i h h' ⟨old,h1,h2⟩ k=>⟨old,k e (by simp) _ h1,h2.at fun o q=>k it (by simp) o q⟩
 item:=by
  intro X hP hw hK hc i pins s σ H E I hf st hg;subst hP hw hK;obtain⟨old,he,hit⟩:=st;obtain⟨xs,x,hq,hx⟩:=hg;obtain⟨its,rv,p,hz⟩:=I.list hq;obtain⟨u,hu,ru⟩:=rv.get hx;have fe:=hf e (by simp);have fi:=hf it (by simp);refine wpAny_pyNext_enum_item he hit p.isList (x:=u) (by simpa using hu) hne fun h1 eo it1 tup sz kk=>⟨_,rfl,?_⟩
  refine wpAny_letOwnedTupleGo_enum (s:={ s with heap:=h1,toks:=s.toks+1 }) eo fun h2 he2 sb=>?_
  have heS:e<s.heap.objs.size:=Heap.lt_size he;have hiS:it<s.heap.objs.size:=by obtain⟨o,q,_⟩:=hit;exact Heap.lt_size q
  have fr:H s.heap.objs.size=none:=I.hok.fresh (Nat.le_refl _)
  have I1:Inv X pins σ (upd H s.heap.objs.size (.tup [.int i,x])) { s with heap:=s.heap.push { cls:=.type "tuple",data:=.seq #[.int i s.toks,u] },toks:=s.toks } :=
   I.laid (t':=s.toks) (o:=.tup [.int i,x]) (fun b ob q=>Heap.get?_push_of_some _ q) (Nat.le_refl _) ⟨by show 2<=sizeLine;decide,_,.cons ⟨_,rfl⟩ (.cons ru .nil),IsTup.new _ _⟩
  have up:∀{b:Addr},b<s.heap.objs.size->∀o,upd H s.heap.objs.size o b=H b:=fun hb o=>zai (Nat.ne_of_lt hb)
  have fe1:FpOk X pins (upd H s.heap.objs.size (.tup [.int i,x])) e:=⟨by rw[up heS];exact fe.1,fe.2⟩;have fi1:FpOk X pins (upd H s.heap.objs.size (.tup [.int i,x])) it:=⟨by rw[up hiS];exact fi.1,fi.2⟩
  have I2:Inv X pins σ (upd H s.heap.objs.size (.tup [.int i,x])) { s with heap:=h2,toks:=s.toks+1 }:=I1.turned2 (fun b o hbe hbi q=>by
   refine (sb.2 b hbe).trans ?_
   show h1.get? b=some o;rcases Heap.get?_push_cases q with⟨z,rfl⟩ |q
   .rw[z];exact tup
   .exact kk b o hbe hbi q) fe1 fi1
  refine⟨.ref s.heap.objs.size,_,I2,rfl,⟨_,x,rfl,fr,rfl,fun ys hy=>by rw[I.list_inj hy hq];exact hx⟩,⟨u,?_,?_⟩,fun b hb=>?_⟩
  .exact he2
  .obtain⟨o,q,c,d⟩:=it1;exact⟨o,(sb.2 it (Ne.symm hne)).trans q,c,d⟩
  .rcases List.mem_cons.mp hb with z |z
   .subst z;exact fe1.1
   .have z':b=it:=by simpa using z
    subst z';exact fi1.1
 done:=by intro X hP hw hK hc i pins s σ H E I hf st hg;subst hP hw hK;obtain⟨old,he,hit⟩:=st;obtain⟨xs,hq,hx⟩:=hg;obtain⟨its,rv,p,hz⟩:=I.list hq;obtain⟨f0,f1,f2,f3,f4,f5⟩:=hf it (by simp);have hl:=rv.length;exact wpAny_pyNext_enum_end (I.ok.hd hc) he hit p.isList (by simp;lia) fun h' eb=>⟨rfl,I.turned (t':=s.toks) (fun b o hb e=>eb b o hb e) f0 f1 f3 f4 f5⟩
 self:=fun _ _ _ _ _ ⟨_,he,_⟩ h=>wpAny_pyIter_enum he h
def iEnum(K:W.Frag)(t:TA):TI:=fun σ H R=>t σ H fun vs H1=>∃a,vs=[.ref a]/\(∃xs,SqL K H1 a xs)/\R (Ite K a) H1
theorem zkG {l:Expr}{t:TA}{es:List Expr}{x1:Nat}{pos pos' p:Pos}(hg:Gl X "enumerate") (hm:X.mg "enumerate" = none) (ha:PA X [l] t)
  (he:starEach [l] X.env=(false,eval l X.env)::starEach [] X.env:=by rfl) (hpl:(backTo pos' (starEach [] X.env)).any (·.1)=false:=by rfl) :
  PI X (.Tuple es x1 pos) (.Call (.Name "enumerate" p) [l] [] pos') (iEnum X.K t):=by
 intro pins s σ H R I h;refine wpAny_Call_Name_kw (zcx I hg hm (by rfl) ?_ (by decide) (by decide));refine PyProof.Rows.callWith_type1 (thn (ha pos' pins s σ H _ I h) fun us s1 ⟨vs,H1,I1,r1,q1⟩=>?_) he hpl;obtain⟨a,ex,⟨xs,hq⟩,q⟩:=q1;subst ex;obtain⟨u,rfl,rx⟩:=vals1 r1
 cases rx
 obtain⟨its,rv,pl,hz⟩:=I1.list hq;refine call_enumerate_list pl.isList fun h' he hit hsz kp=>?_
 have I2:Inv X pins σ H1 { s1 with heap:=h' }:=I1.kept (t':=s1.toks) kp;refine wpAny_pyIter_enum he ?_
 refine⟨s1.heap.objs.size+1,[s1.heap.objs.size+1,s1.heap.objs.size],_,_,H1,rfl,I2,zh1 a _ _ (Nat.succ_ne_self _),⟨_,he,hit⟩,fun b hb=>?_,q⟩;rcases List.mem_cons.mp hb with z |z
 .subst z;exact I1.fpOk (Nat.le_succ _) (I1.hok.fresh (Nat.le_succ _))
 .have z':b=s1.heap.objs.size:=by simpa using z
  subst z';exact I1.fpOk (Nat.le_refl _) (I1.hok.fresh (Nat.le_refl _))
theorem zjK{K:W.Frag}{a:Addr}{xs:List V}{g:TG}{tb:TS}{D:Ends}{σ : St}{H:Hp}(Pv:Nat -> St -> Hp -> Prop)(h0:Pv 0 σ H)(hl:∀i σ H, i <= xs.length -> Pv i σ H -> SqL K H a xs)
  (hs:∀i x σ H p,xs[i]?=some x->Pv i σ H->H p=none->g (.ref p) σ (upd H p (.tup [.int i,x])) fun σ2 H2=>tb { D with nx:=Pv (i+1),ct:=Pv (i+1),bk:=D.nx } σ2 H2) (hd:∀ σ H,Pv xs.length σ H->D.nx σ H) :
  ∃W:Nat->Nat->St->Hp->Prop,(∃m,W 0 m σ H)/\∀i m σ H,W i m σ H ->
   ((Ite K a).stop i H/\D.nx σ H)∨((Ite K a).go i H/\∃N:St->Hp->Prop,(∀ σ' H',N σ' H'->∃m',m'<m/\W (i+1) m' σ' H')/\∀x H',(Ite K a).yld i H x H'->g x σ H' fun σ2 H2=>tb { D with nx:=N,ct:=N,bk:=D.nx } σ2 H2):=by
 refine⟨fun i m σ H=>m=xs.length-i/\i<=xs.length/\Pv i σ H,⟨xs.length,by simp,Nat.zero_le _,h0⟩,?_⟩;rintro i m σ H ⟨rfl,hi,p⟩;have q:=hl i σ H hi p
 by_cases hlt:i<xs.length
 .refine .inr ⟨⟨xs,xs[i],q,by simp[hlt]⟩,Pv (i+1),fun σ' H' p'=>⟨xs.length-(i+1),by lia,rfl,hlt,p'⟩,fun x H' y=>?_⟩;obtain⟨b,z,rfl,hb,rfl,y⟩:=y;exact hs i z σ H b (y xs q) p hb
 .have e:i=xs.length:=by lia
  subst e;exact .inl ⟨⟨xs,q,Nat.le_refl _⟩,hd σ H p⟩
end
end L2
namespace HT
open PySem PyProof.Rows PySem.Spec
variable {prog:Program}{w:World}{A:Around}{E:Value->Shared->Prop}{s:Shared}
end HT
namespace L2
open PySem PySem.Spec PyProof.Rows
section
variable {X:Cx}{K:W.Frag}
end
end L2
namespace HT
open PySem PyProof.Rows PySem.Spec
end HT
namespace L2
open PySem PySem.Spec PyProof.Rows
section
variable {X:Cx}{K:W.Frag}
end
section
variable {X:Cx}
end
section
variable {X:Cx}{e es:Expr}{te ts:TE}{pos p2:Pos}
end
section
variable {X:Cx}
end
section
variable {prog:Program}{w:World}{A:Around}{R:Result->Shared->Prop}{I:Addr}{fp wr:List Addr}{n:Nat}{P:Nat->Value->Prop}{St:Nat->Heap->Prop}{dv:Value}
end
section
variable {X:Cx}{pins:List (Addr×Obj)}{σ:St}{H0:Hp}{s:Shared}{l:Addr}{Q:VK}
end
section
variable {X:Cx}{p pos kpos kp:Pos}{e:Expr}{te:TE}{d:Int}{kj:Nat}
end
end L2
namespace HT
open PySem PyProof.Rows
variable {prog:Program}{w:World}{A:Around}{E:Value->Shared->Prop}{s:Shared}
end HT
namespace L2
open PySem PySem.Spec PyProof.Rows
section
variable {X:Cx}{e es:Expr}{te ts:TE}{pos p2:Pos}
end
end L2
namespace HT
open PySem PyProof.Rows
section
open PySem.SeqAt
open PySem.AutoSeq1 (wpAny_loadPart')
open PySem.MeetsSeq PySem.MeetsSeq2 PySem.MeetsSeq3
end
section
variable {prog:Program}{w:World}{A:Around}{E:Value->Shared->Prop}{s:Shared}
end
end HT
namespace L2
open PySem PySem.Spec PyProof.Rows
section
variable {X:Cx}{pos:Pos}
def zkE:V->List V->Hp->VK->Prop:=fun x vs H Q=>∃l,∃os:List (Option Int),x=.ref l/\vs=[.non]/\H l=some (.lst (os.map fun o=>o.elim V.non V.int))/\Q (.int (os.countP (·.isNone):Nat)) H
theorem ziD:MtM X "list.count" zkE:=by
 intro pins s σ H x vs v us Q I rx rv h;obtain⟨l,os,rfl,rfl,hH,q⟩:=h
 cases rx
 obtain⟨u,rfl,ru⟩:=rv.one
 cases (show u=Value.none from ru)
 obtain⟨z,its,n,r,hl,e⟩:=I.lstM hH
 have hall:∀(os:List (Option Int)) (its:List Value),Vals (os.map fun o=>o.elim V.non V.int) its->its.countP (fun y=>y == Value.none)=os.countP (·.isNone)/\∀y∈its,y=.none∨∃a t,y=.int a t:=by
  intro os
  induction os with
  |nil=>intro its r;cases r;exact⟨rfl,by simp⟩
  |cons o os ih =>
   intro its r
   cases r with
   |cons h t =>
    obtain⟨i1,i2⟩:=ih _ t
    cases o with
    |none =>
     cases (show _=Value.none from h)
     refine⟨by rw[List.countP_cons,List.countP_cons,i1];rfl,fun y hy=>?_⟩;rcases List.mem_cons.mp hy with rfl |hy
     .exact .inl rfl
     .exact i2 y hy
    |some a =>
     obtain⟨tk,rfl⟩:=(show ∃t,_=Value.int a t from h);refine⟨by rw[List.countP_cons,List.countP_cons,i1];rfl,fun y hy=>?_⟩;rcases List.mem_cons.mp hy with rfl |hy
     .exact .inr ⟨a,tk,rfl⟩
     .exact i2 y hy
 obtain⟨c1,c2⟩:=hall os its r;refine call_meets F.slot_list_count ⟨_,e,rfl⟩ F.entry_list_count (F.args_list_count_2 _ _) (SeqAt.list_countAt l its.toArray n _ _ .none (fun y=>y == Value.none)) ⟨e,fun y hy=>?_,?_⟩
 .have hy':y∈its:=by simpa using hy
  rcases c2 y hy' with rfl |⟨a,t,rfl⟩
  .exact SeqAt.EqAt.same _
  .exact SeqAt.EqAt.int_none a t
 .refine⟨.int _,H,I.tok _,⟨_,rfl⟩,?_⟩;show Q (.int (its.toArray.toList.countP (fun y=>y == Value.none):Nat)) H;rw[List.toList_toArray,c1];exact q
end
section
variable {prog:Program}{w:World}{A:Around}{E:Value->Shared->Prop}{s:Shared}{it d:Addr}{i ep:Nat}{es:Array DictEntry}{od:Obj}
theorem zfC{Q:Value -> Shared -> Prop}(lo:(d == sysModules)=false)(g:s.heap.get? d=some od)(x:od.ExactDict)(dat:od.data = .dict es ep)
  (k:Q (.ref s.heap.objs.size) { s with heap:=s.heap.push { cls:=.type "dict_keyiterator",data:=.fields #[.ref d,.int 0 0,.int es.size 0,.int ep 0] } }):wpAny (model prog w) A (pyIter (.ref d)) Q E s:=by
 have ty:s.TypeIs (.ref d) "dict":=⟨od,g,x.1⟩;refine wpAny_pyIter_slot ty PySem.F.slot_dict_iter (wpAny_call_entry PySem.F.slot_dict_iter ty PySem.F.entry_dict_iter ?_ (PySem.F.args_dict_iter_1 _));unfold Builtin.«dict.__iter__» Builtin.Dict.dictSlotNone;refine wpAny_bind (wpAny_bind (wpAny_notOrdered_dict ty ?_));show wpAny (model prog w) A.in1 (pure (Value.ref d)) _ _ s;refine wpAny_pure ?_
 show wpAny (model prog w) A.in1 (Builtin.Dict.showsAll d >>= _) _ _ s;unfold Builtin.Dict.showsAll;rw[if_neg (show ¬ (d == sysModules)=true by rw[lo];decide)];refine wpAny_bind (wpAny_pure (wpAny_bind (wpAny_dictEntries g dat (wpAny_bind (wpAny_dictEpoch g dat (wpAny_bind (wpAny_newObj_type (wpAny_pure ⟨_,rfl,"dict_keyiterator",_,⟨_,Heap.get?_push_size _ rfl,rfl⟩,PySem.F.slot_dict_keyiterator_next.lookup,?_⟩))))))));simpa[rawInt]using k
theorem zfB{e:DictEntry}{Q:Option Value -> Shared -> Prop}(st:s.heap.IsKeyIter it d i es.size ep)(g:s.heap.get? d=some od)(dat:od.data = .dict es ep)(he:es[i]? = some e)
  (k:∀h',h'.IsKeyIter it d (i+1) es.size ep->Heap.SameBut it s.heap h'->Q (some e.key) { s with heap:=h' }):wpAny (model prog w) A (pyNext (.ref it)) Q E s:=by
 obtain⟨o,go,oc,odt⟩:=id st;unfold pyNext;refine wpAny_bind (wpAny_attempt (wpAny_callSpecial?_slot (name:=Str.ofString "__next__") st.typeIs PySem.F.slot_dict_keyiterator_next (wpAny_call_entry PySem.F.slot_dict_keyiterator_next st.typeIs PySem.F.entry_dict_keyiterator_next ?_ (PySem.F.args_dict_keyiterator_next_1 _))));refine wpAny_bind (wpAny_pure (wpAny_bind (wpAny_bind ?_)));refine wpAny_bind (wpAny_typeNameOfWhole_keyiter st.typeIs (wpAny_pure (wpAny_bind (wpAny_fieldsOf go odt ?_))));simp only[show Builtin.Dict_items.ownsTuple "dict_keyiterator" = false by decide,Bool.false_eq_true,if_false];show wpAny (model prog w) _ (if (Value.ref d == Value.none)=true then _ else _) _ _ s;rw[if_neg (show ¬ (Value.ref d == Value.none)=true by simp)];refine wpAny_bind (wpAny_pure (wpAny_bind (wpAny_dictEntries g dat ?_)));rw[if_neg (show ¬ ((es.size:Int) != (es.size:Int))=true by simp)];refine wpAny_bind (wpAny_pure (wpAny_bind (wpAny_dictEpoch g dat ?_)));rw[if_neg (show ¬ ((ep:Int) != (ep:Int))=true by simp)];refine wpAny_pure ?_
 simp only[show ¬ ((i:Int)<0) by lia,if_false,Int.toNat_natCast,he];refine wpAny_bind (wpAny_bind (wpAny_typeNameOfWhole_keyiter st.typeIs (wpAny_pure ?_)));refine wpAny_bind (wpAny_isOneOf_keyiter st.typeIs ?_);show wpAny (model prog w) _ (setField (.ref it) 1 (rawInt ((i:Int)+1)) >>= _) _ _ s;refine wpAny_bind (wpAny_setField go odt (by simp) ?_)
 have st':(s.heap.update it (Obj.mapFields (·.setIfInBounds 1 (rawInt ((i:Int)+1))))).IsKeyIter it d (i+1) es.size ep:=by refine⟨_,Heap.get?_update_self _ go (Obj.isFreed_of_fields (Obj.data_mapFields odt _)),(Obj.cls_mapFields ..).trans oc,?_⟩;rw[Obj.data_mapFields odt];simp[rawInt]
 refine wpAny_bind (wpAny_holding (wpAny_bind (wpAny_isOneOf_keyiter (s:={ s with heap:=s.heap.update it (Obj.mapFields (·.setIfInBounds 1 (rawInt ((i:Int)+1)))) }) st'.typeIs ?_)));show wpAny (model prog w) _ (pure e.key) _ _ _;exact wpAny_pure (wpAny_pure ⟨_,rfl,wpAny_pure (k _ st' (Heap.SameBut.update ..))⟩)
theorem zhc{Q:Option Value -> Shared -> Prop}(hh:A.handled=none)(st:s.heap.IsKeyIter it d i es.size ep)(g:s.heap.get? d=some od)(dat:od.data = .dict es ep)(he:es.size <= i)
  (k:∀h',Heap.ExtBut it s.heap h'->Q none { s with heap:=h' }):wpAny (model prog w) A (pyNext (.ref it)) Q E s:=by
 obtain⟨o,go,oc,odt⟩:=id st;unfold pyNext;refine wpAny_bind (wpAny_attempt (wpAny_callSpecial?_slot (name:=Str.ofString "__next__") st.typeIs PySem.F.slot_dict_keyiterator_next (wpAny_call_entry PySem.F.slot_dict_keyiterator_next st.typeIs PySem.F.entry_dict_keyiterator_next ?_ (PySem.F.args_dict_keyiterator_next_1 _))));refine wpAny_bind (wpAny_pure (wpAny_bind (wpAny_bind ?_)));refine wpAny_bind (wpAny_typeNameOfWhole_keyiter st.typeIs (wpAny_pure (wpAny_bind (wpAny_fieldsOf go odt ?_))));simp only[show Builtin.Dict_items.ownsTuple "dict_keyiterator" = false by decide,Bool.false_eq_true,if_false];show wpAny (model prog w) _ (if (Value.ref d == Value.none)=true then _ else _) _ _ s;rw[if_neg (show ¬ (Value.ref d == Value.none)=true by simp)];refine wpAny_bind (wpAny_pure (wpAny_bind (wpAny_dictEntries g dat ?_)));rw[if_neg (show ¬ ((es.size:Int) != (es.size:Int))=true by simp)];refine wpAny_bind (wpAny_pure (wpAny_bind (wpAny_dictEpoch g dat ?_)));rw[if_neg (show ¬ ((ep:Int) != (ep:Int))=true by simp)];refine wpAny_pure ?_
 simp only[show ¬ ((i:Int)<0) by lia,if_false,Int.toNat_natCast,Array.getElem?_eq_none he];refine wpAny_bind (wpAny_bind (wpAny_typeNameOfWhole_keyiter st.typeIs (wpAny_pure ?_)));show wpAny (model prog w) _ (setField (.ref it) 0 .none >>= _) _ _ s;refine wpAny_bind (wpAny_setField go odt (by simp) ?_);show wpAny (model prog w) _ (newExc (.type "StopIteration") [] >>= _) _ _ _;refine wpAny_bind ?_
 simp only[newExc,newTuple];refine wpAny_bind (wpAny_newObj_type ?_ (by size_fits));refine wpAny_bind (m:=firstArgMember _ _) (wpAny_of_eq (a:=Value.none) (by first |rfl | (simp only[firstArgMember];rfl)) (wpAny_newObj_type ?_ (by size_fits)));simp only[raiseNew];refine wpAny_bind (wpAny_handled ?_);rw[show A.in1.handled=none from hh];refine wpAny_bind (wpAny_pure (wpAny_throw (?_:wpAny _ _ _ _ _ _)));exact wpAny_bind (wpAny_isInstance (b:=true) (T:="StopIteration") ⟨_,Heap.get?_push_size _ rfl,rfl⟩ isSubtype_stop (wpAny_pure (k _ (((Heap.SameBut.update ..).extBut.push _).push _))))
end
def Itd(a:Addr)(od:Obj):It :=
 ⟨fun i H=>∃kvs,H a=some (.frz od (.dT kvs))/\i<kvs.length,fun i H x H'=>H'=H/\∀kvs,H a=some (.frz od (.dT kvs))->∃b k v,x=.ref b/\kvs[i]?=some (k,v)/\H b=some (.tup (k.map kV)),fun i H=>∃kvs,H a=some (.frz od (.dT kvs))/\kvs.length<=i⟩
theorem Paired.at'{α β:Type}{F:α->β->Prop}:∀{l:List α}{m:List β},Paired F l m->∀{i:Nat}{x:α},l[i]?=some x->∃y,m[i]?=some y/\F x y
 |_,_,.cons r t,0,x,h=>by cases h;exact⟨_,rfl,r⟩
 |_,_,.cons r t,i+1,x,h=>Paired.at' t h
theorem zh2{P:Program}{w:World}{K:W.Frag}{tg:Expr}(a it:Addr)(od:Obj){es:Array DictEntry}{ep:Nat}(dat:od.data=.dict es ep):Turn P w K tg (Itd a od) [it] it (fun i h=>h.IsKeyIter it a i es.size ep) where
 mem:=by simp
 obj:=fun i h st b hb=>by
  have e:b=it:=by simpa using hb
  subst e;obtain⟨o,e,c,d⟩:=st;exact⟨o,e,fun v z=>by rw[d]at z;cases z⟩
 keep:=fun i h h' st k=>st.at fun o e=>k it (by simp) o e
 item:=by
  intro X hP hw hK hc i pins s σ H E I hf st hg;subst hP hw hK;obtain⟨kvs,e,hi⟩:=hg;obtain⟨g,z,y,xs,r,o,es',ep',h1,h2,h3,h4,h5⟩:=(show ObjOk X.prog X.w H s.heap a (.frz od (.dT kvs)) from I.hok a _ e);rw[g]at h1
  cases h1
  rw[dat]at h3
  cases h3
  obtain⟨q,hq,q1,q2,q3⟩:=Paired.at' r (List.getElem?_eq_getElem hi);have he:es[i]?=some (entryOfKey (tupleKind (zaC X.prog X.w)) q):=by rw[entry_at h4,hq];rfl
  obtain⟨f0,f1,f2,f3,f4,f5⟩:=hf it (by simp);refine zfB st g dat he fun h' st' sb=>?_
  have I1:Inv X pins σ H { s with heap:=h' }:=I.turned (t':=s.toks) (fun b o hb e=>(sb.2 b hb).trans e) f0 f1 f3 f4 f5;obtain⟨o,e',c,dd⟩:=id st';refine⟨_,rfl,go_of (s:={ s with heap:=h' }) e' c dd (by decide) ⟨.ref q.2.1,H,I1,rfl,⟨rfl,fun ks hk=>?_⟩,st',fun b hb=>(hf b hb).1⟩⟩;rw[e]at hk
  cases hk
  exact⟨q.2.1,kvs[i].1,kvs[i].2,rfl,List.getElem?_eq_getElem hi,q2⟩
 done:=by
  intro X hP hw hK hc i pins s σ H E I hf st hg;subst hP hw hK;obtain⟨kvs,e,hi⟩:=hg;obtain⟨g,z,y,xs,r,o,es',ep',h1,h2,h3,h4,h5⟩:=(show ObjOk X.prog X.w H s.heap a (.frz od (.dT kvs)) from I.hok a _ e);rw[g]at h1
  cases h1
  rw[dat]at h3
  cases h3
  obtain⟨f0,f1,f2,f3,f4,f5⟩:=hf it (by simp);exact zhc (I.ok.hd hc) st g dat (by rw[size_of_entries h4,<- Paired.length r];exact hi) fun h' eb=>⟨rfl,I.turned (t':=s.toks) (fun b o hb e=>eb b o hb e) f0 f1 f3 f4 f5⟩
 self:=fun _ _ _ _ _ st h=>wpAny_pyIter_keyiter st h
section
variable {X:Cx}{tg:Expr}
def zlP(tl:TE):TI:=fun σ H R=>tl σ H fun x H1=>∃a kvs,x=.ref a/\H1 a=some (.dT kvs)/\∀od,R (Itd a od) (upd H1 a (.frz od (.dT kvs)))
theorem zgX{l:Expr}{tl:TE}(hl:PE X l tl):PI X tg l (zlP tl):=by
 intro pins s σ H R I h;refine thn (hl pins s σ H _ I h) fun v s1 ⟨x,H1,I1,r1,q1⟩=>?_
 obtain⟨a,kvs,e,hd,q⟩:=q1;subst e
 cases r1
 obtain⟨z,y,xs,r,od,es,ep,h1,h2,h3,h4,h5⟩:=(show ObjOk X.prog X.w H1 s1.heap a (.dT kvs) from I1.hok a _ hd)
 have I2:Inv X pins σ (upd H1 a (.frz od (.dT kvs))) s1:=I1.write (h':=s1.heap) (t':=s1.toks) (x:=a) (e:=a) (by rw[hd];exact True.intro) (.inl rfl) (fun b u _ g=>g) ⟨od,h1⟩
  ⟨h1,z,y,xs,KT.keeps r (fun c ys ec=>by rw[zai (ne_of ec hd (fun z=>nomatch z))];exact ec),od,es,ep,h1,h2,h3,h4,h5⟩
 refine zfC y h1 h2 h3 ?_
 refine⟨s1.heap.objs.size,[s1.heap.objs.size],_,_,_,rfl,I2.kept (t':=s1.toks) fun b o e=>Heap.get?_push_of_some _ e,zh2 a _ od h3,⟨_,Heap.get?_push_size _ rfl,rfl,rfl⟩,fun b hb=>?_,q od⟩;have e:b=s1.heap.objs.size:=by simpa using hb
 subst e;exact I2.fpOk (Nat.le_refl _) (I2.hok.fresh (Nat.le_refl _))
end
theorem zhe{a:Addr}{od:Obj}{kvs:List (List Key × V)}{g:TG}{tb:TS}{D:Ends}{σ : St}{H:Hp}(Pv:Nat -> St -> Hp -> Prop)(h0:Pv 0 σ H)(hl:∀i σ H, i <= kvs.length -> Pv i σ H -> H a=some (.frz od (.dT kvs)))
  (hs:∀i b k v σ H,kvs[i]?=some (k,v)->H b=some (.tup (k.map kV))->Pv i σ H->g (.ref b) σ H fun σ2 H2=>tb { D with nx:=Pv (i+1),ct:=Pv (i+1),bk:=D.nx } σ2 H2) (hd:∀ σ H,Pv kvs.length σ H->D.nx σ H) :
  ∃W:Nat->Nat->St->Hp->Prop,(∃m,W 0 m σ H)/\∀i m σ H,W i m σ H ->
   ((Itd a od).stop i H/\D.nx σ H)∨((Itd a od).go i H/\∃N:St->Hp->Prop,(∀ σ' H',N σ' H'->∃m',m'<m/\W (i+1) m' σ' H')/\∀x H',(Itd a od).yld i H x H'->g x σ H' fun σ2 H2=>tb { D with nx:=N,ct:=N,bk:=D.nx } σ2 H2):=by
 refine⟨fun i m σ H=>m=kvs.length-i/\i<=kvs.length/\Pv i σ H,⟨kvs.length,by simp,Nat.zero_le _,h0⟩,?_⟩;rintro i m σ H ⟨rfl,hi,p⟩;have q:=hl i σ H hi p
 by_cases hlt:i<kvs.length
 .refine .inr ⟨⟨kvs,q,hlt⟩,Pv (i+1),fun σ' H' p'=>⟨kvs.length-(i+1),by lia,rfl,hlt,p'⟩,fun x H' y=>?_⟩;obtain⟨e,y⟩:=y;subst e;obtain⟨b,k,v,rfl,h1,h2⟩:=y kvs q;exact hs i b k v σ _ h1 h2 p
 .have e:i=kvs.length:=by lia
  subst e;exact .inl ⟨⟨kvs,q,Nat.le_refl _⟩,hd σ H p⟩
section
variable {prog:Program}{w:World}{K:Type} [DecidableEq K] {knd:HeapKind prog w K}{A:Around}{E:Value->Shared->Prop}{s:Shared}{d a:Addr}{xs:List (K×Addr×Value)}{k:K}
end
section
variable {X:Cx}{o e f:Expr}{apos cpos:Pos}{td ty tx:TE}
end
end L2
namespace RP
end RP
namespace L2
open PySem PySem.Spec PyProof.Rows
theorem zdg{bt:Nat->Nat->Bool}:∀n,argBest bt n<=n
 | 0=>Nat.le_refl _
 |n+1=>by
  show (if bt (n+1) (argBest bt n)=true then n+1 else argBest bt n)<=n+1;split
  .exact Nat.le_refl _
  .exact Nat.le_succ_of_le (zdg n)
theorem zdf{v:Nat->Int}:∀(n j:Nat),j<=n->v (argBest (fun i j=>decide (v i<v j)) n)<=v j
 | 0,j,h=>by
  obtain rfl:j=0:=by lia
  exact Int.le_refl _
 |n+1,j,h=>by
  show v (if decide (v (n+1)<v (argBest (fun i j=>decide (v i<v j)) n))=true then n+1 else argBest (fun i j=>decide (v i<v j)) n)<=v j
  by_cases hb:v (n+1)<v (argBest (fun i j=>decide (v i<v j)) n)
  .rw[if_pos (decide_eq_true hb)];rcases Nat.lt_or_ge n j with q |q
   .obtain rfl:j=n+1:=by lia
    exact Int.le_refl _
   .have:=zdf (v:=v) n j q;lia
  .rw[if_neg (by simpa using hb)];rcases Nat.lt_or_ge n j with q |q
   .obtain rfl:j=n+1:=by lia
    lia
   .exact zdf n j q
theorem zdh{v:Nat->Int}:∀(n j:Nat),j<=n->v j<=v (argBest (fun i j=>decide (v i > v j)) n)
 | 0,j,h=>by
  obtain rfl:j=0:=by lia
  exact Int.le_refl _
 |n+1,j,h=>by
  show v j<=v (if decide (v (n+1) > v (argBest (fun i j=>decide (v i > v j)) n))=true then n+1 else argBest (fun i j=>decide (v i > v j)) n)
  by_cases hb:v (n+1) > v (argBest (fun i j=>decide (v i > v j)) n)
  .rw[if_pos (decide_eq_true hb)];rcases Nat.lt_or_ge n j with q |q
   .obtain rfl:j=n+1:=by lia
    exact Int.le_refl _
   .have:=zdh (v:=v) n j q;lia
  .rw[if_neg (by simpa using hb)];rcases Nat.lt_or_ge n j with q |q
   .obtain rfl:j=n+1:=by lia
    lia
   .exact zdh n j q
theorem ziV:∀(ns:List Int) (its:List Value),Vals (ns.map V.int) its->∃ts:Array (Int×Tok),its.toArray=intItems ts/\ts.toList.map (·.1)=ns:=by
 intro ns its r
 have:∀(ns:List Int) (its:List Value),Vals (ns.map V.int) its->∃ts:List (Int×Tok),its=ts.map (fun p=>Value.int p.1 p.2)/\ts.map (·.1)=ns:=by
  intro ns
  induction ns with
  |nil=>intro its r;cases r;exact⟨[],rfl,rfl⟩
  |cons n ns ih =>
   intro its r
   cases r with
   |cons h t =>
    obtain⟨ts,h1,h2⟩:=ih _ t;obtain⟨tk,rfl⟩:=(show ∃t,_=Value.int n t from h);exact⟨(n,tk)::ts,by rw[h1];rfl,by rw[List.map_cons,h2]⟩
 obtain⟨ts,h1,h2⟩:=this ns its r;exact⟨ts.toArray,by rw[h1];simp[intItems],by simpa using h2⟩
section
variable {X:Cx}
def IsMin(ns:List Int)(m:Int):Prop:=m∈ns/\∀n∈ns,m<=n
def IsMax(ns:List Int)(m:Int):Prop:=m∈ns/\∀n∈ns,n<=m
theorem zfQ (hh:X.calm=true):CallR X (.builtin "min") (fun xs H Q=>∃(p:Addr) (ns:List Int),xs=[.ref p]/\SqL X.K H p (ns.map V.int)/\ns≠[]/\∀m,IsMin ns m->Q (.int m) H):=by
 intro pins s σ H xs us Q I r h;obtain⟨p,ns,rfl,hq,hne,q⟩:=h;obtain⟨u,rfl,ru⟩:=vals1 r
 cases (show u=Value.ref p from ru)
 obtain⟨its,rv,pl,hz⟩:=I.list hq;obtain⟨ts,h1,h2⟩:=ziV ns its rv;have hl1:=pl.isList;rw[h1]at hl1;have hgl:ns.length=ts.size:=by rw[<- h2];simp
 have hpos:0<ns.length:=List.length_pos_iff.mpr hne;have gd:∀j,numAt ts j=ns.getD j 0:=fun j=>by rw[numAt_eq,h2]
 refine min_intList (I.ok.hd hh) hl1 (by lia) fun v h' tk hv hk=>?_
 obtain⟨t,rfl⟩:=intItems_at hv;have hle:=zdg (bt:=fun i j=>decide (numAt ts i<numAt ts j)) (ts.size-1);refine⟨.int _,H,I.kept hk,⟨_,rfl⟩,q _ ⟨?_,fun n hn=>?_⟩⟩
 .rw[gd,List.getD_eq_getElem?_getD,List.getElem?_eq_getElem (by lia)];exact List.getElem_mem _
 .obtain⟨j,hj,rfl⟩:=List.getElem_of_mem hn;have:=zdf (v:=numAt ts) (ts.size-1) j (by lia);rw[gd j,List.getD_eq_getElem?_getD,List.getElem?_eq_getElem hj]at this;exact this
theorem zfR (hh:X.calm=true):CallR X (.builtin "max") (fun xs H Q=>∃(p:Addr) (ns:List Int),xs=[.ref p]/\SqL X.K H p (ns.map V.int)/\ns≠[]/\∀m,IsMax ns m->Q (.int m) H):=by
 intro pins s σ H xs us Q I r h;obtain⟨p,ns,rfl,hq,hne,q⟩:=h;obtain⟨u,rfl,ru⟩:=vals1 r
 cases (show u=Value.ref p from ru)
 obtain⟨its,rv,pl,hz⟩:=I.list hq;obtain⟨ts,h1,h2⟩:=ziV ns its rv;have hl1:=pl.isList;rw[h1]at hl1;have hgl:ns.length=ts.size:=by rw[<- h2];simp
 have hpos:0<ns.length:=List.length_pos_iff.mpr hne;have gd:∀j,numAt ts j=ns.getD j 0:=fun j=>by rw[numAt_eq,h2]
 refine max_intList (I.ok.hd hh) hl1 (by lia) fun v h' tk hv hk=>?_
 obtain⟨t,rfl⟩:=intItems_at hv;have hle:=zdg (bt:=fun i j=>decide (numAt ts i > numAt ts j)) (ts.size-1);refine⟨.int _,H,I.kept hk,⟨_,rfl⟩,q _ ⟨?_,fun n hn=>?_⟩⟩
 .rw[gd,List.getD_eq_getElem?_getD,List.getElem?_eq_getElem (by lia)];exact List.getElem_mem _
 .obtain⟨j,hj,rfl⟩:=List.getElem_of_mem hn;have:=zdh (v:=numAt ts) (ts.size-1) j (by lia);rw[gd j,List.getD_eq_getElem?_getD,List.getElem?_eq_getElem hj]at this;exact this
end
end L2
namespace HT
open PySem PyProof.Rows
variable {prog:Program}{w:World}{A:Around}{E:Value->Shared->Prop}{s:Shared}
end HT
namespace L2
open PySem PySem.Spec PyProof.Rows
section
variable {X:Cx}{e es:Expr}{te ts:TE}{pos p2:Pos}
end
section
variable {prog:Program}{w:World}{A:Around}{E:Value->Shared->Prop}{s:Shared}
end
section
variable {X:Cx}
end
section
variable {X:Cx}
end
section
variable {prog:Program}{w:World}{A:Around}{E:Value->Shared->Prop}{s:Shared}
end
section
variable {X:Cx}{pins:List (Addr×Obj)}{σ:St}
end
section
variable {X:Cx}{l m:Expr}{t:TA}{p p2 pos pos2:Pos}
end
theorem ze6:∀{xs:List V}{us:List Value},xs.length=us.length->(∀(i:Nat) x u,xs[i]?=some x->us[i]?=some u->RelV x u)->Vals xs us
 |[],[],_,_=>.nil
 |x::xs,u::us,h,k=>.cons (k 0 x u rfl rfl) (ze6 (by simpa using h) fun i y v h1 h2=>k (i+1) y v (by simpa using h1) (by simpa using h2))
 |[],_::_,h,_=>by cases h
 |_::_,[],h,_=>by cases h
def zla(t:TA):TE:=fun σ H Q=>t σ H fun vs H1=>∃n:Nat,vs=[.int n]/\n<=1000/\∀S,H1 S=none->Q (.ref S) (upd H1 S (.lst ((List.range n).map fun i:Nat=>V.int i)))
section
variable {X:Cx}{a:Expr}{t:TA}{p p2 pos pos2:Pos}
theorem zel (hg:Gl X "list") (hm:X.mg "list" = none) (hg2:Gl X "range") (hm2:X.mg "range" = none) (ha:PA X [a] t) (hc:X.calm=true := by rfl)
  (hs:starEach [a] X.env=[(false,eval a X.env)]:=by rfl)
  (he:starEach [.Call (.Name "range" p2) [a] [] pos2] X.env=(false,eval (.Call (.Name "range" p2) [a] [] pos2) X.env)::starEach [] X.env:=by rfl) (hpl:(backTo pos (starEach [] X.env)).any (·.1)=false:=by rfl) :
  PE X (.Call (.Name "list" p) [.Call (.Name "range" p2) [a] [] pos2] [] pos) (zla t):=by
 intro pins s σ H Q I h;refine wpAny_Call_Name_kw (zcx I hg hm (by rfl) ?_ (by decide) (by decide));refine PyProof.Rows.callWith_type1 ?_ he hpl;rw[he];show wpAny _ _ (spliced ((false,eval (.Call (.Name "range" p2) [a] [] pos2) X.env)::backTo pos (starEach [] X.env))) _ _ s;refine Calls.spliced_cons ?_
 refine Call_ (zcx I hg2 hm2 boot_range (PyProof.Rows.callWith_type1 (thn (ha pos2 pins s σ H _ I h) fun us s1 ⟨vs,H1,I1,r1,q1⟩=>?_) hs rfl));obtain⟨n,e,hn,q⟩:=q1;subst e
 cases r1 with
 |cons r rr =>
  cases rr
  obtain⟨tt,rfl⟩:=r;refine call_range_1 ?_
  refine Calls.spliced_nil ?_
  have hsz:Builtin.Range.rangeSize 0 (n:Int) 1=((n:Nat):Int):=by rw[rangeSize_one];split <;> lia
  refine call_list_range (n:=n) (show X.A.handled=none from I1.ok.hd hc) (IsRange.new ..) (small_one (by lia) (by lia) (by lia) (by lia)) hsz (by lia) fun h' tk acc c kp g hacc=>?_
  refine⟨.ref _,_,(I1.kept (t':=tk) (h':=s1.heap.push _) fun b o e=>Heap.get?_push_of_some _ e).laid (t':=tk) (o:=.lst ((List.range n).map fun i:Nat=>V.int i)) kp (Nat.le_refl _) ?_,rfl,q _ ((I1.kept (t':=tk) (h':=s1.heap.push _) fun b o e=>Heap.get?_push_of_some _ e).hok.fresh (Nat.le_refl _))⟩;refine⟨by rw[List.length_map,List.length_range];exact Nat.le_trans hn (by decide),acc.toList,c,ze6 (by simp[hacc.1]) fun i x u h1 h2=>?_,by rw[Array.toArray_toList];exact g⟩;obtain⟨t1,rfl⟩:=hacc.2 i u (by simpa using h2)
  have hi:i<n:=by have:=(List.getElem?_eq_some_iff.mp h1).1;simpa using this
  rw[List.getElem?_map,List.getElem?_range hi]at h1
  cases h1
  exact⟨t1,by simp⟩
end
section
variable {X:Cx}
end
theorem zhZ{P:Program}{w:World}{K:W.Frag}{tg:Expr}(it:Addr)(lo:Int)(n:Nat):Turn P w K tg (Itr lo n) [it] it (fun i h=>IsLongIter h it (lo+(i:Nat)*1) ((n:Int)-(i:Nat)) 1) where
 mem:=by simp
 obj:=fun i h st b hb=>by
  have e:b=it:=by simpa using hb
  subst e
  exact⟨_,st,fun v z=>by
   have z':Data.fields _=Data.cell v:=z
   cases z'⟩
 keep:=fun i h h' st k=>k it (by simp) _ st
 item:=by
  intro X hP hw hK hc i pins s σ H E I hf st hg;subst hP hw hK;obtain⟨f0,f1,f2,f3,f4,f5⟩:=hf it (by simp);have W:=Walks.longrange (prog:=X.prog) (w:=X.w) (I.ok.hd hc) it lo 1 n;refine W.item i s _ _ hg st fun v h' tk hv st' kk=>?_
  obtain⟨t,rfl⟩:=hv;have I1:Inv X pins σ H { s with heap:=h',toks:=tk }:=I.turned (fun b o hb e=>kk b o (by simpa using hb) e) f0 f1 f3 f4 f5;refine⟨_,rfl,go_of (s:={ s with heap:=h',toks:=tk }) (n:="longrange_iterator") st' rfl rfl (by decide) ⟨.int (lo+i),H,I1,⟨t,?_⟩,⟨rfl,rfl⟩,st',fun b hb=>(hf b hb).1⟩⟩;rw[Int.mul_one]
 done:=by intro X hP hw hK hc i pins s σ H E I hf st hg;subst hP hw hK;obtain⟨f0,f1,f2,f3,f4,f5⟩:=hf it (by simp);exact wpAny_pyNext_long_end (I.ok.hd hc) st (by have:n<=i:=hg;lia) fun h' eb=>⟨rfl,I.turned (t':=s.toks) (fun b o hb e=>eb b o hb e) f0 f1 f3 f4 f5⟩
 self:=fun _ _ _ _ _ st h=>wpAny_pyIter_longiter st h
section
variable {X:Cx}{tg:Expr}
theorem zim{pins:List (Addr × Obj)}{σ : St}{H:Hp}{s:Shared}{R:It -> Hp -> Prop}{E:Value -> Shared -> Prop}{lo hi:Int}{t u v:Tok}{tk:Nat}(I:Inv X pins σ H s)
  (q:R (Itr lo (hi-lo).toNat) H):wpAny (model X.prog X.w) X.A (pyIter (.ref s.heap.objs.size)) (PIE X pins σ tg R) E { s with heap:=s.heap.push { cls:=.type "range",data:=.fields #[.int lo t,.int hi u,.int 1 v] },toks:=tk }:=by
 have I1:Inv X pins σ H { s with heap:=s.heap.push { cls:=.type "range",data:=.fields #[.int lo t,.int hi u,.int 1 v] },toks:=tk }:=I.kept fun b o e=>Heap.get?_push_of_some _ e
 have e1:lo+((0:Nat):Int)*1=lo:=by simp
 have e2:(((hi-lo).toNat:Nat):Int)-((0:Nat):Int)=Builtin.Range.rangeSize lo hi 1:=by rw[rangeSize_one];split <;> lia
 cases hs:Builtin.Range.small lo hi 1 with
 |true =>
  refine wpAny_pyIter_range (IsRange.new ..) hs ?_
  refine⟨(s.heap.push { cls:=.type "range",data:=.fields #[.int lo t,.int hi u,.int 1 v] }).objs.size,[(s.heap.push { cls:=.type "range",data:=.fields #[.int lo t,.int hi u,.int 1 v] }).objs.size],_,_,H,rfl,
   I1.kept (t':=tk) fun b o e=>Heap.get?_push_of_some _ e,zec _ lo (hi-lo).toNat,?_,fun b hb=>?_,q⟩
  .show IsRangeIter _ _ (lo+((0:Nat):Int)*1) ((((hi-lo).toNat:Nat):Int)-((0:Nat):Int)) 1;rw[e1,e2];exact Heap.get?_push_size _ rfl
  .have e:b=(s.heap.push { cls:=.type "range",data:=.fields #[.int lo t,.int hi u,.int 1 v] }).objs.size:=by simpa using hb
   subst e;exact I1.fpOk (Nat.le_refl _) (I1.hok.fresh (Nat.le_refl _))
 |false =>
  refine wpAny_pyIter_longrange (IsRange.new ..) hs ?_
  refine⟨(s.heap.push { cls:=.type "range",data:=.fields #[.int lo t,.int hi u,.int 1 v] }).objs.size,[(s.heap.push { cls:=.type "range",data:=.fields #[.int lo t,.int hi u,.int 1 v] }).objs.size],_,_,H,rfl,
   I1.kept (t':=tk) fun b o e=>Heap.get?_push_of_some _ e,zhZ _ lo (hi-lo).toNat,?_,fun b hb=>?_,q⟩
  .show IsLongIter _ _ (lo+((0:Nat):Int)*1) ((((hi-lo).toNat:Nat):Int)-((0:Nat):Int)) 1;rw[e1,e2];exact Heap.get?_push_size _ rfl
  .have e:b=(s.heap.push { cls:=.type "range",data:=.fields #[.int lo t,.int hi u,.int 1 v] }).objs.size:=by simpa using hb
   subst e;exact I1.fpOk (Nat.le_refl _) (I1.hok.fresh (Nat.le_refl _))
def iRngB(ta:TA):TI:=fun σ H R=>ta σ H fun vs H1=>∃i j:Int,vs=[.int i,.int j]/\R (Itr i (j-i).toNat) H1
theorem zct {a b:Expr}{ta:TA}{p pos:Pos}(hg:Gl X "range") (hm:X.mg "range" = none) (ha:PA X [a, b] ta) (hs:starEach [a, b] X.env = [(false, eval a X.env), (false, eval b X.env)] := by rfl) (hs2:starEach [b] X.env = [(false, eval b X.env)] := by rfl) :
  PI X tg (.Call (.Name "range" p) [a,b] [] pos) (iRngB ta):=by
 intro pins s σ H R I h;refine Call_ (zcx I hg hm boot_range (PyProof.Rows.callWith_type1 (thn (ha pos pins s σ H _ I h) fun us s1 ⟨vs,H1,I1,r1,q1⟩=>?_) (by rw[hs,hs2]) (by rw[hs2];rfl)));obtain⟨i,j,e,q⟩:=q1;subst e
 cases r1 with
 |cons r rr =>
  cases rr with
  |cons r' rr =>
   cases rr
   obtain⟨t,rfl⟩:=r;obtain⟨t',rfl⟩:=r';exact call_range_2 (zim I1 q)
end
section
variable {X:Cx}{pos:Pos}{kx vx:Expr}{tk tv:TE}
def zlb(tk tv:TE):TE:=fun σ H Q=>∀p,H p=none->tk σ (upd H p (.dT [])) fun y H1=>tv σ H1 fun v H2=>∃H3,DPut H2 p y v H3/\Q (.ref p) H3
theorem zjC(hu:X.A.units+1<cLine)(hk:PE X kx tk)(hv:PE X vx tv):PE X (.Dict [some kx] [vx] pos) (zlb tk tv):=by
 intro pins s σ H Q I q;have hn:=I.hok.fresh (Nat.le_refl s.heap.objs.size);have I1:=I.laid (a:=s.heap.objs.size) (o:=.dT []) (h':=s.heap.push { cls:=.type "dict",data:=.dict #[] }) (t':=s.toks) (fun _ _ q=>Heap.get?_push_of_some _ q) (Nat.le_refl _) (zhk s.heap I.big);rw[arm_eval_Dict,zip_pairTrees [some kx] [vx] X.env pos rfl rfl,dictDisplay_pairs _ (by intro z;cases z) (by show 1<17;decide)];refine wpAny_bind (wpAny_standAt (wpAny_bind ?_));unfold subDict;refine wpAny_bind (wpAny_alloc ?_);refine wpAny_bind (wpAny_holding ?_);rw[if_pos (by show 1<=15;decide)];refine wpAny_bind (pairTrees_cons_walk (thn (hk pins _ σ _ _ I1 (q _ hn)) fun u s1 ⟨y,H1,I1',r1,q1⟩=>thn (hv pins s1 σ H1 _ I1' q1) fun w2 s2 ⟨v,H2,I2,r2,H3,g,q2⟩=>pairTrees_nil_walk ?_));refine wpAny_holding ?_
 rw[List.forIn_cons];refine wpAny_bind (wpAny_bind ?_);show wpAny _ _ (dictSet s.heap.objs.size u w2 >>= fun _=>pure (ForInStep.yield PUnit.unit)) _ _ s2;refine wpAny_bind (d_set hu I2 g r1 r2 fun s3 I3=>wpAny_pure ?_);show wpAny _ _ (forIn [] _ _) _ _ s3;rw[List.forIn_nil];exact wpAny_pure (wpAny_pure (wpAny_pure (wpAny_pure ⟨.ref s.heap.objs.size,H3,I3,rfl,q2⟩)))
end
open AutoSeq1 (wpAny_loadPart')
section
variable {prog:Program}{w:World}{A:Around}{E:Value->Shared->Prop}{s:Shared}{d:Addr}{ep:Nat}{es:Array DictEntry}{od:Obj}
theorem zhs(hh:A.handled=none)(I d:Addr)(hne:d ≠ I)(dat:od.data = .dict es ep) :
  Walks prog w A I [I,d] [I] es.size (fun i v=>∃e,es[i]?=some e/\v=e.key) (fun i h=>h.IsKeyIter I d i es.size ep/\h.get? d=some od) where
 sub:=fun b hb=>by simp at hb;simp[hb]
 frame:=fun i h h' st k=>⟨st.1.at fun o e=>k I (by simp) o e,k d (by simp) _ st.2⟩
 item:=fun i s Q E hi st hQ=>by
  refine zfB st.1 st.2 dat (Array.getElem?_eq_getElem hi) fun h' st' sb=>?_
  refine hQ _ h' s.toks ⟨_,Array.getElem?_eq_getElem hi,rfl⟩ ⟨st',(sb.2 d hne).trans st.2⟩ fun b o hb e=>(sb.2 b (fun z=>hb (by simp[z]))).trans e
 done:=fun s Q E st hQ=>zhc hh st.1 st.2 dat (Nat.le_refl _) fun h' eb=>hQ h' s.toks fun b o hb e=>eb b o (fun z=>hb (by simp[z])) e
 self:=fun i s Q E st hQ=>wpAny_pyIter_keyiter st.1 hQ
theorem ziY{Q:Bool->Shared->Prop}(g:s.heap.get? d=some od)(x:od.ExactDict)(h:Q false s):wpAny (model prog w) A (Builtin.List.listLengthHint (.ref d)) Q E s:=by
 have ty:s.TypeIs (.ref d) "dict":=⟨od,g,x.1⟩;unfold Builtin.List.listLengthHint;refine wpAny_bind (wpAny_specialOf ty PySem.F.slot_dict_len.lookup ?_);generalize hid:("dict.__len__" : String)=id0
 wp_delta
 rw[show splitId id0=some ("dict","__len__") from by subst hid;decide +kernel];subst hid;refine wpAny_bind (wpAny_isInstance (T:="dict") (b:=true) ty (by rw[isSubtype_type];kernel_rfl) ?_);refine wpAny_ite_split (fun hab=>absurd hab (by decide)) (fun _=>?_);refine wpAny_ite_split (fun _=>?_) (fun hab=>absurd (by decide +kernel) hab);refine wpAny_bind (wpAny_typeOf (T:="dict") ty ?_);exact wpAny_pure h
theorem zgt{R:Result -> Shared -> Prop}(hh:A.handled=none)(lo:(d == sysModules)=false)(g:s.heap.get? d=some od)(x:od.ExactDict)(dat:od.data = .dict es ep)(hz:es.size <= 2 ^ 24)
    (S:Addr) (res:Value) (c₀:Nat) (hS:s.heap.get? S=some { cls:=.type "list",data:=.seq #[] c₀ })
    (hR:∀h' tk acc' c',(∀b o,b≠S->s.heap.get? b=some o->h'.get? b=some o)->h'.get? S=some { cls:=.type "list",dict:=none,data:=.seq acc' c',slots:=#[] } ->
      ItemsOf (fun i v=>∃e,es[i]?=some e/\v=e.key) acc' es.size->R (.ok (.ret res)) { s with heap:=h',toks:=tk }) :
    wpAny (model prog w) A.in1 (Builtin.List.listExtendWith (.ref S) (.ref d) res)
      (fun fin s'=>match fin with |.done f=>R (.ok f) s' |.again c'=>c'.quiet=true/\codeAny (model prog w) A c' R s') (fun e s'=>R (.error e) s') s:=by
  have hSr:S≠d:=fun e=>by rw[e,g]at hS;have:=x.1;cases hS;exact absurd (show Value.type "list" = Value.type "dict" from this) (by decide)
  have hSlt:S<s.heap.objs.size:=Heap.lt_size hS;have hdlt:d<s.heap.objs.size:=Heap.lt_size g;have hSI:S≠s.heap.objs.size:=Nat.ne_of_lt hSlt
  have hSf:S ∉ [s.heap.objs.size,d]:=fun hm=>by
    rcases List.mem_cons.mp hm with z |z
    . exact hSI z
    . exact hSr (List.mem_singleton.mp z)
  have W:=(zhs (prog:=prog) (w:=w) (A:=A.in1) hh s.heap.objs.size d (Nat.ne_of_lt hdlt) dat).toS
  have key:∀(h:Heap) (c₁ tk:Nat), h.IsKeyIter s.heap.objs.size d 0 es.size ep /\ h.get? d=some od -> (∀b o, b ≠ S -> s.heap.get? b=some o -> h.get? b=some o) ->
      h.get? S=some { cls:=.type "list",data:=.seq #[] c₁ }->codeAny (model prog w) A (.builtin "list.extend.loop" ⟨[.ref S,.ref s.heap.objs.size,res],[]⟩) R { s with heap:=h,toks:=tk }:=by
    intro h c₁ tk hit hk hS₁;refine codeAny_extend_loopS W (by rw[sizeLine_eq];lia) S hSf res es.size 0 _ #[] c₁ rfl (Nat.zero_le _) hit hS₁ (ItemsOf.nil _) fun s' acc' c' hm hS' hacc=>?_
    rw[Moved.eq_with hm];refine hR s'.heap s'.toks acc' c' (fun b o hb e=>hm.heap b o (fun hmem=>?_) (hk b o hb e)) hS' hacc;rcases List.mem_cons.mp hmem with e' |hmem
    . exact hb e'
    . exact absurd (Heap.lt_size e) (by rw[List.mem_singleton.mp hmem];exact Nat.lt_irrefl _)
  unfold Builtin.List.listExtendWith;refine wpAny_bind (wpAny_typeOf (T:="dict") ⟨od,g,x.1⟩ ?_);have h1:Builtin.List.listSameRef (.ref S) (.ref d)=false:=by simp[Builtin.List.listSameRef,hSr]
  have h2:(Value.type "dict" == Value.type "list")=false:=by decide
  have h3:(Value.type "dict" == Value.type "tuple")=false:=by decide
  simp only[h1,h2,h3,Bool.or_false,Bool.false_eq_true,if_false];refine wpAny_bind (zfC lo g x dat ?_);refine wpAny_bind (wpAny_holding (ziY (Heap.get?_push_of_some _ g) x ?_));have hit₁:(s.heap.push { cls:=.type "dict_keyiterator",data:=.fields #[.ref d,.int 0 0,.int es.size 0,.int ep 0] }).IsKeyIter s.heap.objs.size d 0 es.size ep:=⟨_,Heap.get?_push_size _ rfl,rfl,rfl⟩;have hg₁:=Heap.get?_push_of_some { cls:=.type "dict_keyiterator",data:=.fields #[.ref d,.int 0 0,.int es.size 0,.int ep 0] } g;have hS₁:=Heap.get?_push_of_some { cls:=.type "dict_keyiterator",data:=.fields #[.ref d,.int 0 0,.int es.size 0,.int ep 0] } hS;refine wpAny_ite_split (fun _=>?_) (fun hab=>absurd (by decide) hab);refine wpAny_bind (wpAny_rule ?_);refine wpAny_bind ?_
  show wpAny _ _ (updateSeq S (·.push .none) >>= fun _=>updateSeq S (·.pop)) _ _ _;refine wpAny_bind (wpAny_updateSeq hS₁ rfl ?_);have hS₂:=Heap.get?_update_self (Obj.mapSeq (·.push Value.none)) hS₁ rfl;refine wpAny_updateSeq (hz:=by seq_fits) hS₂ rfl ?_
  have hS₃:=Heap.get?_update_self (Obj.mapSeq (·.pop)) hS₂ rfl;refine wpAny_pure ⟨plainId_quiet PySem.F.plain_extend_loop _,key _ _ _ ⟨hit₁.at fun o e=>?_,?_⟩ (fun b o hb e=>?_) hS₃⟩
  . exact (Heap.get?_update_other _ _ hSI).trans ((Heap.get?_update_other _ _ hSI).trans e)
  . exact (Heap.get?_update_other _ _ hSr).trans ((Heap.get?_update_other _ _ hSr).trans hg₁)
  . exact (Heap.get?_update_other _ _ (Ne.symm hb)).trans ((Heap.get?_update_other _ _ (Ne.symm hb)).trans (Heap.get?_push_of_some _ e))
theorem ziW{R:Result -> Shared -> Prop}(hh:A.handled=none)(lo:(d == sysModules)=false)(g:s.heap.get? d=some od)(x:od.ExactDict)(dat:od.data = .dict es ep)(hz:es.size <= 2 ^ 24)
  (S:Addr) (hS:s.heap.get? S=some { cls:=.type "list",data:=.seq #[] })
  (hR:∀h' tk acc' c',(∀b o,b≠S->s.heap.get? b=some o->h'.get? b=some o)->h'.get? S=some { cls:=.type "list",dict:=none,data:=.seq acc' c',slots:=#[] } ->
   ItemsOf (fun i v=>∃e,es[i]?=some e/\v=e.key) acc' es.size->R (.ok (.ret .none)) { s with heap:=h',toks:=tk }) :
  wpAny (model prog w) A.in1 (Builtin.«list.__init__» ⟨[.ref S,.ref d],[]⟩)
   (fun fin s'=>match fin with |.done f=>R (.ok f) s' |.again c'=>c'.quiet=true/\codeAny (model prog w) A c' R s') (fun e s'=>R (.error e) s') s:=by
 have hSr:S≠d:=fun e=>by rw[e,g]at hS;have:=x.1;cases hS;exact absurd (show Value.type "list" = Value.type "dict" from this) (by decide)
 show wpAny _ _ (do let old <- Builtin.List.listItems (.ref S);Builtin.List.listUpdate (.ref S) (fun _=>#[]);letGo old.toList.reverse;Builtin.List.listExtendWith (.ref S) (.ref d) .none) _ _ s;refine wpAny_bind ?_
 unfold Builtin.List.listItems;refine wpAny_bind (wpAny_seqItems hS rfl (wpAny_pure ?_));show wpAny _ _ (updateSeq S (fun _=>#[]) >>= fun _=>letGo (#[]:Array Value).toList.reverse >>= fun _=>Builtin.List.listExtendWith (.ref S) (.ref d) .none) _ _ s;refine wpAny_bind (wpAny_updateSeq hS rfl ?_);have hS₂:=Heap.get?_update_self (Obj.mapSeq (fun _=>(#[]:Array Value))) hS rfl
 have oth:∀b o,b≠S->s.heap.get? b=some o->(s.heap.update S (Obj.mapSeq (fun _=>(#[]:Array Value)))).get? b=some o :=
  fun b o hb e=>(Heap.get?_update_other _ _ (Ne.symm hb)).trans e
 refine wpAny_bind (wpAny_letGo ?_);refine zgt hh lo (oth d _ (Ne.symm hSr) g) x dat hz S .none _ hS₂ fun h' tk acc' c' hk hS' hacc=>?_
 exact hR h' tk acc' c' (fun b o hb e=>hk b o hb (oth b o hb e)) hS' hacc
theorem zd7{Q:Value -> Shared -> Prop}(hh:A.handled=none)(lo:(d == sysModules)=false)(g:s.heap.get? d=some od)(x:od.ExactDict)(dat:od.data = .dict es ep)(hz:es.size <= 2 ^ 24)
  (hQ:∀h' tk acc' c',(∀b o,s.heap.get? b=some o->h'.get? b=some o) ->
   h'.get? s.heap.objs.size=some { cls:=.type "list",dict:=none,data:=.seq acc' c',slots:=#[] }->ItemsOf (fun i v=>∃e,es[i]?=some e/\v=e.key) acc' es.size->Q (.ref s.heap.objs.size) { s with heap:=h',toks:=tk }) :
  wpAny (model prog w) A (call (.type "list") [.ref d]) Q E s:=by
 refine callType_codes (Q₁:=fun obj s₁=>obj=.ref s.heap.objs.size/\s₁={ s with heap:=s.heap.push { cls:=.type "list",data:=.seq #[] } }) PySem.F.called_list (PySem.F.typeCall_list_1 _) PySem.F.entry_list_init
  (code_list_new _ ⟨rfl,rfl⟩) fun obj s₁ h₁=>?_
 obtain⟨rfl,rfl⟩:=h₁;have hS:(s.heap.push { cls:=.type "list",data:=.seq #[] }).get? s.heap.objs.size=some { cls:=.type "list",data:=.seq #[] }:=Heap.get?_push_size _ rfl;refine⟨⟨_,hS,rfl⟩,PySem.F.args_list_init_2 _ _,ziW (A:=A.in1) hh lo (Heap.get?_push_of_some _ g) x dat hz _ hS fun h' tk acc' c' hk hS' hacc=>?_⟩;exact⟨rfl,hQ h' tk acc' c' (fun b o e=>hk b o (Nat.ne_of_lt (Heap.lt_size e)) (Heap.get?_push_of_some _ e)) hS' hacc⟩
end
def KeyL(H:Hp)(ts:List V)(kvs:List (List Key×V)):Prop:=ts.length=kvs.length/\∀(i:Nat) t k v,ts[i]?=some t->kvs[i]?=some (k,v)->∃b,t=.ref b/\H b=some (.tup (k.map kV))
section
variable {X:Cx}
theorem zfS (hh:X.calm=true):CallR X (.type "list") (fun xs H Q=>∃a kvs,xs=[.ref a]/\Rd H a (.dT kvs)/\∀l ts,H l=none->KeyL H ts kvs->Q (.ref l) (upd H l (.lst ts))):=by
 intro pins s σ H xs us Q I r h;obtain⟨a,kvs,rfl,e,q⟩:=h;obtain⟨u,rfl,rx⟩:=vals1 r
 cases rx
 obtain⟨z,y,ys,rr,od,es,ep,h1,h2,h3,h4,h5⟩:=(show ObjOk X.prog X.w H s.heap a (.dT kvs) from rd_of I.hok e);have hsz:es.size=kvs.length:=by rw[size_of_entries h4,<- Paired.length rr]
 have z':=z;rw[sizeLine_eq]at z';refine zd7 (show X.A.handled=none from I.ok.hd hh) y h1 h2 h3 (by lia) fun h' tk acc c kp g hacc=>?_
 have at_i:∀(i:Nat) (u:Value),acc[i]?=some u->∃b k v,kvs[i]?=some (k,v)/\u=.ref b/\H b=some (.tup (k.map kV)):=fun i u hu=>by
  obtain⟨en,he,rfl⟩:=hacc.2 i u hu
  have hi:i<kvs.length:=by have:=(Array.getElem?_eq_some_iff.mp he).1;lia
  obtain⟨q',hq,q1,q2,q3⟩:=Paired.at' rr (List.getElem?_eq_getElem hi);have he':es[i]?=some (entryOfKey (tupleKind (zaC X.prog X.w)) q'):=by rw[entry_at h4,hq];rfl
  rw[he]at he'
  cases he'
  exact⟨q'.2.1,kvs[i].1,kvs[i].2,List.getElem?_eq_getElem hi,rfl,q2⟩
 have hal:acc.size=kvs.length:=by rw[<- hsz];exact hacc.1
 let ts:List V:=acc.toList.map fun u=>match u with |.ref b=>V.ref b |_=>V.non
 have hts:ts.length=kvs.length:=by simp[ts,hal]
 have hrel:Vals ts acc.toList:=ze6 (by simp[ts]) fun i x u hx hu=>by
  rw[List.getElem?_map,hu]at hx
  cases hx
  obtain⟨b,k,v,_,rfl,_⟩:=at_i i u (by simpa using hu);rfl
 have hn:H s.heap.objs.size=none:=I.hok.fresh (Nat.le_refl _);refine⟨.ref s.heap.objs.size,_,I.laid (t':=tk) (o:=.lst ts) kp (Nat.le_refl _) ⟨by rw[hts];exact z,acc.toList,c,hrel,by rw[Array.toArray_toList];exact g⟩,rfl,q _ ts hn ⟨hts,fun i t k v ht hk=>?_⟩⟩;have hi:i<acc.toList.length:=by have:=(List.getElem?_eq_some_iff.mp ht).1;simpa[ts]using this
 have hu:acc.toList[i]?=some acc.toList[i]:=List.getElem?_eq_getElem hi;obtain⟨b,k',v',hk',hu',hb⟩:=at_i i acc.toList[i] (by simpa using hu);rw[hk]at hk'
 cases hk'
 rw[List.getElem?_map,hu]at ht
 cases ht
 rw[hu'];exact⟨b,rfl,hb⟩
end
section
variable {X:Cx}{es:List Expr}{te:TE}{t:TA}{pos:Pos}
theorem pa_T{l:List Expr}{k:Nat}(ha:PE X (.Tuple l k pos) te)(hr:PA X es t):PA X (.Tuple l k pos::es) (tCons te t):=zaj ha hr (by rfl)
theorem pa_C{c:Const}{k:Nat}(ha:PE X (.Constant c k pos) te)(hr:PA X es t):PA X (.Constant c k pos::es) (tCons te t):=zaj ha hr (by rfl)
theorem pa_B{a b:Expr}{o:Operator}(ha:PE X (.BinOp a o b pos) te)(hr:PA X es t):PA X (.BinOp a o b pos::es) (tCons te t):=zaj ha hr (by rfl)
theorem pa_N{x:Str}(ha:PE X (.Name x pos) te)(hr:PA X es t):PA X (.Name x pos::es) (tCons te t):=zaj ha hr (by rfl)
end
theorem zkB{t u:TS}{D:Ends}{σ:St}{H:Hp}{I:St->Hp->Prop}(g:(∀ σ H,I σ H->u D σ H)->tSeq t u D σ H)(h:∀ σ H,I σ H->u D σ H):tSeq t u D σ H:=g h
theorem zcE{i:Nat}{v:V}{σ:St}{H:Hp}{Q:St->Hp->Prop}:gName i v σ H Q=Q (σ.set i (some v)) H:=rfl
theorem zlZ{i:Nat}{v:V}{u:TS}{D:Ends}{σ:St}{H:Hp}:tSeq (tAsg (tC v) (gName i)) u D σ H=u D (σ.set i (some v)) H:=rfl
section
variable {X:Cx}{tg:Expr}
end
inductive IsC:Expr->V->Prop where
 |int {n:Int} {k:Nat} {p:Pos}:IsC (.Constant (.int n) k p) (.int n)
 |bl {b:Bool} {k:Nat} {p:Pos}:IsC (.Constant (.bool b) k p) (.bl b)
 |neg {n:Int} {k:Nat} {p q:Pos}:IsC (.UnaryOp .USub (.Constant (.int n) k p) q) (.int (-n))
inductive IsPs:List Expr->List (V×V)->Prop where
 |nil:IsPs [] []
 |cons {a b:Expr} {x y:V} {k:Nat} {p:Pos} {es:List Expr} {l:List (V×V)}:IsC a x->IsC b y->IsPs es l->IsPs (.Tuple [a,b] k p::es) ((x,y)::l)
inductive RetPs:List Stmt->List (V×V)->Prop where
 |mk {es:List Expr} {l:List (V×V)} {p q:Pos}:IsPs es l->RetPs [.Return (some (.List es p)) q] l
section
variable {X:Cx}
end
section
variable {X:Cx}
end
section
variable {prog:Program}{w:World}{A:Around}{E:Value->Shared->Prop}{s:Shared}{T:String}{r d:Addr}{n:Nat}{P:Nat->Value->Prop}{OK:Heap->Prop}
theorem zhv{Q:Value -> Shared -> Prop}{ns:List Int}(K:W.KdlSrc prog w T r d n P OK)(hh:A.handled=none)(hok:OK s.heap)(hz:n < 64)
  (hI:∀acc,ItemsOf P acc n->IntsAre acc.toList ns)
  (hQ:∀(h1 h':Heap) (tk:Nat) (D:Addr) (out:Array Value) (ns':List Int) (e:Nat),(∀b o,s.heap.get? b=some o->h1.get? b=some o)->(∀b o,h1.get? b=some o->h'.get? b=some o)->h1.objs.size<=D->h'.get? D=some (seqObj "list" out e)->IntsAre out.toList ns'->ns'.Perm ns->ns'.Pairwise (·<=·)->Q (.ref D) { s with heap:=h',toks:=tk }) :
  wpAny (model prog w) A (call (.builtin "sorted") [.ref r]) Q E s:=by
 refine Calls.call_function_entry kind_sorted plain_sorted entry_sorted (args_sorted1 _) ?_
 unfold Builtin.«sorted»;refine wpAny_bind (m:=checkCount "sorted" 1 1 _) (wpAny_pure ?_);refine wpAny_bind (W.kdu_collect (A:=A.in1) K hh hok (by rw[sizeLine_eq];lia) fun h' tk acc hk hacc=>?_);have hal:acc.toList.length<64:=by rw[Array.length_toList,hacc.1];exact hz
 refine wpAny_bind (wpAny_newList ?_ (by rw[sizeLine_eq];lia));have hoL:(h'.push (seqObj "list" acc.toList.toArray 0)).get? h'.objs.size=some (seqObj "list" acc.toList.toArray 0):=Heap.get?_push_size _ rfl;show wpAny _ _ _ _ _ { s with heap:=h'.push (seqObj "list" acc.toList.toArray 0),toks:=tk };refine wpAny_bind (wpAny_holding (wpAny_call_entry slot_list_sort ⟨_,hoL,rfl⟩ entry_list_sort (list_sort_tree hoL (hI acc hacc) hal fun out ns' a1 a2 a3=>⟨_,rfl,?_⟩) (args_list_sort _)));obtain⟨e,he⟩:=sortedHeap_at (out:=out) hoL;refine wpAny_pure ⟨_,rfl,hQ h' _ tk _ out ns' e hk (fun b o hb=>?_) (Nat.le_refl _) he a1 a2 a3⟩;rw[sortedHeap_old (Nat.ne_of_lt (Heap.lt_size hb)) (by rw[size_push'];exact Nat.lt_succ_of_lt (Heap.lt_size hb))];exact Heap.get?_push_of_some _ hb
end
section
variable {X:Cx}
theorem zhL:CallR X (.builtin "sorted") (fun xs H Q=>∃l,∃ns:List Int,xs=[.ref l]/\SqL X.K H l (ns.map V.int)/\ns.length<64/\∀(D:Addr) (ns':List Int),ns'.Perm ns->ns'.Pairwise (·<=·)->H D=none->Q (.ref D) (upd H D (.lst (ns'.map V.int)))):=by
 intro pins s σ H xs us Q I r h;obtain⟨l,ns,rfl,hl,h64,q⟩:=h;obtain⟨u,rfl,rx⟩:=vals1 r
 cases rx
 obtain⟨vs,rv,pl,hz⟩:=I.list hl;have hlv:vs.length=ns.length:=by rw[<- rv.length,List.length_map]
 refine sorted_ints pl.isList (zcD rv) (by lia) fun out ns' a1 a2 a3=>?_
 obtain⟨e,he⟩:=sortedAll_at s.heap vs out;have hn:H (s.heap.objs.size+1)=none:=I.hok.fresh (Nat.le_succ _);refine⟨.ref (s.heap.objs.size+1),_,I.laid (t':=s.toks) (o:=.lst (ns'.map V.int)) (fun b o=>sortedAll_old) (Nat.le_succ _) ⟨?_,out.toList,e,zcW a1,by rw[Array.toArray_toList];exact he⟩,rfl,q _ ns' a2 a3 hn⟩;rw[List.length_map,a2.length_eq,sizeLine_eq];lia
theorem zhM (hh:X.calm=true):CallR X (.builtin "sorted") (fun xs H Q=>∃a,∃kvs:List (Key×V),∃ns:List Int,xs=[.ref a]/\Rd H a (.dK kvs)/\kvs.map (·.1)=ns.map Sum.inl/\ns.length<64/\∀(D:Addr) (ns':List Int),ns'.Perm ns->ns'.Pairwise (·<=·)->H D=none->Q (.ref D) (upd H D (.lst (ns'.map V.int)))):=by
 intro pins s σ H xs us Q I r h;obtain⟨a,kvs,ns,rfl,e,hk,h64,q⟩:=h;obtain⟨u,rfl,rx⟩:=vals1 r
 cases rx
 obtain⟨z,y,vs,kv,hD⟩:=dk_rd I.hok e;obtain⟨ep,hat⟩:=hD.dictAt;have hl1:kvs.length=ns.length:=by have:=congrArg List.length hk;simpa using this
 have hl2:kvs.length=vs.length:=Paired.length kv;refine zhv (ns:=ns) (W.kdl_dict (knd:=zaC X.prog X.w) (kvs:=vs) (ep:=ep) y) (I.ok.hd hh) hat (by lia) (fun acc hacc=>?_) fun h1 h' tk D out ns' e kp kp2 hD' ho a1 a2 a3=>?_
 .refine zcD (ze6 (by have:=hacc.1;simp only[List.length_map,Array.length_toList];lia) fun i x u hx hu=>?_);obtain⟨k,v,hkv,hki⟩:=hacc.2 i u (by simpa using hu);obtain⟨n,hn,rfl⟩:∃n,ns[i]?=some n/\V.int n=x:=by simpa using hx
  have hi:i<kvs.length:=by have:=(List.getElem?_eq_some_iff.mp hkv).1;lia
  obtain⟨p,hp,ep1,_⟩:=Paired.at' kv (List.getElem?_eq_getElem hi);rw[hkv]at hp
  cases hp
  have hkn:kvs[i].1=Sum.inl n:=by
   have h1:(kvs.map (·.1))[i]?=(ns.map Sum.inl)[i]?:=by rw[hk]
   rw[List.getElem?_map,List.getElem?_map,hn,List.getElem?_eq_getElem hi]at h1;simpa using h1
  have hki':keyIs (Sum.inl n) u=true:=by rw[<- hkn,ep1];exact hki
  rcases zaU hki' with⟨i',t,e1,rfl⟩ |⟨x,t,e1,_⟩
  .cases e1;exact⟨t,rfl⟩
  .cases e1
 .have I1:Inv X pins σ H { s with heap:=h1,toks:=tk }:=I.kept (t':=tk) kp;have hn:H D=none:=I1.hok.fresh hD';refine⟨.ref D,_,I1.laid (t':=tk) (o:=.lst (ns'.map V.int)) kp2 hD' ⟨?_,out.toList,e,zcW a1,by rw[Array.toArray_toList];exact ho⟩,rfl,q _ ns' a2 a3 hn⟩;rw[List.length_map,a2.length_eq,sizeLine_eq];lia
end
def zlc(td ty tx:TE):TE:=fun σ H Q=>td σ H fun x H1=>∃a,x=.ref a/\IsD H1 a/\ty σ H1 fun y H2=>tx σ H2 fun z H3=>∃kvs k,H3 a=some (.dK kvs)/\y=kV k/\kvs.length<sizeLine /\
 (∀v,valV kvs k=some v->Q v H3)/\(valV kvs k=none->Q z (upd H3 a (.dK (putK kvs k z))))
section
variable {X:Cx}{o e f:Expr}{apos cpos:Pos}{td ty tx:TE}
theorem zg0 (ho:PE X o td) (he:PE X e ty) (hf:PE X f tx) (m:M2 X o "setdefault" apos e f cpos):PE X (.Call (.Attribute o "setdefault" apos) [e,f] [] cpos) (zlc td ty tx):=by
 intro pins s σ H Q I h;refine wpAny_Call_method m.base m.few m.line PySem.F.plainAttrs_dict PySem.F.slot_dict_setdefault PySem.F.type_dict_setdefault (thn (ho pins s σ H _ I h) fun u s1 ⟨x,H1,I1,rx,a,ex,d,q1⟩=>?_);subst ex;obtain rfl:u=Value.ref a:=rx;obtain⟨t1,t2,_⟩:=zkg I1 d;refine⟨t1,t2,?_⟩;rw[m.trees]
 refine Calls.callWith_builtin rfl (Calls.evalArgs_plain (Calls.spliced_cons (thn (he pins s1 σ H1 _ I1 q1) fun iv s2 ⟨y,H2,I2,ry,q2⟩ =>
  Calls.spliced_cons (thn (hf pins s2 σ H2 _ I2 q2) fun fv s3 ⟨z,H3,I3,rz,kvs,k,eD,ey,hl,k1,k2⟩=>Calls.spliced_nil ?_))))
 subst ey;obtain⟨zz,hd,vs,rel,dd⟩:=dk_of I3.hok eD
 refine call_meetsIn PySem.F.slot_dict_setdefault dd.typeIs PySem.F.entry_dict_setdefault (PySem.F.args_dict_setdefault_3 _ _ _) (PySem.kt_meets_setdefault (zaC X.prog X.w) a (kV_is ry) hd fv)
  ⟨vs,dd,by rw[<- rel.length];exact zz,fun p ep=>?_,fun en h' dd' hs=>?_⟩
 .have rv:=rel.val k;rw[ep]at rv
  cases hv:valV kvs k with
  |none=>rw[hv]at rv;exact False.elim rv
  |some v=>rw[hv]at rv;exact⟨v,H3,I3.tok _,rv,k1 v hv⟩
 .have hn:valV kvs k=none := by
   have rv:=(rel.val k).isSome_eq;rw[en]at rv
   cases hv:valV kvs k with
   |none=>rfl
   |some v=>rw[hv]at rv;exact absurd rv (by simp)
  have hz:(putK kvs k z).length<=sizeLine:=by have:=zba kvs k z;lia
  have hq:∃q,h'.get? a=some q:=let ⟨q,_,_,hq,_⟩:=dd';⟨q,hq⟩
  exact⟨z,_,zdd I3 (by rw[eD];exact True.intro) hs hq (zi4 hz hd (rel.put k rz) dd'),rz,k2 hn⟩
end
def Itr2(lo:Int)(n:Nat):It:=⟨fun i _=>i<n,fun i H x H'=>H'=H/\x=.int (lo+i*2),fun i _=>n<=i⟩
theorem zf7{P:Program}{w:World}{K:W.Frag}{tg:Expr}(it:Addr)(lo:Int)(n:Nat):Turn P w K tg (Itr2 lo n) [it] it (fun i h=>IsRangeIter h it (lo+(i:Nat)*2) ((n:Int)-(i:Nat)) 2) where
 mem:=by simp
 obj:=fun i h st b hb=>by
  have e:b=it:=by simpa using hb
  subst e
  exact⟨_,st,fun v z=>by
   have z':Data.fields _=Data.cell v:=z
   cases z'⟩
 keep:=fun i h h' st k=>k it (by simp) _ st
 item:=by
  intro X hP hw hK hc i pins s σ H E I hf st hg;subst hP hw hK;obtain⟨f0,f1,f2,f3,f4,f5⟩:=hf it (by simp);have W:=Walks.range (prog:=X.prog) (w:=X.w) (I.ok.hd hc) it lo 2 n;refine W.item i s _ _ hg st fun v h' tk hv st' kk=>?_
  obtain⟨t,rfl⟩:=hv;have I1:Inv X pins σ H { s with heap:=h',toks:=tk }:=I.turned (fun b o hb e=>kk b o (by simpa using hb) e) f0 f1 f3 f4 f5;exact⟨_,rfl,go_of (s:={ s with heap:=h',toks:=tk }) (n:="range_iterator") st' rfl rfl (by decide) ⟨.int (lo+i*2),H,I1,⟨t,rfl⟩,⟨rfl,rfl⟩,st',fun b hb=>(hf b hb).1⟩⟩
 done:=by intro X hP hw hK hc i pins s σ H E I hf st hg;subst hP hw hK;obtain⟨f0,f1,f2,f3,f4,f5⟩:=hf it (by simp);exact wpAny_pyNext_range_end (I.ok.hd hc) st (by have:n<=i:=hg;lia) fun h' eb=>⟨rfl,I.turned (t':=s.toks) (fun b o hb e=>eb b o hb e) f0 f1 f3 f4 f5⟩
 self:=fun _ _ _ _ _ st h=>wpAny_pyIter_rangeiter st h
theorem zif{a b:Int}(ha:-(2 ^ 62)<=a)(ha':a<2 ^ 62)(hb:-(2 ^ 62)<=b)(hb':b<2 ^ 62):Builtin.Range.small a b 2=true:=by unfold Builtin.Range.small Builtin.Range.rangeSize;simp only[Builtin.Range.rangeFitsLong,Bool.and_eq_true,Bool.or_eq_true,decide_eq_true_eq,beq_iff_eq,show (2:Int) > 0 by decide,if_true];split <;> lia
section
variable {X:Cx}{tg:Expr}
theorem zin{pins:List (Addr × Obj)}{σ : St}{H:Hp}{s:Shared}{R:It -> Hp -> Prop}{E:Value -> Shared -> Prop}{lo hi:Int}{t u v:Tok}{tk:Nat}(I:Inv X pins σ H s)(h1 : -(2 ^ 62) <= lo)(h2:lo < 2 ^ 62)(h3 : -(2 ^ 62) <= hi)(h4:hi < 2 ^ 62)
  (q:R (Itr2 lo ((hi-lo+1) / 2).toNat) H):wpAny (model X.prog X.w) X.A (pyIter (.ref s.heap.objs.size)) (PIE X pins σ tg R) E { s with heap:=s.heap.push { cls:=.type "range",data:=.fields #[.int lo t,.int hi u,.int 2 v] },toks:=tk }:=by
 refine wpAny_pyIter_range (IsRange.new ..) (zif h1 h2 h3 h4) ?_
 have I1:Inv X pins σ H { s with heap:=s.heap.push { cls:=.type "range",data:=.fields #[.int lo t,.int hi u,.int 2 v] },toks:=tk }:=I.kept fun b o e=>Heap.get?_push_of_some _ e
 refine⟨(s.heap.push { cls:=.type "range",data:=.fields #[.int lo t,.int hi u,.int 2 v] }).objs.size,[(s.heap.push { cls:=.type "range",data:=.fields #[.int lo t,.int hi u,.int 2 v] }).objs.size],_,_,H,rfl,
  I1.kept (t':=tk) fun b o e=>Heap.get?_push_of_some _ e,zf7 _ lo ((hi-lo+1) / 2).toNat,?_,fun b hb=>?_,q⟩
 .have e1:lo+((0:Nat):Int)*2=lo:=by simp
  have e2:((((hi-lo+1) / 2).toNat:Nat):Int)-((0:Nat):Int)=Builtin.Range.rangeSize lo hi 2:=by unfold Builtin.Range.rangeSize;rw[if_pos (by decide)];split <;> lia
  show IsRangeIter _ _ (lo+((0:Nat):Int)*2) (((((hi-lo+1) / 2).toNat:Nat):Int)-((0:Nat):Int)) 2;rw[e1,e2];exact Heap.get?_push_size _ rfl
 .have e:b=(s.heap.push { cls:=.type "range",data:=.fields #[.int lo t,.int hi u,.int 2 v] }).objs.size:=by simpa using hb
  subst e;exact I1.fpOk (Nat.le_refl _) (I1.hok.fresh (Nat.le_refl _))
def iRng3(ta:TA):TI:=fun σ H R=>ta σ H fun vs H1=>∃i j:Int,vs=[.int i,.int j,.int 2]/\(-(2 ^ 62)<=i/\i<2 ^ 62/\-(2 ^ 62)<=j/\j<2 ^ 62)/\R (Itr2 i ((j-i+1) / 2).toNat) H1
theorem ziu {a b c:Expr}{ta:TA}{p pos:Pos}(hg:Gl X "range") (hm:X.mg "range" = none) (ha:PA X [a, b, c] ta) (hs:starEach [a, b, c] X.env = [(false, eval a X.env), (false, eval b X.env), (false, eval c X.env)] := by rfl) (hs2:starEach [b, c] X.env = [(false, eval b X.env), (false, eval c X.env)] := by rfl) :
  PI X tg (.Call (.Name "range" p) [a,b,c] [] pos) (iRng3 ta):=by
 intro pins s σ H R I h;refine Call_ (zcx I hg hm boot_range (PyProof.Rows.callWith_type1 (thn (ha pos pins s σ H _ I h) fun us s1 ⟨vs,H1,I1,r1,q1⟩=>?_) (by rw[hs,hs2]) (by rw[hs2];rfl)));obtain⟨i,j,e,⟨q1,q2,q3,q4⟩,q⟩:=q1;subst e
 cases r1 with
 |cons r rr =>
  cases rr with
  |cons r' rr =>
   cases rr with
   |cons r'' rr =>
    cases rr
    obtain⟨t,rfl⟩:=r;obtain⟨t',rfl⟩:=r';obtain⟨t'',rfl⟩:=r'';exact call_range_3 (by decide) (zin I1 q1 q2 q3 q4 q) (.inl (PyProof.noPylong_small (by decide)))
end
section
variable {prog:Program}{w:World}{A:Around}{E:Value->Shared->Prop}{s:Shared}{d it v:Addr}{i ep:Nat}{es:Array DictEntry}{od:Obj}{ok ov:Value}
end
section
variable {X:Cx}
end
end L2
namespace RP
def av(w:Nat):Int:=if w=0∨w=1 then 1 else 0
def bv(w:Nat):Int:=if w=1∨w=2 then 1 else 0
def eU(e:Edge):Int:=px e+py e+av e.w
def eV(e:Edge):Int:=py e-px e+bv e.w
def tt(C:Cell->Bool)(e:Edge):Int:=match stepB C e with
 |none=>1
 |some s=>if s % 2=1 then -1 else 0
def eK(w:Nat):Int:=(if w=1∨w=2 then 1 else 0)+(if w=2∨w=3 then 1 else 0)+av w
def eL(w:Nat):Int:=(if w=2∨w=3 then 1 else 0)-(if w=1∨w=2 then 1 else 0)+bv w
theorem e_tab:∀w<4,∀v<4,(eK w-eK v+(eL w-eL v)) % 2≠0∨w=v∨(eK w-eK v-(eL w-eL v)=2*(mv ((2*w+6) % 8)).1/\eK w-eK v+(eL w-eL v)=2*(mv ((2*w+6) % 8)).2):=by decide
theorem eU_of(e:Edge):eU e=e.c.1+e.c.2+eK e.w:=by unfold eU px py eK;lia
theorem eV_of(e:Edge):eV e=e.c.2-e.c.1+eL e.w:=by unfold eV px py eL;lia
theorem e_inj{C:Cell->Bool}{e f:Edge}(he:IsE C e)(hf:IsE C f)(h1:eU e=eU f)(h2:eV e=eV f):e=f:=by
 rw[eU_of,eU_of]at h1;rw[eV_of,eV_of]at h2;have t:=e_tab e.w he.1 f.w hf.1;obtain⟨⟨x,y⟩,w⟩:=e;obtain⟨⟨x',y'⟩,w'⟩:=f;simp only at h1 h2 t;rcases t with z |z |⟨z1,z2⟩
 .exfalso;lia
 .subst z;have a:x=x':=by lia
  have b:y=y':=by lia
  rw[a,b]
 .have g:=he.2.2;have a:x'=x+(mv ((2*w+6) % 8)).1:=by lia
  have b:y'=y+(mv ((2*w+6) % 8)).2:=by lia
  have c:=hf.2.1;rw[a,b]at c;exact absurd (c.symm.trans g) (by decide)
theorem zcy{C:Cell->Bool}{e:Edge}(h:IsE C e):eU (nxt C e)=eU e+(av e.w+av (nxt C e).w-1)/\eV (nxt C e)=eV e+(bv e.w+bv (nxt C e).w-1):=by obtain⟨p,q⟩:=zfs h;unfold eU eV;rw[p,q];have hw:=h.1;generalize (nxt C e).w=w';rcases way4 hw with r |r |r |r <;> rw[r] <;> simp[av,bv,dx,dy] <;> lia
theorem zey{C:Cell -> Bool}{e:Edge}(h:IsE C e) :
  (tt C e=-1/\(nxt C e).w=(e.w+3) % 4)∨(tt C e=0/\(nxt C e).w=e.w)∨(tt C e=1/\(nxt C e).w=(e.w+1) % 4):=by
 unfold tt;rcases zaY h with⟨_,s,q⟩ |⟨_,_,s,q⟩ |⟨_,_,s,q⟩ <;> rw[q,s] <;> simp only
 .left;rw[if_pos (odd7 _)];exact⟨by decide,trivial⟩
 .right;left;rw[if_neg (by lia)];exact⟨by decide,trivial⟩
 .right;right;exact⟨by decide,trivial⟩
theorem c_at{C:Cell->Bool}{a b c d:Int}{v:Bool}(h:C (a,b)=v)(h1:c=a)(h2:d=b):C (c,d)=v:=by subst h1 h2;exact h
theorem zef{C:Cell -> Bool}{e:Edge}(h:IsE C e)(ht:tt C e=0) :
  C (px e+dx e.w-1,py e+dy e.w-1)=decide (e.w=1∨e.w=2)/\C (px e+dx e.w,py e+dy e.w-1)=decide (e.w=2∨e.w=3):=by
 obtain⟨⟨x,y⟩,w⟩:=e;obtain⟨hw,hc,hg⟩:=id h;rcases zaY h with⟨_,s,q⟩ |⟨k1,k2,s,q⟩ |⟨_,_,s,q⟩
 .exfalso;unfold tt at ht;rw[s]at ht;simp only at ht;rw[if_pos (odd7 _)]at ht;exact absurd ht (by decide)
 .simp only at hw hc k1 k2
  rcases way4 hw with rfl |rfl |rfl |rfl <;> simp only[gap,go,mv,px,py,dx,dy]at hg k1 k2 ⊢ <;> simp at hg k1 k2 hc ⊢ <;>
   refine⟨?_,?_⟩ <;> first |exact c_at hg (by lia) (by lia) |exact c_at hc (by lia) (by lia) |exact c_at k1 (by lia) (by lia) |exact c_at k2 (by lia) (by lia)
 .exfalso;unfold tt at ht;rw[s]at ht;exact absurd ht (by decide)
theorem zdy(w:Nat):av w=0∨av w=1:=by unfold av;split <;> simp
theorem zhp(w:Nat):bv w=0∨bv w=1:=by unfold bv;split <;> simp
theorem ze5:∀w<4,∀n,n=(w+3) % 4∨n=(w+1) % 4->(av w=av n/\bv w+bv n=1)∨(av w+av n=1/\bv w=bv n):=by intro w hw n hn;rcases hn with rfl |rfl <;> revert w <;> decide
theorem dx_av:∀w<4,dx w=av w-bv w/\dy w=av w+bv w-1:=by decide
theorem zkP{C:Cell->Bool}{e f:Edge}(he:IsE C e)(hf:IsE C f)(h1:eU e+eU (nxt C e)=eU f+eU (nxt C f))(h2:eV e+eV (nxt C e)=eV f+eV (nxt C f)):e=f:=by
 obtain⟨a1,a2⟩:=zcy he;obtain⟨b1,b2⟩:=zcy hf
 have key:e=f∨(tt C e=0/\tt C f=0/\px e+dx e.w=px f+dx f.w/\py e+dy e.w=py f+dy f.w)∨(eU e=eU (nxt C f)/\eV e=eV (nxt C f)/\e.w≠(nxt C f).w):=by
  rw[a1,b1]at h1;rw[a2,b2]at h2
  have ta:(tt C e=0/\(nxt C e).w=e.w)∨(av e.w=av (nxt C e).w/\bv e.w+bv (nxt C e).w=1)∨(av e.w+av (nxt C e).w=1/\bv e.w=bv (nxt C e).w):=by
   rcases zey he with⟨_,n⟩ |q |⟨_,n⟩
   .exact .inr (ze5 _ he.1 _ (.inl n))
   .exact .inl q
   .exact .inr (ze5 _ he.1 _ (.inr n))
  have tb:(tt C f=0/\(nxt C f).w=f.w)∨(av f.w=av (nxt C f).w/\bv f.w+bv (nxt C f).w=1)∨(av f.w+av (nxt C f).w=1/\bv f.w=bv (nxt C f).w):=by
   rcases zey hf with⟨_,n⟩ |q |⟨_,n⟩
   .exact .inr (ze5 _ hf.1 _ (.inl n))
   .exact .inl q
   .exact .inr (ze5 _ hf.1 _ (.inr n))
  have fin:eU e=eU f->eV e=eV f->e=f:=fun q1 q2=>e_inj he hf q1 q2
  have dif:∀{g:Nat->Int},g e.w≠g (nxt C f).w->e.w≠(nxt C f).w:=fun {g} q z=>q (by rw[z])
  rw[b1,b2];rcases ta with⟨t1,n1⟩ |⟨p1,p2⟩ |⟨p1,p2⟩ <;> rcases tb with⟨t2,n2⟩ |⟨q1,q2⟩ |⟨q1,q2⟩
  .rw[n1,n2]at h1 h2;have u1:eU e=px e+py e+av e.w:=rfl;have u2:eV e=py e-px e+bv e.w:=rfl;have v1:eU f=px f+py f+av f.w:=rfl;have v2:eV f=py f-px f+bv f.w:=rfl;obtain⟨d1,d2⟩:=dx_av _ he.1;obtain⟨d3,d4⟩:=dx_av _ hf.1;exact .inr (.inl ⟨t1,t2,by lia,by lia⟩)
  .rw[n1]at h1 h2;exfalso;lia
  .rw[n1]at h1 h2;exfalso;lia
  .rw[n2]at h1 h2;exfalso;lia
  .rcases Classical.em (av e.w=av f.w) with z |z
   .exact .inl (fin (by lia) (by lia))
   .have c1:=zdy e.w;have c2:=zdy f.w;exact .inr (.inr ⟨by lia,by lia,dif (g:=av) (by lia)⟩)
  .exfalso;lia
  .rw[n2]at h1 h2;exfalso;lia
  .exfalso;lia
  .rcases Classical.em (bv e.w=bv f.w) with z |z
   .exact .inl (fin (by lia) (by lia))
   .have c1:=zhp e.w;have c2:=zhp f.w;exact .inr (.inr ⟨by lia,by lia,dif (g:=bv) (by lia)⟩)
 rcases key with h |⟨t1,t2,q1,q2⟩ |⟨q1,q2,q3⟩
 .exact h
 .obtain⟨c1,c2⟩:=zef he t1;obtain⟨d1,d2⟩:=zef hf t2;rw[q1,q2]at c1 c2;rw[c1]at d1;rw[c2]at d2;have d1':=decide_eq_decide.mp d1;have d2':=decide_eq_decide.mp d2;have hw:=he.1;have hw':=hf.1;have ww:e.w=f.w:=by lia
  rw[ww]at q1 q2;refine e_inj he hf ?_ ?_ <;> simp only[eU,eV] <;> rw[ww] <;> lia
 .exact absurd (congrArg Edge.w (e_inj he (zdm hf) q1 q2)) q3
def cr(x1 y1 x2 y2:Int):Int:=if y1=-1/\y2=0/\0<x2 then 1 else if y1=0/\y2=-1/\0<x1 then -1 else 0
def crT(t y1 y2:Int):Int:=if y1=-1/\y2=0 then t else if y1=0/\y2=-1 then -t else 0
theorem zdw(t y:Int):crT t y y=0:=by unfold crT;rw[if_neg (by lia),if_neg (by lia)]
theorem zhm(t y z:Int):crT t y z+crT t z y=0:=by
 unfold crT
 by_cases h:y=-1/\z=0
 .rw[if_pos h,if_neg (by lia),if_pos ⟨h.2,h.1⟩];lia
 .by_cases k:y=0/\z=-1
  .rw[if_neg h,if_pos k,if_pos ⟨k.2,k.1⟩];lia
  .rw[if_neg h,if_neg k,if_neg (by lia),if_neg (by lia)];rfl
theorem cr_T{t x1 y1 x2 y2:Int}(h1:y1=0->(0<x1/\t=1)∨(¬ 0<x1/\t=0))(h2:y2=0->(0<x2/\t=1)∨(¬ 0<x2/\t=0)):cr x1 y1 x2 y2=crT t y1 y2:=by
 unfold cr crT
 by_cases h:y1=-1/\y2=0
 .rcases h2 h.2 with⟨q,r⟩ |⟨q,r⟩
  .rw[if_pos ⟨h.1,h.2,q⟩,if_pos h,r]
  .rw[if_neg (by lia),if_neg (by lia),if_pos h,r]
 .rw[if_neg (fun z=>h ⟨z.1,z.2.1⟩),if_neg h]
  by_cases k:y1=0/\y2=-1
  .rcases h1 k.1 with⟨q,r⟩ |⟨q,r⟩
   .rw[if_pos ⟨k.1,k.2,q⟩,if_pos k,r]
   .rw[if_neg (by lia),if_pos k,r];rfl
  .rw[if_neg (fun z=>k ⟨z.1,z.2.1⟩),if_neg k]
theorem cr_sq(u v a1 a2 b1 b2:Int)(ha1 : -1 <= a1 /\ a1 <= 1)(ha2 : -1 <= a2 /\ a2 <= 1)(hb1 : -1 <= b1 /\ b1 <= 1)(hb2 : -1 <= b2 /\ b2 <= 1)
  (h00:¬(u=0/\v=0)) (h10:¬(u+a1=0/\v+a2=0)) (h01:¬(u+b1=0/\v+b2=0)) (h11:¬(u+a1+b1=0/\v+a2+b2=0))
  (hc:¬(2*u+a1+b1=0/\2*v+a2+b2=0)) :
  cr u v (u+a1) (v+a2)+cr (u+a1) (v+a2) (u+a1+b1) (v+a2+b2)=cr u v (u+b1) (v+b2)+cr (u+b1) (v+b2) (u+a1+b1) (v+a2+b2):=by
 obtain⟨t,k00,k10,k01,k11⟩:∃t:Int,(v=0->(0<u/\t=1)∨(¬ 0<u/\t=0))/\(v+a2=0->(0<u+a1/\t=1)∨(¬ 0<u+a1/\t=0))/\(v+b2=0->(0<u+b1/\t=1)∨(¬ 0<u+b1/\t=0))/\(v+a2+b2=0->(0<u+a1+b1/\t=1)∨(¬ 0<u+a1+b1/\t=0)):=by
  rcases Classical.em ((v=0/\0<u)∨(v+a2=0/\0<u+a1)∨(v+b2=0/\0<u+b1)∨(v+a2+b2=0/\0<u+a1+b1)) with z |z
  .exact⟨1,fun h=>.inl ⟨by lia,rfl⟩,fun h=>.inl ⟨by lia,rfl⟩,fun h=>.inl ⟨by lia,rfl⟩,fun h=>.inl ⟨by lia,rfl⟩⟩
  .exact⟨0,fun h=>.inr ⟨by lia,rfl⟩,fun h=>.inr ⟨by lia,rfl⟩,fun h=>.inr ⟨by lia,rfl⟩,fun h=>.inr ⟨by lia,rfl⟩⟩
 rw[cr_T k00 k10,cr_T k10 k11,cr_T k00 k01,cr_T k01 k11];have c:a2=b2∨a2=0∨b2=0∨a2=-b2:=by lia
 rcases c with rfl |rfl |rfl |rfl
 .rfl
 .rw[Int.add_zero,zdw,zdw];lia
 .rw[Int.add_zero,Int.add_zero,zdw,zdw];lia
 .rw[show v+-b2+b2=v by lia,zhm,zhm]
section
variable (U V:Nat->Int)
def hH(i j:Nat):Int:=cr (U j-U i) (V j-V i) (U (j+1)-U i) (V (j+1)-V i)
def gG(i j:Nat):Int:=cr (U j-U i) (V j-V i) (U j-U (i+1)) (V j-V (i+1))
def sE:Nat->Int
 | 0=>0
 |i+1=>sE i+hH U V i (i+1)+gG U V i (i+2)
def sF(i:Nat):Nat->Int
 | 0=>sE U V i
 |d+1=>sF i d+hH U V i (i+1+d)
variable {U V}
variable {n:Nat}
theorem zgg(su:∀k, -1 <= U (k + 1)-U k /\ U (k + 1)-U k <= 1)(sv:∀k, -1 <= V (k + 1)-V k /\ V (k + 1)-V k <= 1)
  (hd:∀i j,i<j->j<=n->¬(i=0/\j=n)->¬(U j-U i=0/\V j-V i=0))
  (hm:∀i j,i<j->j<n->¬(U i+U (i+1)=U j+U (j+1)/\V i+V (i+1)=V j+V (j+1))) :
  ∀d i,i+2+d<=n->¬(i=0/\i+2+d=n)->sF U V (i+1) d-sF U V i (d+1)=gG U V i (i+2+d)
 | 0,i,h,hx=>by
  show sE U V (i+1)-(sE U V i+hH U V i (i+1+0))=_;show sE U V i+hH U V i (i+1)+gG U V i (i+2)-(sE U V i+hH U V i (i+1))=gG U V i (i+2);lia
 |d+1,i,h,hx=>by
  have ih:=zgg su sv hd hm d i (by lia) (by lia);show sF U V (i+1) d+hH U V (i+1) (i+1+1+d)-(sF U V i (d+1)+hH U V i (i+1+(d+1)))=gG U V i (i+2+(d+1));have j1:i+1+1+d=i+2+d:=by lia
  have j2:i+1+(d+1)=i+2+d:=by lia
  have j3:i+2+(d+1)=(i+2+d)+1:=by lia
  rw[j1,j2,j3];generalize hj:i+2+d=j at *
  have q:=cr_sq (U j-U i) (V j-V i) (-(U (i+1)-U i)) (-(V (i+1)-V i)) (U (j+1)-U j) (V (j+1)-V j)
   (by have:=su i;lia) (by have:=sv i;lia) (su j) (sv j)
   (hd i j (by lia) (by lia) (by lia))
   (by have:=hd (i+1) j (by lia) (by lia) (by lia);lia)
   (by have:=hd i (j+1) (by lia) (by lia) (by lia);lia)
   (by have:=hd (i+1) (j+1) (by lia) (by lia) (by lia);lia)
   (by have:=hm i j (by lia) (by lia);lia)
  have e1:U j-U i+-(U (i+1)-U i)=U j-U (i+1):=by lia
  have e2:V j-V i+-(V (i+1)-V i)=V j-V (i+1):=by lia
  have e3:U j-U i+(U (j+1)-U j)=U (j+1)-U i:=by lia
  have e4:V j-V i+(V (j+1)-V j)=V (j+1)-V i:=by lia
  have e5:U j-U (i+1)+(U (j+1)-U j)=U (j+1)-U (i+1):=by lia
  have e6:V j-V (i+1)+(V (j+1)-V j)=V (j+1)-V (i+1):=by lia
  rw[e1,e2,e3,e4,e5,e6]at q;have q':gG U V i j+hH U V (i+1) j=hH U V i j+gG U V i (j+1):=q;lia
theorem cr_up{a b c d:Int}(h1:0<=b)(h2:0<=d):cr a b c d=0:=by unfold cr;rw[if_neg (by lia),if_neg (by lia)]
theorem cr_dn{a b c d:Int}(h1:b=0->a<=0)(h2:d=0->c<=0):cr a b c d=0:=by unfold cr;rw[if_neg (by lia),if_neg (by lia)]
theorem zll(hn : 3 <= n)(su:∀k, -1 <= U (k + 1)-U k /\ U (k + 1)-U k <= 1)(sv:∀k, -1 <= V (k + 1)-V k /\ V (k + 1)-V k <= 1)
  (hd:∀i j,i<j->j<=n->¬(i=0/\j=n)->¬(U j-U i=0/\V j-V i=0))
  (hm:∀i j,i<j->j<n->¬(U i+U (i+1)=U j+U (j+1)/\V i+V (i+1)=V j+V (j+1)))
  (hU:U n=U 0) (hV:V n=V 0) (mV:∀k,k<n->V 0<=V k) (mU:∀k,k<n->V k=V 0->U 0<=U k) :
  sE U V (n-1)=gG U V 0 (n-1)+hH U V 1 (n-1):=by
 have r0:∀d,d+2<=n->sF U V 0 d=0:=by
  intro d
  induction d with
  |zero=>intro _;rfl
  |succ d ih =>
   intro h;show sF U V 0 d+hH U V 0 (0+1+d)=0;rw[ih (by lia)];have:=mV (0+1+d) (by lia);have:=mV (0+1+d+1) (by lia);unfold hH;rw[cr_up (by lia) (by lia)];rfl
 have s1:=zgg su sv hd hm (n-3) 0 (by lia) (by lia);rw[show n-3+1=n-2 by lia,r0 (n-2) (by lia),show 0+2+(n-3)=n-1 by lia]at s1
 have s2:sF U V 1 (n-2)=sF U V 1 (n-3)+hH U V 1 (n-1):=by have:sF U V 1 (n-3+1)=sF U V 1 (n-3)+hH U V 1 (1+1+(n-3)):=rfl;rw[show n-3+1=n-2 by lia,show 1+1+(n-3)=n-1 by lia]at this;exact this
 have r1:∀k,1+k<=n-1->sF U V (1+k) (n-2-k)=sF U V 1 (n-2):=by
  intro k
  induction k with
  |zero=>intro _;rfl
  |succ k ih =>
   intro h;have s:=zgg su sv hd hm (n-3-k) (1+k) (by lia) (by lia);rw[show n-3-k+1=n-2-k by lia,show 1+k+2+(n-3-k)=n by lia,ih (by lia)]at s
   have z:gG U V (1+k) n=0:=by unfold gG;have a1:=mV (1+k) (by lia);have a2:=mU (1+k) (by lia);have b1:=mV (1+k+1) (by lia);have b2:=mU (1+k+1) (by lia);exact cr_dn (by lia) (by lia)
   rw[z]at s;rw[show 1+(k+1)=1+k+1 by lia,show n-2-(k+1)=n-3-k by lia];lia
 have e:=r1 (n-2) (by lia);rw[show 1+(n-2)=n-1 by lia,show n-2-(n-2)=0 by lia]at e;show sF U V (n-1) 0=_;rw[e];have:(0:Nat)+1=1:=rfl;rw[this]at s1;lia
end
def crs(x1 y1 x2 y2:Int):Int:=cr x1 y1 (x1+x2) (y1+y2)+cr (x1+x2) (y1+y2) x2 y2
def ok8(w i j:Nat):Bool :=
 let w1:=(w+i+3) % 4
 let w2:=(w1+j+3) % 4
 let t:Int:=(i:Int)-1
 let t':Int:=(j:Int)-1
 crs (av w+av w1-1) (bv w+bv w1-1) (av w1+av w2-1) (bv w1+bv w2-1) == (2*((w:Int)+t)-1+t') / 8-(2*(w:Int)-1+t) / 8 &&
 crs (-(av w+av w1-1)) (-(bv w+bv w1-1)) (-(av w1+av w2-1)) (-(bv w1+bv w2-1)) == (2*((w:Int)+t)-1+t'+4) / 8-(2*(w:Int)-1+t+4) / 8
theorem all8:∀w<4,∀i<3,∀j<3,ok8 w i j=true:=by decide
def it(C:Cell->Bool)(b:Edge):Nat->Edge
 | 0=>b
 |k+1=>nxt C (it C b k)
theorem Chain.get{C:Cell->Bool}{b:Edge}{es:List Edge}(h:Chain C b es):∀i,i<es.length->es[i]?=some (it C b i)
 | 0,_=>h.1
 |i+1,hi=>by
  have h1:=Chain.get h i (by lia);have:=h.2.1 i _ _ h1 (List.getElem?_eq_getElem hi);rw[List.getElem?_eq_getElem hi,this];rfl
theorem Closed.pos{C:Cell->Bool}{b:Edge}{es:List Edge}(h:Closed C b es):0<es.length:=(List.getElem?_eq_some_iff.mp h.1.1).1
theorem Closed.it_len{C:Cell->Bool}{b:Edge}{es:List Edge}(h:Closed C b es):it C b es.length=b:=by
 obtain⟨hc,l,hl,hb⟩:=id h;have hp:=h.pos;have:=hc.get (es.length-1) (by lia);rw[hl]at this
 cases this
 have e:it C b (es.length-1+1)=nxt C (it C b (es.length-1)):=rfl;rw[show es.length-1+1=es.length by lia]at e;rw[e,hb]
theorem it_ok{C:Cell->Bool}{b:Edge}(h:IsE C b):∀k,IsE C (it C b k)
 | 0=>h
 |k+1=>zdm (it_ok h k)
def wW(C:Cell->Bool)(b:Edge):Nat->Int
 | 0=>b.w
 |k+1=>wW C b k+tt C (it C b k)
theorem tt_ix{C:Cell->Bool}{e:Edge}(h:IsE C e):∃i:Nat,i<3/\tt C e=(i:Int)-1/\(nxt C e).w=(e.w+i+3) % 4:=by
 have hw:=h.1;rcases zey h with⟨a,b⟩ |⟨a,b⟩ |⟨a,b⟩
 .exact⟨0,by decide,by rw[a];rfl,by rw[b]⟩
 .exact⟨1,by decide,by rw[a];rfl,by rw[b];lia⟩
 .exact⟨2,by decide,by rw[a];rfl,by rw[b];lia⟩
theorem zfe{C:Cell->Bool}{b:Edge}(h:IsE C b):∀k,wW C b k % 4=((it C b k).w:Int)
 | 0=>by have:=h.1;show (b.w:Int) % 4=b.w;lia
 |k+1=>by
  have ih:=zfe h k;obtain⟨i,hi,e1,e2⟩:=tt_ix (it_ok h k);show (wW C b k+tt C (it C b k)) % 4=((nxt C (it C b k)).w:Int);rw[e1,e2];lia
def th(C:Cell->Bool)(b:Edge)(k:Nat):Int:=2*wW C b k-1+tt C (it C b k)
def up8(w i:Nat):Bool :=
 let w1:=(w+i+3) % 4
 decide (0<bv w+bv w1-1∨(bv w+bv w1-1=0/\0<=av w+av w1-1)) == decide ((2*(w:Int)-1+((i:Int)-1)) % 8<4) &&
 decide (bv w+bv w1-1<0∨(bv w+bv w1-1=0/\av w+av w1-1<=0)) == decide (4<=(2*(w:Int)-1+((i:Int)-1)) % 8) &&
 !(decide (av w+av w1-1=0/\bv w+bv w1-1=0))
theorem zlX:∀w<4,∀i<3,up8 w i=true:=by decide
theorem half{C:Cell -> Bool}{b:Edge}(h:IsE C b)(k:Nat) :
  ((0<eV (it C b (k+1))-eV (it C b k)∨(eV (it C b (k+1))-eV (it C b k)=0/\0<=eU (it C b (k+1))-eU (it C b k))) ↔ th C b k % 8<4) /\
  ((eV (it C b (k+1))-eV (it C b k)<0∨(eV (it C b (k+1))-eV (it C b k)=0/\eU (it C b (k+1))-eU (it C b k)<=0)) ↔ 4<=th C b k % 8) /\
  ¬ (eU (it C b (k+1))-eU (it C b k)=0/\eV (it C b (k+1))-eV (it C b k)=0):=by
 obtain⟨i,hi,e1,e2⟩:=tt_ix (it_ok h k);obtain⟨s1,s2⟩:=zcy (it_ok h k);have q:=zlX _ (it_ok h k).1 i hi;have m:=zfe h k;simp only[up8,Bool.and_eq_true,beq_iff_eq,decide_eq_decide,Bool.not_eq_true',decide_eq_false_iff_not]at q;rw[<- e2]at q;obtain⟨⟨q1,q2⟩,q3⟩:=q;have t:th C b k % 8=(2*((it C b k).w:Int)-1+((i:Int)-1)) % 8:=by unfold th;rw[e1];lia
 rw[t];have d1:eU (it C b (k+1))-eU (it C b k)=av (it C b k).w+av (nxt C (it C b k)).w-1:=by show eU (nxt C (it C b k))-_=_;lia
 have d2:eV (it C b (k+1))-eV (it C b k)=bv (it C b k).w+bv (nxt C (it C b k)).w-1:=by show eV (nxt C (it C b k))-_=_;lia
 rw[d1,d2];exact⟨q1,q2,q3⟩
theorem sub0{a b:Int}(h:b-a=0):a=b:=by lia
theorem zgF{a b c:Int}(h:a=b+c):a-b=c:=by lia
theorem turn8{C:Cell -> Bool}{b:Edge}(h:IsE C b)(k:Nat) :
  crs (eU (it C b (k+1))-eU (it C b k)) (eV (it C b (k+1))-eV (it C b k)) (eU (it C b (k+2))-eU (it C b (k+1))) (eV (it C b (k+2))-eV (it C b (k+1)))=th C b (k+1) / 8-th C b k / 8 /\
  crs (-(eU (it C b (k+1))-eU (it C b k))) (-(eV (it C b (k+1))-eV (it C b k))) (-(eU (it C b (k+2))-eU (it C b (k+1)))) (-(eV (it C b (k+2))-eV (it C b (k+1))))=(th C b (k+1)+4) / 8-(th C b k+4) / 8:=by
 obtain⟨i,hi,e1,e2⟩:=tt_ix (it_ok h k);obtain⟨j,hj,f1,f2⟩:=tt_ix (it_ok h (k+1));obtain⟨s1,s2⟩:=zcy (it_ok h k);obtain⟨s3,s4⟩:=zcy (it_ok h (k+1));have m:=zfe h k;have q:=all8 _ (it_ok h k).1 i hi j hj;simp only[ok8,Bool.and_eq_true,beq_iff_eq]at q;have w1:(it C b (k+1)).w=((it C b k).w+i+3) % 4:=e2;rw[<- w1,<- f2]at q;have wn:wW C b (k+1)=wW C b k+((i:Int)-1):=by show wW C b k+tt C (it C b k)=_;rw[e1]
 have t0:th C b k=2*wW C b k-1+((i:Int)-1):=by unfold th;rw[e1]
 have t1:th C b (k+1)=2*(wW C b k+((i:Int)-1))-1+((j:Int)-1):=by unfold th;rw[f1,wn]
 have d1:eU (it C b (k+1))-eU (it C b k)=av (it C b k).w+av (it C b (k+1)).w-1:=zgF s1;have d2:eV (it C b (k+1))-eV (it C b k)=bv (it C b k).w+bv (it C b (k+1)).w-1:=zgF s2;have d3:eU (it C b (k+2))-eU (it C b (k+1))=av (it C b (k+1)).w+av (nxt C (it C b (k+1))).w-1:=zgF s3;have d4:eV (it C b (k+2))-eV (it C b (k+1))=bv (it C b (k+1)).w+bv (nxt C (it C b (k+1))).w-1:=zgF s4;rw[d1,d2,d3,d4,t0,t1,q.1,q.2];clear q d1 d2 d3 d4 s1 s2 s3 s4 t0 t1 wn w1 f1 f2 e1 e2;generalize wW C b k=W at *;generalize (it C b k).w=w at *;constructor <;> lia
theorem zlD:∀w<4,∀i<3,¬ (av w+av ((w+i+3) % 4)=1/\bv w+bv ((w+i+3) % 4)=1):=by decide
theorem zjs{T0 Tm Tn D s:Int}(key:Tm / 8-T0 / 8=(Tn+4) / 8-(Tm+4) / 8)(u0:T0 % 8<4)(um:4<=Tm % 8)(hD:D % 4=0)(hn:Tn=T0+2*D)(hm:Tm=Tn-s)(s1:-2<=s)(s2:s<=2):(D=4/\0<s)∨(D=-4/\s<0):=by
 obtain⟨d,rfl⟩:∃d,D=4*d:=⟨D / 4,by lia⟩;have h1:(Tn+4) / 8=T0 / 8+d:=by lia
 have h2:(Tm+4) / 8=Tm / 8+1:=by lia
 rw[h1,h2]at key;have a1:T0=8*(T0 / 8)+T0 % 8:=by lia
 have a2:Tm=8*(Tm / 8)+Tm % 8:=by lia
 have a3:0<=T0 % 8:=by lia
 have a4:Tm % 8<8:=by lia
 generalize T0 / 8=a at *;generalize Tm / 8=c at *;generalize T0 % 8=r at *;generalize Tm % 8=p at *;clear h1 h2 hD;have:c-a-d=-1∨c-a-d=0:=by lia
 rcases this with z |z
 .exact .inl ⟨by lia,by lia⟩
 .exact .inr ⟨by lia,by lia⟩
theorem Closed.least_sign{C:Cell -> Bool}{b:Edge}{es:List Edge}(h:Closed C b es)
  (hmin:∀f∈es,eV b<=eV f/\(eV f=eV b->eU b<=eU f)):(wW C b es.length-wW C b 0=4/\0<tt C (it C b (es.length-1))+tt C b)∨(wW C b es.length-wW C b 0=-4/\tt C (it C b (es.length-1))+tt C b<0):=by
 have hp:=h.pos;have hE:IsE C b:=h.1.2.2.1 b (List.mem_of_getElem? h.1.1);have hl:=h.it_len;have get:=h.1.get;have nd:=h.1.2.2.2;generalize hn:es.length=n at *;have mem:∀k,k<n->it C b k∈es:=fun k hk=>List.mem_of_getElem? (get k hk)
 have inj:∀i j,i<j->j<n->it C b i≠it C b j:=fun i j hij hj e=>by have:=(List.getElem?_inj (i:=i) (j:=j) (by lia) nd).mp (by rw[get i (by lia),get j hj,e]);lia
 have n3:3<=n:=by
  have h0:=half hE 0;have h1:=half hE 1;have l1:=zfe hE 1;rcases Nat.lt_or_ge n 3 with hlt |hge
  .exfalso;have:n=1∨n=2:=by lia
   rcases this with e |e
   .rw[e]at hl;have z:=h0.2.2;rw[show 0+1=1 from rfl,hl]at z;exact z ⟨by show eU b-eU b=0;lia,by show eV b-eV b=0;lia⟩
   .rw[e]at hl;have a:=(tt_ix (it_ok hE 0));have c:=(tt_ix (it_ok hE 1));obtain⟨s1,s2⟩:=zcy (it_ok hE 0);obtain⟨s3,s4⟩:=zcy (it_ok hE 1);change it C b (1+1)=b at hl;have hl':nxt C (it C b 1)=b:=hl;rw[hl']at s3 s4;have i0:it C b 0=b:=rfl;have i1:nxt C (it C b 0)=it C b 1:=rfl;obtain⟨i,hi,_,e2⟩:=a;rw[i1,i0]at s1 s2 e2;have hw:=hE.1;have hw1:=(it_ok hE 1).1;have x1:av b.w+av (it C b 1).w=1:=by lia
    have x2:bv b.w+bv (it C b 1).w=1:=by lia
    rw[e2]at x1 x2;exact zlD _ hw _ hi ⟨x1,x2⟩
  .exact hge
 have key:=zll (U:=fun k=>eU (it C b k)) (V:=fun k=>eV (it C b k)) n3
  (fun k=>by obtain⟨s1,_⟩:=zcy (it_ok hE k);show -1<=eU (nxt C (it C b k))-eU (it C b k)/\eU (nxt C (it C b k))-eU (it C b k)<=1;have a:=zdy (it C b k).w;have c:=zdy (nxt C (it C b k)).w;lia)
  (fun k=>by
   obtain⟨_,s1⟩:=zcy (it_ok hE k);show -1<=eV (nxt C (it C b k))-eV (it C b k)/\eV (nxt C (it C b k))-eV (it C b k)<=1;have a:bv (it C b k).w=0∨bv (it C b k).w=1:=by unfold bv;split <;> simp
   have c:bv (nxt C (it C b k)).w=0∨bv (nxt C (it C b k)).w=1:=by unfold bv;split <;> simp
   lia)
  (fun i j hij hj hx z=>by
   have e:=e_inj (it_ok hE i) (it_ok hE j) (sub0 z.1) (sub0 z.2);rcases Nat.lt_or_ge j n with hlt |hge
   .exact inj i j hij hlt e
   .have:j=n:=by lia
    rw[this,hl]at e;exact inj 0 i (by lia) (by lia) e.symm)
  (fun i j hij hj z=>inj i j hij hj (zkP (it_ok hE i) (it_ok hE j) z.1 z.2))
  (by show eU (it C b n)=eU b;rw[hl]) (by show eV (it C b n)=eV b;rw[hl])
  (fun k hk=>(hmin _ (mem k hk)).1) (fun k hk=>(hmin _ (mem k hk)).2)
 have sE_th:∀k,sE (fun k=>eU (it C b k)) (fun k=>eV (it C b k)) k=th C b k / 8-th C b 0 / 8:=by
  intro k
  induction k with
  |zero=>show (0:Int)=_;lia
  |succ k ih =>
   have q:=(turn8 hE k).1;unfold crs at q;have e1:eU (it C b (k+1))-eU (it C b k)+(eU (it C b (k+2))-eU (it C b (k+1)))=eU (it C b (k+2))-eU (it C b k):=by lia
   have e2:eV (it C b (k+1))-eV (it C b k)+(eV (it C b (k+2))-eV (it C b (k+1)))=eV (it C b (k+2))-eV (it C b k):=by lia
   rw[e1,e2]at q;show sE (fun k=>eU (it C b k)) (fun k=>eV (it C b k)) k+hH (fun k=>eU (it C b k)) (fun k=>eV (it C b k)) k (k+1)+gG (fun k=>eU (it C b k)) (fun k=>eV (it C b k)) k (k+2)=_;rw[ih];unfold hH gG;show th C b k / 8-th C b 0 / 8+cr (eU (it C b (k+1))-eU (it C b k)) (eV (it C b (k+1))-eV (it C b k)) (eU (it C b (k+2))-eU (it C b k)) (eV (it C b (k+2))-eV (it C b k))+cr (eU (it C b (k+2))-eU (it C b k)) (eV (it C b (k+2))-eV (it C b k)) (eU (it C b (k+2))-eU (it C b (k+1))) (eV (it C b (k+2))-eV (it C b (k+1)))=_;lia
 obtain⟨m,rfl⟩:∃m,n=m+1:=⟨n-1,by lia⟩;rw[show m+1-1=m by lia,sE_th]at key;have i2:it C b (m+2)=it C b 1:=by show nxt C (it C b (m+1))=nxt C b;rw[hl]
 have q:=(turn8 hE m).2;rw[i2,hl]at q;unfold crs at q;unfold gG hH at key;simp only at key;rw[hl]at key;have z0:it C b 0=b:=rfl;rw[show 0+1=1 from rfl,z0]at key;have e1:-(eU b-eU (it C b m))+-(eU (it C b 1)-eU b)=eU (it C b m)-eU (it C b 1):=by lia
 have e2:-(eV b-eV (it C b m))+-(eV (it C b 1)-eV b)=eV (it C b m)-eV (it C b 1):=by lia
 have e3:-(eU b-eU (it C b m))=eU (it C b m)-eU b:=by lia
 have e4:-(eV b-eV (it C b m))=eV (it C b m)-eV b:=by lia
 have e5:-(eU (it C b 1)-eU b)=eU b-eU (it C b 1):=by lia
 have e6:-(eV (it C b 1)-eV b)=eV b-eV (it C b 1):=by lia
 rw[e1,e2,e3,e4,e5,e6]at q;rw[q]at key
 have u0:th C b 0 % 8<4:=by
  refine (half hE 0).1.mp ?_
  obtain⟨a,c⟩:=hmin _ (mem 1 (by lia));rw[z0];show 0<eV (it C b 1)-eV b∨(eV (it C b 1)-eV b=0/\0<=eU (it C b 1)-eU b);lia
 have um:4<=th C b m % 8:=by
  refine (half hE m).2.1.mp ?_
  obtain⟨a,c⟩:=hmin _ (mem m (by lia));rw[hl];lia
 have md:=zfe hE (m+1);rw[hl]at md;have w0:wW C b 0=(b.w:Int):=rfl;have wn:wW C b (m+1)=wW C b m+tt C (it C b m):=rfl;have t0:th C b 0=2*wW C b 0-1+tt C b:=rfl;have tm:th C b m=2*wW C b m-1+tt C (it C b m):=rfl;have tn:th C b (m+1)=2*wW C b (m+1)-1+tt C b:=by unfold th;rw[hl]
 obtain⟨i,hi,r1,_⟩:=tt_ix hE;obtain⟨j,hj,r2,_⟩:=tt_ix (it_ok hE m);rw[show m+1-1=m from rfl];exact zjs key u0 um (by lia) (by lia) (by lia) (by lia) (by lia)
theorem Closed.least_turn{C:Cell -> Bool}{b:Edge}{es:List Edge}(h:Closed C b es)
  (hmin:∀f∈es,eV b<=eV f/\(eV f=eV b->eU b<=eU f)):wW C b es.length-wW C b 0=4∨wW C b es.length-wW C b 0=-4 :=
 (h.least_sign hmin).imp And.left And.left
theorem Closed.head{C:Cell->Bool}{b a:Edge}{r:List Edge}(h:Closed C b (a::r)):a=b:=by have:=h.1.1;simpa using this
theorem Closed.rot1{C:Cell->Bool}{b c:Edge}{r:List Edge}(h:Closed C b (b::r))(hc:(r++[b])[0]?=some c):Closed C c (r++[b]):=by
 obtain⟨⟨h0,hs,hE,hn⟩,l,hl,hb⟩:=id h;refine⟨⟨hc,fun i e f h1 h2=>?_,fun e he=>hE e (by rcases List.mem_append.mp he with m |m;exact List.mem_cons_of_mem _ m;rw[List.mem_singleton.mp m];exact List.mem_cons_self),?_⟩,?_⟩
 .have hi:=(List.getElem?_eq_some_iff.mp h2).1;simp only[List.length_append,List.length_cons,List.length_nil]at hi;rw[List.getElem?_append_left (by lia)]at h1;rcases Nat.lt_or_ge (i+1) r.length with q |q
  .rw[List.getElem?_append_left q]at h2;exact hs (i+1) e f (by simpa using h1) (by simpa using h2)
  .have e1:i+1=r.length:=by lia
   rw[List.getElem?_append_right (by lia),e1]at h2;simp at h2;have e2:(b::r).length-1=i+1:=by simp;lia
   rw[e2]at hl;simp only[List.getElem?_cons_succ]at hl;rw[hl]at h1
   cases h1
   rw[hb,h2]
 .rw[List.nodup_append];have:=List.nodup_cons.mp hn;exact⟨this.2,by simp,fun x hx y hy e=>by rw[List.mem_singleton.mp hy]at e;rw[e]at hx;exact this.1 hx⟩
 .refine⟨b,by simp,?_⟩
  cases r with
  |nil =>
   simp at hl hc;subst hc;subst hl;exact hb
  |cons a r =>
   simp at hc;have:=hs 0 b a rfl rfl;rw[<- this,hc]
theorem Closed.rot{C:Cell->Bool}:∀(j:Nat){b e:Edge}{es:List Edge},Closed C b es->es[j]?=some e->Closed C e (es.drop j++es.take j)
 | 0,b,e,es,h,he=>by
  have:=h.1.1;rw[he]at this
  cases this
  simpa using h
 |j+1,b,e,[],h,he=>by simp at he
 |j+1,b,e,a::r,h,he=>by
  have:=h.head;subst this;simp only[List.getElem?_cons_succ]at he;have hj:=(List.getElem?_eq_some_iff.mp he).1;obtain⟨c,hc⟩:∃c,(r++[a])[0]?=some c:=⟨_,List.getElem?_eq_getElem (by simp)⟩;have h1:=h.rot1 hc;have h2:=Closed.rot j h1 (by rw[List.getElem?_append_left hj];exact he);rw[List.drop_append_of_le_length (by lia),List.take_append_of_le_length (by lia)]at h2;simpa using h2
theorem zh3{C:Cell->Bool}{b:Edge}{es:List Edge}(h:Chain C b es):∀i,i<=es.length->((es.take i).map (tt C)).sum=wW C b i-wW C b 0
 | 0,_=>by simp
 |i+1,hi=>by
  have ih:=zh3 h i (by lia);rw[List.take_succ,h.get i (by lia)];simp only[Option.toList_some,List.map_append,List.map_cons,List.map_nil,List.sum_append,List.sum_cons,List.sum_nil];rw[ih];show _=wW C b i+tt C (it C b i)-wW C b 0;lia
theorem zcQ:∀(es:List Edge),es≠[]->∃b∈es,∀f∈es,eV b<=eV f/\(eV f=eV b->eU b<=eU f)
 |[],h=>absurd rfl h
 |[a],_=>⟨a,by simp,fun f hf=>by rw[List.mem_singleton.mp hf];exact⟨Int.le_refl _,fun _=>Int.le_refl _⟩⟩
 |a::c::r,_=>by
  obtain⟨b,hb,q⟩:=zcQ (c::r) (by simp)
  by_cases hl:eV b<eV a∨(eV b=eV a/\eU b<=eU a)
  .refine⟨b,List.mem_cons_of_mem _ hb,fun f hf=>?_⟩;rcases List.mem_cons.mp hf with rfl |hf
   .lia
   .exact q f hf
  .refine⟨a,List.mem_cons_self,fun f hf=>?_⟩;rcases List.mem_cons.mp hf with rfl |hf
   .lia
   .have:=q f hf;lia
theorem zf8(l:List Int)(j:Nat):(l.drop j++l.take j).sum=l.sum:=by
 have:=List.take_append_drop j l;rw[List.sum_append]
 conv=>rhs;rw[<- this,List.sum_append]
 lia
theorem Closed.turning{C:Cell->Bool}{b:Edge}{es:List Edge}(h:Closed C b es):(es.map (tt C)).sum=4∨(es.map (tt C)).sum=-4:=by
 have hp:=h.pos;obtain⟨e,he,q⟩:=zcQ es (by intro z;rw[z]at hp;simp at hp);obtain⟨j,hj,ej⟩:=List.getElem_of_mem he;have h1:=h.rot j (by rw[List.getElem?_eq_getElem hj,ej])
 have h2:=h1.least_turn (fun f hf=>q f (by
  rcases List.mem_append.mp hf with m |m
  .exact List.mem_of_mem_drop m
  .exact List.mem_of_mem_take m))
 rw[<- zh3 h1.1 _ (Nat.le_refl _),List.take_length,List.map_append,List.map_drop,List.map_take,zf8]at h2;exact h2
theorem zex(C:Cell->Bool):∀es:List Edge,(es.map (tt C)).sum=((es.filter fun e=>(stepB C e).isNone).length:Int)-((es.filter fun e=>slant (stepB C e)).length:Int)
 |[]=>rfl
 |e::r=>by
  have ih:=zex C r
  have q:tt C e=(if (stepB C e).isNone=true then 1 else 0)-(if slant (stepB C e)=true then 1 else 0):=by
   unfold tt
   cases hs:stepB C e with
   |none=>rfl
   |some s =>
    by_cases h:s % 2=1
    .simp[slant,h]
    .have h0:s % 2=0:=by lia
     simp[slant,h0]
  simp only[List.map_cons,List.sum_cons,List.filter_cons];rw[q,ih];split <;> split <;> (try simp only[List.length_cons]) <;> lia
set_option synthInstance.maxSize 4000 in
set_option synthInstance.maxHeartbeats 400000 in
theorem ziO:∀y < 4, ∀i < 3, ∀j < 3, 0 <= bv ((y + j + 3) % 4) + bv (((y + j + 3) % 4 + i + 3) % 4)-1 -> (bv ((y + j + 3) % 4) + bv (((y + j + 3) % 4 + i + 3) % 4)-1=0 -> 0 <= av ((y + j + 3) % 4) + av (((y + j + 3) % 4 + i + 3) % 4)-1) ->
  bv y+bv ((y+j+3) % 4)-1<=0->(bv y+bv ((y+j+3) % 4)-1=0->av y+av ((y+j+3) % 4)-1<=0)->(2<i+j->(y+j+3) % 4=0)/\(i+j<2->(y+j+3) % 4=2):=by decide
theorem Closed.least_way{C:Cell -> Bool}{b:Edge}{es:List Edge}(h:Closed C b es)
  (hmin:∀f∈es,eV b<=eV f/\(eV f=eV b->eU b<=eU f)):(b.w=0/\(es.map (tt C)).sum=4)∨(b.w=2/\(es.map (tt C)).sum=-4):=by
 have hp:=h.pos;have hE:IsE C b:=h.1.2.2.1 b (List.mem_of_getElem? h.1.1);have hl:=h.it_len;have get:=h.1.get;have sg:=h.least_sign hmin;have ts:=zh3 h.1 es.length (Nat.le_refl _);rw[List.take_length]at ts;rw[<- ts]at sg;obtain⟨m,hm⟩:∃m,es.length=m+1:=⟨es.length-1,by lia⟩;rw[hm,show m+1-1=m from rfl]at sg;rw[hm]at hl;have hE':IsE C (it C b m):=it_ok hE m;have mm:it C b m∈es:=List.mem_of_getElem? (get m (by lia));have nb:nxt C (it C b m)=b:=hl
 have hn:nxt C b∈es:=by
  rcases Nat.lt_or_ge 1 es.length with z |z
  .exact List.mem_of_getElem? (get 1 z)
  .have:m=0:=by lia
   subst this;have:nxt C b=b:=nb;rw[this];exact List.mem_of_getElem? h.1.1
 obtain⟨s1,s2⟩:=zcy hE;obtain⟨s3,s4⟩:=zcy hE';rw[nb]at s3 s4;obtain⟨i,hi,r1,r1'⟩:=tt_ix hE;obtain⟨j,hj,r2,r2'⟩:=tt_ix hE';rw[nb]at r2';have m1:=hmin _ hn;have m2:=hmin _ mm;have w0:=hE.1;have w1:=hE'.1;have w2:=(zdm hE).1;generalize (nxt C b).w=x at *;generalize (it C b m).w=y at *;generalize tt C (it C b m)=ta at *;generalize tt C b=tb at *;generalize b.w=z at *;subst r1';subst r2';obtain⟨t1,t2⟩:=ziO y w1 i hi j hj (by lia) (fun q=>by have:=m1.2 (by lia);lia) (by lia) (fun q=>by have:=m2.2 (by lia);lia);rcases sg with⟨g1,g2⟩ |⟨g1,g2⟩
 .exact .inl ⟨t1 (by lia),g1⟩
 .exact .inr ⟨t2 (by lia),g1⟩
theorem Closed.tele{C:Cell->Bool}{b:Edge}{es:List Edge}(h:Closed C b es){G g:Edge->Int}(hg:∀f∈es,G (nxt C f)=G f+g f):(es.map g).sum=0:=by
 have k:∀i,i<=es.length->((es.take i).map g).sum=G (it C b i)-G b:=by
  intro i
  induction i with
  |zero=>intro _;simp[it]
  |succ i ih =>
   intro hi;have h1:=h.1.get i (by lia);rw[List.take_succ,h1];simp only[Option.toList_some,List.map_append,List.map_cons,List.map_nil,List.sum_append,List.sum_cons,List.sum_nil];rw[ih (by lia)];have:=hg _ (List.mem_of_getElem? h1);have e:it C b (i+1)=nxt C (it C b i):=rfl;rw[e,this];lia
 have:=k es.length (Nat.le_refl _);rw[List.take_length,h.it_len]at this;lia
theorem sums4{l:List Edge}{f g u v:Edge->Int}(h:∀e∈l,f e-g e=u e-v e):(l.map f).sum-(l.map g).sum=(l.map u).sum-(l.map v).sum:=by
 induction l with
 |nil=>simp
 |cons a r ih =>
  have h1:=h a List.mem_cons_self;have h2:=ih fun e he=>h e (List.mem_cons_of_mem _ he)
  simp only[List.map_cons,List.sum_cons];lia
def ind(es:List Edge)(a:Edge):Int:=if a∈es then 1 else 0
def at1(a e:Edge):Int:=if e=a then 1 else 0
theorem zdC(a:Edge):∀{es:List Edge},es.Nodup->(es.map (at1 a)).sum=ind es a
 |[],_=>by simp[ind]
 |e::r,h=>by
  obtain⟨h1,h2⟩:=List.nodup_cons.mp h;have ih:=zdC a h2;simp only[List.map_cons,List.sum_cons,ih,ind,at1]
  by_cases z:e=a
  .subst z;rw[if_pos rfl,if_neg h1,if_pos List.mem_cons_self];rfl
  .rw[if_neg z]
   by_cases y:a∈r
   .rw[if_pos y,if_pos (List.mem_cons_of_mem _ y)];rfl
   .rw[if_neg y,if_neg]
    .rfl
    .intro m;rcases List.mem_cons.mp m with q |q
     .exact z q.symm
     .exact y q
def wc(c:Cell)(e:Edge):Int:=if e.c.2=c.2/\c.1<px e then dy e.w else 0
def wd(es:List Edge)(c:Cell):Int:=(es.map (wc c)).sum
theorem zi2{e:Edge}{x y:Int}{w:Nat}:e=⟨(x,y),w⟩ ↔ e.c.1=x/\e.c.2=y/\e.w=w:=by
 obtain⟨⟨a,b⟩,v⟩:=e;constructor
 .intro h;cases h;exact⟨rfl,rfl,rfl⟩
 .rintro⟨h1,h2,h3⟩;simp only at h1 h2 h3;rw[h1,h2,h3]
theorem zdt{es:List Edge}(h4:∀e∈es,e.w<4)(nd:es.Nodup)(x y:Int):wd es (x,y)-wd es (x+1,y)=ind es ⟨(x,y),1⟩ - ind es ⟨(x+1,y),3⟩:=by
 rw[<- zdC _ nd,<- zdC _ nd];refine sums4 fun e he=>?_
 have hw:=h4 e he;unfold wc at1;simp only[zi2];obtain⟨⟨a,b⟩,v⟩:=e;simp only at hw;rcases way4 hw with rfl |rfl |rfl |rfl <;> simp[px,dy] <;> (repeat' split) <;> lia
theorem wd_up{C:Cell->Bool}{b:Edge}{es:List Edge}(h:Closed C b es)(x y:Int):wd es (x,y+1)-wd es (x,y)=ind es ⟨(x,y+1),0⟩ - ind es ⟨(x,y),2⟩:=by
 have hE:=h.1.2.2.1;have nd:=h.1.2.2.2
 have t:=h.tele (G:=fun e=>if x<px e/\py e=y+1 then (1:Int) else 0)
  (g:=fun e=>(wc (x,y) e-wc (x,y+1) e)+(at1 ⟨(x,y+1),0⟩ e-at1 ⟨(x,y),2⟩ e)) (fun e he=>by obtain⟨p,q⟩:=zfs (hE e he);have hw:=(hE e he).1;rw[p,q];clear p q;unfold wc at1;simp only[zi2];obtain⟨⟨a,b⟩,v⟩:=e;simp only at hw;rcases way4 hw with rfl |rfl |rfl |rfl <;> simp[px,py,dx,dy] <;> (repeat' split) <;> lia)
 rw[<- zdC _ nd,<- zdC _ nd]
 have k:∀l:List Edge,(l.map fun e=>(wc (x,y) e-wc (x,y+1) e)+(at1 ⟨(x,y+1),0⟩ e-at1 ⟨(x,y),2⟩ e)).sum=((l.map (wc (x,y))).sum-(l.map (wc (x,y+1))).sum)+((l.map (at1 ⟨(x,y+1),0⟩)).sum-(l.map (at1 ⟨(x,y),2⟩)).sum):=by
  intro l
  induction l with
  |nil=>simp
  |cons a r ih=>simp only[List.map_cons,List.sum_cons,ih];lia
 rw[k]at t;unfold wd;lia
def fac(e:Edge):Edge:=⟨gap e,(e.w+2) % 4⟩
theorem zev{C:Cell->Bool}{b:Edge}{es:List Edge}(h:Closed C b es)(e:Edge)(hw:e.w<4):wd es e.c-wd es (gap e)=ind es e-ind es (fac e):=by
 have hE:=h.1.2.2.1;have nd:=h.1.2.2.2;have r:=zdt (fun e he=>(hE e he).1) nd;have u:=wd_up h;obtain⟨⟨a,c⟩,v⟩:=e;simp only at hw;unfold fac;rcases way4 hw with rfl |rfl |rfl |rfl <;> simp only[gap,go,mv]
 .have:=u a (c-1);rw[show c-1+1=c by lia]at this;simp;rw[show c+-1=c-1 by lia];exact this
 .have:=r a c;simpa using this
 .have:=u a c;simp;lia
 .have:=r (a-1) c;rw[show a-1+1=a by lia]at this;simp;rw[show a+-1=a-1 by lia];lia
theorem ziX{C:Cell->Bool}{b:Edge}{es:List Edge}(h:Closed C b es){e:Edge}(hn:¬ IsE C e):ind es e=0:=by unfold ind;rw[if_neg fun m=>hn (h.1.2.2.1 e m)]
theorem zi1{e:Edge}(hw:e.w<4):gap (fac e)=e.c:=by obtain⟨⟨a,c⟩,v⟩:=e;simp only at hw;unfold fac;rcases way4 hw with rfl |rfl |rfl |rfl <;> simp[gap,go,mv] <;> lia
theorem zet{C:Cell->Bool}{b:Edge}{es:List Edge}(h:Closed C b es)(e:Edge)(hw:e.w<4)(hC:C e.c=C (gap e)):wd es e.c=wd es (gap e):=by
 have k:=zev h e hw
 rw[ziX h (e:=e) (fun z=>by have:=z.2.1;have:=z.2.2;simp_all),ziX h (e:=fac e) (fun z=>by
  have h1:=z.2.1;have h2:=z.2.2;rw[zi1 hw]at h2;have h1':C (gap e)=true:=h1
  simp_all)]at k
 lia
theorem zcz{C:Cell->Bool}{b:Edge}{es:List Edge}(h:Closed C b es){e:Edge}(he:IsE C e):wd es e.c=wd es (gap e)+ind es e:=by have k:=zev h e he.1;rw[ziX h (e:=fac e) (fun z=>by have h1:C (gap e)=true:=z.2.1;rw[he.2.2]at h1;cases h1)]at k;lia
inductive Rch (D:Cell->Bool) (S:List Nat) (a:Cell):Cell->Prop where
 |refl:Rch D S a a
 |step {c:Cell} {s:Nat}:Rch D S a c->s∈S->D (go c s)=true->Rch D S a (go c s)
theorem Rch.trans{D:Cell->Bool}{S:List Nat}{a b c:Cell}(h:Rch D S a b)(k:Rch D S b c):Rch D S a c:=by
 induction k with
 |refl=>exact h
 |step _ hs hd ih=>exact .step ih hs hd
theorem Rch.dom{D:Cell->Bool}{S:List Nat}{a b:Cell}(h:Rch D S a b)(ha:D a=true):D b=true:=by
 cases h with
 |refl=>exact ha
 |step _ _ hd=>exact hd
def S8:List Nat:=[0,1,2,3,4,5,6,7]
def S4:List Nat:=[0,2,4,6]
theorem zfA{s:Nat}:s∈S8 ↔ s<8:=by unfold S8;simp;lia
theorem zdQ{s:Nat}:s∈S4 ↔ ∃w,w<4/\s=(2*w+6) % 8:=by
 unfold S4;simp;constructor
 .rintro (rfl |rfl |rfl |rfl)
  .exact⟨1,by decide,by decide⟩
  .exact⟨2,by decide,by decide⟩
  .exact⟨3,by decide,by decide⟩
  .exact⟨0,by decide,by decide⟩
 .rintro⟨w,hw,rfl⟩;rcases way4 hw with rfl |rfl |rfl |rfl <;> decide
theorem Closed.mem_nxt{C:Cell->Bool}{b e:Edge}{es:List Edge}(h:Closed C b es)(he:e∈es):nxt C e∈es:=by
 obtain⟨⟨h0,hs,_,_⟩,l,hl,hb⟩:=h;obtain⟨i,hi,ei⟩:=List.getElem_of_mem he;rcases Nat.lt_or_ge (i+1) es.length with z |z
 .have:=hs i e es[i+1] (by rw[List.getElem?_eq_getElem hi,ei]) (List.getElem?_eq_getElem z);rw[<- this];exact List.getElem_mem _
 .have hi':i=es.length-1:=by lia
  have:some e=some l:=by rw[<- hl,<- hi',List.getElem?_eq_getElem hi,ei]
  cases this
  rw[hb];exact List.mem_of_getElem? h0
theorem Closed.nxt_mem{C:Cell->Bool}{b e:Edge}{es:List Edge}(h:Closed C b es)(hE:IsE C e)(he:nxt C e∈es):e∈es:=by
 obtain⟨⟨h0,hs,hE',_⟩,l,hl,hb⟩:=h;obtain⟨i,hi,ei⟩:=List.getElem_of_mem he
 cases i with
 |zero =>
  have:some (nxt C e)=some b:=by rw[<- h0,List.getElem?_eq_getElem hi,ei]
  cases this
  have lm:=List.mem_of_getElem? hl;rw[zdN hE (hE' l lm) hb.symm];exact lm
 |succ i =>
  have m:es[i]∈es:=List.getElem_mem (by lia);have:=hs i es[i] _ (List.getElem?_eq_getElem (by lia)) (by rw[List.getElem?_eq_getElem hi,ei]);rw[zdN hE (hE' _ m) this];exact m
theorem Closed.ind_nxt{C:Cell->Bool}{b e:Edge}{es:List Edge}(h:Closed C b es)(hE:IsE C e):ind es (nxt C e)=ind es e:=by
 unfold ind
 by_cases z:e∈es
 .rw[if_pos z,if_pos (h.mem_nxt z)]
 .rw[if_neg z,if_neg fun m=>z (h.nxt_mem hE m)]
theorem zgy{C:Cell->Bool}{b:Edge}{es:List Edge}(h:Closed C b es){c:Cell}{w:Nat}(hw:w<4)(hc:C c=true)(hd:C (go c ((2*w+7) % 8))=true):wd es c=wd es (go c ((2*w+7) % 8)):=by
 have g1:gap ⟨go c ((2*w+7) % 8),(w+3) % 4⟩=gap ⟨c,w⟩:=by unfold gap;simp only;rw[go_go (f1 w hw)]
 have hw3:(w+3) % 4<4:=Nat.mod_lt _ (by decide)
 by_cases hg:C (gap ⟨c,w⟩)=true
 .have a:=zet h ⟨c,w⟩ hw (by rw[hg];exact hc);have d:=zet h ⟨go c ((2*w+7) % 8),(w+3) % 4⟩ hw3 (by rw[g1,hg];exact hd);rw[g1]at d;exact a.trans d.symm
 .have hg':C (gap ⟨c,w⟩)=false:=by simpa using hg
  have hE:IsE C ⟨c,w⟩:=⟨hw,hc,hg'⟩;rcases zaY hE with⟨_,_,q⟩ |⟨z,_⟩ |⟨z,_⟩
  .have a:=zcz h hE;have hn:=zdm hE;have i:=h.ind_nxt hE;have d:=zcz h hn;rw[i]at d;rw[q]at d;simp only at a d;rw[g1]at d;exact a.trans d.symm
  .simp only at z;rw[hd]at z;cases z
  .simp only at z;rw[hd]at z;cases z
theorem ziC{s:Nat}(h:s<8)(ho:s % 2=1):∃w,w<4/\s=(2*w+7) % 8:=⟨(s+1) / 2 % 4,Nat.mod_lt _ (by decide),by lia⟩
theorem zjM{s:Nat}(h:s<8)(ho:s % 2=0):∃w,w<4/\s=(2*w+6) % 8:=⟨(s / 2+1) % 4,Nat.mod_lt _ (by decide),by lia⟩
theorem zeu{C:Cell->Bool}{b:Edge}{es:List Edge}(h:Closed C b es){a c:Cell}(hc:Rch C S8 a c)(ha:C a=true):wd es c=wd es a:=by
 induction hc with
 |refl=>rfl
 |@step c s k hs hd ih =>
  have hc:=k.dom ha;have h8:=zfA.mp hs;rw[<- ih];rcases Nat.mod_two_eq_zero_or_one s with z |z
  .obtain⟨w,hw,rfl⟩:=zjM h8 z;exact (zet h ⟨c,w⟩ hw (hc.trans hd.symm)).symm
  .obtain⟨w,hw,rfl⟩:=ziC h8 z;exact (zgy h hw hc hd).symm
abbrev no(C:Cell->Bool):Cell->Bool:=fun c=>!C c
theorem zdz{C:Cell->Bool}{b:Edge}{es:List Edge}(h:Closed C b es){a c:Cell}(hc:Rch (no C) S4 a c)(ha:C a=false):wd es c=wd es a:=by
 induction hc with
 |refl=>rfl
 |@step c s k hs hd ih =>
  have hc:=k.dom (by simp[no,ha]);simp only[no,Bool.not_eq_true']at hc hd;obtain⟨w,hw,rfl⟩:=zdQ.mp hs;rw[<- ih];exact (zet h ⟨c,w⟩ hw (hc.trans hd.symm)).symm
theorem zjF{C:Cell->Bool}{e:Edge}(h:IsE C e):Rch C S8 e.c (nxt C e).c:=by
 have hw:=h.1;rcases zaY h with⟨h1,_,q⟩ |⟨h1,h2,_,q⟩ |⟨h1,h2,_,q⟩ <;> rw[q]
 .exact .step .refl (zfA.mpr (Nat.mod_lt _ (by decide))) h1
 .exact .step .refl (zfA.mpr (by lia)) h2
 .exact .refl
theorem f9:∀w<4,mvAdd ((2*w+6) % 8) (2*w) ((2*w+7) % 8)=true:=by decide
theorem f10:∀w<4,mvAdd ((2*w+7) % 8) ((2*w+2) % 8) (2*w)=true:=by decide
theorem zkM{C:Cell->Bool}{e:Edge}(h:IsE C e):Rch (no C) S4 (gap e) (gap (nxt C e)):=by
 have hw:=h.1;have s0:2*e.w∈S4:=zdQ.mpr ⟨(e.w+1) % 4,Nat.mod_lt _ (by decide),by lia⟩;have s2:(2*e.w+2) % 8∈S4:=zdQ.mpr ⟨(e.w+2) % 4,Nat.mod_lt _ (by decide),by lia⟩;rcases zaY h with⟨h1,_,q⟩ |⟨h1,h2,_,q⟩ |⟨h1,h2,_,q⟩ <;> rw[q]
 .have:gap ⟨go e.c ((2*e.w+7) % 8),(e.w+3) % 4⟩=gap e:=by unfold gap;simp only;rw[go_go (f1 _ hw)]
  rw[this];exact .refl
 .have e1:gap ⟨go e.c (2*e.w),e.w⟩=go (gap e) (2*e.w):=by unfold gap;simp only;rw[go_go (f2 _ hw),go_go (f9 _ hw)]
  rw[e1];refine .step .refl s0 ?_
  unfold gap;rw[go_go (f9 _ hw)];simp[no,h1]
 .have e1:gap ⟨e.c, (e.w + 1) % 4⟩ = go (go (gap e) (2 * e.w)) ((2 * e.w + 2) % 8) := by unfold gap;simp only;rw[f3 _ hw,go_go (f9 _ hw),go_go (f10 _ hw)]
  rw[e1];refine .step (.step .refl s0 ?_) s2 ?_
  .unfold gap;rw[go_go (f9 _ hw)];simp[no,h1]
  .unfold gap;rw[go_go (f9 _ hw),go_go (f10 _ hw)];simp[no,h2]
theorem Closed.reach{C:Cell->Bool}{b:Edge}{es:List Edge}(h:Closed C b es):∀e∈es,Rch C S8 b.c e.c/\Rch (no C) S4 (gap b) (gap e):=by
 have hE:IsE C b:=h.1.2.2.1 b (List.mem_of_getElem? h.1.1)
 have k:∀i,Rch C S8 b.c (it C b i).c/\Rch (no C) S4 (gap b) (gap (it C b i)):=by
  intro i
  induction i with
  |zero=>exact⟨.refl,.refl⟩
  |succ i ih=>exact⟨ih.1.trans (zjF (it_ok hE i)),ih.2.trans (zkM (it_ok hE i))⟩
 intro e he;obtain⟨i,hi,ei⟩:=List.getElem_of_mem he;have:=h.1.get i hi;rw[List.getElem?_eq_getElem hi,ei]at this
 cases this
 exact k i
theorem Closed.from{C:Cell->Bool}{b e:Edge}{es:List Edge}(h:Closed C b es)(he:e∈es):∃fs,Closed C e fs/\(∀f,f∈fs ↔ f∈es)/\(fs.map (tt C)).sum=(es.map (tt C)).sum/\∀c,wd fs c=wd es c:=by
 obtain⟨j,hj,ej⟩:=List.getElem_of_mem he;have h1:=h.rot j (by rw[List.getElem?_eq_getElem hj,ej]);refine⟨_,h1,fun f=>?_,?_,fun c=>?_⟩
 .constructor
  .intro hf;rcases List.mem_append.mp hf with m |m
   .exact List.mem_of_mem_drop m
   .exact List.mem_of_mem_take m
  .intro hf;rw[<- List.take_append_drop j es]at hf;rcases List.mem_append.mp hf with m |m
   .exact List.mem_append_right _ m
   .exact List.mem_append_left _ m
 .rw[List.map_append,List.map_drop,List.map_take,zf8]
 .unfold wd;rw[List.map_append,List.map_drop,List.map_take,zf8]
theorem zb0{es:List Edge}{c:Cell}(h:∀e∈es,e.w=1∨e.w=3->¬ (e.c.2=c.2/\c.1<px e)):wd es c=0:=by
 unfold wd
 induction es with
 |nil=>rfl
 |cons a r ih =>
  have ih':=ih fun e he=>h e (List.mem_cons_of_mem _ he)
  have h1:=h a List.mem_cons_self;simp only[List.map_cons,List.sum_cons,ih'];unfold wc dy;split
  .rename_i q
   split
   .rename_i w1;exact absurd q (h1 (.inl w1))
   .split
    .rename_i w3;exact absurd q (h1 (.inr w3))
    .rfl
  .rfl
theorem Closed.inside{C:Cell -> Bool}{b:Edge}{es:List Edge}(h:Closed C b es) :
  ((es.map (tt C)).sum=4/\∀e∈es,wd es e.c=1/\wd es (gap e)=0)∨((es.map (tt C)).sum=-4/\∀e∈es,wd es e.c=0/\wd es (gap e)=-1):=by
 have hp:=h.pos;obtain⟨a,ha,q⟩:=zcQ es (by intro z;rw[z]at hp;simp at hp);obtain⟨fs,h1,hm,hs,hv⟩:=h.from ha;have lw:=h1.least_way fun f hf=>q f ((hm f).mp hf)
 rw[hs]at lw;have hE:IsE C a:=h.1.2.2.1 a ha
 have all:∀{u v:Int},wd es a.c=u->wd es (gap a)=v->∀e∈es,wd es e.c=u/\wd es (gap e)=v:=fun hu hv e he=>by obtain⟨r1,r2⟩:=h1.reach e ((hm e).mpr he);exact⟨(zeu h r1 hE.2.1).trans hu,(zdz h r2 hE.2.2).trans hv⟩
 have cr:=zcz h hE;have i1:ind es a=1:=by unfold ind;rw[if_pos ha]
 rw[i1]at cr;rcases lw with⟨w,s⟩ |⟨w,s⟩
 .left
  have z:wd es (gap a)=0:=zb0 fun e he hw ⟨k1,k2⟩=>by have:=(q e he).1;obtain⟨⟨x,y⟩,v⟩:=a;simp only at w;subst w;obtain⟨⟨x',y'⟩,v'⟩:=e;simp only at hw;rcases hw with rfl |rfl <;> simp[gap,go,mv,px,py,eV,bv]at this k1 k2 <;> lia
  exact⟨s,all (by lia) z⟩
 .right
  have z:wd es a.c=0:=zb0 fun e he hw ⟨k1,k2⟩=>by have:=(q e he).1;obtain⟨⟨x,y⟩,v⟩:=a;simp only at w;subst w;obtain⟨⟨x',y'⟩,v'⟩:=e;simp only at hw;rcases hw with rfl |rfl <;> simp[px,py,eV,bv]at this k1 k2 <;> lia
  exact⟨s,all z (by lia)⟩
def cLe(c d:Cell):Prop:=c.2<d.2∨(c.2=d.2/\c.1<=d.1)
theorem cLe.refl(c:Cell):cLe c c:=.inr ⟨rfl,Int.le_refl _⟩
theorem cLe.trans{a b c:Cell}(h:cLe a b)(k:cLe b c):cLe a c:=by unfold cLe at *;lia
theorem cLe.total(a b:Cell):cLe a b∨cLe b a:=by unfold cLe;lia
theorem zbW(P:Cell->Prop):∀(cs:List Cell),(∃c∈cs,P c)->∃c∈cs,P c/\∀d∈cs,P d->cLe c d
 |[],h=>by obtain⟨c,hc,_⟩:=h;cases hc
 |a::r,h=>by
  by_cases hr:∃c∈r,P c
  .obtain⟨c,hc,pc,k⟩:=zbW P r hr
   by_cases pa:P a
   .rcases cLe.total a c with z |z
    .refine⟨a,List.mem_cons_self,pa,fun d hd pd=>?_⟩;rcases List.mem_cons.mp hd with rfl |hd
     .exact .refl _
     .exact z.trans (k d hd pd)
    .refine⟨c,List.mem_cons_of_mem _ hc,pc,fun d hd pd=>?_⟩;rcases List.mem_cons.mp hd with rfl |hd
     .exact z
     .exact k d hd pd
   .refine⟨c,List.mem_cons_of_mem _ hc,pc,fun d hd pd=>?_⟩;rcases List.mem_cons.mp hd with rfl |hd
    .exact absurd pd pa
    .exact k d hd pd
  .obtain⟨c,hc,pc⟩:=h;rcases List.mem_cons.mp hc with rfl |hc
   .refine⟨c,List.mem_cons_self,pc,fun d hd pd=>?_⟩;rcases List.mem_cons.mp hd with rfl |hd
    .exact .refl _
    .exact absurd ⟨d,hd,pd⟩ hr
   .exact absurd ⟨c,hc,pc⟩ hr
def zcp(C:Cell->Bool)(g:Cell):Prop:=C g=false/\∀d,Rch (no C) S4 g d->cLe g d
theorem gap2(c:Cell):gap ⟨c,2⟩=(c.1,c.2+1):=by simp[gap,go,mv]
theorem zi0{e:Edge}(h:e.w=1∨e.w=3):(gap e).2=e.c.2:=by obtain⟨⟨x,y⟩,v⟩:=e;simp only at h;rcases h with rfl |rfl <;> simp[gap,go,mv]
theorem zcp.edge{C:Cell->Bool}{g:Cell}(h:zcp C g):IsE C ⟨(g.1,g.2-1),2⟩/\gap ⟨(g.1,g.2-1),2⟩=g:=by
 have e:gap ⟨(g.1,g.2-1),2⟩=g:=by rw[gap2];exact Prod.ext rfl (by simp)
 refine⟨⟨(by show (2:Nat)<4;decide),?_,by rw[e];exact h.1⟩,e⟩
 cases z:C (g.1,g.2-1) with
 |true=>rfl
 |false =>
  have e6:go g 6=(g.1,g.2-1):=by simp[go,mv];lia
  have:=h.2 (go g 6) (.step .refl (by decide) (by rw[e6];simp[no,z]));rw[e6]at this;simp[cLe]at this;lia
theorem zcp.hole{C:Cell->Bool}{g:Cell}(h:zcp C g){b:Edge}{es:List Edge}(hc:Closed C b es)(hm:⟨(g.1,g.2-1),2⟩∈es):(es.map (tt C)).sum=-4/\∀e∈es,cLe g (gap e):=by
 obtain⟨fs,h1,hmm,hs,hv⟩:=hc.from hm
 have le:∀e∈es,cLe g (gap e):=fun e he=>by have:=(h1.reach e ((hmm e).mpr he)).2;rw[h.edge.2]at this;exact h.2 _ this
 refine⟨?_,le⟩;rcases hc.inside with⟨s,k⟩ |⟨s,k⟩
 .have:=(k _ hm).1
  rw[zb0 fun e he hw ⟨k1,_⟩=>by have:=le e he;rw[cLe,zi0 hw]at this;simp only at k1;lia]at this
  lia
 .exact s
theorem zhT{C:Cell->Bool}{b:Edge}{es:List Edge}(h:Closed C b es){c:Cell}(hl:∀e∈es,e.w=1∨e.w=3->e.c.2=c.2->c.1<px e):wd es c=0:=by
 have t:=h.tele (G:=fun e=>if c.2<py e then (1:Int) else 0) (g:=wc c) (fun e he=>by obtain⟨_,q⟩:=zfs (h.1.2.2.1 e he);have hw:=(h.1.2.2.1 e he).1;have hl':=hl e he;rw[q];unfold wc;obtain⟨⟨x,y⟩,v⟩:=e;simp only at hw;rcases way4 hw with rfl |rfl |rfl |rfl <;> simp[px,py,dy]at hl' ⊢ <;> (repeat' split) <;> lia)
 exact t
theorem zhU{C:Cell->Bool}{b:Edge}{es:List Edge}(h:Closed C b es){c:Cell}(hz:wd es c≠0):∃e∈es,∃f∈es,e.c.2=c.2/\f.c.2=c.2/\px e<=c.1/\c.1<px f/\(e.w=1∨e.w=3)/\(f.w=1∨f.w=3):=by
 apply Classical.byContradiction
 intro hn
 by_cases k:∃f∈es,f.c.2=c.2/\c.1<px f/\(f.w=1∨f.w=3)
 .obtain⟨f,hf,k1,k2,k3⟩:=k
  apply hz
  refine zhT h fun e he hw hr=>?_
  rcases Int.lt_or_le c.1 (px e) with z |z
  .exact z
  .exact absurd ⟨e,he,f,hf,hr,k1,z,k2,hw,k3⟩ hn
 .apply hz
  exact zb0 fun e he hw ⟨k1,k2⟩=>k ⟨e,he,k1,k2,hw⟩
def boxE(es:List Edge):List Cell:=es.flatMap fun e=>es.flatMap fun f=>(List.range (px f-px e).toNat).map fun i:Nat=>(px e+(i:Int),e.c.2)
theorem zg7{C:Cell->Bool}{b:Edge}{es:List Edge}(h:Closed C b es){c:Cell}(hz:wd es c≠0):c∈boxE es:=by obtain⟨e,he,f,hf,r1,r2,l1,l2,_⟩:=zhU h hz;refine List.mem_flatMap.mpr ⟨e,he,List.mem_flatMap.mpr ⟨f,hf,List.mem_map.mpr ⟨(c.1-px e).toNat,List.mem_range.mpr (by lia),?_⟩⟩⟩;exact Prod.ext (by show px e+((c.1-px e).toNat:Int)=c.1;lia) r1
theorem zen{C:Cell->Bool}{b:Edge}{es:List Edge}(hc:Closed C b es)(hs:(es.map (tt C)).sum=-4){c:Cell}(hm:⟨c,2⟩∈es)(hmin:∀e∈es,e.w=2->cLe c e.c):zcp C (gap ⟨c,2⟩)/\∀d,Rch (no C) S4 (gap ⟨c,2⟩) d->wd es d=-1:=by
  have hE:=hc.1.2.2.1 _ hm
  have ins:(∀e∈es,wd es e.c=0/\wd es (gap e)=-1):=by
    rcases hc.inside with⟨s,_⟩ |⟨_,k⟩
    . lia
    . exact k
  have wl:∀d,Rch (no C) S4 (gap ⟨c,2⟩) d->wd es d=-1:=fun d hd=>(zdz hc hd hE.2.2).trans (ins _ hm).2
  refine⟨?_,wl⟩;obtain⟨g,hg,rg,kg⟩:=zbW (fun d=>Rch (no C) S4 (gap ⟨c,2⟩) d) (boxE es) ⟨gap ⟨c,2⟩,zg7 hc (by rw[wl _ .refl];decide),.refl⟩;have kg':∀d,Rch (no C) S4 (gap ⟨c,2⟩) d->cLe g d:=fun d hd=>kg d (zg7 hc (by rw[wl _ hd];decide)) hd
  have gG:C g=false:=by have:=rg.dom (by simp[no,hE.2.2]);simpa[no]using this
  have fg:zcp C g:=⟨gG,fun d hd=>kg' d (rg.trans hd)⟩;obtain⟨fs,h1,hmm,_,_⟩:=hc.from hm;have le:∀e∈es,cLe g (gap e):=fun e he=>kg' _ (h1.reach e ((hmm e).mpr he)).2
  obtain⟨eE,eg⟩:=fg.edge;have cr:=zcz hc eE
  rw[eg, wl g rg, zb0 (c := (g.1, g.2-1)) fun e he hw ⟨k1, _⟩ => by have:=le e he;rw[cLe,zi0 hw]at this;simp only at k1;lia]at cr
  have md:⟨(g.1,g.2-1),2⟩∈es:=by
    unfold ind at cr
    by_cases z:⟨(g.1,g.2-1),2⟩∈es
    . exact z
    . rw[if_neg z]at cr;lia
  have a:=hmin _ md rfl;have a2:=le _ hm;rw[gap2]at a2 ⊢
  have e:(c.1,c.2+1)=g:=by unfold cLe at a a2;simp only at a a2;exact Prod.ext (by show c.1=g.1;lia) (by show c.2+1=g.2;lia)
  rw[e];exact fg
theorem zkh(c:Cell){s:Nat}(h:s<8):go (go c s) ((s+4) % 8)=c:=by
 have:∀s<8,mvNil s ((s+4) % 8)=true:=by decide
 exact zgr (this s h)
theorem Rch.symm{D:Cell->Bool}{S:List Nat}(hS:∀s∈S,s<8/\(s+4) % 8∈S){a c:Cell}(h:Rch D S a c)(ha:D a=true):Rch D S c a:=by
 induction h with
 |refl=>exact .refl
 |@step c s k hs hd ih =>
  obtain⟨h1,h2⟩:=hS s hs;have e:=zkh c h1
  have:Rch D S (go c s) c:=by have:=Rch.step (D:=D) (S:=S) (a:=go c s) .refl h2 (by rw[e];exact k.dom ha);rw[e]at this;exact this
  exact this.trans ih
theorem zjk:∀s∈S8,s<8/\(s+4) % 8∈S8:=by decide
theorem zcU:∀s∈S4,s<8/\(s+4) % 8∈S4:=by decide
theorem Rch.mono{D D':Cell->Bool}{S:List Nat}{a c:Cell}(h:Rch D S a c)(hD:∀x,D x=true->D' x=true):Rch D' S a c:=by
 induction h with
 |refl=>exact .refl
 |step _ hs hd ih=>exact .step ih hs (hD _ hd)
theorem zjE{C D:Cell->Bool}{e:Edge}(h:IsE C e)(hD:∀s,s<8->C (go e.c s)=false->D (go e.c s)=true):Rch D S4 (gap e) (gap (nxt C e)):=by
 have hw:=h.1;have s0:2*e.w∈S4:=zdQ.mpr ⟨(e.w+1) % 4,Nat.mod_lt _ (by decide),by lia⟩;have s2:(2*e.w+2) % 8∈S4:=zdQ.mpr ⟨(e.w+2) % 4,Nat.mod_lt _ (by decide),by lia⟩;rcases zaY h with⟨h1,_,q⟩ |⟨h1,h2,_,q⟩ |⟨h1,h2,_,q⟩ <;> rw[q]
 .have:gap ⟨go e.c ((2*e.w+7) % 8),(e.w+3) % 4⟩=gap e:=by unfold gap;simp only;rw[go_go (f1 _ hw)]
  rw[this];exact .refl
 .have e1:gap ⟨go e.c (2*e.w),e.w⟩=go (gap e) (2*e.w):=by unfold gap;simp only;rw[go_go (f2 _ hw),go_go (f9 _ hw)]
  rw[e1];refine .step .refl s0 ?_
  unfold gap;rw[go_go (f9 _ hw)];exact hD _ (Nat.mod_lt _ (by decide)) h1
 .have e1:gap ⟨e.c, (e.w + 1) % 4⟩ = go (go (gap e) (2 * e.w)) ((2 * e.w + 2) % 8) := by unfold gap;simp only;rw[f3 _ hw,go_go (f9 _ hw),go_go (f10 _ hw)]
  rw[e1];refine .step (.step .refl s0 ?_) s2 ?_
  .unfold gap;rw[go_go (f9 _ hw)];exact hD _ (Nat.mod_lt _ (by decide)) h1
  .unfold gap;rw[go_go (f9 _ hw),go_go (f10 _ hw)];exact hD _ (by lia) h2
theorem Closed.reachD{C D:Cell->Bool}{b:Edge}{es:List Edge}(h:Closed C b es)(hD:∀e∈es,∀s,s<8->C (go e.c s)=false->D (go e.c s)=true):∀e∈es,Rch D S4 (gap b) (gap e):=by
 have get:=h.1.get
 have k:∀i,i<es.length->Rch D S4 (gap b) (gap (it C b i)):=by
  intro i
  induction i with
  |zero=>intro _;exact .refl
  |succ i ih =>
   intro hi;have m:=List.mem_of_getElem? (get i (by lia));exact (ih (by lia)).trans (zjE (h.1.2.2.1 _ m) (hD _ m))
 intro e he;obtain⟨i,hi,ei⟩:=List.getElem_of_mem he;have:=get i hi;rw[List.getElem?_eq_getElem hi,ei]at this
 cases this
 exact k i hi
theorem Closed.piece{C:Cell->Bool}{b:Edge}{es:List Edge}(h:Closed C b es){P:List Cell}(hP:∀c,c∈P ↔ Rch C S8 b.c c):Closed (isIn P) b es/\(es.map (tt (isIn P))).sum=(es.map (tt C)).sum:=by
 have hE:=h.1.2.2.1;have hb:C b.c=true:=(hE b (List.mem_of_getElem? h.1.1)).2.1;have inP:∀e∈es,e.c∈P:=fun e he=>(hP _).mpr (h.reach e he).1
 have near:∀e∈es,∀s,s<8->isIn P (go e.c s)=C (go e.c s):=fun e he s hs=>by
  have r:=(hP _).mp (inP e he)
  cases z:C (go e.c s) with
  |true=>exact decide_eq_true ((hP _).mpr (.step r (zfA.mpr hs) z))
  |false =>
   refine decide_eq_false fun m=>?_
   have:=((hP _).mp m).dom hb;rw[z]at this;cases this
 have st:∀e∈es,stepB (isIn P) e=stepB C e:=fun e he=>by unfold stepB;rw[near e he _ (Nat.mod_lt _ (by decide)),near e he _ (by have:=(hE e he).1;lia)]
 have nx:∀e∈es,nxt (isIn P) e=nxt C e:=fun e he=>by unfold nxt;rw[st e he]
 obtain⟨⟨h0,hs,_,nd⟩,l,hl,hlb⟩:=h;refine⟨⟨⟨h0,fun i e f h1 h2=>by rw[nx e (List.mem_of_getElem? h1)];exact hs i e f h1 h2,fun e he=>⟨(hE e he).1,decide_eq_true (inP e he),?_⟩,nd⟩,l,hl,by rw[nx l (List.mem_of_getElem? hl)];exact hlb⟩,?_⟩
 .unfold gap;rw[near e he _ (Nat.mod_lt _ (by decide))];exact (hE e he).2.2
 .congr 1
  apply List.map_congr_left
  intro e he;unfold tt;rw[st e he]
structure BoxOf (P:List Cell) (l lo r hi:Int):Prop where
 all:∀c∈P,l<c.1/\c.1<r/\lo<c.2/\c.2<hi
 bot:∃c∈P,c.2=lo+1
def inBox(l lo r hi:Int)(c:Cell):Prop:=l<=c.1/\c.1<=r/\lo<=c.2/\c.2<=hi
theorem wd_in{C:Cell->Bool}{b:Edge}{es:List Edge}(h:Closed C b es){P:List Cell}(hP:∀e∈es,e.c∈P){l lo r hi:Int}(hb:BoxOf P l lo r hi){c:Cell}(hz:wd es c≠0):l<=c.1/\c.1<=r/\lo<c.2/\c.2<hi:=by obtain⟨e,he,f,hf,r1,r2,l1,l2,w1,w2⟩:=zhU h hz;have a1:=hb.all _ (hP e he);have a2:=hb.all _ (hP f hf);unfold px at l1 l2;split at l1 <;> split at l2 <;> lia
structure FreeOf (D:Cell->Bool) (P:List Cell) (l lo r hi:Int):Prop where
 iff:∀c,D c=true ↔ (inBox l lo r hi c/\c ∉ P)
theorem go6(g:Cell):go g 6=(g.1,g.2-1):=by simp[go,mv];lia
section
variable {C D:Cell->Bool}{b:Edge}{es:List Edge}{P:List Cell}{l lo r hi:Int}
theorem zgs{L:List Cell}(hF:FreeOf D P l lo r hi){a:Cell}(ha:D a=true)(hl:∀d, Rch D S4 a d -> d ∈ L)(hlo:∀d, Rch D S4 a d -> lo < d.2) :
  ∃h,Rch D S4 a h/\(h.1,h.2-1)∈P:=by
 obtain⟨h,_,rh,kh⟩:=zbW (fun d=>Rch D S4 a d) L ⟨a,hl a .refl,.refl⟩;refine⟨h,rh,?_⟩
 apply Classical.byContradiction
 intro hn;have hD:=rh.dom ha;obtain⟨⟨i1,i2,i3,i4⟩,_⟩:=(hF.iff h).mp hD;have hl':=hlo h rh;have e6:=go6 h;have rr:Rch D S4 a (go h 6):=.step rh (by decide) (by rw[e6];exact (hF.iff _).mpr ⟨⟨by simpa using i1,by simpa using i2,by simp only;lia,by simp only;lia⟩,hn⟩);have:=kh _ (hl _ rr) rr;rw[e6]at this;simp[cLe]at this;lia
theorem wd_01(h:Closed C b es)(hs:(es.map (tt C)).sum=4)(c:Cell):wd es c=0∨wd es c=1:=by
 have ins:∀e∈es,wd es e.c=1/\wd es (gap e)=0:=by
  rcases h.inside with⟨_,k⟩ |⟨s,_⟩
  .exact k
  .lia
 have r:=zdt (fun e he=>(h.1.2.2.1 e he).1) h.1.2.2.2
 have far:∃M:Int,∀e∈es,px e<=M:=by
  generalize es=l
  induction l with
  |nil=>exact⟨0,fun e he=>by cases he⟩
  |cons a l ih =>
   obtain⟨M,hM⟩:=ih
   exact⟨max M (px a),fun e he=>by
    rcases List.mem_cons.mp he with rfl |he
    .lia
    .have:=hM e he;lia⟩
 obtain⟨M,hM⟩:=far
 have k:∀(n:Nat) (x y:Int),M-x<=n->wd es (x,y)=0∨wd es (x,y)=1:=by
  intro n
  induction n with
  |zero =>
   intro x y hx;exact .inl (zb0 fun e he _ ⟨_,k2⟩=>by have:=hM e he;simp only at k2;lia)
  |succ n ih =>
   intro x y hx;have i:=ih (x+1) y (by lia);have rr:=r x y
   by_cases m1:⟨(x,y),1⟩∈es
   .exact .inr (ins _ m1).1
   by_cases m3:⟨(x+1,y),3⟩∈es
   .have:=(ins _ m3).2;rw[show gap ⟨(x+1,y),3⟩=(x,y) by simp[gap,go,mv];lia]at this;exact .inl this
   .unfold ind at rr;rw[if_neg m1,if_neg m3]at rr;rcases i with i |i
    .left;lia
    .right;lia
 exact k (M-c.1).toNat c.1 c.2 (by lia)
theorem wd_0m(h:Closed C b es)(hs:(es.map (tt C)).sum=-4)(c:Cell):wd es c=0∨wd es c=-1:=by
 have ins:∀e∈es,wd es e.c=0/\wd es (gap e)=-1:=by
  rcases h.inside with⟨s,_⟩ |⟨_,k⟩
  .lia
  .exact k
 have r:=zdt (fun e he=>(h.1.2.2.1 e he).1) h.1.2.2.2
 have far:∃M:Int,∀e∈es,px e<=M:=by
  generalize es=l
  induction l with
  |nil=>exact⟨0,fun e he=>by cases he⟩
  |cons a l ih =>
   obtain⟨M,hM⟩:=ih
   exact⟨max M (px a),fun e he=>by
    rcases List.mem_cons.mp he with rfl |he
    .lia
    .have:=hM e he;lia⟩
 obtain⟨M,hM⟩:=far
 have k:∀(n:Nat) (x y:Int),M-x<=n->wd es (x,y)=0∨wd es (x,y)=-1:=by
  intro n
  induction n with
  |zero =>
   intro x y hx;exact .inl (zb0 fun e he _ ⟨_,k2⟩=>by have:=hM e he;simp only at k2;lia)
  |succ n ih =>
   intro x y hx;have i:=ih (x+1) y (by lia);have rr:=r x y
   by_cases m1:⟨(x,y),1⟩∈es
   .exact .inl (ins _ m1).1
   by_cases m3:⟨(x+1,y),3⟩∈es
   .have:=(ins _ m3).2;rw[show gap ⟨(x+1,y),3⟩=(x,y) by simp[gap,go,mv];lia]at this;exact .inr this
   .unfold ind at rr;rw[if_neg m1,if_neg m3]at rr;rcases i with i |i
    .left;lia
    .right;lia
 exact k (M-c.1).toNat c.1 c.2 (by lia)
end
end RP
def fillT:List Int->List Int
 |a::b::r=>(List.range (b-a).toNat).map (fun i:Nat=>a+(i:Int))++fillT r
 |_=>[]
theorem zfL{k:Int}(hk:k ≠ 0):∀(T:List Int) (f:Int -> Int), T.Pairwise (· < ·) -> (∀x, (∀t ∈ T, x < t) -> f x=0) -> (∀x, (∀t ∈ T, t <= x) -> f x=0) -> (∀x, x ∈ T ↔ f (x-1) ≠ f x) -> (∀x, f x=0 ∨ f x=k) ->
    T.length % 2=0/\(∀x,x∈fillT T ↔ f x≠0)/\(fillT T).Pairwise (·<·)/\∀x∈fillT T,∀t,T.head?=some t->t<=x
  |[],f,_,h0,_,_,_=>⟨rfl,fun x=>⟨fun h=>(nomatch h),fun h=>absurd (h0 x fun _ h=>(nomatch h)) h⟩,.nil,fun _ h=>(nomatch h)⟩
  |[t],f,_,h0,h1,hT,_=>by
    have e0:f (t-1)=0:=h0 _ fun u hu=>by rw[List.mem_singleton.mp hu];lia
    have e1:f t=0:=h1 _ fun u hu=>by rw[List.mem_singleton.mp hu];exact Int.le_refl _
    exact absurd (e0.trans e1.symm) ((hT t).mp (List.mem_singleton.mpr rfl))
  |a::b::r,f,hp,h0,h1,hT,h2=>by
    obtain⟨pa,pr'⟩:=List.pairwise_cons.mp hp;obtain⟨pb,pr⟩:=List.pairwise_cons.mp pr';have hab:a<b:=pa b List.mem_cons_self
    have e0:f (a-1)=0:=h0 _ fun u hu=>by
      rcases List.mem_cons.mp hu with rfl |hu
      . lia
      . have:=pa u hu;lia
    have ea:f a=k:=by
      have:=(hT a).mp List.mem_cons_self;rcases h2 a with q |q
      . lia
      . exact q
    have mid:∀n:Nat,a+(n:Int)<b->f (a+n)=k:=by
      intro n
      induction n with
      |zero=>intro _;simpa using ea
      |succ m ih =>
        intro hm;have hq:=ih (by lia)
        have hn:¬ (a+((m+1:Nat):Int))∈a::b::r:=fun z=>by
          rcases List.mem_cons.mp z with z |z
          . lia
          rcases List.mem_cons.mp z with z |z
          . lia
          . have:=pb _ z;lia
        have:=mt (hT _).mpr hn;have e:a+((m+1:Nat):Int)-1=a+(m:Int):=by lia
        rw[e,hq]at this;exact (Classical.not_not.mp this).symm
    have mid':∀x,a<=x->x<b->f x=k:=fun x h1 h2=>by
      have:=mid (x-a).toNat (by lia)
      rwa [show a+((x-a).toNat:Int)=x by lia]at this
    have eb:f b=0:=by
      have:=(hT b).mp (by simp);rw[mid' (b-1) (by lia) (by lia)]at this;rcases h2 b with q |q
      . exact q
      . exact absurd q.symm this
    have low:∀x,x<a->f x=0:=fun x hx=>h0 x fun u hu=>by
      rcases List.mem_cons.mp hu with rfl |hu
      . exact hx
      . have:=pa u hu;lia
    obtain⟨i1, i2, i3, i4⟩ := zfL hk r (fun x => if x < b then 0 else f x) pr (fun x hx => by
        by_cases q:x<b
        . simp[q]
        . simp only[q,if_false]
          have gb:∀n:Nat,b+(n:Int)<=x->f (b+n)=0:=by
            intro n
            induction n with
            |zero=>intro _;simpa using eb
            |succ m ih =>
              intro hm;have hq:=ih (by lia)
              have hn:¬ (b+((m+1:Nat):Int))∈a::b::r:=fun z=>by
                rcases List.mem_cons.mp z with z |z
                . lia
                rcases List.mem_cons.mp z with z |z
                . lia
                . have:=hx _ z;lia
              have:=mt (hT _).mpr hn;have e:b+((m+1:Nat):Int)-1=b+(m:Int):=by lia
              rw[e,hq]at this;exact (Classical.not_not.mp this).symm
          have:=gb (x-b).toNat (by lia)
          rwa [show b+((x-b).toNat:Int)=x by lia]at this)
      (fun x hx=>by
        by_cases q:x<b
        . simp[q]
        . simp only[q,if_false];refine h1 x fun u hu=>?_
          rcases List.mem_cons.mp hu with rfl |hu
          . lia
          rcases List.mem_cons.mp hu with rfl |hu
          . lia
          . exact hx u hu)
      (fun x=>by
        have m:x∈a::b::r ↔ x=a∨x=b∨x∈r:=by simp
        have hx:=hT x;rw[m]at hx
        by_cases q:x<b
        . have:¬ x∈r:=fun z=>by have:=pb x z;lia
          simp[q,show x-1<b by lia,this]
        . by_cases q2:x=b
          . subst q2;have:¬ x∈r:=fun z=>by have:=pb x z;lia
            simp[eb,this,show x-1<x by lia]
          . have n1:¬ x-1<b:=by lia
            simp only[q,n1,if_false];rw[<- hx];exact⟨fun z=>.inr (.inr z),fun z=>by rcases z with z |z |z;lia;exact absurd z q2;exact z⟩)
      (fun x=>by
        by_cases q:x<b
        . simp[q]
        . simp only[q,if_false];exact h2 x)
    have inR:∀x,x∈(List.range (b-a).toNat).map (fun i:Nat=>a+(i:Int)) ↔ a<=x/\x<b:=fun x=>by simp only[List.mem_map,List.mem_range];exact⟨fun⟨n,hn,e⟩=>by lia,fun⟨h1,h2⟩=>⟨(x-a).toNat,by lia,by lia⟩⟩
    have gt:∀x∈fillT r,b<=x:=fun x hx=>by
      have:=(i2 x).mp hx
      by_cases q:x<b
      . simp[q]at this
      . lia
    refine⟨by simp only[List.length_cons];lia,fun x=>?_,?_,fun x hx t ht=>?_⟩
    . show x∈_++fillT r ↔ _;rw[List.mem_append,inR]
      by_cases q:x<b
      . constructor
        . rintro (⟨z,_⟩ |z)
          . rw[mid' x z q];exact hk
          . exact absurd (gt x z) (by lia)
        . intro z;refine .inl ⟨?_,q⟩
          by_cases qa:a<=x
          . exact qa
          . exact absurd (low x (by lia)) z
      . rw[i2 x];simp only[q,and_false,false_or,if_false]
    . show List.Pairwise (·<·) (_++fillT r);rw[List.pairwise_append];refine⟨?_,i3,fun x hx y hy=>?_⟩
      . rw[List.pairwise_map];exact List.pairwise_lt_range.imp fun h=>by lia
      . have:=(inR x).mp hx;have:=gt y hy;lia
    . cases ht
      rcases List.mem_append.mp hx with z |z
      . exact ((inR x).mp z).1
      . have:=gt x z;lia
namespace RP
def isUp(y:Int)(e:Edge):Bool:=(e.w == 1 ||e.w == 3) && e.c.2 == y
def upr(es:List Edge)(y:Int):List Int:=(es.filter (isUp y)).map px
theorem zca{y:Int}{e:Edge}:isUp y e=true ↔ (e.w=1∨e.w=3)/\e.c.2=y:=by simp[isUp]
theorem zjV{C:Cell->Bool}{b:Edge}{es:List Edge}(h:Closed C b es){y:Int}{e f:Edge}(he:e∈es)(hf:f∈es)(ue:isUp y e=true)(uf:isUp y f=true)(hp:px e=px f):e=f:=by
 obtain⟨w1,y1⟩:=zca.mp ue;obtain⟨w2,y2⟩:=zca.mp uf;obtain⟨⟨ex,ey⟩,ew⟩:=e;obtain⟨⟨fx,fy⟩,fw⟩:=f;have e1:=(h.1.2.2.1 _ he).2;have f1:=(h.1.2.2.1 _ hf).2;simp only at w1 w2 y1 y2;subst y1;subst y2;rcases w1 with rfl |rfl <;> rcases w2 with rfl |rfl <;> simp[px]at hp
 .subst hp;rfl
 .exfalso;simp[gap,go,mv]at e1 f1;rw[<- hp,e1.2]at f1
  cases f1.1
 .exfalso;simp[gap,go,mv]at e1 f1;rw[hp,f1.2]at e1
  cases e1.1
 .subst hp;rfl
theorem zfg{C:Cell->Bool}{b:Edge}{es:List Edge}(h:Closed C b es)(y:Int):(upr es y).Nodup:=by unfold upr;rw[List.Nodup,List.pairwise_map];have nd:(es.filter (isUp y)).Nodup:=h.1.2.2.2.filter _;refine (List.Pairwise.imp_of_mem (fun {e f} he hf hne=>?_) nd);have m1:=List.mem_filter.mp he;have m2:=List.mem_filter.mp hf;exact fun hp=>hne (zjV h m1.1 m2.1 m1.2 m2.2 hp)
theorem zkQ{C:Cell->Bool}{b:Edge}{es:List Edge}(h:Closed C b es)(x y:Int):x∈upr es y ↔ wd es (x-1,y)≠wd es (x,y):=by
 have hr:=zdt (fun e he=>(h.1.2.2.1 e he).1) h.1.2.2.2 (x-1) y;rw[show x-1+1=x by lia]at hr
 have m:x∈upr es y ↔ (⟨(x-1,y),1⟩:Edge)∈es∨(⟨(x,y),3⟩:Edge)∈es:=by
  unfold upr;rw[List.mem_map];constructor
  .rintro⟨⟨⟨ex,ey⟩,ew⟩,he,hp⟩;obtain⟨m1,m2⟩:=List.mem_filter.mp he;obtain⟨w1,y1⟩:=zca.mp m2;simp only at w1 y1;subst y1;rcases w1 with rfl |rfl
   .simp[px]at hp;refine .inl ?_
    rw[show x-1=ex by lia];exact m1
   .simp[px]at hp;refine .inr ?_
    rw[<- hp];exact m1
  .rintro (m |m)
   .exact⟨_,List.mem_filter.mpr ⟨m,by simp[isUp]⟩,by simp[px]⟩
   .exact⟨_,List.mem_filter.mpr ⟨m,by simp[isUp]⟩,by simp[px]⟩
 rw[m];unfold ind at hr
 by_cases q1:(⟨(x-1,y),1⟩:Edge)∈es <;> by_cases q2:(⟨(x,y),3⟩:Edge)∈es <;> simp only[q1,q2,if_true,if_false]at hr <;> simp[q1,q2]
 .exfalso;have:=zjV (y:=y) h q1 q2 (by simp[isUp]) (by simp[isUp]) (by simp[px]);have:=congrArg Edge.w this;simp at this
 .lia
 .lia
 .lia
theorem zeG{C:Cell -> Bool}{b:Edge}{es:List Edge}(h:Closed C b es)(hs:(es.map (tt C)).sum=4 ∨ (es.map (tt C)).sum = -4){y:Int}{T:List Int}(hp:T.Perm (upr es y))(ht:T.Pairwise (· <= ·)) :
  T.length % 2=0/\(∀x,x∈fillT T ↔ wd es (x,y)≠0)/\(fillT T).Pairwise (·<·):=by
 have nd:T.Nodup:=hp.nodup_iff.mpr (zfg h y)
 have st:T.Pairwise (·<·):=by refine List.Pairwise.imp (R:=fun a b:Int=>a<=b/\a≠b) (fun {a b} q=>by lia) (ht.and nd)
 have mem:∀x,x∈T ↔ wd es (x-1,y)≠wd es (x,y):=fun x=>by rw[hp.mem_iff];exact zkQ h x y
 have pxT:∀e∈es,e.w=1∨e.w=3->e.c.2=y->px e∈T:=fun e he w1 y1=>hp.mem_iff.mpr (List.mem_map.mpr ⟨e,List.mem_filter.mpr ⟨he,zca.mpr ⟨w1,y1⟩⟩,rfl⟩)
 obtain⟨k,hk,h2⟩:∃k:Int,k≠0/\∀c,wd es c=0∨wd es c=k:=by
  rcases hs with hs |hs
  .exact⟨1,by decide,wd_01 h hs⟩
  .exact⟨-1,by decide,wd_0m h hs⟩
 obtain⟨a1,a2,a3,_⟩:=zfL hk T (fun x=>wd es (x,y)) st (fun x hx=>zhT h fun e he w1 y1=>hx _ (pxT e he w1 y1)) (fun x hx=>zb0 fun e he w1 z=>by have:=hx _ (pxT e he w1 z.1);have:=z.2;simp only at this;lia) mem fun x=>h2 (x,y)
 exact⟨a1,a2,a3⟩
section
variable {D:Cell->Bool}{P:List Cell}{l lo r hi:Int}
theorem go_st(c:Cell):go c 0=(c.1+1,c.2)/\go c 2=(c.1,c.2+1)/\go c 4=(c.1-1,c.2)/\go c 6=(c.1,c.2-1):=by refine⟨?_,?_,?_,?_⟩ <;> simp[go,mv] <;> lia
theorem ring(hB:BoxOf P l lo r hi)(hF:FreeOf D P l lo r hi){c:Cell}(hin:inBox l lo r hi c)(hb:c.1=l∨c.1=r∨c.2=lo∨c.2=hi):Rch D S4 (l,lo) c:=by
 obtain⟨i1,i2,i3,i4⟩:=hin
 have hD:∀x y:Int,l<=x->x<=r->lo<=y->y<=hi->(x=l∨x=r∨y=lo∨y=hi)->D (x,y)=true:=fun x y a1 a2 a3 a4 a5=>(hF.iff _).mpr ⟨⟨a1,a2,a3,a4⟩,fun m=>by have:=hB.all _ m;simp only at this;lia⟩
 have rowB:∀n:Nat,l+n<=r->Rch D S4 (l,lo) (l+n,lo):=by
  intro n
  induction n with
  |zero=>intro _;simp;exact .refl
  |succ n ih =>
   intro hn;have e0:go (l+(n:Int),lo) 0=(l+((n+1:Nat):Int),lo):=by rw[(go_st _).1];exact Prod.ext (by simp only;lia) rfl
   rw[<- e0];refine .step (ih (by lia)) (by decide) ?_
   rw[e0];exact hD _ _ (by lia) (by lia) (Int.le_refl _) (by lia) (.inr (.inr (.inl rfl)))
 have colU:∀x:Int,(x=l∨x=r)->l<=x->x<=r->Rch D S4 (l,lo) (x,lo)->∀n:Nat,lo+n<=hi->Rch D S4 (l,lo) (x,lo+n):=by
  intro x hx x1 x2 h0 n
  induction n with
  |zero=>intro _;simpa using h0
  |succ n ih =>
   intro hn;have e2:go (x,lo+(n:Int)) 2=(x,lo+((n+1:Nat):Int)):=by rw[(go_st _).2.1];exact Prod.ext rfl (by simp only;lia)
   rw[<- e2];refine .step (ih (by lia)) (by decide) ?_
   rw[e2];exact hD _ _ x1 x2 (by lia) (by lia) (hx.elim .inl fun z=>.inr (.inl z))
 have b0:Rch D S4 (l,lo) (l,lo):=.refl
 have bR:Rch D S4 (l,lo) (r,lo):=by
  have:=rowB (r-l).toNat (by lia)
  rwa [show l+(((r-l).toNat:Nat):Int)=r by lia]at this
 have tL:Rch D S4 (l,lo) (l,hi):=by
  have:=colU l (.inl rfl) (Int.le_refl _) (by lia) b0 (hi-lo).toNat (by lia)
  rwa [show lo+(((hi-lo).toNat:Nat):Int)=hi by lia]at this
 have rowT:∀n:Nat,l+n<=r->Rch D S4 (l,lo) (l+n,hi):=by
  intro n
  induction n with
  |zero=>intro _;simpa using tL
  |succ n ih =>
   intro hn;have e0:go (l+(n:Int),hi) 0=(l+((n+1:Nat):Int),hi):=by rw[(go_st _).1];exact Prod.ext (by simp only;lia) rfl
   rw[<- e0];refine .step (ih (by lia)) (by decide) ?_
   rw[e0];exact hD _ _ (by lia) (by lia) (by lia) (Int.le_refl _) (.inr (.inr (.inr rfl)))
 obtain⟨x,y⟩:=c;simp only at i1 i2 i3 i4 hb;have ey:lo+(((y-lo).toNat:Nat):Int)=y:=by lia
 have ex:l+(((x-l).toNat:Nat):Int)=x:=by lia
 rcases hb with rfl |rfl |rfl |rfl
 .have:=colU x (.inl rfl) (Int.le_refl _) i2 b0 (y-lo).toNat (by lia)
  rwa [ey]at this
 .have:=colU x (.inr rfl) i1 (Int.le_refl _) bR (y-lo).toNat (by lia)
  rwa [ey]at this
 .have:=rowB (x-l).toNat (by lia)
  rwa [ex]at this
 .have:=rowT (x-l).toNat (by lia)
  rwa [ex]at this
theorem ziL(hF:FreeOf D P l lo r hi){c d:Cell}(h:Rch D S4 c d):Rch (no (isIn P)) S4 c d:=h.mono fun x hx=>by have:=((hF.iff x).mp hx).2;simp[no,isIn,this]
theorem zlG(hB:BoxOf P l lo r hi)(hF:FreeOf D P l lo r hi){c:Cell}(hc:D c=true)(hn:¬ Rch D S4 (l,lo) c){d:Cell}(h:Rch (no (isIn P)) S4 c d):Rch D S4 c d:=by
 induction h with
 |refl=>exact .refl
 |@step d s k hs hd ih =>
  have dD:=ih.dom hc;obtain⟨hin,_⟩:=(hF.iff d).mp dD;have hnb:¬ (d.1=l∨d.1=r∨d.2=lo∨d.2=hi):=fun z=>hn ((ring hB hF hin z).trans (ih.symm zcU hc))
  refine .step ih hs ((hF.iff _).mpr ⟨?_,?_⟩)
  .obtain⟨i1,i2,i3,i4⟩:=hin;have g:=go_st d;have:s=0∨s=2∨s=4∨s=6:=by simpa[S4]using hs
   unfold inBox;rcases this with rfl |rfl |rfl |rfl
   .rw[g.1];simp only;lia
   .rw[g.2.1];simp only;lia
   .rw[g.2.2.1];simp only;lia
   .rw[g.2.2.2];simp only;lia
  .intro m;simp[no,isIn,m]at hd
theorem zlS(hB:BoxOf P l lo r hi)(hF:FreeOf D P l lo r hi):D (l,lo)=true:=by obtain⟨c,hc,_⟩:=hB.bot;have:=hB.all c hc;refine (hF.iff _).mpr ⟨⟨by simp,by simp only;lia,by simp,by simp only;lia⟩,fun m=>?_⟩;have:=hB.all _ m;simp only at this;lia
end
section
variable {C D:Cell->Bool}{b:Edge}{es:List Edge}{P:List Cell}{l lo r hi:Int}
abbrev InB(P:List Cell)(l lo r hi:Int):Prop:=∀c∈P,l<c.1/\c.1<r/\lo<c.2/\c.2<hi
theorem ziK{S:List Nat}(h0:0∈S)(hP:InB P l lo r hi)(hF:FreeOf D P l lo r hi)(hlh:lo<=hi):∀n:Nat,l+n<=r->Rch D S (l,lo) (l+n,lo):=by
 intro n
 induction n with
 |zero=>intro _;simp;exact .refl
 |succ n ih =>
  intro hn;have e0:go (l+(n:Int),lo) 0=(l+((n+1:Nat):Int),lo):=by rw[(go_st _).1];exact Prod.ext (by simp only;lia) rfl
  rw[<- e0];refine .step (ih (by lia)) h0 ?_
  rw[e0];refine (hF.iff _).mpr ⟨⟨by simp only;lia,by simp only;lia,by simp,by simp only;lia⟩,fun m=>?_⟩;have:=hP _ m;simp only at this;lia
theorem down{S:List Nat}(h2:2∈S)(hF:FreeOf D P l lo r hi){x y:Int}(hx:l<=x/\x<=r)(hy:lo<=y/\y<=hi)(hn:∀z,lo<=z->z<=y->(x,z) ∉ P):∀n:Nat,lo+n<=y->Rch D S (x,lo) (x,lo+n):=by
 intro n
 induction n with
 |zero=>intro _;simp;exact .refl
 |succ n ih =>
  intro hn';have e2:go (x,lo+(n:Int)) 2=(x,lo+((n+1:Nat):Int)):=by rw[(go_st _).2.1];exact Prod.ext rfl (by simp only;lia)
  rw[<- e2];refine .step (ih (by lia)) h2 ?_
  rw[e2];exact (hF.iff _).mpr ⟨⟨hx.1,hx.2,by simp only;lia,by simp only;lia⟩,hn _ (by lia) (by lia)⟩
theorem toLow{S:List Nat}(h0:0∈S)(h2:2∈S)(hP:InB P l lo r hi)(hF:FreeOf D P l lo r hi){x y:Int}(hx:l<=x/\x<=r)(hy:lo<=y/\y<=hi)(hn:∀z,lo<=z->z<=y->(x,z) ∉ P):Rch D S (l,lo) (x,y):=by have a:=ziK (S:=S) h0 hP hF (by lia) (x-l).toNat (by lia);rw[show l+(((x-l).toNat:Nat):Int)=x by lia]at a;have b:=down (S:=S) h2 hF hx hy hn (y-lo).toNat (by lia);rw[show lo+(((y-lo).toNat:Nat):Int)=y by lia]at b;exact a.trans b
theorem zjI(hP:InB P l lo r hi){c:Cell}(hc:c∈P)(s:Nat):inBox l lo r hi (go c s):=by
 have:=hP c hc
 have h1:-1<=(mv s).1/\(mv s).1<=1/\-1<=(mv s).2/\(mv s).2<=1:=by
  rcases Nat.lt_or_ge s 8 with z |z
  .have:∀s<8,-1<=(mv s).1/\(mv s).1<=1/\-1<=(mv s).2/\(mv s).2<=1:=by decide
   exact this s z
  .unfold mv;rw[List.getD_eq_getElem?_getD,List.getElem?_eq_none (by simpa using z)];decide
 unfold inBox go;simp only;lia
theorem zkn(l lo r hi:Int):∃L:List Cell,∀d,inBox l lo r hi d->d∈L:=⟨(List.range (r-l+1).toNat).flatMap fun i:Nat=>(List.range (hi-lo+1).toNat).map fun j:Nat=>((l+(i:Int),lo+(j:Int)):Cell),fun d ⟨i1,i2,i3,i4⟩ =>
 List.mem_flatMap.mpr ⟨(d.1-l).toNat,List.mem_range.mpr (by lia),List.mem_map.mpr ⟨(d.2-lo).toNat,List.mem_range.mpr (by lia),Prod.ext (by show l+(((d.1-l).toNat:Nat):Int)=d.1;lia) (by show lo+(((d.2-lo).toNat:Nat):Int)=d.2;lia)⟩⟩⟩
theorem zlq(h:Closed C b es)(hs:(es.map (tt C)).sum=4)(hP:∀c,c∈P ↔ Rch C S8 b.c c)(hB:InB P l lo r hi)(hF:FreeOf D P l lo r hi){c:Cell}(hc:D c=true):Rch D S4 (l,lo) c ↔ wd es c=0:=by
 have bm:b∈es:=List.mem_of_getElem? h.1.1;have inP:∀e∈es,e.c∈P:=fun e he=>(hP _).mpr (h.reach e he).1
 have hbC:C b.c=true:=(h.1.2.2.1 b bm).2.1;have PC:∀x∈P,C x=true:=fun x hx=>((hP x).mp hx).dom hbC
 have ins:∀e∈es,wd es e.c=1/\wd es (gap e)=0:=by
  rcases h.inside with⟨_,k⟩ |⟨s,_⟩
  .exact k
  .lia
 have bx:=hB _ (inP b bm);have hDg:∀e∈es,∀s,s<8->C (go e.c s)=false->D (go e.c s)=true:=fun e he s _ hf=>(hF.iff _).mpr ⟨zjI hB (inP e he) s,fun m=>by rw[PC _ m]at hf;cases hf⟩
 have fg:∀e∈es,Rch D S4 (gap b) (gap e)/\D (gap e)=true:=fun e he=>⟨h.reachD hDg e he,hDg e he _ (Nat.mod_lt _ (by decide)) (h.1.2.2.1 e he).2.2⟩
 have cornerP:∀x,(x,lo) ∉ P:=fun x m=>by have:=hB _ m;simp only at this;lia
 have cD:D (l,lo)=true:=(hF.iff _).mpr ⟨⟨by simp,by simp only;lia,by simp,by simp only;lia⟩,cornerP l⟩;have wlow:∀x,wd es (x,lo)=0:=fun x=>zb0 fun e he _ ⟨k1,_⟩=>by have:=hB _ (inP e he);simp only at k1;lia
 have pz:∀x∈P,wd es x=1:=fun x hx=>(zeu h ((hP x).mp hx) hbC).trans (ins b bm).1
 obtain⟨h1,_⟩:=h.piece hP
 have lots:∀{a d:Cell},Rch D S4 a d->D a=true->wd es d=wd es a:=fun {a d} k ha=>by
  refine zdz h1 (k.mono fun x hx=>?_) ?_
  .have:=((hF.iff x).mp hx).2;simp[no,isIn,this]
  .exact decide_eq_false ((hF.iff a).mp ha).2
 constructor
 .intro k;rw[lots k cD];exact wlow l
 .intro hz
  apply Classical.byContradiction
  intro hn;have lotc:∀d,Rch D S4 c d->wd es d=0:=fun d hd=>(lots hd hc).trans hz
  have up:∀d,Rch D S4 c d->lo<d.2:=fun d hd=>by
   have dD:=hd.dom hc;obtain⟨⟨i1,i2,i3,i4⟩,_⟩:=(hF.iff d).mp dD;rcases Int.lt_or_le lo d.2 with z |z
   .exact z
   .exfalso;have e2:d.2=lo:=by lia
    have:=ziK (S:=S4) (by decide) hB hF (by lia) (d.1-l).toNat (by lia);rw[show l+(((d.1-l).toNat:Nat):Int)=d.1 by lia]at this;have ed:d=(d.1,lo):=Prod.ext rfl e2;rw[<- ed]at this;exact hn (this.trans (hd.symm zcU hc))
  obtain⟨L,hL⟩:=zkn l lo r hi;obtain⟨g,rg,hg⟩:=zgs (L:=L) hF hc (fun d hd=>hL d ((hF.iff d).mp (hd.dom hc)).1) up;have gD:=rg.dom hc;have gp:gap ⟨(g.1,g.2-1),2⟩=g:=by rw[gap2];exact Prod.ext rfl (by simp)
  have eE:IsE (isIn P) ⟨(g.1,g.2-1),2⟩:=⟨(by show (2:Nat)<4;decide),decide_eq_true hg,by rw[gp];exact decide_eq_false ((hF.iff g).mp gD).2⟩;have cr:=zcz h1 eE;rw[gp,lotc g rg,pz _ hg]at cr
  have me:⟨(g.1,g.2-1),2⟩∈es:=by
   unfold ind at cr
   by_cases z:⟨(g.1,g.2-1),2⟩∈es
   .exact z
   .rw[if_neg z]at cr;lia
  obtain⟨c0,m0,hp0,hmin⟩:=zbW (fun _=>True) P ⟨b.c,inP b bm,trivial⟩
  have low:∀x z,z<c0.2->(x,z) ∉ P:=fun x z hz' m=>by have:=hmin _ m trivial;unfold cLe at this;simp only at this;lia
  have g0:gap ⟨c0,0⟩=(c0.1,c0.2-1):=by simp[gap,go,mv];lia
  have E0:IsE (isIn P) ⟨c0,0⟩:=⟨(by show (0:Nat)<4;decide),decide_eq_true m0,by rw[g0];exact decide_eq_false (low _ _ (by lia))⟩;have cr0:=zcz h1 E0;have wz:wd es (c0.1,c0.2-1)=0:=zb0 fun e he _ ⟨k1,_⟩=>low e.c.1 e.c.2 (by simp only at k1;lia) (inP e he)
  rw[g0,wz,show (⟨c0,0⟩:Edge).c=c0 from rfl,pz _ m0]at cr0
  have m00:⟨c0,0⟩∈es:=by
   unfold ind at cr0
   by_cases z:⟨c0,0⟩∈es
   .exact z
   .rw[if_neg z]at cr0;lia
  have r1:=(fg _ me).1;have r0:=(fg _ m00).1;rw[gp]at r1;rw[g0]at r0;have b0:=hB c0 m0;have rr:=toLow (S:=S4) (by decide) (by decide) hB hF (x:=c0.1) (y:=c0.2-1) (by lia) (by lia) fun z _ hz'=>low _ _ (by lia)
  exact hn (rr.trans ((r0.symm zcU (fg b bm).2).trans (r1.trans (rg.symm zcU hc))))
theorem zkV (h : Closed C b es) (hs : (es.map (tt C)).sum = -4) (hbw : b.w = 2) (hfg : zcp C (gap b)) (hP : ∀ c, c ∈ P ↔ Rch (no C) S4 (gap b) c) (hB : InB P l lo r hi) (hC : ∀ x, C x = true → l < x.1 ∧ x.1 < r ∧ lo < x.2 ∧ x.2 < hi) (hF : FreeOf D P l lo r hi){c : Cell}(hc : D c = true) :
    Rch D S8 (l,lo) c ↔ wd es c=0:=by
  have bm:b∈es:=List.mem_of_getElem? h.1.1
  have bE:=h.1.2.2.1 b bm
  have gapP:∀ e∈es,gap e∈P:=fun e he=>(hP _).mpr (h.reach e he).2
  have Pno:∀ x∈P,C x=false:=fun x hx=>by
    have:=((hP x).mp hx).dom (show no C (gap b)=true by simp[no,bE.2.2])
    simpa[no] using this
  have ins:∀ e∈es,wd es e.c=0∧wd es (gap e)=-1:=by
    rcases h.inside with⟨s,_⟩ | ⟨_,k⟩
    . lia
    . exact k
  have pz:∀ x∈P,wd es x=-1:=fun x hx=>(zdz h ((hP x).mp hx) hfg.1).trans (ins b bm).2
  have near:∀ x s,s∈S4→C x=false→go x s∈P→x∈P:=fun x s hs4 hx hm=>by
    obtain⟨s8,so⟩:=zcU s hs4
    have e:=zkh x s8
    rw[← e]
    exact (hP _).mpr (.step ((hP _).mp hm) so (by rw[e];simp[no,hx]))
  have st:∀ x s,s∈S4→x ∉ P→go x s ∉ P→wd es x=wd es (go x s):=fun x s hs4 h1 h2=>by
    obtain⟨w,hw,rfl⟩:=zdQ.mp hs4
    have:=zev h ⟨x,w⟩ hw
    have g1:gap ⟨x,w⟩=go x ((2*w+6) % 8):=rfl
    have i1:ind es ⟨x,w⟩=0:=by
      unfold ind
      rw[if_neg (fun m=>h2 (by rw[← g1];exact gapP _ m))]
    have i2:ind es (fac ⟨x,w⟩)=0:=by
      unfold ind
      rw[if_neg (fun m=>h1 (by have:=gapP _ m;rw[zi1 (e:=⟨x,w⟩) hw] at this;exact this))]
    rw[i1,i2,g1] at this
    simp only at this
    lia
  have st8:∀ x s,s<8→x ∉ P→go x s ∉ P→wd es x=wd es (go x s):=fun x s hs8 h1 h2=>by
    rcases Nat.mod_two_eq_zero_or_one s with z | z
    . exact st x s (by have : s = 0 ∨ s = 2 ∨ s = 4 ∨ s = 6 := by lia
                       rcases this with rfl | rfl | rfl | rfl <;> decide) h1 h2
    . obtain⟨w,hw,rfl⟩:=ziC hs8 z
      have a0 : (2 * w) ∈ S4 := by have : w = 0 ∨ w = 1 ∨ w = 2 ∨ w = 3 := by lia
                                   rcases this with rfl | rfl | rfl | rfl <;> decide
      have a1:((2*w+6) % 8)∈S4:=zdQ.mpr ⟨w,hw,rfl⟩
      have ep:go (go x (2*w)) ((2*w+6) % 8)=go x ((2*w+7) % 8):=by
        have:∀ w<4,(mv (2*w)).1+(mv ((2*w+6) % 8)).1=(mv ((2*w+7) % 8)).1∧(mv (2*w)).2+(mv ((2*w+6) % 8)).2=(mv ((2*w+7) % 8)).2:=by decide
        have:=this w hw
        unfold go
        exact Prod.ext (by simp only;lia) (by simp only;lia)
      by_cases q:C x=true∧C (go x ((2*w+7) % 8))=true
      . exact zgy h hw q.1 q.2
      . have hp : go x (2 * w) ∉ P := fun m => by
          cases qx:C x with
          | false=>exact h1 (near x _ a0 qx m)
          | true =>
            have qd:C (go x ((2*w+7) % 8))=false:=by
              cases qq:C (go x ((2*w+7) % 8)) with
              | false=>rfl
              | true=>exact absurd ⟨qx,qq⟩ q
            refine h2 ((hP _).mpr ?_)
            rw[← ep]
            exact .step ((hP _).mp m) a1 (by rw[ep];simp[no,qd])
        rw[st x _ a0 h1 hp,← ep]
        exact st _ _ a1 hp (by rw[ep];exact h2)
  have lots:∀ {a d:Cell},Rch D S8 a d→D a=true→wd es d=wd es a:=fun {a d} k ha=>by
    induction k with
    | refl=>rfl
    | step k hs8 hd ih =>
      rw[← ih]
      exact (st8 _ _ (zfA.mp hs8) ((hF.iff _).mp (k.dom ha)).2 ((hF.iff _).mp hd).2).symm
  have bb:=hC b.c bE.2.1
  have bx:=hB _ ((hP _).mpr (.refl:Rch (no C) S4 (gap b) (gap b)))
  have cornerP:∀ x,(x,lo) ∉ P:=fun x m=>by have:=hB _ m;simp only at this;lia
  have cD:D (l,lo)=true:=(hF.iff _).mpr ⟨⟨by simp,by simp only;lia,by simp,by simp only;lia⟩,cornerP l⟩
  have wlow:∀ x,wd es (x,lo)=0:=fun x=>zb0 fun e he _ ⟨k1,_⟩=>by
    have:=hC _ (h.1.2.2.1 e he).2.1
    simp only at k1;lia
  constructor
  . intro k
    rw[lots k cD];exact wlow l
  . intro hz
    apply Classical.byContradiction
    intro hn
    obtain⟨L,hL⟩:=zkn l lo r hi
    obtain⟨c0,_,r0,hmin⟩:=zbW (fun d=>Rch D S8 c d) L ⟨c,hL c ((hF.iff c).mp hc).1,.refl⟩
    have c0D:=r0.dom hc
    obtain⟨⟨i1,i2,i3,i4⟩,n0⟩:=(hF.iff c0).mp c0D
    have w0:wd es c0=0:=(lots r0 hc).trans hz
    have hlow:lo<c0.2:=by
      rcases Int.lt_or_le lo c0.2 with z | z
      . exact z
      . exfalso
        have e2:c0.2=lo:=by lia
        have:=ziK (S:=S8) (by decide) hB hF (by lia) (c0.1 - l).toNat (by lia)
        rw[show l+(((c0.1 - l).toNat:Nat):Int)=c0.1 by lia] at this
        have ed:c0=(c0.1,lo):=Prod.ext rfl e2
        rw[← ed] at this
        exact hn (this.trans (r0.symm zjk hc))
    have e6:=go6 c0
    have pm:(c0.1,c0.2 - 1)∈P:=by
      apply Classical.byContradiction
      intro hp
      have rr:Rch D S8 c (go c0 6):=.step r0 (by decide) (by rw[e6];exact (hF.iff _).mpr ⟨⟨by simpa using i1,by simpa using i2,by simp only;lia,by simp only;lia⟩,hp⟩)
      have:=hmin _ (hL _ ((hF.iff _).mp (rr.dom hc)).1) rr
      rw[e6] at this
      unfold cLe at this
      simp only at this
      lia
    have g0:gap ⟨c0,0⟩=(c0.1,c0.2 - 1):=by simp[gap,go,mv];lia
    have cr:=zev h ⟨c0,0⟩ (by show (0:Nat)<4;decide)
    rw[g0,pz _ pm,show (⟨c0,0⟩:Edge).c=c0 from rfl,w0] at cr
    have me:⟨c0,0⟩∈es:=by
      apply Classical.byContradiction
      intro z
      have i0:ind es ⟨c0,0⟩=0:=by unfold ind;rw[if_neg z]
      have i1':ind es (fac ⟨c0,0⟩)=0∨ind es (fac ⟨c0,0⟩)=1:=by
        unfold ind
        by_cases y:fac ⟨c0,0⟩∈es
        . rw[if_pos y];exact .inr rfl
        . rw[if_neg y];exact .inl rfl
      rw[i0] at cr
      lia
    have CD:∀ x,C x=true→D x=true:=fun x hx=>(hF.iff x).mpr ⟨by have:=hC x hx;unfold inBox;lia,fun m=>by rw[Pno x m] at hx;cases hx⟩
    have rb:Rch D S8 b.c c0:=((h.reach _ me).1).mono CD
    have gb:gap b=(b.c.1,b.c.2+1):=by
      obtain⟨bc,bw⟩:=b
      simp only at hbw
      subst hbw
      exact gap2 bc
    have tl:=toLow (S:=S8) (by decide) (by decide) hB hF (x:=b.c.1) (y:=b.c.2) (by lia) (by lia) fun z _ hz' m=>by
      have:=hfg.2 _ ((hP _).mp m)
      rw[gb] at this
      unfold cLe at this
      simp only at this
      lia
    exact hn (tl.trans (rb.trans (r0.symm zjk hc)))
end
def zbB(s:Nat):Nat:=(s+1) / 2 % 4
def wayB(s:Nat):Nat:=(zbB s+4-s % 2) % 4
def dgo:Nat->List Nat->List (Option Nat)×Nat
 |w,[]=>([],w)
 |w,s::r=>(List.replicate ((zbB s+4-w) % 4) none++some s::(dgo (wayB s) r).1,(dgo (wayB s) r).2)
def zaP(w:Nat)(row:List Nat):Nat:=if row.isEmpty then 4 else (w+4-(dgo w row).2) % 4
def deeds(w:Nat)(row:List Nat):List (Option Nat):=(dgo w row).1++List.replicate (zaP w row) none
theorem zjr{C:Cell->Bool}{e:Edge}(h:IsE C e){s:Nat}(hs:stepB C e=some s):zbB s=e.w/\wayB s=(nxt C e).w/\s<8:=by have hw:=h.1;rcases zaY h with⟨_,q,n⟩ |⟨_,_,q,n⟩ |⟨_,_,q,n⟩ <;> rw[n] <;> rw[q]at hs <;> cases hs <;> unfold wayB zbB <;> simp only <;> rcases way4 hw with r |r |r |r <;> rw[r] <;> decide
theorem zg3{C:Cell->Bool}{e:Edge}(h:IsE C e)(hs:stepB C e=none):nxt C e=⟨e.c,(e.w+1) % 4⟩:=by
 rcases zaY h with⟨_,q,n⟩ |⟨_,_,q,n⟩ |⟨_,_,q,n⟩
 .rw[q]at hs;cases hs
 .rw[q]at hs;cases hs
 .exact n
def zko(C:Cell->Bool)(es:List Edge):Prop:=∀i,¬ ∀m,m<4->∃e,es[i+m]?=some e/\stepB C e=none
theorem ze1{C:Cell -> Bool}{b:Edge}{es:List Edge}(h:Chain C b es)(hE:IsE C b)(nf:zko C es):∀(n p j w:Nat), es.length-p=n -> p <= es.length -> j <= 3 -> j <= p -> w < 4 -> (∀m, m < j -> ∃e, es[p-1-m]? = some e /\ stepB C e=none) ->
    (it C b p).w=(w+j) % 4->∃t,t<=3/\List.replicate j none++(es.drop p).map (stepB C)=(dgo w (((es.drop p).map (stepB C)).filterMap id)).1++List.replicate t none /\
      ((dgo w (((es.drop p).map (stepB C)).filterMap id)).2+t) % 4=(it C b es.length).w/\(dgo w (((es.drop p).map (stepB C)).filterMap id)).2<4
  | 0,p,j,w,hn,hp,hj,hjp,hw,hl,hway=>by
    have e:es.drop p=[]:=List.drop_eq_nil_iff.mpr (by lia);have hpe:p=es.length:=by lia
    rw[e,<- hpe];exact⟨j,hj,by simp[dgo],hway.symm,hw⟩
  |n+1,p,j,w,hn,hp,hj,hjp,hw,hl,hway=>by
    have hlt:p<es.length:=by lia
    have hd:es.drop p=es[p]::es.drop (p+1):=List.drop_eq_getElem_cons hlt;have hg:=h.get p hlt;rw[List.getElem?_eq_getElem hlt]at hg;have hg':es[p]=it C b p:=Option.some.inj hg;have hEp:IsE C (it C b p):=it_ok hE p;rw[hd,hg']
    cases hs:stepB C (it C b p) with
    |none =>
      have hj3:j+1<=3:=by
        rcases Nat.lt_or_ge j 3 with q |q
        . lia
        . exfalso;have j3:j=3:=by lia
          subst j3;refine nf (p-3) fun m hm=>?_
          rcases Nat.lt_or_ge m 3 with a |a
          . obtain⟨e,h1,h2⟩:=hl (2-m) (by lia);exact⟨e,by rw[<- h1];congr 1;lia,h2⟩
          . have:m=3:=by lia
            subst this;exact⟨_,by rw[show p-3+3=p by lia,List.getElem?_eq_getElem hlt,hg'],hs⟩
      have hnx:=zg3 hEp hs
      obtain⟨t, t3, q1, q2, q3⟩ := ze1 h hE nf n (p + 1) (j + 1) w (by lia) (by lia) hj3 (by lia) hw (fun m hm => by
          cases m with
          |zero=>exact⟨_,by rw[show p+1-1-0=p by lia,List.getElem?_eq_getElem hlt,hg'],hs⟩
          |succ m =>
            obtain⟨e,h1,h2⟩:=hl m (by lia);exact⟨e,by rw[<- h1];congr 1;lia,h2⟩) (by
          show (nxt C (it C b p)).w=_;rw[hnx];simp only;rw[hway];lia)
      refine⟨t,t3,?_,?_,?_⟩
      . simp only[List.map_cons,hs];rw[show (none::(es.drop (p+1)).map (stepB C)).filterMap id=((es.drop (p+1)).map (stepB C)).filterMap id from rfl,<- q1,List.replicate_succ'];simp
      . simp only[List.map_cons,hs];exact q2
      . simp only[List.map_cons,hs];exact q3
    |some s =>
      obtain⟨w1,w2,_⟩:=zjr hEp hs;have hwB:wayB s<4:=Nat.mod_lt _ (by decide)
      obtain⟨t, t3, q1, q2, q3⟩ := ze1 h hE nf n (p + 1) 0 (wayB s) (by lia) (by lia) (by lia) (by lia) hwB (fun m hm => by lia) (by
          show (nxt C (it C b p)).w=_;rw[w2,Nat.add_zero];have:=(zdm hEp).1;lia)
      refine⟨t,t3,?_,?_,?_⟩
      . simp only[List.map_cons,hs];rw[show (some s::(es.drop (p+1)).map (stepB C)).filterMap id=s::((es.drop (p+1)).map (stepB C)).filterMap id from rfl];show _=(List.replicate ((zbB s+4-w) % 4) none++some s::(dgo (wayB s) _).1)++List.replicate t none;have hk:(zbB s+4-w) % 4=j:=by rw[w1,hway];lia
        rw[hk];have q1':(es.drop (p+1)).map (stepB C)=(dgo (wayB s) (((es.drop (p+1)).map (stepB C)).filterMap id)).1++List.replicate t none:=by simpa using q1
        rw[List.append_assoc,List.cons_append,<- q1']
      . simp only[List.map_cons,hs];exact q2
      . simp only[List.map_cons,hs];exact q3
theorem zeY{C:Cell->Bool}{b:Edge}(hE:IsE C b){i:Nat}:∀m,(∀q,q<m->stepB C (it C b (i+q))=none)->it C b (i+m)=⟨(it C b i).c,((it C b i).w+m) % 4⟩
 | 0,_=>by
  have:=(it_ok hE i).1;show it C b i=_;rw[Nat.add_zero,Nat.mod_eq_of_lt this]
 |m+1,h=>by
  have ih:=zeY hE m fun q hq=>h q (by lia)
  show nxt C (it C b (i+m))=_;rw[zg3 (it_ok hE (i+m)) (h m (by lia)),ih];simp only[Edge.mk.injEq,true_and];lia
theorem Closed.deeds{C:Cell->Bool}{b:Edge}{es:List Edge}(h:Closed C b es):es.map (stepB C)=RP.deeds b.w ((es.map (stepB C)).filterMap id):=by
 have hE:IsE C b:=h.1.2.2.1 b (List.mem_of_getElem? h.1.1);have hp:=h.pos;have hl:=h.it_len
 have four:∀i,(∀m,m<4->∃e,es[i+m]?=some e/\stepB C e=none)->i=0/\es.length=4:=fun i hi=>by
  have hi3:i+3<es.length:=by obtain⟨e,h1,_⟩:=hi 3 (by decide);exact (List.getElem?_eq_some_iff.mp h1).1
  have st:∀q,q<4->stepB C (it C b (i+q))=none:=fun q hq=>by
   obtain⟨e,h1,h2⟩:=hi q hq;rw[h.1.get (i+q) (by lia)]at h1
   cases h1;exact h2
  have e4:=zeY hE 4 st
  have e4':it C b (i+4)=it C b i:=by rw[e4];have:=(it_ok hE i).1;rw[show ((it C b i).w+4) % 4=(it C b i).w by lia]
  rcases Nat.lt_or_ge (i+4) es.length with q |q
  .exfalso;have:=(List.getElem?_inj (i:=i) (j:=i+4) (by lia) h.1.2.2.2).mp (by rw[h.1.get i (by lia),h.1.get (i+4) q,e4']);lia
  .have hn:es.length=i+4:=by lia
   rw[<- hn,hl]at e4';have:=(List.getElem?_inj (i:=0) (j:=i) (by lia) h.1.2.2.2).mp (by rw[h.1.get 0 hp,h.1.get i (by lia),<- e4'];rfl);lia
 by_cases hr:(es.map (stepB C)).filterMap id=[]
 .have all:∀i, i < es.length -> stepB C (it C b i)=none := fun i hi => by
   have hg:=h.1.get i hi
   cases hs:stepB C (it C b i) with
   |none=>rfl
   |some s =>
    exfalso;have:s∈(es.map (stepB C)).filterMap id:=List.mem_filterMap.mpr ⟨some s,List.mem_map.mpr ⟨_,List.mem_of_getElem? hg,hs⟩,rfl⟩;rw[hr]at this;cases this
  have hn4:es.length=4:=by
   have el:=zeY hE (i:=0) es.length (fun q hq=>by rw[Nat.zero_add];exact all q hq);rw[Nat.zero_add,hl]at el;have ew:=congrArg Edge.w el;have hw:=hE.1;change b.w=(b.w+es.length) % 4 at ew;have h4:4<=es.length:=by lia
   refine (four 0 fun m hm=>⟨it C b m,?_,all m (by lia)⟩).2;rw[Nat.zero_add];exact h.1.get m (by lia)
  rw[hr];show _=(dgo b.w []).1++List.replicate 4 none
  apply List.ext_getElem?
  intro i;rcases Nat.lt_or_ge i 4 with q |q
  .rw[List.getElem?_map,h.1.get i (by lia),Option.map_some,all i (by lia)];show _=(List.replicate 4 (none:Option Nat))[i]?;rw[List.getElem?_replicate,if_pos q]
  .rw[List.getElem?_eq_none (by rw[List.length_map];lia),List.getElem?_eq_none (by simp[dgo];lia)]
 .have nf:zko C es := fun i hi => by
   obtain⟨_,h4⟩:=four i hi;have hi0:=(four i hi).1;subst hi0
   apply hr
   apply List.filterMap_eq_nil_iff.mpr
   intro o ho;obtain⟨e,he,rfl⟩:=List.mem_map.mp ho;obtain⟨j,hj,ej⟩:=List.getElem_of_mem he;obtain⟨f,h1,h2⟩:=hi j (by lia);rw[Nat.zero_add,List.getElem?_eq_getElem hj,ej]at h1
   cases h1
   exact h2
  obtain⟨t,t3,q1,q2,q3⟩:=ze1 h.1 hE nf es.length 0 0 b.w (by lia) (by lia) (by lia) (by lia) hE.1 (fun m hm=>by lia) (by
   show b.w=_;have:=hE.1;lia)
  rw[List.drop_zero]at q1 q2 q3;rw[hl]at q2
  have ht:zaP b.w ((es.map (stepB C)).filterMap id)=t:=by unfold zaP;rw[if_neg (by simpa using hr)];have:=hE.1;lia
  unfold RP.deeds;rw[ht];simpa using q1
end RP
namespace L2
open PySem PySem.Spec PyProof.Rows
def But1(P:Addr)(H H':Hp):Prop:=∀b o,b≠P->H b=some o->H' b=some o
theorem But1.refl(P:Addr)(H:Hp):But1 P H H:=fun _ _ _ h=>h
theorem But1.trans{P:Addr}{H H1 H2:Hp}(a:But1 P H H1)(b:But1 P H1 H2):But1 P H H2:=fun c o n h=>b c o n (a c o n h)
theorem Same.but1{P:Addr}{H H':Hp}(h:Same H H'):But1 P H H':=fun b o _ e=>h b o e
abbrev anyO:HO:=.ext fun _=>True
def LamAt(pos:Pos)(qual:Str)(P:Addr)(H:Hp):Prop :=
 ∃ps,H P=some (.tbl ps)/\(ps=#[]∨∃c' oc vs t,ps=#[rawInt pos.line,rawInt pos.col,.ref c']/\H c'=some (.frz oc anyO)/\oc.data=.fields vs/\vs[1]?=some (.str qual t))
theorem LamAt.same{pos:Pos}{qual:Str}{P:Addr}{H H':Hp}(h:LamAt pos qual P H)(s:Same H H'):LamAt pos qual P H':=by
 obtain⟨ps,e,h⟩:=h;refine⟨ps,s _ _ e,?_⟩;rcases h with h |⟨c',oc,vs,t,e1,e2,e3⟩
 .exact .inl h
 .exact .inr ⟨c',oc,vs,t,e1,s _ _ e2,e3⟩
theorem LamAt.ne{pos:Pos}{qual:Str}{P a:Addr}{H:Hp}{o:HO}(h:LamAt pos qual P H)(e:H a=some o)(n:∀ps,o≠.tbl ps):a≠P:=by rintro rfl;obtain⟨ps,e',_⟩:=h;rw[e]at e';exact n ps (Option.some.inj e')
theorem But1.seq{K:W.Frag}{pos:Pos}{qual:Str}{P a:Addr}{H H':Hp}{xs:List V}(e:But1 P H H')(l:LamAt pos qual P H)(h:SqL K H a xs):SqL K H' a xs:=by
 rcases h with (h |⟨o,h⟩) |h
 .exact .inl (.inl (e _ _ (l.ne h nofun) h))
 .exact .inl (.inr ⟨o,e _ _ (l.ne h nofun) h⟩)
 .exact .inr h
def Bm(mg:Str->Option Value)(base:Heap):Prop :=
 ∃bm o,mg "__builtins__" = some (.ref bm)/\bm≠builtinsNs/\bm≠mainGlobals/\base.get? bm=some o/\o.cls=.type "module" /\ o.dict=some builtinsNs/\o.data=.plain
section
variable {X:Cx}{pins:List (Addr×Obj)}{σ:St}{H:Hp}{s:Shared}
theorem Inv.lamNew{P c':Addr}{ps more:Array Value}{h1:Heap}{oc fo:Obj}{tk:Nat}(I:Inv X pins σ H s)(hP:H P=some (.tbl ps))(hx:Heap.ExtBut P s.heap h1)(hge:s.heap.objs.size <= c')(hlt:c' < h1.objs.size)
  (hc:h1.get? c'=some oc) (htb:h1.get? P=some (W.tabObj (ps++more))) (hfo:fo.isFreed=false) :
  Inv X pins σ (upd (upd (upd H P (.tbl (ps++more))) c' (.frz oc anyO)) h1.objs.size (.frz fo anyO)) { s with heap:=h1.push fo,toks:=tk }:=by
 have hPs:s.heap.get? P=some (W.tabObj ps):=I.hok P _ hP;have lP:P<s.heap.objs.size:=Heap.lt_size hPs;have cP:c'≠P:=Nat.ne_of_gt (Nat.lt_of_lt_of_le lP hge);have fP:h1.objs.size≠P:=Nat.ne_of_gt (Nat.lt_trans (Nat.lt_of_lt_of_le lP hge) hlt);have fc:h1.objs.size≠c':=Nat.ne_of_gt hlt;have k1:∀b o,b≠P->s.heap.get? b=some o->(h1.push fo).get? b=some o:=fun b o n e=>Heap.get?_push_of_some _ (hx b o n e)
 have old:∀b o,s.heap.get? b=some o->b≠c'/\b≠h1.objs.size:=fun b o e =>
  ⟨Nat.ne_of_lt (Nat.lt_of_lt_of_le (Heap.lt_size e) hge),Nat.ne_of_lt (Nat.lt_of_lt_of_le (Heap.lt_size e) (Nat.le_trans hge (Nat.le_of_lt hlt)))⟩
 have val:∀b u,b≠P->H b=some u->upd (upd (upd H P (.tbl (ps++more))) c' (.frz oc anyO)) h1.objs.size (.frz fo anyO) b=some u:=fun b u n e=>by have lb:=I.hok.lt e;rw[zai (Nat.ne_of_lt (Nat.lt_of_lt_of_le lb (Nat.le_trans hge (Nat.le_of_lt hlt)))),zai (Nat.ne_of_lt (Nat.lt_of_lt_of_le lb hge)),zai n];exact e
 have vP:upd (upd (upd H P (.tbl (ps++more))) c' (.frz oc anyO)) h1.objs.size (.frz fo anyO) P=some (.tbl (ps++more)):=by rw[zai fP.symm,zai cP.symm,zaa]
 have nP:∀b u,H b=some u->(∀qs,u≠.tbl qs)->b≠P:=fun b u e n z=>by rw[z,hP]at e;exact n ps (Option.some.inj e).symm
 refine I.un ⟨fun b o e n _ _=>?_,fun b o e n _ _=>?_,fun b o e n _=>?_,fun b o e _=>?_,fun b xs e=>?_,fun b o u e=>?_,fun b qs e=>?_⟩ fun b u e=>?_
 .exact k1 b o (fun z=>by rw[z,hP]at n;cases n) e
 .exact⟨o.slots,k1 b o (fun z=>by rw[z,hP]at n;cases n) e⟩
 .obtain⟨n1,n2⟩:=old b o e;rw[zai n2,zai n1,zai (fun z=>by rw[z,hP]at n;cases n)];exact n
 .by_cases z:b=P
  .rw[z];exact⟨_,Heap.get?_push_of_some _ htb⟩
  .exact⟨o,k1 b o z e⟩
 .exact val b _ (nP b _ e nofun) e
 .exact val b _ (nP b _ e nofun) e
 .by_cases z:b=P
  .rw[z,hP]at e
   cases e
   exact⟨more,by rw[z];exact vP⟩
  .exact⟨#[],by rw[val b _ z e];simp⟩
 .by_cases hf:b=h1.objs.size
  .rw[hf,zaa]at e
   cases e
   rw[hf];exact⟨Heap.get?_push_size _ hfo,trivial,⟨fo,Heap.get?_push_size _ hfo⟩,fun _ _ _ _=>trivial⟩
  .rw[zai hf]at e
   by_cases hb:b=c'
   .rw[hb,zaa]at e
    cases e
    rw[hb];exact⟨Heap.get?_push_of_some _ hc,trivial,⟨oc,Heap.get?_push_of_some _ hc⟩,fun _ _ _ _=>trivial⟩
   .rw[zai hb]at e
    by_cases hz:b=P
    .rw[hz,zaa]at e
     cases e
     rw[hz];exact Heap.get?_push_of_some _ htb
    .rw[zai hz]at e;refine (I.hok b u e).stay (fun d v hd q=>k1 d v ?_ q) (fun d q=>val d _ (nP d _ q nofun) q) fun d xs q=>val d _ (nP d _ q nofun) q
     rcases hd with rfl |hd
     .exact hz
     .exact nP d _ hd nofun
def IsLam(qual:Str)(params:Arguments)(body:Expr)(scope:Scope)(f:Addr)(H:Hp):Prop :=
 ∃c' ctv pm oc vs t,H f=some (.frz (W.kla_obj "<lambda>" qual params body scope [] pm c' ctv) anyO)/\H c'=some (.frz oc anyO)/\oc.data=.fields vs/\vs[1]?=some (.str qual t)
theorem IsLam.same{qual:Str}{params:Arguments}{body:Expr}{scope:Scope}{f:Addr}{H H':Hp}(h:IsLam qual params body scope f H)(s:Same H H'):IsLam qual params body scope f H' :=
 let ⟨c',ctv,pm,oc,vs,t,e1,e2,r⟩:=h
 ⟨c',ctv,pm,oc,vs,t,s _ _ e1,s _ _ e2,r⟩
def tLam(P:Addr)(pos:Pos)(qual:Str)(params:Arguments)(body:Expr)(scope:Scope):TE:=fun _ H Q =>
 LamAt pos qual P H/\∀f H',But1 P H H'->LamAt pos qual P H'->H f=none->IsLam qual params body scope f H'->Q (.ref f) H'
theorem zk7{pos:Pos}{c:Value}:TriplesOk (#[rawInt pos.line,rawInt pos.col,c]:Array Value).toList:=by simp[TriplesOk,rawInt]
theorem zh5{pos:Pos}{c:Value}:codeAmong pos (#[rawInt pos.line,rawInt pos.col,c]:Array Value).toList=some c:=by simp[codeAmong,rawInt]
theorem zly {c P:Addr}{params:Arguments}{body:Expr}{scope:Scope}{pos:Pos}{qual:Str}(hcd:X.env.code = .ref c) (hh:W.codeHdIn X.K c P=true) (hB:Bm X.mg X.base) (hq:X.env.qual ++ "<lambda>" = qual)
  (hfree:∀x∈scope.names,x.2≠.free:=by decide) (hdef:defaultsOf params X.env=([],[]):=by rfl):PE X (.Lambda params body scope pos) (tLam P pos qual params body scope):=by
 intro pins s σ H Q I h;obtain⟨⟨ps,hP,hps⟩,h⟩:=h;have hPs:s.heap.get? P=some (W.tabObj ps):=I.hok P _ hP
 have nb:∀b o,X.base.get? b=some o->b≠P:=fun b o e z=>by
  have:=(I.bs b o e).2;rw[z,hP]at this
  cases this
 have hg:s.heap.Ns mainGlobals X.mg:=I.mod.glob.keeps I.bk
 have hgP:mainGlobals≠P:=by obtain⟨o,es,ep,e,_⟩:=I.mod.glob;exact nb _ o e
 have C:W.CodeHd s.heap c P:=W.codeHd_of_K I.kIn hh
 have hb:s.heap.BuiltinsAt X.mg P:=by obtain⟨bm,o,b1,b2,b3,b4,b5⟩:=hB;exact⟨bm,o,b1,b2,b3,nb _ o b4,I.bk _ _ b4,b5⟩
 have fr:∀b,s.heap.objs.size<=b->H b=none:=fun b e=>I.hok.fresh e
 refine W.kla_eval hdef ?_
 rw[hq];rcases hps with rfl |⟨c',oc,vs,t,rfl,hc',hd,hv⟩
 .refine W.kla_makeFunction (mg:=X.mg) (clos:=[]) (closureFor_none hfree) I.ok.glob hg hcd C hPs trivial rfl hgP hb fun c' ctv h' tk hx hge hlt hrec htb=>?_
  obtain⟨c2,oc,vs,t,e2,hoc,hd,hv⟩:=hrec
  cases e2
  have lP:P<s.heap.objs.size:=Heap.lt_size hPs;have cP:c'≠P:=Nat.ne_of_gt (Nat.lt_of_lt_of_le lP hge);have fP:h'.objs.size≠P:=Nat.ne_of_gt (Nat.lt_trans (Nat.lt_of_lt_of_le lP hge) hlt);refine⟨.ref h'.objs.size,_,I.lamNew (more:=#[rawInt pos.line,rawInt pos.col,.ref c']) hP hx hge hlt hoc htb rfl,rfl,h _ _ ?_ ?_ (fr _ (Nat.le_trans hge (Nat.le_of_lt hlt))) ⟨c',ctv,_,oc,vs,t,zaa,?_,hd,hv⟩⟩
  .intro b o n e;rw[zai (fun z=>by rw[z,fr _ (Nat.le_trans hge (Nat.le_of_lt hlt))]at e;cases e),zai (fun z=>by rw[z,fr _ hge]at e;cases e),zai n];exact e
  .refine⟨#[]++#[rawInt pos.line,rawInt pos.col,.ref c'],?_,.inr ⟨c',oc,vs,t,by simp,?_,hd,hv⟩⟩
   .rw[zai fP.symm,zai cP.symm,zaa]
   .rw[zai (Nat.ne_of_lt hlt),zaa]
  .rw[zai (Nat.ne_of_lt hlt),zaa]
 .refine W.kla_makeFunctionHit (mg:=X.mg) (clos:=[]) (cv:=.ref c') (closureFor_none hfree) I.ok.glob hg hcd C hPs zk7 zh5 hb fun ctv h' tk hk hsz=>?_
  have hf:H h'.objs.size=none:=fr _ hsz;refine⟨.ref h'.objs.size,upd H h'.objs.size (.frz (W.kla_obj "<lambda>" qual params body scope [] ((X.mg "__name__").getD .none) c' ctv) anyO),?_,rfl,h _ _ ?_ ?_ hf ⟨c',ctv,(X.mg "__name__").getD .none,oc,vs,t,zaa,?_,hd,hv⟩⟩
  .have I1:Inv X pins σ H { s with heap:=h',toks:=tk }:=I.kept (t':=tk) hk;have I2:=I1.un (h':=h'.push (W.kla_obj "<lambda>" qual params body scope [] ((X.mg "__name__").getD .none) c' ctv)) (t':=tk) (Un.laid (a:=h'.objs.size) (o:=.frz (W.kla_obj "<lambda>" qual params body scope [] ((X.mg "__name__").getD .none) c' ctv) anyO) (fun b u e=>Heap.get?_push_of_some _ e) (Nat.le_refl _) hf) (I1.hok.laid (fun b u e=>Heap.get?_push_of_some _ e) (Nat.le_refl _) ⟨Heap.get?_push_size _ rfl,trivial,⟨_,Heap.get?_push_size _ rfl⟩,fun _ _ _ _=>trivial⟩);exact I2
  .intro b o n e;rw[zai (fun z=>by rw[z,hf]at e;cases e)];exact e
  .refine⟨_,by rw[zai (zam hP hf)];exact hP,.inr ⟨c',oc,vs,t,rfl,?_,hd,hv⟩⟩;rw[zai (zam hc' hf)];exact hc'
  .rw[zai (zam hc' hf)];exact hc'
end
theorem zlo{P:Program}{w:World}{K:W.Frag}{mg:Str -> Option Value}{base:Heap}{k:Nat}{f c':Addr}{qual:Str}{params:Arguments}{body:Expr}{scope:Scope}{pm ctv:Value}{oc:Obj}{ws:Array Value}{t:Tok}
  {N ps:List Str} {A:Around} {outer:List Env} {s:Shared} {H:Hp} {us:List Value} {vs:List V} {Q:VK} {te:TE} (hr:Room (k+1) A) (e0:Env0 P w K mg base A outer s H)
  (hf:H f=some (.frz (W.kla_obj "<lambda>" qual params body scope [] pm c' ctv) anyO)) (hc:H c'=some (.frz oc anyO)) (hd:oc.data=.fields ws) (hv:ws[1]?=some (.str qual t)) (S:FnScope N ps scope)
  (hb:bindArgs (W.kla_fn "<lambda>" qual params body scope [] pm (.ref c') ctv) ⟨us,[]⟩=pure (ps.zip us)) (hl:vs.length=ps.length) (r:Vals vs us)
  (hbody:PE (cxOf CX0 P w K mg base N qual scope f (.ref c') A outer s H E0).nox body te) (hq:te (start N vs) H Q) :
  codeAny (model P w) A (.call (.ref f) ⟨us,[]⟩) (CR CX0 outer P w H s Q E0) s:=by
 have lim:s.heap.NoLimit:=e0.mod.nolimit.keeps fun b o e=>(e0.bs b o e).1
 have hfo:=(e0.hok f _ hf).1;have hco:=(e0.hok c' _ hc).1
 have hkind:∀y∈ps.zip us,scope.names.lookup y.1=some .local∨(scope.names.lookup y.1=some .cell/\((cellsFrom (s.heap.objs.size+1) scope.names []).lookup y.1).isSome=true):=fun⟨n,v⟩ hy=>by
  rcases S.par n (List.of_mem_zip hy).1 with q |q
  .exact .inl q
  .exact .inr ⟨q,W.cellsFrom_some _ _ _ (.inl q)⟩
 refine W.kla_callFunE hr.depth hfo rfl S.co S.gen rfl ⟨c',oc,ws,t,rfl,hco,hd,hv⟩ ?_
 rw[hb];refine wpAny_pure ?_
 refine wpAny_newFunctionEnv_cells S.kind hkind fun env he s1 x=>?_
 subst he;refine⟨lim.keeps x.toInCall.keep,W.kla_codeExpr ?_⟩;have I:Inv (cxOf CX0 P w K mg base N qual scope f (.ref c') A outer s H E0) [] (start N vs) H s1:=zfH S hr.hd e0 hl r x;refine wpAny_mono (hbody.nox [] s1 (start N vs) H _ I hq) (fun u s' hs=>?_) fun e s' hs=>hs
 obtain⟨v,H',J,rv,q⟩:=hs;exact⟨v,H',J.os,J.bare,J.base,J.hok,rv,q⟩
section
variable {X:Cx}{f:Addr}{qual:Str}{params:Arguments}{body:Expr}{scope:Scope}{N ps:List Str}{σ:St}{H0:Hp}{k:Nat}{te:TE}{xs:List V}{κV:Nat->List V}
theorem zlN {x:Str}(L:IsLam qual params body scope f H0) (hr:Room (k + 1 + 1 + 1) X.A) (S:FnScope N [x] scope) (hb:∀(pm ctv:Value) (c':Addr) (u:Value), bindArgs (W.kla_fn "<lambda>" qual params body scope [] pm (.ref c') ctv) ⟨[u], []⟩ = pure [(x, u)])
  (hbody:∀(c':Addr) (A:Around) (outer:List Env) (s:Shared) (H:Hp),PE (cxOf CX0 X.prog X.w X.K X.mg X.base N qual scope f (.ref c') A outer s H E0).nox body te)
  (turn:∀i x H,xs[i]?=some x->Same H0 H->te (start N [x]) H (fun v H'=>Same H H'/\∃a,v=.ref a/\SqT X.K H' a (κV i))):zhq X σ H0 f xs κV:=by
 intro pins i x u H s hx hS I ru;obtain⟨c',ctv,pm,oc,ws,t,e1,e2,e3,e4⟩:=L.same hS;refine wpAny_call (codeAny_mono (zlo (k:=k) (vs:=[x]) (us:=[u]) hr.in1.in1 I.env0.in1.in1 e1 e2 e3 e4 S (hb pm ctv c' u) rfl (.cons ru .nil) (hbody c' _ _ _ _) (turn i x H hx hS)) fun r s' hq=>?_)
 cases r with
 |error e=>exact False.elim hq
 |ok fl =>
  cases fl with
  |ret u=>exact I.after hq
  |next=>exact False.elim hq
  |brk=>exact False.elim hq
  |cont=>exact False.elim hq
end
section
variable {X:Cx}{p pos lpos kpos:Pos}{e body:Expr}{te tb:TE}{k:Nat}{c P:Addr}{params:Arguments}{scope:Scope}{qual x:Str}{N:List Str}
def zk8(K:W.Frag)(lpos:Pos)(qual:Str)(P:Addr)(N:List Str)(te tb:TE):TE:=fun σ H Q=>te σ H fun v H1=>∃l xs,∃ κV:Nat->List V,∃ κ:Nat->List Int,[v]=[V.ref l]/\LamAt lpos qual P H1/\SqL K H1 l xs/\xs.length<=1000 /\
 (∀i x H2,xs[i]?=some x->But1 P H1 H2->tb (start N [x]) H2 (fun v H'=>Same H2 H'/\∃a,v=.ref a/\SqT K H' a (κV i))) /\
 (∀i j,i<xs.length->j<xs.length->∃n m r q rn rm,κV i=.int n::r/\κV j=.int m::q/\VCols r q rn rm/\κ i=n::rn/\κ j=m::rm)/\∀(p:List Nat) D H',p.Perm (List.range xs.length)->p.Pairwise (fun i j=>HT.lexLt (κ j) (κ i)=false)->H1 D=none->But1 P H1 H'->LamAt lpos qual P H'->H' D=some (.lst (p.map fun i=>xs.getD i .non))->Q (.ref D) H'
theorem zgZ (hr:Room (k + 1 + 1 + 1) X.A) (hg:Gl X "sorted") (hm:X.mg "sorted" = none) (hcd:X.env.code = .ref c) (hh:W.codeHdIn X.K c P=true) (hB:Bm X.mg X.base) (hq:X.env.qual ++ "<lambda>" = qual)
  (S:FnScope N [x] scope) (hb:∀(pm ctv:Value) (c':Addr) (u:Value),bindArgs (W.kla_fn "<lambda>" qual params body scope [] pm (.ref c') ctv) ⟨[u],[]⟩=pure [(x,u)]) (he:PE X e te)
  (hbody:∀(f c':Addr) (A:Around) (outer:List Env) (s:Shared) (H:Hp),PE (cxOf CX0 X.prog X.w X.K X.mg X.base N qual scope f (.ref c') A outer s H E0).nox body tb)
  (hfree:∀x∈scope.names,x.2≠.free:=by decide) (hdef:defaultsOf params X.env=([],[]):=by rfl)
  (hse:starEach [e] X.env=[(false,eval e X.env)]:=by rfl) (hh':X.calm=true:=by rfl)
  (hall:(backToKw pos (keywordEach [⟨some "key",.Lambda params body scope lpos,kpos⟩] X.env)).all (·.1.isSome)=true:=by rfl) (hkw:(backToKw pos (keywordEach [⟨some "key",.Lambda params body scope lpos,kpos⟩] X.env)).any (·.1.isNone)=false:=by rfl)
  (hks:(backToKw pos (keywordEach [⟨some "key",.Lambda params body scope lpos,kpos⟩] X.env)).filterMap (·.1)=[Str.ofString "key"]:=by rfl) :
  PE X (.Call (.Name "sorted" p) [e] [⟨some "key",.Lambda params body scope lpos,kpos⟩] pos) (zk8 X.K lpos qual P N te tb):=by
 intro pins s σ H Q I h;refine wpAny_Call_Name_kw (zcx I hg hm boot_sorted ?_ (by decide) (by decide));refine callWith_kw (thn (zaj he zac (hs:=hse) pos pins s σ H (fun vs H1=>∃l xs,∃ κV:Nat->List V,∃ κ:Nat->List Int,vs=[V.ref l]/\LamAt lpos qual P H1/\SqL X.K H1 l xs/\xs.length<=1000 /\
 (∀i x H2,xs[i]?=some x->But1 P H1 H2->tb (start N [x]) H2 (fun v H'=>Same H2 H'/\∃a,v=.ref a/\SqT X.K H' a (κV i))) /\
 (∀i j,i<xs.length->j<xs.length->∃n m r q rn rm,κV i=.int n::r/\κV j=.int m::q/\VCols r q rn rm/\κ i=n::rn/\κ j=m::rm)/\∀(p:List Nat) D H',p.Perm (List.range xs.length)->p.Pairwise (fun i j=>HT.lexLt (κ j) (κ i)=false)->H1 D=none->But1 P H1 H'->LamAt lpos qual P H'->H' D=some (.lst (p.map fun i=>xs.getD i .non))->Q (.ref D) H') I ?_) fun us s1 ⟨vs,H1,I1,r,q⟩=>?_) (by rw[hse];rfl) (by rw[hse];rfl) hall hkw
 .show te σ H _;exact h
 .obtain⟨l,xs,κV,κ,rfl,hL,hsq,h64,turn,hcol,hQ⟩:=q;obtain⟨u,rfl,ru⟩:=Vals.one r
  cases (show u=Value.ref l from ru)
  refine thn (zit (nm:=some "key") (kpos:=kpos) (zly (pos:=lpos) (body:=body) hcd hh hB hq hfree hdef) zj9 pos pins s1 σ H1 (fun zs H2=>∃f,zs=[.ref f]/\But1 P H1 H2/\LamAt lpos qual P H2/\IsLam qual params body scope f H2) I1 ⟨hL,fun f H' h1 h2 h3 h4=>⟨f,rfl,h1,h2,h4⟩⟩) fun ws s2 ⟨zs,H2,I2,rz,q2⟩=>?_
  obtain⟨f,rfl,hbut,hL2,hIL⟩:=q2;obtain⟨u2,rfl,ru2⟩:=Vals.one rz
  cases (show u2=Value.ref f from ru2)
  rw[hks];refine zhK (G:=Ordd κ xs.length) (zlN hIL hr S hb (fun c' A outer s H=>hbody f c' A outer s H) fun i x H hx hS=>turn i x H hx (hbut.trans hS.but1)) (hbut.seq hL hsq) (fun p hp i hi=>?_) (fun h2=>⟨Array.Perm.refl _,?_⟩) (fun {vs ks H' s' D st e} r' K' hks h2=>?_) (fun p D H' g hp hD hS hH=>hQ p.toList D H' ?_ g.2 ?_ (hbut.trans hS.but1) (hL2.same hS) hH) I2
  .have:=hp.1.mem_iff.mp (show i∈p by simpa using hi);simpa using this
  .rw[List.pairwise_iff_getElem];intro i j hi hj hij;simp at hi hj;lia
  .have hlx:xs.length=vs.length:=r'.length;rw[hlx];exact zkY K' hks h2 fun i j hi hj=>hcol i j (by lia) (by lia)
  .have:=Array.perm_iff_toList_perm.mp g.1;simpa using this
  .cases q:H1 D with
   |none=>rfl
   |some o =>
    by_cases hz:D=P
    .obtain⟨ps,e,_⟩:=hL2;rw[hz,e]at hD
     cases hD
    .rw[hbut D o hz q]at hD
     cases hD
end
theorem ziQ{P:Program}{w:World}{K:W.Frag}{mg mb:Str -> Option Value}{CX:CXT}{k:Nat}{fa a:Addr}{fd:FuncData}{x:Str}{sp:Sp}{s₁ : Shared}{vs:List Value}{ns:List Int}{ts:List Addr}
    (KX:K.In s₁.heap) (hns:s₁.heap.Ns mainGlobals mg) (hb:s₁.heap.Ns builtinsNs mb) (hbb:∀x:Str,x ≠ "__name__" -> mb x=bootBuiltins x) (hlim:s₁.heap.NoLimit) (hg:s₁.gens=#[])
    (ha:s₁.heap.get? a=some { cls:=.type "list",data:=.seq vs.toArray }) (hi:IntsAre vs ns) (hl:ns.length<=sizeLine) (hr:Room k callerA)
    (hts:∀P∈ts,s₁.heap.get? P=some (W.tabObj #[])) (hno:∀P∈ts,K.lookup P=none) (hcd:∀P∈ts,∃c,W.codeHdIn K c P=true) (hBm:Bm mg s₁.heap)
    (F:∀base:Heap,K.In base->base.Ns mainGlobals mg->Bm mg base->FnOk P w K mg base CX k fa fd [x] sp) (hbind:∀(s:Shared) (u:Value),BindsTo s fd ⟨[u],[]⟩ [(x,u)])
    (hsp:∀H:Hp,(∀P∈ts,H P=some (.tbl #[]))->SqL K H a (ns.map V.int)->sp [.ref a] H (fun v _=>v=.bl true) fun _ _ _=>False)
    (hCX:∀H e s',CX [] H s₁ (fun _ _ _=>False) e s'->False) :
    codeAny (model P w) callerA (.call (.ref fa) ⟨[.ref a],[]⟩) (fun r s'=>r=.ok (.ret (.bool true))/\OldK s₁.heap s'.heap/\s'.os=s₁.os/\AllBare s'.gens) s₁:=by
  have rv:=zcW hi;have lenV:=hi.length
  have aT:a ∉ ts:=fun z=>by
    have:=hts a z;rw[ha]at this
    cases this
  have core:∀H:Hp, (∀b, H b=none ∨ (b ∈ ts /\ H b=some (.tbl #[])) ∨ (b=a /\ K.lookup a=none /\ ∃o xs, H b=some (.frz o (.lst xs)))) -> (∀P ∈ ts, H P=some (.tbl #[])) -> SqL K H a (ns.map V.int) -> HOk P w H s₁.heap ->
      codeAny (model P w) callerA (.call (.ref fa) ⟨[.ref a],[]⟩) (fun r s'=>r=.ok (.ret (.bool true))/\OldK s₁.heap s'.heap/\s'.os=s₁.os/\AllBare s'.gens) s₁:=by
    intro H hO hT hS hok;have base_of:∀{b:Addr} {o:Obj},s₁.heap.get? b=some o->H b=none->(hidT s₁.heap H).get? b=some o:=fun e n=>zjJ e n
    have noA:∀{b:Addr} {o:Obj},s₁.heap.get? b=some o->(∀x n,o.data≠.seq x n)->(∀x,o.data≠.fields x)->H b=none:=fun {b o} e d1 d2=>by
      rcases hO b with z |⟨z,_⟩ |⟨rfl,_⟩
      . exact z
      . rw[hts b z]at e
        cases e
        exact absurd rfl (d2 _)
      . rw[ha]at e
        cases e
        exact absurd rfl (d1 _ _)
    have nsK:∀{b:Addr} {m:Str->Option Value},s₁.heap.Ns b m->(hidT s₁.heap H).Ns b m:=fun {b m} ⟨o,es,ep,e,d,r⟩=>⟨o,es,ep,base_of e (noA e (fun x n z=>by rw[d]at z;cases z) fun x z=>by rw[d]at z;cases z),d,r⟩
    have hKb:K.In (hidT s₁.heap H):=fun b o e=>base_of (KX b o e) (by
      rcases hO b with z |⟨z,_⟩ |⟨rfl,z,_⟩
      . exact z
      . rw[hno b z]at e;cases e
      . rw[z]at e;cases e)
    have hM:Mod K mg (hidT s₁.heap H):=⟨hKb,nsK hns,⟨mb,nsK hb,hbb⟩,let ⟨mc,h1,h2⟩:=hlim;⟨mc,nsK h1,h2⟩⟩
    have hBb:Bm mg (hidT s₁.heap H):=by obtain⟨bm,o,b1,b2,b3,b4,b5,b6,b7⟩:=hBm;exact⟨bm,o,b1,b2,b3,base_of b4 (noA b4 (fun x n z=>by rw[b7]at z;cases z) fun x z=>by rw[b7]at z;cases z),b5,b6,b7⟩
    have e0:Env0 P w K mg (hidT s₁.heap H) callerA [] s₁ H:=⟨rfl,hM,fun b o e=>zkL e,Nat.le_of_eq (ziZ _ _),trivial,fun b hb=>absurd (show b∈([]:List Addr) from hb) (by simp),hok,.of_eq hg⟩;refine codeAny_mono ((F _ hKb (nsK hns) hBb).run callerA [] s₁ H ⟨[.ref a],[]⟩ [.ref a] [.ref a] _ _ hr e0 (hbind s₁ (.ref a)) (.cons rfl .nil) (hsp H hT hS)) fun r s' h=>?_
    cases r with
    |error e=>exact (hCX H e s' h).elim
    |ok fl =>
      cases fl with
      |next=>exact False.elim h
      |brk=>exact False.elim h
      |cont=>exact False.elim h
      |ret u =>
        obtain⟨v,H',os,bare,un,hok',r',q⟩:=h;have q':v=.bl true:=q;subst q';obtain rfl:u=Value.bool true:=r';refine⟨rfl,⟨fun b o e=>?_,fun b o e=>un.there b o e (by simp)⟩,os,bare⟩;rcases hO b with z |⟨z,z1⟩ |⟨rfl,_,ob,xs,z⟩
        . exact .inl (un.keep b o e z (by intro z;exact absurd (show b∈([]:List Addr) from z) (by simp)) (by simp))
        . have e':=hts b z;rw[e]at e'
          cases e'
          obtain⟨more,z2⟩:=un.tbls b _ z1;obtain⟨c,hc⟩:=hcd b z;obtain⟨oc,ws,_,_,_,_,_,_,_,c1,c2,c3,c4,_⟩:=W.codeHd_of_K KX hc;exact .inr (.inl ⟨⟨c,oc,ws,c1,c2,c3,c4⟩,rfl,#[],more,rfl,hok' b _ z2⟩)
        . have z2:=un.frzs b ob _ z;obtain⟨e1,_⟩:=hok b _ z;obtain⟨e2,_⟩:=hok' b _ z2;rw[e]at e1;cases e1;exact .inl e2
  cases hk:K.lookup a with
  |some o =>
    have e:=KX a o hk;rw[ha]at e
    cases e
    refine core (fun b=>if b∈ts then some (.tbl #[]) else none) (fun b=>?_) (fun P hP=>if_pos hP) (.inr ⟨_,vs.toArray,_,hk,rfl,rfl,rfl,by rw[List.size_toArray,lenV];exact hl,by simpa using rv⟩) fun b u z=>?_
    . by_cases hb:b∈ts
      . exact .inr (.inl ⟨hb,if_pos hb⟩)
      . exact .inl (if_neg hb)
    . by_cases hb:b∈ts
      . have z':=(if_pos hb).symm.trans z
        cases z'
        exact hts b hb
      . have z':=(if_neg hb).symm.trans z
        cases z'
  |none =>
    refine core (fun b=>if b∈ts then some (.tbl #[]) else if b=a then some (.frz { cls:=.type "list",data:=.seq vs.toArray } (.lst (ns.map V.int))) else none) (fun b=>?_) (fun P hP=>if_pos hP) (.inl (.inr ⟨{ cls:=.type "list",data:=.seq vs.toArray },(if_neg aT).trans (if_pos rfl)⟩)) fun b u z=>?_
    . by_cases hb:b∈ts
      . exact .inr (.inl ⟨hb,if_pos hb⟩)
      . by_cases hb2:b=a
        . exact .inr (.inr ⟨hb2,hk,_,_,(if_neg hb).trans (if_pos hb2)⟩)
        . exact .inl ((if_neg hb).trans (if_neg hb2))
    . by_cases hb:b∈ts
      . have z':=(if_pos hb).symm.trans z
        cases z'
        exact hts b hb
      . have z0:=(if_neg hb).symm.trans z
        by_cases hb2:b=a
        . have z':=(if_pos hb2).symm.trans z0
          cases z'
          subst hb2;exact⟨ha,by rw[List.length_map];exact hl,vs,_,rv,ha⟩
        . have z':=(if_neg hb2).symm.trans z0
          cases z'
theorem zlC{K:W.Frag}{as:List Addr}(e:as=K.map (·.1)){b:Addr}(h:b ∉ as):K.lookup b=none:=by
 cases q:K.lookup b with
 |none=>rfl
 |some o =>
  subst e;exact absurd (List.mem_map.mpr ⟨(b,o),W.mem_of_lookupK q,rfl⟩:b∈List.map (fun x=>x.fst) K) h
theorem km_all{K:Params -> W.Frag}{as:List Addr}{e:∀P, as=(K P).map (·.1)}{ts:List Addr}(d:(ts.all fun t => !as.contains t)=true)(w:World)(h:Heap)(Y:(W.kmHook K as e ts).says w h) :
  (K w.params).In h/\(∀P∈ts,h.get? P=some (W.tabObj #[]))/\∀P∈ts,(K w.params).lookup P=none :=
 ⟨W.km_in_of Y,W.km_tabs_of Y,fun P hP=>zlC (e w.params) fun z=>by have:=List.all_eq_true.mp d P hP;simp[z]at this⟩
theorem walk_ofL{l:W.OpenLaw}{n k:Nat}{q:Program}{loose:List Str}{XP:(Str -> Option Value) -> Heap -> Prop}{YP:World -> Heap -> Prop}{d:DefRec}{K:Params -> W.Frag}{CX:World -> CXT}{sp:World -> Sp}{x:Str}{ts:List Addr}
  (hn:l.most=some n) (hn2:n<=sizeLine) (hdf:d.params.defaults=[]) (hr:Room k callerA)
  (hY:∀(w:World) (h:Heap),YP w h->(K w.params).In h/\(∀P∈ts,h.get? P=some (W.tabObj #[]))/\∀P∈ts,(K w.params).lookup P=none)
  (F:∀(w:World) (mg:Str->Option Value) (fa:Addr) (h:Heap),(K w.params).In h->h.Ns mainGlobals mg->mg d.name=some (.ref fa) ->
   ∃fd:FuncData,(∀(s:Shared) (u:Value),BindsTo s fd ⟨[u],[]⟩ [(x,u)])/\(∀P∈ts,∃c,W.codeHdIn (K w.params) c P=true) /\
    ∀base:Heap,(K w.params).In base->base.Ns mainGlobals mg->Bm mg base->FnOk l.prog w (K w.params) mg base (CX w) k fa fd [x] (sp w))
  (hsp:∀(w:World) (H:Hp) (a:Addr) (ns:List Int),ns.length<=n->(∀P∈ts,H P=some (.tbl #[]))->SqL (K w.params) H a (ns.map V.int)->sp w [.ref a] H (fun v _=>v=.bl true) fun _ _ _=>False)
  (hCX:∀(w:World) (H:Hp) (s:Shared) (e:Value) (s':Shared),CX w [] H s (fun _ _ _=>False) e s'->False) :
  W.WalkO q loose XP YP l.row.toRowW d [] (fun f vs=>PySem.call f vs):=by
 refine Att.attach_call hn hdf fun w s₀ s₁ mg mb fa o pm cd doc a vs ns G Y ho hd hcd hmg hobj hints hlen hg=>?_
 obtain⟨KX,hts,hno⟩:=hY w _ Y;obtain⟨fd,hb,hc,hF⟩:=F w mg fa _ KX G.T.g hmg
 have hB:Bm mg s₁.heap:=by obtain⟨bm,ob,b1,b2,b3,b4,b5,b6⟩:=G.T.bmain;refine⟨bm,ob,b1,b2,fun q=>?_,b3,b4,b5,b6⟩;obtain⟨o,es,ep,e,hd,_⟩:=G.T.g;rw[q,e]at b3;cases b3;rw[hd]at b6;cases b6
 exact ziQ KX G.T.g G.T.b G.T.builtins G.T.nolimit hg hobj hints (Nat.le_trans hlen hn2) hr hts hno hc hB hF hb (fun H hT hS=>hsp w H a ns hlen hT hS) fun H e s'=>hCX w H s₁ e s'
theorem Fun.okL{P:Program}{w:World}{K:W.Frag}{mg:Str -> Option Value}{base:Heap}{x qual:Str}{st:Stmt}{f c:Addr}{fd:FuncData}{N ps:List Str}{k:Nat}{sp:Sp}(F:Fun K x qual st f fd)(hc:fd.code = .ref c)(S:FnScope N ps (zad st))(len:∀vs H Q E, sp vs H Q E -> vs.length=ps.length)
  (hbody:∀(A:Around) (outer:List Env) (s:Shared) (H:Hp) (vs:List V) (Q:VK) (E:XK),Room k (A.deeper (envOfC qual (zad st) s.heap.objs.size f (.ref c)))->sp vs H Q E ->
   ∃t,PSs (cxOf CX0 P w K mg base N qual (zad st) f (.ref c) A outer s H E).nox (zaq st) t/\t { nx:=fun _ H'=>Q .non H',rt:=Q } (start N vs) H):FnOk P w K mg base CX0 (k+1) f fd ps sp:=by
 obtain⟨oc,od,kV,doc,pm,an,cdv,ct,osl,rfl,lk,hcd⟩:=F.ex
 cases (show cdv=.ref c from hc)
 refine fn_of lk hcd S len fun A outer s H vs Q E hr hsp=>?_
 obtain⟨t,h,q⟩:=hbody A outer s H vs Q E hr hsp;exact⟨t,h.nox,q⟩
def hdOk(vs:Array Value)(c P:Addr):Bool := (match (vs[11]? : Option Value) with |some (.ref P') => P' == P |_ => false) &&
   (match vs.getD 18 .none with |.str _ _=>true |_=>false) && (match vs.getD 7 .none with |.int _ _=>true |_=>false) &&
   (match vs.getD 9 .none with |.bool _=>true |_=>false) && (match vs.getD 10 .none with |.int _ _=>true |_=>false) && c != P
theorem hd_of {K:W.Frag}{c P:Addr}{od:Option Addr}{vs:Array Value}{sl:Array (Option Value)}(l:K.lookup c=some ⟨.type "code",od,.fields vs,sl⟩) (h:hdOk vs c P=true):W.codeHdIn K c P=true:=by unfold W.codeHdIn;rw[l];exact h
open PySem RP
theorem zgC{es:List Edge}{e:Edge}(y:Int):upr (es++[e]) y=if isUp y e=true then upr es y++[px e] else upr es y:=by
 unfold upr;rw[List.filter_append,List.map_append]
 by_cases h:isUp y e=true
 .simp[h]
 .simp[h]
structure UD (H0 H:Hp) (a:Addr) (es:List Edge) (kvs:List (Key×V)) (B:Int->Addr):Prop where
 dict:H a=some (.dK kvs)
 new:H0 a=none
 same:Same H0 H
 len:kvs.length<=es.length
 nd:(kvs.map (·.1)).Nodup
 keys:∀k∈kvs.map (·.1),∃y,k=Sum.inl y/\upr es y≠[]
 at_:∀y,upr es y≠[]->valV kvs (.inl y)=some (.ref (B y))/\H (B y)=some (.lst ((upr es y).map V.int))/\H0 (B y)=none/\B y≠a
 inj:∀y z,upr es y≠[]->upr es z≠[]->B y=B z->y=z
 no:∀y,upr es y=[]->valV kvs (.inl y)=none
theorem UD.start{H0:Hp}{a:Addr}(h:H0 a=none):UD H0 (upd H0 a (.dK [])) a [] [] fun _=>0 where
 dict:=zaa
 new:=h
 same:=fun b u e=>by rw[zai (zam e h)];exact e
 len:=Nat.le_refl _
 nd:=.nil
 keys:=fun _ h=>(nomatch h)
 at_:=fun y h=>absurd rfl h
 inj:=fun y z h=>absurd rfl h
 no:=fun _ _=>rfl
variable {H0 H:Hp}{a z:Addr}{es:List Edge}{e:Edge}{kvs:List (Key×V)}{B:Int->Addr}
theorem UD.skip(h:UD H0 H a es kvs B)(hw:¬ (e.w=1∨e.w=3)):UD H0 H a (es++[e]) kvs B:=by
 have u:∀y,upr (es++[e]) y=upr es y:=fun y=>by rw[zgC,if_neg (fun q=>hw (zca.mp q).1)]
 exact⟨h.dict,h.new,h.same,by rw[List.length_append];exact Nat.le_succ_of_le h.len,h.nd,fun k hk=>by obtain⟨y,q,r⟩:=h.keys k hk;exact⟨y,q,by rw[u];exact r⟩,
  fun y hy=>by rw[u]at hy ⊢;exact h.at_ y hy,fun y z hy hz=>h.inj y z (by rwa [u]at hy) (by rwa [u]at hz),fun y hy=>h.no y (by rwa [u]at hy)⟩
theorem zhX(hw:e.w=1∨e.w=3)(y:Int):upr (es++[e]) y=if y=e.c.2 then upr es y++[px e] else upr es y:=by
 rw[zgC]
 by_cases q:y=e.c.2
 .rw[if_pos (zca.mpr ⟨hw,q.symm⟩),if_pos q]
 .rw[if_neg (fun z=>q (zca.mp z).2.symm),if_neg q]
theorem UD.more(h:UD H0 H a es kvs B)(hw:e.w=1 ∨ e.w=3)(hz:H z=none)(hy:upr es e.c.2 ≠ []) :
  UD H0 (upd (upd H z (.lst [])) (B e.c.2) (.lst ((upr es e.c.2).map V.int++[.int (px e)]))) a (es++[e]) kvs B:=by
 obtain⟨a1,a2,a3,a4⟩:=h.at_ _ hy;have u:=zhX (es:=es) hw;have nz:∀{b o},H b=some o->b≠z:=fun q w=>by rw[w,hz]at q;cases q
 have ne:∀y,upr (es++[e]) y≠[] ↔ upr es y≠[]:=fun y=>by
  rw[u]
  by_cases q:y=e.c.2
  .subst q;simp[hy]
  .simp[q]
 refine⟨?_,h.new,fun b o q=>?_,by rw[List.length_append];exact Nat.le_succ_of_le h.len,h.nd,fun k hk=>?_,fun y hy'=>?_,fun y z' h1 h2=>h.inj y z' ((ne y).mp h1) ((ne z').mp h2),fun y hy'=>h.no y ?_⟩
 .rw[zai a4.symm,zai (nz h.dict)];exact h.dict
 .have q':=h.same b o q;rw[zai (zam q a3),zai (nz q')];exact q'
 .obtain⟨y,q,r⟩:=h.keys k hk;exact⟨y,q,(ne y).mpr r⟩
 .obtain⟨b1,b2,b3,b4⟩:=h.at_ y ((ne y).mp hy');refine⟨b1,?_,b3,b4⟩;rw[u]
  by_cases q:y=e.c.2
  .subst q;rw[if_pos rfl,zaa,List.map_append];rfl
  .rw[if_neg q,zai (fun w=>q (h.inj y _ ((ne y).mp hy') hy w)),zai (nz b2)];exact b2
 .exact Classical.byContradiction fun w=>(ne y).mpr w hy'
theorem UD.first(h:UD H0 H a es kvs B)(hw:e.w=1 ∨ e.w=3)(hz:H z=none)(hy:upr es e.c.2 = []) :
  UD H0 (upd (upd (upd H z (.lst [])) a (.dK (putK kvs (.inl e.c.2) (.ref z)))) z (.lst ([]++[.int (px e)]))) a (es++[e]) (putK kvs (.inl e.c.2) (.ref z)) fun y=>if y=e.c.2 then z else B y:=by
 have u:=zhX (es:=es) hw;have nz:∀{b o},H b=some o->b≠z:=fun q w=>by rw[w,hz]at q;cases q
 have haz:a≠z:=nz h.dict;have hv:=h.no _ hy
 have ne:∀y,upr (es++[e]) y≠[] ↔ y=e.c.2∨upr es y≠[]:=fun y=>by
  rw[u]
  by_cases q:y=e.c.2
  .subst q;simp
  .simp[q]
 refine⟨?_,h.new,fun b o q=>?_,?_,zkO _ h.nd hv,fun k hk=>?_,fun y hy'=>?_,fun y z' h1 h2 q=>?_,fun y hy'=>?_⟩
 .rw[zai haz,zaa]
 .have q':=h.same b o q;rw[zai (nz q'),zai (zam q h.new),zai (nz q')];exact q'
 .have:=zba kvs (Sum.inl e.c.2) (V.ref z);have:=h.len;rw[List.length_append];simp only[List.length_cons,List.length_nil];lia
 .rw[putK_new _ hv,List.map_append]at hk;rcases List.mem_append.mp hk with hk |hk
  .obtain⟨y,q,r⟩:=h.keys k hk;exact⟨y,q,(ne y).mpr (.inr r)⟩
  .exact⟨e.c.2,List.mem_singleton.mp hk,(ne _).mpr (.inl rfl)⟩
 .by_cases q:y=e.c.2
  .subst q;refine⟨by rw[zcX,if_pos rfl,if_pos rfl],?_,?_,?_⟩
   .rw[if_pos rfl,zaa,u,if_pos rfl,hy];rfl
   .rw[if_pos rfl];exact h.same.free hz
   .rw[if_pos rfl];exact haz.symm
  .obtain⟨b1,b2,b3,b4⟩:=h.at_ y (((ne y).mp hy').resolve_left q);rw[if_neg q];refine⟨by rw[zcX,if_neg (fun w=>q (Sum.inl.inj w))];exact b1,?_,b3,b4⟩;rw[zai (nz b2),zai b4,zai (nz b2),u,if_neg q];exact b2
 .by_cases q1:y=e.c.2 <;> by_cases q2:z'=e.c.2 <;> simp only[q1,q2,if_true,if_false]at q
  .rw[q1,q2]
  .exact absurd q.symm (nz (h.at_ z' (((ne z').mp h2).resolve_left q2)).2.1)
  .exact absurd q (nz (h.at_ y (((ne y).mp h1).resolve_left q1)).2.1)
  .exact h.inj y z' (((ne y).mp h1).resolve_left q1) (((ne z').mp h2).resolve_left q2) q
 .have q:y≠e.c.2:=fun w=>(ne y).mpr (.inl w) hy'
  rw[zcX,if_neg (fun w=>q (Sum.inl.inj w))];exact h.no y (Classical.byContradiction fun w=>(ne y).mpr (.inr w) hy')
open PySem RP
theorem zhH{lo:Int}{n:Nat}{g:TG}{tb:TS}{D:Ends}{σ : St}{H:Hp}(Pv:Nat -> St -> Hp -> Prop)(h0:Pv 0 σ H)
  (hs:∀i σ H,i<n->Pv i σ H->g (.int (lo+i*2)) σ H fun σ2 H2=>tb { D with nx:=Pv (i+1),ct:=Pv (i+1),bk:=D.nx } σ2 H2) (hd:∀ σ H,Pv n σ H->D.nx σ H) :
  ∃W:Nat->Nat->St->Hp->Prop,(∃m,W 0 m σ H)/\∀i m σ H,W i m σ H ->
   ((Itr2 lo n).stop i H/\D.nx σ H)∨((Itr2 lo n).go i H/\∃N:St->Hp->Prop,(∀ σ' H',N σ' H'->∃m',m'<m/\W (i+1) m' σ' H')/\∀x H',(Itr2 lo n).yld i H x H'->g x σ H' fun σ2 H2=>tb { D with nx:=N,ct:=N,bk:=D.nx } σ2 H2):=by
 refine⟨fun i m σ H=>m=n-i/\i<=n/\Pv i σ H,⟨n,by simp,Nat.zero_le _,h0⟩,?_⟩;rintro i m σ H ⟨rfl,hi,p⟩
 by_cases hlt:i<n
 .refine .inr ⟨hlt,Pv (i+1),fun σ' H' p'=>⟨n-(i+1),by lia,rfl,hlt,p'⟩,fun x H' y=>?_⟩;obtain⟨e,y⟩:=y;subst e y;exact hs i σ _ hlt p
 .have e:i=n:=by lia
  subst e;exact .inl ⟨Nat.le_refl _,hd σ H p⟩
def upto(a b:Int):List Int:=(List.range (b-a).toNat).map fun i:Nat=>a+(i:Int)
theorem zep:∀(T:List Int) (i:Nat) (a b:Int),T[2*i]?=some a->T[2*i+1]?=some b->fillT (T.take (2*(i+1)))=fillT (T.take (2*i))++upto a b
 |[],i,a,b,h,_=>by simp at h
 |[t],i,a,b,h,k=>by
  have:2*i+1<1:=(List.getElem?_eq_some_iff.mp k).1;lia
 |s::t::r,0,a,b,h,k=>by
  cases h;cases k
  simp[fillT,upto]
 |s::t::r,i+1,a,b,h,k=>by
  have e1:2*(i+1+1)=2*(i+1)+1+1:=by lia
  have e2:2*(i+1)=2*i+1+1:=by lia
  rw[e2]at h k;rw[e1,List.take_succ_cons,List.take_succ_cons,show 2*(i+1)=2*i+1+1 by lia];have ih:=zep r i a b (by simpa using h) (by simpa using k);rw[List.take_succ_cons,List.take_succ_cons];show upto s t++fillT (r.take (2*i+1+1))=upto s t++fillT (r.take (2*i))++upto a b;rw[show 2*i+1+1=2*(i+1) by lia,ih,List.append_assoc]
def srt(l:List Int):List Int:=l.mergeSort fun a b=>decide (a<=b)
theorem zdu(l:List Int):(srt l).Perm l:=List.mergeSort_perm _ _
theorem zgG(l:List Int):(srt l).Pairwise (·<=·):=by have:=List.pairwise_mergeSort (le:=fun a b:Int=>decide (a<=b)) (fun a b c h k=>by simp at *;lia) (fun a b=>by simp;lia) l;exact this.imp fun h=>by simpa using h
theorem zkw{l m:List Int}(h:m.Perm l)(k:m.Pairwise (·<=·)):m=srt l :=
 List.Perm.eq_of_pairwise (le:=(·<=·)) (fun a b _ _ h k=>Int.le_antisymm h k) k (zgG l) (h.trans (zdu l).symm)
def zb8(es:List Edge)(ys:List Int):List Cell:=ys.flatMap fun y=>(fillT (srt (upr es y))).map fun x=>(x,y)
theorem zf6{es:List Edge}{ys:List Int}{y:Int}:zb8 es (ys++[y])=zb8 es ys++(fillT (srt (upr es y))).map fun x=>(x,y):=by unfold zb8;rw[List.flatMap_append];simp
theorem zf5{C:Cell -> Bool}{b:Edge}{es:List Edge}(h:Closed C b es)(hs:(es.map (tt C)).sum=4 ∨ (es.map (tt C)).sum = -4){ys:List Int}(hy:ys.Pairwise (· < ·))(hm:∀y, y ∈ ys ↔ upr es y ≠ []) :
  (∀c,c∈zb8 es ys ↔ wd es c≠0)/\(zb8 es ys).Pairwise fun c d=>c.2<d.2∨(c.2=d.2/\c.1<d.1):=by
 have row:=fun y=>zeG h hs (zdu (upr es y)) (zgG _)
 constructor
 .rintro⟨x,y⟩;unfold zb8;rw[List.mem_flatMap];constructor
  .rintro⟨z,_,hz⟩;obtain⟨u,hu,e⟩:=List.mem_map.mp hz
   cases e
   exact ((row y).2.1 x).mp hu
  .intro hz;have hx:=((row y).2.1 x).mpr hz;refine⟨y,(hm y).mpr fun e=>?_,List.mem_map.mpr ⟨x,hx,rfl⟩⟩;rw[e]at hx;simp[srt,fillT]at hx
 .unfold zb8;rw[List.flatMap_def,List.pairwise_flatten,List.pairwise_map];refine⟨fun l hl=>?_,hy.imp fun {y z} hyz c hc d hd=>?_⟩
  .obtain⟨y,_,rfl⟩:=List.mem_map.mp hl;rw[List.pairwise_map];exact (row y).2.2.imp fun h=>.inr ⟨rfl,h⟩
  .obtain⟨_,_,rfl⟩:=List.mem_map.mp hc;obtain⟨_,_,rfl⟩:=List.mem_map.mp hd;exact .inl hyz
theorem zfD:∀{ks:List Key},(∀k∈ks,∃y:Int,k=Sum.inl y)->∃ns:List Int,ks=ns.map Sum.inl
 |[],_=>⟨[],rfl⟩
 |k::r,h=>by
  obtain⟨y,rfl⟩:=h k List.mem_cons_self;obtain⟨ns,rfl⟩:=zfD fun k hk=>h k (List.mem_cons_of_mem _ hk)
  exact⟨y::ns,rfl⟩
theorem zeZ{l:List Int}(h:l.Nodup){lo:Int}{n:Nat}(hb:∀x∈l,lo<=x/\x<lo+n):l.length<=n:=by
 have:(l.map fun x=>(x-lo).toNat).Nodup:=by rw[List.Nodup,List.pairwise_map];refine List.Pairwise.imp_of_mem (fun {x y} hx hy hne e=>hne ?_) h;have:=hb x hx;have:=hb y hy;lia
 have hsub:(l.map fun x=>(x-lo).toNat) ⊆ List.range n:=fun y hy=>by obtain⟨x,hx,rfl⟩:=List.mem_map.mp hy;have:=hb x hx;exact List.mem_range.mpr (by lia)
 have:=zap this fun x hx=>hsub hx
 simpa using this
open PySem RP
theorem zcS:∀(T:List Int) (i:Nat),fillT T=fillT (T.take (2*i))++fillT (T.drop (2*i))
 |T,0=>by simp[fillT]
 |[],i+1=>by simp[fillT]
 |[t],i+1=>by simp[fillT,Nat.mul_add]
 |s::t::r,i+1=>by
  rw[show 2*(i+1)=2*i+1+1 by lia,List.take_succ_cons,List.take_succ_cons,List.drop_succ_cons,List.drop_succ_cons];show upto s t++fillT r=upto s t++fillT (r.take (2*i))++fillT (r.drop (2*i));rw[List.append_assoc,<- zcS r i]
theorem zjL{C:Cell->Bool}{b:Edge}{es:List Edge}(h:Closed C b es)(hs:(es.map (tt C)).sum=4∨(es.map (tt C)).sum=-4){l:Int}(hb:∀e∈es,l<=e.c.1/\e.c.1<l+60)(y:Int):(fillT (srt (upr es y))).length<=61:=by
 obtain⟨_,r2,r3⟩:=zeG h hs (zdu (upr es y)) (zgG _);refine zeZ (lo:=l) (r3.imp fun h=>by lia) fun x hx=>?_
 obtain⟨e,he,f,hf,_,_,k3,k4,k5,k6⟩:=zhU h ((r2 x).mp hx);have:=hb e he;have:=hb f hf;have e1:e.c.1<=px e:=by unfold px;split <;> lia
 have e2:px f<=f.c.1+1:=by unfold px;split <;> lia
 simp only at k3 k4;lia
theorem zkr{C:Cell->Bool}{b:Edge}{es:List Edge}(h:Closed C b es){l:Int}(hb:∀e∈es,l<=e.c.1/\e.c.1<l+60)(y:Int):(upr es y).length<=61:=by
 refine zeZ (lo:=l) (zfg h y) fun x hx=>?_
 unfold upr at hx;obtain⟨e,he,rfl⟩:=List.mem_map.mp hx;have:=hb e (List.mem_filter.mp he).1;unfold px;split <;> lia
theorem zc8{es:List Edge}(h:∀y,(fillT (srt (upr es y))).length<=61):∀ys:List Int,(zb8 es ys).length<=61*ys.length
 |[]=>Nat.le_refl _
 |y::ys=>by
  have e:zb8 es (y::ys)=(fillT (srt (upr es y))).map (fun x=>(x,y))++zb8 es ys:=by unfold zb8;simp
  rw[e,List.length_append,List.length_map,List.length_cons];have:=h y;have:=zc8 h ys;lia
end L2
namespace RR
open PySem L2
def top(i:Nat):Stmt:=PySem.Challenge.pw_rimsteps_k12_cells_within.main.body.getD i (.Pass ⟨0,0,0,0⟩)
abbrev zbl:Stmt:=top 5
abbrev zf3:List Str:=["cell"]
theorem zeF:FnScope zf3 ["cell"] (zad zbl):=⟨rfl,rfl,rfl,by decide +kernel,rfl,by decide +kernel,by decide +kernel⟩
abbrev zdG:Stmt:=top 6
abbrev zlY:List Str:=["x","y","step","right","up"]
theorem zgc:FnScope zlY ["x","y","step"] (zad zdG):=⟨rfl,rfl,rfl,by decide +kernel,rfl,by decide +kernel,by decide +kernel⟩
abbrev zbj:Stmt:=top 8
abbrev zf1:List Str:=["edge","x","y","way"]
theorem zbY:FnScope zf1 ["edge"] (zad zbj):=⟨rfl,rfl,rfl,by decide +kernel,rfl,by decide +kernel,by decide +kernel⟩
abbrev zaK:Stmt:=top 9
abbrev zdZ:List Str:=["way"]
theorem zdr:FnScope zdZ ["way"] (zad zaK):=⟨rfl,rfl,rfl,by decide +kernel,rfl,by decide +kernel,by decide +kernel⟩
abbrev zbi:Stmt:=top 10
abbrev zf0:List Str:=["way"]
theorem zeE:FnScope zf0 ["way"] (zad zbi):=⟨rfl,rfl,rfl,by decide +kernel,rfl,by decide +kernel,by decide +kernel⟩
abbrev zbQ:Stmt:=top 11
abbrev zhP:List Str:=["step"]
theorem zgb:FnScope zhP ["step"] (zad zbQ):=⟨rfl,rfl,rfl,by decide +kernel,rfl,by decide +kernel,by decide +kernel⟩
abbrev za3:Stmt:=top 12
abbrev ze8:List Str:=["edge","step","x","y","way","new_x","new_y"]
theorem zbc:FnScope ze8 ["edge","step"] (zad za3):=⟨rfl,rfl,rfl,by decide +kernel,rfl,by decide +kernel,by decide +kernel⟩
abbrev zav:Stmt:=top 15
abbrev zbL:List Str:=["walk","lefts","slants"]
theorem zbx:FnScope zbL ["walk"] (zad zav):=⟨rfl,rfl,rfl,by decide +kernel,rfl,by decide +kernel,by decide +kernel⟩
abbrev zaz:Stmt:=top 16
abbrev zcV:List Str:=["walk","lefts","slants"]
theorem zbt:FnScope zcV ["walk"] (zad zaz):=⟨rfl,rfl,rfl,by decide +kernel,rfl,by decide +kernel,by decide +kernel⟩
abbrev zbF:Stmt:=top 17
abbrev zes:List Str:=["walk","sort"]
theorem zge:FnScope zes ["walk","sort"] (zad zbF):=⟨rfl,rfl,rfl,by decide +kernel,rfl,by decide +kernel,by decide +kernel⟩
abbrev zbm:Stmt:=top 20
abbrev zf4:List Str:=["one","sort","x","y","row"]
theorem zbH:FnScope zf4 ["one"] (zad zbm):=⟨rfl,rfl,rfl,by decide +kernel,rfl,by decide +kernel,by decide +kernel⟩
abbrev zb3:Stmt:=top 21
abbrev zjm:List Str:=["step"]
theorem zhy:FnScope zjm ["step"] (zad zb3):=⟨rfl,rfl,rfl,by decide +kernel,rfl,by decide +kernel,by decide +kernel⟩
abbrev za4:Stmt:=top 22
abbrev ze9:List Str:=["begin_way","row","way","deeds","step","lefts"]
theorem zbd:FnScope ze9 ["begin_way","row"] (zad za4):=⟨rfl,rfl,rfl,by decide +kernel,rfl,by decide +kernel,by decide +kernel⟩
abbrev zb5:Stmt:=top 23
abbrev zjo:List Str:=["begin","deeds","walk","edge","deed"]
theorem zce:FnScope zjo ["begin","deeds"] (zad zb5):=⟨rfl,rfl,rfl,by decide +kernel,rfl,by decide +kernel,by decide +kernel⟩
abbrev zbh:Stmt:=top 24
abbrev zfZ:List Str:=["begin","row"]
theorem zeD:FnScope zfZ ["begin","row"] (zad zbh):=⟨rfl,rfl,rfl,by decide +kernel,rfl,by decide +kernel,by decide +kernel⟩
abbrev zaR:Stmt:=top 25
abbrev zd8:List Str:=["edge","step","x","y","way","behind","seen"]
theorem zaW:FnScope zd8 ["edge","step"] (zad zaR):=⟨rfl,rfl,rfl,by decide +kernel,rfl,by decide +kernel,by decide +kernel⟩
abbrev za2:Stmt:=top 26
abbrev ze7:List Str:=["walk","known","steps_gone","edge","step","cell","inside"]
theorem zaE:FnScope ze7 ["walk"] (zad za2):=⟨rfl,rfl,rfl,by decide +kernel,rfl,by decide +kernel,by decide +kernel⟩
abbrev zbk:Stmt:=top 27
abbrev zf2:List Str:=["walk","edge","step"]
theorem zch:FnScope zf2 ["walk"] (zad zbk):=⟨rfl,rfl,rfl,by decide +kernel,rfl,by decide +kernel,by decide +kernel⟩
abbrev zbz:Stmt:=top 28
abbrev zgw:List Str:=["walk","sort"]
theorem zfp:FnScope zgw ["walk","sort"] (zad zbz):=⟨rfl,rfl,rfl,by decide +kernel,rfl,by decide +kernel,by decide +kernel⟩
abbrev zb4:Stmt:=top 29
abbrev zjn:List Str:=["one","sort","x","y","row","begin","walk","at"]
theorem zbD:FnScope zjn ["one"] (zad zb4):=⟨rfl,rfl,rfl,by decide +kernel,rfl,by decide +kernel,by decide +kernel⟩
abbrev zbE:Stmt:=top 30
abbrev zer:List Str:=["one"]
theorem zgd:FnScope zer ["one"] (zad zbE):=⟨rfl,rfl,rfl,by decide +kernel,rfl,by decide +kernel,by decide +kernel⟩
abbrev zbP:Stmt:=top 32
abbrev zhO:List Str:=["edges","places","x","y","way"]
theorem zb2:FnScope zhO ["edges"] (zad zbP):=⟨rfl,rfl,rfl,by decide +kernel,rfl,by decide +kernel,by decide +kernel⟩
abbrev zaG:Stmt:=top 33
abbrev zcJ:List Str:=["one","places","cells","y","turns","at"]
theorem zaX:FnScope zcJ ["one"] (zad zaG):=⟨rfl,rfl,rfl,by decide +kernel,rfl,by decide +kernel,by decide +kernel⟩
abbrev zaT:Stmt:=top 35
abbrev zd9:List Str:=["_law_script","_law_k"]
theorem zdF:FnScope zd9 ["_law_script","_law_k"] (zad zaT):=⟨rfl,rfl,rfl,by decide +kernel,rfl,by decide +kernel,by decide +kernel⟩
abbrev zbR:Stmt:=top 36
abbrev zhQ:List Str:=["_law_cell","_law_many","_law_base","_law_found","_law_left","_law_number","_law_k"]
theorem zby:FnScope zhQ ["_law_cell","_law_many","_law_base"] (zad zbR):=⟨rfl,rfl,rfl,by decide +kernel,rfl,by decide +kernel,by decide +kernel⟩
abbrev zaH:Stmt:=top 37
abbrev zcK:List Str:=["_law_script","_law_start","_law_wide","_law_high","_law_share","_law_left","_law_low","_law_way","_law_far","_law_found","_law_y","_law_row_here"]
theorem zaw:FnScope zcK ["_law_script","_law_start"] (zad zaH):=⟨rfl,rfl,rfl,by decide +kernel,rfl,by decide +kernel,by decide +kernel⟩
abbrev zbA:Stmt:=top 38
abbrev zgx:List Str:=["_law_x","_law_y","_law_step","_law_dx","_law_dy"]
theorem zcs:FnScope zgx ["_law_x","_law_y","_law_step"] (zad zbA):=⟨rfl,rfl,rfl,by decide +kernel,rfl,by decide +kernel,by decide +kernel⟩
abbrev zbS:Stmt:=top 39
abbrev zhR:List Str:=["_law_cells","_law_there","_law_cell"]
theorem zcM:FnScope zhR ["_law_cells"] (zad zbS):=⟨rfl,rfl,rfl,by decide +kernel,rfl,by decide +kernel,by decide +kernel⟩
abbrev za7:Stmt:=top 40
abbrev zfc:List Str:=["_law_there","_law_edge","_law_x","_law_y","_law_way","_law_right","_law_ahead"]
theorem zbe:FnScope zfc ["_law_there","_law_edge"] (zad za7):=⟨rfl,rfl,rfl,by decide +kernel,rfl,by decide +kernel,by decide +kernel⟩
abbrev za0:Stmt:=top 41
abbrev zdp:List Str:=["_law_there","_law_found","_law_x","_law_y"]
theorem zbZ:FnScope zdp ["_law_there"] (zad za0):=⟨rfl,rfl,rfl,by decide +kernel,rfl,by decide +kernel,by decide +kernel⟩
abbrev za5:Stmt:=top 42
abbrev zfa:List Str:=["_law_there","_law_first","_law_edges_here","_law_steps","_law_step","_law_edge"]
theorem zaQ:FnScope zfa ["_law_there","_law_first"] (zad za5):=⟨rfl,rfl,rfl,by decide +kernel,rfl,by decide +kernel,by decide +kernel⟩
abbrev zaS:Stmt:=top 43
abbrev zcm:List Str:=["_law_edges_here","_law_steps","_law_swung","_law_way","_law_at","_law_row_here"]
theorem zbV:FnScope zcm ["_law_edges_here","_law_steps"] (zad zaS):=⟨rfl,rfl,rfl,by decide +kernel,rfl,by decide +kernel,by decide +kernel⟩
abbrev za6:Stmt:=top 44
abbrev zfb:List Str:=["_law_cells","_law_there","_law_seen","_law_found","_law_edge","_law_edges_here","_law_steps","_law_one"]
theorem zaF:FnScope zfb ["_law_cells"] (zad za6):=⟨rfl,rfl,rfl,by decide +kernel,rfl,by decide +kernel,by decide +kernel⟩
abbrev zbn:Stmt:=top 45
abbrev zdo:List Str:=["_law_there","_law_first","_law_steps","_law_found","_law_left","_law_x","_law_y","_law_step","_law_cell"]
theorem za1:FnScope zdo ["_law_there","_law_first","_law_steps"] (zad zbn):=⟨rfl,rfl,rfl,by decide +kernel,rfl,by decide +kernel,by decide +kernel⟩
abbrev zbq:Stmt:=top 46
abbrev zdi:List Str:=["_law_cells","_law_wide","_law_high"]
theorem zcN:FnScope zdi ["_law_cells"] (zad zbq):=⟨rfl,rfl,rfl,by decide +kernel,rfl,by decide +kernel,by decide +kernel⟩
abbrev zaN:Stmt:=top 47
abbrev zcl:List Str:=["_law_cells","_law_one","_law_there","_law_sort","_law_x","_law_y","_law_row_here","_law_left","_law_low","_law_right","_law_high","_law_rest","_law_steps","_law_shut","_law_gaps","_law_b","_law_a","_law_beyond","_law_found"]
theorem zal:FnScope zcl ["_law_cells","_law_one"] (zad zaN):=⟨rfl,rfl,rfl,by decide +kernel,rfl,by decide +kernel,by decide +kernel⟩
abbrev s_law:Stmt:=top 48
abbrev N_law:List Str:=["_law_script","_law_cells","_law_one","_law_due","_law_found"]
theorem zfo:FnScope N_law ["_law_script"] (zad s_law):=⟨rfl,rfl,rfl,by decide +kernel,rfl,by decide +kernel,by decide +kernel⟩
open PySem L2 RP
def cellT(c:Cell):List V:=[.int c.1,.int c.2]
def edgeT(e:Edge):List V:=[.int e.c.1,.int e.c.2,.int e.w]
def sv:Option Nat->V
 |none=>.non
 |some s=>.int s
theorem Same.up{H:Hp}{p:Addr}{o:HO}(h:H p=none):Same H (upd H p o):=fun b u e=>by rw[zai (zam e h)];exact e
structure Txt (P:Program) (w:World) (K:W.Frag) (mg:Str->Option Value):Prop where
 moves:∃M,mg "MOVES" = some (.ref M)/\∀H,∃ms:List Addr,SqT K H M (ms.map V.ref)/\ms.length=8/\∀(i:Nat) a,ms[i]?=some a->SqT K H a [.int (mv i).1,.int (mv i).2]
 ways:Ways P w K mg
 more:Two P w K mg "MORE_LEFTS" 4 (-4)
 nrange:mg "range" = none
 nlen:mg "len" = none
 nmin:mg "min" = none
 nsorted:mg "sorted" = none
 ntuple:mg "tuple" = none
 nint:mg "int" = none
 nbool:mg "bool" = none
 nstr:mg "str" = none
 nall:mg "all" = none
 nisinstance:mg "isinstance" = none
 nlist:mg "list" = none
 nsum:mg "sum" = none
 nenumerate:mg "enumerate" = none
 nzip:mg "zip" = none
 nmax:mg "max" = none
theorem two:2<=sizeLine:=by decide
theorem three:3<=sizeLine:=by decide
section
variable {P:Program}{w:World}{K:W.Frag}{mg:Str->Option Value}{base:Heap}
def zh8(K:W.Frag):Sp:=fun vs H Q _=>∃(a:Addr) (x y:Int) (r:List V),vs=[.ref a]/\SqT K H a (.int x::.int y::r)/\∀(p:Addr) (H':Hp),H p=none->Same H H'->H' p=some (.tup [.int y,.int x])->Q (.ref p) H'
theorem zeT (d:Df K mg "cell_order" zbl ["cell"]):FnOk P w K mg base CX0 1 d.f d.fd ["cell"] (zh8 K):=by
 refine d.F.ok zeF (fun vs H Q E h=>?_) (fun cdv A outer s H vs Q E hr h=>?_)
 .obtain⟨a,x,y,r,rfl,_⟩:=h;rfl
 .obtain⟨a,x,y,r,rfl,hq,k⟩:=h;refine⟨_,(zah (zay (zax (zaj (pe_ix zc7 (pv 0) zag (fun _ _=>rfl)) (zaj (pe_ix zc7 (pv 0) zag (fun _ _=>rfl)) zac))))),?_⟩;refine⟨_,rfl,a,_,_,_,rfl,rfl,hq,zaM (j:=1) rfl,_,rfl,a,_,_,_,rfl,rfl,hq,zaM (j:=0) rfl,two,fun p hp=>?_⟩;exact k p _ hp (Same.up hp) zaa
def zdk:Sp:=fun vs H Q _=>∃(c:Cell) (i:Nat),vs=[.int c.1,.int c.2,.int i]/\i<8/\∀(p:Addr) (H':Hp),H p=none->Same H H'->H' p=some (.tup (cellT (go c i)))->Q (.ref p) H'
theorem zkK (T:Txt P w K mg) (d:Df K mg "gone" zdG ["x","y","step"]):FnOk P w K mg base CX0 1 d.f d.fd ["x","y","step"] zdk:=by
 refine d.F.ok zgc (fun vs H Q E h=>?_) (fun cdv A outer s H vs Q E hr h=>?_)
 .obtain⟨c,i,rfl,_⟩:=h;rfl
 .obtain⟨c,i,rfl,hi,k⟩:=h;obtain⟨M,hM,hms⟩:=T.moves;obtain⟨ms,hq,hl,hm⟩:=hms H
  refine⟨_,(zab (zbM (pe_ix zc7 (zeK (v:=.ref M) rfl hM rfl) (pv 2) (fun _ _=>rfl)) (zbr (by rfl) (zaf (zae (i:=3) zgc.nd (by rfl) (Or.inl rfl)) (zaf (zae (i:=4) zgc.nd (by rfl) (Or.inl rfl)) zaA))))
   (zah (zay (zax (pa_B (pe_op zaI (pv 0) (pv 3)) (pa_B (pe_op zaI (pv 1) (pv 4)) zac)))))),?_⟩
  have hi':i<ms.length:=by lia
  have e1:ms[i]?=some ms[i]:=by simp[hi']
  refine⟨_,rfl,M,_,(i:Int),.ref ms[i],rfl,rfl,hq,zaM (by simp[hi']),ms[i],_,rfl,hm i _ e1,rfl,_,_,rfl,_,_,rfl,rfl,?_⟩;refine⟨_,rfl,_,rfl,_,_,rfl,rfl,_,rfl,_,rfl,_,_,rfl,rfl,two,fun p hp=>?_⟩;exact k p _ hp (Same.up hp) zaa
def zeg:Sp:=fun vs H Q _=>∃w:Nat,vs=[.int w]/\w<4/\Q (.int (2*w:Nat)) H
theorem zds (d:Df K mg "straight_step" zaK ["way"]):FnOk P w K mg base CX0 1 d.f d.fd ["way"] zeg:=by
 refine d.F.ok zdr (fun vs H Q E h=>?_) (fun cdv A outer s H vs Q E hr h=>?_)
 .obtain⟨w,rfl,_⟩:=h;rfl
 .obtain⟨w,rfl,hw,k⟩:=h;refine⟨_,(zah (zay (pe_op zb9 zag (pv 0)))),?_⟩;refine⟨_,rfl,_,_,rfl,rfl,.inl ⟨by decide,by decide⟩,?_⟩;have e:(2*(w:Int))=((2*w:Nat):Int):=by lia
  show Q (.int (2*(w:Int))) H;rw[e];exact k
def zh7:Sp:=fun vs H Q _=>∃w:Nat,vs=[.int w]/\w<4/\Q (.int ((2*w+7) % 8:Nat)) H
theorem zeM (d:Df K mg "slant_step" zbi ["way"]):FnOk P w K mg base CX0 1 d.f d.fd ["way"] zh7:=by
 refine d.F.ok zeE (fun vs H Q E h=>?_) (fun cdv A outer s H vs Q E hr h=>?_)
 .obtain⟨w,rfl,_⟩:=h;rfl
 .obtain⟨w,rfl,hw,k⟩:=h;refine⟨_,(zah (zay (pe_op zbg (pe_op zaI (pe_op zb9 zag (pv 0)) zag) zag))),?_⟩;refine⟨_,rfl,_,_,rfl,rfl,.inl ⟨by decide,by decide⟩,_,_,rfl,rfl,_,_,rfl,rfl,(by show (0:Int)<8;decide),?_⟩;have e:(2*(w:Int)+7) % 8=(((2*w+7) % 8:Nat):Int):=by lia
  show Q (.int ((2*(w:Int)+7) % 8)) H;rw[e];exact k
def zcZ:Sp:=fun vs H Q _=>∃o:Option Nat,vs=[sv o]/\Q (.bl (slant o)) H
theorem zgm (d:Df K mg "is_slant" zbQ ["step"]):FnOk P w K mg base CX0 1 d.f d.fd ["step"] zcZ:=by
 refine d.F.ok zgb (fun vs H Q E h=>?_) (fun cdv A outer s H vs Q E hr h=>?_)
 .obtain⟨o,rfl,_⟩:=h;rfl
 .obtain⟨o,rfl,k⟩:=h;refine⟨_,(zah (zay (zkc (zcO zdK (pv 0) zcf (zaO _)) (zka (zcO op_eq (pe_op zbg (pv 0) zag) zag (zaO _)))))),?_⟩
  cases o with
  |none=>exact⟨_,rfl,rfl,false,rfl,iteF k⟩
  |some n =>
   refine⟨_,rfl,rfl,true,rfl,iteT ⟨_,rfl,_,_,rfl,rfl,(by show (0:Int)<2;decide),rfl,?_⟩⟩
   have e:decide (V.int ((n:Int) % 2)=V.int 1)=slant (some n):=by
    show _=(n % 2 == 1)
    by_cases q:n % 2=1
    .rw[decide_eq_true (by rw[show (n:Int) % 2=1 by lia]),q];rfl
    .rw[decide_eq_false (fun z=>by injection z with z;lia)];simp[q]
   rw[<- e]at k;exact k
def spGap(K:W.Frag):Sp:=fun vs H Q _=>∃(a:Addr) (e:Edge),vs=[.ref a]/\SqT K H a (edgeT e)/\e.w<4/\∀(p:Addr) (H':Hp),H p=none->Same H H'->H' p=some (.tup (cellT (gap e)))->Q (.ref p) H'
theorem zeR (g_gone:Fn P w K mg base 1 "gone" ["x","y","step"] zdk) (d:Df K mg "gap_beside" zbj ["edge"]):FnOk P w K mg base CX0 2 d.f d.fd ["edge"] (spGap K):=by
 refine d.F.ok zbY (fun vs H Q E h=>?_) (fun cdv A outer s H vs Q E hr h=>?_)
 .obtain⟨a,e,rfl,_⟩:=h;rfl
 .obtain⟨a,e,rfl,hq,hw,k⟩:=h
  refine⟨_,(zab (zbM (pv 0) (zbr (by rfl) (zaf (zae (i:=1) zbY.nd (by rfl) (Or.inl rfl)) (zaf (zae (i:=2) zbY.nd (by rfl) (Or.inl rfl)) (zaf (zae (i:=3) zbY.nd (by rfl) (Or.inl rfl)) zaA)))))
   (zah (zay (zan g_gone.ok (hr.mono (by decide)) (by rfl) g_gone.m g_gone.kp g_gone.b .nil pass0 (pa_N (pv 1) (pa_N (pv 2) (pa_B (pe_op zbg (pe_op zaI (pe_op zb9 zag (pv 3)) zag) zag) zac))))))),?_⟩
  refine⟨_,rfl,a,_,rfl,hq,rfl,_,_,rfl,_,_,rfl,_,_,rfl,rfl,?_⟩;have e6:(2*(e.w:Int)+6) % 8=(((2*e.w+6) % 8:Nat):Int):=by lia
  refine⟨_,rfl,_,rfl,_,rfl,_,_,rfl,rfl,.inl ⟨by decide,by decide⟩,_,_,rfl,rfl,_,_,rfl,rfl,(by show (0:Int)<8;decide),e.c,(2*e.w+6) % 8,(by rw[<- e6];rfl),by lia,fun p H' hp hS hH=>k p H' hp hS hH⟩
end
open PySem L2 RP
theorem iteN{b:Bool}{A B:Prop}(h:b=false)(q:B):if b=true then A else B:=by subst h;exact iteF q
theorem iteY{b:Bool}{A B:Prop}(h:b=true)(q:A):if b=true then A else B:=by subst h;exact iteT q
theorem zcY{tb:TS}{D:Ends}{σ:St}{H:Hp}(h:tb D σ H):tIfs (fun _ H Q=>Q true H) tb D σ H:=by
 show if true=true then tb D σ H else D.nx σ H
 exact iteT h
def LR{α:Type}(K:W.Frag)(H:Hp)(a:Addr)(l:List α)(R:α->V->Hp->Prop):Prop:=∃vs:List V,SqL K H a vs/\vs.length=l.length/\∀(i:Nat) x v,l[i]?=some x->vs[i]?=some v->R x v H
def cR(c:Cell)(v:V)(H:Hp):Prop:=∃b,v=.ref b/\H b=some (.tup (cellT c))
def eR(e:Edge)(v:V)(H:Hp):Prop:=∃b,v=.ref b/\H b=some (.tup (edgeT e))
def wR(q:Edge×Option Nat)(v:V)(H:Hp):Prop:=∃A b,v=.ref A/\H A=some (.tup [.ref b,sv q.2])/\H b=some (.tup (edgeT q.1))
theorem cR.same{c:Cell}{v:V}{H H':Hp}(h:cR c v H)(s:Same H H'):cR c v H':=let ⟨b,e,q⟩:=h;⟨b,e,s _ _ q⟩
theorem wR.same{c:Edge×Option Nat}{v:V}{H H':Hp}(h:wR c v H)(s:Same H H'):wR c v H':=let ⟨A,b,e,q,r⟩:=h;⟨A,b,e,s _ _ q,s _ _ r⟩
theorem LR.same{α:Type}{K:W.Frag}{H H':Hp}{a:Addr}{l:List α}{R:α->V->Hp->Prop}(h:LR K H a l R)(s:Same H H')(m:∀x v,R x v H->R x v H'):LR K H' a l R :=
 let ⟨vs,q,n,r⟩:=h;⟨vs,s.seq q,n,fun i x v h1 h2=>m x v (r i x v h1 h2)⟩
theorem zcv{α:Type}{l:List α}{i:Nat}{x c:α}(h:l[i]?=some x):c∈l.take (i+1) ↔ c∈l.take i∨c=x:=by rw[List.take_succ,h,List.mem_append];exact⟨fun z=>z.elim .inl fun z=>.inr (List.mem_singleton.mp z),fun z=>z.elim .inl fun z=>.inr (List.mem_singleton.mpr z)⟩
def InOrd(cs:List Cell):Prop:=∀(i:Nat) c d,cs[i]?=some c->cs[i+1]?=some d->HT.lexLt [c.2,c.1] [d.2,d.1]=true
section
variable {P:Program}{w:World}{K:W.Frag}{mg:Str->Option Value}{base:Heap}
def kC(c:Cell):List Key:=[Sum.inl c.1,Sum.inl c.2]
theorem zfF{c d:Cell}:kC c=kC d ↔ c=d:=by
 constructor
 .intro h;unfold kC at h;injection h with h1 h2;injection h2 with h2 _;exact Prod.ext (Sum.inl.inj h1) (Sum.inl.inj h2)
 .rintro rfl;rfl
def zeB(K:W.Frag):Sp:=fun vs H Q _=>∃(a:Addr) (e:Edge) (o:Option Nat),vs=[.ref a,sv o]/\SqT K H a (edgeT e)/\e.w<4/\(∀s,o=some s->s<8)/\∀(p:Addr) (H':Hp),H p=none->Same H H'->H' p=some (.tup (edgeT (edgeB e o)))->Q (.ref p) H'
theorem zd3 (g_gone:Fn P w K mg base 1 "gone" ["x", "y", "step"] zdk) (g_is_slant:Fn P w K mg base 1 "is_slant" ["step"] zcZ)
  (d:Df K mg "edge_behind" za3 ["edge","step"]):FnOk P w K mg base CX0 2 d.f d.fd ["edge","step"] (zeB K):=by
 refine d.F.ok zbc (fun vs H Q E h=>?_) (fun cdv A outer s H vs Q E hr h=>?_)
 .obtain⟨a,e,o,rfl,_⟩:=h;rfl
 .obtain⟨a,e,o,rfl,hq,hw,ho,k⟩:=h
  refine⟨_,(zab (zbM (pv 0) (zbr (by rfl) (zaf (zae (i:=2) zbc.nd (by rfl) (Or.inl rfl)) (zaf (zae (i:=3) zbc.nd (by rfl) (Or.inl rfl)) (zaf (zae (i:=4) zbc.nd (by rfl) (Or.inl rfl)) zaA)))))
   (zab (ps_if (zaL ziz (pv 1) zcf (zaO _))
   (zah (zay (zax (pa_N (pv 2) (pa_N (pv 3) (pa_B (pe_op zbg (pe_op zaI (pv 4) zag) zag) zac))))))
   za8)
   (zab (zbM (zan g_gone.ok (hr.mono (by decide)) (by rfl) g_gone.m g_gone.kp g_gone.b .nil pass0 (pa_N (pv 2) (pa_N (pv 3) (pa_N (pv 1) zac)))) (zbr (by rfl) (zaf (zae (i:=5) zbc.nd (by rfl) (Or.inl rfl)) (zaf (zae (i:=6) zbc.nd (by rfl) (Or.inl rfl)) zaA))))
   (zab (ps_if (zek (zan g_is_slant.ok (hr.mono (by decide)) (by rfl) g_is_slant.m g_is_slant.kp g_is_slant.b .nil pass0 (pa_N (pv 1) zac)))
   (zah (zay (zax (pa_N (pv 5) (pa_N (pv 6) (pa_B (pe_op zbg (pe_op zaI (pv 4) zag) zag) zac))))))
   za8)
   (zah (zay (zax (pa_N (pv 5) (pa_N (pv 6) (pa_N (pv 4) zac)))))))))),?_⟩
  refine⟨_,rfl,a,_,rfl,hq,rfl,_,_,rfl,_,_,rfl,_,_,rfl,rfl,?_⟩
  cases o with
  |none =>
   refine⟨_,rfl,rfl,true,rfl,iteT ?_⟩;refine⟨_,rfl,_,rfl,_,rfl,_,_,rfl,rfl,_,_,rfl,rfl,(by show (0:Int)<4;decide),three,fun p hp=>k p _ hp (Same.up hp) ?_⟩;rw[zaa];have e1:((e.w:Int)+1) % 4=(((e.w+1) % 4:Nat):Int):=by lia
   show some (HO.tup [.int e.c.1,.int e.c.2,.int (((e.w:Int)+1) % 4)])=_;rw[e1];rfl
  |some n =>
   refine⟨_,rfl,rfl,false,rfl,iteF ?_⟩;refine⟨_,rfl,_,rfl,_,rfl,e.c,n,rfl,ho n rfl,fun p1 H1 hp1 s1 f1=>?_⟩;refine⟨p1,_,rfl,SqT.of f1,rfl,_,_,rfl,_,_,rfl,rfl,?_⟩;refine⟨_,rfl,some n,rfl,_,rfl,?_⟩;refine ite2 (fun hs=>?_) (fun hs=>?_)
   .refine⟨_,rfl,_,rfl,_,rfl,_,_,rfl,rfl,_,_,rfl,rfl,(by show (0:Int)<4;decide),three,fun p hp=>k p _ (s1.free hp) (s1.trans (Same.up hp)) ?_⟩;rw[zaa];have e1:((e.w:Int)+3) % 4=(((e.w+3) % 4:Nat):Int):=by lia
    have hn:n % 2=1:=by simpa[slant]using hs
    show some (HO.tup [.int (go e.c n).1,.int (go e.c n).2,.int (((e.w:Int)+3) % 4)])=_;rw[e1];unfold edgeB;simp only[if_pos hn];rfl
   .refine⟨_,rfl,_,rfl,_,rfl,three,fun p hp=>k p _ (s1.free hp) (s1.trans (Same.up hp)) ?_⟩;rw[zaa];have hn:¬ n % 2=1:=by simpa[slant]using hs
    unfold edgeB;simp only[if_neg hn];rfl
end
open PySem L2 RP
def KT(H H':Hp):Prop:=∀b xs,H b=some (.tup xs)->H' b=some (.tup xs)
theorem KT.refl(H:Hp):KT H H:=fun _ _ h=>h
theorem KT.trans{H H1 H2:Hp}(a:KT H H1)(b:KT H1 H2):KT H H2:=fun c o h=>b c o (a c o h)
theorem KT.of{H H':Hp}(s:Same H H'):KT H H':=fun b xs e=>s b _ e
theorem KT.up{H:Hp}{p:Addr}{o:HO}(h:H p=none):KT H (upd H p o):=KT.of (Same.up h)
theorem KT.lst{H:Hp}{p:Addr}{xs:List V}{o:HO}(h:H p=some (.lst xs)):KT H (upd H p o):=fun b ys e=>by rw[zai (ne_of e h (fun z=>nomatch z))];exact e
theorem KT.dct{H:Hp}{p:Addr}{xs:List (List Key×V)}{o:HO}(h:H p=some (.dT xs)):KT H (upd H p o):=fun b ys e=>by rw[zai (ne_of e h (fun z=>nomatch z))];exact e
theorem cR.kt{c:Cell}{v:V}{H H':Hp}(h:cR c v H)(s:KT H H'):cR c v H':=let ⟨b,e,q⟩:=h;⟨b,e,s _ _ q⟩
theorem eR.kt{c:Edge}{v:V}{H H':Hp}(h:eR c v H)(s:KT H H'):eR c v H':=let ⟨b,e,q⟩:=h;⟨b,e,s _ _ q⟩
theorem wR.kt{c:Edge×Option Nat}{v:V}{H H':Hp}(h:wR c v H)(s:KT H H'):wR c v H':=let ⟨A,b,e,q,r⟩:=h;⟨A,b,e,s _ _ q,s _ _ r⟩
def VR{α:Type}(vs:List V)(l:List α)(R:α->V->Hp->Prop)(H:Hp):Prop:=vs.length=l.length/\∀(i:Nat) x v,l[i]?=some x->vs[i]?=some v->R x v H
theorem VR.nil{α:Type}{R:α->V->Hp->Prop}{H:Hp}:VR [] ([]:List α) R H:=⟨rfl,fun i x v h=>by simp at h⟩
theorem VR.snoc{α:Type}{vs:List V}{l:List α}{R:α->V->Hp->Prop}{H H':Hp}{x:α}{v:V}(h:VR vs l R H)(m:∀x v,R x v H->R x v H')(hx:R x v H'):VR (vs++[v]) (l++[x]) R H':=by
 refine⟨by simp[h.1],fun i y u h1 h2=>?_⟩;rcases Nat.lt_or_ge i l.length with hi |hi
 .rw[List.getElem?_append_left hi]at h1;rw[List.getElem?_append_left (by rw[h.1];exact hi)]at h2;exact m _ _ (h.2 i y u h1 h2)
 .rw[List.getElem?_append_right hi]at h1;rw[List.getElem?_append_right (by rw[h.1];exact hi)]at h2
  have hz:i-l.length=0:=by have:=(List.getElem?_eq_some_iff.mp h1).1;simp at this;lia
  rw[hz]at h1;rw[h.1,hz]at h2
  cases h1;cases h2
  exact hx
theorem VR.mono{α:Type}{vs:List V}{l:List α}{R:α->V->Hp->Prop}{H H':Hp}(h:VR vs l R H)(m:∀x v,R x v H->R x v H'):VR vs l R H':=⟨h.1,fun i x v h1 h2=>m _ _ (h.2 i x v h1 h2)⟩
theorem VR.at{α:Type}{vs:List V}{l:List α}{R:α->V->Hp->Prop}{H:Hp}(h:VR vs l R H){i:Nat}{v:V}(hv:vs[i]?=some v):∃x,l[i]?=some x/\R x v H:=by
 have hi:i<l.length:=by rw[<- h.1];exact (List.getElem?_eq_some_iff.mp hv).1
 exact⟨l[i],List.getElem?_eq_getElem hi,h.2 i _ v (List.getElem?_eq_getElem hi) hv⟩
theorem zau{H H2:Hp}{p:Addr}{o:HO}(hp:H p=none)(s:Same H H2):Same H (upd H2 p o):=fun z u e=>by rw[zai (zam e hp)];exact s z u e
theorem zhx(cs:List Cell)(c:Cell):sides (cs++[c])=sides cs++(List.range 4).map fun w=>⟨c,w⟩:=by unfold sides;simp[List.flatMap_append]
theorem zbb{α:Type}{l:List α}{i:Nat}{x:α}(h:l[i]?=some x):l.take (i+1)=l.take i++[x]:=by rw[List.take_succ,h];rfl
theorem zcR{α:Type}(p:α->Bool)(l:List α)(x:α):(l++[x]).filter p=l.filter p++(if p x=true then [x] else []):=by rw[List.filter_append];congr 1;simp[List.filter_cons]
section
variable {P:Program}{w:World}{K:W.Frag}{mg:Str->Option Value}{base:Heap}
end
open PySem L2 RP
def eI(e:Edge):List Int:=[e.c.1,e.c.2,(e.w:Int)]
theorem zi3{e f:Edge}:eI e=eI f ↔ e=f:=by
 constructor
 .intro h;obtain⟨⟨x,y⟩,w⟩:=e;obtain⟨⟨x',y'⟩,w'⟩:=f;unfold eI at h;injection h with h1 h2;injection h2 with h2 h3;injection h3 with h3 _;simp only at h1 h2 h3;have:w=w':=by lia
  subst h1 h2 this;rfl
 .rintro rfl;rfl
theorem zc9{K:W.Frag}{H:Hp}{b:Addr}{e:Edge}(h:H b=some (.tup (edgeT e))):RD K H (.ref b) (tI (eI e)):=.tup (SqT.of h) (RDs.ints (eI e))
theorem zeA{C:Cell->Bool}{e:Edge}(hw:e.w<4):∀s,stepB C e=some s->s<8:=by
 intro s h;unfold stepB at h;split at h
 .cases h;lia
 .split at h
  .cases h;lia
  .cases h
def wk(C:Cell->Bool)(es:List Edge):List (Edge×Option Nat):=es.map fun e=>(e,stepB C e)
theorem zcq(C:Cell->Bool)(es:List Edge):(wk C es).length=es.length:=by unfold wk;simp
def ziJ:Option HO->Nat
 |some (.lst ws)=>ws.length
 |_=>0
section
variable {P:Program}{w:World}{K:W.Frag}{mg:Str->Option Value}{base:Heap}
end
open PySem L2 RP
abbrev Wk:=List (Edge×Option Nat)
def nL(W:Wk):Nat:=(W.filter fun q=>q.2.isNone).length
def nS(W:Wk):Nat:=(W.filter fun q=>slant q.2).length
theorem zjZ(o:Option Nat):decide (sv o=V.non)=o.isNone:=by cases o <;> simp[sv]
theorem zcj{α:Type}{p:α->Bool}{l:List α}{i:Nat}{x:α}(h:l[i]?=some x):((l.take (i+1)).filter p)=(l.take i).filter p++(if p x=true then [x] else []):=by rw[zbb h,zcR]
theorem LR.vr{α:Type}{K:W.Frag}{H:Hp}{a:Addr}{l:List α}{R:α->V->Hp->Prop}(h:LR K H a l R):∃vs,SqL K H a vs/\VR vs l R H:=let ⟨vs,q,n,r⟩:=h;⟨vs,q,n,r⟩
theorem LR.of{α:Type}{K:W.Frag}{H:Hp}{a:Addr}{vs:List V}{l:List α}{R:α->V->Hp->Prop}(e:H a=some (.lst vs))(h:VR vs l R H):LR K H a l R:=⟨vs,SqL.of e,h.1,h.2⟩
section
variable {P:Program}{w:World}{K:W.Frag}{mg:Str->Option Value}{base:Heap}
def zh9(K:W.Frag):Sp:=fun vs H Q _=>∃(a:Addr) (W:Wk),vs=[.ref a]/\LR K H a W wR/\W.length<=500/\∀p H',H p=none->Same H H'->H' p=some (.tup [.int (nL W),.int (nS W)])->Q (.ref p) H'
theorem zcP (T:Txt P w K mg) (g_is_slant:Fn P w K mg base 1 "is_slant" ["step"] zcZ) (d:Df K mg "lefts_and_slants" zav ["walk"]):FnOk P w K mg base CX0 2 d.f d.fd ["walk"] (zh9 K):=by
 refine d.F.ok zbx (fun vs H Q E h=>?_) (fun cdv A outer s H vs Q E hr h=>?_)
 .obtain⟨a,W,rfl,_⟩:=h;rfl
 .obtain⟨a,W,rfl,hLR,hlen,k⟩:=h;obtain⟨ws,hq,hv⟩:=hLR.vr;have nb0:(["edge","step"]:List Str).Nodup:=by decide +kernel
  have nb1:(["edge","step"]:List Str).Nodup:=by decide +kernel
  refine⟨_,(zab (zas (i:=1) zbx.nd (by rfl) (Or.inl rfl) (zaV zbG (by rfl) T.nlen (by rfl) (zaj (zbv (osc:=zad zav) (N:=zbL) (N':=["edge","step"]) (sel:=[none,none]) ⟨rfl,by decide +kernel,by decide +kernel,by decide +kernel,rfl,by decide +kernel⟩ (za9 (pv 0)) (fun _ _ _ _ _=>(zcu (K:=K) (n:=2) (by rfl) (zaf (zae (i:=0) nb0 (by rfl) (Or.inl rfl)) (zaf (zae (i:=1) nb0 (by rfl) (Or.inl rfl)) zaA)))) (fun _ _ _ _ _=>zci (zaL ziz (pv 1) zcf (zaO _))) (fun _ _ _ _ _=>(pv 1))) zac)))
   (zab (zas (i:=2) zbx.nd (by rfl) (Or.inl rfl) (zaV zbG (by rfl) T.nlen (by rfl) (zaj (zbv (osc:=zad zav) (N:=zbL) (N':=["edge","step"]) (sel:=[none,none]) ⟨rfl,by decide +kernel,by decide +kernel,by decide +kernel,rfl,by decide +kernel⟩ (za9 (pv 0)) (fun _ _ _ _ _=>(zcu (K:=K) (n:=2) (by rfl) (zaf (zae (i:=0) nb1 (by rfl) (Or.inl rfl)) (zaf (zae (i:=1) nb1 (by rfl) (Or.inl rfl)) zaA)))) (fun _ _ _ _ _=>zci (zek (zan g_is_slant.ok (hr.mono (by decide)) (by rfl) g_is_slant.m g_is_slant.kp g_is_slant.b .nil pass0 (pa_N (pv 1) zac)))) (fun _ _ _ _ _=>(pv 1))) zac)))
   (zah (zay (zax (pa_N (pv 1) (pa_N (pv 2) zac))))))),?_⟩
  refine⟨_,rfl,a,rfl,⟨_,hq⟩,fun p hp=>?_⟩
  refine zaD (K:=K) (a:=a) (xs:=ws) (fun i σ H2=>∃o1 o2,σ=[o1,o2]/\Same H H2/\∃ss:List V,H2 p=some (.lst ss)/\ss.length=((W.take i).filter fun q=>q.2.isNone).length)
   ⟨_,_,rfl,Same.up hp,[],zaa,rfl⟩ (fun i σ H2 _ ⟨_,_,_,s2,_⟩=>s2.seq hq) ?_ ?_
  .rintro i v σ H2 hi ⟨o1,o2,rfl,s2,ss,e2,hl⟩;obtain⟨⟨e,st⟩,he,B,b,rfl,q1,q2⟩:=hv.at hi
   have hl2:ss.length<=1000:=by have:=List.length_filter_le (fun q:Edge×Option Nat=>q.2.isNone) (W.take i);rw[List.length_take]at this;lia
   refine⟨B,_,rfl,SqT.of (s2 _ _ q1),rfl,_,_,rfl,_,_,rfl,rfl,?_⟩;refine⟨_,rfl,rfl,_,rfl,?_⟩;rw[zjZ];rw[zcj he]at *;refine ite2 (fun hy=>?_) (fun hn=>?_)
   .refine⟨_,rfl,ss,e2,zao hl2,_,_,rfl,zau hp s2,_,zaa,?_⟩;rw[if_pos hy,List.length_append,List.length_append,hl];rfl
   .exact⟨_,_,rfl,s2,ss,e2,by rw[if_neg hn,List.append_nil];exact hl⟩
  .rintro σ H2 ⟨o1,o2,rfl,s2,ss,e2,hl⟩;refine⟨p,_,rfl,.inl (SqL.of e2),?_⟩;refine⟨_,rfl,a,rfl,⟨_,s2.seq hq⟩,fun p2 hp2=>?_⟩
   refine zaD (K:=K) (a:=a) (xs:=ws) (fun i σ H3=>∃o1 o2,σ=[o1,o2]/\Same H2 H3/\∃s3:List V,H3 p2=some (.lst s3)/\s3.length=((W.take i).filter fun q=>slant q.2).length)
    ⟨_,_,rfl,Same.up hp2,[],zaa,rfl⟩ (fun i σ H3 _ ⟨_,_,_,s3,_⟩=>(s2.trans s3).seq hq) ?_ ?_
   .rintro i v σ H3 hi ⟨o1,o2,rfl,s3,ss3,e3,hl3⟩;obtain⟨⟨e,st⟩,he,B,b,rfl,q1,q2⟩:=hv.at hi
    have hl2:ss3.length<=1000:=by have:=List.length_filter_le (fun q:Edge×Option Nat=>slant q.2) (W.take i);rw[List.length_take]at this;lia
    refine⟨B,_,rfl,SqT.of ((s2.trans s3) _ _ q1),rfl,_,_,rfl,_,_,rfl,rfl,?_⟩;refine⟨_,rfl,st,rfl,_,rfl,?_⟩;rw[zcj he]at *;refine ite2 (fun hy=>?_) (fun hn=>?_)
    .refine⟨_,rfl,ss3,e3,zao hl2,_,_,rfl,zau hp2 s3,_,zaa,?_⟩;rw[if_pos hy,List.length_append,List.length_append,hl3];rfl
    .exact⟨_,_,rfl,s3,ss3,e3,by rw[if_neg hn,List.append_nil];exact hl3⟩
   .rintro σ H3 ⟨o1,o2,rfl,s3,ss3,e3,hl3⟩;refine⟨p2,_,rfl,.inl (SqL.of e3),?_⟩;refine⟨_,rfl,_,rfl,two,fun p4 hp4=>k p4 _ (s2.free (s3.free hp4)) ((s2.trans s3).trans (Same.up hp4)) ?_⟩;rw[hv.1,List.take_length]at hl hl3;rw[zaa,hl,hl3];rfl
def zj2(K:W.Frag):Sp:=fun vs H Q _=>∃(a:Addr) (W:Wk),vs=[.ref a]/\LR K H a W wR/\W.length<=500/\∀H',Same H H'->Q (.int ((nL W:Int)-nS W)) H'
theorem zcG (g_lefts_and_slants:Fn P w K mg base 2 "lefts_and_slants" ["walk"] (zh9 K)) (d:Df K mg "lefts_less_slants" zaz ["walk"]):FnOk P w K mg base CX0 3 d.f d.fd ["walk"] (zj2 K):=by
 refine d.F.ok zbt (fun vs H Q E h=>?_) (fun cdv A outer s H vs Q E hr h=>?_)
 .obtain⟨a,W,rfl,_⟩:=h;rfl
 .obtain⟨a,W,rfl,hLR,hlen,k⟩:=h
  refine⟨_,(zab (zbM (zan g_lefts_and_slants.ok (hr.mono (by decide)) (by rfl) g_lefts_and_slants.m g_lefts_and_slants.kp g_lefts_and_slants.b .nil pass0 (pa_N (pv 0) zac)) (zbr (by rfl) (zaf (zae (i:=1) zbt.nd (by rfl) (Or.inl rfl)) (zaf (zae (i:=2) zbt.nd (by rfl) (Or.inl rfl)) zaA))))
   (zah (zay (pe_op zcH (pv 1) (pv 2))))),?_⟩
  refine⟨_,rfl,a,W,rfl,hLR,hlen,fun p H1 hp s1 f1=>?_⟩;refine⟨p,_,rfl,SqT.of f1,rfl,_,_,rfl,_,_,rfl,rfl,?_⟩;exact⟨_,rfl,_,rfl,_,_,rfl,rfl,k H1 s1⟩
def sortS (W:Wk):Str:=if nS W<nL W then "rim" else "hole"
def kOf (s:Str):Nat:=if s = "rim" then 0 else 2
def zcn(W:Wk)(s:Str)(e:Edge):Prop:=e∈W.map (·.1)/\e.w=kOf s/\∀f∈W.map (·.1),f.w=kOf s->HT.lexLt [f.c.2,f.c.1] [e.c.2,e.c.1]=false
def zie (K:W.Frag):Sp:=fun vs H Q _=>∃(a:Addr) (W:Wk) (s:Str),vs=[.ref a,.str s]/\(s = "rim" ∨ s = "hole")/\LR K H a W wR/\W.length<=500/\(∃e∈W.map (·.1),e.w=kOf s) /\
 ∀b e H',Same H H'->H' b=some (.tup (edgeT e))->zcn W s e->Q (.ref b) H'
theorem zgo (T:Txt P w K mg) (g_cell_order:Fn P w K mg base 1 "cell_order" ["cell"] (zh8 K)) (d:Df K mg "begin_of" zbF ["walk","sort"]):FnOk P w K mg base CX0 3 d.f d.fd ["walk","sort"] (zie K):=by
  refine d.F.ok zge (fun vs H Q E h=>?_) (fun cdv A outer s H vs Q E hr h=>?_)
  . obtain⟨a,W,s,rfl,_⟩:=h;rfl
  . obtain⟨a,W,so,rfl,hso,hLR,hlen,hex,k⟩:=h;obtain⟨ws,hq,hv⟩:=hLR.vr;have nb0:(["edge","step","sort"]:List Str).Nodup:=by decide +kernel
    refine⟨_,(zah (zay (zkH g_cell_order.ok (hr.mono (by decide)) g_cell_order.b (by rfl) T.nmin (by rfl) g_cell_order.m (zbv (osc:=zad zbF) (N:=zes) (N':=["edge","step","sort"]) (sel:=[none,none,some 1]) ⟨rfl,by decide +kernel,by decide +kernel,by decide +kernel,rfl,by decide +kernel⟩ (za9 (pv 0)) (fun _ _ _ _ _=>(zcu (K:=K) (n:=2) (by rfl) (zaf (zae (i:=0) nb0 (by rfl) (Or.inl rfl)) (zaf (zae (i:=1) nb0 (by rfl) (Or.inl rfl)) zaA)))) (fun _ _ _ _ _=>zci (zaL op_eq (pe_ix (zdb (K:=K)) (pv 0) zag (fun _ _=>rfl)) (ziv (by rfl) T.ways (pv 2)) (zaO _))) (fun _ _ _ _ _=>(pv 0)))))),?_⟩;refine⟨_,rfl,a,rfl,⟨_,hq⟩,fun p hp=>?_⟩
    refine zaD (K:=K) (a:=a) (xs:=ws) (fun i σ H2=>∃o1 o2,σ=[o1,o2,some (.str so)]/\Same H H2/\∃es:List V,H2 p=some (.lst es)/\VR es (((W.take i).filter fun q=>q.1.w == kOf so).map (·.1)) eR H2)
      ⟨_,_,rfl,Same.up hp,[],zaa,VR.nil⟩ (fun i σ H2 _ ⟨_,_,_,s2,_⟩=>s2.seq hq) ?_ ?_
    . rintro i v σ H2 hi ⟨o1,o2,rfl,s2,es,e2,hl⟩;obtain⟨⟨e,st⟩,he,B,b,rfl,q1,q2⟩:=hv.at hi
      have hl2:es.length<=1000:=by have:=List.length_filter_le (fun q:Edge×Option Nat=>q.1.w == kOf so) (W.take i);rw[hl.1,List.length_map];rw[List.length_take]at this;lia
      have fin:∀kk:Int, kk=(kOf so:Int) -> (if decide (V.int (e.w:Int)=V.int kk)=true then zdB p (tVar 0) { nx := fun σ H2 => ∃o1 o2, σ = [o1, o2, some (V.str so)] /\ Same H H2 /\ ∃es, H2 p=some (.lst es) /\ VR es (List.map (fun x => x.fst) (List.filter (fun q => q.1.w == kOf so) (List.take (i + 1) W))) eR H2, rt := fun _ _ => False } [some (.ref b), some (sv st), some (.str so)] H2
          else (∃o1 o2,[some (.ref b),some (sv st),some (V.str so)]=[o1,o2,some (V.str so)]/\Same H H2/\∃es,H2 p=some (.lst es)/\VR es (List.map (fun x=>x.fst) (List.filter (fun q=>q.1.w == kOf so) (List.take (i+1) W))) eR H2)):=fun kk hk=>by
        have hd:decide (V.int (e.w:Int)=V.int kk)=(e.w == kOf so):=by
          subst hk
          by_cases q:e.w=kOf so
          . rw[q];simp
          . rw[decide_eq_false (fun z=>q (by injection z with z;lia))];simp[q]
        rw[hd,zcj he];refine ite2 (fun hy=>?_) (fun hn=>?_)
        . refine⟨_,rfl,es,e2,zao hl2,_,_,rfl,zau hp s2,_,zaa,?_⟩;rw[if_pos hy,List.map_append];have k2:KT H2 (upd H2 p (.lst (es++[.ref b]))):=KT.lst e2;exact hl.snoc (fun x v hx=>hx.kt k2) ⟨b,rfl,k2 _ _ (s2 _ _ q2)⟩
        . exact⟨_,_,rfl,s2,es,e2,by rw[if_neg hn,List.append_nil];exact hl⟩
      refine⟨B,_,rfl,SqT.of (s2 _ _ q1),rfl,_,_,rfl,_,_,rfl,rfl,?_⟩;rcases hso with z |z
      . have f0:=fin 0 (by rw[z];rfl);exact⟨_,rfl,b,_,_,_,rfl,rfl,SqT.of (s2 _ _ q2),zaM (j:=2) rfl,_,rfl,.inl ⟨by rw[z],rfl,_,rfl,f0⟩⟩
      . have f2:=fin 2 (by rw[z];rfl);exact⟨_,rfl,b,_,_,_,rfl,rfl,SqT.of (s2 _ _ q2),zaM (j:=2) rfl,_,rfl,.inr ⟨by rw[z],rfl,_,rfl,f2⟩⟩
    . rintro σ H2 ⟨o1,o2,rfl,s2,es,e2,hl⟩;rw[hv.1,List.take_length]at hl;obtain⟨L,hL⟩:∃L,L=((W.filter fun q=>q.1.w == kOf so).map (·.1)):=⟨_,rfl⟩;rw[<- hL]at hl
      have memL:∀f,f∈L ↔ f∈W.map (·.1)/\f.w=kOf so:=fun f=>by
        rw[hL];constructor
        . intro h;obtain⟨q,hq1,rfl⟩:=List.mem_map.mp h;obtain⟨h1,h2⟩:=List.mem_filter.mp hq1;exact⟨List.mem_map.mpr ⟨q,h1,rfl⟩,by simpa using h2⟩
        . rintro⟨h1,h2⟩;obtain⟨q,hq1,rfl⟩:=List.mem_map.mp h1;exact List.mem_map.mpr ⟨q,List.mem_filter.mpr ⟨hq1,by simpa using h2⟩,rfl⟩
      have hpos:0<es.length:=by obtain⟨f,h1,h2⟩:=hex;rw[hl.1];exact List.length_pos_of_mem ((memL f).mpr ⟨h1,h2⟩)
      have kap:∀(i:Nat) e,L[i]?=some e->(fun i=>(L[i]?.map fun e:Edge=>[e.c.2,e.c.1]).getD []) i=[e.c.2,e.c.1]:=fun i e h=>by simp only[h];rfl
      refine⟨p,es,fun i=>(L[i]?.map fun e:Edge=>[e.c.2,e.c.1]).getD [],rfl,SqL.of e2,hpos,fun i x H3 hx s3=>?_,fun i x H3 hx hle s3=>?_⟩
      . obtain⟨e,he,b,rfl,q⟩:=hl.at hx;refine⟨b,e.c.1,e.c.2,_,rfl,SqT.of (s3 _ _ q),fun p4 H4 hp4 s4 f4=>⟨s4,p4,rfl,SqT.of ?_⟩⟩;rw[kap i e he];exact f4
      . obtain⟨e,he,b,rfl,q⟩:=hl.at hx;have hm:=(memL e).mp (List.mem_of_getElem? he);refine k b e H3 (s2.trans s3) (s3 _ _ q) ⟨hm.1,hm.2,fun f h1 h2=>?_⟩;obtain⟨j,hj,ej⟩:=List.getElem_of_mem ((memL f).mpr ⟨h1,h2⟩);have hj':L[j]?=some f:=by rw[List.getElem?_eq_getElem hj,ej]
        have:=(hle j (by rw[hl.1];exact hj)).1;rw[kap j f hj',kap i e he]at this;exact this
end
open PySem L2 RP
theorem zgf(n d j:Nat):HT.sIx n d (some (j:Int))=min j n:=by show (if (j:Int)<0 then ((j:Int)+(n:Int)).toNat else min (j:Int).toNat n)=min j n;rw[if_neg (by lia),Int.toNat_natCast]
theorem zjS(xs:List V){j:Nat}(h:j<=xs.length):cutV xs (some (j:Int)) none=xs.drop j:=by unfold cutV;rw[zgf,Nat.min_eq_left h];exact List.take_of_length_le (by rw[List.length_drop];exact Nat.le_refl _)
theorem zlR(xs:List V){j:Nat}(h:j<=xs.length):cutV xs none (some (j:Int))=xs.take j:=by unfold cutV;rw[zgf,Nat.min_eq_left h];rfl
structure Rnd where
 so:Str
 x:Int
 y:Int
 row:List Nat
 deriving DecidableEq
def rowV(row:List Nat):List V:=row.map fun n:Nat=>V.int (n:Int)
def rR(r:Rnd)(v:V)(H:Hp):Prop:=∃a b,v=.ref a/\H a=some (.tup [.str r.so,.int r.x,.int r.y,.ref b])/\H b=some (.tup (rowV r.row))
theorem rR.kt{r:Rnd}{v:V}{H H':Hp}(h:rR r v H)(s:KT H H'):rR r v H':=let ⟨a,b,e,q1,q2⟩:=h;⟨a,b,e,s _ _ q1,s _ _ q2⟩
def IsRnd(W:Wk)(r:Rnd):Prop:=r.so=sortS W/\∃(j:Nat) (e:Edge),(W.map (·.1))[j]?=some e/\zcn W (sortS W) e/\r.x=e.c.1/\r.y=e.c.2/\r.row=(W.drop j++W.take j).filterMap (·.2)
theorem zgO (W:Wk):sortS W = "rim" ∨ sortS W = "hole":=by unfold sortS;split <;> simp
section
variable {P:Program}{w:World}{K:W.Frag}{mg:Str->Option Value}{base:Heap}
def keyV (r:Rnd):List V:=[.int r.y,.int r.x,.bl (decide (V.str r.so=V.str "hole"))]
end
open PySem L2 RP
theorem VR.cons{α:Type}{v:V}{vs:List V}{x:α}{l:List α}{R:α->V->Hp->Prop}{H:Hp}:VR (v::vs) (x::l) R H ↔ R x v H/\VR vs l R H:=by
 constructor
 .intro h;exact⟨h.2 0 x v rfl rfl,by simpa using h.1,fun i y u h1 h2=>h.2 (i+1) y u (by simpa using h1) (by simpa using h2)⟩
 .rintro⟨h1,h2⟩;refine⟨by simp[h2.1],fun i y u e1 e2=>?_⟩
  match i,e1,e2 with
  | 0,e1,e2=>cases e1;cases e2;exact h1
  |i+1,e1,e2=>exact h2.2 i y u (by simpa using e1) (by simpa using e2)
def kE(e:Edge):List Key:=[Sum.inl e.c.1,Sum.inl e.c.2,Sum.inl (e.w:Int)]
theorem zkf{e f:Edge}:kE e=kE f ↔ e=f:=by
 constructor
 .intro h;refine zi3.mp ?_
  unfold kE at h;injection h with h1 h2;injection h2 with h2 h3;injection h3 with h3 _;unfold eI;rw[Sum.inl.inj h1,Sum.inl.inj h2,Sum.inl.inj h3]
 .rintro rfl;rfl
theorem _root_.RP.Closed.back{C:Cell->Bool}{b x:Edge}{es:List Edge}(h:Closed C b es)(hx:IsE C x)(hm:nxt C x∈es):x∈es:=by
 obtain⟨⟨h0,hs,hE,hnd⟩,l,hl,hb⟩:=h;obtain⟨i,hi,ei⟩:=List.getElem_of_mem hm;have hlm:l∈es:=List.mem_of_getElem? hl;rcases Nat.eq_zero_or_pos i with rfl |hp
 .rw[List.getElem?_eq_getElem hi,ei]at h0;have e:=Option.some.inj h0;rw[<- hb]at e;rw[zdN hx (hE l hlm) e];exact hlm
 .have hi':i-1<es.length:=by lia
  have e1:=hs (i-1) es[i-1] (nxt C x) (List.getElem?_eq_getElem hi') (by rw[show i-1+1=i by lia,List.getElem?_eq_getElem hi,ei]);rw[zdN hx (hE _ (List.getElem_mem hi')) e1];exact List.getElem_mem hi'
theorem _root_.RP.Closed.apart{C:Cell->Bool}{b:Edge}{es done:List Edge}(h:Closed C b es)(hd:∀x,IsE C x->nxt C x∈done->x∈done)(hb:b ∉ done):∀e∈es,e ∉ done:=by
 obtain⟨⟨h0,hs,hE,hnd⟩,_⟩:=h
 have key:∀(i:Nat) e,es[i]?=some e->e ∉ done:=by
  intro i
  induction i with
  |zero=>intro e he;rw[he]at h0;cases h0;exact hb
  |succ i ih =>
   intro e he hm;have hi:i+1<es.length:=(List.getElem?_eq_some_iff.mp he).1;have h1:es[i]?=some es[i]:=List.getElem?_eq_getElem (by lia)
   have hn:=hs i _ e h1 he;rw[hn]at hm;exact ih _ h1 (hd _ (hE _ (List.getElem_mem _)) hm)
 intro e he;obtain⟨i,hi,ei⟩:=List.getElem_of_mem he;exact key i e (by rw[List.getElem?_eq_getElem hi,ei])
structure Part (C:Cell->Bool) (ESS:List (List Edge)) (R:List Rnd):Prop where
 len:R.length=ESS.length
 each:∀(i:Nat) es r,ESS[i]?=some es->R[i]?=some r->(∃b,Closed C b es)/\IsRnd (wk C es) r
 nd:ESS.flatten.Nodup
theorem Part.closed{C:Cell->Bool}{ESS:List (List Edge)}{R:List Rnd}(h:Part C ESS R):∀es∈ESS,∃b,Closed C b es:=fun es he=>by
 obtain⟨i,hi,ei⟩:=List.getElem_of_mem he;have hr:i<R.length:=by rw[h.len];exact hi
 exact (h.each i es R[i] (by rw[List.getElem?_eq_getElem hi,ei]) (List.getElem?_eq_getElem hr)).1
theorem Part.isE{C:Cell->Bool}{ESS:List (List Edge)}{R:List Rnd}(h:Part C ESS R):∀e∈ESS.flatten,IsE C e:=fun e he=>by obtain⟨es,h1,h2⟩:=List.mem_flatten.mp he;obtain⟨b,hc⟩:=h.closed es h1;exact hc.1.2.2.1 e h2
theorem Part.back{C:Cell->Bool}{ESS:List (List Edge)}{R:List Rnd}(h:Part C ESS R):∀x,IsE C x->nxt C x∈ESS.flatten->x∈ESS.flatten:=fun x hx hm=>by obtain⟨es,h1,h2⟩:=List.mem_flatten.mp hm;obtain⟨b,hc⟩:=h.closed es h1;exact List.mem_flatten.mpr ⟨es,h1,hc.back hx h2⟩
theorem Part.nil{C:Cell->Bool}:Part C [] []:=⟨rfl,fun i es r h=>by simp at h,by simp⟩
theorem Part.snoc{C:Cell->Bool}{ESS:List (List Edge)}{R:List Rnd}{b:Edge}{es:List Edge}{r:Rnd}(h:Part C ESS R)(hc:Closed C b es)(hr:IsRnd (wk C es) r)(hb:b ∉ ESS.flatten):Part C (ESS++[es]) (R++[r]):=by
 refine⟨by simp[h.len],fun i fs q h1 h2=>?_,?_⟩
 .rcases Nat.lt_or_ge i ESS.length with hi |hi
  .rw[List.getElem?_append_left hi]at h1;rw[List.getElem?_append_left (by rw[h.len];exact hi)]at h2;exact h.each i fs q h1 h2
  .rw[List.getElem?_append_right hi]at h1;rw[List.getElem?_append_right (by rw[h.len];exact hi)]at h2
   have hz:i-ESS.length=0:=by have:=(List.getElem?_eq_some_iff.mp h1).1;simp at this;lia
   rw[hz]at h1;rw[h.len,hz]at h2
   cases h1;cases h2
   exact⟨⟨b,hc⟩,hr⟩
 .have ap:=hc.apart h.back hb;rw[List.flatten_append,List.nodup_append];refine⟨h.nd,by simpa using hc.1.2.2.2,fun x hx y hy e=>?_⟩;subst e;exact ap x (by simpa using hy) hx
theorem zha{p:Edge->Bool}:∀(ESS:List (List Edge)),(∀es∈ESS,∃e∈es,p e=true)->ESS.length<=(ESS.flatten.filter p).length
 |[],_=>Nat.zero_le _
 |es::r,h=>by
  have ih:=zha r fun es he=>h es (List.mem_cons_of_mem _ he)
  obtain⟨e,he,hp⟩:=h es List.mem_cons_self;rw[List.flatten_cons,List.filter_append,List.length_append,List.length_cons];have:0<(es.filter p).length:=List.length_pos_of_mem (List.mem_filter.mpr ⟨he,hp⟩);lia
theorem Part.few{cs:List Cell}{ESS:List (List Edge)}{R:List Rnd}(h:Part (isIn cs) ESS R):R.length<=cs.length:=by
 rw[h.len];refine Nat.le_trans (zha (p:=fun e=>e.w == 0) ESS fun es he=>?_) ?_
 .obtain⟨b,hc⟩:=h.closed es he;obtain⟨e,h1,h2⟩:=hc.has (k:=0) (.inl rfl);exact⟨e,h1,by simpa using h2⟩
 .rw[<- List.length_map (f:=fun c:Cell=>(⟨c,0⟩:Edge)) (as:=cs)];refine zap (List.Pairwise.filter _ h.nd) fun e he=>?_
  obtain⟨h1,h2⟩:=List.mem_filter.mp he;have hE:=h.isE e h1;refine List.mem_map.mpr ⟨e.c,of_decide_eq_true hE.2.1,?_⟩;obtain⟨c,w⟩:=e;simp only at h2 ⊢;have:w=0:=by simpa using h2
  rw[this]
theorem Part.small{cs:List Cell}{ESS:List (List Edge)}{R:List Rnd}(h:Part (isIn cs) ESS R):ESS.flatten.length<=4*cs.length:=by rw[<- zcr];exact zap h.nd fun e he=>zdP.mpr ⟨of_decide_eq_true (h.isE e he).2.1,(h.isE e he).1⟩
def keyI (r:Rnd):List Int:=[r.y,r.x,PyProof.Rows.b2i (decide (V.str r.so=V.str "hole"))]
def Whole(cs:List Cell)(R:List Rnd):Prop:=∃ESS,Part (isIn cs) ESS R/\∀e,e∈ESS.flatten ↔ IsE (isIn cs) e
section
variable {P:Program}{w:World}{K:W.Frag}{mg:Str->Option Value}{base:Heap}
end
open PySem L2 RP
theorem zju{α:Type}(l:List α)(j:Nat):(l.drop j++l.take j).Perm l:=by have:=List.perm_append_comm (l₁:=l.drop j) (l₂:=l.take j);rw[List.take_append_drop]at this;exact this
theorem zdj{C:Cell->Bool}(es:List Edge):(wk C es).map (·.1)=es:=by unfold wk;rw[List.map_map];exact List.map_id' _
theorem zhw{C:Cell->Bool}{es fs:List Edge}(p:es.Perm fs):sortS (wk C es)=sortS (wk C fs):=by have q:(wk C es).Perm (wk C fs):=p.map _;unfold sortS nL nS;have a:=(q.filter fun q=>q.2.isNone).length_eq;have b:=(q.filter fun q=>slant q.2).length_eq;rw[a,b]
theorem lex2{a b c d:Int}(h1:HT.lexLt [a,b] [c,d]=false)(h2:HT.lexLt [c,d] [a,b]=false):a=c/\b=d:=by have:=HT.lexLt_total h1 h2;simpa using this
theorem zcn.one{W W':Wk}{s:Str}{e f:Edge}(p:(W.map (·.1)).Perm (W'.map (·.1)))(h:zcn W s e)(k:zcn W' s f):e=f:=by obtain⟨h1,h2,h3⟩:=h;obtain⟨k1,k2,k3⟩:=k;have a:=h3 f (p.mem_iff.mpr k1) k2;have b:=k3 e (p.mem_iff.mp h1) h2;obtain⟨q1,q2⟩:=lex2 a b;obtain⟨⟨x,y⟩,w⟩:=e;obtain⟨⟨x',y'⟩,w'⟩:=f;simp only at q1 q2 h2 k2;rw[h2,k2,q1,q2]
def begE(r:Rnd):Edge:=⟨(r.x,r.y),kOf r.so⟩
open PySem L2 RP
theorem zhl(s:Nat):∀(l:List Nat) (w:Nat),dgo w (l++[s])=((dgo w l).1++(List.replicate ((zbB s+4-(dgo w l).2) % 4) none++[some s]),wayB s)
 |[],w=>by simp[dgo]
 |a::l,w=>by
  have ih:=zhl s l (wayB a);show (List.replicate ((zbB a+4-w) % 4) none++some a::(dgo (wayB a) (l++[s])).1,(dgo (wayB a) (l++[s])).2)=_;rw[ih];show _=((List.replicate ((zbB a+4-w) % 4) none++some a::(dgo (wayB a) l).1)++_,_);simp;rfl
theorem ze2:∀(l:List Nat) (w:Nat),(dgo w l).1.length<=4*l.length
 |[],w=>by simp[dgo]
 |a::l,w=>by
  have ih:=ze2 l (wayB a);show (List.replicate ((zbB a+4-w) % 4) none++some a::(dgo (wayB a) l).1).length<=_;have:(zbB a+4-w) % 4<4:=Nat.mod_lt _ (by decide);simp only[List.length_append,List.length_replicate,List.length_cons];lia
theorem zgv:∀(l:List Nat) (w:Nat),w<4->(dgo w l).2<4
 |[],w,h=>h
 |a::l,w,h=>zgv l (wayB a) (Nat.mod_lt _ (by decide))
theorem zhV(s:Nat):zbB s<4:=Nat.mod_lt _ (by decide)
theorem zhg(n:Nat):(List.replicate n [V.non]).flatten=(List.replicate n (none:Option Nat)).map sv:=by
 induction n with
 |zero=>rfl
 |succ n ih=>rw[List.replicate_succ,List.flatten_cons,ih];rfl
theorem zbC{n:Nat}(h:n<=5000):n<sizeLine:=Nat.lt_of_le_of_lt h (by decide)
theorem zke:1<=sizeLine:=by decide
section
variable {P:Program}{w:World}{K:W.Frag}{mg:Str->Option Value}{base:Heap}
def zfm:Sp:=fun vs H Q _=>∃(v:V) (r:Rnd),vs=[v]/\rR r v H/\(r.so = "rim" ∨ r.so = "hole")/\∀p H',H p=none->Same H H'->H' p=some (.tup (edgeT (begE r)))->Q (.ref p) H'
theorem zeU (T:Txt P w K mg) (d:Df K mg "begin_edge" zbm ["one"]):FnOk P w K mg base CX0 1 d.f d.fd ["one"] zfm:=by
 refine d.F.ok zbH (fun vs H Q E h=>?_) (fun cdv A outer s H vs Q E hr h=>?_)
 .obtain⟨v,r,rfl,_⟩:=h;rfl
 .obtain⟨v,r,rfl,⟨a,b,rfl,q1,q2⟩,hso,k⟩:=h
  refine⟨_,(zab (zbM (pv 0) (zbr (by rfl) (zaf (zae (i:=1) zbH.nd (by rfl) (Or.inl rfl)) (zaf (zae (i:=2) zbH.nd (by rfl) (Or.inl rfl)) (zaf (zae (i:=3) zbH.nd (by rfl) (Or.inl rfl)) (zaf (zae (i:=4) zbH.nd (by rfl) (Or.inl rfl)) zaA))))))
   (zah (zay (zax (pa_N (pv 2) (pa_N (pv 3) (zaj (ziv (by rfl) T.ways (pv 1)) zac))))))),?_⟩
  refine⟨_,rfl,a,_,rfl,SqT.of q1,rfl,_,_,rfl,_,_,rfl,_,_,rfl,_,_,rfl,rfl,?_⟩;refine⟨_,rfl,_,rfl,_,rfl,?_⟩;rcases hso with e |e
  .refine .inl ⟨by rw[e],three,fun p hp=>k p _ hp (Same.up hp) ?_⟩;rw[zaa];unfold begE edgeT kOf;simp only[e];rfl
  .refine .inr ⟨by rw[e],three,fun p hp=>k p _ hp (Same.up hp) ?_⟩;rw[zaa];unfold begE edgeT kOf;simp only[e];rfl
def zgH:Sp:=fun vs H Q _=>∃s:Nat,vs=[.int s]/\Q (.int (zbB s:Nat)) H
theorem zhA (d:Df K mg "way_for" zb3 ["step"]):FnOk P w K mg base CX0 1 d.f d.fd ["step"] zgH:=by
 refine d.F.ok zhy (fun vs H Q E h=>?_) (fun cdv A outer s H vs Q E hr h=>?_)
 .obtain⟨s,rfl,_⟩:=h;rfl
 .obtain⟨t,rfl,k⟩:=h;refine⟨_,(zah (zay (pe_op zbg (pe_op zgi (pe_op zaI (pv 0) zag) zag) zag))),?_⟩;refine⟨_,rfl,_,_,rfl,rfl,_,_,rfl,rfl,⟨by decide,by decide⟩,_,_,rfl,rfl,(by show (0:Int)<4;decide),?_⟩;have e:((t:Int)+1) / 2 % 4=(zbB t:Nat):=by unfold zbB;lia
  show Q (V.int (((t:Int)+1) / 2 % 4)) H;rw[e];exact k
def zic(K:W.Frag):Sp:=fun vs H Q _=>∃(wn:Nat) (b:Addr) (row:List Nat),vs=[.int (wn:Int),.ref b]/\wn<4/\SqT K H b (rowV row)/\row.length<=500 /\
 ∀p H',H p=none->Same H H'->H' p=some (.lst ((deeds wn row).map sv))->Q (.ref p) H'
theorem zd4 (g_way_for:Fn P w K mg base 1 "way_for" ["step"] zgH) (d:Df K mg "deeds_along" za4 ["begin_way","row"]):FnOk P w K mg base CX0 2 d.f d.fd ["begin_way","row"] (zic K):=by
 refine d.F.ok zbd (fun vs H Q E h=>?_) (fun cdv A outer s H vs Q E hr h=>?_)
 .obtain⟨wn,b,row,rfl,_⟩:=h;rfl
 .obtain⟨wn,b,row,rfl,hw,hq,hlen,k⟩:=h
  refine⟨_,(zab (zas (i:=2) zbd.nd (by rfl) (Or.inl rfl) (pv 0))
   (zab (zas (i:=3) zbd.nd (by rfl) (Or.inl rfl) (zbs zac))
   (zab (zbI PassesOwn.never rfl (zlu (pv 1)) (zae (i:=4) zbd.nd (by rfl) (Or.inl rfl))
   (zab (zbo (pe_bm PySem.F.plainAttrs_list PySem.F.slot_list_extend PySem.F.type_list_extend zc5 (pv 3) (pa_B (pe_op zkd (zbs (pa_C zcf zac)) (pe_op zbg (pe_op zcH (zan g_way_for.ok (hr.mono (by decide)) (by rfl) g_way_for.m g_way_for.kp g_way_for.b .nil pass0 (pa_N (pv 4) zac)) (pv 2)) zag)) zac)))
   (zab (zbo (pe_bm PySem.F.plainAttrs_list PySem.F.slot_list_append PySem.F.type_list_append zaZ (pv 3) (pa_N (pv 4) zac)))
   (zah (zas (i:=2) zbd.nd (by rfl) (Or.inl rfl) (pe_op zbg (pe_op zcH (zan g_way_for.ok (hr.mono (by decide)) (by rfl) g_way_for.m g_way_for.kp g_way_for.b .nil pass0 (pa_N (pv 4) zac)) (pe_op zbg (pv 4) zag)) zag))))))
   (zab (zas (i:=5) zbd.nd (by rfl) (Or.inl rfl) (zjz (zjx (pv 1) (fun _=>rfl)) (pe_op zbg (pe_op zcH (pv 0) (pv 2)) zag) zag))
   (zah (zay (pe_op zg1 (pv 3) (pe_op zkd (zbs (pa_C zcf zac)) (pv 5))))))))),?_⟩
  refine⟨_,rfl,(by show 0<=sizeLine;decide),fun p hp=>?_⟩;have s0:Same H (upd H p (.lst [])):=Same.up hp;have e0:upd H p (.lst []) p=some (.lst []):=zaa;generalize upd H p (.lst [])=H0 at s0 e0;refine⟨_,rfl,b,rfl,⟨_,s0.seqT hq⟩,?_⟩;have hrl:(rowV row).length=row.length:=by unfold rowV;exact List.length_map _
  refine zkW (K:=K) (a:=b) (xs:=rowV row) (fun i σ H1=>∃o4 o5,σ=[some (.int (wn:Int)),some (.ref b),some (.int ((dgo wn (row.take i)).2:Nat)),some (.ref p),o4,o5]/\Same H H1/\H1 p=some (.lst ((dgo wn (row.take i)).1.map sv)))
   ⟨_,_,rfl,s0,e0⟩ (fun i σ H1 _ ⟨_,_,_,s1,_⟩=>s1.seqT hq) ?_ ?_
  .rintro i v σ H1 hi ⟨o4,o5,rfl,s1,e1⟩;have hi':i<row.length:=by rw[<- hrl];exact (List.getElem?_eq_some_iff.mp hi).1
   unfold rowV at hi;rw[List.getElem?_map,List.getElem?_eq_getElem hi']at hi
   cases hi
   have hdl:=ze2 (row.take i) wn;rw[List.length_take]at hdl;have hdw:=zgv (row.take i) wn hw;have hwf:=zhV row[i];have hn:=zhl row[i] (row.take i) wn;rw[<- zbb (List.getElem?_eq_getElem hi')]at hn;refine⟨_,rfl,.inl ⟨rfl,_,SqL.of e1⟩,zke,fun l hl=>?_⟩;have s2:Same H1 (upd H1 l (.lst [.non])):=Same.up hl;have e2:upd H1 l (.lst [.non]) l=some (.lst [.non]):=zaa;generalize upd H1 l (.lst [.non])=H2 at s2 e2;refine⟨_,rfl,row[i],rfl,?_⟩;refine⟨_,rfl,_,_,rfl,rfl,_,_,rfl,rfl,(by show (0:Int)<4;decide),?_⟩;have ek:(((zbB row[i]:Nat):Int)-((dgo wn (row.take i)).2:Nat)) % 4=(((zbB row[i]+4-(dgo wn (row.take i)).2) % 4:Nat):Int):=by lia
   have k4:(zbB row[i]+4-(dgo wn (row.take i)).2) % 4<4:=Nat.mod_lt _ (by decide);generalize hk:(zbB row[i]+4-(dgo wn (row.take i)).2) % 4=kk at *;refine⟨l,(kk:Int),_,rfl,congrArg V.int ek,e2,by lia,by lia,(Nat.le_of_lt (zao (by simp;lia))),fun q hq'=>?_⟩;rw[Int.toNat_natCast,zhg];have s3:Same H2 (upd H2 q (.lst ((List.replicate kk (none:Option Nat)).map sv))):=Same.up hq';have e3:upd H2 q (.lst ((List.replicate kk (none:Option Nat)).map sv)) q=some (.lst ((List.replicate kk (none:Option Nat)).map sv)):=zaa;have hpq:p≠q:=fun z=>by subst z;rw[s2 _ _ e1]at hq';cases hq'
   generalize upd H2 q (.lst ((List.replicate kk (none:Option Nat)).map sv))=H3 at s3 e3;have e13:=s3 _ _ (s2 _ _ e1);refine⟨p,q,_,_,rfl,rfl,e13,e3,?_,?_⟩
   .simp only[List.length_map,List.length_replicate];exact Nat.le_of_lt (zbC (by lia))
   have hp2:H p=none:=hp;have s4:Same H (upd H3 p (.lst ((dgo wn (row.take i)).1.map sv++(List.replicate kk (none:Option Nat)).map sv))):=zau hp2 (s1.trans (s2.trans s3));have e4:upd H3 p (.lst ((dgo wn (row.take i)).1.map sv++(List.replicate kk (none:Option Nat)).map sv)) p=some (.lst ((dgo wn (row.take i)).1.map sv++(List.replicate kk (none:Option Nat)).map sv)):=zaa;generalize upd H3 p (.lst ((dgo wn (row.take i)).1.map sv++(List.replicate kk (none:Option Nat)).map sv))=H4 at s4 e4;refine⟨_,rfl,.inl ⟨rfl,_,SqL.of e4⟩,_,rfl,p,_,_,rfl,rfl,e4,?_,?_⟩
   .simp only[List.length_append,List.length_map,List.length_replicate];exact zbC (by lia)
   have s5:Same H (upd H4 p (.lst (((dgo wn (row.take i)).1.map sv++(List.replicate kk (none:Option Nat)).map sv)++[V.int (row[i]:Nat)]))):=zau hp2 s4
   have e5:upd H4 p (.lst (((dgo wn (row.take i)).1.map sv++(List.replicate kk (none:Option Nat)).map sv)++[V.int (row[i]:Nat)])) p=some (.lst ((dgo wn (row.take (i+1))).1.map sv)):=by rw[zaa,hn];simp[sv]
   generalize upd H4 p (.lst (((dgo wn (row.take i)).1.map sv++(List.replicate kk (none:Option Nat)).map sv)++[V.int (row[i]:Nat)]))=H5 at s5 e5;refine⟨_,rfl,row[i],rfl,?_⟩;refine⟨_,rfl,_,_,rfl,rfl,(by show (0:Int)<2;decide),_,_,rfl,rfl,_,_,rfl,rfl,(by show (0:Int)<4;decide),?_⟩
   have ew:(((zbB row[i]:Nat):Int)-(row[i]:Int) % 2) % 4=((dgo wn (row.take (i+1))).2:Nat):=by rw[hn];show _=((wayB row[i]:Nat):Int);unfold wayB;lia
   refine⟨some (V.int (row[i]:Nat)),o5,?_,s5,e5⟩;exact congrArg (fun z:Int=>[some (V.int (wn:Int)),some (V.ref b),some (V.int z),some (V.ref p),some (V.int (row[i]:Nat)),o5]) ew
  .rintro σ H1 ⟨o4,o5,rfl,s1,e1⟩;rw[hrl,List.take_length]at e1;rw[hrl,List.take_length];have hdl:=ze2 row wn;have hdw:=zgv row wn hw
   have fin:∀z:Int,z=(zaP wn row:Nat)->tRet (tOp rCat (tVar 3) (tOp rRep (tLst (tCons (tC .non) tNil)) (tVar 5))) { nx:=fun _ H'=>Q .non H',rt:=Q } [some (.int (wn:Int)),some (.ref b),some (.int ((dgo wn row).2:Nat)),some (.ref p),o4,some (.int z)] H1:=fun z hz=>by
    have hll:zaP wn row<=4:=by
     unfold zaP;split
     .decide
     .exact Nat.le_of_lt (Nat.mod_lt _ (by decide))
    refine⟨_,rfl,zke,fun l hl=>?_⟩;have s2:Same H1 (upd H1 l (.lst [.non])):=Same.up hl;have e2:upd H1 l (.lst [.non]) l=some (.lst [.non]):=zaa;generalize upd H1 l (.lst [.non])=H2 at s2 e2;subst hz;refine⟨_,rfl,l,_,_,rfl,rfl,e2,by lia,by lia,(Nat.le_of_lt (zao (by simp;lia))),fun q hq'=>?_⟩;rw[Int.toNat_natCast,zhg];have s3:Same H2 (upd H2 q (.lst ((List.replicate (zaP wn row) (none:Option Nat)).map sv))):=Same.up hq';have e3:upd H2 q (.lst ((List.replicate (zaP wn row) (none:Option Nat)).map sv)) q=some (.lst ((List.replicate (zaP wn row) (none:Option Nat)).map sv)):=zaa;generalize upd H2 q (.lst ((List.replicate (zaP wn row) (none:Option Nat)).map sv))=H3 at s3 e3;refine⟨p,q,_,_,rfl,rfl,s3 _ _ (s2 _ _ e1),e3,?_,fun x hx=>?_⟩
    .simp only[List.length_map,List.length_replicate];exact Nat.le_of_lt (zbC (by lia))
    .have s13:=s1.trans (s2.trans s3);refine k x _ (s13.free hx) (s13.trans (Same.up hx)) ?_
     rw[zaa];unfold deeds;rw[List.map_append]
   refine⟨_,rfl,_,.inr (.inl ⟨_,s1.seqT hq,rfl⟩),?_⟩
   by_cases he:row=[]
   .exact iteN (by rw[he];rfl) (fin 4 (by rw[he];rfl))
   .refine iteY (by cases row with |nil=>exact absurd rfl he |cons x r=>rfl) ⟨_,rfl,_,rfl,_,_,rfl,rfl,_,_,rfl,rfl,(by show (0:Int)<4;decide),fin _ ?_⟩
    have hl:zaP wn row=(wn+4-(dgo wn row).2) % 4:=by unfold zaP;rw[if_neg (by simpa using he)]
    rw[hl];lia
def wby:Edge->List (Option Nat)->List (Edge×Option Nat)
 |_,[]=>[]
 |e,d::r=>(e,d)::wby (edgeB e d) r
def eAt:Edge->List (Option Nat)->Edge
 |e,[]=>e
 |e,d::r=>eAt (edgeB e d) r
theorem zhj(d:Option Nat):∀(l:List (Option Nat)) (e:Edge),eAt e (l++[d])=edgeB (eAt e l) d
 |[],_=>rfl
 |_::l,e=>zhj d l _
theorem zgz(d:Option Nat):∀(l:List (Option Nat)) (e:Edge),wby e (l++[d])=wby e l++[(eAt e l,d)]
 |[],_=>rfl
 |a::l,e=>by
  show (e,a)::wby (edgeB e a) (l++[d])=_;rw[zgz d l];rfl
theorem zeb:∀(l:List (Option Nat)) (e:Edge),(wby e l).length=l.length
 |[],_=>rfl
 |a::l,e=>by show (wby (edgeB e a) l).length+1=_;rw[zeb l];rfl
theorem zjO{e:Edge}{o:Option Nat}(h:e.w<4):(edgeB e o).w<4:=by
 unfold edgeB
 cases o with
 |none=>exact Nat.mod_lt _ (by decide)
 |some s=>simp only;split <;> simp only <;> lia
theorem zkj:∀(l:List (Option Nat)){e:Edge},e.w<4->(eAt e l).w<4
 |[],_,h=>h
 |_::l,_,h=>zkj l (zjO h)
theorem zfd{C:Cell->Bool}:∀(es:List Edge){b:Edge},es[0]?=some b∨es=[]->(∀i e f,es[i]?=some e->es[i+1]?=some f->f=nxt C e)->wby b (es.map (stepB C))=wk C es
 |[],_,_,_=>rfl
 |e::r,b,h0,hs=>by
  have hb:e=b:=by rcases h0 with h |h;simpa using h;cases h
  subst hb;show (e,stepB C e)::wby (nxt C e) (r.map (stepB C))=(e,stepB C e)::wk C r;rw[zfd r (b:=nxt C e) ?_ fun i x y h1 h2=>hs (i+1) x y (by simpa using h1) (by simpa using h2)]
  cases r with
  |nil=>exact .inr rfl
  |cons f r=>exact .inl (by have:=hs 0 e f rfl rfl;rw[<- this];rfl)
def zgK(K:W.Frag):Sp:=fun vs H Q _=>∃(a l:Addr) (b:Edge) (ds:List (Option Nat)),vs=[.ref a,.ref l]/\H a=some (.tup (edgeT b))/\b.w<4/\H l=some (.lst (ds.map sv))/\(∀s,some s∈ds->s<8)/\ds.length<=3000 /\
 ∀p H' ws,H p=none->Same H H'->H' p=some (.lst ws)->VR ws (wby b ds) wR H'->Q (.ref p) H'
theorem zhC (g_edge_behind:Fn P w K mg base 2 "edge_behind" ["edge","step"] (zeB K)) (d:Df K mg "walk_by" zb5 ["begin","deeds"]):FnOk P w K mg base CX0 3 d.f d.fd ["begin","deeds"] (zgK K):=by
 refine d.F.ok zce (fun vs H Q E h=>?_) (fun cdv A outer s H vs Q E hr h=>?_)
 .obtain⟨a,l,b,ds,rfl,_⟩:=h;rfl
 .obtain⟨a,l,b,ds,rfl,ha,hb,hl,h8,hlen,k⟩:=h
  refine⟨_,(zab (zas (i:=2) zce.nd (by rfl) (Or.inl rfl) (zbs zac))
   (zab (zas (i:=3) zce.nd (by rfl) (Or.inl rfl) (pv 0))
   (zab (zbI PassesOwn.never rfl (za9 (pv 1)) (zae (i:=4) zce.nd (by rfl) (Or.inl rfl))
   (zab (zbo (pe_bm PySem.F.plainAttrs_list PySem.F.slot_list_append PySem.F.type_list_append zaZ (pv 2) (pa_T (zax (pa_N (pv 3) (pa_N (pv 4) zac))) zac)))
   (zah (zas (i:=3) zce.nd (by rfl) (Or.inl rfl) (zan g_edge_behind.ok (hr.mono (by decide)) (by rfl) g_edge_behind.m g_edge_behind.kp g_edge_behind.b .nil pass0 (pa_N (pv 3) (pa_N (pv 4) zac)))))))
   (zah (zay (pv 2)))))),?_⟩
  refine⟨(by show 0<=sizeLine;decide),fun p hp=>?_⟩;have s0:Same H (upd H p (.lst [])):=Same.up hp;have e0:upd H p (.lst []) p=some (.lst []):=zaa;generalize upd H p (.lst [])=H0 at s0 e0;refine⟨_,rfl,_,rfl,l,rfl,⟨_,SqL.of (s0 _ _ hl)⟩,?_⟩
  refine zaD (K:=K) (a:=l) (xs:=ds.map sv) (fun i σ H1=>∃(c:Addr) (o4:Option V) (ws:List V),σ=[some (.ref a),some (.ref l),some (.ref p),some (.ref c),o4]/\Same H H1/\H1 c=some (.tup (edgeT (eAt b (ds.take i))))/\H1 p=some (.lst ws)/\VR ws (wby b (ds.take i)) wR H1)
   ⟨a,_,[],rfl,s0,s0 _ _ ha,e0,VR.nil⟩ (fun i σ H1 _ ⟨_,_,_,_,s1,_⟩=>SqL.of (s1 _ _ hl)) ?_ ?_
  .rintro i v σ H1 hi ⟨c,o4,ws,rfl,s1,hc,e1,hv⟩;have hi':i<ds.length:=by have:=(List.getElem?_eq_some_iff.mp hi).1;rwa [List.length_map]at this
   rw[List.getElem?_map,List.getElem?_eq_getElem hi']at hi
   cases hi
   have tk:=zbb (List.getElem?_eq_getElem hi');have wl:ws.length<=3000:=by rw[hv.1,zeb,List.length_take];lia
   refine⟨_,rfl,.inl ⟨rfl,_,SqL.of e1⟩,_,rfl,_,rfl,two,fun t ht=>?_⟩;have s2:Same H1 (upd H1 t (.tup [.ref c,sv ds[i]])):=Same.up ht;have e2:upd H1 t (.tup [.ref c,sv ds[i]]) t=some (.tup [.ref c,sv ds[i]]):=zaa;generalize upd H1 t (.tup [.ref c,sv ds[i]])=H2 at s2 e2;have e12:=s2 _ _ e1;refine⟨p,ws,_,rfl,rfl,e12,zbC (by lia),?_⟩;have kt3:KT H2 (upd H2 p (.lst (ws++[.ref t]))):=KT.lst e12;have s3:Same H (upd H2 p (.lst (ws++[.ref t]))):=zau hp (s1.trans s2);have e3:upd H2 p (.lst (ws++[.ref t])) p=some (.lst (ws++[.ref t])):=zaa;generalize upd H2 p (.lst (ws++[.ref t]))=H3 at kt3 s3 e3;have hc3:=kt3 _ _ (s2 _ _ hc);refine⟨_,rfl,_,rfl,c,eAt b (ds.take i),ds[i],rfl,SqT.of hc3,zkj _ hb,fun z hz=>h8 z (hz ▸ List.getElem_mem _),fun q H4 hq s4 e4=>?_⟩;refine⟨q,_,ws++[.ref t],rfl,s3.trans s4,?_,s4 _ _ e3,?_⟩
   .rw[tk,zhj];exact e4
   .rw[tk,zgz];exact hv.snoc (fun x v h=>((h.kt (KT.of s2)).kt kt3).kt (KT.of s4)) ⟨t,c,rfl,s4 _ _ (kt3 _ _ e2),s4 _ _ hc3⟩
  .rintro σ H1 ⟨c,o4,ws,rfl,s1,hc,e1,hv⟩;rw[List.length_map,List.take_length]at hv;exact⟨_,rfl,k p H1 ws hp s1 e1 hv⟩
def zdD(K:W.Frag):Sp:=fun vs H Q _=>∃(a b:Addr) (e:Edge) (row:List Nat),vs=[.ref a,.ref b]/\H a=some (.tup (edgeT e))/\e.w<4/\SqT K H b (rowV row)/\row.length<=500/\(∀s,some s∈deeds e.w row->s<8) /\
 ∀p H' ws,H p=none->Same H H'->H' p=some (.lst ws)->VR ws (wby e (deeds e.w row)) wR H'->Q (.ref p) H'
theorem zeL (g_walk_by:Fn P w K mg base 3 "walk_by" ["begin","deeds"] (zgK K)) (g_deeds_along:Fn P w K mg base 2 "deeds_along" ["begin_way","row"] (zic K)) (d:Df K mg "walk_along" zbh ["begin","row"]):FnOk P w K mg base CX0 4 d.f d.fd ["begin","row"] (zdD K):=by
 refine d.F.ok zeD (fun vs H Q E h=>?_) (fun cdv A outer s H vs Q E hr h=>?_)
 .obtain⟨a,b,e,row,rfl,_⟩:=h;rfl
 .obtain⟨a,b,e,row,rfl,ha,hw,hq,hlen,h8,k⟩:=h;refine⟨_,(zah (zay (zan g_walk_by.ok (hr.mono (by decide)) (by rfl) g_walk_by.m g_walk_by.kp g_walk_by.b .nil pass0 (pa_N (pv 0) (zaj (zan g_deeds_along.ok (hr.mono (by decide)) (by rfl) g_deeds_along.m g_deeds_along.kp g_deeds_along.b .nil pass0 (zaj (pe_ix zc7 (pv 0) zag (fun _ _=>rfl)) (pa_N (pv 1) zac))) zac))))),?_⟩;refine⟨_,rfl,_,rfl,a,_,_,_,rfl,rfl,SqT.of ha,zaM (j:=2) rfl,_,rfl,e.w,b,row,rfl,hw,hq,hlen,fun p H1 hp s1 e1=>?_⟩
  have hd:(deeds e.w row).length<=3000:=by
   unfold deeds;have:=ze2 row e.w
   have:zaP e.w row<=4:=by
    unfold zaP;split
    .decide
    .exact Nat.le_of_lt (Nat.mod_lt _ (by decide))
   simp only[List.length_append,List.length_replicate];lia
  exact⟨a,p,e,_,rfl,s1 _ _ ha,hw,e1,h8,hd,fun q H2 ws hq2 s2 e2 hv=>k q H2 ws (s1.free hq2) (s1.trans s2) e2 hv⟩
end
open PySem L2 RP
def sR(q:Cell×Bool)(v:V)(H:Hp):Prop:=∃A b,v=.ref A/\H A=some (.tup [.ref b,.bl q.2])/\H b=some (.tup (cellT q.1))
theorem sR.kt{q:Cell×Bool}{v:V}{H H':Hp}(h:sR q v H)(s:KT H H'):sR q v H':=let ⟨A,b,e,q1,q2⟩:=h;⟨A,b,e,s _ _ q1,s _ _ q2⟩
section
variable {P:Program}{w:World}{K:W.Frag}{mg:Str->Option Value}{base:Heap}
def zj0(K:W.Frag):Sp:=fun vs H Q _=>∃(a:Addr) (C:Cell->Bool) (e:Edge),vs=[.ref a,sv (stepB C e)]/\H a=some (.tup (edgeT e))/\IsE C e /\
 ∀p H' ss L,H p=none->Same H H'->H' p=some (.lst ss)->VR ss L sR H'->(∀q∈L,C q.1=q.2)->L.length<=6->Q (.ref p) H'
theorem zdL (g_edge_behind:Fn P w K mg base 2 "edge_behind" ["edge", "step"] (zeB K)) (g_gap_beside:Fn P w K mg base 2 "gap_beside" ["edge"] (spGap K)) (g_is_slant:Fn P w K mg base 1 "is_slant" ["step"] zcZ)
  (g_gone:Fn P w K mg base 1 "gone" ["x","y","step"] zdk) (g_slant_step:Fn P w K mg base 1 "slant_step" ["way"] zh7) (g_straight_step:Fn P w K mg base 1 "straight_step" ["way"] zeg)
  (d:Df K mg "seen_between" zaR ["edge","step"]):FnOk P w K mg base CX0 3 d.f d.fd ["edge","step"] (zj0 K):=by
 refine d.F.ok zaW (fun vs H Q E h=>?_) (fun cdv A outer s H vs Q E hr h=>?_)
 .obtain⟨a,C,e,rfl,_⟩:=h;rfl
 .obtain⟨a,C,e,rfl,ha,hE,k⟩:=h
  refine⟨_,(zab (zbM (pv 0) (zbr (by rfl) (zaf (zae (i:=2) zaW.nd (by rfl) (Or.inl rfl)) (zaf (zae (i:=3) zaW.nd (by rfl) (Or.inl rfl)) (zaf (zae (i:=4) zaW.nd (by rfl) (Or.inl rfl)) zaA)))))
   (zab (zas (i:=5) zaW.nd (by rfl) (Or.inl rfl) (zan g_edge_behind.ok (hr.mono (by decide)) (by rfl) g_edge_behind.m g_edge_behind.kp g_edge_behind.b .nil pass0 (pa_N (pv 0) (pa_N (pv 1) zac))))
   (zab (zas (i:=6) zaW.nd (by rfl) (Or.inl rfl) (zbs (pa_T (zax (pa_T (zax (pa_N (pv 2) (pa_N (pv 3) zac))) (pa_C pe_bl zac))) (pa_T (zax (zaj (zan g_gap_beside.ok (hr.mono (by decide)) (by rfl) g_gap_beside.m g_gap_beside.kp g_gap_beside.b .nil pass0 (pa_N (pv 0) zac)) (pa_C pe_bl zac))) (pa_T (zax (zaj (zdv zkx (pv 5) zeJ (zeI zag)) (pa_C pe_bl zac))) (pa_T (zax (zaj (zan g_gap_beside.ok (hr.mono (by decide)) (by rfl) g_gap_beside.m g_gap_beside.kp g_gap_beside.b .nil pass0 (pa_N (pv 5) zac)) (pa_C pe_bl zac))) zac))))))
   (zab (ps_if (zgT (zek (zan g_is_slant.ok (hr.mono (by decide)) (by rfl) g_is_slant.m g_is_slant.kp g_is_slant.b .nil pass0 (pa_N (pv 1) zac))))
   (zah (zbo (pe_bm PySem.F.plainAttrs_list PySem.F.slot_list_append PySem.F.type_list_append zaZ (pv 6) (pa_T (zax (zaj (zan g_gone.ok (hr.mono (by decide)) (by rfl) g_gone.m g_gone.kp g_gone.b .nil pass0 (pa_N (pv 2) (pa_N (pv 3) (zaj (zan g_slant_step.ok (hr.mono (by decide)) (by rfl) g_slant_step.m g_slant_step.kp g_slant_step.b .nil pass0 (pa_N (pv 4) zac)) zac)))) (pa_C pe_bl zac))) zac))))
   za8)
   (zab (ps_if (zaL ziz (pv 1) zcf (zaO _))
   (zah (zbo (pe_bm PySem.F.plainAttrs_list PySem.F.slot_list_append PySem.F.type_list_append zaZ (pv 6) (pa_T (zax (zaj (zan g_gone.ok (hr.mono (by decide)) (by rfl) g_gone.m g_gone.kp g_gone.b .nil pass0 (pa_N (pv 2) (pa_N (pv 3) (zaj (zan g_straight_step.ok (hr.mono (by decide)) (by rfl) g_straight_step.m g_straight_step.kp g_straight_step.b .nil pass0 (pa_N (pv 4) zac)) zac)))) (pa_C pe_bl zac))) zac))))
   za8)
   (zah (zay (pv 6)))))))),?_⟩
  have hw:=hE.1;have hN:=zdm hE;refine⟨_,rfl,a,_,rfl,SqT.of ha,rfl,_,_,rfl,_,_,rfl,_,_,rfl,rfl,?_⟩;refine⟨_,rfl,_,rfl,a,e,stepB C e,rfl,SqT.of ha,hw,zeA hw,fun p1 H1 hp1 s1 e1=>?_⟩;change H1 p1=some (.tup (edgeT (nxt C e))) at e1;refine⟨_,rfl,_,rfl,two,fun t1 ht1=>⟨two,fun t2 ht2=>?_⟩⟩;have s2:Same H1 (upd (upd H1 t1 (.tup [.int e.c.1,.int e.c.2])) t2 (.tup [.ref t1,.bl true])):=(Same.up ht1).trans (Same.up ht2);have r1:sR (e.c,true) (.ref t2) (upd (upd H1 t1 (.tup [.int e.c.1,.int e.c.2])) t2 (.tup [.ref t1,.bl true])):=⟨t2,t1,rfl,zaa,by rw[zai (fun z=>by subst z;rw[zaa]at ht2;cases ht2),zaa];rfl⟩;generalize upd (upd H1 t1 (.tup [.int e.c.1,.int e.c.2])) t2 (.tup [.ref t1,.bl true])=H2 at s2 r1;refine⟨_,rfl,a,e,rfl,SqT.of ((s1.trans s2) _ _ ha),hw,fun p3 H3 hp3 s3 e3=>⟨two,fun t3 ht3=>?_⟩⟩;have s4:Same H3 (upd H3 t3 (.tup [.ref p3,.bl false])):=Same.up ht3;have r2:sR (gap e,false) (.ref t3) (upd H3 t3 (.tup [.ref p3,.bl false])):=⟨t3,p3,rfl,zaa,s4 _ _ e3⟩;generalize upd H3 t3 (.tup [.ref p3,.bl false])=H4 at s4 r2;have s14:=s2.trans (s3.trans s4);have e14:=s14 _ _ e1;have hs1:HT.sIx 3 3 (some 2)=2:=by decide
  refine⟨_,rfl,_,rfl,p1,_,rfl,SqT.of e14,fun hx=>absurd (show (3:Nat)=2 from hx.2.symm.trans hs1) (by decide),fun _ t5 ht5=>⟨two,fun t6 ht6=>?_⟩⟩;have ec:cutV (edgeT (nxt C e)) none (some 2)=cellT (nxt C e).c:=rfl;have s6:Same H4 (upd (upd H4 t5 (.tup (cutV (edgeT (nxt C e)) none (some 2)))) t6 (.tup [.ref t5,.bl true])):=(Same.up ht5).trans (Same.up ht6);have r3:sR ((nxt C e).c,true) (.ref t6) (upd (upd H4 t5 (.tup (cutV (edgeT (nxt C e)) none (some 2)))) t6 (.tup [.ref t5,.bl true])):=⟨t6,t5,rfl,zaa,by rw[zai (fun z=>by subst z;rw[zaa]at ht6;cases ht6),zaa,ec]⟩;generalize upd (upd H4 t5 (.tup (cutV (edgeT (nxt C e)) none (some 2)))) t6 (.tup [.ref t5,.bl true])=H6 at s6 r3;refine⟨_,rfl,p1,nxt C e,rfl,SqT.of (s6 _ _ e14),hN.1,fun p7 H7 hp7 s7 e7=>⟨two,fun t7 ht7=>?_⟩⟩;have s8:Same H7 (upd H7 t7 (.tup [.ref p7,.bl false])):=Same.up ht7;have r4:sR (gap (nxt C e),false) (.ref t7) (upd H7 t7 (.tup [.ref p7,.bl false])):=⟨t7,p7,rfl,zaa,s8 _ _ e7⟩;generalize upd H7 t7 (.tup [.ref p7,.bl false])=H8 at s8 r4;refine⟨(by show 4<=sizeLine;decide),fun l hl=>?_⟩;have s48:=s6.trans (s7.trans s8);have s28:=s3.trans (s4.trans s48);have s08:=s1.trans (s2.trans s28);have kl:KT H8 (upd H8 l (.lst [.ref t2,.ref t3,.ref t6,.ref t7])):=KT.up hl;have sl:Same H (upd H8 l (.lst [.ref t2,.ref t3,.ref t6,.ref t7])):=s08.trans (Same.up hl);have el:upd H8 l (.lst [.ref t2,.ref t3,.ref t6,.ref t7]) l=some (.lst [.ref t2,.ref t3,.ref t6,.ref t7]):=zaa;have hl0:H l=none:=s08.free hl
  have hv:VR [.ref t2,.ref t3,.ref t6,.ref t7] [(e.c,true),(gap e,false),((nxt C e).c,true),(gap (nxt C e),false)] sR (upd H8 l (.lst [.ref t2,.ref t3,.ref t6,.ref t7])) :=
   VR.cons.mpr ⟨(r1.kt (KT.of s28)).kt kl,VR.cons.mpr ⟨(r2.kt (KT.of s48)).kt kl,VR.cons.mpr ⟨(r3.kt (KT.of (s7.trans s8))).kt kl,VR.cons.mpr ⟨r4.kt kl,VR.nil⟩⟩⟩⟩
  generalize upd H8 l (.lst [.ref t2,.ref t3,.ref t6,.ref t7])=H9 at kl sl el hv
  have hL:∀q∈[(e.c,true),(gap e,false),((nxt C e).c,true),(gap (nxt C e),false)],C q.1=q.2:=by
   intro q hq;simp only[List.mem_cons,List.not_mem_nil,or_false]at hq;rcases hq with rfl |rfl |rfl |rfl
   .exact hE.2.1
   .exact hE.2.2
   .exact hN.2.1
   .exact hN.2.2
  rcases zaY hE with⟨c1,hs,_⟩ |⟨c1,c2,hs,_⟩ |⟨c1,c2,hs,_⟩ <;> rw[hs]
  .refine⟨_,rfl,some ((2*e.w+7) % 8),rfl,_,rfl,?_⟩;have:slant (some ((2*e.w+7) % 8))=true:=by show ((2*e.w+7) % 8 % 2 == 1)=true;rw[odd7];rfl
   rw[this];refine iteF ?_
   refine⟨_,rfl,rfl,_,rfl,iteF ?_⟩;exact⟨_,rfl,k l H9 _ _ hl0 sl el hv hL (by show 4<=6;decide)⟩
  .refine⟨_,rfl,some (2*e.w),rfl,_,rfl,?_⟩;have:slant (some (2*e.w))=false:=by show ((2*e.w) % 2 == 1)=false;rw[show 2*e.w % 2=0 by lia];rfl
   rw[this];refine iteT ?_
   refine⟨_,rfl,.inl ⟨rfl,_,SqL.of el⟩,_,rfl,_,rfl,_,rfl,e.w,rfl,hw,e.c,(2*e.w+7) % 8,rfl,Nat.mod_lt _ (by decide),fun p10 H10 hp10 s10 e10=>⟨two,fun t11 ht11=>?_⟩⟩;have s11:Same H10 (upd H10 t11 (.tup [.ref p10,.bl false])):=Same.up ht11;have r5:sR (go e.c ((2*e.w+7) % 8),false) (.ref t11) (upd H10 t11 (.tup [.ref p10,.bl false])):=⟨t11,p10,rfl,zaa,s11 _ _ e10⟩;generalize upd H10 t11 (.tup [.ref p10,.bl false])=H11 at s11 r5;have el11:=(s10.trans s11) _ _ el;refine⟨l,_,_,rfl,rfl,el11,zbC (by show 4<=5000;decide),?_⟩;have kt12:KT H11 (upd H11 l (.lst ([.ref t2,.ref t3,.ref t6,.ref t7]++[.ref t11]))):=KT.lst el11;have s12:Same H (upd H11 l (.lst ([.ref t2,.ref t3,.ref t6,.ref t7]++[.ref t11]))):=zau hl0 (sl.trans (s10.trans s11));have e12:upd H11 l (.lst ([.ref t2,.ref t3,.ref t6,.ref t7]++[.ref t11])) l=some (.lst ([.ref t2,.ref t3,.ref t6,.ref t7]++[.ref t11])):=zaa;have hv12:=hv.snoc (fun x v h=>(h.kt (KT.of (s10.trans s11))).kt kt12) (r5.kt kt12);generalize upd H11 l (.lst ([.ref t2,.ref t3,.ref t6,.ref t7]++[.ref t11]))=H12 at kt12 s12 e12 hv12;refine⟨_,rfl,rfl,_,rfl,iteF ?_⟩;refine⟨_,rfl,k l H12 _ _ hl0 s12 e12 hv12 (fun q hq=>?_) (by show 5<=6;decide)⟩;rcases List.mem_append.mp hq with m |m
   .exact hL q m
   .rw[List.mem_singleton.mp m];exact c1
  .refine⟨_,rfl,none,rfl,_,rfl,iteT ?_⟩;refine⟨_,rfl,.inl ⟨rfl,_,SqL.of el⟩,_,rfl,_,rfl,_,rfl,e.w,rfl,hw,e.c,(2*e.w+7) % 8,rfl,Nat.mod_lt _ (by decide),fun p10 H10 hp10 s10 e10=>⟨two,fun t11 ht11=>?_⟩⟩;have s11:Same H10 (upd H10 t11 (.tup [.ref p10,.bl false])):=Same.up ht11;have r5:sR (go e.c ((2*e.w+7) % 8),false) (.ref t11) (upd H10 t11 (.tup [.ref p10,.bl false])):=⟨t11,p10,rfl,zaa,s11 _ _ e10⟩;generalize upd H10 t11 (.tup [.ref p10,.bl false])=H11 at s11 r5;have el11:=(s10.trans s11) _ _ el;refine⟨l,_,_,rfl,rfl,el11,zbC (by show 4<=5000;decide),?_⟩;have kt12:KT H11 (upd H11 l (.lst ([.ref t2,.ref t3,.ref t6,.ref t7]++[.ref t11]))):=KT.lst el11;have s12:Same H (upd H11 l (.lst ([.ref t2,.ref t3,.ref t6,.ref t7]++[.ref t11]))):=zau hl0 (sl.trans (s10.trans s11));have e12:upd H11 l (.lst ([.ref t2,.ref t3,.ref t6,.ref t7]++[.ref t11])) l=some (.lst ([.ref t2,.ref t3,.ref t6,.ref t7]++[.ref t11])):=zaa;have hv12:=hv.snoc (fun x v h=>(h.kt (KT.of (s10.trans s11))).kt kt12) (r5.kt kt12);generalize upd H11 l (.lst ([.ref t2,.ref t3,.ref t6,.ref t7]++[.ref t11]))=H12 at kt12 s12 e12 hv12;refine⟨_,rfl,rfl,_,rfl,iteT ?_⟩;refine⟨_,rfl,.inl ⟨rfl,_,SqL.of e12⟩,_,rfl,_,rfl,_,rfl,e.w,rfl,hw,e.c,2*e.w,rfl,by lia,fun p13 H13 hp13 s13 e13=>⟨two,fun t14 ht14=>?_⟩⟩;have s14':Same H13 (upd H13 t14 (.tup [.ref p13,.bl false])):=Same.up ht14;have r6:sR (go e.c (2*e.w),false) (.ref t14) (upd H13 t14 (.tup [.ref p13,.bl false])):=⟨t14,p13,rfl,zaa,s14' _ _ e13⟩;generalize upd H13 t14 (.tup [.ref p13,.bl false])=H14 at s14' r6;have e14':=(s13.trans s14') _ _ e12;refine⟨l,_,_,rfl,rfl,e14',zbC (by show 5<=5000;decide),?_⟩;have kt15:KT H14 (upd H14 l (.lst (([.ref t2,.ref t3,.ref t6,.ref t7]++[.ref t11])++[.ref t14]))):=KT.lst e14';have s15:Same H (upd H14 l (.lst (([.ref t2,.ref t3,.ref t6,.ref t7]++[.ref t11])++[.ref t14]))):=zau hl0 (s12.trans (s13.trans s14'));have e15:upd H14 l (.lst (([.ref t2,.ref t3,.ref t6,.ref t7]++[.ref t11])++[.ref t14])) l=some (.lst (([.ref t2,.ref t3,.ref t6,.ref t7]++[.ref t11])++[.ref t14])):=zaa;have hv15:=hv12.snoc (fun x v h=>(h.kt (KT.of (s13.trans s14'))).kt kt15) (r6.kt kt15);refine⟨_,rfl,k l _ _ _ hl0 s15 e15 hv15 (fun q hq=>?_) (by show 6<=6;decide)⟩;rcases List.mem_append.mp hq with m |m
   .rcases List.mem_append.mp m with m |m
    .exact hL q m
    .rw[List.mem_singleton.mp m];exact c1
   .rw[List.mem_singleton.mp m];exact c2
end
open PySem L2 RP
def Known(C:Cell->Bool)(kvs:List (List Key×V)):Prop:=∀c v,valV kvs (kC c)=some v->v=.bl (C c)
section
variable {P:Program}{w:World}{K:W.Frag}{mg:Str->Option Value}{base:Heap}
def zei(K:W.Frag):Sp:=fun vs H Q _=>∃(a:Addr) (C:Cell->Bool) (es:List Edge),vs=[.ref a]/\LR K H a (wk C es) wR/\(∀e∈es,IsE C e)/\es.length<=500/\∀H',Same H H'->Q .non H'
theorem zd2 (g_seen_between:Fn P w K mg base 3 "seen_between" ["edge","step"] (zj0 K)) (d:Df K mg "gainsaid_at" za2 ["walk"]):FnOk P w K mg base CX0 4 d.f d.fd ["walk"] (zei K):=by
 refine d.F.ok zaE (fun vs H Q E h=>?_) (fun cdv A outer s H vs Q E hr h=>?_)
 .obtain⟨a,C,es,rfl,_⟩:=h;rfl
 .obtain⟨a,C,es,rfl,hLR,hE,hlen,k⟩:=h;have hu1:=hu_of hr
  refine⟨_,(zab (zas (i:=1) zaE.nd (by rfl) (Or.inl rfl) zc3)
   (zab (zas (i:=2) zaE.nd (by rfl) (Or.inl rfl) zag)
   (zab (zbI PassesOwn.never rfl (za9 (pv 0)) (zbr (by rfl) (zaf (zae (i:=3) zaE.nd (by rfl) (Or.inl rfl)) (zaf (zae (i:=4) zaE.nd (by rfl) (Or.inl rfl)) zaA)))
   (zab (zbI PassesOwn.never rfl (za9 (zan g_seen_between.ok (hr.mono (by decide)) (by rfl) g_seen_between.m g_seen_between.kp g_seen_between.b .nil pass0 (pa_N (pv 3) (pa_N (pv 4) zac)))) (zbr (by rfl) (zaf (zae (i:=5) zaE.nd (by rfl) (Or.inl rfl)) (zaf (zae (i:=6) zaE.nd (by rfl) (Or.inl rfl)) zaA)))
   (zah (ps_if (zaL op_ne (zjA hu1 (pv 1) (pv 5) (pv 6) ⟨rfl,rfl,rfl,rfl⟩) (pv 6) (zaO _))
   (zah (zay (pv 2)))
   za8)))
   (zah (ps_if (zaL zdK (pv 4) zcf (zaO _))
   (zah (zlt (i:=2) zaE.nd (by rfl) (Or.inl rfl) zag zlO))
   za8))))
   (zah (zay zcf))))),?_⟩
  obtain⟨ws,hq,hv⟩:=hLR.vr;have hwl:ws.length=es.length:=by rw[hv.1,zcq]
  refine fun dd hdd=>?_
  have s0:Same H (upd H dd (.dT [])):=Same.up hdd;have d0:upd H dd (.dT []) dd=some (.dT []):=zaa;generalize upd H dd (.dT [])=H0 at s0 d0;refine⟨_,rfl,a,rfl,⟨_,s0.seq hq⟩,?_⟩
  refine zaD (K:=K) (a:=a) (xs:=ws) (fun i σ H1=>∃(n:Int) (o3 o4 o5 o6:Option V) (kvs:List (List Key×V)),σ=[some (.ref a),some (.ref dd),some (.int n),o3,o4,o5,o6]/\Same H H1/\H1 dd=some (.dT kvs)/\Known C kvs/\kvs.length<=6*i)
   ⟨_,_,_,_,_,[],rfl,s0,d0,(fun c v h=>by cases h),Nat.zero_le _⟩ (fun i σ H1 _ ⟨_,_,_,_,_,_,_,s1,_⟩=>s1.seq hq) ?_ ?_
  .rintro i v σ H1 hi ⟨n,o3,o4,o5,o6,kvs,rfl,s1,d1,hk,hkl⟩;obtain⟨⟨e,st⟩,he,B,b,rfl,q1,q2⟩:=hv.at hi;have hi':i<es.length:=by rw[<- hwl];exact (List.getElem?_eq_some_iff.mp hi).1
   have he':es[i]?=some e/\st=stepB C e:=by
    unfold wk at he;rw[List.getElem?_map]at he;obtain⟨g,hg,eg⟩:=Option.map_eq_some_iff.mp he
    cases eg
    exact⟨hg,rfl⟩
   obtain⟨he1,rfl⟩:=he';have hEe:=hE e (List.mem_of_getElem? he1);refine⟨B,_,rfl,SqT.of (s1 _ _ q1),rfl,_,_,rfl,_,_,rfl,rfl,?_⟩;refine⟨_,rfl,_,rfl,b,C,e,rfl,s1 _ _ q2,hEe,fun p H2 ss L hp s2 e2 hs2 hL hLl=>?_⟩;have hpd:p≠dd:=fun z=>by subst z;rw[d1]at hp;cases hp
   have d2:=s2 _ _ d1;refine⟨p,rfl,⟨_,SqL.of e2⟩,?_⟩
   refine zaD (K:=K) (a:=p) (xs:=ss) (fun j σ H3=>∃(o5 o6:Option V) (kv3:List (List Key×V)),σ=[some (.ref a),some (.ref dd),some (.int n),some (.ref b),some (sv (stepB C e)),o5,o6]/\(∀z o,z≠dd->H2 z=some o->H3 z=some o)/\H3 dd=some (.dT kv3)/\Known C kv3/\kv3.length<=6*i+j)
    ⟨_,_,kvs,rfl,(fun z o _ h=>h),d2,hk,by lia⟩ (fun j σ H3 _ ⟨_,_,_,_,k3,_⟩=>SqL.of (k3 _ _ hpd e2)) ?_ ?_
   .rintro j u σ H3 hj ⟨o5,o6,kv3,rfl,k3,d3,hk3,hl3⟩;obtain⟨⟨c,t⟩,hq',A2,b2,rfl,r1,r2⟩:=hs2.at hj;have hjl:j<L.length:=by rw[<- hs2.1];exact (List.getElem?_eq_some_iff.mp hj).1
    have hct:C c=t:=hL _ (List.mem_of_getElem? hq');have nA:A2≠dd:=ne_of r1 d2 (fun z=>nomatch z);have nb:b2≠dd:=ne_of r2 d2 (fun z=>nomatch z);refine⟨A2,_,rfl,SqT.of (k3 _ _ nA r1),rfl,_,_,rfl,_,_,rfl,rfl,?_⟩;refine⟨_,rfl,dd,rfl,.inr ⟨_,Rd.of d3⟩,_,rfl,_,rfl,kv3,kC c,b2,d3,rfl,k3 _ _ nb r2,zbC (by lia),fun v hv'=>?_,fun hn=>?_⟩
    .have hv2:v=.bl t:=by rw[hk3 c v hv',hct]
     subst hv2;refine⟨_,rfl,rfl,_,rfl,iteN (by simp) ?_⟩;exact⟨_,_,kv3,rfl,k3,d3,hk3,by lia⟩
    .refine⟨_,rfl,rfl,_,rfl,iteN (by simp) ?_⟩;refine⟨_,_,putK kv3 (kC c) (.bl t),rfl,(fun z o hz h=>by rw[zai hz];exact k3 z o hz h),zaa,(fun c' v' hv'=>?_),Nat.le_trans (zba _ _ _) (by lia)⟩;rw[zcX]at hv'
     by_cases ec:c'=c
     .subst ec;rw[if_pos rfl]at hv'
      cases hv'
      rw[hct]
     .rw[if_neg (fun z=>ec (zfF.mp z))]at hv';exact hk3 c' v' hv'
   .rintro σ H3 ⟨o5,o6,kv3,rfl,k3,d3,hk3,hl3⟩;have s3:Same H H3:=fun z o h=>k3 z o (zam h hdd) (s2 _ _ (s1 _ _ h))
    have hl4:kv3.length<=6*(i+1):=by have:=hs2.1;lia
    cases hst:stepB C e with
    |none =>
     refine⟨_,rfl,rfl,_,rfl,iteF ?_⟩;exact⟨_,_,_,_,_,kv3,rfl,s3,d3,hk3,hl4⟩
    |some z =>
     refine⟨_,rfl,rfl,_,rfl,iteT ?_⟩;refine⟨_,rfl,_,_,rfl,rfl,?_⟩;exact⟨_,_,_,_,_,kv3,rfl,s3,d3,hk3,hl4⟩
  .rintro σ H1 ⟨n,o3,o4,o5,o6,kvs,rfl,s1,d1,hk,hkl⟩;exact k H1 s1
theorem zjU{α:Type}{xs:List α}(h:0<xs.length):atI xs (-1)=xs[xs.length-1]?:=by unfold atI ixN;rw[if_neg (by decide),if_pos (by lia)];show xs[((-1:Int)+xs.length).toNat]?=_;rw[show ((-1:Int)+xs.length).toNat=xs.length-1 by lia]
def zid(K:W.Frag):Sp:=fun vs H Q _=>∃(a:Addr) (C:Cell->Bool) (b:Edge) (es:List Edge),vs=[.ref a]/\LR K H a (wk C es) wR/\Closed C b es/\es.length<=500/\∀H',Same H H'->Q (.bl true) H'
theorem zeS (g_edge_behind:Fn P w K mg base 2 "edge_behind" ["edge","step"] (zeB K)) (d:Df K mg "comes_back" zbk ["walk"]):FnOk P w K mg base CX0 3 d.f d.fd ["walk"] (zid K):=by
 refine d.F.ok zch (fun vs H Q E h=>?_) (fun cdv A outer s H vs Q E hr h=>?_)
 .obtain⟨a,C,b,es,rfl,_⟩:=h;rfl
 .obtain⟨a,C,b,es,rfl,hLR,hcl,hlen,k⟩:=h;have hu64:=hr.units
  refine⟨_,(zab (zbM (pe_ix zbX (pv 0) (pe_un zdA zag) (fun _ _=>rfl)) (zbr (by rfl) (zaf (zae (i:=1) zch.nd (by rfl) (Or.inl rfl)) (zaf (zae (i:=2) zch.nd (by rfl) (Or.inl rfl)) zaA))))
   (zah (zay (zcO (zlA hu64) (zan g_edge_behind.ok (hr.mono (by decide)) (by rfl) g_edge_behind.m g_edge_behind.kp g_edge_behind.b .nil pass0 (pa_N (pv 1) (pa_N (pv 2) zac))) (pe_ix zc7 (pe_ix zbX (pv 0) zag (fun _ _=>rfl)) zag (fun _ _=>rfl)) (zaO _))))),?_⟩
  obtain⟨ws,hq,hv⟩:=hLR.vr;have hwl:ws.length=es.length:=by rw[hv.1,zcq]
  have hp:=hcl.pos;obtain⟨hch,l,hl,hb⟩:=id hcl;obtain⟨v1,hv1⟩:∃v,ws[ws.length-1]?=some v:=⟨_,List.getElem?_eq_getElem (by lia)⟩;obtain⟨⟨e1,st1⟩,he1,B1,b1,rfl,q1,q2⟩:=hv.at hv1;obtain⟨v0,hv0⟩:∃v,ws[0]?=some v:=⟨_,List.getElem?_eq_getElem (by lia)⟩;obtain⟨⟨e0,st0⟩,he0,B0,b0,rfl,r1,r2⟩:=hv.at hv0
  have h1:e1=l/\st1=stepB C l:=by
   unfold wk at he1;rw[hwl,List.getElem?_map,hl]at he1
   cases he1;exact⟨rfl,rfl⟩
  obtain⟨rfl,rfl⟩:=h1
  have h0:e0=b:=by
   unfold wk at he0;rw[List.getElem?_map,hch.1]at he0
   cases he0;rfl
  subst h0;have hEl:IsE C e1:=hch.2.2.1 e1 (List.mem_of_getElem? hl);refine⟨_,rfl,_,rfl,a,ws,_,_,rfl,rfl,hq,(zjU (by lia)).trans hv1,?_⟩;refine⟨B1,_,rfl,SqT.of q1,rfl,_,_,rfl,_,_,rfl,rfl,?_⟩;refine⟨_,rfl,_,rfl,b1,e1,stepB C e1,rfl,SqT.of q2,hEl.1,zeA hEl.1,fun p H1 hp1 s1 f1=>?_⟩;refine⟨_,rfl,a,ws,_,_,rfl,rfl,s1.seq hq,(zaM (j:=0) hv0),B0,_,_,_,rfl,rfl,SqT.of (s1 _ _ r1),zaM (j:=0) rfl,?_⟩;refine⟨_,_,zc9 f1,zc9 (s1 _ _ r2),zb1 _,zb1 _,?_⟩;rw[zhh,decide_eq_true (by show eI (nxt C e1)=eI e0;rw[hb])];exact k H1 s1
theorem nL_wk(C:Cell->Bool)(es:List Edge):nL (wk C es)=(es.filter fun e=>(stepB C e).isNone).length:=by unfold nL wk;rw[List.filter_map,List.length_map];rfl
theorem nS_wk(C:Cell->Bool)(es:List Edge):nS (wk C es)=(es.filter fun e=>slant (stepB C e)).length:=by unfold nS wk;rw[List.filter_map,List.length_map];rfl
theorem zhY{C:Cell->Bool}{b:Edge}{es:List Edge}(h:Closed C b es):(nL (wk C es):Int)-nS (wk C es)=4∨(nL (wk C es):Int)-nS (wk C es)=-4:=by rw[nL_wk,nS_wk,<- zex];exact h.turning
def zeh(K:W.Frag):Sp:=fun vs H Q _=>∃(a:Addr) (C:Cell->Bool) (b:Edge) (es:List Edge),vs=[.ref a,.str (sortS (wk C es))]/\LR K H a (wk C es) wR/\Closed C b es/\es.length<=500/\∀H',Same H H'->Q (.bl true) H'
theorem zfw (T:Txt P w K mg) (g_comes_back:Fn P w K mg base 3 "comes_back" ["walk"] (zid K)) (g_lefts_less_slants:Fn P w K mg base 3 "lefts_less_slants" ["walk"] (zj2 K)) (d:Df K mg "is_closed" zbz ["walk","sort"]):FnOk P w K mg base CX0 4 d.f d.fd ["walk","sort"] (zeh K):=by
 refine d.F.ok zfp (fun vs H Q E h=>?_) (fun cdv A outer s H vs Q E hr h=>?_)
 .obtain⟨a,C,b,es,rfl,_⟩:=h;rfl
 .obtain⟨a,C,b,es,rfl,hLR,hcl,hlen,k⟩:=h;refine⟨_,(zah (zay (zkc (zan g_comes_back.ok (hr.mono (by decide)) (by rfl) g_comes_back.m g_comes_back.kp g_comes_back.b .nil pass0 (pa_N (pv 0) zac)) (zka (zcO op_eq (zan g_lefts_less_slants.ok (hr.mono (by decide)) (by rfl) g_lefts_less_slants.m g_lefts_less_slants.kp g_lefts_less_slants.b .nil pass0 (pa_N (pv 0) zac)) (zlx (by rfl) T.more (pv 1)) (zaO _)))))),?_⟩;refine⟨_,rfl,a,C,b,es,rfl,hLR,hcl,hlen,fun H1 s1=>⟨_,rfl,iteT ?_⟩⟩;refine⟨_,rfl,a,wk C es,rfl,hLR.same s1 (fun x v h=>h.same s1),by rw[zcq];exact hlen,fun H2 s2=>⟨_,rfl,?_⟩⟩;rcases zhY hcl with t |t
  .refine .inl ⟨?_,rfl,?_⟩
   .unfold sortS;rw[if_pos (by lia)]
   .rw[t,decide_eq_true rfl];exact k H2 (s1.trans s2)
  .refine .inr ⟨?_,rfl,?_⟩
   .unfold sortS;rw[if_neg (by lia)]
   .rw[t,decide_eq_true rfl];exact k H2 (s1.trans s2)
theorem IsRnd.walk{C:Cell -> Bool}{b:Edge}{es:List Edge}{r:Rnd}(h:Closed C b es)(k:IsRnd (wk C es) r) :
  ∃es',Closed C (begE r) es'/\es'.Perm es/\r.row=(es'.map (stepB C)).filterMap id/\zcn (wk C es') r.so (begE r)/\r.so=sortS (wk C es')/\IsRnd (wk C es') r:=by
 obtain⟨r0,j,f,rf,⟨rb,rw',rl⟩,rx,ry,rr⟩:=id k;rw[zdj]at rf rb rl
 have ef:begE r=f:=by obtain⟨⟨x,y⟩,w⟩:=f;unfold begE;rw[rx,ry,r0];simp only at rw' ⊢;rw[rw']
 have h1:=h.rot j rf;have pm:=zju es j;have ss:=zhw (C:=C) pm
 have hrow:r.row=((es.drop j++es.take j).map (stepB C)).filterMap id:=by rw[rr];unfold wk;rw[<- List.map_drop,<- List.map_take,<- List.map_append,List.filterMap_map,List.filterMap_map];rfl
 have hb:zcn (wk C (es.drop j++es.take j)) r.so f:=⟨by rw[zdj];exact pm.mem_iff.mpr rb,by rw[rw',r0],fun g hg hw=>by rw[zdj]at hg;exact rl g (pm.mem_iff.mp hg) (by rw[hw,r0])⟩
 rw[ef];refine⟨_,h1,pm,hrow,hb,by rw[r0,ss],by rw[r0,ss],0,f,by rw[zdj];exact h1.1.1,by rw[ss,<- r0];exact hb,rx,ry,?_⟩;rw[hrow,List.drop_zero,List.take_zero,List.append_nil];unfold wk;rw[List.filterMap_map,List.filterMap_map];rfl
def zgJ(K:W.Frag):Sp:=fun vs H Q _=>∃(v:V) (r:Rnd) (C:Cell->Bool) (es:List Edge),vs=[v]/\rR r v H/\Closed C (begE r) es/\r.row=(es.map (stepB C)).filterMap id/\zcn (wk C es) r.so (begE r)/\r.so=sortS (wk C es)/\es.length<=500 /\
 ∀p H' ws,H p=none->Same H H'->H' p=some (.lst ws)->VR ws (wk C es) wR H'->Q (.ref p) H'
theorem zhB (g_begin_edge:Fn P w K mg base 1 "begin_edge" ["one"] zfm) (g_walk_along:Fn P w K mg base 4 "walk_along" ["begin", "row"] (zdD K)) (g_gainsaid_at:Fn P w K mg base 4 "gainsaid_at" ["walk"] (zei K))
  (g_is_closed:Fn P w K mg base 4 "is_closed" ["walk","sort"] (zeh K)) (g_begin_of:Fn P w K mg base 3 "begin_of" ["walk","sort"] (zie K)) (d:Df K mg "walk_of" zb4 ["one"]):FnOk P w K mg base CX0 5 d.f d.fd ["one"] (zgJ K):=by
 refine d.F.ok zbD (fun vs H Q E h=>?_) (fun cdv A outer s H vs Q E hr h=>?_)
 .obtain⟨v,r,C,es,rfl,_⟩:=h;rfl
 .obtain⟨v,r,C,es,rfl,hv,hcl,hrow,hbg,hso,hlen,k⟩:=h;have hu64:=hr.units
  refine⟨_,(zab (zbM (pv 0) (zbr (by rfl) (zaf (zae (i:=1) zbD.nd (by rfl) (Or.inl rfl)) (zaf (zae (i:=2) zbD.nd (by rfl) (Or.inl rfl)) (zaf (zae (i:=3) zbD.nd (by rfl) (Or.inl rfl)) (zaf (zae (i:=4) zbD.nd (by rfl) (Or.inl rfl)) zaA))))))
   (zab (zas (i:=5) zbD.nd (by rfl) (Or.inl rfl) (zan g_begin_edge.ok (hr.mono (by decide)) (by rfl) g_begin_edge.m g_begin_edge.kp g_begin_edge.b .nil pass0 (pa_N (pv 0) zac)))
   (zab (zas (i:=6) zbD.nd (by rfl) (Or.inl rfl) (zan g_walk_along.ok (hr.mono (by decide)) (by rfl) g_walk_along.m g_walk_along.kp g_walk_along.b .nil pass0 (pa_N (pv 5) (pa_N (pv 4) zac))))
   (zab (zas (i:=7) zbD.nd (by rfl) (Or.inl rfl) (zan g_gainsaid_at.ok (hr.mono (by decide)) (by rfl) g_gainsaid_at.m g_gainsaid_at.kp g_gainsaid_at.b .nil pass0 (pa_N (pv 6) zac)))
   (zab (ps_if (zaL zdK (pv 7) zcf (zaO _))
   (zah zgV)
   za8)
   (zab (ps_if (pw_or (zgT (zek (zan g_is_closed.ok (hr.mono (by decide)) (by rfl) g_is_closed.m g_is_closed.kp g_is_closed.b .nil pass0 (pa_N (pv 6) (pa_N (pv 1) zac))))) (zj7 (zaL (zft hu64) (zan g_begin_of.ok (hr.mono (by decide)) (by rfl) g_begin_of.m g_begin_of.kp g_begin_of.b .nil pass0 (pa_N (pv 6) (pa_N (pv 1) zac))) (pv 5) (zaO _)))).pt
   (zah zgV)
   za8)
   (zah (zay (pv 6))))))))),?_⟩
  obtain⟨a,b,rfl,q1,q2⟩:=id hv;have hE:IsE C (begE r):=hcl.1.2.2.1 _ (List.mem_of_getElem? hcl.1.1);have so2:r.so = "rim" ∨ r.so = "hole":=by rw[hso];exact zgO _
  have hrl:r.row.length<=500:=by rw[hrow];exact Nat.le_trans (List.length_filterMap_le _ _) (by rw[List.length_map];exact hlen)
  have hdd:deeds (begE r).w r.row=es.map (stepB C):=by rw[hrow];exact hcl.deeds.symm
  refine⟨_,rfl,a,_,rfl,SqT.of q1,rfl,_,_,rfl,_,_,rfl,_,_,rfl,_,_,rfl,rfl,?_⟩;refine⟨_,rfl,.ref a,r,rfl,hv,so2,fun p1 H1 hp1 s1 e1=>?_⟩;refine⟨_,rfl,_,rfl,p1,b,begE r,r.row,rfl,e1,hE.1,SqT.of (s1 _ _ q2),hrl,(fun z hz=>?_),fun p H2 ws hp s2 e2 hw=>?_⟩
  .rw[hdd]at hz;obtain⟨e,he,ez⟩:=List.mem_map.mp hz;exact zeA (hcl.1.2.2.1 e he).1 z ez
  rw[hdd,zfd es (.inl hcl.1.1) hcl.1.2.1]at hw;have lr:LR K H2 p (wk C es) wR:=LR.of e2 hw;refine⟨_,rfl,p,C,es,rfl,lr,hcl.1.2.2.1,hlen,fun H3 s3=>?_⟩;refine⟨_,rfl,rfl,_,rfl,iteF ?_⟩;have lr3:=lr.same s3 (fun x v h=>h.same s3);refine⟨_,rfl,_,rfl,p,C,begE r,es,(by rw[<- hso];rfl),lr3,hcl,hlen,fun H4 s4=>⟨_,rfl,iteF ?_⟩⟩;have lr4:=lr3.same s4 (fun x v h=>h.same s4);refine⟨_,rfl,_,rfl,p,wk C es,r.so,rfl,so2,lr4,by rw[zcq];exact hlen,⟨begE r,hbg.1,hbg.2.1⟩,fun b5 e5 H5 s5 f5 ib=>?_⟩;have ee:e5=begE r:=ib.one (List.Perm.refl _) hbg;subst ee;have s25:=s3.trans (s4.trans s5);refine⟨_,rfl,_,_,zc9 f5,zc9 ((s2.trans s25) _ _ e1),zb1 _,zb1 _,_,rfl,iteN (by rw[zhh,decide_eq_true rfl];rfl) ?_⟩;refine⟨_,rfl,k p H5 ws (s1.free hp) (s1.trans (s2.trans s25)) (s25 _ _ e2) (hw.mono fun x v h=>h.same s25)⟩
end
open PySem L2 RP
theorem zjQ(ns:List Int):PyData.depth (tI ns)=1:=by unfold tI;rw[PyData.depth,zck]
open PySem L2 RP
structure Can (C:Cell->Bool) (es:List Edge) (r:Rnd):Prop where
 cl:Closed C (begE r) es
 row:r.row=(es.map (stepB C)).filterMap id
 bg:zcn (wk C es) r.so (begE r)
 so:r.so=sortS (wk C es)
inductive Al {α β:Type} (P:α->β->Prop):List α->List β->Prop where
 |nil:Al P [] []
 |cons {a:α} {b:β} {l:List α} {m:List β}:P a b->Al P l m->Al P (a::l) (b::m)
theorem Al.of{α β:Type}{P:α->β->Prop}:∀{l:List α}{m:List β},l.length=m.length->(∀(i:Nat) a b,m[i]?=some b->l[i]?=some a->P a b)->Al P l m
 |[],[],_,_=>.nil
 |[],_::_,h,_=>by cases h
 |_::_,[],h,_=>by cases h
 |a::l,b::m,h,q=>.cons (q 0 a b rfl rfl) (Al.of (by simpa using h) fun i x y h1 h2=>q (i+1) x y (by simpa using h1) (by simpa using h2))
theorem Al.length{α β:Type}{P:α->β->Prop}{l:List α}{m:List β}(h:Al P l m):l.length=m.length:=by
 induction h with
 |nil=>rfl
 |cons _ _ ih=>simp[ih]
theorem Al.at{α β:Type}{P:α->β->Prop}{l:List α}{m:List β}(h:Al P l m):∀{i:Nat}{a:α}{b:β},m[i]?=some b->l[i]?=some a->P a b:=by
 induction h with
 |nil=>intro i a b h1;simp at h1
 |cons p _ ih =>
  intro i a b h1 h2
  cases i with
  |zero=>simp at h1 h2;subst h1 h2;exact p
  |succ i=>exact ih (by simpa using h1) (by simpa using h2)
theorem Al.perm{α β:Type}{P:α->β->Prop}{l' l:List α}(p:l'.Perm l):∀{m:List β},Al P l m->∃m',m'.Perm m/\Al P l' m':=by
 induction p with
 |nil=>intro m h;exact⟨m,.refl _,h⟩
 |cons a _ ih =>
  intro m h
  cases h with
  |cons p t =>
   obtain⟨m',q,r⟩:=ih t;exact⟨_::m',q.cons _,.cons p r⟩
 |swap a b l =>
  intro m h
  cases h with
  |cons p t =>
   cases t with
   |cons p2 t2=>exact⟨_::_::_,.swap _ _ _,.cons p2 (.cons p t2)⟩
 |trans _ _ ih1 ih2 =>
  intro m h;obtain⟨m1,q1,r1⟩:=ih2 h;obtain⟨m2,q2,r2⟩:=ih1 r1;exact⟨m2,q2.trans q1,r2⟩
theorem Al.bind{α γ:Type}{P Q:α->List γ->Prop}(f:∀a b,P a b->∃c,Q a c/\c.Perm b){l:List α}{m:List (List γ)}(h:Al P l m):∃m',Al Q l m'/\m'.flatten.Perm m.flatten:=by
 induction h with
 |nil=>exact⟨[],.nil,.refl _⟩
 |cons p _ ih =>
  obtain⟨c,q1,q2⟩:=f _ _ p;obtain⟨m',r1,r2⟩:=ih;exact⟨c::m',.cons q1 r1,by rw[List.flatten_cons,List.flatten_cons];exact q2.append r2⟩
theorem zfJ{γ:Type}{a b:List (List γ)}(p:a.Perm b):a.flatten.Perm b.flatten:=by
 induction p with
 |nil=>exact .refl _
 |cons x _ ih=>rw[List.flatten_cons,List.flatten_cons];exact ih.append_left _
 |swap x y l =>
  simp only[List.flatten_cons];rw[<- List.append_assoc,<- List.append_assoc];exact List.perm_append_comm.append_right _
 |trans _ _ i1 i2=>exact i1.trans i2
structure Cans (C:Cell->Bool) (ESS:List (List Edge)) (R:List Rnd):Prop where
 al:Al (fun r es=>Can C es r) R ESS
 nd:ESS.flatten.Nodup
 all:∀e,e∈ESS.flatten ↔ IsE C e
theorem Whole.cans{cs:List Cell}{R R0:List Rnd}(p:R.Perm R0)(h:Whole cs R0):∃ESS,Cans (isIn cs) ESS R:=by
 obtain⟨E,h1,h2⟩:=h;have a1:Al (fun r es=>(∃b,Closed (isIn cs) b es)/\IsRnd (wk (isIn cs) es) r) R0 E:=Al.of h1.len fun i r es e1 e2=>h1.each i es r e1 e2
 obtain⟨F,q1,a2⟩:=a1.perm p
 obtain⟨G,a3,q2⟩:=Al.bind (Q:=fun r es=>Can (isIn cs) es r) (fun r es ⟨⟨b,hb⟩,hr⟩=>by obtain⟨es',k1,k2,k3,k4,k5,_⟩:=IsRnd.walk hb hr;exact⟨es',⟨k1,k3,k4,k5⟩,k2⟩) a2
 have pm:=q2.trans (zfJ q1);exact⟨G,a3,pm.nodup_iff.mpr h1.nd,fun e=>by rw[pm.mem_iff];exact h2 e⟩
theorem Cans.so{C:Cell->Bool}{ESS:List (List Edge)}{R:List Rnd}(h:Cans C ESS R){i:Nat}{r:Rnd}(hr:R[i]?=some r):∃es,ESS[i]?=some es/\Can C es r:=by have hi:=(List.getElem?_eq_some_iff.mp hr).1;rw[h.al.length]at hi;exact⟨_,List.getElem?_eq_getElem hi,h.al.at (List.getElem?_eq_getElem hi) hr⟩
theorem bigS{n:Nat}(h:n<=60000):n<sizeLine:=Nat.lt_of_le_of_lt h (by decide)
inductive Lnk (C:Cell->Bool):Edge->List Edge->Prop where
 |one (e:Edge):Lnk C e []
 |more {e:Edge} {es:List Edge}:Lnk C (nxt C e) es->Lnk C e (nxt C e::es)
structure Box where
 (a b c d:Int)
theorem VR.app{α:Type}{vs ws:List V}{l m:List α}{R:α->V->Hp->Prop}{H:Hp}(h:VR vs l R H)(k:VR ws m R H):VR (vs++ws) (l++m) R H:=by
 refine⟨by rw[List.length_append,List.length_append,h.1,k.1],fun i x v h1 h2=>?_⟩
 by_cases hi:i<l.length
 .rw[List.getElem?_append_left hi]at h1;rw[List.getElem?_append_left (by rw[h.1];exact hi)]at h2;exact h.2 i x v h1 h2
 .rw[List.getElem?_append_right (by lia)]at h1;rw[List.getElem?_append_right (by rw[h.1];lia),h.1]at h2;exact k.2 _ x v h1 h2
abbrev Bfr(a b:Cell):Prop:=HT.lexLt [a.2,a.1] [b.2,b.1]=true
def lT(l:List (List Int)):PyData:=.list (l.map tI)
theorem zfM:∀l:List (List Int),PyData.eqvAll (l.map tI) (l.map tI)=true
 |[]=>rfl
 |x::l=>by show (PyData.eqv (tI x) (tI x) && PyData.eqvAll (l.map tI) (l.map tI))=true;rw[zfM l,zhh,decide_eq_true rfl];rfl
theorem zki(l:List (List Int)):PyData.eqv (lT l) (lT l)=true:=zfM l
theorem zdn:∀l:List (List Int),PyData.canLayAll0 (l.map tI)=true
 |[]=>rfl
 |x::l=>by
  have:=zb1 x;unfold SeqAt.shaped at this;rw[Bool.and_eq_true]at this;show (PyData.canLay0 (tI x) && PyData.canLayAll0 (l.map tI))=true;rw[this.1,zdn l];rfl
theorem zdV:∀l:List (List Int),PyData.depthAll (l.map tI)<=1
 |[]=>Nat.zero_le _
 |x::l=>by show max (PyData.depth (tI x)) (PyData.depthAll (l.map tI))<=1;rw[zjQ];have:=zdV l;lia
theorem zcd(l:List (List Int)):SeqAt.shaped (lT l)=true:=by unfold SeqAt.shaped lT;rw[PyData.canLay0,zdn l,PyData.depth];have:=zdV l;simp only[Bool.true_and,decide_eq_true_eq];lia
def cI(c:Cell):List Int:=[c.1,c.2]
theorem zfq{K:W.Frag}{H:Hp}:∀{vs:List V}{cs:List Cell},VR vs cs cR H->RDs K H vs ((cs.map cI).map tI)
 |[],[],_=>.nil
 |[],_::_,h=>by have:=h.1;cases this
 |_::_,[],h=>by have:=h.1;cases this
 |v::vs,r::R,h=>by
  obtain⟨⟨b,rfl,q⟩,h2⟩:=VR.cons.mp h;exact .cons (.tup (SqT.of q) (RDs.ints (cI r))) (zfq h2)
theorem zc0{K:W.Frag}{H:Hp}{a:Addr}{vs:List V}{cs:List Cell}(e:SqL K H a vs)(h:VR vs cs cR H):RD K H (.ref a) (lT (cs.map cI)):=.lst e (zfq h)
open PySem L2 RP
section
variable {P:Program}{w:World}{K:W.Frag}{mg:Str->Option Value}{base:Heap}
def zfk(K:W.Frag):Sp:=fun vs H Q _=>∃(v:V) (r:Rnd) (C:Cell->Bool) (es:List Edge),vs=[v]/\rR r v H/\Can C es r/\es.length<=480/\∀p H' us,H p=none->Same H H'->H' p=some (.lst us)->VR us es eR H'->Q (.ref p) H'
theorem zgn (g_walk_of:Fn P w K mg base 5 "walk_of" ["one"] (zgJ K)) (d:Df K mg "edges_of" zbE ["one"]):FnOk P w K mg base CX0 6 d.f d.fd ["one"] (zfk K):=by
 refine d.F.ok zgd (fun vs H Q E h=>?_) (fun cdv A outer s H vs Q E hr h=>?_)
 .obtain⟨v,r,C,es,rfl,_⟩:=h;rfl
 .obtain⟨v,r,C,es,rfl,hv,hc,hlen,k⟩:=h;have nb0:(["edge","step"]:List Str).Nodup:=by decide +kernel
  refine⟨_,(zah (zay (zbv (osc:=zad zbE) (N:=zer) (N':=["edge","step"]) (sel:=[none,none]) ⟨rfl,by decide +kernel,by decide +kernel,by decide +kernel,rfl,by decide +kernel⟩ (za9 (zan g_walk_of.ok (hr.mono (by decide)) (by rfl) g_walk_of.m g_walk_of.kp g_walk_of.b .nil pass0 (pa_N (pv 0) zac))) (fun _ _ _ _ _=>(zcu (K:=K) (n:=2) (by rfl) (zaf (zae (i:=0) nb0 (by rfl) (Or.inl rfl)) (zaf (zae (i:=1) nb0 (by rfl) (Or.inl rfl)) zaA)))) (fun _ _ _ _ _=>zdI) (fun _ _ _ _ _=>(pv 0))))),?_⟩;refine⟨_,rfl,v,r,C,es,rfl,hv,hc.cl,hc.row,hc.bg,hc.so,by lia,fun p H1 ws hp s1 e1 hw=>?_⟩;refine⟨p,rfl,⟨_,SqL.of e1⟩,fun g hg=>?_⟩;have wl:ws.length=es.length:=by rw[hw.1,zcq]
  refine zaD (K:=K) (a:=p) (xs:=ws) (fun j σ H2=>∃o0 o1,σ=[o0,o1]/\Same H1 H2/\∃zs,H2 g=some (.lst zs)/\VR zs (es.take j) eR H2)
   ⟨_,_,rfl,Same.up hg,[],zaa,VR.nil⟩ (fun j σ H2 _ ⟨_,_,_,s2,_⟩=>SqL.of (s2 _ _ e1)) ?_ ?_
  .rintro j u σ H2 hj ⟨o0,o1,rfl,s2,zs,e2,hz⟩;have hjl:j<ws.length:=(List.getElem?_eq_some_iff.mp hj).1;obtain⟨⟨f,st⟩,he,B,bb,rfl,q1,q2⟩:=hw.at hj
   have hf:es[j]?=some f:=by
    unfold wk at he;rw[List.getElem?_map]at he;obtain⟨y,hy,ey⟩:=Option.map_eq_some_iff.mp he
    cases ey;exact hy
   have hl3:zs.length<=480:=by rw[hz.1,List.length_take];lia
   refine⟨B,_,rfl,SqT.of (s2 _ _ q1),rfl,_,_,rfl,_,_,rfl,rfl,?_⟩;refine zcY ?_
   refine⟨_,rfl,zs,e2,zao (by lia),_,_,rfl,zau hg s2,_,zaa,?_⟩;rw[zbb hf];exact hz.snoc (fun x v h=>h.kt (KT.lst e2)) ⟨bb,rfl,KT.lst e2 _ _ (s2 _ _ q2)⟩
  .rintro σ H2 ⟨o0,o1,rfl,s2,zs,e2,hz⟩;rw[wl,List.take_length]at hz;exact k g H2 zs (s1.free hg) (s1.trans s2) e2 hz
end
open PySem L2 RP
theorem cpow{i j:Int}(h:0<=j/\j<=1000000/\i.natAbs<2 ^ 64):CPow i j:=h
theorem zig{b:Int}(h0:0<b)(h:b<=1000):b.natAbs.log2<9000:=by refine (Nat.log2_lt (by lia)).mpr (Nat.lt_of_lt_of_le (show b.natAbs<2 ^ 10 by lia) (Nat.pow_le_pow_right (by decide) (by decide)))
theorem zlz{cs:List Cell}(h:cs.Pairwise Bfr):InOrd cs:=by intro i c d h1 h2;have hi:=(List.getElem?_eq_some_iff.mp h1).1;have hj:=(List.getElem?_eq_some_iff.mp h2).1;have e1:=(List.getElem?_eq_some_iff.mp h1).2;have e2:=(List.getElem?_eq_some_iff.mp h2).2;have a:=List.pairwise_iff_getElem.mp h i (i+1) hi hj (by lia);rw[e1,e2]at a;exact a
theorem zk1{a b y:Int}(h:a<b):Bfr (a,y) (b,y):=by show HT.lexLt [y,a] [y,b]=true;rw[HT.lexLt_cons,if_pos rfl,HT.lexLt_cons,if_neg (by lia)];exact decide_eq_true h
theorem zlU{a b:Cell}(h:a.2<b.2):Bfr a b:=by show HT.lexLt [a.2,a.1] [b.2,b.1]=true;rw[HT.lexLt_cons,if_neg (by lia)];exact decide_eq_true h
section
variable {P:Program}{w:World}{K:W.Frag}{mg:Str->Option Value}{base:Heap}
def zgM(K:W.Frag):Sp:=fun vs H Q _=>∃(a:Addr) (ns:List Int) (k:Nat),vs=[.ref a,.int k]/\SqL K H a (ns.map V.int)/\∀n,Q (.int n) H
theorem zd1 (T:Txt P w K mg) (d:Df K mg "_law_cell_at" zaT ["_law_script","_law_k"]):FnOk P w K mg base CX0 1 d.f d.fd ["_law_script","_law_k"] (zgM K):=by
 refine d.F.ok zdF (fun vs H Q E h=>?_) (fun cdv A outer s H vs Q E hr h=>?_)
 .obtain⟨a,ns,k,rfl,_⟩:=h;rfl
 .obtain⟨a,ns,i,rfl,hq,k⟩:=h
  refine⟨_,(zab (ps_if (zaL op_lt (pv 1) (zaV zbG (by rfl) T.nlen (by rfl) (pa_N (pv 0) zac)) (zaO _))
   (zah (zay (pe_ix zbX (pv 0) (pv 1) (fun _ _=>rfl))))
   za8)
   (zah (zay zag))),?_⟩
  refine⟨_,rfl,_,rfl,a,_,rfl,.inl hq,_,_,rfl,rfl,_,rfl,?_⟩;refine ite2 (fun hy=>?_) (fun hn=>k 0)
  have hlt:i<ns.length:=by have:=of_decide_eq_true hy;rw[List.length_map]at this;lia
  exact⟨_,rfl,_,rfl,a,_,_,_,rfl,rfl,hq,zaM (v:=.int ns[i]) (by simp[hlt]),k _⟩
def spRow:Sp:=fun vs H Q _=>∃(c b:Int) (m:Nat),vs=[.int c,.int m,.int b]/\m<=60/\0<b/\b<=1000/\∀p H' (ns:List Int),H p=none->Same H H'->H' p=some (.lst (ns.map V.int))->ns.length=m->(∀n∈ns,0<=n/\n<b)->Q (.ref p) H'
theorem zhD (T:Txt P w K mg) (d:Df K mg "_law_row" zbR ["_law_cell","_law_many","_law_base"]):FnOk P w K mg base CX0 1 d.f d.fd ["_law_cell","_law_many","_law_base"] spRow:=by
 refine d.F.ok zby (fun vs H Q E h=>?_) (fun cdv A outer s H vs Q E hr h=>?_)
 .obtain⟨c,b,m,rfl,_⟩:=h;rfl
 .obtain⟨c,b,m,rfl,hm,hb,hb2,k⟩:=h
  refine⟨_,(zab (zas (i:=3) zby.nd (by rfl) (Or.inl rfl) (zbs zac))
   (zab (zas (i:=4) zby.nd (by rfl) (Or.inl rfl) (pe_op zcH (pv 0) (pe_op ziy zag zag)))
   (zab (zas (i:=5) zby.nd (by rfl) (Or.inl rfl) (pe_op zbg (pv 0) zag))
   (zab (zbI PassesOwn.never rfl (zc2 (by rfl) T.nrange (pa_N (pv 1) zac)) (zae (i:=6) zby.nd (by rfl) (Or.inl rfl))
   (zah (ps_if (zaL op_ge (pv 0) (pe_op ziy zag zag) (zaO _))
   (zab (zbo (pe_bm PySem.F.plainAttrs_list PySem.F.slot_list_append PySem.F.type_list_append zaZ (pv 3) (pa_B (pe_op zbg (pv 4) (pv 2)) zac)))
   (zah (zas (i:=4) zby.nd (by rfl) (Or.inl rfl) (pe_op zjD (pv 4) (pv 2)))))
   (zab (zas (i:=5) zby.nd (by rfl) (Or.inl rfl) (pe_op zbg (pe_op zaI (pe_op zaI (pe_op zb9 (pv 5) zag) (pe_op zb9 (pe_op zb9 (pv 6) (pv 6)) zag)) zag) zag))
   (zah (zbo (pe_bm PySem.F.plainAttrs_list PySem.F.slot_list_append PySem.F.type_list_append zaZ (pv 3) (pa_B (pe_op zbg (pe_op zgi (pe_op zbg (pe_op zb9 (pv 5) (pv 5)) zag) zag) (pv 2)) zac))))))))
   (zah (zay (pv 3))))))),?_⟩
  have hmod:∀z:Int,0<=z % b/\z % b<b:=fun z=>⟨Int.emod_nonneg _ (by lia),Int.emod_lt_of_pos _ hb⟩
  have hnum:∀z:Int,0<=z % 2147483629/\z % 2147483629<2147483629:=fun z=>⟨Int.emod_nonneg _ (by decide),Int.emod_lt_of_pos _ (by decide)⟩
  refine⟨(by show 0<=sizeLine;decide),fun p hp=>?_⟩;have s1:Same H (upd H p (.lst [])):=Same.up hp;have e1:upd H p (.lst []) p=some (.lst []):=zaa;generalize upd H p (.lst [])=H1 at s1 e1;refine⟨_,rfl,_,_,rfl,rfl,(by refine cpow ?_;decide),_,_,rfl,rfl,?_⟩;refine⟨_,rfl,_,_,rfl,rfl,(by show (0:Int)<2147483629;decide),?_⟩;refine⟨_,rfl,_,rfl,(by lia),(by lia),?_⟩
  refine zbK (lo:=0) (n:=m) (fun i σ H2=>∃(l q:Int) (o:Option V) (ns:List Int),σ=[some (.int c),some (.int m),some (.int b),some (.ref p),some (.int l),some (.int q),o]/\0<=q/\q<2147483629/\Same H H2/\H2 p=some (.lst (ns.map V.int))/\ns.length=i/\∀n∈ns,0<=n/\n<b)
   ⟨_,_,_,[],rfl,(hnum c).1,(hnum c).2,s1,e1,rfl,by simp⟩ ?_ ?_
  .rintro i σ H2 hi ⟨l,q,o,ns,rfl,q0,q1,s2,e2,hl,hall⟩
   have snoc:∀z:Int,0<=z->z<b->(ns++[z]).length=i+1/\∀n∈ns++[z],0<=n/\n<b:=fun z z0 z1=>⟨by rw[List.length_append,hl];rfl,fun n hn=>by
    rcases List.mem_append.mp hn with h |h
    .exact hall n h
    .rw[List.mem_singleton.mp h];exact⟨z0,z1⟩⟩
   refine⟨_,rfl,_,_,rfl,rfl,(by refine cpow ?_;decide),_,_,rfl,rfl,_,rfl,?_⟩;refine ite2 (fun _=>?_) (fun _=>?_)
   .refine⟨_,rfl,.inl ⟨rfl,_,SqL.of e2⟩,_,rfl,_,rfl,_,_,rfl,rfl,hb,p,_,_,rfl,rfl,e2,zao (by rw[List.length_map];lia),?_⟩;refine⟨_,rfl,_,rfl,_,_,rfl,rfl,⟨hb,zig hb hb2⟩,?_⟩;obtain⟨z1,z2⟩:=snoc (l % b) (hmod l).1 (hmod l).2;exact⟨_,q,_,ns++[l % b],rfl,q0,q1,zau hp s2,by rw[zaa,List.map_append];rfl,z1,z2⟩
   .refine⟨_,rfl,_,_,rfl,rfl,.inr ⟨by decide,by decide⟩,_,rfl,_,rfl,_,_,rfl,rfl,.inl ⟨by lia,by lia⟩,_,_,rfl,rfl,.inr ⟨by decide,by decide⟩,_,_,rfl,rfl,_,_,rfl,rfl,_,_,rfl,rfl,(by show (0:Int)<2147483629;decide),?_⟩;obtain⟨n0,n1⟩:=hnum (q*48271+(0+(i:Int))*(0+(i:Int))*69621+11);refine⟨_,rfl,.inl ⟨rfl,_,SqL.of e2⟩,_,rfl,_,rfl,_,_,rfl,rfl,.inl ⟨by lia,by lia⟩,_,_,rfl,rfl,(by show (0:Int)<2147483647;decide),_,_,rfl,rfl,⟨by decide,by decide⟩,_,rfl,_,_,rfl,rfl,hb,p,_,_,rfl,rfl,e2,zao (by rw[List.length_map];lia),?_⟩;obtain⟨z1,z2⟩:=snoc (((q*48271+(0+(i:Int))*(0+(i:Int))*69621+11) % 2147483629)*((q*48271+(0+(i:Int))*(0+(i:Int))*69621+11) % 2147483629) % 2147483647 / 64 % b) (hmod _).1 (hmod _).2;exact⟨l,((q*48271+(0+(i:Int))*(0+(i:Int))*69621+11) % 2147483629),_,ns++[((q*48271+(0+(i:Int))*(0+(i:Int))*69621+11) % 2147483629)*((q*48271+(0+(i:Int))*(0+(i:Int))*69621+11) % 2147483629) % 2147483647 / 64 % b],rfl,n0,n1,zau hp s2,by rw[zaa,List.map_append];rfl,z1,z2⟩
  .rintro σ H2 ⟨l,q,o,ns,rfl,q0,q1,s2,e2,hl,hall⟩;exact⟨_,rfl,k p H2 ns hp s2 e2 hl hall⟩
end
open PySem L2 RP
def rowX(ns:List Int)(sh dx y:Int)(n:Nat):List Cell:=((List.range n).filter fun x=>decide (ns.getD x 0<=sh)).map fun x:Nat=>((x:Int)+dx,y)
theorem zil(ns:List Int)(sh dx y:Int)(n:Nat):rowX ns sh dx y (n+1)=rowX ns sh dx y n++(if ns.getD n 0<=sh then [((n:Int)+dx,y)] else []):=by
 unfold rowX;rw[List.range_succ,List.filter_append,List.map_append]
 congr 1
 by_cases h:ns.getD n 0<=sh
 .rw[if_pos h]
  have e:(List.filter (fun x=>decide (ns.getD x 0<=sh)) [n])=[n]:=by show (match decide (ns.getD n 0<=sh) with |true=>[n] |false=>[])=[n];rw[decide_eq_true h]
  rw[e];rfl
 .rw[if_neg h]
  have e:(List.filter (fun x=>decide (ns.getD x 0<=sh)) [n])=[]:=by show (match decide (ns.getD n 0<=sh) with |true=>[n] |false=>[])=[];rw[decide_eq_false h]
  rw[e];rfl
theorem zdH(ns:List Int)(sh dx y:Int)(n:Nat):(rowX ns sh dx y n).length<=n:=by
 unfold rowX;rw[List.length_map];refine Nat.le_trans (List.length_filter_le _ _) ?_
 rw[List.length_range];exact Nat.le_refl _
theorem zkC(ns:List Int)(sh dx y:Int)(n:Nat):(rowX ns sh dx y n).Pairwise Bfr:=by unfold rowX;rw[List.pairwise_map];refine (List.pairwise_lt_range.filter _).imp fun {a b} h=>zk1 (by lia)
theorem zj6{ns:List Int}{sh dx y:Int}{n:Nat}{c:Cell}(h:c∈rowX ns sh dx y n):c.2=y:=by obtain⟨x,_,rfl⟩:=List.mem_map.mp h;rfl
theorem zlp{ns:List Int}{sh dx y:Int}{n:Nat}{c:Cell}(h:c∈rowX ns sh dx y n):dx<=c.1/\c.1<dx+n:=by obtain⟨x,hx,rfl⟩:=List.mem_map.mp h;have:=List.mem_range.mp (List.mem_filter.mp hx).1;show dx<=(x:Int)+dx/\(x:Int)+dx<dx+n;lia
section
variable {P:Program}{w:World}{K:W.Frag}{mg:Str->Option Value}{base:Heap}
def zj1(K:W.Frag):Sp:=fun vs H Q _=>∃(a:Addr) (ns:List Int) (st:Nat),vs=[.ref a,.int st]/\SqL K H a (ns.map V.int)/\∀p H' vs cs,H p=none->Same H H'->H' p=some (.lst vs)->VR vs cs cR H'->cs.Pairwise Bfr->cs.length<=120->(∃l lo:Int,∀c∈cs,l<=c.1/\c.1<l+12/\lo<=c.2/\c.2<lo+10)->Q (.ref p) H'
theorem six{α:Type}{l:List α}(h:l.length=6):∃a b c d e f,l=[a,b,c,d,e,f]:=by
 match l,h with
 |[a,b,c,d,e,f],_=>exact⟨a,b,c,d,e,f,rfl⟩
theorem zd0 (T:Txt P w K mg) (g__law_cell_at:Fn P w K mg base 1 "_law_cell_at" ["_law_script", "_law_k"] (zgM K)) (g__law_row:Fn P w K mg base 1 "_law_row" ["_law_cell", "_law_many", "_law_base"] spRow)
    (d:Df K mg "_law_picture" zaH ["_law_script","_law_start"]):FnOk P w K mg base CX0 2 d.f d.fd ["_law_script","_law_start"] (zj1 K):=by
  refine d.F.ok zaw (fun vs H Q E h=>?_) (fun cdv A outer s H vs Q E hr h=>?_)
  . obtain⟨a,ns,st,rfl,_⟩:=h;rfl
  . obtain⟨a,ns,st,rfl,hS,k⟩:=h;have nb0:(["_law_x","_law_y","_law_far","_law_row_here","_law_share","_law_left","_law_low"]:List Str).Nodup:=by decide +kernel
    refine⟨_,(zab (zbM (zan g__law_row.ok (hr.mono (by decide)) (by rfl) g__law_row.m g__law_row.kp g__law_row.b .nil pass0 (zaj (zan g__law_cell_at.ok (hr.mono (by decide)) (by rfl) g__law_cell_at.m g__law_cell_at.kp g__law_cell_at.b .nil pass0 (pa_N (pv 0) (pa_N (pv 1) zac))) (pa_C zag (pa_C zag zac)))) (zlv (by rfl) (zaf (zae (i:=2) zaw.nd (by rfl) (Or.inl rfl)) (zaf (zae (i:=3) zaw.nd (by rfl) (Or.inl rfl)) (zaf (zae (i:=4) zaw.nd (by rfl) (Or.inr rfl)) (zaf (zae (i:=5) zaw.nd (by rfl) (Or.inr rfl)) (zaf (zae (i:=6) zaw.nd (by rfl) (Or.inr rfl)) (zaf (zae (i:=7) zaw.nd (by rfl) (Or.inl rfl)) zaA))))))))
      (zab (zas (i:=8) zaw.nd (by rfl) (Or.inr rfl) (pe_ix zbX (zbs (pa_C zag (pa_B (pe_op ziy zag zag) zac))) (pe_op zgi (pv 7) zag) (fun _ _=>rfl)))
      (zab (zas (i:=9) zaw.nd (by rfl) (Or.inl rfl) (zbs zac))
      (zab (zbI PassesOwn.never rfl (zc2 (by rfl) T.nrange (pa_B (pe_op zaI zag (pe_op zbg (pv 3) zag)) zac)) (zae (i:=10) zaw.nd (by rfl) (Or.inr rfl))
      (zab (zas (i:=11) zaw.nd (by rfl) (Or.inr rfl) (zan g__law_row.ok (hr.mono (by decide)) (by rfl) g__law_row.m g__law_row.kp g__law_row.b .nil pass0 (pa_B (pe_op zaI (zan g__law_cell_at.ok (hr.mono (by decide)) (by rfl) g__law_cell_at.m g__law_cell_at.kp g__law_cell_at.b .nil pass0 (pa_N (pv 0) (pa_B (pe_op zaI (pe_op zaI (pv 1) zag) (pv 10)) zac))) (pv 10)) (pa_B (pe_op zaI zag (pe_op zbg (pv 2) zag)) (pa_C zag zac)))))
      (zah (zbo (pe_bm PySem.F.plainAttrs_list PySem.F.slot_list_extend PySem.F.type_list_extend zc5 (pv 9) (zaj (zbv (osc:=zad zaH) (N:=zcK) (N':=["_law_x","_law_y","_law_far","_law_row_here","_law_share","_law_left","_law_low"]) (sel:=[none,some 10,some 8,some 11,some 4,some 5,some 6]) ⟨rfl,by decide +kernel,by decide +kernel,by decide +kernel,rfl,by decide +kernel⟩ (zc2 (by rfl) T.nrange (zaj (zaV zbG (by rfl) T.nlen (by rfl) (pa_N (pv 11) zac)) zac)) (fun _ _ _ _ _=>(zae (i:=0) nb0 (by rfl) (Or.inl rfl))) (fun _ _ _ _ _=>zci (zaL op_le (pe_ix (zjH (K:=K)) (pv 3) (pv 0) (fun _ _=>rfl)) (pe_op zbg (pv 4) zag) (zaO _))) (fun _ _ _ _ _=>(zax (pa_B (pe_op zaI (pv 0) (pe_op zb9 (pe_op zcH (pv 5) zag) (pv 2))) (pa_B (pe_op zaI (pv 1) (pe_op zb9 (pe_op zcH (pv 6) zag) (pv 2))) zac))))) zac))))))
      (zah (zay (pv 9))))))),?_⟩
    refine⟨_,rfl,_,rfl,a,ns,st,rfl,hS,fun c0=>⟨c0,60,6,rfl,by decide,by decide,by decide,fun p1 H1 ms hp1 s1 e1 hl1 hb1=>?_⟩⟩;obtain⟨wd,hg,sh,lf,lw,wy,rfl⟩:=six hl1;have bw:=hb1 wd (by simp);have bh:=hb1 hg (by simp);have bl:=hb1 lf (by simp);have bo:=hb1 lw (by simp);have by':=hb1 wy (by simp);refine⟨p1,_,rfl,SqL.of e1,rfl,_,_,rfl,_,_,rfl,_,_,rfl,_,_,rfl,_,_,rfl,_,_,rfl,rfl,?_⟩;refine⟨_,_,rfl,rfl,(by refine cpow ?_;decide),two,fun l2 hl2=>?_⟩;have s2:Same H1 (upd H1 l2 (.lst [.int 1,.int (10 ^ (28:Int).toNat)])):=Same.up hl2;have e2:upd H1 l2 (.lst [.int 1,.int (10 ^ (28:Int).toNat)]) l2=some (.lst [.int 1,.int (10 ^ (28:Int).toNat)]):=zaa;generalize upd H1 l2 (.lst [.int 1,.int (10 ^ (28:Int).toNat)])=H2 at s2 e2
    obtain⟨far,hfar⟩:∃far:Int,atI [V.int 1,V.int (10 ^ (28:Int).toNat)] (wy / 50)=some (.int far):=by
      have:wy / 50=0∨wy / 50=1:=by lia
      rcases this with z |z <;> rw[z]
      . exact⟨_,rfl⟩
      . exact⟨_,rfl⟩
    refine⟨_,rfl,_,_,rfl,rfl,⟨by decide,by decide⟩,l2,_,_,_,rfl,rfl,SqL.of e2,hfar,?_⟩;refine⟨(by show 0<=sizeLine;decide),fun f hf=>?_⟩;have s3:Same H2 (upd H2 f (.lst [])):=Same.up hf;have e3:upd H2 f (.lst []) f=some (.lst []):=zaa;generalize upd H2 f (.lst [])=H3 at s3 e3;have s02:=s1.trans s2;have hf0:H f=none:=s02.free hf;have s03:=s02.trans s3;have hh0:=Int.emod_nonneg hg (show (10:Int)≠0 by decide);have hh1:=Int.emod_lt_of_pos hg (show (0:Int)<10 by decide);have hw0:=Int.emod_nonneg wd (show (12:Int)≠0 by decide);have hw1:=Int.emod_lt_of_pos wd (show (0:Int)<12 by decide);refine⟨_,rfl,_,_,rfl,rfl,(by show (0:Int)<10;decide),_,_,rfl,rfl,_,rfl,(by show -(2 ^ 62)<=1+hg % 10;lia),(by show 1+hg % 10<2 ^ 62;lia),?_⟩
    refine zbK (lo := 0) (n := (1 + hg % 10).toNat) (fun i σ H4 => ∃o10 o11, σ = [some (.ref a), some (.int st), some (.int wd), some (.int hg), some (.int sh), some (.int lf), some (.int lw), some (.int wy), some (.int far), some (.ref f), o10, o11] /\ Same H H4 /\
        ∃vs cs,H4 f=some (.lst vs)/\VR vs cs cR H4/\cs.Pairwise Bfr/\(∀c∈cs,c.2<(i:Int)+(lw-30)*far/\(lw-30)*far<=c.2/\(lf-30)*far<=c.1/\c.1<(lf-30)*far+12)/\cs.length<=12*i)
      ⟨_,_,rfl,s03,[],[],e3,VR.nil,.nil,by simp,Nat.zero_le _⟩ ?_ ?_
    . rintro i σ H4 hi ⟨o10,o11,rfl,s4,vs,cs,e4,hv4,hpw,hup,hcl⟩;have hi10:i<10:=by lia
      refine⟨_,rfl,_,rfl,_,_,rfl,rfl,_,rfl,_,_,rfl,rfl,a,ns,st+1+i,(by rw[Int.zero_add];rfl),s4.seq hS,fun c1=>⟨_,rfl,_,_,rfl,rfl,?_⟩⟩;refine⟨_,rfl,_,_,rfl,rfl,(by show (0:Int)<12;decide),_,_,rfl,rfl,_,4,(1+wd % 12).toNat,(by rw[Int.toNat_of_nonneg (by lia)];rfl),by lia,by decide,by decide,fun p5 H5 rs hp5 s5 e5 hl5 _=>?_⟩;have e45:=s5 _ _ e4;refine⟨_,rfl,.inl ⟨rfl,_,SqL.of e45⟩,_,rfl,p5,_,rfl,.inl (SqL.of e5),_,rfl,(by rw[List.length_map];lia),(by rw[List.length_map];lia),fun g hg5=>?_⟩;rw[show ((((rs.map V.int).length:Nat):Int)).toNat=rs.length by rw[List.length_map];rfl];have hrl:rs.length<=12:=by lia
      refine zbK (lo:=0) (n:=rs.length) (fun j σ H6=>∃o0,σ=[o0,some (.int (0+(i:Int))),some (.int far),some (.ref p5),some (.int sh),some (.int lf),some (.int lw)]/\Same H5 H6/\∃zs,H6 g=some (.lst zs)/\VR zs (rowX rs (sh % 3) ((lf-30)*far) ((i:Int)+(lw-30)*far) j) cR H6)
        ⟨_,rfl,Same.up hg5,[],zaa,VR.nil⟩ ?_ ?_
      . rintro j σ H6 hj ⟨o0,rfl,s6,zs,e6,hz6⟩;have hzl:zs.length<=12:=by rw[hz6.1];have:=zdH rs (sh % 3) ((lf-30)*far) ((i:Int)+(lw-30)*far) j;lia
        have hget:(rs.map V.int)[j]?=some (.int (rs.getD j 0)):=by rw[List.getElem?_map,List.getD_eq_getElem?_getD,List.getElem?_eq_getElem hj];rfl
        refine⟨_,rfl,_,rfl,p5,_,_,_,rfl,rfl,SqL.of (s6 _ _ e5),(by rw[Int.zero_add];exact zaM hget),_,rfl,_,_,rfl,rfl,(by show (0:Int)<3;decide),_,_,rfl,rfl,_,rfl,?_⟩;rw[zil];refine ite2 (fun hy=>?_) (fun hn=>?_)
        . rw[if_pos (of_decide_eq_true hy)];refine⟨_,rfl,_,rfl,_,_,rfl,rfl,_,rfl,_,_,rfl,rfl,.inl ⟨by lia,by lia⟩,_,_,rfl,rfl,?_⟩;refine⟨_,rfl,_,rfl,_,_,rfl,rfl,_,rfl,_,_,rfl,rfl,.inl ⟨by lia,by lia⟩,_,_,rfl,rfl,two,fun t ht=>?_⟩;have s7:Same H6 (upd H6 t (.tup [.int (0+(j:Int)+(lf-30)*far),.int (0+(i:Int)+(lw-30)*far)])):=Same.up ht;have r7:cR ((j:Int)+(lf-30)*far,(i:Int)+(lw-30)*far) (.ref t) (upd H6 t (.tup [.int (0+(j:Int)+(lf-30)*far),.int (0+(i:Int)+(lw-30)*far)])):=⟨t,rfl,by rw[zaa,Int.zero_add,Int.zero_add];rfl⟩;generalize upd H6 t (.tup [.int (0+(j:Int)+(lf-30)*far),.int (0+(i:Int)+(lw-30)*far)])=H7 at s7 r7;have e7:=s7 _ _ e6;refine⟨zs,e7,zao (by lia),_,rfl,zau hg5 (s6.trans s7),_,zaa,?_⟩;exact hz6.snoc (fun x v h=>(h.kt (KT.of s7)).kt (KT.lst e7)) (r7.kt (KT.lst e7))
        . rw[if_neg (by simpa using hn)];exact⟨_,rfl,s6,zs,e6,by rw[List.append_nil];exact hz6⟩
      . rintro σ H6 ⟨o0,rfl,s6,zs,e6,hz6⟩;have hrx:=zdH rs (sh % 3) ((lf-30)*far) ((i:Int)+(lw-30)*far) rs.length;have hzl:zs.length<=12:=by rw[hz6.1];lia
        have hvl:vs.length<=120:=by rw[hv4.1];lia
        have e46:=s6 _ _ e45;refine⟨f,g,_,_,rfl,rfl,e46,e6,Nat.le_of_lt (zao (by lia)),?_⟩;have k7:KT H6 (upd H6 f (.lst (vs++zs))):=KT.lst e46;refine⟨_,_,rfl,zau hf0 (s4.trans (s5.trans s6)),_,_,zaa,(hv4.mono fun x v h=>(h.kt (KT.of (s5.trans s6))).kt k7).app (hz6.mono fun x v h=>h.kt k7),?_,?_,?_⟩
        . refine List.pairwise_append.mpr ⟨hpw,zkC _ _ _ _ _,fun x hx y hy=>zlU ?_⟩;have:=(hup x hx).1;rw[zj6 hy];exact this
        . intro c hc;rcases List.mem_append.mp hc with h |h
          . have:=hup c h;lia
          . have e1:=zj6 h;have e2:=zlp h;lia
        . rw[List.length_append];lia
    . rintro σ H4 ⟨o10,o11,rfl,s4,vs,cs,e4,hv4,hpw,hup,hcl⟩;exact⟨_,rfl,k f H4 vs cs hf0 s4 e4 hv4 hpw (by lia) ⟨(lf-30)*far,(lw-30)*far,fun c hc=>by have:=hup c hc;lia⟩⟩
end
open PySem L2 RP
section
variable {P:Program}{w:World}{K:W.Frag}{mg:Str->Option Value}{base:Heap}
def keyR(k:List Key)(v:V)(H:Hp):Prop:=∃b,v=.ref b/\H b=some (.tup (k.map kV))
def tru(ks:List (List Key)):List (List Key×V):=ks.map fun k=>(k,V.bl true)
theorem putK_new{ks:List (List Key)}{k:List Key}(h:k ∉ ks):putK (tru ks) k (.bl true)=tru (ks++[k]):=by
 unfold putK tru;rw[if_neg (fun z=>?_),List.map_append]
 .rfl
 .obtain⟨x,hx,e⟩:=List.any_eq_true.mp z;obtain⟨y,hy,rfl⟩:=List.mem_map.mp hx;exact h (by rw[<- of_decide_eq_true e];exact hy)
theorem zh4:∀{ks:List (List Key)}{k:List Key},k ∉ ks->valV (tru ks) k=none
 |[],_,_=>rfl
 |x::xs,k,h=>by
  show valV ((x,V.bl true)::tru xs) k=none;rw[zbp (fun e=>h (by rw[<- e];exact List.mem_cons_self))];exact zh4 fun m=>h (List.mem_cons_of_mem _ m)
theorem zjX:∀{ks:List (List Key)}{k:List Key},k∈ks->valV (tru ks) k=some (.bl true)
 |x::xs,k,h=>by
  show valV ((x,V.bl true)::tru xs) k=some (V.bl true)
  by_cases e:x=k
  .rw[zbu e]
  .rw[zbp e];exact zjX ((List.mem_cons.mp h).resolve_left fun z=>e z.symm)
def spLot(K:W.Frag):Sp:=fun vs H Q _=>∃(a:Addr) (us:List V) (ks:List (List Key)),vs=[.ref a]/\SqL K H a us/\VR us ks keyR H/\ks.Nodup/\ks.length<=1000/\∀t H',H t=none->Same H H'->H' t=some (.dT (tru ks))->Q (.ref t) H'
theorem zhE (d:Df K mg "_law_lot" zbS ["_law_cells"]):FnOk P w K mg base CX0 1 d.f d.fd ["_law_cells"] (spLot K):=by
 refine d.F.ok zcM (fun vs H Q E h=>?_) (fun cdv A outer s H vs Q E hr h=>?_)
 .obtain⟨a,us,ks,rfl,_⟩:=h;rfl
 .obtain⟨a,us,ks,rfl,hq,hv,hnd,hlen,k⟩:=h;have hu1:=hu_of hr
  refine⟨_,(zab (zas (i:=1) zcM.nd (by rfl) (Or.inl rfl) zc3)
   (zab (zbI PassesOwn.never rfl (za9 (pv 0)) (zae (i:=2) zcM.nd (by rfl) (Or.inl rfl))
   (zah (zdJ hu1 (pv 1) (pv 2) pe_bl rfl)))
   (zah (zay (pv 1))))),?_⟩
  refine fun p hp=>?_
  refine⟨_,rfl,a,rfl,⟨_,(Same.up hp).seq hq⟩,?_⟩
  refine zaD (K:=K) (a:=a) (xs:=us) (fun i σ H2=>∃o,σ=[some (.ref a),some (.ref p),o]/\Same H H2/\H2 p=some (.dT (tru (ks.take i))))
   ⟨_,rfl,Same.up hp,zaa⟩ (fun i σ H2 _ ⟨_,_,s2,_⟩=>s2.seq hq) ?_ ?_
  .rintro i v σ H2 hi ⟨o,rfl,s2,e2⟩;obtain⟨x,hx,b,rfl,q⟩:=hv.at hi;have hil:i<ks.length:=(List.getElem?_eq_some_iff.mp hx).1
   have hn:x ∉ ks.take i:=fun hm=>by
    obtain⟨j,hj,ej⟩:=List.getElem_of_mem hm;rw[List.length_take]at hj;have h1:ks[j]?=some x:=by rw[<- ej,List.getElem_take];exact List.getElem?_eq_getElem (by lia)
    have:=(List.getElem?_inj (i:=j) (j:=i) (by lia) hnd).mp (by rw[h1,hx]);lia
   refine⟨_,rfl,_,rfl,p,_,rfl,.inr ⟨tru (ks.take i),x,b,e2,rfl,s2 _ _ q,zao (by unfold tru;rw[List.length_map,List.length_take];lia),rfl⟩,?_⟩;refine⟨_,rfl,fun z o e=>?_,?_⟩
   .rw[zai (zam e hp)];exact s2 z o e
   .rw[zaa,putK_new hn,zbb hx]
  .rintro σ H2 ⟨o,rfl,s2,e2⟩;rw[hv.1,List.take_length]at e2;exact⟨_,rfl,k p H2 hp s2 e2⟩
def TabR(H:Hp)(t:Addr)(C:Cell->Bool):Prop:=∃kvs:List (List Key×V),Rd H t (.dT kvs)/\∀c:Cell,(valV kvs [Sum.inl c.1,Sum.inl c.2]).isSome=C c
theorem Same.rd{H H':Hp}{a:Addr}{o:HO}(s:Same H H')(h:Rd H a o):Rd H' a o:=h.elim (fun e=>.inl (s _ _ e)) fun⟨x,e⟩=>.inr ⟨x,s _ _ e⟩
theorem TabR.same{H H':Hp}{t:Addr}{C:Cell->Bool}(h:TabR H t C)(s:Same H H'):TabR H' t C:=let ⟨kvs,e,q⟩:=h;⟨kvs,Same.rd s e,q⟩
theorem zgD(cs:List Cell)(c:Cell):(valV (tru (cs.map kC)) (kC c)).isSome=isIn cs c:=by
 show _=decide (c∈cs)
 by_cases m:c∈cs
 .rw[zjX (List.mem_map.mpr ⟨c,m,rfl⟩),decide_eq_true m];rfl
 .rw[zh4 (fun z=>by obtain⟨x,hx,e⟩:=List.mem_map.mp z;exact m ((zfF.mp e) ▸ hx)),decide_eq_false m];rfl
theorem TabR.of{H:Hp}{t:Addr}{cs:List Cell}(h:Rd H t (.dT (tru (cs.map kC)))):TabR H t (isIn cs):=⟨_,h,zgD cs⟩
def zgN(K:W.Frag):Sp:=fun vs H Q _=>∃(t a:Addr) (C:Cell->Bool) (e:Edge),vs=[.ref t,.ref a]/\TabR H t C/\SqT K H a (edgeT e)/\e.w<4/\∀p q H',Same H H'->H' p=some (.tup [sv (stepB C e),.ref q])->H' q=some (.tup (edgeT (nxt C e)))->Q (.ref p) H'
theorem zeQ (g__law_gone:Fn P w K mg base 1 "_law_gone" ["_law_x","_law_y","_law_step"] zdk) (d:Df K mg "_law_behind" za7 ["_law_there","_law_edge"]):FnOk P w K mg base CX0 2 d.f d.fd ["_law_there","_law_edge"] (zgN K):=by
 refine d.F.ok zbe (fun vs H Q E h=>?_) (fun cdv A outer s H vs Q E hr h=>?_)
 .obtain⟨t,a,C,e,rfl,_⟩:=h;rfl
 .obtain⟨t,a,C,e,rfl,tab,hq,hw,k⟩:=h;have hu1:=hu_of hr
  refine⟨_,(zab (zbM (pv 1) (zbr (by rfl) (zaf (zae (i:=2) zbe.nd (by rfl) (Or.inl rfl)) (zaf (zae (i:=3) zbe.nd (by rfl) (Or.inl rfl)) (zaf (zae (i:=4) zbe.nd (by rfl) (Or.inl rfl)) zaA)))))
   (zab (zas (i:=5) zbe.nd (by rfl) (Or.inl rfl) (zan g__law_gone.ok (hr.mono (by decide)) (by rfl) g__law_gone.m g__law_gone.kp g__law_gone.b .nil pass0 (pa_N (pv 2) (pa_N (pv 3) (pa_B (pe_op zbg (pe_op zaI (pe_op zb9 zag (pv 4)) zag) zag) zac)))))
   (zab (zas (i:=6) zbe.nd (by rfl) (Or.inl rfl) (zan g__law_gone.ok (hr.mono (by decide)) (by rfl) g__law_gone.m g__law_gone.kp g__law_gone.b .nil pass0 (pa_N (pv 2) (pa_N (pv 3) (pa_B (pe_op zb9 zag (pv 4)) zac)))))
   (zab (ps_if (zc1 (zix hu1 (pv 5) (pv 0)))
   (zah (zay (zax (pa_B (pe_op zbg (pe_op zaI (pe_op zb9 zag (pv 4)) zag) zag) (pa_B (pe_op ziA (pv 5) (zax (pa_B (pe_op zbg (pe_op zaI (pv 4) zag) zag) zac))) zac)))))
   za8)
   (zab (ps_if (zc1 (zix hu1 (pv 6) (pv 0)))
   (zah (zay (zax (pa_B (pe_op zb9 zag (pv 4)) (pa_B (pe_op ziA (pv 6) (zax (pa_N (pv 4) zac))) zac)))))
   za8)
   (zah (zay (zax (pa_C zcf (pa_T (zax (pa_N (pv 2) (pa_N (pv 3) (pa_B (pe_op zbg (pe_op zaI (pv 4) zag) zag) zac)))) zac)))))))))),?_⟩
  refine⟨_,rfl,a,_,rfl,hq,rfl,_,_,rfl,_,_,rfl,_,_,rfl,rfl,?_⟩;have m7:(2*(e.w:Int)+7) % 8=(((2*e.w+7) % 8:Nat):Int):=by lia
  have m2:2*(e.w:Int)=((2*e.w:Nat):Int):=by lia
  refine⟨_,rfl,_,rfl,_,rfl,_,_,rfl,rfl,.inl ⟨by decide,by decide⟩,_,_,rfl,rfl,_,_,rfl,rfl,(by show (0:Int)<8;decide),e.c,(2*e.w+7) % 8,(by rw[<- m7];rfl),Nat.mod_lt _ (by decide),fun p1 H1 hp1 s1 e1=>?_⟩;refine⟨_,rfl,_,rfl,_,rfl,_,_,rfl,rfl,.inl ⟨by decide,by decide⟩,e.c,2*e.w,(by rw[<- m2];rfl),by lia,fun p2 H2 hp2 s2 e2=>?_⟩;have s12:=s1.trans s2;obtain⟨kvs,et,hC⟩:=tab;have e12:=s2 _ _ e1;refine⟨_,rfl,_,rfl,t,_,rfl,.inr ⟨kvs,kC (go e.c ((2*e.w+7) % 8)),p1,(Same.rd s12 et),rfl,e12,rfl⟩,_,rfl,?_⟩;have hc1:=hC (go e.c ((2*e.w+7) % 8));change (valV kvs (kC (go e.c ((2*e.w+7) % 8)))).isSome=_ at hc1;rw[hc1]
  cases c1:C (go e.c ((2*e.w+7) % 8)) with
  |true =>
   refine iteT ?_
   have hs:stepB C e=some ((2*e.w+7) % 8):=by unfold stepB;rw[c1,if_pos rfl]
   refine⟨_,rfl,_,_,rfl,rfl,.inl ⟨by decide,by decide⟩,_,_,rfl,rfl,_,_,rfl,rfl,(by show (0:Int)<8;decide),?_⟩;refine⟨_,rfl,_,rfl,_,_,rfl,rfl,_,_,rfl,rfl,(by show (0:Int)<4;decide),(by show 1<=sizeLine;decide),fun t3 h3=>?_⟩;have s3:=Same.up (o:=.tup [.int (((e.w:Int)+3) % 4)]) h3;have f3:upd H2 t3 (.tup [.int (((e.w:Int)+3) % 4)]) t3=some (.tup [.int (((e.w:Int)+3) % 4)]):=zaa;generalize upd H2 t3 (.tup [.int (((e.w:Int)+3) % 4)])=H3 at s3 f3;refine⟨p1,t3,_,_,rfl,rfl,SqT.of (s3 _ _ e12),SqT.of f3,(by simp[cellT]),three,(fun z=>by cases z),fun _ q hq'=>?_⟩;have s4:=Same.up (o:=.tup (cellT (go e.c ((2*e.w+7) % 8))++[.int (((e.w:Int)+3) % 4)])) hq';have f4:upd H3 q (.tup (cellT (go e.c ((2*e.w+7) % 8))++[.int (((e.w:Int)+3) % 4)])) q=some (.tup (cellT (go e.c ((2*e.w+7) % 8))++[.int (((e.w:Int)+3) % 4)])):=zaa;generalize upd H3 q (.tup (cellT (go e.c ((2*e.w+7) % 8))++[.int (((e.w:Int)+3) % 4)]))=H4 at s4 f4;refine⟨two,fun p5 h5=>?_⟩;refine k p5 q _ (s12.trans (s3.trans (s4.trans (Same.up h5)))) ?_ ?_
   .rw[zaa,hs];show some (HO.tup [.int ((2*(e.w:Int)+7) % 8),.ref q])=some (HO.tup [.int (((2*e.w+7) % 8:Nat):Int),.ref q]);rw[m7]
   .rw[Same.up h5 _ _ f4];unfold nxt;rw[hs];show _=some (HO.tup (edgeT (if (2*e.w+7) % 8 % 2=1 then ⟨go e.c ((2*e.w+7) % 8),(e.w+3) % 4⟩ else ⟨go e.c ((2*e.w+7) % 8),e.w⟩)));rw[if_pos (by lia)];show some (HO.tup [.int _,.int _,.int (((e.w:Int)+3) % 4)])=some (HO.tup [.int _,.int _,.int (((e.w+3) % 4:Nat):Int)]);rw[show ((e.w:Int)+3) % 4=(((e.w+3) % 4:Nat):Int) by lia]
  |false =>
   refine iteF ?_
   refine⟨_,rfl,_,rfl,t,_,rfl,.inr ⟨kvs,kC (go e.c (2*e.w)),p2,(Same.rd s12 et),rfl,e2,rfl⟩,_,rfl,?_⟩;have hc2:=hC (go e.c (2*e.w));change (valV kvs (kC (go e.c (2*e.w)))).isSome=_ at hc2;rw[hc2]
   cases c2:C (go e.c (2*e.w)) with
   |true =>
    refine iteT ?_
    have hs:stepB C e=some (2*e.w):=by unfold stepB;rw[c1,if_neg (by simp),c2,if_pos rfl]
    refine⟨_,rfl,_,_,rfl,rfl,.inl ⟨by decide,by decide⟩,?_⟩;refine⟨_,rfl,_,rfl,(by show 1<=sizeLine;decide),fun t3 h3=>?_⟩;have s3:=Same.up (o:=.tup [.int (e.w:Int)]) h3;have f3:upd H2 t3 (.tup [.int (e.w:Int)]) t3=some (.tup [.int (e.w:Int)]):=zaa;generalize upd H2 t3 (.tup [.int (e.w:Int)])=H3 at s3 f3;refine⟨p2,t3,_,_,rfl,rfl,SqT.of (s3 _ _ e2),SqT.of f3,(by simp[cellT]),three,(fun z=>by cases z),fun _ q hq'=>?_⟩;have s4:=Same.up (o:=.tup (cellT (go e.c (2*e.w))++[.int (e.w:Int)])) hq';have f4:upd H3 q (.tup (cellT (go e.c (2*e.w))++[.int (e.w:Int)])) q=some (.tup (cellT (go e.c (2*e.w))++[.int (e.w:Int)])):=zaa;generalize upd H3 q (.tup (cellT (go e.c (2*e.w))++[.int (e.w:Int)]))=H4 at s4 f4;refine⟨two,fun p5 h5=>?_⟩;refine k p5 q _ (s12.trans (s3.trans (s4.trans (Same.up h5)))) ?_ ?_
    .rw[zaa,hs];show some (HO.tup [.int (2*(e.w:Int)),.ref q])=some (HO.tup [.int ((2*e.w:Nat):Int),.ref q]);rw[m2]
    .rw[Same.up h5 _ _ f4];unfold nxt;rw[hs];show _=some (HO.tup (edgeT (if 2*e.w % 2=1 then ⟨go e.c (2*e.w),(e.w+3) % 4⟩ else ⟨go e.c (2*e.w),e.w⟩)));rw[if_neg (by lia)];rfl
   |false =>
    refine iteF ?_
    have hs:stepB C e=none:=by unfold stepB;rw[c1,if_neg (by simp),c2,if_neg (by simp)]
    refine⟨_,rfl,_,rfl,_,rfl,_,_,rfl,rfl,_,_,rfl,rfl,(by show (0:Int)<4;decide),three,fun q hq'=>?_⟩;have s4:=Same.up (o:=.tup [.int e.c.1,.int e.c.2,.int (((e.w:Int)+1) % 4)]) hq';have f4:upd H2 q (.tup [.int e.c.1,.int e.c.2,.int (((e.w:Int)+1) % 4)]) q=some (.tup [.int e.c.1,.int e.c.2,.int (((e.w:Int)+1) % 4)]):=zaa;generalize upd H2 q (.tup [.int e.c.1,.int e.c.2,.int (((e.w:Int)+1) % 4)])=H4 at s4 f4;refine⟨two,fun p5 h5=>?_⟩;refine k p5 q _ (s12.trans (s4.trans (Same.up h5))) ?_ ?_
    .rw[zaa,hs];rfl
    .rw[Same.up h5 _ _ f4];unfold nxt;rw[hs];show some (HO.tup [.int _,.int _,.int (((e.w:Int)+1) % 4)])=some (HO.tup [.int _,.int _,.int (((e.w+1) % 4:Nat):Int)]);rw[show ((e.w:Int)+1) % 4=(((e.w+1) % 4:Nat):Int) by lia];rfl
end
open PySem L2 RP
def dC(L:List Cell):List (List Key×V):=L.map fun c=>(kC c,V.bl true)
theorem zfO(L:List Cell):(dC L).length=L.length:=by unfold dC;rw[List.length_map]
theorem zcL(c:Cell):∀L:List Cell,(valV (dC L) (kC c)).isSome=isIn L c
 |[]=>by simp[dC,valV,isIn]
 |d::L=>by
  have ih:=zcL c L;unfold isIn at *
  by_cases e:d=c
  .subst e;simp[dC,valV]
  .have e2:¬ kC d=kC c:=fun z=>e (zfF.mp z)
   have e3:¬ c=d:=fun z=>e z.symm
   have e4:valV (dC (d::L)) (kC c)=valV (dC L) (kC c):=by simp[dC,valV,List.find?_cons,e2]
   rw[e4,ih];simp[e3]
theorem zgS{L:List Cell}{c:Cell}(h:c ∉ L):putK (dC L) (kC c) (.bl true)=dC (L++[c]):=by
 rw[L2.putK_new]
 .unfold dC;rw[List.map_append];rfl
 .have:=zcL c L;unfold isIn at this;rw[decide_eq_false h]at this
  cases z:valV (dC L) (kC c) with
  |none=>rfl
  |some v=>rw[z]at this;cases this
theorem zlE{K:W.Frag}{H:Hp}{a:Addr}{vs:List V}{cs:List Cell}(e:SqL K H a vs)(h:VR vs cs cR H){q:Addr}{Q:VK}(f:H q=some (.lst []))(k:Q (.bl (!decide (cs=[]))) H):rNeD K (.ref a) (.ref q) H Q:=by
 refine⟨lT (cs.map cI),lT [],zc0 e h,.lst (SqL.of f) .nil,zcd _,zcd _,?_⟩
 cases cs with
 |nil=>exact k
 |cons c l=>exact k
theorem zlQ(L:List Cell):dC L=tru (L.map kC):=by unfold dC tru;rw[List.map_map];rfl
structure Fld (D:Cell->Bool) (S:List Nat) (a:Cell) (F L:List Cell):Prop where
 nd:F.Nodup
 st:a∈F
 rch:∀c∈F,Rch D S a c
 sub:∀c∈L,c∈F
 cls:∀c∈F,c∈L∨∀s∈S,D (go c s)=true->go c s∈F
 le:L.length<=F.length
theorem Fld.init(D:Cell->Bool)(S:List Nat)(a:Cell):Fld D S a [a] [a]:=⟨by simp,by simp,fun c hc=>by rw[List.mem_singleton.mp hc];exact .refl,fun c h=>h,fun c h=>.inl h,Nat.le_refl _⟩
theorem Fld.done{D:Cell->Bool}{S:List Nat}{a:Cell}{F:List Cell}(h:Fld D S a F [])(c:Cell):c∈F ↔ Rch D S a c:=by
 refine⟨h.rch c,fun r=>?_⟩
 induction r with
 |refl=>exact h.st
 |step k hs hd ih =>
  rcases h.cls _ ih with z |z
  .cases z
  .exact z _ hs hd
structure FS (D:Cell->Bool) (S:List Nat) (a c:Cell) (F L:List Cell) (i:Nat):Prop where
 nd:F.Nodup
 st:a∈F
 rch:∀y∈F,Rch D S a y
 sub:∀y∈L,y∈F
 cf:c∈F
 cls:∀y∈F,y∈L∨y=c∨∀s∈S,D (go y s)=true->go y s∈F
 dn:∀(j:Nat) s,j<i->S[j]?=some s->D (go c s)=true->go c s∈F
 le:L.length<=F.length
section
variable {D:Cell->Bool}{S:List Nat}{a c:Cell}{F L B:List Cell}{i s:Nat}
theorem Fld.pop(h:Fld D S a F (L++[c])):FS D S a c F L 0:=by
 refine⟨h.nd,h.st,h.rch,fun y hy=>h.sub y (List.mem_append_left _ hy),h.sub c (by simp),fun y hy=>?_,fun j s hj=>absurd hj (Nat.not_lt_zero _),by have:=h.le;rw[List.length_append,List.length_singleton]at this;lia⟩;rcases h.cls y hy with z |z
 .rcases List.mem_append.mp z with z |z
  .exact .inl z
  .exact .inr (.inl (List.mem_singleton.mp z))
 .exact .inr (.inr z)
theorem FS.skip(h:FS D S a c F L i)(hs:S[i]?=some s)(t:D (go c s)=true->go c s∈F):FS D S a c F L (i+1):=by
 refine⟨h.nd,h.st,h.rch,h.sub,h.cf,h.cls,fun j u hj hu hd=>?_,h.le⟩;rcases Nat.lt_or_ge j i with z |z
 .exact h.dn j u z hu hd
 .have e:j=i:=by lia
  subst e;rw[hs]at hu
  cases hu
  exact t hd
theorem FS.more(h:FS D S a c F L i)(hs:S[i]?=some s)(hd:D (go c s)=true)(hn:go c s ∉ F):FS D S a c (F++[go c s]) (L++[go c s]) (i+1):=by
 have sF:∀y,y∈F->y∈F++[go c s]:=fun y hy=>List.mem_append_left _ hy
 refine⟨zgp h.nd hn,sF _ h.st,fun y hy=>?_,fun y hy=>?_,sF _ h.cf,fun y hy=>?_,fun j u hj hu hd'=>?_,by simpa using h.le⟩
 .rcases List.mem_append.mp hy with z |z
  .exact h.rch y z
  .rw[List.mem_singleton.mp z];exact .step (h.rch c h.cf) (List.mem_of_getElem? hs) hd
 .rcases List.mem_append.mp hy with z |z
  .exact sF _ (h.sub y z)
  .exact List.mem_append_right _ z
 .rcases List.mem_append.mp hy with z |z
  .rcases h.cls y z with q |q |q
   .exact .inl (List.mem_append_left _ q)
   .exact .inr (.inl q)
   .exact .inr (.inr fun u hu hd'=>sF _ (q u hu hd'))
  .exact .inl (List.mem_append_right _ z)
 .rcases Nat.lt_or_ge j i with z |z
  .exact sF _ (h.dn j u z hu hd')
  .have e:j=i:=by lia
   subst e;rw[hs]at hu
   cases hu
   exact List.mem_append_right _ (by simp)
theorem FS.done(h:FS D S a c F L S.length):Fld D S a F L:=by
 refine⟨h.nd,h.st,h.rch,h.sub,fun y hy=>?_,h.le⟩;rcases h.cls y hy with q |q |q
 .exact .inl q
 .subst q;refine .inr fun u hu hd=>?_
  obtain⟨j,hj,ej⟩:=List.getElem_of_mem hu;exact h.dn j u hj (by rw[List.getElem?_eq_getElem hj,ej]) hd
 .exact .inr q
theorem FS.few(h:FS D S a c F L i)(hB:∀c,Rch D S a c->c∈B):F.length<=B.length:=zap h.nd fun y hy=>hB y (h.rch y hy)
end
open PySem L2 RP
theorem zlr{Ls:List Cell}{S:List Nat}{a c:Cell}(h:Rch (isIn Ls) S a c):c∈a::Ls:=by
 cases h with
 |refl=>exact List.mem_cons_self
 |step _ _ hd=>exact List.mem_cons_of_mem _ (of_decide_eq_true hd)
def FI(H0:Hp)(f l:Addr)(H:Hp)(F L:List Cell):Prop:=Same H0 H/\H f=some (.dT (dC F))/\∃zs,H l=some (.lst zs)/\VR zs L cR H
theorem VR.pop{H:Hp}{zs:List V}{L:List Cell}{c:Cell}(h:VR zs (L++[c]) cR H):zs.length=L.length+1/\(∃x,zs[L.length]?=some (.ref x)/\H x=some (.tup (cellT c)))/\VR zs.dropLast L cR H:=by
 have zl:zs.length=L.length+1:=by rw[h.1];simp
 obtain⟨z,hz⟩:∃z,zs[L.length]?=some z:=⟨_,List.getElem?_eq_getElem (by lia)⟩;obtain⟨c',hc',x,hx,ex⟩:=h.at hz;have e:c'=c:=by rw[List.getElem?_append_right (Nat.le_refl _)]at hc';simpa using hc'.symm
 subst e;subst hx;refine⟨zl,⟨x,hz,ex⟩,by rw[List.length_dropLast,zl];lia,fun i y v h1 h2=>?_⟩;have hi:=(List.getElem?_eq_some_iff.mp h1).1;rw[List.getElem?_dropLast]at h2;split at h2
 .exact h.2 i y v (by rw[List.getElem?_append_left hi];exact h1) h2
 .cases h2
theorem bigF{n:Nat}(h:n<=60001):n<sizeLine:=Nat.lt_of_le_of_lt h (by decide)
section
variable {P:Program}{w:World}{K:W.Frag}{mg:Str->Option Value}{base:Heap}
def zia(K:W.Frag):Sp:=fun vs H Q _=>∃(t b q:Addr) (a:Cell) (Ls:List Cell) (S:List Nat),vs=[.ref t,.ref b,.ref q]/\Rd H t (.dT (dC Ls))/\H b=some (.tup (cellT a))/\H q=some (.lst (S.map fun s:Nat=>V.int (s:Int)))/\(∀s∈S,s<8)/\Ls.length<=60000 /\
 ∀f H' F,H f=none->Same H H'->H' f=some (.dT (dC F))->F.Nodup->(∀c,c∈F ↔ Rch (isIn Ls) S a c)->Q (.ref f) H'
theorem zfu (g__law_gone:Fn P w K mg base 1 "_law_gone" ["_law_x","_law_y","_law_step"] zdk) (d:Df K mg "_law_flood" zbn ["_law_there","_law_first","_law_steps"]):FnOk P w K mg base CX0 2 d.f d.fd ["_law_there","_law_first","_law_steps"] (zia K):=by
 refine d.F.ok za1 (fun vs H Q E h=>?_) (fun cdv A outer s H vs Q E hr h=>?_)
 .obtain⟨t,b,q,a,Ls,S,rfl,_⟩:=h;rfl
 .obtain⟨t,b,q,a,Ls,S,rfl,ht,hb,hq,hS,hlen,k⟩:=h;have hu1:=hu_of hr;have hu64:=hr.units
  refine⟨_,(zab (zas (i:=3) za1.nd (by rfl) (Or.inl rfl) (zjC hu1 (pv 1) pe_bl))
   (zab (zas (i:=4) za1.nd (by rfl) (Or.inl rfl) (zbs (pa_N (pv 1) zac)))
   (zab (zgU PassesOwn.never (zaL (zft hu64) (pv 4) (zbs zac) (zaO _))
   (zab (zbM (zkb PySem.F.plainAttrs_list PySem.F.slot_list_pop PySem.F.type_list_pop zlF (pv 4)) (zbr (by rfl) (zaf (zae (i:=5) za1.nd (by rfl) (Or.inl rfl)) (zaf (zae (i:=6) za1.nd (by rfl) (Or.inl rfl)) zaA))))
   (zah (zbI PassesOwn.never rfl (za9 (pv 2)) (zae (i:=7) za1.nd (by rfl) (Or.inl rfl))
   (zab (zas (i:=8) za1.nd (by rfl) (Or.inl rfl) (zan g__law_gone.ok (hr.mono (by decide)) (by rfl) g__law_gone.m g__law_gone.kp g__law_gone.b .nil pass0 (pa_N (pv 5) (pa_N (pv 6) (pa_N (pv 7) zac)))))
   (zah (ps_if (zj8 (zc1 (zix hu1 (pv 8) (pv 0))) (ziq (zc1 (zcg hu1 (pv 8) (pv 3))))).pt
   (zab (zdJ hu1 (pv 3) (pv 8) pe_bl rfl)
   (zah (zbo (pe_bm PySem.F.plainAttrs_list PySem.F.slot_list_append PySem.F.type_list_append zaZ (pv 4) (pa_N (pv 8) zac)))))
   za8)))))))
   (zah (zay (pv 3)))))),?_⟩
  have hσ:L2.start zdo [V.ref t,V.ref b,V.ref q]=[some (.ref t),some (.ref b),some (.ref q),none,none,none,none,none,none]:=rfl;rw[hσ];refine fun f hf=>?_
  have hfb:f≠b:=fun z=>by subst z;rw[hb]at hf;cases hf
  have b1:upd H f (.dT []) b=some (.tup (cellT a)):=by rw[zai (Ne.symm hfb)];exact hb
  refine⟨_,rfl,_,.inr ⟨[],kC a,b,zaa,rfl,b1,(by show 0<sizeLine;decide),rfl⟩,?_⟩;have e0:putK ([]:List (List Key×V)) (kC a) (.bl true)=dC [a]:=zgS (L:=[]) (by simp);rw[e0,zks];have s1:Same H (upd H f (.dT (dC [a]))):=Same.up hf;have f1:upd H f (.dT (dC [a])) f=some (.dT (dC [a])):=zaa;simp only[zcE,List.set_cons_succ,List.set_cons_zero];generalize upd H f (.dT (dC [a]))=H1 at s1 f1;refine⟨_,rfl,(by show 1<=sizeLine;decide),fun l hl=>?_⟩;have hl0:H l=none:=s1.free hl;have hlf:l≠f:=fun z=>by subst z;rw[f1]at hl;cases hl
  have s2:Same H (upd H1 l (.lst [.ref b])):=s1.trans (Same.up hl);have f2:=Same.up (o:=.lst [.ref b]) hl _ _ f1;have l2:upd H1 l (.lst [.ref b]) l=some (.lst [.ref b]):=zaa;simp only[zcE,List.set_cons_succ,List.set_cons_zero];generalize upd H1 l (.lst [.ref b])=H2 at s2 f2 l2;have hB:∀c,Rch (isIn Ls) S a c->c∈a::Ls:=fun c h=>zlr h
  refine⟨fun m σ H3=>∃F L o5 o6 o7 o8,m=2*((a::Ls).length-F.length)+L.length/\σ=[some (.ref t),some (.ref b),some (.ref q),some (.ref f),some (.ref l),o5,o6,o7,o8]/\FI H f l H3 F L/\Fld (isIn Ls) S a F L,
   ⟨_,[a],[a],_,_,_,_,rfl,rfl,⟨s2,f2,_,l2,VR.cons.mpr ⟨⟨b,rfl,s2 _ _ hb⟩,VR.nil⟩⟩,Fld.init _ _ _⟩,?_⟩
  rintro m σ H3 ⟨F,L,o5,o6,o7,o8,rfl,rfl,⟨s3,f3,zs,l3,v3⟩,fld⟩;refine⟨_,rfl,Nat.zero_le _,fun e he=>?_⟩;have s4:=s3.trans (Same.up (o:=.lst []) he);have f4:=Same.up (o:=.lst []) he _ _ f3;have l4:=Same.up (o:=.lst []) he _ _ l3;have v4:=v3.mono fun x v h=>h.kt (KT.up (o:=.lst []) he)
  have e4:upd H3 e (.lst []) e=some (.lst []):=zaa;generalize upd H3 e (.lst [])=H4 at s4 f4 l4 v4 e4;refine zlE (SqL.of l4) v4 e4 ⟨_,rfl,?_⟩
  by_cases hL:L=[]
  .subst hL;refine iteN (by simp) ?_
   exact⟨_,rfl,k f H4 F hf s4 f4 fld.nd fld.done⟩
  .refine iteY (by simp[hL]) ?_
   obtain⟨L',c,rfl⟩:∃L' c,L=L'++[c]:=⟨L.dropLast,L.getLast hL,(List.dropLast_concat_getLast hL).symm⟩;obtain⟨zl,⟨x,hz,ex⟩,v5⟩:=v4.pop
   refine⟨fun σ' H'=>∃F2 L2 o5 o6 o7 o8,2*((a::Ls).length-F2.length)+L2.length<2*((a::Ls).length-F.length)+(L'++[c]).length/\σ'=[some (.ref t),some (.ref b),some (.ref q),some (.ref f),some (.ref l),o5,o6,o7,o8]/\FI H f l H' F2 L2/\Fld (isIn Ls) S a F2 L2,
    fun σ' H' ⟨F2,L2,o5,o6,o7,o8,h1,h2,h3,h4⟩=>⟨_,h1,F2,L2,o5,o6,o7,o8,rfl,h2,h3,h4⟩,?_⟩
   refine⟨_,rfl,.inl ⟨rfl,_,SqL.of l4⟩,l,zs,_,rfl,rfl,l4,(by rw[zl];exact hz),?_⟩;have kl:KT H4 (upd H4 l (.lst zs.dropLast)):=KT.lst l4;have s5:Same H (upd H4 l (.lst zs.dropLast)):=zau hl0 s4;have f5:upd H4 l (.lst zs.dropLast) f=some (.dT (dC F)):=by rw[zai (Ne.symm hlf)];exact f4
   have l5:upd H4 l (.lst zs.dropLast) l=some (.lst zs.dropLast):=zaa;have v5:=v5.mono fun x v h=>h.kt kl
   have ex5:=kl _ _ ex;generalize upd H4 l (.lst zs.dropLast)=H5 at s5 f5 l5 v5 ex5;refine⟨x,_,rfl,SqT.of ex5,rfl,_,_,rfl,_,_,rfl,rfl,?_⟩;refine⟨_,rfl,q,rfl,⟨_,SqL.of (s5 _ _ hq)⟩,?_⟩
   refine zaD (K:=K) (a:=q) (xs:=S.map fun s:Nat=>V.int (s:Int)) (fun i σ H6=>∃F2 L2 o7 o8,σ=[some (.ref t),some (.ref b),some (.ref q),some (.ref f),some (.ref l),some (.int c.1),some (.int c.2),o7,o8]/\FI H f l H6 F2 L2/\FS (isIn Ls) S a c F2 L2 i/\2*((a::Ls).length-F2.length)+L2.length<=2*((a::Ls).length-F.length)+L'.length)
    ⟨F,L',_,_,rfl,⟨s5,f5,_,l5,v5⟩,fld.pop,Nat.le_refl _⟩ (fun i σ H6 _ ⟨_,_,_,_,_,⟨s6,_⟩,_⟩=>SqL.of (s6 _ _ hq)) ?_ ?_
   .rintro i v σ H6 hi ⟨F2,L2,o7,o8,rfl,⟨s6,f6,ys,l6,v6⟩,fs,hm⟩;rw[List.getElem?_map]at hi;obtain⟨sn,hsn,rfl⟩:=Option.map_eq_some_iff.mp hi;have hs8:sn<8:=hS sn (List.mem_of_getElem? hsn);refine⟨_,rfl,_,rfl,_,rfl,c,sn,rfl,hs8,fun p1 H7 hp1 s67 g7=>?_⟩;have s7:=s6.trans s67;have f7:=s67 _ _ f6;have l7:=s67 _ _ l6;have v7:=v6.mono fun x v h=>h.kt (KT.of s67)
    refine⟨_,rfl,_,rfl,t,_,rfl,.inr ⟨_,kC (go c sn),p1,Same.rd s7 ht,rfl,g7,rfl⟩,_,rfl,?_⟩;rw[zcL]
    by_cases hD:isIn Ls (go c sn)=true
    .refine iteY hD ?_
     refine⟨_,rfl,_,rfl,f,_,rfl,.inr ⟨_,kC (go c sn),p1,Rd.of f7,rfl,g7,rfl⟩,_,rfl,?_⟩;rw[zcL]
     by_cases hF:go c sn∈F2
     .refine iteN (by rw[show isIn F2 (go c sn)=true from decide_eq_true hF];rfl) ?_
      exact⟨F2,L2,_,_,rfl,⟨s7,f7,_,l7,v7⟩,fs.skip hsn fun _=>hF,hm⟩
     .refine iteY (by rw[show isIn F2 (go c sn)=false from decide_eq_false hF];rfl) ?_
      have fm:=fs.more hsn hD hF;have few:=fm.few hB;rw[List.length_append,List.length_singleton,List.length_cons]at few;have hF2:F2.length<=60000:=by lia
      refine⟨_,rfl,_,rfl,f,_,rfl,.inr ⟨dC F2,kC (go c sn),p1,f7,rfl,g7,(by rw[zfO];exact bigF (by lia)),rfl⟩,?_⟩;rw[zgS hF];have s8:Same H (upd H7 f (.dT (dC (F2++[go c sn])))):=zau hf s7;have k8:KT H7 (upd H7 f (.dT (dC (F2++[go c sn])))):=KT.dct f7;have l8:upd H7 f (.dT (dC (F2++[go c sn]))) l=some (.lst ys):=by rw[zai hlf];exact l7
      have f8:upd H7 f (.dT (dC (F2++[go c sn]))) f=some (.dT (dC (F2++[go c sn]))):=zaa;have v8:=v7.mono fun x v h=>h.kt k8
      have g8:=k8 _ _ g7;generalize upd H7 f (.dT (dC (F2++[go c sn])))=H8 at s8 k8 l8 f8 v8 g8;have hyl:ys.length<=60000:=by rw[v8.1];have:=fs.le;lia
      refine⟨_,rfl,.inl ⟨rfl,_,SqL.of l8⟩,_,rfl,l,ys,_,rfl,rfl,l8,bigF (by lia),?_⟩;have k9:KT H8 (upd H8 l (.lst (ys++[.ref p1]))):=KT.lst l8;refine⟨F2++[go c sn],L2++[go c sn],_,_,rfl,⟨zau hl0 s8,by rw[zai (Ne.symm hlf)];exact f8,_,zaa,v8.snoc (fun x v h=>h.kt k9) ⟨p1,rfl,k9 _ _ g8⟩⟩,fm,?_⟩;rw[List.length_append,List.length_append,List.length_singleton,List.length_cons];rw[List.length_cons]at hm;lia
    .refine iteN (by simpa using hD) ?_
     exact⟨F2,L2,_,_,rfl,⟨s7,f7,_,l7,v7⟩,fs.skip hsn fun z=>absurd z hD,hm⟩
   .rintro σ H6 ⟨F2,L2,o7,o8,rfl,fi,fs,hm⟩;rw[List.length_map]at fs;exact⟨F2,L2,_,_,_,_,by rw[List.length_append,List.length_singleton];lia,rfl,fi,fs.done⟩
end
open PySem L2 RP
abbrev cAt(F:List Cell)(i:Nat):Cell:=F.getD i (0,0)
def keyC(F:List Cell)(i:Nat):List Int:=[(cAt F i).2,(cAt F i).1]
def keyCV(F:List Cell)(i:Nat):List V:=[.int (cAt F i).2,.int (cAt F i).1]
theorem zkZ{F:List Cell}{i:Nat}{c:Cell}(h:F[i]?=some c):cAt F i=c:=by unfold cAt;rw[List.getD_eq_getElem?_getD,h];rfl
theorem sortC{F:List Cell}{pp:List Nat}(hpm:pp.Perm (List.range F.length)):(pp.map (cAt F)).Perm F:=by
 have h1:=hpm.map (cAt F)
 have h2:(List.range F.length).map (cAt F)=F:=by
  apply List.ext_getElem
  .simp
  .intro i a b;simp[cAt,show i<F.length by simpa using a]
 rw[h2]at h1;exact h1
theorem zkv{F:List Cell}(hs:F.Pairwise fun a b=>HT.lexLt [b.2,b.1] [a.2,a.1]=false)(hn:F.Nodup):F.Pairwise Bfr:=by
 refine (List.Pairwise.and hs hn).imp fun {a b} h=>?_
 show HT.lexLt [a.2,a.1] [b.2,b.1]=true
 cases q:HT.lexLt [a.2,a.1] [b.2,b.1] with
 |true=>rfl
 |false =>
  have e:=HT.lexLt_total q h.1;injection e with e1 e2;injection e2 with e2 _;exact absurd (Prod.ext e2 e1) h.2
theorem sortP{F:List Cell}{pp:List Nat}(hpm:pp.Perm (List.range F.length))(hpo:pp.Pairwise fun i j=>HT.lexLt (keyC F j) (keyC F i)=false)(hn:F.Nodup):(pp.map (cAt F)).Pairwise Bfr:=by
 refine zkv ?_ ((sortC hpm).nodup_iff.mpr hn)
 rw[List.pairwise_map];exact hpo
theorem sortV{F:List Cell}{xs:List V}{pp:List Nat}{H:Hp}(hpm:pp.Perm (List.range F.length))(h:VR xs F cR H):VR (pp.map fun i=>xs.getD i V.non) (pp.map (cAt F)) cR H:=by
 refine⟨by simp,fun i c v h1 h2=>?_⟩;rw[List.getElem?_map]at h1 h2;obtain⟨a,ha,rfl⟩:=Option.map_eq_some_iff.mp h1;rw[ha]at h2
 cases h2
 have hal:a<F.length:=List.mem_range.mp (hpm.mem_iff.mp (List.mem_of_getElem? ha));have hal2:a<xs.length:=by rw[h.1];exact hal
 have e1:cAt F a=F[a]:=by simp[cAt,hal]
 have e2:xs.getD a V.non=xs[a]:=by simp[hal2]
 rw[e1];show cR F[a] (xs.getD a V.non) H;rw[e2];exact h.2 a _ _ (List.getElem?_eq_getElem hal) (List.getElem?_eq_getElem hal2)
theorem zeH{F:List Cell}(h:F.Pairwise Bfr):F.Nodup:=h.imp fun {a b} q e=>by subst e;have q:HT.lexLt [a.2,a.1] [a.2,a.1]=true:=q;rw[HT.lexLt_irrefl]at q;cases q
theorem zio:∀{F G:List Cell},F.Pairwise Bfr->G.Pairwise Bfr->(∀c,c∈F ↔ c∈G)->F=G
 |[],[],_,_,_=>rfl
 |[],g::G,_,_,h=>absurd ((h g).mpr List.mem_cons_self) (by simp)
 |f::F,[],_,_,h=>absurd ((h f).mp List.mem_cons_self) (by simp)
 |f::F,g::G,hF,hG,h=>by
  have hF':=List.pairwise_cons.mp hF;have hG':=List.pairwise_cons.mp hG
  have e:f=g:=by
   rcases List.mem_cons.mp ((h f).mp List.mem_cons_self) with z |z
   .exact z
   .rcases List.mem_cons.mp ((h g).mpr List.mem_cons_self) with y |y
    .exact y.symm
    .have a:=hG'.1 f z;have b:=hF'.1 g y;have:=HT.lexLt_asym a;rw[b]at this;cases this
  subst e;have nf:=(List.nodup_cons.mp (zeH hF)).1;have ng:=(List.nodup_cons.mp (zeH hG)).1;rw[zio hF'.2 hG'.2 fun c=>⟨fun m=>?_,fun m=>?_⟩]
  .exact (List.mem_cons.mp ((h c).mp (List.mem_cons_of_mem _ m))).resolve_left fun z=>nf (z ▸ m)
  .exact (List.mem_cons.mp ((h c).mpr (List.mem_cons_of_mem _ m))).resolve_left fun z=>ng (z ▸ m)
theorem KeyL.cells{H:Hp}{ts:List V}{L:List Cell}(h:KeyL H ts (dC L)):VR ts L cR H:=by refine⟨by rw[h.1,zfO],fun i c v h1 h2=>?_⟩;exact h.2 i v (kC c) (.bl true) h2 (by unfold dC;rw[List.getElem?_map,h1];rfl)
section
variable {P:Program}{w:World}{K:W.Frag}{mg:Str->Option Value}{base:Heap}
end
open PySem L2 RP
section
variable {P:Program}{w:World}{K:W.Frag}{mg:Str->Option Value}{base:Heap}
def zgI(K:W.Frag):Sp:=fun vs H Q _=>∃(t a:Addr) (cs:List Cell) (b:Edge),vs=[.ref t,.ref a]/\TabR H t (isIn cs)/\H a=some (.tup (edgeT b))/\IsE (isIn cs) b/\cs.length<=120 /\
 ∀p pe pq H' us es,Same H H'->H' p=some (.tup [.ref pe,.ref pq])->H' pe=some (.lst us)->VR us es eR H'->H' pq=some (.lst ((es.map (stepB (isIn cs))).map sv))->Closed (isIn cs) b es->Q (.ref p) H'
theorem zeO (g__law_behind:Fn P w K mg base 2 "_law_behind" ["_law_there","_law_edge"] (zgN K)) (d:Df K mg "_law_walked" za5 ["_law_there","_law_first"]):FnOk P w K mg base CX0 3 d.f d.fd ["_law_there","_law_first"] (zgI K):=by
 refine d.F.ok zaQ (fun vs H Q E h=>?_) (fun cdv A outer s H vs Q E hr h=>?_)
 .obtain⟨t,a,cs,b,rfl,_⟩:=h;rfl
 .obtain⟨t,a,cs,b,rfl,tab,ha,hb,hlen,k⟩:=h;have hu64:=hr.units
  refine⟨_,(zab (zas (i:=2) zaQ.nd (by rfl) (Or.inl rfl) (zbs (pa_N (pv 1) zac)))
   (zab (zas (i:=3) zaQ.nd (by rfl) (Or.inl rfl) (zbs zac))
   (zab (zbM (zan g__law_behind.ok (hr.mono (by decide)) (by rfl) g__law_behind.m g__law_behind.kp g__law_behind.b .nil pass0 (pa_N (pv 0) (pa_N (pv 1) zac))) (zbr (by rfl) (zaf (zae (i:=4) zaQ.nd (by rfl) (Or.inl rfl)) (zaf (zae (i:=5) zaQ.nd (by rfl) (Or.inl rfl)) zaA))))
   (zab (zgU PassesOwn.never (zaL (zft hu64) (pv 5) (pv 1) (zaO _))
   (zab (zbo (pe_bm PySem.F.plainAttrs_list PySem.F.slot_list_append PySem.F.type_list_append zaZ (pv 2) (pa_N (pv 5) zac)))
   (zab (zbo (pe_bm PySem.F.plainAttrs_list PySem.F.slot_list_append PySem.F.type_list_append zaZ (pv 3) (pa_N (pv 4) zac)))
   (zah (zbM (zan g__law_behind.ok (hr.mono (by decide)) (by rfl) g__law_behind.m g__law_behind.kp g__law_behind.b .nil pass0 (pa_N (pv 0) (pa_N (pv 5) zac))) (zbr (by rfl) (zaf (zae (i:=4) zaQ.nd (by rfl) (Or.inl rfl)) (zaf (zae (i:=5) zaQ.nd (by rfl) (Or.inl rfl)) zaA))))))))
   (zah (zay (zax (pa_N (pv 2) (pa_B (pe_op zg1 (pv 3) (zbs (pa_N (pv 4) zac))) zac))))))))),?_⟩
  refine⟨_,rfl,(by show 1<=sizeLine;decide),fun pe hpe=>?_⟩;have s1:=Same.up (o:=.lst [.ref a]) hpe;have e1:upd H pe (.lst [.ref a]) pe=some (.lst [.ref a]):=zaa;generalize upd H pe (.lst [.ref a])=H1 at s1 e1;refine⟨(by show 0<=sizeLine;decide),fun ps hps=>?_⟩;have s2:=Same.up (o:=.lst []) hps;have e2:upd H1 ps (.lst []) ps=some (.lst []):=zaa;generalize upd H1 ps (.lst [])=H2 at s2 e2;have s02:=s1.trans s2;have hps0:H ps=none:=s1.free hps;have hne:pe≠ps:=zam e1 hps;refine⟨_,rfl,_,rfl,t,a,isIn cs,b,rfl,tab.same s02,SqT.of (s02 _ _ ha),hb.1,fun p3 q3 H3 s3 f3 g3=>?_⟩;refine⟨p3,_,rfl,SqT.of f3,rfl,_,_,rfl,_,_,rfl,rfl,?_⟩;have s03:=s02.trans s3
  refine zjp (fun σ H4=>∃us es l re,σ=[some (.ref t),some (.ref a),some (.ref pe),some (.ref ps),some (sv (stepB (isIn cs) l)),some (.ref re)]/\Same H H4/\H4 pe=some (.lst us)/\VR us (es++[l]) eR H4/\H4 ps=some (.lst ((es.map (stepB (isIn cs))).map sv))/\Chain (isIn cs) b (es++[l])/\H4 re=some (.tup (edgeT (nxt (isIn cs) l))))
   (fun _ H4=>4*cs.length+1-ziJ (H4 pe)) ?_ ?_ ?_
  .refine⟨[.ref a],[],b,q3,rfl,s03,(s2.trans s3) _ _ e1,⟨rfl,fun i x v h1 h2=>?_⟩,s3 _ _ e2,Chain.start hb,g3⟩
   match i,h1,h2 with
   | 0,h1,h2 =>
    cases h1;cases h2
    exact⟨a,rfl,s03 _ _ ha⟩
   |i+1,h1,h2=>simp at h2
  .rintro σ H4 ⟨us,es,l,re,rfl,s4,e4,hv,q4,hch,er⟩;have hw4:(nxt (isIn cs) l).w<4:=(zdm (hch.2.2.1 l (by simp))).1;have hl4:us.length=(es++[l]).length:=hv.1;have hsh0:=hch.short;refine⟨_,rfl,_,rfl,_,_,zc9 er,zc9 (s4 _ _ ha),zb1 _,zb1 _,_,rfl,?_⟩;rw[zhh]
   by_cases hnb:nxt (isIn cs) l=b
   .rw[decide_eq_true (zi3.mpr hnb)];refine iteF ?_
    refine⟨_,rfl,_,rfl,_,rfl,(by show 1<=sizeLine;decide),fun l5 h5=>?_⟩;have s5:=Same.up (o:=.lst [sv (stepB (isIn cs) l)]) h5;have e5:upd H4 l5 (.lst [sv (stepB (isIn cs) l)]) l5=some (.lst [sv (stepB (isIn cs) l)]):=zaa;generalize upd H4 l5 (.lst [sv (stepB (isIn cs) l)])=H5 at s5 e5;rw[List.length_append,List.length_singleton]at hsh0;refine⟨ps,l5,_,_,rfl,rfl,s5 _ _ q4,e5,Nat.le_of_lt (zao (by simp;lia)),fun l6 h6=>?_⟩;have em:(es.map (stepB (isIn cs))).map sv++[sv (stepB (isIn cs) l)]=((es++[l]).map (stepB (isIn cs))).map sv:=by rw[List.map_append,List.map_append];rfl
    rw[em];have s6:=Same.up (o:=.lst (((es++[l]).map (stepB (isIn cs))).map sv)) h6;have e6:upd H5 l6 (.lst (((es++[l]).map (stepB (isIn cs))).map sv)) l6=some (.lst (((es++[l]).map (stepB (isIn cs))).map sv)):=zaa;generalize upd H5 l6 (.lst (((es++[l]).map (stepB (isIn cs))).map sv))=H6 at s6 e6;refine⟨two,fun p7 h7=>?_⟩;have s7:=Same.up (o:=.tup [.ref pe,.ref l6]) h7;have s47:=s5.trans (s6.trans s7);exact k p7 pe l6 _ us (es++[l]) (s4.trans s47) zaa (s47 _ _ e4) (hv.mono fun x v h=>h.kt (KT.of s47)) (s7 _ _ e6) ⟨hch,l,by simp,hnb⟩
   .rw[decide_eq_false (fun z=>hnb (zi3.mp z))];refine iteT ?_
    have hch2:=hch.more hnb;have hsh:=hch2.short;have hl5:us.length+1<=4*cs.length:=by rw[hl4];rw[List.length_append,List.length_singleton]at hsh;exact hsh
    refine⟨_,rfl,.inl ⟨rfl,_,SqL.of e4⟩,_,rfl,pe,us,_,rfl,rfl,e4,zao (by lia),?_⟩;have k5:KT H4 (upd H4 pe (.lst (us++[.ref re]))):=KT.lst e4;have e5:upd H4 pe (.lst (us++[.ref re])) pe=some (.lst (us++[.ref re])):=zaa;have s5:Same H (upd H4 pe (.lst (us++[.ref re]))):=zau hpe s4;have q5:upd H4 pe (.lst (us++[.ref re])) ps=some (.lst ((es.map (stepB (isIn cs))).map sv)):=by rw[zai (Ne.symm hne)];exact q4
    generalize upd H4 pe (.lst (us++[.ref re]))=H5 at k5 e5 s5 q5;have hel:es.length<=480:=by rw[List.length_append,List.length_append]at hsh;lia
    refine⟨_,rfl,.inl ⟨rfl,_,SqL.of q5⟩,_,rfl,ps,_,_,rfl,rfl,q5,zao (by simp;lia),?_⟩;have em:(es.map (stepB (isIn cs))).map sv++[sv (stepB (isIn cs) l)]=((es++[l]).map (stepB (isIn cs))).map sv:=by rw[List.map_append,List.map_append];rfl
    rw[em];have k6:KT H5 (upd H5 ps (.lst (((es++[l]).map (stepB (isIn cs))).map sv))):=KT.lst q5;have q6:upd H5 ps (.lst (((es++[l]).map (stepB (isIn cs))).map sv)) ps=some (.lst (((es++[l]).map (stepB (isIn cs))).map sv)):=zaa;have s6:Same H (upd H5 ps (.lst (((es++[l]).map (stepB (isIn cs))).map sv))):=zau hps0 s5;have e6:upd H5 ps (.lst (((es++[l]).map (stepB (isIn cs))).map sv)) pe=some (.lst (us++[.ref re])):=by rw[zai hne];exact e5
    generalize upd H5 ps (.lst (((es++[l]).map (stepB (isIn cs))).map sv))=H6 at k6 q6 s6 e6;have kt:=k5.trans k6;have r6:=kt _ _ er;refine⟨_,rfl,_,rfl,t,re,isIn cs,nxt (isIn cs) l,rfl,tab.same s6,SqT.of r6,hw4,fun p7 q7 H7 s7 f7 g7=>?_⟩;refine⟨p7,_,rfl,SqT.of f7,rfl,_,_,rfl,_,_,rfl,rfl,?_⟩;have e7:=s7 _ _ e6;refine⟨⟨us++[.ref re],es++[l],nxt (isIn cs) l,q7,rfl,s6.trans s7,e7,?_,s7 _ _ q6,hch2,g7⟩,?_⟩
    .exact hv.snoc (fun x v hx=>(hx.kt kt).kt (KT.of s7)) ⟨re,rfl,s7 _ _ r6⟩
    .show 4*cs.length+1-ziJ (H7 pe)<4*cs.length+1-ziJ (H4 pe);rw[e7,e4];show 4*cs.length+1-(us++[V.ref re]).length<4*cs.length+1-us.length;rw[List.length_append,List.length_singleton];lia
  .rintro σ H4 Q1 Q2 hQ ⟨v,h1,v2,h2,dd,ee,r1,r2,x1,x2,kk,h3,q⟩;exact⟨v,h1,v2,h2,dd,ee,r1,r2,x1,x2,kk,h3,hQ _ _ q⟩
end
open PySem L2 RP
def Frz(t:Addr)(kvs:List (List Key×V))(H H':Hp):Prop:=(∀b o,b≠t->H b=some o->H' b=some o)/\∃od,H' t=some (.frz od (.dT kvs))
section
variable {P:Program}{w:World}{K:W.Frag}{mg:Str->Option Value}{base:Heap}
def zib(K:W.Frag):Sp:=fun vs H Q _=>∃(t:Addr) (cs:List Cell),vs=[.ref t]/\H t=some (.dT (tru (cs.map kC)))/\cs.length<=120/\∀p H' us,H p=none->Frz t (tru (cs.map kC)) H H'->H' p=some (.lst us)->VR us (allE cs) eR H'->Q (.ref p) H'
theorem zfv (T:Txt P w K mg) (g__law_gone:Fn P w K mg base 1 "_law_gone" ["_law_x","_law_y","_law_step"] zdk) (d:Df K mg "_law_edges" za0 ["_law_there"]):FnOk P w K mg base CX0 2 d.f d.fd ["_law_there"] (zib K):=by
 refine d.F.ok zbZ (fun vs H Q E h=>?_) (fun cdv A outer s H vs Q E hr h=>?_)
 .obtain⟨t,cs,rfl,_⟩:=h;rfl
 .obtain⟨t,cs,rfl,ht,hlen,k⟩:=h;have hu1:=hu_of hr;have nb0:(["_law_way","_law_x","_law_y","_law_there"]:List Str).Nodup:=by decide +kernel
  refine⟨_,(zab (zas (i:=1) zbZ.nd (by rfl) (Or.inl rfl) (zbs zac))
   (zab (zbI PassesOwn.never rfl (zgX (pv 0)) (zbr (by rfl) (zaf (zae (i:=2) zbZ.nd (by rfl) (Or.inr rfl)) (zaf (zae (i:=3) zbZ.nd (by rfl) (Or.inr rfl)) zaA)))
   (zah (zbo (pe_bm PySem.F.plainAttrs_list PySem.F.slot_list_extend PySem.F.type_list_extend zc5 (pv 1) (zaj (zbv (osc:=zad za0) (N:=zdp) (N':=["_law_way","_law_x","_law_y","_law_there"]) (sel:=[none,some 2,some 3,some 0]) ⟨rfl,by decide +kernel,by decide +kernel,by decide +kernel,rfl,by decide +kernel⟩ (zc2 (by rfl) T.nrange (pa_C zag zac)) (fun _ _ _ _ _=>(zae (i:=0) nb0 (by rfl) (Or.inl rfl))) (fun _ _ _ _ _=>zci (zc1 (zcg hu1 (zan g__law_gone.ok (hr.mono (by decide)) (by rfl) g__law_gone.m g__law_gone.kp g__law_gone.b .nil pass0 (pa_N (pv 1) (pa_N (pv 2) (pa_B (pe_op zbg (pe_op zaI (pe_op zb9 zag (pv 0)) zag) zag) zac)))) (pv 3)))) (fun _ _ _ _ _=>(zax (pa_N (pv 1) (pa_N (pv 2) (pa_N (pv 0) zac)))))) zac)))))
   (zah (zay (pv 1))))),?_⟩
  refine⟨(by show 0<=sizeLine;decide),fun p hp=>?_⟩;have s1:=Same.up (o:=.lst []) hp;have e1:upd H p (.lst []) p=some (.lst []):=zaa;generalize upd H p (.lst [])=H1 at s1 e1;have ht1:=s1 _ _ ht;have hpt:p≠t:=ne_of e1 ht1 (fun z=>nomatch z);refine⟨_,rfl,t,_,rfl,ht1,fun od=>?_⟩;have kt2:KT H1 (upd H1 t (.frz od (.dT (tru (cs.map kC))))):=KT.dct ht1;have sb2:∀b o,b≠t->H1 b=some o->upd H1 t (.frz od (.dT (tru (cs.map kC)))) b=some o:=fun b o hb e=>by rw[zai hb];exact e
  have e2:upd H1 t (.frz od (.dT (tru (cs.map kC)))) t=some (.frz od (.dT (tru (cs.map kC)))):=zaa;have hp2:upd H1 t (.frz od (.dT (tru (cs.map kC)))) p=some (.lst []):=by rw[zai hpt];exact e1
  generalize upd H1 t (.frz od (.dT (tru (cs.map kC))))=H2 at kt2 sb2 e2 hp2
  refine zhe (a:=t) (od:=od) (kvs:=tru (cs.map kC)) (fun i σ H3=>∃o2 o3,σ=[some (.ref t),some (.ref p),o2,o3]/\(∀b o,b≠p->H2 b=some o->H3 b=some o)/\∃us,H3 p=some (.lst us)/\VR us ((sides (cs.take i)).filter fun e=>!isIn cs (gap e)) eR H3)
   ⟨_,_,rfl,fun _ _ _ e=>e,[],hp2,VR.nil⟩ (fun i σ H3 _ ⟨_,_,_,s3,_⟩=>s3 _ _ (Ne.symm hpt) e2) ?_ ?_
  .rintro i b kk v σ H3 hi hb ⟨o2,o3,rfl,s3,us,e3,hv3⟩;have hil:i<cs.length:=by have:=(List.getElem?_eq_some_iff.mp hi).1;unfold tru at this;simpa using this
   have ci:cs[i]?=some cs[i]:=List.getElem?_eq_getElem hil
   have hk:kk=kC cs[i]:=by
    unfold tru at hi;rw[List.getElem?_map,List.getElem?_map,ci]at hi
    cases hi;rfl
   subst hk;have t3:=s3 _ _ (Ne.symm hpt) e2;refine⟨b,_,rfl,SqT.of hb,rfl,_,_,rfl,_,_,rfl,rfl,?_⟩;refine⟨_,rfl,.inl ⟨rfl,_,SqL.of e3⟩,4,rfl,by decide,by decide,fun g hg=>?_⟩
   refine zbK (lo:=0) (n:=4) (fun j σ H4=>∃o,σ=[o,some (.int cs[i].1),some (.int cs[i].2),some (.ref t)]/\Same H3 H4/\∃zs,H4 g=some (.lst zs)/\VR zs (((List.range j).map fun w=>(⟨cs[i],w⟩:Edge)).filter fun e=>!isIn cs (gap e)) eR H4)
    ⟨_,rfl,Same.up hg,[],zaa,VR.nil⟩ ?_ ?_
   .rintro j σ H4 hj ⟨o,rfl,s4,zs,e4,hz⟩;have m6:(2*(0+(j:Int))+6) % 8=(((2*j+6) % 8:Nat):Int):=by lia
    have hzl:zs.length<=4:=by rw[hz.1];have:=List.length_filter_le (fun e=>!isIn cs (gap e)) ((List.range j).map fun w=>(⟨cs[i],w⟩:Edge));rw[List.length_map,List.length_range]at this;lia
    refine⟨_,rfl,_,rfl,_,rfl,_,_,rfl,rfl,.inl ⟨by decide,by decide⟩,_,_,rfl,rfl,_,_,rfl,rfl,(by show (0:Int)<8;decide),cs[i],(2*j+6) % 8,(by rw[<- m6];rfl),Nat.mod_lt _ (by decide),fun p5 H5 hp5 s5 e5=>?_⟩;have t5:=(s4.trans s5) _ _ t3;refine⟨_,rfl,t,_,rfl,.inr ⟨tru (cs.map kC),kC (gap ⟨cs[i],j⟩),p5,.inr ⟨od,t5⟩,rfl,e5,rfl⟩,_,rfl,?_⟩;rw[zgD,List.range_succ,List.map_append,List.map_singleton,zcR];refine ite2 (fun hy=>?_) (fun hn'=>?_)
    .rw[if_pos hy];refine⟨_,rfl,_,rfl,_,rfl,three,fun q hq'=>?_⟩;have s6:=Same.up (o:=.tup [.int cs[i].1,.int cs[i].2,.int (0+(j:Int))]) hq';have r6:eR ⟨cs[i],j⟩ (.ref q) (upd H5 q (.tup [.int cs[i].1,.int cs[i].2,.int (0+(j:Int))])):=⟨q,rfl,by rw[zaa,Int.zero_add];rfl⟩;generalize upd H5 q (.tup [.int cs[i].1,.int cs[i].2,.int (0+(j:Int))])=H6 at s6 r6;have e6:=(s5.trans s6) _ _ e4;refine⟨zs,e6,zao (by lia),_,rfl,zau hg (s4.trans (s5.trans s6)),_,zaa,?_⟩;exact hz.snoc (fun x v h=>(h.kt (KT.of (s5.trans s6))).kt (KT.lst e6)) (r6.kt (KT.lst e6))
    .rw[if_neg hn',List.append_nil];exact⟨_,rfl,s4.trans s5,zs,s5 _ _ e4,hz.mono fun x v h=>h.kt (KT.of s5)⟩
   .rintro σ H4 ⟨o,rfl,s4,zs,e4,hz⟩
    have hzl:zs.length<=4:=by rw[hz.1];have:=List.length_filter_le (fun e=>!isIn cs (gap e)) ((List.range 4).map fun w=>(⟨cs[i],w⟩:Edge));rw[List.length_map,List.length_range]at this;exact this
    have hul:us.length<=480:=by rw[hv3.1];have:=List.length_filter_le (fun e=>!isIn cs (gap e)) (sides (cs.take i));rw[zcr,List.length_take]at this;lia
    have e34:=s4 _ _ e3;refine⟨p,g,_,_,rfl,rfl,e34,e4,Nat.le_of_lt (zao (by lia)),?_⟩;have k7:KT H4 (upd H4 p (.lst (us++zs))):=KT.lst e34;refine⟨_,_,rfl,fun b o hb e=>?_,_,zaa,?_⟩
    .rw[zai hb];exact s4 _ _ (s3 _ _ hb e)
    .rw[zbb ci,zhx,List.filter_append];exact (hv3.mono fun x v h=>(h.kt (KT.of s4)).kt k7).app (hz.mono fun x v h=>h.kt k7)
  .rintro σ H3 ⟨o2,o3,rfl,s3,us,e3,hv3⟩;rw[show (tru (cs.map kC)).length=cs.length by unfold tru;rw[List.length_map,List.length_map],List.take_length]at hv3;refine⟨_,rfl,k p H3 us hp ⟨fun b o hb e=>?_,od,s3 _ _ (Ne.symm hpt) e2⟩ e3 hv3⟩;exact s3 _ _ (zam e hp) (sb2 _ _ hb (s1 _ _ e))
end
open PySem L2 RP
def stI(o:Option Nat):Option Int:=o.map fun n:Nat=>(n:Int)
theorem zlh(o:Option Nat):(stI o).elim V.non V.int=sv o:=by cases o <;> rfl
theorem zhJ(C:Cell->Bool)(es:List Edge):((es.map (stepB C)).map stI).countP (·.isNone)=nL (wk C es):=by
 rw[nL_wk,List.countP_map,List.countP_map,List.countP_eq_length_filter]
 congr 1
 apply List.filter_congr
 intro e _;show (stI (stepB C e)).isNone=(stepB C e).isNone
 cases stepB C e <;> rfl
def plR(es:List Edge)(k:Nat)(v:V)(H:Hp):Prop:=∃e p,es[k]?=some e/\v=.ref p/\H p=some (.tup [.int e.c.2,.int e.c.1,.int (k:Int)])
theorem plR.kt{es:List Edge}{k:Nat}{v:V}{H H':Hp}(h:plR es k v H)(s:KT H H'):plR es k v H':=let ⟨e,p,a,b,c⟩:=h;⟨e,p,a,b,s _ _ c⟩
def keyP(es:List Edge)(k:Nat):List Int:=match es[k]? with |some e=>[e.c.2,e.c.1,(k:Int)] |none=>[]
theorem lex3{a b c d x y:Int}(h:HT.lexLt [a,b] [c,d]=true):HT.lexLt [a,b,x] [c,d,y]=true:=by
 simp only[HT.lexLt]at h ⊢
 by_cases e:a=c
 .rw[if_pos e]at h ⊢
  by_cases f:b=d
  .rw[if_pos f]at h;cases h
  .rw[if_neg f]at h ⊢;exact h
 .rw[if_neg e]at h ⊢;exact h
section
variable {P:Program}{w:World}{K:W.Frag}{mg:Str->Option Value}{base:Heap}
def zh6(K:W.Frag):Sp:=fun vs H Q _=>∃(pe pq:Addr) (us:List V) (C:Cell->Bool) (es:List Edge),vs=[.ref pe,.ref pq]/\H pe=some (.lst us)/\VR us es eR H/\H pq=some (.lst ((es.map (stepB C)).map sv))/\es.length<=480 /\
 (∃e∈es,e.w=0)/\(∃e∈es,e.w=2)/\∀v H' r,Same H H'->rR r v H'->IsRnd (wk C es) r->Q v H'
theorem zgk (T:Txt P w K mg) (d:Df K mg "_law_told" zaS ["_law_edges_here","_law_steps"]):FnOk P w K mg base CX0 2 d.f d.fd ["_law_edges_here","_law_steps"] (zh6 K):=by
 refine d.F.ok zbV (fun vs H Q E h=>?_) (fun cdv A outer s H vs Q E hr h=>?_)
 .obtain⟨pe,pq,us,C,es,rfl,_⟩:=h;rfl
 .obtain⟨pe,pq,us,C,es,rfl,e10,hv10,q10,hel,hw0,hw2,k⟩:=h;have hu1:=hu_of hr;have nb0:(["_law_step"]:List Str).Nodup:=by decide +kernel
  have nb1:(["_law_k","_law_x","_law_y","_law_here","_law_way"]:List Str).Nodup:=by decide +kernel
  have nb2:(["_law_step"]:List Str).Nodup:=by decide +kernel
  refine⟨_,(zab (zas (i:=2) zbV.nd (by rfl) (Or.inl rfl) (pe_op zcH (pe_bm PySem.F.plainAttrs_list PySem.F.slot_list_count PySem.F.type_list_count ziD (pv 1) (pa_C zcf zac)) (zaV zbG (by rfl) T.nlen (by rfl) (zaj (zbv (osc:=zad zaS) (N:=zcm) (N':=["_law_step"]) (sel:=[none]) ⟨rfl,by decide +kernel,by decide +kernel,by decide +kernel,rfl,by decide +kernel⟩ (za9 (pv 1)) (fun _ _ _ _ _=>(zae (i:=0) nb0 (by rfl) (Or.inl rfl))) (fun _ _ _ _ _=>zci (zj8 (zaL zdK (pv 0) zcf (zaO _)) (ziq (zaL op_eq (pe_op zbg (pv 0) zag) zag (zaO _)))).pt) (fun _ _ _ _ _=>(pv 0))) zac))))
   (zab (zas (i:=3) zbV.nd (by rfl) (Or.inr rfl) (pe_ix zbX (zbs (pa_C zag (pa_C zag zac))) (zc4 zfT (by rfl) T.nint (by rfl) (zaj (zcO op_gt (pv 2) zag (zaO _)) zac)) (fun _ _=>rfl)))
   (zab (zas (i:=4) zbV.nd (by rfl) (Or.inl rfl) (pe_ix zc7 (zaV (zje hu1 rfl) (by rfl) T.nmin (by rfl) (zaj (zbv (osc:=zad zaS) (N:=zcm) (N':=["_law_k","_law_x","_law_y","_law_here","_law_way"]) (sel:=[none,none,none,none,some 3]) ⟨rfl,by decide +kernel,by decide +kernel,by decide +kernel,rfl,by decide +kernel⟩ (zkG (by rfl) T.nenumerate (pa_N (pv 0) zac)) (fun _ _ _ _ _=>(zcu (K:=K) (n:=2) (by rfl) (zaf (zae (i:=0) nb1 (by rfl) (Or.inl rfl)) (zaf (zcu (K:=K) (n:=3) (by rfl) (zaf (zae (i:=1) nb1 (by rfl) (Or.inl rfl)) (zaf (zae (i:=2) nb1 (by rfl) (Or.inl rfl)) (zaf (zae (i:=3) nb1 (by rfl) (Or.inl rfl)) zaA)))) zaA)))) (fun _ _ _ _ _=>zci (zaL op_eq (pv 3) (pv 4) (zaO _))) (fun _ _ _ _ _=>(zax (pa_N (pv 2) (pa_N (pv 1) (pa_N (pv 0) zac)))))) zac)) zag (fun _ _=>rfl)))
   (zab (zas (i:=5) zbV.nd (by rfl) (Or.inl rfl) (zc4 ze4 (by rfl) T.ntuple (by rfl) (zaj (zbv (osc:=zad zaS) (N:=zcm) (N':=["_law_step"]) (sel:=[none]) ⟨rfl,by decide +kernel,by decide +kernel,by decide +kernel,rfl,by decide +kernel⟩ (za9 (pe_op zg1 (zdv zga (pv 1) (zeI (pv 4)) zeJ) (zdv zga (pv 1) zeJ (zeI (pv 4))))) (fun _ _ _ _ _=>(zae (i:=0) nb2 (by rfl) (Or.inl rfl))) (fun _ _ _ _ _=>zci (zaL zdK (pv 0) zcf (zaO _))) (fun _ _ _ _ _=>(pv 0))) zac)))
   (zah (zay (zax (zaj (pe_ix zbX (zbs (pa_C zgY (pa_C zgY zac))) (zc4 zfT (by rfl) T.nint (by rfl) (zaj (zcO op_gt (pv 2) zag (zaO _)) zac)) (fun _ _=>rfl)) (zaj (pe_ix zc7 (pe_ix zbX (pv 0) (pv 4) (fun _ _=>rfl)) zag (fun _ _=>rfl)) (zaj (pe_ix zc7 (pe_ix zbX (pv 0) (pv 4) (fun _ _=>rfl)) zag (fun _ _=>rfl)) (pa_N (pv 5) zac))))))))))),?_⟩
  have qs:H pq=some (.lst (((es.map (stepB C)).map stI).map fun o=>o.elim V.non V.int)):=by
   rw[q10]
   congr 2
   simp only[List.map_map]
   apply List.map_congr_left
   intro o _;exact (zlh _).symm
  refine⟨_,rfl,.inl ⟨rfl,_,SqL.of q10⟩,pq,_,rfl,rfl,qs,?_⟩;rw[zhJ];refine⟨_,rfl,pq,rfl,⟨_,SqL.of q10⟩,fun g hg=>?_⟩
  refine zaD (K:=K) (a:=pq) (xs:=(es.map (stepB C)).map sv) (fun i σ H1=>∃o,σ=[o]/\Same H H1/\∃zs:List V,H1 g=some (.lst zs)/\zs.length=((es.take i).filter fun e=>slant (stepB C e)).length)
   ⟨_,rfl,Same.up hg,[],zaa,rfl⟩ (fun i σ H1 _ ⟨_,_,s1,_⟩=>SqL.of (s1 _ _ q10)) ?_ ?_
  .rintro i u σ H1 hi ⟨o,rfl,s1,zs,e1,hz⟩;rw[List.getElem?_map,List.getElem?_map]at hi;obtain⟨so,hso',rfl⟩:=Option.map_eq_some_iff.mp hi;obtain⟨f,hf,rfl⟩:=Option.map_eq_some_iff.mp hso';have hil:i<es.length:=(List.getElem?_eq_some_iff.mp hf).1
   have hzl:zs.length<=480:=by have:=List.length_filter_le (fun e=>slant (stepB C e)) (es.take i);rw[List.length_take]at this;lia
   rw[zcj hf]
   cases hst:stepB C f with
   |none=>exact⟨_,rfl,rfl,_,rfl,iteF ⟨_,rfl,s1,zs,e1,by rw[if_neg (by decide),List.append_nil];exact hz⟩⟩
   |some n =>
    have hd:decide (V.int ((n:Int) % 2)=V.int 1)=slant (some n):=by
     show _=(n % 2 == 1)
     by_cases q:n % 2=1
     .rw[decide_eq_true (by rw[show (n:Int) % 2=1 by lia]),q];rfl
     .rw[decide_eq_false (fun z=>q (by injection z with z;lia))];simp[q]
    refine⟨_,rfl,rfl,_,rfl,iteT ⟨_,rfl,_,_,rfl,rfl,(by show (0:Int)<2;decide),rfl,_,rfl,?_⟩⟩;rw[hd];refine ite2 (fun hy=>?_) (fun hn=>?_)
    .refine⟨_,rfl,zs,e1,zao (by lia),_,rfl,zau hg s1,_,zaa,?_⟩;rw[if_pos hy,List.length_append,List.length_append,hz];rfl
    .exact⟨_,rfl,s1,zs,e1,by rw[if_neg hn,List.append_nil];exact hz⟩
  .rintro σ H1 ⟨o,rfl,s1,zs,e1,hz⟩;rw[List.take_of_length_le (by rw[List.length_map,List.length_map];exact Nat.le_refl _),<- nS_wk]at hz;refine⟨g,zs,rfl,.inl (SqL.of e1),?_⟩;rw[hz];obtain⟨kk,hkk⟩:∃kk:Nat,kk=kOf (sortS (wk C es)):=⟨_,rfl⟩;have hgt:decide ((0:Int)<(nL (wk C es):Int)-(nS (wk C es):Int))=decide (nS (wk C es)<nL (wk C es)):=decide_eq_decide.mpr (by lia)
   have way:atI [V.int 2,V.int 0] (if decide (nS (wk C es)<nL (wk C es))=true then 1 else 0)=some (.int (kk:Int)):=by
    rw[hkk];unfold kOf sortS
    by_cases z:nS (wk C es)<nL (wk C es)
    .rw[if_pos z,decide_eq_true z];rfl
    .rw[if_neg z,decide_eq_false z];rfl
   have sor:atI [V.str "hole",V.str "rim"] (if decide (nS (wk C es)<nL (wk C es))=true then 1 else 0)=some (.str (sortS (wk C es))):=by
    unfold sortS
    by_cases z:nS (wk C es)<nL (wk C es)
    .rw[if_pos z,decide_eq_true z];rfl
    .rw[if_neg z,decide_eq_false z];rfl
   refine⟨_,_,rfl,rfl,two,fun l2 h2=>?_⟩;have s2:=Same.up (o:=.lst [.int 2,.int 0]) h2;have e2:upd H1 l2 (.lst [.int 2,.int 0]) l2=some (.lst [.int 2,.int 0]):=zaa;generalize upd H1 l2 (.lst [.int 2,.int 0])=H2 at s2 e2;refine⟨_,rfl,_,_,rfl,rfl,.inr ⟨_,rfl,l2,_,_,_,rfl,rfl,SqL.of e2,(by rw[hgt];exact way),?_⟩⟩;have s12:=s1.trans s2;have pe2:=s12 _ _ e10;have pq2:=s12 _ _ q10;have hv2:=hv10.mono fun x v h=>h.kt (KT.of s12)
   have hul:us.length=es.length:=hv10.1;refine⟨_,rfl,pe,rfl,⟨_,SqL.of pe2⟩,fun g2 hg2=>?_⟩
   refine zjK (K:=K) (a:=pe) (xs:=us) (fun i σ H3=>∃o0 o1 o2 o3,σ=[o0,o1,o2,o3,some (.int (kk:Int))]/\Same H2 H3/\∃zs,H3 g2=some (.lst zs)/\VR zs ((List.range i).filter fun k=>(es[k]?).any (·.w == kk)) (plR es) H3)
    ⟨_,_,_,_,rfl,Same.up hg2,[],zaa,VR.nil⟩ (fun i σ H3 _ ⟨_,_,_,_,_,s3,_⟩=>SqL.of (s3 _ _ pe2)) ?_ ?_
   .rintro i u σ H3 p hi ⟨o0,o1,o2,o3,rfl,s3,zs3,e3,hz3⟩ hp;obtain⟨f,hf,bf,rfl,qf⟩:=hv2.at hi;have s4:=Same.up (o:=.tup [.int i,.ref bf]) hp;have e4:upd H3 p (.tup [.int i,.ref bf]) p=some (.tup [.int i,.ref bf]):=zaa;generalize upd H3 p (.tup [.int i,.ref bf])=H4 at s4 e4;have qf4:=(s3.trans s4) _ _ qf;have hil:i<es.length:=(List.getElem?_eq_some_iff.mp hf).1
    have hzl:zs3.length<=480:=by rw[hz3.1];have:=List.length_filter_le (fun k=>(es[k]?).any (·.w == kk)) (List.range i);rw[List.length_range]at this;lia
    have hd:decide (V.int (f.w:Int)=V.int (kk:Int))=(es[i]?).any (·.w == kk):=by
     rw[hf];show _=(f.w == kk)
     by_cases q:f.w=kk
     .rw[q];simp
     .rw[decide_eq_false (fun z=>q (by injection z with z;lia))];simp[q]
    refine⟨p,_,rfl,SqT.of e4,rfl,_,_,rfl,_,_,rfl,bf,_,rfl,SqT.of qf4,rfl,_,_,rfl,_,_,rfl,_,_,rfl,rfl,rfl,_,rfl,_,rfl,rfl,_,rfl,?_⟩;rw[hd,List.range_succ,zcR];refine ite2 (fun hy=>?_) (fun hn=>?_)
    .rw[if_pos hy];refine⟨_,rfl,_,rfl,_,rfl,three,fun q hq=>?_⟩;have s5:=Same.up (o:=.tup [.int f.c.2,.int f.c.1,.int (i:Int)]) hq;have r5:plR es i (.ref q) (upd H4 q (.tup [.int f.c.2,.int f.c.1,.int (i:Int)])):=⟨f,q,hf,rfl,zaa⟩;generalize upd H4 q (.tup [.int f.c.2,.int f.c.1,.int (i:Int)])=H5 at s5 r5;have e5:=(s4.trans s5) _ _ e3;refine⟨zs3,e5,zao (by lia),_,_,_,_,rfl,zau hg2 (s3.trans (s4.trans s5)),_,zaa,?_⟩;exact hz3.snoc (fun x v h=>(h.kt (KT.of (s4.trans s5))).kt (KT.lst e5)) (r5.kt (KT.lst e5))
    .rw[if_neg hn,List.append_nil];exact⟨_,_,_,_,rfl,s3.trans s4,zs3,s4 _ _ e3,hz3.mono fun x v h=>h.kt (KT.of s4)⟩
   .rintro σ H3 ⟨o0,o1,o2,o3,rfl,s3,zs3,e3,hz3⟩;rw[hul]at hz3;obtain⟨L,hL⟩:∃L,L=(List.range es.length).filter fun k=>(es[k]?).any (·.w == kk):=⟨_,rfl⟩
    rw[<- hL]at hz3
    have memL:∀j,j∈L ↔ ∃e,es[j]?=some e/\e.w=kk:=fun j=>by
     rw[hL,List.mem_filter,List.mem_range];constructor
     .rintro⟨h1,h2⟩;rw[List.getElem?_eq_getElem h1]at h2;exact⟨es[j],List.getElem?_eq_getElem h1,by simpa using h2⟩
     .rintro⟨e,h1,h2⟩;exact⟨(List.getElem?_eq_some_iff.mp h1).1,by rw[h1];simpa using h2⟩
    have hex:∃e∈es,e.w=kk:=by
     rw[hkk];rcases zgO (wk C es) with z |z <;> rw[z]
     .exact hw0
     .exact hw2
    have hpos:0<zs3.length:=by obtain⟨e,h1,h2⟩:=hex;obtain⟨j,hj,ej⟩:=List.getElem_of_mem h1;rw[hz3.1];exact List.length_pos_of_mem ((memL j).mpr ⟨e,by rw[List.getElem?_eq_getElem hj,ej],h2⟩)
    refine⟨g2,zs3,fun i=>keyP es (L.getD i 0),rfl,SqL.of e3,hpos,fun i x hx=>?_,fun i x H4 hx hle s4=>?_⟩
    .obtain⟨j,hj,e,p,he,rfl,q⟩:=hz3.at hx;refine⟨p,rfl,SqT.of ?_⟩;show H3 p=some (HO.tup ((keyP es (L.getD i 0)).map V.int));rw[List.getD_eq_getElem?_getD,hj,Option.getD_some];unfold keyP;rw[he,q];rfl
    .obtain⟨j,hj,e,p,he,rfl,q⟩:=hz3.at hx;have q4:=s4 _ _ q;have hjl:j<es.length:=(List.getElem?_eq_some_iff.mp he).1
     have hwj:e.w=kk:=by obtain⟨e',h1,h2⟩:=(memL j).mp (List.mem_of_getElem? hj);rw[he]at h1;cases h1;exact h2
     obtain⟨ws,hws⟩:∃ws,ws=(es.map (stepB C)).map sv:=⟨_,rfl⟩;have hwl:ws.length=es.length:=by rw[hws,List.length_map,List.length_map]
     have pq4:=(s3.trans s4) _ _ pq2;have pe4:=(s3.trans s4) _ _ pe2;rw[<- hws]at pq4;refine⟨p,_,_,_,rfl,rfl,SqT.of q4,zaM (j:=2) rfl,?_⟩;refine⟨_,rfl,_,rfl,_,rfl,pq,ws,rfl,SqL.of pq4,fun p5 hp5=>?_⟩;rw[zjS ws (by lia:j<=ws.length)];have s5:=Same.up (o:=.lst (ws.drop j)) hp5;refine⟨_,rfl,_,rfl,_,rfl,pq,ws,rfl,SqL.of (s5 _ _ pq4),fun p6 hp6=>?_⟩;rw[zlR ws (by lia:j<=ws.length)];have s6:=Same.up (o:=.lst (ws.take j)) hp6;refine⟨p5,p6,_,_,rfl,rfl,s6 _ _ zaa,zaa,Nat.le_of_lt (zao (by simp;lia)),fun p7 hp7=>?_⟩;have s7:=Same.up (o:=.lst (ws.drop j++ws.take j)) hp7;have s47:=s5.trans (s6.trans s7);have e7:upd (upd (upd H4 p5 (.lst (ws.drop j))) p6 (.lst (ws.take j))) p7 (.lst (ws.drop j++ws.take j)) p7=some (.lst (ws.drop j++ws.take j)):=zaa;generalize upd (upd (upd H4 p5 (.lst (ws.drop j))) p6 (.lst (ws.take j))) p7 (.lst (ws.drop j++ws.take j))=H7 at s47 e7 ⊢;obtain⟨os,hos⟩:∃os:List (Option Nat),os=(es.map (stepB C)).drop j++(es.map (stepB C)).take j:=⟨_,rfl⟩;have hwo:ws.drop j++ws.take j=os.map sv:=by rw[hws,hos,List.map_append,List.map_drop,List.map_take]
     have hol:os.length<=480:=by rw[hos];simp;lia
     rw[hwo]at e7;refine⟨p7,rfl,⟨_,SqL.of e7⟩,fun g8 hg8=>?_⟩
     refine zaD (K:=K) (a:=p7) (xs:=os.map sv) (fun i σ H8=>∃o,σ=[o]/\Same H7 H8/\H8 g8=some (.lst (rowV ((os.take i).filterMap id))))
      ⟨_,rfl,Same.up hg8,zaa⟩ (fun i σ H8 _ ⟨_,_,s8,_⟩=>SqL.of (s8 _ _ e7)) ?_ ?_
     .rintro i u σ H8 hi ⟨o,rfl,s8,e8⟩;rw[List.getElem?_map]at hi;obtain⟨so,hso,rfl⟩:=Option.map_eq_some_iff.mp hi
      have hl2:(rowV ((os.take i).filterMap id)).length<=1000:=by unfold rowV;rw[List.length_map];have:=List.length_filterMap_le id (os.take i);rw[List.length_take]at this;lia
      refine⟨_,rfl,rfl,_,rfl,?_⟩;rw[zjZ,zbb hso,List.filterMap_append]
      cases so with
      |none=>exact iteF ⟨_,rfl,s8,by simpa using e8⟩
      |some n =>
       refine iteT ⟨_,rfl,_,e8,zao hl2,_,rfl,zau hg8 s8,?_⟩;rw[zaa];simp[rowV,sv]
     .rintro σ H8 ⟨o,rfl,s8,e8⟩;rw[List.length_map,List.take_length]at e8;refine⟨g8,_,rfl,.inl ⟨SqL.of e8,fun p9 hp9=>?_⟩⟩;have s9:=Same.up (o:=.tup (rowV (os.filterMap id))) hp9;have e9:upd H8 p9 (.tup (rowV (os.filterMap id))) p9=some (.tup (rowV (os.filterMap id))):=zaa;generalize upd H8 p9 (.tup (rowV (os.filterMap id)))=H9 at s9 e9;refine⟨two,fun l10 h10=>?_⟩;have s10:=Same.up (o:=.lst [.str "hole",.str "rim"]) h10;have e10':upd H9 l10 (.lst [.str "hole",.str "rim"]) l10=some (.lst [.str "hole",.str "rim"]):=zaa;generalize upd H9 l10 (.lst [.str "hole",.str "rim"])=H10 at s10 e10';have s210:=(s3.trans s4).trans (s47.trans (s8.trans (s9.trans s10)));have pe10:=s210 _ _ pe2;have huj:us[j]?=some us[j]:=List.getElem?_eq_getElem (by lia)
      obtain⟨e',he',bf,ebf,qf⟩:=hv2.at huj;rw[he]at he'
      cases he'
      have qf10:=s210 _ _ qf;have hat:atI us (j:Int)=some (.ref bf):=zaM (by rw[huj,ebf]);refine⟨_,rfl,_,_,rfl,rfl,.inr ⟨_,rfl,l10,_,_,_,rfl,rfl,SqL.of e10',(by rw[hgt];exact sor),?_⟩⟩;refine⟨_,rfl,_,rfl,pe,_,_,_,rfl,rfl,SqL.of pe10,hat,bf,_,_,_,rfl,rfl,SqT.of qf10,zaM (j:=0) rfl,?_⟩;refine⟨_,rfl,_,rfl,pe,_,_,_,rfl,rfl,SqL.of pe10,hat,bf,_,_,_,rfl,rfl,SqT.of qf10,zaM (j:=1) rfl,?_⟩;refine⟨_,rfl,(by show 4<=sizeLine;decide),fun p11 hp11=>?_⟩;refine k _ _ ⟨sortS (wk C es),e.c.1,e.c.2,os.filterMap id⟩ (s12.trans (s210.trans (Same.up hp11))) ⟨p11,p9,rfl,zaa,Same.up hp11 _ _ (s10 _ _ e9)⟩ ⟨rfl,j,e,?_,⟨?_,?_,fun f h1 h2=>?_⟩,rfl,rfl,?_⟩
      .rw[zdj];exact he
      .rw[zdj];exact List.mem_of_getElem? he
      .rw[hwj,hkk]
      .rw[zdj]at h1;obtain⟨m,hm,em⟩:=List.getElem_of_mem h1;have hmL:=(memL m).mpr ⟨f,by rw[List.getElem?_eq_getElem hm,em],by rw[h2,hkk]⟩;obtain⟨n,hn,en⟩:=List.getElem_of_mem hmL;have hnl:n<zs3.length:=by rw[hz3.1];exact hn
       have:=(hle n hnl).1
       have kn:keyP es (L.getD n 0)=[f.c.2,f.c.1,(m:Int)]:=by rw[List.getD_eq_getElem?_getD,List.getElem?_eq_getElem hn,en,Option.getD_some];unfold keyP;rw[List.getElem?_eq_getElem hm,em]
       have ki:keyP es (L.getD i 0)=[e.c.2,e.c.1,(j:Int)]:=by rw[List.getD_eq_getElem?_getD,hj,Option.getD_some];unfold keyP;rw[he]
       simp only[kn,ki]at this
       cases q':HT.lexLt [f.c.2,f.c.1] [e.c.2,e.c.1] with
       |false=>rfl
       |true=>rw[lex3 q']at this;cases this
      .rw[hos];unfold wk;rw[<- List.map_drop,<- List.map_take,<- List.map_append,<- List.map_drop,<- List.map_take,<- List.map_append,List.filterMap_map,List.filterMap_map];rfl
end
open PySem L2 RP
theorem InOrd.pw{cs:List Cell}(h:InOrd cs):cs.Pairwise fun a b=>HT.lexLt [a.2,a.1] [b.2,b.1]=true:=by
 induction cs with
 |nil=>exact .nil
 |cons a r ih =>
  have ih':=ih fun i c d h1 h2=>h (i+1) c d (by simpa using h1) (by simpa using h2)
  refine List.pairwise_cons.mpr ⟨fun b hb=>?_,ih'⟩
  cases r with
  |nil=>cases hb
  |cons c r =>
   have h0:HT.lexLt [a.2,a.1] [c.2,c.1]=true:=h 0 a c rfl rfl;rcases List.mem_cons.mp hb with rfl |hb
   .exact h0
   .exact HT.lexLt_trans h0 ((List.pairwise_cons.mp ih').1 b hb)
theorem InOrd.nodup{cs:List Cell}(h:InOrd cs):cs.Nodup:=h.pw.imp fun {a b} q e=>by subst e;rw[HT.lexLt_irrefl]at q;cases q
theorem cR.key{c:Cell}{v:V}{H:Hp}(h:cR c v H):keyR (kC c) v H:=let ⟨b,e1,q⟩:=h;⟨b,e1,q⟩
theorem VR.keys{α:Type}{vs:List V}{l:List α}{R:α->V->Hp->Prop}{H:Hp}{f:α->List Key}(h:VR vs l R H)(m:∀x v,R x v H->keyR (f x) v H):VR vs (l.map f) keyR H:=by refine⟨by rw[List.length_map];exact h.1,fun i x v h1 h2=>?_⟩;rw[List.getElem?_map]at h1;obtain⟨y,hy,rfl⟩:=Option.map_eq_some_iff.mp h1;exact m y v (h.2 i y v hy h2)
theorem _root_.L2.But1.kt{pos:Pos}{qual:Str}{P:Addr}{H H':Hp}(b:But1 P H H')(l:LamAt pos qual P H):KT H H':=fun z xs e=>b z _ (l.ne e nofun) e
def lamQ (f:Str):Str:=f ++ ".<locals>." ++ "<lambda>"
abbrev lpT:Pos:=(⟨194,34,194,100⟩:Pos)
abbrev LamT (P:Addr) (H:Hp):Prop:=LamAt lpT (lamQ "_law_traced") P H
section
variable {P:Program}{w:World}{K:W.Frag}{mg:Str->Option Value}{base:Heap}
def zgL(K:W.Frag)(L:Addr):Sp:=fun vs H Q _=>∃(a:Addr) (us:List V) (cs:List Cell),vs=[.ref a]/\H a=some (.lst us)/\VR us cs cR H/\InOrd cs/\cs.length<=120/\LamT L H /\
 ∀p H' rs R R0,H p=none->But1 L H H'->LamT L H'->H' p=some (.lst rs)->VR rs R rR H'->R.Perm R0->R.Pairwise (fun r q=>HT.lexLt (keyI q) (keyI r)=false)->Whole cs R0->Q (.ref p) H'
theorem zeP {L c:Addr}(T:Txt P w K mg) (hB:Bm mg base) (hh:W.codeHdIn K c L=true) (g__law_lot:Fn P w K mg base 1 "_law_lot" ["_law_cells"] (spLot K)) (g__law_edges:Fn P w K mg base 2 "_law_edges" ["_law_there"] (zib K))
    (g__law_walked:Fn P w K mg base 3 "_law_walked" ["_law_there","_law_first"] (zgI K)) (g__law_told:Fn P w K mg base 2 "_law_told" ["_law_edges_here","_law_steps"] (zh6 K))
    (d:Df K mg "_law_traced" za6 ["_law_cells"]) (hc:d.fd.code=.ref c):FnOk P w K mg base CX0 5 d.f d.fd ["_law_cells"] (zgL K L):=by
  refine d.F.okL hc zaF (fun vs H Q E h=>?_) (fun A outer s H vs Q E hr h=>?_)
  . obtain⟨a,us,cs,rfl,_⟩:=h;rfl
  . obtain⟨a,us,cs,rfl,ea,hva,hord,hlen,hlam,k⟩:=h;have hu1:=hu_of hr
    refine⟨_,(zab (zas (i:=1) zaF.nd (by rfl) (Or.inl rfl) (zan g__law_lot.ok (hr.mono (by decide)) (by rfl) g__law_lot.m g__law_lot.kp g__law_lot.b .nil pass0 (pa_N (pv 0) zac)))
      (zab (zas (i:=2) zaF.nd (by rfl) (Or.inl rfl) zc3)
      (zab (zas (i:=3) zaF.nd (by rfl) (Or.inl rfl) (zbs zac))
      (zab (zbI PassesOwn.never rfl (za9 (zan g__law_edges.ok (hr.mono (by decide)) (by rfl) g__law_edges.m g__law_edges.kp g__law_edges.b .nil pass0 (pa_N (pv 1) zac))) (zae (i:=4) zaF.nd (by rfl) (Or.inl rfl))
      (zah (ps_if (zc1 (zcg hu1 (pv 4) (pv 2)))
      (zab (zbM (zan g__law_walked.ok (hr.mono (by decide)) (by rfl) g__law_walked.m g__law_walked.kp g__law_walked.b .nil pass0 (pa_N (pv 1) (pa_N (pv 4) zac))) (zbr (by rfl) (zaf (zae (i:=5) zaF.nd (by rfl) (Or.inl rfl)) (zaf (zae (i:=6) zaF.nd (by rfl) (Or.inl rfl)) zaA))))
      (zab (zbI PassesOwn.never rfl (za9 (pv 5)) (zae (i:=7) zaF.nd (by rfl) (Or.inl rfl))
      (zah (zdJ hu1 (pv 2) (pv 7) pe_bl rfl)))
      (zah (zbo (pe_bm PySem.F.plainAttrs_list PySem.F.slot_list_append PySem.F.type_list_append zaZ (pv 3) (zaj (zan g__law_told.ok (hr.mono (by decide)) (by rfl) g__law_told.m g__law_told.kp g__law_told.b .nil pass0 (pa_N (pv 5) (pa_N (pv 6) zac))) zac))))))
      za8)))
      (zah (zay (zgZ (k:=0) (N:=["_law_one"]) (hr.mono (by decide)) (by rfl) T.nsorted rfl hh hB (by rfl) ⟨rfl,rfl,rfl,by decide +kernel,rfl,by decide +kernel,by decide +kernel⟩ (fun _ _ _ _=>rfl) (pv 3) (fun _ _ _ _ _ _=>(zax (zaj (pe_ix (zdb (K:=K)) (pv 0) zag (fun _ _=>rfl)) (zaj (pe_ix (zdb (K:=K)) (pv 0) zag (fun _ _=>rfl)) (zaj (zcO op_eq (pe_ix (zdb (K:=K)) (pv 0) zag (fun _ _=>rfl)) zgY (zaO _)) zac)))))))))))),?_⟩
    have hnd:=hord.nodup;have hcn:(cs.map kC).Nodup:=List.Pairwise.map _ (fun a b hab e=>hab (zfF.mp e)) hnd;refine⟨_,rfl,a,us,cs.map kC,rfl,SqL.of ea,hva.keys (f:=kC) fun x v h=>h.key,hcn,by rw[List.length_map];lia,fun t H1 ht s1 e1=>?_⟩;refine fun dd hdd=>⟨(by show 0<=sizeLine;decide),fun p hp=>?_⟩
    have hpd:p≠dd:=fun z=>by subst z;rw[zaa]at hp;cases hp
    have s4:Same H1 (upd (upd H1 dd (.dT [])) p (.lst [])):=(Same.up hdd).trans (Same.up hp);have d4:upd (upd H1 dd (.dT [])) p (.lst []) dd=some (.dT []):=by rw[zai (Ne.symm hpd),zaa]
    have p4:upd (upd H1 dd (.dT [])) p (.lst []) p=some (.lst []):=zaa;have n2:H1 dd=none:=hdd;have n2p:H1 p=none:=by rw[zai hpd]at hp;exact hp
    generalize upd (upd H1 dd (.dT [])) p (.lst [])=H4 at s4 d4 p4;have t4:=s4 _ _ e1;have a4:=(s1.trans s4) _ _ ea;have s14:=s1.trans s4;refine⟨_,rfl,t,cs,rfl,t4,hlen,fun pe H5 es hpe f5 e5 hvE=>?_⟩;obtain⟨f5,od,t5⟩:=f5;have kt5:KT H4 H5:=fun b xs e=>f5 b _ (ne_of e t4 (fun z=>nomatch z)) e
    have s15:Same H H5:=fun b o e=>f5 b o (zam e ht) (s14 _ _ e)
    have d5:H5 dd=some (.dT []):=f5 _ _ (zam e1 n2).symm d4;have p5:H5 p=some (.lst []):=f5 _ _ (zam e1 n2p).symm p4;have hped:pe≠dd:=(zam d4 hpe).symm;have hpep:pe≠p:=(zam p4 hpe).symm;have htd:t≠dd:=zam e1 n2;have htp:t≠p:=zam e1 n2p;have nHd:H dd=none:=s1.free n2;have nHp:H p=none:=s1.free n2p;refine⟨pe,rfl,⟨_,SqL.of e5⟩,?_⟩
    refine zaD (K := K) (a := pe) (xs := es) (fun i σ H6 => ∃o4 o5 o6 o7, σ = [some (.ref a), some (.ref t), some (.ref dd), some (.ref p), o4, o5, o6, o7] /\ Same H H6 /\ H6 t=some (.frz od (.dT (tru (cs.map kC)))) /\ H6 pe=some (.lst es) /\ KT H5 H6 /\
        ∃kvs rs ESS R,H6 dd=some (.dT kvs)/\H6 p=some (.lst rs)/\VR rs R rR H6/\Part (isIn cs) ESS R/\(∀e,(valV kvs (kE e)).isSome=decide (e∈ESS.flatten))/\kvs.length<=ESS.flatten.length/\∀e∈(allE cs).take i,e∈ESS.flatten)
      ⟨_,_,_,_,rfl,s15,t5,e5,KT.refl _,[],[],[],[],d5,p5,VR.nil,Part.nil,(fun e=>by simp[valV]),Nat.le_refl _,(fun e he=>by simp at he)⟩ (fun i σ H6 _ ⟨_,_,_,_,_,_,_,e6,_⟩=>SqL.of e6) ?_ ?_
    . rintro i v σ H6 hi ⟨o4,o5,o6,o7,rfl,s6,t6,e6,kt6,kvs,rs,ESS,R,d6,p6,hR,hP,hkv,hkl,hall⟩;obtain⟨e,he,b,rfl,qb⟩:=hvE.at hi;have hE:IsE (isIn cs) e:=zg8.mp (List.mem_of_getElem? he);have qb6:=kt6 _ _ qb;refine⟨_,rfl,_,rfl,dd,_,rfl,.inr ⟨kvs,kE e,b,Rd.of d6,rfl,qb6,rfl⟩,_,rfl,?_⟩;rw[hkv]
      by_cases hin:e∈ESS.flatten
      . rw[decide_eq_true hin];refine iteF ⟨_,_,_,_,rfl,s6,t6,e6,kt6,kvs,rs,ESS,R,d6,p6,hR,hP,hkv,hkl,fun f hf=>?_⟩;rcases (zcv he).mp hf with z |z
        . exact hall f z
        . rw[z];exact hin
      . rw[decide_eq_false hin];refine iteT ?_
        have tab6:TabR H6 t (isIn cs):=TabR.of (.inr ⟨od,t6⟩);refine⟨_,rfl,_,rfl,t,b,cs,e,rfl,tab6,qb6,hE,hlen,fun pw pu pq H7 ws fs s7 f7 e7 hv7 q7 hcl=>?_⟩;have hfs:fs.length<=4*cs.length:=hcl.1.short;have hap:=hcl.apart hP.back hin;have d7:=s7 _ _ d6;have hud:pu≠dd:=ne_of e7 d7 (fun z=>nomatch z);have hws:ws.length=fs.length:=hv7.1;refine⟨pw,_,rfl,SqT.of f7,rfl,_,_,rfl,_,_,rfl,rfl,?_⟩;refine⟨_,rfl,pu,rfl,⟨_,SqL.of e7⟩,?_⟩
        refine zaD (K := K) (a := pu) (xs := ws) (fun j σ H8 => ∃o7, σ = [some (.ref a), some (.ref t), some (.ref dd), some (.ref p), some (.ref b), some (.ref pu), some (.ref pq), o7] /\ (∀z o, z ≠ dd -> H7 z=some o -> H8 z=some o) /\
            ∃kv8,H8 dd=some (.dT kv8)/\(∀f,(valV kv8 (kE f)).isSome=decide (f∈ESS.flatten∨f∈fs.take j))/\kv8.length<=ESS.flatten.length+j)
          ⟨_,rfl,(fun z o _ h=>h),kvs,d7,(fun f=>by rw[hkv];simp),by lia⟩ (fun j σ H8 _ ⟨_,_,k8,_⟩=>SqL.of (k8 _ _ hud e7)) ?_ ?_
        . rintro j u σ H8 hj ⟨o7,rfl,k8,kv8,d8,hk8,hl8⟩;obtain⟨f,hf',bb,rfl,q2⟩:=hv7.at hj;have nb:bb≠dd:=ne_of q2 d7 (fun z=>nomatch z);have hjl:j<fs.length:=by rw[<- hws];exact (List.getElem?_eq_some_iff.mp hj).1
          have hsm:=hP.small;refine⟨_,rfl,_,rfl,dd,_,rfl,.inr ⟨kv8,kE f,bb,d8,rfl,k8 _ _ nb q2,zao (by lia),rfl⟩,?_⟩;refine⟨_,rfl,(fun z o hz h=>by rw[zai hz];exact k8 z o hz h),_,zaa,(fun g=>?_),Nat.le_trans (zba _ _ _) (by lia)⟩;rw[zcX]
          by_cases eg:g=f
          . rw[if_pos (zkf.mpr eg),decide_eq_true (.inr ((zcv hf').mpr (.inr eg)))];rfl
          . rw[if_neg (fun z=>eg (zkf.mp z)),hk8];refine decide_eq_decide.mpr ⟨fun z=>z.imp id fun q=>(zcv hf').mpr (.inl q),fun z=>z.imp id fun q=>((zcv hf').mp q).resolve_right eg⟩
        . rintro σ H8 ⟨o7,rfl,k8,kv8,d8,hk8,hl8⟩;rw[hws,List.take_length]at hk8;have p8:=k8 _ _ hpd (s7 _ _ p6);have kt8:KT H7 H8:=fun z xs h=>k8 z _ (ne_of h d7 (fun q=>nomatch q)) h
          have u8:H8 pu=some (.lst ws):=k8 _ _ hud e7;have q8:H8 pq=some (.lst ((fs.map (stepB (isIn cs))).map sv)):=k8 _ _ (ne_of q7 d7 (fun z=>nomatch z)) q7;have hrl:rs.length<=120:=by rw[hR.1];exact Nat.le_trans hP.few hlen
          refine⟨_,rfl,.inl ⟨rfl,_,SqL.of p8⟩,_,rfl,_,rfl,pu,pq,ws,isIn cs,fs,rfl,u8,hv7.mono (fun x v hx=>hx.kt kt8),q8,by lia,hcl.has (.inl rfl),hcl.has (.inr rfl),fun vr H9 r s9 hr9 hrn=>?_⟩;have p9:=s9 _ _ p8;refine⟨p,rs,_,rfl,rfl,p9,zao (by lia),?_⟩;have kt9:KT H9 (upd H9 p (.lst (rs++[vr]))):=KT.lst p9;have ktA:KT H6 (upd H9 p (.lst (rs++[vr]))):=(KT.of s7).trans (kt8.trans ((KT.of s9).trans kt9));refine⟨_,_,_,_,rfl,(fun z o h=>?_),?_,?_,kt6.trans ktA,kv8,rs++[vr],ESS++[fs],R++[r],?_,zaa,hR.snoc (fun x v hx=>hx.kt ktA) (hr9.kt kt9),hP.snoc hcl hrn hin,(fun f=>?_),?_,(fun f hf=>?_)⟩
          . rw[zai (zam h nHp)];exact s9 _ _ (k8 _ _ (zam h nHd) (s7 _ _ (s6 _ _ h)))
          . rw[zai htp];exact s9 _ _ (k8 _ _ htd (s7 _ _ t6))
          . rw[zai hpep];exact s9 _ _ (k8 _ _ hped (s7 _ _ e6))
          . rw[zai (Ne.symm hpd)];exact s9 _ _ d8
          . rw[hk8];refine decide_eq_decide.mpr ?_
            rw[List.flatten_append,List.mem_append];simp
          . rw[List.flatten_append,List.length_append,show [fs].flatten=fs by simp];lia
          . rw[List.flatten_append,List.mem_append];rcases (zcv he).mp hf with z |z
            . exact .inl (hall f z)
            . rw[z];refine .inr ?_
              have:=hcl.1.1;simpa using List.mem_of_getElem? this
    . rintro σ H6 ⟨o4,o5,o6,o7,rfl,s6,t6,e6,kt6,kvs,rs,ESS,R,d6,p6,hR,hP,hkv,hkl,hall⟩;rw[hvE.1,List.take_length]at hall;have hrl:rs.length<=120:=by rw[hR.1];exact Nat.le_trans hP.few hlen
      have ge:∀(i:Nat) r,R[i]?=some r->R.getD i ⟨"",0,0,[]⟩=r:=fun i r h=>by simp only[List.getD_eq_getElem?_getD,h,Option.getD_some]
      have lam6:LamT L H6:=hlam.same s6
      refine⟨_,rfl,p,rs,fun i=>keyV (R.getD i ⟨"",0,0,[]⟩),fun i=>keyI (R.getD i ⟨"",0,0,[]⟩),rfl,lam6,SqL.of p6,by lia,fun i x H7 hx b7=>?_,
        fun i j hi hj=>⟨_,_,_,_,_,_,rfl,rfl,.cons (.int _ _) (.cons (.bl _ _) .nil),rfl,rfl⟩,fun pp D H7 hpm hpo hD b7 l7 f7=>?_⟩
      . obtain⟨r,hr',x1,x2,rfl,q1,q2⟩:=hR.at hx;have q7:=b7.kt lam6 _ _ q1;refine⟨_,rfl,x1,_,_,_,rfl,rfl,SqT.of q7,zaM (j:=2) rfl,_,rfl,x1,_,_,_,rfl,rfl,SqT.of q7,zaM (j:=1) rfl,_,rfl,x1,_,_,_,rfl,rfl,SqT.of q7,zaM (j:=0) rfl,rfl,three,fun q hq=>⟨Same.up hq,q,rfl,SqT.of ?_⟩⟩;show upd H7 q _ q=some (HO.tup (keyV (R.getD i ⟨"",0,0,[]⟩)));rw[ge i r hr',zaa];rfl
      . have kt7:=b7.kt lam6;have hpl:pp.length=R.length:=by rw[hpm.length_eq,List.length_range,hR.1]
        have hlt:∀i∈pp,i<R.length:=fun i hi=>by have:=List.mem_range.mp (hpm.mem_iff.mp hi);rw[hR.1]at this;exact this
        have hRR:(pp.map fun i=>R.getD i ⟨"",0,0,[]⟩).Perm R:=by
          have h1:=hpm.map fun i=>R.getD i (⟨"",0,0,[]⟩:Rnd)
          rw[hR.1]at h1
          have h2:((List.range R.length).map fun i=>R.getD i (⟨"",0,0,[]⟩:Rnd))=R:=by
            apply List.ext_getElem
            . simp
            . intro i a b;simp[show i<R.length by simpa using a]
          rw[h2]at h1;exact h1
        have vR:VR (pp.map fun i=>rs.getD i V.non) (pp.map fun i=>R.getD i ⟨"",0,0,[]⟩) rR H7:=by
          refine⟨by simp,fun i r v h1 h2=>?_⟩;rw[List.getElem?_map]at h1 h2;obtain⟨a,ha,rfl⟩:=Option.map_eq_some_iff.mp h1;rw[ha]at h2
          cases h2
          have hal:=hlt a (List.mem_of_getElem? ha);have hal2:a<rs.length:=by rw[hR.1];exact hal
          have e1:R.getD a ⟨"",0,0,[]⟩=R[a]:=by simp[hal]
          have e2:rs.getD a V.non=rs[a]:=by simp[hal2]
          rw[e1];show rR R[a] (rs.getD a V.non) H7;rw[e2];exact (hR.2 a _ _ (List.getElem?_eq_getElem hal) (List.getElem?_eq_getElem hal2)).kt kt7
        refine k D H7 _ _ R (s6.free hD) (s6.but1.trans b7) l7 f7 vR hRR ?_ ⟨ESS,hP,fun e=>⟨hP.isE e,fun h=>hall e (zg8.mpr h)⟩⟩
        rw[List.pairwise_map];exact hpo
end
open PySem L2 RP
theorem Can.sum {C:Cell->Bool}{es:List Edge}{r:Rnd}(h:Can C es r):(r.so = "rim" /\ (es.map (tt C)).sum=4)∨(r.so = "hole" /\ (es.map (tt C)).sum=-4):=by
 have e:(es.map (tt C)).sum=(nL (wk C es):Int)-nS (wk C es):=by rw[nL_wk,nS_wk,<- zex]
 rw[h.so,e];unfold sortS;rcases zhY h.cl with z |z
 .left;rw[if_pos (by lia)];exact⟨rfl,z⟩
 .right;rw[if_neg (by lia)];exact⟨rfl,z⟩
theorem zfY {r:Rnd}(h:r.so = "hole"):begE r=⟨(r.x,r.y),2⟩:=by unfold begE;rw[h];rfl
theorem ziN{a b:Cell}:HT.lexLt [a.2,a.1] [b.2,b.1]=false ↔ cLe b a:=by
 unfold cLe;simp only[HT.lexLt]
 by_cases e:a.2=b.2
 .rw[if_pos e]
  by_cases f:a.1=b.1
  .rw[if_pos f];simp;lia
  .rw[if_neg f];simp;lia
 .rw[if_neg e];simp;lia
theorem zk2{a b:Cell}:Bfr a b ↔ ¬ cLe b a:=by
 rw[<- ziN];show HT.lexLt [a.2,a.1] [b.2,b.1]=true ↔ _
 cases HT.lexLt [a.2,a.1] [b.2,b.1] <;> simp
theorem Can.least {C:Cell->Bool}{es:List Edge}{r:Rnd}(h:Can C es r) (hs:r.so = "hole"):⟨(r.x,r.y),2⟩∈es/\∀e∈es,e.w=2->cLe (r.x,r.y) e.c:=by obtain⟨b1,b2,b3⟩:=h.bg;rw[zdj]at b1 b3;rw[zfY hs]at b1 b2 b3;refine⟨b1,fun e he hw=>?_⟩;have:=b3 e he (by rw[hw,hs];rfl);exact ziN.mp this
theorem Cans.head {cs:List Cell}{ESS:List (List Edge)}{R:List Rnd}(h:Cans (isIn cs) ESS R) (g:Cell):zcp (isIn cs) g ↔ ∃r∈R,r.so = "hole" /\ g=(r.x,r.y+1):=by
 constructor
 .intro fg;obtain⟨hE,hgap⟩:=fg.edge;obtain⟨es,h1,h2⟩:=List.mem_flatten.mp ((h.all _).mpr hE);obtain⟨i,hi,ei⟩:=List.getElem_of_mem h1;have hiR:i<R.length:=by rw[h.al.length];exact hi
  have hr:R[i]?=some R[i]:=List.getElem?_eq_getElem hiR;obtain⟨es',e1,hcan⟩:=h.so hr;rw[List.getElem?_eq_getElem hi,ei]at e1
  cases e1
  obtain⟨hs,hle⟩:=fg.hole hcan.cl h2
  have hso:R[i].so = "hole":=by
   rcases hcan.sum with⟨_,z⟩ |⟨z,_⟩
   .lia
   .exact z
  refine⟨R[i],List.getElem_mem hiR,hso,?_⟩;obtain⟨m1,m2⟩:=hcan.least hso;have a:=m2 _ h2 rfl;have b:=hle _ m1;rw[gap2]at b;unfold cLe at a b;simp only at a b;exact Prod.ext (by simp only;lia) (by simp only;lia)
 .rintro⟨r,hr,hso,rfl⟩;obtain⟨i,hi,ei⟩:=List.getElem_of_mem hr;obtain⟨es,e1,hcan⟩:=h.so (show R[i]?=some r by rw[List.getElem?_eq_getElem hi,ei]);obtain⟨m1,m2⟩:=hcan.least hso
  have hs:(es.map (tt (isIn cs))).sum=-4:=by
   rcases hcan.sum with⟨z,_⟩ |⟨_,z⟩
   .rw[hso]at z;exact absurd z (by decide)
   .exact z
  have:=(zen hcan.cl hs m1 m2).1;rw[gap2]at this;exact this
theorem Cans.inb{cs:List Cell}{ESS:List (List Edge)}{R:List Rnd}(h:Cans (isIn cs) ESS R){g d:Cell}(fg:zcp (isIn cs) g)(hd:Rch (no (isIn cs)) S4 g d){l lo r hi:Int}(hB:BoxOf cs l lo r hi) :
  (l<=d.1/\d.1<=r/\lo<d.2/\d.2<hi):=by
 obtain⟨rr,hr,hso,eg⟩:=(h.head g).mp fg;obtain⟨i,hi',ei⟩:=List.getElem_of_mem hr;obtain⟨es,e1,hcan⟩:=h.so (show R[i]?=some rr by rw[List.getElem?_eq_getElem hi',ei]);obtain⟨m1,m2⟩:=hcan.least hso
 have hs:(es.map (tt (isIn cs))).sum=-4:=by
  rcases hcan.sum with⟨z,_⟩ |⟨_,z⟩
  .rw[hso]at z;exact absurd z (by decide)
  .exact z
 have hw:=(zen hcan.cl hs m1 m2).2 d (by rw[gap2];rw[eg]at hd;exact hd);exact wd_in hcan.cl (fun e he=>of_decide_eq_true (hcan.cl.1.2.2.1 e he).2.1) hB (by rw[hw];decide)
theorem Cans.shut{cs:List Cell}{ESS:List (List Edge)}{R:List Rnd}(h:Cans (isIn cs) ESS R){g:Cell}(fg:zcp (isIn cs) g){D:Cell -> Bool}{l lo r hi:Int}(hB:BoxOf cs l lo r hi)(hF:FreeOf D cs l lo r hi) :
  D g=true/\¬ Rch D S4 (l,lo) g:=by
 have hin:=h.inb fg .refl hB
 have hD:D g=true:=(hF.iff g).mpr ⟨⟨hin.1,hin.2.1,by lia,by lia⟩,fun m=>by have:=fg.1;rw[show isIn cs g=true from decide_eq_true m]at this;cases this⟩
 refine⟨hD,fun k=>?_⟩;have:=h.inb fg (ziL hF (k.symm zcU (zlS hB hF))) hB;simp only at this;lia
open PySem L2 RP
def Small(cs:List Cell):Prop:=∃l lo:Int,∀c∈cs,l<=c.1/\c.1<l+12/\lo<=c.2/\c.2<lo+10
def boxL(l lo:Int):List Cell:=(List.range 14).flatMap fun i:Nat=>(List.range 12).map fun j:Nat=>(l-1+(i:Int),lo-1+(j:Int))
theorem zc6{l lo:Int}{d:Cell}(h:l-1<=d.1/\d.1<=l+12/\lo-1<=d.2/\d.2<=lo+10):d∈boxL l lo :=
 List.mem_flatMap.mpr ⟨(d.1-(l-1)).toNat,List.mem_range.mpr (by lia),List.mem_map.mpr ⟨(d.2-(lo-1)).toNat,List.mem_range.mpr (by lia),Prod.ext (by show l-1+(((d.1-(l-1)).toNat:Nat):Int)=d.1;lia) (by show lo-1+(((d.2-(lo-1)).toNat:Nat):Int)=d.2;lia)⟩⟩
theorem zdx(l lo:Int):(boxL l lo).length=168:=by
 unfold boxL;simp
 decide
structure Grd (P:List Cell) (l lo r:Int) (i j:Nat) (Fr:List Cell):Prop where
 nd:Fr.Nodup
 iff:∀c,c∈Fr ↔ c ∉ P/\l<=c.1/\c.1<=r/\lo<=c.2/\(c.2<lo+i∨(c.2=lo+i/\c.1<l+j))
theorem Grd.skip{P:List Cell}{l lo r:Int}{i j:Nat}{Fr:List Cell}(h:Grd P l lo r i j Fr)(hm:(l+(j:Int),lo+(i:Int))∈P):Grd P l lo r i (j+1) Fr:=⟨h.nd,fun c=>by
 rw[h.iff];constructor
 .rintro⟨h1,h2,h3,h4,h5⟩;exact⟨h1,h2,h3,h4,by lia⟩
 .rintro⟨h1,h2,h3,h4,h5⟩;refine⟨h1,h2,h3,h4,?_⟩;rcases h5 with z |⟨z,y⟩
  .exact .inl z
  .rcases Int.lt_or_le c.1 (l+j) with u |u
   .exact .inr ⟨z,u⟩
   .exfalso;have:c=(l+(j:Int),lo+(i:Int)):=Prod.ext (by show c.1=l+j;lia) z;rw[this]at h1;exact h1 hm⟩
theorem Grd.more{P:List Cell}{l lo r:Int}{i j:Nat}{Fr:List Cell}(h:Grd P l lo r i j Fr)(hm:(l+(j:Int),lo+(i:Int)) ∉ P)(hr:l+j<=r):(l+(j:Int),lo+(i:Int)) ∉ Fr/\Grd P l lo r i (j+1) (Fr++[(l+(j:Int),lo+(i:Int))]):=by
 have hn:(l+(j:Int),lo+(i:Int)) ∉ Fr:=fun m=>by have:=((h.iff _).mp m).2.2.2.2;simp only at this;lia
 refine⟨hn,?_,fun c=>?_⟩
 .rw[List.nodup_append];exact⟨h.nd,by simp,fun u hu v hv e=>by rw[List.mem_singleton.mp hv]at e;exact hn (e ▸ hu)⟩
 .rw[List.mem_append,List.mem_singleton,h.iff];constructor
  .rintro (⟨h1,h2,h3,h4,h5⟩ |rfl)
   .exact⟨h1,h2,h3,h4,by lia⟩
   .exact⟨hm,by simp only;lia,hr,by simp only;lia,.inr ⟨rfl,by simp only;lia⟩⟩
  .rintro⟨h1,h2,h3,h4,h5⟩;rcases h5 with z |⟨z,y⟩
   .exact .inl ⟨h1,h2,h3,h4,.inl z⟩
   .rcases Int.lt_or_le c.1 (l+j) with u |u
    .exact .inl ⟨h1,h2,h3,h4,.inr ⟨z,u⟩⟩
    .exact .inr (Prod.ext (by show c.1=l+j;lia) z)
theorem Grd.row{P:List Cell}{l lo r:Int}{i j:Nat}{Fr:List Cell}(h:Grd P l lo r i j Fr)(hr:r<l+j):Grd P l lo r (i+1) 0 Fr:=⟨h.nd,fun c=>by
 rw[h.iff];constructor
 .rintro⟨h1,h2,h3,h4,h5⟩;exact⟨h1,h2,h3,h4,by lia⟩
 .rintro⟨h1,h2,h3,h4,h5⟩;refine⟨h1,h2,h3,h4,by lia⟩⟩
section
variable {P:Program}{w:World}{K:W.Frag}{mg:Str->Option Value}{base:Heap}
def zj3(K:W.Frag):Sp:=fun vs H Q _=>∃(a:Addr) (us:List V) (cs:List Cell),vs=[.ref a]/\H a=some (.lst us)/\VR us cs cR H/\cs≠[]/\cs.length<=120 /\
 ∀p H' l lo r hi,H p=none->Same H H'->H' p=some (.tup [.int (l-1),.int (lo-1),.int (r+1),.int (hi+1)])->IsMin (cs.map (·.1)) l->IsMin (cs.map (·.2)) lo->IsMax (cs.map (·.1)) r->IsMax (cs.map (·.2)) hi->Q (.ref p) H'
theorem zhF (T:Txt P w K mg) (d:Df K mg "_law_box" zbq ["_law_cells"]):FnOk P w K mg base CX0 1 d.f d.fd ["_law_cells"] (zj3 K):=by
 refine d.F.ok zcN (fun vs H Q E h=>?_) (fun cdv A outer s H vs Q E hr h=>?_)
 .obtain⟨a,us,cs,rfl,_⟩:=h;rfl
 .obtain⟨a,us,cs,rfl,ea,hva,hne,hlen,k⟩:=h;have hu1:=hu_of hr;have nb0:(["_law_x","_law_y"]:List Str).Nodup:=by decide +kernel
  have nb1:(["_law_x","_law_y"]:List Str).Nodup:=by decide +kernel
  refine⟨_,(zab (zgW (i:=1) (osc:=zad zbq) (N:=zdi) (N':=["_law_x","_law_y"]) (sel:=[none,none]) ⟨rfl,by decide +kernel,by decide +kernel,by decide +kernel,rfl,by decide +kernel⟩ zcN.nd (by rfl) (Or.inl rfl) (za9 (pv 0)) (fun _ _ _ _ _=>(zcu (K:=K) (n:=2) (by rfl) (zaf (zae (i:=0) nb0 (by rfl) (Or.inl rfl)) (zaf (zae (i:=1) nb0 (by rfl) (Or.inl rfl)) zaA)))) (fun _ _ _ _ _=>zdI) (fun _ _ _ _ _=>(pv 0)))
   (zab (zgW (i:=2) (osc:=zad zbq) (N:=zdi) (N':=["_law_x","_law_y"]) (sel:=[none,none]) ⟨rfl,by decide +kernel,by decide +kernel,by decide +kernel,rfl,by decide +kernel⟩ zcN.nd (by rfl) (Or.inl rfl) (za9 (pv 0)) (fun _ _ _ _ _=>(zcu (K:=K) (n:=2) (by rfl) (zaf (zae (i:=0) nb1 (by rfl) (Or.inl rfl)) (zaf (zae (i:=1) nb1 (by rfl) (Or.inl rfl)) zaA)))) (fun _ _ _ _ _=>zdI) (fun _ _ _ _ _=>(pv 1)))
   (zah (zay (zax (pa_B (pe_op zcH (zaV (zfQ rfl) (by rfl) T.nmin (by rfl) (pa_N (pv 1) zac)) zag) (pa_B (pe_op zcH (zaV (zfQ rfl) (by rfl) T.nmin (by rfl) (pa_N (pv 2) zac)) zag) (pa_B (pe_op zaI (zaV (zfR rfl) (by rfl) T.nmax (by rfl) (pa_N (pv 1) zac)) zag) (pa_B (pe_op zaI (zaV (zfR rfl) (by rfl) T.nmax (by rfl) (pa_N (pv 2) zac)) zag) zac))))))))),?_⟩
  have hul:us.length=cs.length:=hva.1;refine⟨_,rfl,a,rfl,⟨_,SqL.of ea⟩,fun g hg=>?_⟩
  refine zaD (K:=K) (a:=a) (xs:=us) (fun i σ H2=>∃o0 o1,σ=[o0,o1]/\Same H H2/\H2 g=some (.lst (((cs.take i).map (·.1)).map V.int)))
   ⟨_,_,rfl,Same.up hg,zaa⟩ (fun i σ H2 _ ⟨_,_,_,s2,_⟩=>SqL.of (s2 _ _ ea)) ?_ ?_
  .rintro i v σ H2 hi ⟨o0,o1,rfl,s2,e2⟩;obtain⟨c,hc,b,rfl,qb⟩:=hva.at hi;have hil:i<cs.length:=(List.getElem?_eq_some_iff.mp hc).1;refine⟨b,_,rfl,SqT.of (s2 _ _ qb),rfl,_,_,rfl,_,_,rfl,rfl,?_⟩;refine zcY ?_
   refine⟨_,rfl,_,e2,zao (by simp;lia),_,_,rfl,zau hg s2,?_⟩;rw[zaa,zbb hc];simp
  .rintro σ H2 ⟨o0,o1,rfl,s2,e2⟩;rw[hul,List.take_length]at e2;refine⟨_,rfl,a,rfl,⟨_,SqL.of (s2 _ _ ea)⟩,fun g2 hg2=>?_⟩
   refine zaD (K:=K) (a:=a) (xs:=us) (fun i σ H3=>∃o0 o1,σ=[o0,o1]/\Same H2 H3/\H3 g2=some (.lst (((cs.take i).map (·.2)).map V.int)))
    ⟨_,_,rfl,Same.up hg2,zaa⟩ (fun i σ H3 _ ⟨_,_,_,s3,_⟩=>SqL.of (s3 _ _ (s2 _ _ ea))) ?_ ?_
   .rintro i v σ H3 hi ⟨o0,o1,rfl,s3,e3⟩;obtain⟨c,hc,b,rfl,qb⟩:=hva.at hi;have hil:i<cs.length:=(List.getElem?_eq_some_iff.mp hc).1;refine⟨b,_,rfl,SqT.of (s3 _ _ (s2 _ _ qb)),rfl,_,_,rfl,_,_,rfl,rfl,?_⟩;refine zcY ?_
    refine⟨_,rfl,_,e3,zao (by simp;lia),_,_,rfl,zau hg2 s3,?_⟩;rw[zaa,zbb hc];simp
   .rintro σ H3 ⟨o0,o1,rfl,s3,e3⟩;rw[hul,List.take_length]at e3;have e23:=s3 _ _ e2;have n1:cs.map (·.1)≠[]:=fun z=>hne (List.map_eq_nil_iff.mp z)
    have n2:cs.map (·.2)≠[]:=fun z=>hne (List.map_eq_nil_iff.mp z)
    refine⟨_,rfl,g,_,rfl,SqL.of e23,n1,fun l hl=>?_⟩;refine⟨_,_,rfl,rfl,_,rfl,g2,_,rfl,SqL.of e3,n2,fun lo hlo=>?_⟩;refine⟨_,_,rfl,rfl,_,rfl,g,_,rfl,SqL.of e23,n1,fun r hr'=>?_⟩;refine⟨_,_,rfl,rfl,_,rfl,g2,_,rfl,SqL.of e3,n2,fun hi hhi=>?_⟩;refine⟨_,_,rfl,rfl,(by show 4<=sizeLine;decide),fun p hp=>?_⟩;exact k p _ l lo r hi (s2.free (s3.free hp)) (s2.trans (s3.trans (Same.up hp))) zaa hl hlo hr' hhi
end
open PySem L2 RP
theorem _root_.L2.But1.at{pos:Pos}{qual:Str}{P a:Addr}{H H':Hp}{o:HO}(b:But1 P H H')(l:LamAt pos qual P H)(e:H a=some o)(n:∀ps,o≠.tbl ps):H' a=some o:=b a o (l.ne e n) e
abbrev lpW:Pos:=(⟨231,34,231,80⟩:Pos)
abbrev LamW (P:Addr) (H:Hp):Prop:=LamAt lpW (lamQ "_law_within") P H
structure Wi (es:List Edge) (l lo r hi:Int) (Sh:List Cell) (S:List Nat):Prop where
 nd:Sh.Nodup
 st:∀s∈S,s<8
 bx:∀c∈Sh,inBox l lo r hi c
 wn:∀c∈Sh,wd es c≠0
 lot:∀D:Cell->Bool,FreeOf D Sh l lo r hi->D (l,lo)=true/\∀c,D c=true->(Rch D S (l,lo) c ↔ wd es c=0)
 few:Sh.length<=168
theorem Wi.rim {cs:List Cell}{es:List Edge}{rd:Rnd}{l lo r hi:Int}{Sh:List Cell}(h:Can (isIn cs) es rd) (hso:rd.so = "rim") (hB:BoxOf cs l lo r hi) (hn:Sh.Nodup) (hS:∀c,c∈Sh ↔ Rch (isIn cs) S8 (rd.x,rd.y) c) (hf:Sh.length<=168):Wi es l lo r hi Sh S4:=by
 have eb:(begE rd).c=(rd.x,rd.y):=rfl;have bm:begE rd∈es:=List.mem_of_getElem? h.cl.1.1
 have hs:(es.map (tt (isIn cs))).sum=4:=by
  rcases h.sum with⟨_,z⟩ |⟨z,_⟩
  .exact z
  .rw[hso]at z;exact absurd z (by decide)
 have hbC:isIn cs (rd.x,rd.y)=true:=(h.cl.1.2.2.1 _ bm).2.1;have inc:∀c∈Sh,c∈cs:=fun c hc=>of_decide_eq_true (((hS c).mp hc).dom hbC)
 have hIn:InB Sh l lo r hi:=fun c hc=>hB.all c (inc c hc)
 refine⟨hn,(by decide),fun c hc=>?_,fun c hc=>?_,fun D hF=>⟨?_,fun c hc=>zlq h.cl hs (fun c=>by rw[eb];exact hS c) hIn hF hc⟩,hf⟩
 .have:=hB.all c (inc c hc);unfold inBox;lia
 .rw[zeu h.cl ((hS c).mp hc) hbC];rcases h.cl.inside with⟨_,k⟩ |⟨s,_⟩
  .have:=(k _ bm).1;rw[eb]at this;lia
  .lia
 .obtain⟨c,hc,_⟩:=hB.bot;have:=hB.all c hc;refine (hF.iff _).mpr ⟨⟨by simp,by simp only;lia,by simp,by simp only;lia⟩,fun m=>?_⟩;have:=hIn _ m;simp only at this;lia
theorem Wi.hole {cs:List Cell}{es:List Edge}{rd:Rnd}{ESS:List (List Edge)}{R:List Rnd}{l lo r hi:Int}{Sh:List Cell}{G:Cell -> Bool}(hc:Cans (isIn cs) ESS R) (hm:rd ∈ R) (h:Can (isIn cs) es rd) (hso:rd.so = "hole") (hB:BoxOf cs l lo r hi) (hG:FreeOf G cs l lo r hi) (hn:Sh.Nodup)
  (hS:∀c,c∈Sh ↔ Rch G S4 (rd.x,rd.y+1) c) (hf:Sh.length<=168):Wi es l lo r hi Sh S8:=by
 have eb:begE rd=⟨(rd.x,rd.y),2⟩:=zfY hso;have bm:begE rd∈es:=List.mem_of_getElem? h.cl.1.1;have eg:gap (begE rd)=(rd.x,rd.y+1):=by rw[eb];exact gap2 _
 have fg:zcp (isIn cs) (rd.x,rd.y+1):=(hc.head _).mpr ⟨rd,hm,hso,rfl⟩;obtain⟨gD,gn⟩:=hc.shut fg hB hG
 have hs:(es.map (tt (isIn cs))).sum=-4:=by
  rcases h.sum with⟨z,_⟩ |⟨_,z⟩
  .rw[hso]at z;exact absurd z (by decide)
  .exact z
 have hS':∀c,c∈Sh ↔ Rch (no (isIn cs)) S4 (gap (begE rd)) c:=fun c=>by rw[hS c,eg];exact⟨ziL hG,zlG hB hG gD gn⟩
 have hIn:InB Sh l lo r hi:=fun c hcm=>by
  have k:=(hS c).mp hcm;have kD:=k.dom gD;obtain⟨⟨i1,i2,i3,i4⟩,_⟩:=(hG.iff c).mp kD;have:¬ (c.1=l∨c.1=r∨c.2=lo∨c.2=hi):=fun z=>gn ((ring hB hG ⟨i1,i2,i3,i4⟩ z).trans (k.symm zcU gD))
  lia
 have hCb:∀x,isIn cs x=true->l<x.1/\x.1<r/\lo<x.2/\x.2<hi:=fun x hx=>hB.all x (of_decide_eq_true hx)
 refine⟨hn,(by decide),fun c hcm=>?_,fun c hcm=>?_,fun D hF=>⟨?_,fun c hcD=>zkV h.cl hs (by rw[eb]) (by rw[eg];exact fg) hS' hIn hCb hF hcD⟩,hf⟩
 .have:=hIn c hcm;unfold inBox;lia
 .rw[zdz h.cl ((hS' c).mp hcm) (by rw[eg];exact fg.1)];rcases h.cl.inside with⟨s,_⟩ |⟨_,k⟩
  .lia
  .have:=(k _ bm).2;lia
 .obtain⟨c,hc',_⟩:=hB.bot;have:=hB.all c hc';refine (hF.iff _).mpr ⟨⟨by simp,by simp only;lia,by simp,by simp only;lia⟩,fun m=>?_⟩;have:=hIn _ m;simp only at this;lia
theorem Wi.all{cs:List Cell}{es:List Edge}{rd:Rnd}{l lo r hi:Int}{Sh Fr By:List Cell}{S:List Nat}(h:Wi es l lo r hi Sh S)(hcan:Can (isIn cs) es rd)(hB:BoxOf cs l lo r hi)(hF:FreeOf (isIn Fr) Sh l lo r hi)(hn:Fr.Nodup)(hb:∀c, c ∈ By ↔ Rch (isIn Fr) S (l, lo) c) :
  (∀c,c∈Sh++Fr.filter (fun c=>!isIn By c) ↔ wd es c≠0)/\(Sh++Fr.filter (fun c=>!isIn By c)).Nodup:=by
 obtain⟨_,lot⟩:=h.lot _ hF;refine⟨fun c=>?_,?_⟩
 .rw[List.mem_append,List.mem_filter];constructor
  .rintro (z |⟨z,y⟩)
   .exact h.wn c z
   .intro w0;have:=(hb c).mpr ((lot c (decide_eq_true z)).mpr w0);rw[show isIn By c=true from decide_eq_true this]at y
    cases y
  .intro w0
   by_cases z:c∈Sh
   .exact .inl z
   .have hin:=wd_in hcan.cl (fun e he=>of_decide_eq_true (hcan.cl.1.2.2.1 e he).2.1) hB w0;have hD:isIn Fr c=true:=(hF.iff c).mpr ⟨⟨hin.1,hin.2.1,by lia,by lia⟩,z⟩;refine .inr ⟨of_decide_eq_true hD,?_⟩;rw[show isIn By c=false from decide_eq_false fun m=>w0 ((lot c hD).mp ((hb c).mp m))];rfl
 .refine List.nodup_append.mpr ⟨h.nd,hn.filter _,fun x hx y hy e=>?_⟩;subst e;exact ((hF.iff x).mp (decide_eq_true (List.mem_filter.mp hy).1)).2 hx
open PySem L2 RP
section
variable {P:Program}{w:World}{K:W.Frag}{mg:Str->Option Value}{base:Heap}
def zfj(K:W.Frag)(L:Addr):Sp:=fun vs H Q _=>∃(a:Addr) (v:V) (us:List V) (cs:List Cell) (rd:Rnd) (es:List Edge) (ESS:List (List Edge)) (R:List Rnd),vs=[.ref a,v]/\H a=some (.lst us)/\VR us cs cR H/\cs.Pairwise Bfr/\cs.length<=120/\Small cs/\rR rd v H/\Cans (isIn cs) ESS R/\rd∈R/\Can (isIn cs) es rd/\LamW L H /\
 ∀p H' vs F,H p=none->But1 L H H'->LamW L H'->H' p=some (.lst vs)->VR vs F cR H'->F.Pairwise Bfr->(∀c,c∈F ↔ wd es c≠0)->Q (.ref p) H'
theorem zeN {L c:Addr}(T:Txt P w K mg) (hB:Bm mg base) (hh:W.codeHdIn K c L=true) (g__law_lot:Fn P w K mg base 1 "_law_lot" ["_law_cells"] (spLot K)) (g__law_box:Fn P w K mg base 1 "_law_box" ["_law_cells"] (zj3 K)) (g__law_flood:Fn P w K mg base 2 "_law_flood" ["_law_there", "_law_first", "_law_steps"] (zia K))
  (d:Df K mg "_law_within" zaN ["_law_cells","_law_one"]) (hc:d.fd.code=.ref c):FnOk P w K mg base CX0 5 d.f d.fd ["_law_cells","_law_one"] (zfj K L):=by
 refine d.F.okL hc zal (fun vs H Q E h=>?_) (fun A outer s H vs Q E hr h=>?_)
 .obtain⟨a,v,us,cs,rd,es,ESS,R,rfl,_⟩:=h;rfl
 .obtain⟨a,v,us,cs,rd,es,ESS,R,rfl,ea,hva,hord,hlen,hsm,⟨x,b,rfl,q1,q2⟩,hcans,hrm,hcan,hlam,k⟩:=h;have hu1:=hu_of hr;have hu64:=hr.units;have nb0:(["_law_cell","_law_beyond"]:List Str).Nodup:=by decide +kernel
  refine⟨_,(zab (zas (i:=2) zal.nd (by rfl) (Or.inl rfl) (zan g__law_lot.ok (hr.mono (by decide)) (by rfl) g__law_lot.m g__law_lot.kp g__law_lot.b .nil pass0 (pa_N (pv 0) zac)))
   (zab (zbM (pv 1) (zbr (by rfl) (zaf (zae (i:=3) zal.nd (by rfl) (Or.inl rfl)) (zaf (zae (i:=4) zal.nd (by rfl) (Or.inl rfl)) (zaf (zae (i:=5) zal.nd (by rfl) (Or.inl rfl)) (zaf (zae (i:=6) zal.nd (by rfl) (Or.inl rfl)) zaA))))))
   (zab (zbM (zan g__law_box.ok (hr.mono (by decide)) (by rfl) g__law_box.m g__law_box.kp g__law_box.b .nil pass0 (pa_N (pv 0) zac)) (zbr (by rfl) (zaf (zae (i:=7) zal.nd (by rfl) (Or.inl rfl)) (zaf (zae (i:=8) zal.nd (by rfl) (Or.inl rfl)) (zaf (zae (i:=9) zal.nd (by rfl) (Or.inl rfl)) (zaf (zae (i:=10) zal.nd (by rfl) (Or.inl rfl)) zaA))))))
   (zab (zas (i:=11) zal.nd (by rfl) (Or.inl rfl) zc3)
   (zab (zas (i:=12) zal.nd (by rfl) (Or.inl rfl) (zbs (pa_C zag (pa_C zag (pa_C zag (pa_C zag zac))))))
   (zab (zas (i:=13) zal.nd (by rfl) (Or.inl rfl) (zan g__law_flood.ok (hr.mono (by decide)) (by rfl) g__law_flood.m g__law_flood.kp g__law_flood.b .nil pass0 (pa_N (pv 2) (pa_T (zax (pa_N (pv 4) (pa_N (pv 5) zac))) (zaj (zel (by rfl) T.nlist (by rfl) T.nrange (pa_C zag zac)) zac)))))
   (zab (ps_if (zaL op_eq (pv 3) zgY (zaO _))
   (zab (zas (i:=14) zal.nd (by rfl) (Or.inl rfl) zc3)
   (zab (zbI PassesOwn.never rfl (zct (by rfl) T.nrange (pa_N (pv 8) (pa_B (pe_op zaI (pv 10) zag) zac))) (zae (i:=15) zal.nd (by rfl) (Or.inl rfl))
   (zah (zbI PassesOwn.never rfl (zct (by rfl) T.nrange (pa_N (pv 7) (pa_B (pe_op zaI (pv 9) zag) zac))) (zae (i:=16) zal.nd (by rfl) (Or.inl rfl))
   (zah (ps_if (zc1 (zcg hu1 (zax (pa_N (pv 16) (pa_N (pv 15) zac))) (pv 2)))
   (zah (zdJ hu1 (pv 14) (zax (pa_N (pv 16) (pa_N (pv 15) zac))) pe_bl rfl))
   za8)))))
   (zab (zas (i:=13) zal.nd (by rfl) (Or.inl rfl) (zan g__law_flood.ok (hr.mono (by decide)) (by rfl) g__law_flood.m g__law_flood.kp g__law_flood.b .nil pass0 (pa_N (pv 14) (pa_T (zax (pa_N (pv 4) (pa_B (pe_op zaI (pv 5) zag) zac))) (pa_N (pv 12) zac)))))
   (zah (zas (i:=12) zal.nd (by rfl) (Or.inl rfl) (zel (by rfl) T.nlist (by rfl) T.nrange (pa_C zag zac)))))))
   za8)
   (zab (zbI PassesOwn.never rfl (zct (by rfl) T.nrange (pa_N (pv 8) (pa_B (pe_op zaI (pv 10) zag) zac))) (zae (i:=15) zal.nd (by rfl) (Or.inl rfl))
   (zah (zbI PassesOwn.never rfl (zct (by rfl) T.nrange (pa_N (pv 7) (pa_B (pe_op zaI (pv 9) zag) zac))) (zae (i:=16) zal.nd (by rfl) (Or.inl rfl))
   (zah (ps_if (zc1 (zcg hu1 (zax (pa_N (pv 16) (pa_N (pv 15) zac))) (pv 13)))
   (zah (zdJ hu1 (pv 11) (zax (pa_N (pv 16) (pa_N (pv 15) zac))) pe_bl rfl))
   za8)))))
   (zab (zas (i:=17) zal.nd (by rfl) (Or.inr rfl) (zan g__law_flood.ok (hr.mono (by decide)) (by rfl) g__law_flood.m g__law_flood.kp g__law_flood.b .nil pass0 (pa_N (pv 11) (pa_T (zax (pa_N (pv 7) (pa_N (pv 8) zac))) (pa_N (pv 12) zac)))))
   (zab (zas (i:=18) zal.nd (by rfl) (Or.inl rfl) (pe_op zg1 (zc4 (zfS rfl) (by rfl) T.nlist (by rfl) (pa_N (pv 13) zac)) (zbv (osc:=zad zaN) (N:=zcl) (N':=["_law_cell","_law_beyond"]) (sel:=[none,some 17]) ⟨rfl,by decide +kernel,by decide +kernel,by decide +kernel,rfl,by decide +kernel⟩ (zgX (pv 11)) (fun _ _ _ _ _=>(zae (i:=0) nb0 (by rfl) (Or.inl rfl))) (fun _ _ _ _ _=>zci (zc1 (zcg hu1 (pv 0) (pv 1)))) (fun _ _ _ _ _=>(pv 0)))))
   (zah (zay (zgZ (k:=0) (N:=["_law_cell"]) (hr.mono (by decide)) (by rfl) T.nsorted rfl hh hB (by rfl) ⟨rfl,rfl,rfl,by decide +kernel,rfl,by decide +kernel,by decide +kernel⟩ (fun _ _ _ _=>rfl) (pv 18) (fun _ _ _ _ _ _=>(zax (zaj (pe_ix (zdb (K:=K)) (pv 0) zag (fun _ _=>rfl)) (zaj (pe_ix (zdb (K:=K)) (pv 0) zag (fun _ _=>rfl)) zac))))))))))))))))),?_⟩
  have hσ:L2.start zcl [V.ref a,V.ref x]=[some (.ref a),some (.ref x),none,none,none,none,none,none,none,none,none,none,none,none,none,none,none,none,none]:=rfl;rw[hσ]
  have hne:cs≠[]:=fun z=>by have:=of_decide_eq_true (hcan.cl.1.2.2.1 _ (List.mem_of_getElem? hcan.cl.1.1)).2.1;rw[z]at this;cases this
  have hkn:(cs.map kC).Nodup:=List.Pairwise.map _ (fun a b hab e=>hab (zfF.mp e)) (zeH hord);refine⟨_,rfl,a,us,cs.map kC,rfl,SqL.of ea,hva.keys (f:=kC) (fun x v h=>h.key),hkn,by rw[List.length_map];lia,fun t H2 ht s2 e2=>?_⟩;rw[<- zlQ]at e2;refine⟨_,rfl,x,_,rfl,SqT.of (s2 _ _ q1),rfl,_,_,rfl,_,_,rfl,_,_,rfl,_,_,rfl,rfl,?_⟩;refine⟨_,rfl,a,us,cs,rfl,s2 _ _ ea,hva.mono (fun x v h=>h.kt (KT.of s2)),hne,hlen,fun pb H3 l lo r hi hpb s3 e3 hl hlo hr' hhi=>?_⟩;refine⟨pb,_,rfl,SqT.of e3,rfl,_,_,rfl,_,_,rfl,_,_,rfl,_,_,rfl,rfl,?_⟩
  have hBx:BoxOf cs (l-1) (lo-1) (r+1) (hi+1):=by
   refine⟨fun c hc=>?_,?_⟩
   .have q1:=hl.2 _ (List.mem_map.mpr ⟨c,hc,rfl⟩);have q2:=hlo.2 _ (List.mem_map.mpr ⟨c,hc,rfl⟩);have q3:=hr'.2 _ (List.mem_map.mpr ⟨c,hc,rfl⟩);have q4:=hhi.2 _ (List.mem_map.mpr ⟨c,hc,rfl⟩);lia
   .obtain⟨c,hc,e⟩:=List.mem_map.mp hlo.1;exact⟨c,hc,by rw[e];lia⟩
  have hdim:r-l<=11/\hi-lo<=9/\l<=r/\lo<=hi:=by obtain⟨l',lo',hs⟩:=hsm;obtain⟨c1,m1,q1⟩:=List.mem_map.mp hl.1;obtain⟨c2,m2,q2⟩:=List.mem_map.mp hlo.1;obtain⟨c3,m3,q3⟩:=List.mem_map.mp hr'.1;obtain⟨c4,m4,q4⟩:=List.mem_map.mp hhi.1;have p1:=hs c1 m1;have p2:=hs c2 m2;have p3:=hs c3 m3;have p4:=hs c4 m4;have b1:=hBx.all c1 m1;lia
  have inbL:∀c,inBox (l-1) (lo-1) (r+1) (hi+1) c->c∈boxL l lo:=fun c ⟨i1,i2,i3,i4⟩=>zc6 (by lia)
  refine fun rs hrs=>?_
  have s4:=Same.up (o:=.dT []) hrs;have r4:upd H3 rs (.dT []) rs=some (.dT []):=zaa;generalize upd H3 rs (.dT [])=H4 at s4 r4;refine⟨(by show 4<=sizeLine;decide),fun st hst=>?_⟩;have s5:=Same.up (o:=.lst [.int 0,.int 2,.int 4,.int 6]) hst;have e5:upd H4 st (.lst [.int 0,.int 2,.int 4,.int 6]) st=some (.lst [.int 0,.int 2,.int 4,.int 6]):=zaa;generalize upd H4 st (.lst [.int 0,.int 2,.int 4,.int 6])=H5 at s5 e5;have s35:=s4.trans s5;have t5:=(s3.trans s35) _ _ e2;refine⟨_,rfl,_,rfl,_,rfl,two,fun p6 hp6=>?_⟩;have s6:=Same.up (o:=.tup [.int rd.x,.int rd.y]) hp6;have e6:upd H5 p6 (.tup [.int rd.x,.int rd.y]) p6=some (.tup [.int rd.x,.int rd.y]):=zaa;generalize upd H5 p6 (.tup [.int rd.x,.int rd.y])=H6 at s6 e6;refine⟨8,rfl,by decide,fun q7 hq7=>?_⟩;have s7:=Same.up (o:=.lst ((List.range 8).map fun i:Nat=>V.int (i:Int))) hq7;have e7:upd H6 q7 (.lst ((List.range 8).map fun i:Nat=>V.int (i:Int))) q7=some (.lst ((List.range 8).map fun i:Nat=>V.int (i:Int))):=zaa;generalize upd H6 q7 (.lst ((List.range 8).map fun i:Nat=>V.int (i:Int)))=H7 at s7 e7;refine⟨t,p6,q7,(rd.x,rd.y),cs,List.range 8,rfl,Rd.of ((s6.trans s7) _ _ t5),s7 _ _ e6,e7,(fun s hs=>List.mem_range.mp hs),by lia,fun sh H8 Sh0 hsh s8 e8 hn8 hr8=>?_⟩;rw[show List.range 8=S8 by decide]at hr8;have s58:=s6.trans (s7.trans s8);have t8:=s58 _ _ t5;have r8:=(s5.trans s58) _ _ r4;have st8:=s58 _ _ e5;have s28:=s3.trans (s35.trans s58);simp only[zcE,List.set_cons_succ,List.set_cons_zero]
  refine zkB (I:=fun σ' H'=>∃(sd shd:Addr) (Sh:List Cell) (S:List Nat) (o14 o15 o16:Option V),σ'=[some (.ref a),some (.ref x),some (.ref t),some (.str rd.so),some (.int rd.x),some (.int rd.y),some (.ref b),some (.int (l-1)),some (.int (lo-1)),some (.int (r+1)),some (.int (hi+1)),some (.ref rs),some (.ref sd),some (.ref shd),o14,o15,o16,none,none] /\
   Same H8 H'/\H' sd=some (.lst (S.map fun s:Nat=>V.int (s:Int)))/\H' shd=some (.dT (dC Sh))/\shd≠rs/\Wi es (l-1) (lo-1) (r+1) (hi+1) Sh S) (fun nxt=>?_) (fun σ' H9 hI=>?_)
  .refine⟨_,rfl,rfl,_,rfl,?_⟩;refine ite2 (fun hy=>?_) (fun hn=>?_)
   .have hso:rd.so = "hole" := by have:=of_decide_eq_true hy;injection this with this
    refine fun gd hgd=>?_
    have sg:=Same.up (o:=.dT []) hgd;have g0:upd H8 gd (.dT []) gd=some (.dT []):=zaa;generalize upd H8 gd (.dT [])=H9 at sg g0;have t9:=sg _ _ t8;have ntg:t≠gd:=zam t8 hgd;refine⟨_,rfl,_,rfl,_,_,rfl,rfl,_,_,rfl,?_⟩
    refine zbK (lo:=lo-1) (n:=(hi+1+1-(lo-1)).toNat) (fun i σ HA=>∃o15 o16 Fr,σ=[some (.ref a),some (.ref x),some (.ref t),some (.str rd.so),some (.int rd.x),some (.int rd.y),some (.ref b),some (.int (l-1)),some (.int (lo-1)),some (.int (r+1)),some (.int (hi+1)),some (.ref rs),some (.ref st),some (.ref sh),some (.ref gd),o15,o16,none,none]/\(∀b o,b≠gd->H9 b=some o->HA b=some o)/\HA gd=some (.dT (dC Fr))/\Grd cs (l-1) (lo-1) (r+1) i 0 Fr)
     ⟨_,_,[],rfl,(fun _ _ _ h=>h),g0,⟨List.nodup_nil,fun c=>⟨fun h=>(by cases h),fun h=>(by obtain⟨_,_,_,h4,h5⟩:=h;lia)⟩⟩⟩ ?_ ?_
    .rintro i σ HA hi' ⟨o15,o16,Fr,rfl,kA,gA,grd⟩;refine⟨_,rfl,_,rfl,_,_,rfl,rfl,_,_,rfl,?_⟩
     refine zbK (lo:=l-1) (n:=(r+1+1-(l-1)).toNat) (fun j σ HB=>∃o16 Fr,σ=[some (.ref a),some (.ref x),some (.ref t),some (.str rd.so),some (.int rd.x),some (.int rd.y),some (.ref b),some (.int (l-1)),some (.int (lo-1)),some (.int (r+1)),some (.int (hi+1)),some (.ref rs),some (.ref st),some (.ref sh),some (.ref gd),(some (.int (lo-1+(i:Int)))),o16,none,none]/\(∀b o,b≠gd->H9 b=some o->HB b=some o)/\HB gd=some (.dT (dC Fr))/\Grd cs (l-1) (lo-1) (r+1) i j Fr)
      ⟨_,Fr,rfl,kA,gA,grd⟩ ?_ ?_
     .rintro j σ HB hj ⟨o16,Fr,rfl,kB,gB,grd⟩
      have hFl:Fr.length<=168:=by
       have:=zap grd.nd (b:=boxL l lo) fun c hc=>zc6 (by
        obtain⟨_,q1,q2,q3,q4⟩:=(grd.iff c).mp hc;lia)
       rw[zdx]at this;exact this
      refine⟨_,rfl,_,rfl,two,fun pa hpa=>?_⟩;have sa:=Same.up (o:=.tup [.int (l-1+(j:Int)),.int (lo-1+(i:Int))]) hpa;have ea':upd HB pa (.tup [.int (l-1+(j:Int)),.int (lo-1+(i:Int))]) pa=some (.tup [.int (l-1+(j:Int)),.int (lo-1+(i:Int))]):=zaa;generalize upd HB pa (.tup [.int (l-1+(j:Int)),.int (lo-1+(i:Int))])=HC at sa ea';have tC:=sa _ _ (kB _ _ ntg t9);refine⟨_,rfl,t,_,rfl,.inr ⟨_,kC (l-1+(j:Int),lo-1+(i:Int)),pa,Rd.of tC,rfl,ea',rfl⟩,_,rfl,?_⟩;rw[zcL]
      by_cases hm:(l-1+(j:Int),lo-1+(i:Int))∈cs
      .rw[show isIn cs (l-1+(j:Int),lo-1+(i:Int))=true from decide_eq_true hm];exact iteF ⟨_,Fr,rfl,fun b o n e=>sa _ _ (kB _ _ n e),sa _ _ gB,grd.skip hm⟩
      .rw[show isIn cs (l-1+(j:Int),lo-1+(i:Int))=false from decide_eq_false hm];obtain⟨hn',grd'⟩:=grd.more hm (by lia);refine iteT ⟨_,rfl,_,rfl,_,rfl,two,fun pb' hpb'=>?_⟩;have sb:=Same.up (o:=.tup [.int (l-1+(j:Int)),.int (lo-1+(i:Int))]) hpb';have eb:upd HC pb' (.tup [.int (l-1+(j:Int)),.int (lo-1+(i:Int))]) pb'=some (.tup [.int (l-1+(j:Int)),.int (lo-1+(i:Int))]):=zaa;generalize upd HC pb' (.tup [.int (l-1+(j:Int)),.int (lo-1+(i:Int))])=HD at sb eb;have gD:=(sa.trans sb) _ _ gB;refine⟨gd,_,rfl,.inr ⟨dC Fr,kC (l-1+(j:Int),lo-1+(i:Int)),pb',gD,rfl,eb,(by rw[zfO];exact bigF (by lia)),rfl⟩,?_⟩;rw[zgS hn'];refine⟨_,_,rfl,fun b o n e=>?_,zaa,grd'⟩;rw[zai n];exact (sa.trans sb) _ _ (kB _ _ n e)
     .rintro σ HB ⟨o16,Fr,rfl,kB,gB,grd⟩;exact⟨_,_,Fr,rfl,kB,gB,grd.row (by lia)⟩
    .rintro σ HA ⟨o15,o16,Fr,rfl,kA,gA,grd⟩
     have hF:FreeOf (isIn Fr) cs (l-1) (lo-1) (r+1) (hi+1):=⟨fun c=>by
      show decide (c∈Fr)=true ↔ _;rw[decide_eq_true_iff,grd.iff c];unfold inBox;constructor
      .rintro⟨h1,h2,h3,h4,h5⟩;exact⟨⟨h2,h3,h4,by lia⟩,h1⟩
      .rintro⟨⟨h2,h3,h4,h5⟩,h1⟩;exact⟨h1,h2,h3,h4,by lia⟩⟩
     have hFl:Fr.length<=168:=by
      have:=zap grd.nd (b:=boxL l lo) fun c hc=>zc6 (by
       obtain⟨_,q1,q2,q3,q4⟩:=(grd.iff c).mp hc;lia)
      rw[zdx]at this;exact this
     have kH8:Same H8 HA:=fun b o e=>kA _ _ (zam e hgd) (sg _ _ e)
     refine⟨_,rfl,_,rfl,_,rfl,_,_,rfl,rfl,two,fun pe hpe=>?_⟩;have se:=Same.up (o:=.tup [.int rd.x,.int (rd.y+1)]) hpe;have ee:upd HA pe (.tup [.int rd.x,.int (rd.y+1)]) pe=some (.tup [.int rd.x,.int (rd.y+1)]):=zaa;generalize upd HA pe (.tup [.int rd.x,.int (rd.y+1)])=HE at se ee;refine⟨_,rfl,gd,pe,st,(rd.x,rd.y+1),Fr,S4,rfl,Rd.of (se _ _ gA),ee,(kH8.trans se) _ _ st8,(by decide),by lia,fun shd HG Sh hshd sG eG hnG hrG=>?_⟩;refine⟨8,rfl,by decide,fun sd hsd=>?_⟩;have sS:=Same.up (o:=.lst ((List.range 8).map fun i:Nat=>V.int (i:Int))) hsd;have eS:upd HG sd (.lst ((List.range 8).map fun i:Nat=>V.int (i:Int))) sd=some (.lst ((List.range 8).map fun i:Nat=>V.int (i:Int))):=zaa;generalize upd HG sd (.lst ((List.range 8).map fun i:Nat=>V.int (i:Int)))=HS at sS eS;have fg:zcp (isIn cs) (rd.x,rd.y+1):=(hcans.head _).mpr ⟨rd,hrm,hso,rfl⟩;obtain⟨gD,_⟩:=hcans.shut fg hBx hF
     have hf:Sh.length<=168:=by
      have:=zap hnG (b:=Fr) fun c hc=>of_decide_eq_true (((hrG c).mp hc).dom gD)
      lia
     exact nxt _ _ ⟨sd,shd,Sh,S8,_,_,_,rfl,kH8.trans (se.trans (sG.trans sS)),eS,sS _ _ eG,(zam ((kH8.trans se) _ _ r8) hshd).symm,Wi.hole hcans hrm hcan hso hBx hF hnG hrG hf⟩
   .have hso:rd.so = "rim" := by
     rcases hcan.sum with⟨z,_⟩ |⟨z,_⟩
     .exact z
     .exact absurd (decide_eq_true (by rw[z])) hn
    have hbC:isIn cs (rd.x,rd.y)=true:=(hcan.cl.1.2.2.1 _ (List.mem_of_getElem? hcan.cl.1.1)).2.1
    have hf:Sh0.length<=168:=by
     have:=zap hn8 (b:=cs) fun c hc=>of_decide_eq_true (((hr8 c).mp hc).dom hbC)
     lia
    exact nxt _ _ ⟨st,sh,Sh0,S4,_,_,_,rfl,Same.refl _,st8,e8,(zam ((s5.trans (s6.trans s7)) _ _ r4) hsh).symm,Wi.rim hcan hso hBx hn8 hr8 hf⟩
  .obtain⟨sd,shd,Sh,S,o14,o15,o16,rfl,s9,e9,d9,ntg,wi⟩:=hI;have g0:=s9 _ _ r8;refine⟨_,rfl,_,rfl,_,_,rfl,rfl,_,_,rfl,?_⟩
   refine zbK (lo:=lo-1) (n:=(hi+1+1-(lo-1)).toNat) (fun i σ HA=>∃o15 o16 Fr,σ=[some (.ref a),some (.ref x),some (.ref t),some (.str rd.so),some (.int rd.x),some (.int rd.y),some (.ref b),some (.int (l-1)),some (.int (lo-1)),some (.int (r+1)),some (.int (hi+1)),some (.ref rs),some (.ref sd),some (.ref shd),o14,o15,o16,none,none]/\(∀b o,b≠rs->H9 b=some o->HA b=some o)/\HA rs=some (.dT (dC Fr))/\Grd Sh (l-1) (lo-1) (r+1) i 0 Fr)
    ⟨_,_,[],rfl,(fun _ _ _ h=>h),g0,⟨List.nodup_nil,fun c=>⟨fun h=>(by cases h),fun h=>(by obtain⟨_,_,_,h4,h5⟩:=h;lia)⟩⟩⟩ ?_ ?_
   .rintro i σ HA hi' ⟨o15,o16,Fr,rfl,kA,gA,grd⟩;refine⟨_,rfl,_,rfl,_,_,rfl,rfl,_,_,rfl,?_⟩
    refine zbK (lo:=l-1) (n:=(r+1+1-(l-1)).toNat) (fun j σ HB=>∃o16 Fr,σ=[some (.ref a),some (.ref x),some (.ref t),some (.str rd.so),some (.int rd.x),some (.int rd.y),some (.ref b),some (.int (l-1)),some (.int (lo-1)),some (.int (r+1)),some (.int (hi+1)),some (.ref rs),some (.ref sd),some (.ref shd),o14,(some (.int (lo-1+(i:Int)))),o16,none,none]/\(∀b o,b≠rs->H9 b=some o->HB b=some o)/\HB rs=some (.dT (dC Fr))/\Grd Sh (l-1) (lo-1) (r+1) i j Fr)
     ⟨_,Fr,rfl,kA,gA,grd⟩ ?_ ?_
    .rintro j σ HB hj ⟨o16,Fr,rfl,kB,gB,grd⟩
     have hFl:Fr.length<=168:=by
      have:=zap grd.nd (b:=boxL l lo) fun c hc=>zc6 (by
       obtain⟨_,q1,q2,q3,q4⟩:=(grd.iff c).mp hc;lia)
      rw[zdx]at this;exact this
     refine⟨_,rfl,_,rfl,two,fun pa hpa=>?_⟩;have sa:=Same.up (o:=.tup [.int (l-1+(j:Int)),.int (lo-1+(i:Int))]) hpa;have ea':upd HB pa (.tup [.int (l-1+(j:Int)),.int (lo-1+(i:Int))]) pa=some (.tup [.int (l-1+(j:Int)),.int (lo-1+(i:Int))]):=zaa;generalize upd HB pa (.tup [.int (l-1+(j:Int)),.int (lo-1+(i:Int))])=HC at sa ea';have tC:=sa _ _ (kB _ _ ntg d9);refine⟨_,rfl,shd,_,rfl,.inr ⟨_,kC (l-1+(j:Int),lo-1+(i:Int)),pa,Rd.of tC,rfl,ea',rfl⟩,_,rfl,?_⟩;rw[zcL]
     by_cases hm:(l-1+(j:Int),lo-1+(i:Int))∈Sh
     .rw[show isIn Sh (l-1+(j:Int),lo-1+(i:Int))=true from decide_eq_true hm];exact iteF ⟨_,Fr,rfl,fun b o n e=>sa _ _ (kB _ _ n e),sa _ _ gB,grd.skip hm⟩
     .rw[show isIn Sh (l-1+(j:Int),lo-1+(i:Int))=false from decide_eq_false hm];obtain⟨hn',grd'⟩:=grd.more hm (by lia);refine iteT ⟨_,rfl,_,rfl,_,rfl,two,fun pb' hpb'=>?_⟩;have sb:=Same.up (o:=.tup [.int (l-1+(j:Int)),.int (lo-1+(i:Int))]) hpb';have eb:upd HC pb' (.tup [.int (l-1+(j:Int)),.int (lo-1+(i:Int))]) pb'=some (.tup [.int (l-1+(j:Int)),.int (lo-1+(i:Int))]):=zaa;generalize upd HC pb' (.tup [.int (l-1+(j:Int)),.int (lo-1+(i:Int))])=HD at sb eb;have gD:=(sa.trans sb) _ _ gB;refine⟨rs,_,rfl,.inr ⟨dC Fr,kC (l-1+(j:Int),lo-1+(i:Int)),pb',gD,rfl,eb,(by rw[zfO];exact bigF (by lia)),rfl⟩,?_⟩;rw[zgS hn'];refine⟨_,_,rfl,fun b o n e=>?_,zaa,grd'⟩;rw[zai n];exact (sa.trans sb) _ _ (kB _ _ n e)
    .rintro σ HB ⟨o16,Fr,rfl,kB,gB,grd⟩;exact⟨_,_,Fr,rfl,kB,gB,grd.row (by lia)⟩
   .rintro σ HA ⟨o15,o16,Fr,rfl,kA,gA,grd⟩
    have hF:FreeOf (isIn Fr) Sh (l-1) (lo-1) (r+1) (hi+1):=⟨fun c=>by
     show decide (c∈Fr)=true ↔ _;rw[decide_eq_true_iff,grd.iff c];unfold inBox;constructor
     .rintro⟨h1,h2,h3,h4,h5⟩;exact⟨⟨h2,h3,h4,by lia⟩,h1⟩
     .rintro⟨⟨h2,h3,h4,h5⟩,h1⟩;exact⟨h1,h2,h3,h4,by lia⟩⟩
    have hFl:Fr.length<=168:=by
     have:=zap grd.nd (b:=boxL l lo) fun c hc=>zc6 (by
      obtain⟨_,q1,q2,q3,q4⟩:=(grd.iff c).mp hc;lia)
     rw[zdx]at this;exact this
    obtain⟨cDn,_⟩:=wi.lot _ hF;have kA9:∀b o,b≠rs->H9 b=some o->HA b=some o:=kA;have hrs2:H2 rs=none:=s3.free hrs;have kH2:Same H2 HA:=fun b o e=>kA _ _ (zam e hrs2) (s9 _ _ (s28 _ _ e))
    have dA:=kA _ _ ntg d9;have eA:=kA _ _ (ne_of e9 g0 (fun z=>nomatch z)) e9;refine⟨_,rfl,_,rfl,_,rfl,two,fun pe hpe=>?_⟩;have se:=Same.up (o:=.tup [.int (l-1),.int (lo-1)]) hpe;have ee:upd HA pe (.tup [.int (l-1),.int (lo-1)]) pe=some (.tup [.int (l-1),.int (lo-1)]):=zaa;generalize upd HA pe (.tup [.int (l-1),.int (lo-1)])=HE at se ee;refine⟨_,rfl,rs,pe,sd,(l-1,lo-1),Fr,S,rfl,Rd.of (se _ _ gA),ee,se _ _ eA,wi.st,by lia,fun bd HG By hbd sG eG hnG hrG=>?_⟩;simp only[zcE,List.set_cons_succ,List.set_cons_zero];have sAG:=se.trans sG;have dG:=sAG _ _ dA;have rG:=sAG _ _ gA;refine⟨_,rfl,shd,dC Sh,rfl,Rd.of dG,fun l1 ts1 hl1 hkl1=>?_⟩;have v1:=KeyL.cells hkl1;have s1:=Same.up (o:=.lst ts1) hl1;have e1:upd HG l1 (.lst ts1) l1=some (.lst ts1):=zaa;generalize upd HG l1 (.lst ts1)=HI at s1 e1;have rI:=s1 _ _ rG;have bI:=s1 _ _ eG;have vI:=v1.mono fun x v h=>h.kt (KT.of s1)
    refine⟨_,rfl,rs,dC Fr,rfl,rI,fun od g hg=>?_⟩;have kJ:∀z o,z≠rs->HI z=some o->upd HI rs (.frz od (.dT (dC Fr))) z=some o:=fun z o n e=>by rw[zai n];exact e
    have rJ:upd HI rs (.frz od (.dT (dC Fr))) rs=some (.frz od (.dT (dC Fr))):=zaa;generalize upd HI rs (.frz od (.dT (dC Fr)))=HJ at kJ rJ hg;have nbr:bd≠rs:=(zam (se _ _ gA) hbd).symm;have bJ:=kJ _ _ nbr bI;have ktJ:KT HI HJ:=fun z xs e=>kJ z _ (ne_of e rI (fun q=>nomatch q)) e
    have l1J:=kJ _ _ (ne_of e1 rI (fun q=>nomatch q)) e1
    refine zhe (a:=rs) (od:=od) (kvs:=dC Fr) (fun m σ HK=>∃o ts,σ=[o,some (.ref bd)]/\Same HJ HK/\HK g=some (.lst ts)/\VR ts ((Fr.take m).filter fun c=>!isIn By c) cR HK)
     ⟨_,[],rfl,Same.up hg,zaa,VR.nil⟩ (fun m σ HK _ ⟨_,_,_,sK,_⟩=>sK _ _ rJ) ?_ ?_
    .rintro m bb kx vv σ HK hm hb ⟨o,ts,rfl,sK,eK,vK⟩
     obtain⟨cc,hcc,rfl⟩:∃cc,Fr[m]?=some cc/\kx=kC cc:=by
      unfold dC at hm;rw[List.getElem?_map]at hm;obtain⟨cc,hcc,e⟩:=Option.map_eq_some_iff.mp hm
      cases e
      exact⟨cc,hcc,rfl⟩
     have hml:=(List.getElem?_eq_some_iff.mp hcc).1;refine⟨_,rfl,_,rfl,bd,_,rfl,.inr ⟨_,_,bb,Rd.of (sK _ _ bJ),rfl,hb,rfl⟩,_,rfl,?_⟩;rw[zcL]
     have e:(Fr.take (m+1)).filter (fun c=>!isIn By c)=(Fr.take m).filter (fun c=>!isIn By c)++(if (!isIn By cc)=true then [cc] else []):=by
      rw[zbb hcc,List.filter_append]
      congr 1
      simp only[List.filter_cons,List.filter_nil]
     rw[e];refine ite2 (fun hy=>?_) (fun hn=>?_)
     .rw[if_pos hy]
      have tl:ts.length<=168:=by rw[vK.1];have:=List.length_filter_le (fun c=>!isIn By c) (Fr.take m);rw[List.length_take]at this;lia
      have kl:KT HK (upd HK g (.lst (ts++[.ref bb]))):=KT.lst eK;refine⟨_,rfl,ts,eK,zao (by lia),_,_,rfl,zau hg sK,zaa,?_⟩;exact vK.snoc (fun x v h=>h.kt kl) ⟨bb,rfl,kl _ _ hb⟩
     .rw[if_neg hn,List.append_nil];exact⟨_,ts,rfl,sK,eK,vK⟩
    .rintro σ HK ⟨o,ts,rfl,sK,eK,vK⟩;rw[zfO,List.take_length]at vK;have fK:=List.length_filter_le (fun c=>!isIn By c) Fr;have t1l:ts1.length=Sh.length:=v1.1;have t2l:ts.length=(Fr.filter fun c=>!isIn By c).length:=vK.1;have shf:=wi.few;have l1K:=sK _ _ l1J;refine⟨l1,g,_,_,rfl,rfl,l1K,eK,Nat.le_of_lt (zao (by lia)),fun pf hpf=>?_⟩;have sF:=Same.up (o:=.lst (ts1++ts)) hpf;have eF:upd HK pf (.lst (ts1++ts)) pf=some (.lst (ts1++ts)):=zaa;generalize upd HK pf (.lst (ts1++ts))=HF at sF eF;simp only[zcE,List.set_cons_succ,List.set_cons_zero];obtain⟨hall,hnod⟩:=wi.all hcan hBx hF grd.nd hrG;obtain⟨Fo,hFo⟩:∃Fo,Fo=Sh++Fr.filter fun c=>!isIn By c:=⟨_,rfl⟩
     rw[<- hFo]at hall hnod
     have vF:VR (ts1++ts) Fo cR HF:=by rw[hFo];exact VR.app (vI.mono fun x v h=>((h.kt ktJ).kt (KT.of sK)).kt (KT.of sF)) (vK.mono fun x v h=>h.kt (KT.of sF))
     have kHF:Same H HF:=fun z o e=>by have e2':=s2 _ _ e;have eA':=kH2 _ _ e2';have eI:=s1 _ _ (sAG _ _ eA');exact sF _ _ (sK _ _ (kJ _ _ (zam e2' hrs2) eI))
     have lamF:LamW L HF:=hlam.same kHF;have hlx:(ts1++ts).length=Fo.length:=vF.1;have hll:Fo.length<=1000:=by rw[hFo,List.length_append];lia
     refine⟨_,rfl,pf,ts1++ts,keyCV Fo,keyC Fo,rfl,lamF,SqL.of eF,by rw[hlx];exact hll,fun i u HL hx bL=>?_,fun i j hi hj=>⟨_,_,_,_,_,_,rfl,rfl,.cons (.int _ _) .nil,rfl,rfl⟩,fun pp Dd HL hpm hpo hD bL lL fL=>?_⟩
     .obtain⟨cc,hcc,y,rfl,ey⟩:=vF.at hx;have q:=bL.kt lamF _ _ ey;refine⟨_,rfl,y,_,_,_,rfl,rfl,SqT.of q,zaM (j:=1) rfl,_,rfl,y,_,_,_,rfl,rfl,SqT.of q,zaM (j:=0) rfl,two,fun p hp=>⟨Same.up hp,p,rfl,SqT.of ?_⟩⟩;show upd HL p _ p=some (HO.tup [.int (cAt Fo i).2,.int (cAt Fo i).1]);rw[zkZ hcc,zaa]
     .rw[hlx]at hpm;refine k Dd HL _ _ (kHF.free hD) (kHF.but1.trans bL) lL fL (sortV hpm (vF.mono fun x v h=>h.kt (bL.kt lamF))) (sortP hpm hpo hnod) fun cc=>?_
      rw[(sortC hpm).mem_iff];exact hall cc
end
open PySem L2 RP
theorem mv8{i:Nat}(h:i < 8){t0 t1 t2 t3 t4 t5 t6 t7:Addr}{H:Hp}(f0:H t0=some (.tup [.int 1, .int 0]))(f1:H t1=some (.tup [.int 1, .int 1]))(f2:H t2=some (.tup [.int 0, .int 1]))(f3:H t3=some (.tup [.int (-1), .int 1]))
  (f4:H t4=some (.tup [.int (-1),.int 0])) (f5:H t5=some (.tup [.int (-1),.int (-1)])) (f6:H t6=some (.tup [.int 0,.int (-1)])) (f7:H t7=some (.tup [.int 1,.int (-1)])) :
  ∃t,([V.ref t0,.ref t1,.ref t2,.ref t3,.ref t4,.ref t5,.ref t6,.ref t7]:List V)[i]?=some (.ref t)/\H t=some (.tup [.int (mv i).1,.int (mv i).2]):=by
 have:i=0∨i=1∨i=2∨i=3∨i=4∨i=5∨i=6∨i=7:=by lia
 rcases this with rfl |rfl |rfl |rfl |rfl |rfl |rfl |rfl
 .exact⟨_,rfl,f0⟩
 .exact⟨_,rfl,f1⟩
 .exact⟨_,rfl,f2⟩
 .exact⟨_,rfl,f3⟩
 .exact⟨_,rfl,f4⟩
 .exact⟨_,rfl,f5⟩
 .exact⟨_,rfl,f6⟩
 .exact⟨_,rfl,f7⟩
section
variable {P:Program}{w:World}{K:W.Frag}{mg:Str->Option Value}{base:Heap}
theorem zgl (d:Df K mg "_law_gone" zbA ["_law_x","_law_y","_law_step"]):FnOk P w K mg base CX0 1 d.f d.fd ["_law_x","_law_y","_law_step"] zdk:=by
 refine d.F.ok zcs (fun vs H Q E h=>?_) (fun cdv A outer s H vs Q E hr h=>?_)
 .obtain⟨c,i,rfl,_⟩:=h;rfl
 .obtain⟨c,i,rfl,hi,k⟩:=h
  refine⟨_,(zab (zbM (pe_ix zbX (zbs (zaj (zax (zaj zag (zaj zag zac))) (zaj (zax (zaj zag (zaj zag zac))) (zaj (zax (zaj zag (zaj zag zac))) (zaj (zax (zaj (pe_un zdA zag) (zaj zag zac))) (zaj (zax (zaj (pe_un zdA zag) (zaj zag zac))) (zaj (zax (zaj (pe_un zdA zag) (zaj (pe_un zdA zag) zac))) (zaj (zax (zaj zag (zaj (pe_un zdA zag) zac))) (zaj (zax (zaj zag (zaj (pe_un zdA zag) zac))) zac))))))))) (pv 2) (fun _ _=>rfl)) (zbr (by rfl) (zaf (zae (i:=3) zcs.nd (by rfl) (Or.inl rfl)) (zaf (zae (i:=4) zcs.nd (by rfl) (Or.inl rfl)) zaA))))
   (zah (zay (zax (zaj (pe_op zaI (pv 0) (pv 3)) (zaj (pe_op zaI (pv 1) (pv 4)) zac)))))),?_⟩
  refine⟨two,fun t0 h0=>?_⟩;have s0:=Same.up (o:=.tup [.int 1,.int 0]) h0;have f0:upd H t0 (.tup [.int 1,.int 0]) t0=some (.tup [.int 1,.int 0]):=zaa;generalize upd H t0 (.tup [.int 1,.int 0])=H0 at s0 f0;refine⟨two,fun t1 h1=>?_⟩;have s1:=Same.up (o:=.tup [.int 1,.int 1]) h1;have f1:upd H0 t1 (.tup [.int 1,.int 1]) t1=some (.tup [.int 1,.int 1]):=zaa;generalize upd H0 t1 (.tup [.int 1,.int 1])=H1 at s1 f1;refine⟨two,fun t2 h2=>?_⟩;have s2:=Same.up (o:=.tup [.int 0,.int 1]) h2;have f2:upd H1 t2 (.tup [.int 0,.int 1]) t2=some (.tup [.int 0,.int 1]):=zaa;generalize upd H1 t2 (.tup [.int 0,.int 1])=H2 at s2 f2;refine⟨_,rfl,two,fun t3 h3=>?_⟩;have s3:=Same.up (o:=.tup [.int (-1),.int 1]) h3;have f3:upd H2 t3 (.tup [.int (-1),.int 1]) t3=some (.tup [.int (-1),.int 1]):=zaa;generalize upd H2 t3 (.tup [.int (-1),.int 1])=H3 at s3 f3;refine⟨_,rfl,two,fun t4 h4=>?_⟩;have s4:=Same.up (o:=.tup [.int (-1),.int 0]) h4;have f4:upd H3 t4 (.tup [.int (-1),.int 0]) t4=some (.tup [.int (-1),.int 0]):=zaa;generalize upd H3 t4 (.tup [.int (-1),.int 0])=H4 at s4 f4;refine⟨_,rfl,_,rfl,two,fun t5 h5=>?_⟩;have s5:=Same.up (o:=.tup [.int (-1),.int (-1)]) h5;have f5:upd H4 t5 (.tup [.int (-1),.int (-1)]) t5=some (.tup [.int (-1),.int (-1)]):=zaa;generalize upd H4 t5 (.tup [.int (-1),.int (-1)])=H5 at s5 f5;refine⟨_,rfl,two,fun t6 h6=>?_⟩;have s6:=Same.up (o:=.tup [.int 0,.int (-1)]) h6;have f6:upd H5 t6 (.tup [.int 0,.int (-1)]) t6=some (.tup [.int 0,.int (-1)]):=zaa;generalize upd H5 t6 (.tup [.int 0,.int (-1)])=H6 at s6 f6;refine⟨_,rfl,two,fun t7 h7=>?_⟩;have s7:=Same.up (o:=.tup [.int 1,.int (-1)]) h7;have f7:upd H6 t7 (.tup [.int 1,.int (-1)]) t7=some (.tup [.int 1,.int (-1)]):=zaa;generalize upd H6 t7 (.tup [.int 1,.int (-1)])=H7 at s7 f7;refine⟨(by show 8<=sizeLine;decide),fun l hl=>?_⟩;have s8:=Same.up (o:=.lst [.ref t0,.ref t1,.ref t2,.ref t3,.ref t4,.ref t5,.ref t6,.ref t7]) hl;have f8:upd H7 l (.lst [.ref t0,.ref t1,.ref t2,.ref t3,.ref t4,.ref t5,.ref t6,.ref t7]) l=some (.lst [.ref t0,.ref t1,.ref t2,.ref t3,.ref t4,.ref t5,.ref t6,.ref t7]):=zaa;generalize upd H7 l (.lst [.ref t0,.ref t1,.ref t2,.ref t3,.ref t4,.ref t5,.ref t6,.ref t7])=H8 at s8 f8;have s67:=s7.trans s8;have s57:=s6.trans s67;have s47:=s5.trans s57;have s37:=s4.trans s47;have s27:=s3.trans s37;have s17:=s2.trans s27;have s07:=s1.trans s17;obtain⟨t,ht,ft⟩:=mv8 hi (s07 _ _ f0) (s17 _ _ f1) (s27 _ _ f2) (s37 _ _ f3) (s47 _ _ f4) (s57 _ _ f5) (s67 _ _ f6) (s8 _ _ f7);refine⟨_,rfl,l,_,_,_,rfl,rfl,SqL.of f8,zaM ht,t,_,rfl,SqT.of ft,rfl,_,_,rfl,_,_,rfl,rfl,?_⟩;refine⟨_,rfl,_,rfl,_,_,rfl,rfl,_,rfl,_,rfl,_,_,rfl,rfl,two,fun p hp=>?_⟩;have s08:=s0.trans s07;exact k p _ (s08.free hp) (s08.trans (Same.up hp)) zaa
end
open PySem L2 RP
section
variable {P:Program}{w:World}{K:W.Frag}{mg:Str->Option Value}{base:Heap}
def spUp(K:W.Frag):Sp:=fun vs H Q _=>∃(p:Addr) (us:List V) (es:List Edge),vs=[.ref p]/\H p=some (.lst us)/\VR us es eR H/\es.length<=480/\∀a H' kvs B,UD H H' a es kvs B->Q (.ref a) H'
theorem zgj (T:Txt P w K mg) (d:Df K mg "uprights" zbP ["edges"]):FnOk P w K mg base CX0 1 d.f d.fd ["edges"] (spUp K):=by
 refine d.F.ok zb2 (fun vs H Q E h=>?_) (fun cdv A outer s H vs Q E hr h=>?_)
 .obtain⟨p,us,es,rfl,_⟩:=h;rfl
 .obtain⟨p,us,es,rfl,hp,hw,hlen,k⟩:=h
  refine⟨_,(zab (zas (i:=1) zb2.nd (by rfl) (Or.inl rfl) zjB)
   (zab (zbI PassesOwn.never rfl (za9 (pv 0)) (zbr (by rfl) (zaf (zae (i:=2) zb2.nd (by rfl) (Or.inl rfl)) (zaf (zae (i:=3) zb2.nd (by rfl) (Or.inl rfl)) (zaf (zae (i:=4) zb2.nd (by rfl) (Or.inl rfl)) zaA))))
   (zah (ps_if (zaL op_eq (pv 4) zag (zaO _))
   (zah (zbo (pe_bm PySem.F.plainAttrs_list PySem.F.slot_list_append PySem.F.type_list_append zaZ (zg0 (pv 1) (pv 3) (zbs zac) ⟨rfl,rfl,rfl,rfl⟩) (pa_B (pe_op zaI (pv 2) zag) zac))))
   (zah (ps_if (zaL op_eq (pv 4) zag (zaO _))
   (zah (zbo (pe_bm PySem.F.plainAttrs_list PySem.F.slot_list_append PySem.F.type_list_append zaZ (zg0 (pv 1) (pv 3) (zbs zac) ⟨rfl,rfl,rfl,rfl⟩) (pa_N (pv 2) zac))))
   za8)))))
   (zah (zay (pv 1))))),?_⟩
  intro a ha;have U0:=UD.start ha;refine⟨_,rfl,p,rfl,⟨_,SqL.of (U0.same _ _ hp)⟩,?_⟩
  refine zaD (K:=K) (a:=p) (xs:=us) (fun j σ H2=>∃o2 o3 o4 kvs B,σ=[some (.ref p),some (.ref a),o2,o3,o4]/\UD H H2 a (es.take j) kvs B)
   ⟨_,_,_,_,_,rfl,U0⟩ (fun j σ H2 _ ⟨_,_,_,_,_,_,U⟩=>SqL.of (U.same _ _ hp)) ?_ ?_
  .rintro j u σ H2 hj ⟨o2,o3,o4,kvs,B,rfl,U⟩;obtain⟨f,hf,bf,rfl,qf⟩:=hw.at hj;have hjl:j<es.length:=(List.getElem?_eq_some_iff.mp hf).1;have hkl:kvs.length<=480:=by have:=U.len;rw[List.length_take]at this;lia
   have hul:∀y,(upr (es.take j) y).length<=480:=fun y=>by have h1:=List.length_filter_le (isUp y) (es.take j);have h2:=List.length_take_le j es;unfold upr;rw[List.length_map];lia
   refine⟨bf,_,rfl,SqT.of (U.same _ _ qf),rfl,_,_,rfl,_,_,rfl,_,_,rfl,rfl,?_⟩;refine⟨_,rfl,rfl,_,rfl,?_⟩;rw[zbb hf];refine ite2 (fun hy=>?_) (fun hn=>?_)
   .have hw1:f.w=1 := by have:=of_decide_eq_true hy;injection this with this;lia
    have hpx:V.int (px f)=V.int (f.c.1+1):=by simp[px,hw1]
    refine⟨_,rfl,a,rfl,.inl ⟨kvs,.inl U.dict⟩,_,rfl,Nat.zero_le _,fun z hz=>?_⟩;have nz:∀{b o},H2 b=some o->b≠z:=fun q w=>by rw[w,hz]at q;cases q
    refine⟨kvs,.inl f.c.2,by rw[zai (nz U.dict)];exact U.dict,rfl,zao (by lia),fun v hv=>?_,fun hv=>?_⟩
    .by_cases hy:upr (es.take j) f.c.2=[]
     .rw[U.no _ hy]at hv;cases hv
     .obtain⟨b1,b2,b3,b4⟩:=U.at_ _ hy;rw[b1]at hv
      cases hv
      have e3:upd H2 z (.lst []) (B f.c.2)=some (.lst ((upr (es.take j) f.c.2).map V.int)):=by rw[zai (nz b2)];exact b2
      have U':=U.more (Or.inl hw1) hz hy;rw[hpx]at U';exact⟨.inl ⟨rfl,_,SqL.of e3⟩,_,rfl,_,_,rfl,rfl,_,_,_,rfl,rfl,e3,zao (by rw[List.length_map];have:=hul f.c.2;lia),_,_,_,kvs,B,rfl,U'⟩
    .have hy:upr (es.take j) f.c.2=[]:=Classical.byContradiction fun hy=>by rw[(U.at_ _ hy).1]at hv;cases hv
     have e3:upd (upd H2 z (.lst [])) a (.dK (putK kvs (.inl f.c.2) (.ref z))) z=some (.lst []):=by rw[zai (nz U.dict).symm];exact zaa
     have U':=U.first (Or.inl hw1) hz hy;rw[hpx]at U';exact⟨.inl ⟨rfl,_,SqL.of e3⟩,_,rfl,_,_,rfl,rfl,_,_,_,rfl,rfl,e3,zao (by simp),_,_,_,_,_,rfl,U'⟩
   .have hw1:f.w≠1:=fun z=>hn (by rw[z];rfl)
    refine⟨_,rfl,rfl,_,rfl,?_⟩;refine ite2 (fun hy=>?_) (fun hn3=>?_)
    .have hw1:f.w=3 := by have:=of_decide_eq_true hy;injection this with this;lia
     have hpx:V.int (px f)=V.int f.c.1:=by simp[px,hw1]
     refine⟨_,rfl,a,rfl,.inl ⟨kvs,.inl U.dict⟩,_,rfl,Nat.zero_le _,fun z hz=>?_⟩;have nz:∀{b o},H2 b=some o->b≠z:=fun q w=>by rw[w,hz]at q;cases q
     refine⟨kvs,.inl f.c.2,by rw[zai (nz U.dict)];exact U.dict,rfl,zao (by lia),fun v hv=>?_,fun hv=>?_⟩
     .by_cases hy:upr (es.take j) f.c.2=[]
      .rw[U.no _ hy]at hv;cases hv
      .obtain⟨b1,b2,b3,b4⟩:=U.at_ _ hy;rw[b1]at hv
       cases hv
       have e3:upd H2 z (.lst []) (B f.c.2)=some (.lst ((upr (es.take j) f.c.2).map V.int)):=by rw[zai (nz b2)];exact b2
       have U':=U.more (Or.inr hw1) hz hy;rw[hpx]at U';exact⟨.inl ⟨rfl,_,SqL.of e3⟩,_,rfl,_,_,_,rfl,rfl,e3,zao (by rw[List.length_map];have:=hul f.c.2;lia),_,_,_,kvs,B,rfl,U'⟩
     .have hy:upr (es.take j) f.c.2=[]:=Classical.byContradiction fun hy=>by rw[(U.at_ _ hy).1]at hv;cases hv
      have e3:upd (upd H2 z (.lst [])) a (.dK (putK kvs (.inl f.c.2) (.ref z))) z=some (.lst []):=by rw[zai (nz U.dict).symm];exact zaa
      have U':=U.first (Or.inr hw1) hz hy;rw[hpx]at U';exact⟨.inl ⟨rfl,_,SqL.of e3⟩,_,rfl,_,_,_,rfl,rfl,e3,zao (by simp),_,_,_,_,_,rfl,U'⟩
    .have hw3:f.w≠3:=fun z=>hn3 (by rw[z];rfl)
     exact⟨_,_,_,kvs,B,rfl,U.skip (fun z=>z.elim hw1 hw3)⟩
  .rintro σ H2 ⟨o2,o3,o4,kvs,B,rfl,U⟩;rw[show us.length=es.length from hw.1,List.take_length]at U;exact⟨_,rfl,k a H2 kvs B U⟩
end
open PySem L2 RP
section
variable {P:Program}{w:World}{K:W.Frag}{mg:Str->Option Value}{base:Heap}
abbrev Ahd(c d:Cell):Prop:=c.2<d.2∨(c.2=d.2/\c.1<d.1)
def zfl(K:W.Frag):Sp:=fun vs H Q _=>∃(v:V) (r:Rnd) (C:Cell->Bool) (es:List Edge),vs=[v]/\rR r v H/\Can C es r/\es.length<=480/\(∃l lo:Int,∀e∈es,l<=e.c.1/\e.c.1<l+60/\lo<=e.c.2/\e.c.2<lo+60) /\
 ∀p H' us L,H p=none->Same H H'->H' p=some (.lst us)->VR us L cR H'->(∀c,c∈L ↔ wd es c≠0)->L.Pairwise Ahd->L.length<=3660->Q (.ref p) H'
theorem zih{n:Nat}(h:n<=4000):n<sizeLine:=Nat.lt_of_le_of_lt h (by decide)
theorem zdM (T:Txt P w K mg) (g_edges_of:Fn P w K mg base 6 "edges_of" ["one"] (zfk K)) (g_uprights:Fn P w K mg base 1 "uprights" ["edges"] (spUp K)) (d:Df K mg "cells_within" zaG ["one"]):FnOk P w K mg base CX0 7 d.f d.fd ["one"] (zfl K):=by
  refine d.F.ok zaX (fun vs H Q E h=>?_) (fun cdv A outer s H vs Q E hr h=>?_)
  . obtain⟨v,r,C,es,rfl,_⟩:=h;rfl
  . obtain⟨v,r,C,es,rfl,hv,hc,hlen,⟨l,lo,hB⟩,k⟩:=h;have hsum:=hc.cl.turning;have hBx:∀e∈es,l<=e.c.1/\e.c.1<l+60:=fun e he=>⟨(hB e he).1,(hB e he).2.1⟩
    have hfl:=zjL hc.cl hsum hBx;have hul:=zkr hc.cl hBx;have hu1:=hu_of hr;have nb0:(["x","y"]:List Str).Nodup:=by decide +kernel
    refine⟨_,(zab (zas (i:=1) zaX.nd (by rfl) (Or.inl rfl) (zan g_uprights.ok (hr.mono (by decide)) (by rfl) g_uprights.m g_uprights.kp g_uprights.b .nil pass0 (zaj (zan g_edges_of.ok (hr.mono (by decide)) (by rfl) g_edges_of.m g_edges_of.kp g_edges_of.b .nil pass0 (pa_N (pv 0) zac)) zac)))
      (zab (zas (i:=2) zaX.nd (by rfl) (Or.inl rfl) (zbs zac))
      (zab (zbI PassesOwn.never rfl (za9 (zaV (zhM rfl) (by rfl) T.nsorted (by rfl) (pa_N (pv 1) zac))) (zae (i:=3) zaX.nd (by rfl) (Or.inr rfl))
      (zab (zas (i:=4) zaX.nd (by rfl) (Or.inl rfl) (zaV zhL (by rfl) T.nsorted (by rfl) (zaj (zkI hu1 (pv 1) (pv 3) (fun _ _=>rfl)) zac)))
      (zah (zbI PassesOwn.never rfl (ziu (by rfl) T.nrange (pa_C zag (zaj (zaV zbG (by rfl) T.nlen (by rfl) (pa_N (pv 4) zac)) (pa_C zag zac)))) (zae (i:=5) zaX.nd (by rfl) (Or.inl rfl))
      (zah (zbo (pe_bm PySem.F.plainAttrs_list PySem.F.slot_list_extend PySem.F.type_list_extend zc5 (pv 2) (zaj (zbv (osc:=zad zaG) (N:=zcJ) (N':=["x","y"]) (sel:=[none,some 3]) ⟨rfl,by decide +kernel,by decide +kernel,by decide +kernel,rfl,by decide +kernel⟩ (zct (by rfl) T.nrange (zaj (pe_ix zbX (pv 4) (pv 5) (fun _ _=>rfl)) (zaj (pe_ix zbX (pv 4) (pe_op zaI (pv 5) zag) (fun _ _=>rfl)) zac))) (fun _ _ _ _ _=>(zae (i:=0) nb0 (by rfl) (Or.inl rfl))) (fun _ _ _ _ _=>zdI) (fun _ _ _ _ _=>(zax (pa_N (pv 0) (pa_N (pv 1) zac))))) zac))))))))
      (zah (zay (pv 2)))))),?_⟩
    refine⟨_,rfl,v,r,C,es,rfl,hv,hc,hlen,fun pe H1 us hpe s1 e1 hw=>?_⟩;refine⟨pe,us,es,rfl,e1,hw,hlen,fun a H2 kvs B U=>?_⟩;refine⟨Nat.zero_le _,fun g hg=>?_⟩;obtain⟨ns,hns⟩:=zfD fun k' hk=>let ⟨y,e,_⟩:=U.keys k' hk;⟨y,e⟩
    have hnl:ns.length=kvs.length:=by have:=congrArg List.length hns;simpa using this.symm
    have hmem:∀y,y∈ns ↔ upr es y≠[]:=fun y=>by
      constructor
      . intro hy;obtain⟨z,e,q⟩:=U.keys (Sum.inl y) (by rw[hns];exact List.mem_map.mpr ⟨y,hy,rfl⟩)
        cases e
        exact q
      . intro hy;have h1:=(U.at_ y hy).1;unfold valV at h1;obtain⟨kv,hf,_⟩:=Option.map_eq_some_iff.mp h1;have h2:kv.1=Sum.inl y:=by simpa using List.find?_some hf
        have h3:Sum.inl y∈kvs.map (·.1):=List.mem_map.mpr ⟨kv,List.mem_of_find?_eq_some hf,h2⟩;rw[hns]at h3;obtain⟨z,hz,e⟩:=List.mem_map.mp h3
        cases e
        exact hz
    have hnd:ns.Nodup:=by have:=U.nd;rw[hns]at this;exact (List.pairwise_map.mp this).imp fun h e=>h (by rw[e])
    have hn60:ns.length<=60:=zeZ (lo:=lo) hnd fun y hy=>by have hne:=(hmem y).mp hy;obtain⟨x,hx⟩:=List.exists_mem_of_ne_nil _ hne;unfold upr at hx;obtain⟨e,he,_⟩:=List.mem_map.mp hx;have m:=List.mem_filter.mp he;have:=hB e m.1;rw[<- (zca.mp m.2).2];lia
    refine⟨_,rfl,a,kvs,ns,rfl,.inl (Same.up hg _ _ U.dict),hns,by lia,fun D ns' hp' hs' hD=>?_⟩;have hgD:g≠D:=fun z=>by rw[<- z,zaa]at hD;cases hD
    have hst:ns'.Pairwise (·<·):=List.Pairwise.imp (R:=fun a b:Int=>a<=b/\a≠b) (fun {a b} q=>by lia) (hs'.and (hp'.nodup_iff.mpr hnd));have hD2:H2 D=none:=(Same.up hg).free hD;have S4:Same H2 (upd (upd H2 g (.lst [])) D (.lst (ns'.map V.int))):=(Same.up hg).trans (Same.up hD);have eD0:upd (upd H2 g (.lst [])) D (.lst (ns'.map V.int)) D=some (.lst (ns'.map V.int)):=zaa;have eg0:upd (upd H2 g (.lst [])) D (.lst (ns'.map V.int)) g=some (.lst []):=by rw[zai hgD];exact zaa
    generalize upd (upd H2 g (.lst [])) D (.lst (ns'.map V.int))=H4 at S4 eD0 eg0;refine⟨D,rfl,⟨_,SqL.of eD0⟩,?_⟩
    refine zaD (K:=K) (a:=D) (xs:=ns'.map V.int) (fun j σ H5=>∃o3 o4 o5,σ=[some v,some (.ref a),some (.ref g),o3,o4,o5]/\Same H2 H5/\H5 D=some (.lst (ns'.map V.int))/\∃zs,H5 g=some (.lst zs)/\VR zs (zb8 es (ns'.take j)) cR H5)
      ⟨_,_,_,rfl,S4,eD0,[],eg0,VR.nil⟩ (fun j σ H5 _ ⟨_,_,_,_,_,e5,_⟩=>SqL.of e5) ?_ ?_
    . rintro j u σ H5 hj ⟨o3,o4,o5,rfl,s5,eD5,zs,e5,hz5⟩;obtain⟨y,hy,rfl⟩:∃y,ns'[j]?=some y/\V.int y=u:=by simpa using hj
      have hjl:j<ns'.length:=(List.getElem?_eq_some_iff.mp hy).1;have hn':ns'.length<=60:=by rw[hp'.length_eq];exact hn60
      have hyu:upr es y≠[]:=(hmem y).mp (hp'.mem_iff.mp (List.mem_of_getElem? hy));obtain⟨b1,b2,b3,b4⟩:=U.at_ y hyu;have hdg:DGet H5 a (V.int y) (some (.ref (B y))):=by rw[<- b1];exact DGet.k (k:=Sum.inl y) (s5 _ _ U.dict)
      refine⟨_,rfl,_,rfl,a,_,rfl,hdg,B y,upr es y,rfl,SqL.of (s5 _ _ b2),(by have:=hul y;lia),fun t Ts hT hTs ht=>?_⟩;obtain rfl:=zkw hT hTs;have hTl:(srt (upr es y)).length<=61:=by rw[hT.length_eq];exact hul y
      have hpar:=(zeG hc.cl hsum (zdu (upr es y)) (zgG _)).1
      have hcl:(zb8 es (ns'.take j)).length<=61*59:=by
        have:=zc8 hfl (ns'.take j);have h2:(ns'.take j).length<=59:=by rw[List.length_take];lia
        lia
      have S6:Same H5 (upd H5 t (.lst ((srt (upr es y)).map V.int))):=Same.up ht;have et0:upd H5 t (.lst ((srt (upr es y)).map V.int)) t=some (.lst ((srt (upr es y)).map V.int)):=zaa;generalize upd H5 t (.lst ((srt (upr es y)).map V.int))=H6 at S6 et0;have htg:t≠g:=fun z=>by rw[z,e5]at ht;cases ht
      have htD:t≠D:=fun z=>by rw[z,eD5]at ht;cases ht
      refine⟨_,rfl,t,_,rfl,.inl (SqL.of et0),0,_,rfl,⟨by decide,by decide,by lia,by rw[List.length_map];lia⟩,?_⟩;rw[show ((((((srt (upr es y)).map V.int).length:Nat):Int)-0+1) / 2).toNat=(srt (upr es y)).length / 2 by rw[List.length_map];lia]
      refine zhH (lo := 0) (n := (srt (upr es y)).length / 2) (fun i σ H7 => ∃o5, σ = [some v, some (.ref a), some (.ref g), some (.int y), some (.ref t), o5] /\ Same H2 H7 /\ H7 D=some (.lst (ns'.map V.int)) /\ H7 t=some (.lst ((srt (upr es y)).map V.int)) /\
          ∃zs,H7 g=some (.lst zs)/\VR zs (zb8 es (ns'.take j)++(fillT ((srt (upr es y)).take (2*i))).map fun x=>(x,y)) cR H7)
        ⟨_,rfl,s5.trans S6,S6 _ _ eD5,et0,zs,S6 _ _ e5,by simpa[fillT]using hz5.mono fun x v h=>h.same S6⟩ ?_ ?_
      . rintro i σ H7 hi ⟨o5,rfl,s7,eD7,et7,ys,e7,hz7⟩;have h1:2*i<(srt (upr es y)).length:=by lia
        have h2:2*i+1<(srt (upr es y)).length:=by lia
        have g1:((srt (upr es y)).map V.int)[2*i]?=some (.int (srt (upr es y))[2*i]):=by rw[List.getElem?_map,List.getElem?_eq_getElem h1];rfl
        have g2:((srt (upr es y)).map V.int)[2*i+1]?=some (.int (srt (upr es y))[2*i+1]):=by rw[List.getElem?_map,List.getElem?_eq_getElem h2];rfl
        have hft:=zep (srt (upr es y)) i _ _ (List.getElem?_eq_getElem h1) (List.getElem?_eq_getElem h2)
        have hyl:ys.length<=61*60:=by rw[hz7.1,List.length_append,List.length_map];have e:=congrArg List.length (zcS (srt (upr es y)) i);rw[List.length_append]at e;have:=hfl y;lia
        have hul2:(upto (srt (upr es y))[2*i] (srt (upr es y))[2*i+1]).length<=61:=by have e:=congrArg List.length (zcS (srt (upr es y)) (i+1));rw[hft,List.length_append,List.length_append]at e;have:=hfl y;lia
        generalize (srt (upr es y))[2*i]=A0 at g1 hft hul2;generalize (srt (upr es y))[2*i+1]=B0 at g2 hft hul2
        refine⟨_,rfl,.inl ⟨rfl,_,SqL.of e7⟩,_,rfl,_,rfl,t,_,_,_,rfl,rfl,SqL.of et7,(by rw[show (0:Int)+(i:Int)*2=((2*i:Nat):Int) by lia];exact zaM g1),
          _,rfl,_,rfl,_,_,rfl,rfl,t,_,_,_,rfl,rfl,SqL.of et7,(by rw[show (0:Int)+(i:Int)*2+1=((2*i+1:Nat):Int) by lia];exact zaM g2),_,_,rfl,fun c hc7=>?_⟩
        refine zbK (lo:=A0) (n:=(B0-A0).toNat) (fun m σ H8=>∃o0,σ=[o0,some (.int y)]/\Same H7 H8/\∃xs,H8 c=some (.lst xs)/\VR xs (((List.range m).map fun q:Nat=>A0+(q:Int)).map fun x=>(x,y)) cR H8)
          ⟨_,rfl,Same.up hc7,[],zaa,VR.nil⟩ ?_ ?_
        . rintro m σ H8 hm ⟨o0,rfl,s8,xs,e8,hz8⟩
          have hxl:xs.length<=61:=by rw[hz8.1,List.length_map,List.length_map,List.length_range];unfold upto at hul2;rw[List.length_map,List.length_range]at hul2;lia
          unfold gName;refine zcY ?_
          refine⟨_,rfl,_,rfl,two,fun q hq=>?_⟩;have s9:Same H8 (upd H8 q (.tup [.int (A0+(m:Int)),.int y])):=Same.up hq;have r9:cR (A0+(m:Int),y) (.ref q) (upd H8 q (.tup [.int (A0+(m:Int)),.int y])):=⟨q,rfl,by rw[zaa];rfl⟩;generalize upd H8 q (.tup [.int (A0+(m:Int)),.int y])=H9 at s9 r9;have e9:=s9 _ _ e8;refine⟨xs,e9,zao (by lia),_,rfl,zau hc7 (s8.trans s9),_,zaa,?_⟩;rw[List.range_succ,List.map_append,List.map_append];exact hz8.snoc (fun x v h=>(h.kt (KT.of s9)).kt (KT.lst e9)) (r9.kt (KT.lst e9))
        . rintro σ H8 ⟨o0,rfl,s8,xs,e8,hz8⟩
          have hxl:xs.length<=61:=by rw[hz8.1,List.length_map,List.length_map,List.length_range];unfold upto at hul2;rw[List.length_map,List.length_range]at hul2;exact hul2
          have e78:=s8 _ _ e7;refine⟨g,c,_,_,rfl,rfl,e78,e8,Nat.le_of_lt (zih (by lia)),?_⟩;have k9:KT H8 (upd H8 g (.lst (ys++xs))):=KT.lst e78;have hDg:D≠g:=Ne.symm hgD;refine⟨_,rfl,zau hg (s7.trans s8),by rw[zai hDg];exact s8 _ _ eD7,by rw[zai htg];exact s8 _ _ et7,_,zaa,?_⟩;rw[hft,List.map_append,<- List.append_assoc];exact (hz7.mono fun x v h=>(h.kt (KT.of s8)).kt k9).app (hz8.mono fun x v h=>h.kt k9)
      . rintro σ H7 ⟨o5,rfl,s7,eD7,et7,ys,e7,hz7⟩;rw[show 2*((srt (upr es y)).length / 2)=(srt (upr es y)).length by lia,List.take_length]at hz7;refine⟨_,_,_,rfl,s7,eD7,ys,e7,?_⟩;rw[zbb hy,zf6];exact hz7
    . rintro σ H5 ⟨o3,o4,o5,rfl,s5,eD5,zs,e5,hz5⟩;rw[List.length_map,List.take_length]at hz5;have hsp:=zf5 hc.cl hsum hst fun y=>by rw[hp'.mem_iff];exact hmem y
      refine⟨_,rfl,k g H5 zs _ (s1.free (U.same.free hg)) (s1.trans (U.same.trans s5)) e5 hz5 hsp.1 hsp.2 ?_⟩;have:=zc8 hfl ns';rw[hp'.length_eq]at this;lia
end
open PySem L2 RP
theorem zjj{a b:Cell}(h:Ahd a b):Bfr a b:=by rw[zk2];unfold Ahd at h;unfold cLe;lia
theorem LamAt.other{pos pos':Pos}{qual qual':Str}{L M:Addr}{H H':Hp}(h:LamAt pos qual M H)(h0:LamAt pos' qual' L H)(hne:L≠M)(b:But1 L H H'):LamAt pos qual M H':=by
 obtain⟨qs,q1,q2⟩:=h;refine⟨qs,b _ _ (Ne.symm hne) q1,?_⟩;rcases q2 with q2 |⟨c',oc,vs',t',q2,q3,q4⟩
 .exact .inl q2
 .exact .inr ⟨c',oc,vs',t',q2,b _ _ (h0.ne q3 nofun) q3,q4⟩
theorem zjR(xs:List V)(j:Nat):cutV xs none (some (j:Int))=xs.take (min j xs.length):=by unfold cutV;rw[zgf];rfl
section
variable {P:Program}{w:World}{K:W.Frag}{mg:Str->Option Value}{base:Heap}
def spLaw(K:W.Frag)(L1 L0:Addr):Sp:=fun vs H Q _=>∃(a:Addr) (ns:List Int),vs=[.ref a]/\SqL K H a (ns.map V.int)/\ns.length<=63/\LamW L1 H/\LamT L0 H/\∀H',Q (.bl true) H'
theorem zlB {L0 L1:Addr}(hL:L0 ≠ L1) (T:Txt P w K mg) (g__law_picture:Fn P w K mg base 2 "_law_picture" ["_law_script", "_law_start"] (zj1 K)) (g__law_traced:Fn P w K mg base 5 "_law_traced" ["_law_cells"] (zgL K L0))
  (g__law_within:Fn P w K mg base 5 "_law_within" ["_law_cells","_law_one"] (zfj K L1)) (g_cells_within:Fn P w K mg base 7 "cells_within" ["one"] (zfl K)) (d:Df K mg "law" s_law ["_law_script"]):FnOk P w K mg base CX0 10 d.f d.fd ["_law_script"] (spLaw K L1 L0):=by
 refine d.F.ok zfo (fun vs H Q E h=>?_) (fun cdv A outer s H vs Q E hr h=>?_)
 .obtain⟨a,ns,rfl,_⟩:=h;rfl
 .obtain⟨a,ns,rfl,hS,hnl,hlW,hlT,k⟩:=h;have hu1:=hu_of hr;have hu64:=hr.units;have nb0:(["_law_cell"]:List Str).Nodup:=by decide +kernel
  refine⟨_,(zab (zas (i:=1) zfo.nd (by rfl) (Or.inl rfl) (zan g__law_picture.ok (hr.mono (by decide)) (by rfl) g__law_picture.m g__law_picture.kp g__law_picture.b .nil pass0 (pa_N (pv 0) (pa_C zag zac))))
   (zab (zbI PassesOwn.never rfl (za9 (zdv zga (zan g__law_traced.ok (hr.mono (by decide)) (by rfl) g__law_traced.m g__law_traced.kp g__law_traced.b .nil pass0 (pa_N (pv 1) zac)) zeJ (zeI zag))) (zae (i:=2) zfo.nd (by rfl) (Or.inl rfl))
   (zab (zas (i:=3) zfo.nd (by rfl) (Or.inl rfl) (zan g__law_within.ok (hr.mono (by decide)) (by rfl) g__law_within.m g__law_within.kp g__law_within.b .nil pass0 (pa_N (pv 1) (pa_N (pv 2) zac))))
   (zab (zas (i:=4) zfo.nd (by rfl) (Or.inl rfl) (zan g_cells_within.ok (hr.mono (by decide)) (by rfl) g_cells_within.m g_cells_within.kp g_cells_within.b .nil pass0 (pa_N (pv 2) zac)))
   (zab (ps_if (pw_or (zgT (zek (zaV zho (by rfl) T.nisinstance (by rfl) (pa_N (pv 4) (pa_N (ziw (v:=.ty "list") (by rfl) T.nlist (by rfl) rfl) zac))))) (pw_or (zaL (zft hu64) (pv 4) (pv 3) (zaO _)) (zj7 (zgT (zek (zaV (zjh rfl) (by rfl) T.nall (by rfl) (zaj (zbv (osc:=zad s_law) (N:=N_law) (N':=["_law_cell"]) (sel:=[none]) ⟨rfl,by decide +kernel,by decide +kernel,by decide +kernel,rfl,by decide +kernel⟩ (za9 (pv 4)) (fun _ _ _ _ _=>(zae (i:=0) nb0 (by rfl) (Or.inl rfl))) (fun _ _ _ _ _=>zdI) (fun _ _ _ _ _=>(zaV (zjg (K:=K)) (by rfl) T.nisinstance (by rfl) (pa_N (pv 0) (pa_N (ziw (v:=.ty "tuple") (by rfl) T.ntuple (by rfl) rfl) zac))))) zac))))))).pt
   (zah (zay pe_bl))
   za8)
   (zab (zbo (zkb PySem.F.plainAttrs_list PySem.F.slot_list_clear PySem.F.type_list_clear zjG (pv 4)))
   (zah (ps_if (zaL (zft hu64) (zan g_cells_within.ok (hr.mono (by decide)) (by rfl) g_cells_within.m g_cells_within.kp g_cells_within.b .nil pass0 (pa_N (pv 2) zac)) (pv 3) (zaO _))
   (zah (zay pe_bl))
   za8)))))))
   (zah (zay pe_bl)))),?_⟩
  refine⟨_,rfl,a,ns,0,rfl,hS,fun pc H1 cvs cs hpc s1 e1 hv1 hpw hcl hsm=>?_⟩;refine⟨_,rfl,pc,cvs,cs,rfl,e1,hv1,zlz hpw,hcl,hlT.same s1,fun pr H3 rv R R0 hpr b3 lT3 e3 hvr hpm _ hwh=>?_⟩;have lT1:LamT L0 H1:=hlT.same s1;have lW3:LamW L1 H3:=LamAt.other (hlW.same s1) lT1 hL b3;have c3:=b3 _ _ (lT1.ne e1 nofun) e1;have hv3:=hv1.mono fun x v h=>h.kt (b3.kt lT1)
  obtain⟨ESS,hcans⟩:=hwh.cans hpm;refine⟨_,rfl,pr,rv,rfl,SqL.of e3,fun p4 hp4=>?_⟩;rw[show (12:Int)=((12:Nat):Int) from rfl,zjR];generalize min 12 rv.length=mm;have s4:=Same.up (o:=.lst (rv.take mm)) hp4;have e4:upd H3 p4 (.lst (rv.take mm)) p4=some (.lst (rv.take mm)):=zaa;generalize upd H3 p4 (.lst (rv.take mm))=H4 at s4 e4;have lW4:LamW L1 H4:=lW3.same s4;refine⟨p4,rfl,⟨_,SqL.of e4⟩,?_⟩
  refine zaD (K:=K) (a:=p4) (xs:=rv.take mm) (fun j σ H6=>∃o2 o3 o4,σ=[some (.ref a),some (.ref pc),o2,o3,o4]/\But1 L1 H4 H6/\LamW L1 H6)
   ⟨_,_,_,rfl,But1.refl _ _,lW4⟩ (fun j σ H6 _ ⟨_,_,_,_,b6,_⟩=>SqL.of (b6 _ _ (lW4.ne e4 nofun) e4)) ?_ ?_
  .rintro j v σ H6 hj ⟨o2,o3,o4,rfl,b6,lW6⟩
   have hj':rv[j]?=some v:=by
    rw[List.getElem?_take]at hj;split at hj
    .exact hj
    .cases hj
   obtain⟨r,hr',hx⟩:=hvr.at hj';obtain⟨es,hes,hcan⟩:=hcans.so hr';have kt36:KT H3 H6:=(KT.of s4).trans (b6.kt lW4);have hx6:=hx.kt kt36;have c6:=b6.at lW4 (s4 _ _ c3) nofun;have hv6:=hv3.mono fun x v h=>h.kt kt36
   have hel:es.length<=480:=by have:=hcan.cl.1.short;lia
   have hsm60:∃l lo:Int,∀e∈es,l<=e.c.1/\e.c.1<l+60/\lo<=e.c.2/\e.c.2<lo+60:=by obtain⟨l,lo,hs⟩:=hsm;refine⟨l,lo,fun e he=>?_⟩;have:=hs e.c (of_decide_eq_true (hcan.cl.1.2.2.1 e he).2.1);lia
   refine⟨_,rfl,_,rfl,pc,v,cvs,cs,r,es,ESS,R,rfl,c6,hv6,hpw,hcl,hsm,hx6,hcans,List.mem_of_getElem? hr',hcan,lW6,fun p7 H7 us7 F7 hp7 b7 lW7 e7 v7 hF7 hm7=>?_⟩;have kt67:=b7.kt lW6;have hx7:=hx6.kt kt67;refine⟨_,rfl,v,r,isIn cs,es,rfl,hx7,hcan,hel,hsm60,fun p8 H8 us8 F8 hp8 s8 e8 v8 hm8 ho8 hl8=>?_⟩;have eF:F8=F7:=zio (ho8.imp fun h=>zjj h) hF7 fun c=>(hm8 c).trans (hm7 c).symm
   subst eF;have e78:=s8 _ _ e7;have v78:=v7.mono fun x v h=>h.kt (KT.of s8)
   refine⟨_,rfl,.ref p8,"list",_,true,rfl,.lst e8,zhb _ _,_,rfl,iteF ?_⟩;refine⟨_,rfl,_,rfl,lT (F8.map cI),lT (F8.map cI),zc0 (SqL.of e8) v8,zc0 (SqL.of e78) v78,zcd _,zcd _,_,rfl,iteN (by rw[zki];rfl) ?_⟩;have hul:us8.length<=3660:=by rw[v8.1];exact hl8
   refine⟨_,rfl,p8,rfl,⟨_,SqL.of e8⟩,fun g hg=>?_⟩
   refine zaD (K:=K) (a:=p8) (xs:=us8) (fun i σ H9=>∃o,σ=[o]/\Same H8 H9/\H9 g=some (.lst ((List.replicate i true).map V.bl)))
    ⟨_,rfl,Same.up hg,zaa⟩ (fun i σ H9 _ ⟨_,_,s9,_⟩=>SqL.of (s9 _ _ e8)) ?_ ?_
   .rintro i u σ H9 hi ⟨o,rfl,s9,e9⟩;have hil:i<us8.length:=(List.getElem?_eq_some_iff.mp hi).1;obtain⟨f,hf,bf,rfl,qf⟩:=v8.at hi;rw[zcE];refine zcY ?_
    refine⟨_,rfl,.ref bf,"tuple",_,true,rfl,.tup (s9 _ _ qf),zhb _ _,?_⟩;refine⟨_,e9,bigS (by simp;lia),_,rfl,zau hg s9,?_⟩;rw[zaa,List.replicate_succ',List.map_append];rfl
   .rintro σ H9 ⟨o,rfl,s9,e9⟩;refine⟨g,_,rfl,SqL.of e9,_,rfl,iteN (by simp) ?_⟩;have f9:=s9 _ _ e8;refine⟨_,rfl,.inl ⟨rfl,_,SqL.of f9⟩,p8,_,rfl,rfl,f9,?_⟩;have s10:Same H7 (upd H9 p8 (.lst [])):=zau hp8 (s8.trans s9);generalize upd H9 p8 (.lst [])=H10 at s10;refine⟨_,rfl,v,r,isIn cs,es,rfl,hx7.kt (KT.of s10),hcan,hel,hsm60,fun p11 H11 us11 F11 hp11 s11 e11 v11 hm11 ho11 _=>?_⟩;have eF2:F11=F8:=zio (ho11.imp fun h=>zjj h) hF7 fun c=>(hm11 c).trans (hm7 c).symm
    subst eF2;have s711:=s10.trans s11;refine⟨_,rfl,lT (F11.map cI),lT (F11.map cI),zc0 (SqL.of e11) v11,zc0 (SqL.of (s711 _ _ e7)) (v7.mono fun x v h=>h.kt (KT.of s711)),zcd _,zcd _,_,rfl,iteN (by rw[zki];rfl) ?_⟩;exact⟨_,_,_,rfl,b6.trans (b7.trans s711.but1),lW7.same s711⟩
  .rintro σ H6 ⟨o2,o3,o4,rfl,b6,lW6⟩;exact k _
end
open PySem L2 RP
theorem all_mk {L0 L1:Addr}{l:W.OpenLaw}{w:World}{K:W.Frag}{h:Heap}{mg:Str -> Option Value}{fa:Addr}(X:K.In h) (G:h.Ns mainGlobals mg) (hfa:mg "law" = some (.ref fa))
  {f0:Addr}{od0 an0:Option Addr}{sl0:Array (Option Value)}{oc0 kV0 dc0 pm0 cd0 ct0:Value}
  (a0:W.nsIn K mainGlobals "cell_order" = some (some (.ref f0))) (l0:K.lookup f0=some ⟨oc0,od0,.func (W.fnOf "cell_order" "cell_order" (zar zbl) (zaq zbl) (zad zbl) .none kV0 dc0 pm0 an0 cd0 ct0),sl0⟩) (c0:W.codeIn K cd0 "cell_order" = true) (k0:W.keepIn K (.ref f0)=true)
  {f1:Addr}{od1 an1:Option Addr}{sl1:Array (Option Value)}{oc1 kV1 dc1 pm1 cd1 ct1:Value}
  (a1:W.nsIn K mainGlobals "gone" = some (some (.ref f1))) (l1:K.lookup f1=some ⟨oc1,od1,.func (W.fnOf "gone" "gone" (zar zdG) (zaq zdG) (zad zdG) .none kV1 dc1 pm1 an1 cd1 ct1),sl1⟩) (c1:W.codeIn K cd1 "gone" = true) (k1:W.keepIn K (.ref f1)=true)
  {f2:Addr}{od2 an2:Option Addr}{sl2:Array (Option Value)}{oc2 kV2 dc2 pm2 cd2 ct2:Value}
  (a2:W.nsIn K mainGlobals "gap_beside" = some (some (.ref f2))) (l2:K.lookup f2=some ⟨oc2,od2,.func (W.fnOf "gap_beside" "gap_beside" (zar zbj) (zaq zbj) (zad zbj) .none kV2 dc2 pm2 an2 cd2 ct2),sl2⟩) (c2:W.codeIn K cd2 "gap_beside" = true) (k2:W.keepIn K (.ref f2)=true)
  {f3:Addr}{od3 an3:Option Addr}{sl3:Array (Option Value)}{oc3 kV3 dc3 pm3 cd3 ct3:Value}
  (a3:W.nsIn K mainGlobals "straight_step" = some (some (.ref f3))) (l3:K.lookup f3=some ⟨oc3,od3,.func (W.fnOf "straight_step" "straight_step" (zar zaK) (zaq zaK) (zad zaK) .none kV3 dc3 pm3 an3 cd3 ct3),sl3⟩) (c3:W.codeIn K cd3 "straight_step" = true) (k3:W.keepIn K (.ref f3)=true)
  {f4:Addr}{od4 an4:Option Addr}{sl4:Array (Option Value)}{oc4 kV4 dc4 pm4 cd4 ct4:Value}
  (a4:W.nsIn K mainGlobals "slant_step" = some (some (.ref f4))) (l4:K.lookup f4=some ⟨oc4,od4,.func (W.fnOf "slant_step" "slant_step" (zar zbi) (zaq zbi) (zad zbi) .none kV4 dc4 pm4 an4 cd4 ct4),sl4⟩) (c4:W.codeIn K cd4 "slant_step" = true) (k4:W.keepIn K (.ref f4)=true)
  {f5:Addr}{od5 an5:Option Addr}{sl5:Array (Option Value)}{oc5 kV5 dc5 pm5 cd5 ct5:Value}
  (a5:W.nsIn K mainGlobals "is_slant" = some (some (.ref f5))) (l5:K.lookup f5=some ⟨oc5,od5,.func (W.fnOf "is_slant" "is_slant" (zar zbQ) (zaq zbQ) (zad zbQ) .none kV5 dc5 pm5 an5 cd5 ct5),sl5⟩) (c5:W.codeIn K cd5 "is_slant" = true) (k5:W.keepIn K (.ref f5)=true)
  {f6:Addr}{od6 an6:Option Addr}{sl6:Array (Option Value)}{oc6 kV6 dc6 pm6 cd6 ct6:Value}
  (a6:W.nsIn K mainGlobals "edge_behind" = some (some (.ref f6))) (l6:K.lookup f6=some ⟨oc6,od6,.func (W.fnOf "edge_behind" "edge_behind" (zar za3) (zaq za3) (zad za3) .none kV6 dc6 pm6 an6 cd6 ct6),sl6⟩) (c6:W.codeIn K cd6 "edge_behind" = true) (k6:W.keepIn K (.ref f6)=true)
  {f7:Addr}{od7 an7:Option Addr}{sl7:Array (Option Value)}{oc7 kV7 dc7 pm7 cd7 ct7:Value}
  (a7:W.nsIn K mainGlobals "lefts_and_slants" = some (some (.ref f7))) (l7:K.lookup f7=some ⟨oc7,od7,.func (W.fnOf "lefts_and_slants" "lefts_and_slants" (zar zav) (zaq zav) (zad zav) .none kV7 dc7 pm7 an7 cd7 ct7),sl7⟩) (c7:W.codeIn K cd7 "lefts_and_slants" = true) (k7:W.keepIn K (.ref f7)=true)
  {f8:Addr}{od8 an8:Option Addr}{sl8:Array (Option Value)}{oc8 kV8 dc8 pm8 cd8 ct8:Value}
  (a8:W.nsIn K mainGlobals "lefts_less_slants" = some (some (.ref f8))) (l8:K.lookup f8=some ⟨oc8,od8,.func (W.fnOf "lefts_less_slants" "lefts_less_slants" (zar zaz) (zaq zaz) (zad zaz) .none kV8 dc8 pm8 an8 cd8 ct8),sl8⟩) (c8:W.codeIn K cd8 "lefts_less_slants" = true) (k8:W.keepIn K (.ref f8)=true)
  {f9:Addr}{od9 an9:Option Addr}{sl9:Array (Option Value)}{oc9 kV9 dc9 pm9 cd9 ct9:Value}
  (a9:W.nsIn K mainGlobals "begin_of" = some (some (.ref f9))) (l9:K.lookup f9=some ⟨oc9,od9,.func (W.fnOf "begin_of" "begin_of" (zar zbF) (zaq zbF) (zad zbF) .none kV9 dc9 pm9 an9 cd9 ct9),sl9⟩) (c9:W.codeIn K cd9 "begin_of" = true) (k9:W.keepIn K (.ref f9)=true)
  {f10:Addr}{od10 an10:Option Addr}{sl10:Array (Option Value)}{oc10 kV10 dc10 pm10 cd10 ct10:Value}
  (a10:W.nsIn K mainGlobals "begin_edge" = some (some (.ref f10))) (l10:K.lookup f10=some ⟨oc10,od10,.func (W.fnOf "begin_edge" "begin_edge" (zar zbm) (zaq zbm) (zad zbm) .none kV10 dc10 pm10 an10 cd10 ct10),sl10⟩) (c10:W.codeIn K cd10 "begin_edge" = true) (k10:W.keepIn K (.ref f10)=true)
  {f11:Addr}{od11 an11:Option Addr}{sl11:Array (Option Value)}{oc11 kV11 dc11 pm11 cd11 ct11:Value}
  (a11:W.nsIn K mainGlobals "way_for" = some (some (.ref f11))) (l11:K.lookup f11=some ⟨oc11,od11,.func (W.fnOf "way_for" "way_for" (zar zb3) (zaq zb3) (zad zb3) .none kV11 dc11 pm11 an11 cd11 ct11),sl11⟩) (c11:W.codeIn K cd11 "way_for" = true) (k11:W.keepIn K (.ref f11)=true)
  {f12:Addr}{od12 an12:Option Addr}{sl12:Array (Option Value)}{oc12 kV12 dc12 pm12 cd12 ct12:Value}
  (a12:W.nsIn K mainGlobals "deeds_along" = some (some (.ref f12))) (l12:K.lookup f12=some ⟨oc12,od12,.func (W.fnOf "deeds_along" "deeds_along" (zar za4) (zaq za4) (zad za4) .none kV12 dc12 pm12 an12 cd12 ct12),sl12⟩) (c12:W.codeIn K cd12 "deeds_along" = true) (k12:W.keepIn K (.ref f12)=true)
  {f13:Addr}{od13 an13:Option Addr}{sl13:Array (Option Value)}{oc13 kV13 dc13 pm13 cd13 ct13:Value}
  (a13:W.nsIn K mainGlobals "walk_by" = some (some (.ref f13))) (l13:K.lookup f13=some ⟨oc13,od13,.func (W.fnOf "walk_by" "walk_by" (zar zb5) (zaq zb5) (zad zb5) .none kV13 dc13 pm13 an13 cd13 ct13),sl13⟩) (c13:W.codeIn K cd13 "walk_by" = true) (k13:W.keepIn K (.ref f13)=true)
  {f14:Addr}{od14 an14:Option Addr}{sl14:Array (Option Value)}{oc14 kV14 dc14 pm14 cd14 ct14:Value}
  (a14:W.nsIn K mainGlobals "walk_along" = some (some (.ref f14))) (l14:K.lookup f14=some ⟨oc14,od14,.func (W.fnOf "walk_along" "walk_along" (zar zbh) (zaq zbh) (zad zbh) .none kV14 dc14 pm14 an14 cd14 ct14),sl14⟩) (c14:W.codeIn K cd14 "walk_along" = true) (k14:W.keepIn K (.ref f14)=true)
  {f15:Addr}{od15 an15:Option Addr}{sl15:Array (Option Value)}{oc15 kV15 dc15 pm15 cd15 ct15:Value}
  (a15:W.nsIn K mainGlobals "seen_between" = some (some (.ref f15))) (l15:K.lookup f15=some ⟨oc15,od15,.func (W.fnOf "seen_between" "seen_between" (zar zaR) (zaq zaR) (zad zaR) .none kV15 dc15 pm15 an15 cd15 ct15),sl15⟩) (c15:W.codeIn K cd15 "seen_between" = true) (k15:W.keepIn K (.ref f15)=true)
  {f16:Addr}{od16 an16:Option Addr}{sl16:Array (Option Value)}{oc16 kV16 dc16 pm16 cd16 ct16:Value}
  (a16:W.nsIn K mainGlobals "gainsaid_at" = some (some (.ref f16))) (l16:K.lookup f16=some ⟨oc16,od16,.func (W.fnOf "gainsaid_at" "gainsaid_at" (zar za2) (zaq za2) (zad za2) .none kV16 dc16 pm16 an16 cd16 ct16),sl16⟩) (c16:W.codeIn K cd16 "gainsaid_at" = true) (k16:W.keepIn K (.ref f16)=true)
  {f17:Addr}{od17 an17:Option Addr}{sl17:Array (Option Value)}{oc17 kV17 dc17 pm17 cd17 ct17:Value}
  (a17:W.nsIn K mainGlobals "comes_back" = some (some (.ref f17))) (l17:K.lookup f17=some ⟨oc17,od17,.func (W.fnOf "comes_back" "comes_back" (zar zbk) (zaq zbk) (zad zbk) .none kV17 dc17 pm17 an17 cd17 ct17),sl17⟩) (c17:W.codeIn K cd17 "comes_back" = true) (k17:W.keepIn K (.ref f17)=true)
  {f18:Addr}{od18 an18:Option Addr}{sl18:Array (Option Value)}{oc18 kV18 dc18 pm18 cd18 ct18:Value}
  (a18:W.nsIn K mainGlobals "is_closed" = some (some (.ref f18))) (l18:K.lookup f18=some ⟨oc18,od18,.func (W.fnOf "is_closed" "is_closed" (zar zbz) (zaq zbz) (zad zbz) .none kV18 dc18 pm18 an18 cd18 ct18),sl18⟩) (c18:W.codeIn K cd18 "is_closed" = true) (k18:W.keepIn K (.ref f18)=true)
  {f19:Addr}{od19 an19:Option Addr}{sl19:Array (Option Value)}{oc19 kV19 dc19 pm19 cd19 ct19:Value}
  (a19:W.nsIn K mainGlobals "walk_of" = some (some (.ref f19))) (l19:K.lookup f19=some ⟨oc19,od19,.func (W.fnOf "walk_of" "walk_of" (zar zb4) (zaq zb4) (zad zb4) .none kV19 dc19 pm19 an19 cd19 ct19),sl19⟩) (c19:W.codeIn K cd19 "walk_of" = true) (k19:W.keepIn K (.ref f19)=true)
  {f20:Addr}{od20 an20:Option Addr}{sl20:Array (Option Value)}{oc20 kV20 dc20 pm20 cd20 ct20:Value}
  (a20:W.nsIn K mainGlobals "edges_of" = some (some (.ref f20))) (l20:K.lookup f20=some ⟨oc20,od20,.func (W.fnOf "edges_of" "edges_of" (zar zbE) (zaq zbE) (zad zbE) .none kV20 dc20 pm20 an20 cd20 ct20),sl20⟩) (c20:W.codeIn K cd20 "edges_of" = true) (k20:W.keepIn K (.ref f20)=true)
  {f21:Addr}{od21 an21:Option Addr}{sl21:Array (Option Value)}{oc21 kV21 dc21 pm21 cd21 ct21:Value}
  (a21:W.nsIn K mainGlobals "uprights" = some (some (.ref f21))) (l21:K.lookup f21=some ⟨oc21,od21,.func (W.fnOf "uprights" "uprights" (zar zbP) (zaq zbP) (zad zbP) .none kV21 dc21 pm21 an21 cd21 ct21),sl21⟩) (c21:W.codeIn K cd21 "uprights" = true) (k21:W.keepIn K (.ref f21)=true)
  {f22:Addr}{od22 an22:Option Addr}{sl22:Array (Option Value)}{oc22 kV22 dc22 pm22 cd22 ct22:Value}
  (a22:W.nsIn K mainGlobals "cells_within" = some (some (.ref f22))) (l22:K.lookup f22=some ⟨oc22,od22,.func (W.fnOf "cells_within" "cells_within" (zar zaG) (zaq zaG) (zad zaG) .none kV22 dc22 pm22 an22 cd22 ct22),sl22⟩) (c22:W.codeIn K cd22 "cells_within" = true) (k22:W.keepIn K (.ref f22)=true)
  {f23:Addr}{od23 an23:Option Addr}{sl23:Array (Option Value)}{oc23 kV23 dc23 pm23 cd23 ct23:Value}
  (a23:W.nsIn K mainGlobals "_law_cell_at" = some (some (.ref f23))) (l23:K.lookup f23=some ⟨oc23,od23,.func (W.fnOf "_law_cell_at" "_law_cell_at" (zar zaT) (zaq zaT) (zad zaT) .none kV23 dc23 pm23 an23 cd23 ct23),sl23⟩) (c23:W.codeIn K cd23 "_law_cell_at" = true) (k23:W.keepIn K (.ref f23)=true)
  {f24:Addr}{od24 an24:Option Addr}{sl24:Array (Option Value)}{oc24 kV24 dc24 pm24 cd24 ct24:Value}
  (a24:W.nsIn K mainGlobals "_law_row" = some (some (.ref f24))) (l24:K.lookup f24=some ⟨oc24,od24,.func (W.fnOf "_law_row" "_law_row" (zar zbR) (zaq zbR) (zad zbR) .none kV24 dc24 pm24 an24 cd24 ct24),sl24⟩) (c24:W.codeIn K cd24 "_law_row" = true) (k24:W.keepIn K (.ref f24)=true)
  {f25:Addr}{od25 an25:Option Addr}{sl25:Array (Option Value)}{oc25 kV25 dc25 pm25 cd25 ct25:Value}
  (a25:W.nsIn K mainGlobals "_law_picture" = some (some (.ref f25))) (l25:K.lookup f25=some ⟨oc25,od25,.func (W.fnOf "_law_picture" "_law_picture" (zar zaH) (zaq zaH) (zad zaH) .none kV25 dc25 pm25 an25 cd25 ct25),sl25⟩) (c25:W.codeIn K cd25 "_law_picture" = true) (k25:W.keepIn K (.ref f25)=true)
  {f26:Addr}{od26 an26:Option Addr}{sl26:Array (Option Value)}{oc26 kV26 dc26 pm26 cd26 ct26:Value}
  (a26:W.nsIn K mainGlobals "_law_gone" = some (some (.ref f26))) (l26:K.lookup f26=some ⟨oc26,od26,.func (W.fnOf "_law_gone" "_law_gone" (zar zbA) (zaq zbA) (zad zbA) .none kV26 dc26 pm26 an26 cd26 ct26),sl26⟩) (c26:W.codeIn K cd26 "_law_gone" = true) (k26:W.keepIn K (.ref f26)=true)
  {f27:Addr}{od27 an27:Option Addr}{sl27:Array (Option Value)}{oc27 kV27 dc27 pm27 cd27 ct27:Value}
  (a27:W.nsIn K mainGlobals "_law_lot" = some (some (.ref f27))) (l27:K.lookup f27=some ⟨oc27,od27,.func (W.fnOf "_law_lot" "_law_lot" (zar zbS) (zaq zbS) (zad zbS) .none kV27 dc27 pm27 an27 cd27 ct27),sl27⟩) (c27:W.codeIn K cd27 "_law_lot" = true) (k27:W.keepIn K (.ref f27)=true)
  {f28:Addr}{od28 an28:Option Addr}{sl28:Array (Option Value)}{oc28 kV28 dc28 pm28 cd28 ct28:Value}
  (a28:W.nsIn K mainGlobals "_law_behind" = some (some (.ref f28))) (l28:K.lookup f28=some ⟨oc28,od28,.func (W.fnOf "_law_behind" "_law_behind" (zar za7) (zaq za7) (zad za7) .none kV28 dc28 pm28 an28 cd28 ct28),sl28⟩) (c28:W.codeIn K cd28 "_law_behind" = true) (k28:W.keepIn K (.ref f28)=true)
  {f29:Addr}{od29 an29:Option Addr}{sl29:Array (Option Value)}{oc29 kV29 dc29 pm29 cd29 ct29:Value}
  (a29:W.nsIn K mainGlobals "_law_edges" = some (some (.ref f29))) (l29:K.lookup f29=some ⟨oc29,od29,.func (W.fnOf "_law_edges" "_law_edges" (zar za0) (zaq za0) (zad za0) .none kV29 dc29 pm29 an29 cd29 ct29),sl29⟩) (c29:W.codeIn K cd29 "_law_edges" = true) (k29:W.keepIn K (.ref f29)=true)
  {f30:Addr}{od30 an30:Option Addr}{sl30:Array (Option Value)}{oc30 kV30 dc30 pm30 cd30 ct30:Value}
  (a30:W.nsIn K mainGlobals "_law_walked" = some (some (.ref f30))) (l30:K.lookup f30=some ⟨oc30,od30,.func (W.fnOf "_law_walked" "_law_walked" (zar za5) (zaq za5) (zad za5) .none kV30 dc30 pm30 an30 cd30 ct30),sl30⟩) (c30:W.codeIn K cd30 "_law_walked" = true) (k30:W.keepIn K (.ref f30)=true)
  {f31:Addr}{od31 an31:Option Addr}{sl31:Array (Option Value)}{oc31 kV31 dc31 pm31 cd31 ct31:Value}
  (a31:W.nsIn K mainGlobals "_law_told" = some (some (.ref f31))) (l31:K.lookup f31=some ⟨oc31,od31,.func (W.fnOf "_law_told" "_law_told" (zar zaS) (zaq zaS) (zad zaS) .none kV31 dc31 pm31 an31 cd31 ct31),sl31⟩) (c31:W.codeIn K cd31 "_law_told" = true) (k31:W.keepIn K (.ref f31)=true)
  {f32:Addr}{od32 an32:Option Addr}{sl32:Array (Option Value)}{oc32 kV32 dc32 pm32 ct32:Value}{cc1:Addr}{hd1:Option Addr}{hv1:Array Value}{hs1:Array (Option Value)}
  (a32:W.nsIn K mainGlobals "_law_traced" = some (some (.ref f32))) (l32:K.lookup f32=some ⟨oc32,od32,.func (W.fnOf "_law_traced" "_law_traced" (zar za6) (zaq za6) (zad za6) .none kV32 dc32 pm32 an32 (.ref cc1) ct32),sl32⟩) (c32:W.codeIn K (.ref cc1) "_law_traced" = true) (k32:W.keepIn K (.ref f32)=true)
  (lc1:K.lookup cc1=some ⟨.type "code",hd1,.fields hv1,hs1⟩) (lh1:hdOk hv1 cc1 L1=true)
  {f33:Addr}{od33 an33:Option Addr}{sl33:Array (Option Value)}{oc33 kV33 dc33 pm33 cd33 ct33:Value}
  (a33:W.nsIn K mainGlobals "_law_flood" = some (some (.ref f33))) (l33:K.lookup f33=some ⟨oc33,od33,.func (W.fnOf "_law_flood" "_law_flood" (zar zbn) (zaq zbn) (zad zbn) .none kV33 dc33 pm33 an33 cd33 ct33),sl33⟩) (c33:W.codeIn K cd33 "_law_flood" = true) (k33:W.keepIn K (.ref f33)=true)
  {f34:Addr}{od34 an34:Option Addr}{sl34:Array (Option Value)}{oc34 kV34 dc34 pm34 cd34 ct34:Value}
  (a34:W.nsIn K mainGlobals "_law_box" = some (some (.ref f34))) (l34:K.lookup f34=some ⟨oc34,od34,.func (W.fnOf "_law_box" "_law_box" (zar zbq) (zaq zbq) (zad zbq) .none kV34 dc34 pm34 an34 cd34 ct34),sl34⟩) (c34:W.codeIn K cd34 "_law_box" = true) (k34:W.keepIn K (.ref f34)=true)
  {f35:Addr}{od35 an35:Option Addr}{sl35:Array (Option Value)}{oc35 kV35 dc35 pm35 ct35:Value}{cc0:Addr}{hd0:Option Addr}{hv0:Array Value}{hs0:Array (Option Value)}
  (a35:W.nsIn K mainGlobals "_law_within" = some (some (.ref f35))) (l35:K.lookup f35=some ⟨oc35,od35,.func (W.fnOf "_law_within" "_law_within" (zar zaN) (zaq zaN) (zad zaN) .none kV35 dc35 pm35 an35 (.ref cc0) ct35),sl35⟩) (c35:W.codeIn K (.ref cc0) "_law_within" = true) (k35:W.keepIn K (.ref f35)=true)
  (lc0:K.lookup cc0=some ⟨.type "code",hd0,.fields hv0,hs0⟩) (lh0:hdOk hv0 cc0 L0=true)
  {f36:Addr}{od36 an36:Option Addr}{sl36:Array (Option Value)}{oc36 kV36 dc36 pm36 cd36 ct36:Value}
  (a36:W.nsIn K mainGlobals "law" = some (some (.ref f36))) (l36:K.lookup f36=some ⟨oc36,od36,.func (W.fnOf "law" "law" (zar s_law) (zaq s_law) (zad s_law) .none kV36 dc36 pm36 an36 cd36 ct36),sl36⟩) (c36:W.codeIn K cd36 "law" = true) (k36:W.keepIn K (.ref f36)=true)
  {M m0 m1 m2 m3 m4 m5 m6 m7:Addr}{odM:Option Addr}{nM:Nat}{slM:Array (Option Value)}
  (aM:W.nsIn K mainGlobals "MOVES" = some (some (.ref M))) (lM:K.lookup M=some ⟨.type "tuple",odM,.seq #[.ref m0,.ref m1,.ref m2,.ref m3,.ref m4,.ref m5,.ref m6,.ref m7] nM,slM⟩)
  {odm0:Option Addr}{nm0:Nat}{slm0:Array (Option Value)}{tm0 um0:Tok} (x0:K.lookup m0=some ⟨.type "tuple",odm0,.seq #[.int (1) tm0,.int (0) um0] nm0,slm0⟩)
  {odm1:Option Addr}{nm1:Nat}{slm1:Array (Option Value)}{tm1 um1:Tok} (x1:K.lookup m1=some ⟨.type "tuple",odm1,.seq #[.int (1) tm1,.int (1) um1] nm1,slm1⟩)
  {odm2:Option Addr}{nm2:Nat}{slm2:Array (Option Value)}{tm2 um2:Tok} (x2:K.lookup m2=some ⟨.type "tuple",odm2,.seq #[.int (0) tm2,.int (1) um2] nm2,slm2⟩)
  {odm3:Option Addr}{nm3:Nat}{slm3:Array (Option Value)}{tm3 um3:Tok} (x3:K.lookup m3=some ⟨.type "tuple",odm3,.seq #[.int (-1) tm3,.int (1) um3] nm3,slm3⟩)
  {odm4:Option Addr}{nm4:Nat}{slm4:Array (Option Value)}{tm4 um4:Tok} (x4:K.lookup m4=some ⟨.type "tuple",odm4,.seq #[.int (-1) tm4,.int (0) um4] nm4,slm4⟩)
  {odm5:Option Addr}{nm5:Nat}{slm5:Array (Option Value)}{tm5 um5:Tok} (x5:K.lookup m5=some ⟨.type "tuple",odm5,.seq #[.int (-1) tm5,.int (-1) um5] nm5,slm5⟩)
  {odm6:Option Addr}{nm6:Nat}{slm6:Array (Option Value)}{tm6 um6:Tok} (x6:K.lookup m6=some ⟨.type "tuple",odm6,.seq #[.int (0) tm6,.int (-1) um6] nm6,slm6⟩)
  {odm7:Option Addr}{nm7:Nat}{slm7:Array (Option Value)}{tm7 um7:Tok} (x7:K.lookup m7=some ⟨.type "tuple",odm7,.seq #[.int (1) tm7,.int (-1) um7] nm7,slm7⟩)
  {B:Addr}{t1 t2 t3 t4:Tok}{nB:Nat} (aB:W.nsIn K mainGlobals "BEGIN_WAYS" = some (some (.ref B))) (lB:K.lookup B=some ⟨.type "dict",none,.dict #[⟨PyData.keyHash w.params "rim",.str "rim" t1,.int 0 t2⟩,⟨PyData.keyHash w.params "hole",.str "hole" t3,.int 2 t4⟩] nB,#[]⟩)
  {B2:Addr}{u1 u2 u3 u4:Tok}{nB2:Nat} (aB2:W.nsIn K mainGlobals "MORE_LEFTS" = some (some (.ref B2))) (lB2:K.lookup B2=some ⟨.type "dict",none,.dict #[⟨PyData.keyHash w.params "rim",.str "rim" u1,.int 4 u2⟩,⟨PyData.keyHash w.params "hole",.str "hole" u3,.int (-4) u4⟩] nB2,#[]⟩)
  (z_range:W.nsIn K mainGlobals "range" = some none)
  (z_len:W.nsIn K mainGlobals "len" = some none)
  (z_min:W.nsIn K mainGlobals "min" = some none)
  (z_sorted:W.nsIn K mainGlobals "sorted" = some none)
  (z_tuple:W.nsIn K mainGlobals "tuple" = some none)
  (z_int:W.nsIn K mainGlobals "int" = some none)
  (z_bool:W.nsIn K mainGlobals "bool" = some none)
  (z_str:W.nsIn K mainGlobals "str" = some none)
  (z_all:W.nsIn K mainGlobals "all" = some none)
  (z_isinstance:W.nsIn K mainGlobals "isinstance" = some none)
  (z_list:W.nsIn K mainGlobals "list" = some none)
  (z_sum:W.nsIn K mainGlobals "sum" = some none)
  (z_enumerate:W.nsIn K mainGlobals "enumerate" = some none)
  (z_zip:W.nsIn K mainGlobals "zip" = some none)
  (z_max:W.nsIn K mainGlobals "max" = some none)
  (hL01:L0≠L1) :
  ∃fd:FuncData,(∀(s:Shared) (v:Value),BindsTo s fd ⟨[v],[]⟩ [("_law_script",v)])/\(∀P∈[L0,L1],∃c,W.codeHdIn K c P=true)/\∀base:Heap,K.In base->base.Ns mainGlobals mg->Bm mg base->FnOk l.prog w K mg base CX0 10 fa fd ["_law_script"] (spLaw K L0 L1):=by
 have e:=hfa.symm.trans (W.mg_of X G a36)
 cases e
 have moves:∃M,mg "MOVES" = some (.ref M)/\∀H,∃ms:List Addr,SqT K H M (ms.map V.ref)/\ms.length=8/\∀(i:Nat) a,ms[i]?=some a->SqT K H a [.int (mv i).1,.int (mv i).2]:=by
  refine⟨M,W.mg_of X G aM,fun H=>⟨[m0,m1,m2,m3,m4,m5,m6,m7],.inr ⟨_,_,_,lM,rfl,rfl,(by show 8<=sizeLine;decide),.cons rfl (.cons rfl (.cons rfl (.cons rfl (.cons rfl (.cons rfl (.cons rfl (.cons rfl .nil)))))))⟩,rfl,fun i a e=>?_⟩⟩
  match i,e with
  | 0,e=>cases e;exact .inr ⟨_,_,_,x0,rfl,rfl,(by show 2<=sizeLine;decide),.cons ⟨_,rfl⟩ (.cons ⟨_,rfl⟩ .nil)⟩
  | 1,e=>cases e;exact .inr ⟨_,_,_,x1,rfl,rfl,(by show 2<=sizeLine;decide),.cons ⟨_,rfl⟩ (.cons ⟨_,rfl⟩ .nil)⟩
  | 2,e=>cases e;exact .inr ⟨_,_,_,x2,rfl,rfl,(by show 2<=sizeLine;decide),.cons ⟨_,rfl⟩ (.cons ⟨_,rfl⟩ .nil)⟩
  | 3,e=>cases e;exact .inr ⟨_,_,_,x3,rfl,rfl,(by show 2<=sizeLine;decide),.cons ⟨_,rfl⟩ (.cons ⟨_,rfl⟩ .nil)⟩
  | 4,e=>cases e;exact .inr ⟨_,_,_,x4,rfl,rfl,(by show 2<=sizeLine;decide),.cons ⟨_,rfl⟩ (.cons ⟨_,rfl⟩ .nil)⟩
  | 5,e=>cases e;exact .inr ⟨_,_,_,x5,rfl,rfl,(by show 2<=sizeLine;decide),.cons ⟨_,rfl⟩ (.cons ⟨_,rfl⟩ .nil)⟩
  | 6,e=>cases e;exact .inr ⟨_,_,_,x6,rfl,rfl,(by show 2<=sizeLine;decide),.cons ⟨_,rfl⟩ (.cons ⟨_,rfl⟩ .nil)⟩
  | 7,e=>cases e;exact .inr ⟨_,_,_,x7,rfl,rfl,(by show 2<=sizeLine;decide),.cons ⟨_,rfl⟩ (.cons ⟨_,rfl⟩ .nil)⟩
  |i+8,e=>exact absurd (List.getElem?_eq_some_iff.mp e).1 (by simp)
 have ways:Ways l.prog w K mg:=⟨⟨B,t1,t2,t3,t4,nB,W.mg_of X G aB,lB⟩⟩;have T:Txt l.prog w K mg:={ moves:=moves,ways:=ways,more:=⟨⟨B2,u1,u2,u3,u4,nB2,W.mg_of X G aB2,lB2⟩⟩,nrange:=W.mg_none_of X G z_range,nlen:=W.mg_none_of X G z_len,nmin:=W.mg_none_of X G z_min,nsorted:=W.mg_none_of X G z_sorted,ntuple:=W.mg_none_of X G z_tuple,nint:=W.mg_none_of X G z_int,nbool:=W.mg_none_of X G z_bool,nstr:=W.mg_none_of X G z_str,nall:=W.mg_none_of X G z_all,nisinstance:=W.mg_none_of X G z_isinstance,nlist:=W.mg_none_of X G z_list,nsum:=W.mg_none_of X G z_sum,nenumerate:=W.mg_none_of X G z_enumerate,nzip:=W.mg_none_of X G z_zip,nmax:=W.mg_none_of X G z_max };have F0:=zaB (st:=zbl) l0 c0 k0;have b0:=F0.binds (ps:=["cell"]) fun _ _ _ _ _ _ us hl=>match us,hl with |[_],_=>rfl
 have d'0:Df K mg "cell_order" zbl ["cell"]:=⟨f0,_,F0,W.mg_of X G a0,b0⟩;have F1:=zaB (st:=zdG) l1 c1 k1;have b1:=F1.binds (ps:=["x","y","step"]) fun _ _ _ _ _ _ us hl=>match us,hl with |[_,_,_],_=>rfl
 have d'1:Df K mg "gone" zdG ["x","y","step"]:=⟨f1,_,F1,W.mg_of X G a1,b1⟩;have F2:=zaB (st:=zbj) l2 c2 k2;have b2:=F2.binds (ps:=["edge"]) fun _ _ _ _ _ _ us hl=>match us,hl with |[_],_=>rfl
 have d'2:Df K mg "gap_beside" zbj ["edge"]:=⟨f2,_,F2,W.mg_of X G a2,b2⟩;have F3:=zaB (st:=zaK) l3 c3 k3;have b3:=F3.binds (ps:=["way"]) fun _ _ _ _ _ _ us hl=>match us,hl with |[_],_=>rfl
 have d'3:Df K mg "straight_step" zaK ["way"]:=⟨f3,_,F3,W.mg_of X G a3,b3⟩;have F4:=zaB (st:=zbi) l4 c4 k4;have b4:=F4.binds (ps:=["way"]) fun _ _ _ _ _ _ us hl=>match us,hl with |[_],_=>rfl
 have d'4:Df K mg "slant_step" zbi ["way"]:=⟨f4,_,F4,W.mg_of X G a4,b4⟩;have F5:=zaB (st:=zbQ) l5 c5 k5;have b5:=F5.binds (ps:=["step"]) fun _ _ _ _ _ _ us hl=>match us,hl with |[_],_=>rfl
 have d'5:Df K mg "is_slant" zbQ ["step"]:=⟨f5,_,F5,W.mg_of X G a5,b5⟩;have F6:=zaB (st:=za3) l6 c6 k6;have b6:=F6.binds (ps:=["edge","step"]) fun _ _ _ _ _ _ us hl=>match us,hl with |[_,_],_=>rfl
 have d'6:Df K mg "edge_behind" za3 ["edge","step"]:=⟨f6,_,F6,W.mg_of X G a6,b6⟩;have F7:=zaB (st:=zav) l7 c7 k7;have b7:=F7.binds (ps:=["walk"]) fun _ _ _ _ _ _ us hl=>match us,hl with |[_],_=>rfl
 have d'7:Df K mg "lefts_and_slants" zav ["walk"]:=⟨f7,_,F7,W.mg_of X G a7,b7⟩;have F8:=zaB (st:=zaz) l8 c8 k8;have b8:=F8.binds (ps:=["walk"]) fun _ _ _ _ _ _ us hl=>match us,hl with |[_],_=>rfl
 have d'8:Df K mg "lefts_less_slants" zaz ["walk"]:=⟨f8,_,F8,W.mg_of X G a8,b8⟩;have F9:=zaB (st:=zbF) l9 c9 k9;have b9:=F9.binds (ps:=["walk","sort"]) fun _ _ _ _ _ _ us hl=>match us,hl with |[_,_],_=>rfl
 have d'9:Df K mg "begin_of" zbF ["walk","sort"]:=⟨f9,_,F9,W.mg_of X G a9,b9⟩;have F10:=zaB (st:=zbm) l10 c10 k10;have b10:=F10.binds (ps:=["one"]) fun _ _ _ _ _ _ us hl=>match us,hl with |[_],_=>rfl
 have d'a:Df K mg "begin_edge" zbm ["one"]:=⟨f10,_,F10,W.mg_of X G a10,b10⟩;have F11:=zaB (st:=zb3) l11 c11 k11;have b11:=F11.binds (ps:=["step"]) fun _ _ _ _ _ _ us hl=>match us,hl with |[_],_=>rfl
 have d'b:Df K mg "way_for" zb3 ["step"]:=⟨f11,_,F11,W.mg_of X G a11,b11⟩;have F12:=zaB (st:=za4) l12 c12 k12;have b12:=F12.binds (ps:=["begin_way","row"]) fun _ _ _ _ _ _ us hl=>match us,hl with |[_,_],_=>rfl
 have d'c:Df K mg "deeds_along" za4 ["begin_way","row"]:=⟨f12,_,F12,W.mg_of X G a12,b12⟩;have F13:=zaB (st:=zb5) l13 c13 k13;have b13:=F13.binds (ps:=["begin","deeds"]) fun _ _ _ _ _ _ us hl=>match us,hl with |[_,_],_=>rfl
 have d'd:Df K mg "walk_by" zb5 ["begin","deeds"]:=⟨f13,_,F13,W.mg_of X G a13,b13⟩;have F14:=zaB (st:=zbh) l14 c14 k14;have b14:=F14.binds (ps:=["begin","row"]) fun _ _ _ _ _ _ us hl=>match us,hl with |[_,_],_=>rfl
 have d'e:Df K mg "walk_along" zbh ["begin","row"]:=⟨f14,_,F14,W.mg_of X G a14,b14⟩;have F15:=zaB (st:=zaR) l15 c15 k15;have b15:=F15.binds (ps:=["edge","step"]) fun _ _ _ _ _ _ us hl=>match us,hl with |[_,_],_=>rfl
 have d'f:Df K mg "seen_between" zaR ["edge","step"]:=⟨f15,_,F15,W.mg_of X G a15,b15⟩;have F16:=zaB (st:=za2) l16 c16 k16;have b16:=F16.binds (ps:=["walk"]) fun _ _ _ _ _ _ us hl=>match us,hl with |[_],_=>rfl
 have d'10:Df K mg "gainsaid_at" za2 ["walk"]:=⟨f16,_,F16,W.mg_of X G a16,b16⟩;have F17:=zaB (st:=zbk) l17 c17 k17;have b17:=F17.binds (ps:=["walk"]) fun _ _ _ _ _ _ us hl=>match us,hl with |[_],_=>rfl
 have d'11:Df K mg "comes_back" zbk ["walk"]:=⟨f17,_,F17,W.mg_of X G a17,b17⟩;have F18:=zaB (st:=zbz) l18 c18 k18;have b18:=F18.binds (ps:=["walk","sort"]) fun _ _ _ _ _ _ us hl=>match us,hl with |[_,_],_=>rfl
 have d'12:Df K mg "is_closed" zbz ["walk","sort"]:=⟨f18,_,F18,W.mg_of X G a18,b18⟩;have F19:=zaB (st:=zb4) l19 c19 k19;have b19:=F19.binds (ps:=["one"]) fun _ _ _ _ _ _ us hl=>match us,hl with |[_],_=>rfl
 have d'13:Df K mg "walk_of" zb4 ["one"]:=⟨f19,_,F19,W.mg_of X G a19,b19⟩;have F20:=zaB (st:=zbE) l20 c20 k20;have b20:=F20.binds (ps:=["one"]) fun _ _ _ _ _ _ us hl=>match us,hl with |[_],_=>rfl
 have d'14:Df K mg "edges_of" zbE ["one"]:=⟨f20,_,F20,W.mg_of X G a20,b20⟩;have F21:=zaB (st:=zbP) l21 c21 k21;have b21:=F21.binds (ps:=["edges"]) fun _ _ _ _ _ _ us hl=>match us,hl with |[_],_=>rfl
 have d'15:Df K mg "uprights" zbP ["edges"]:=⟨f21,_,F21,W.mg_of X G a21,b21⟩;have F22:=zaB (st:=zaG) l22 c22 k22;have b22:=F22.binds (ps:=["one"]) fun _ _ _ _ _ _ us hl=>match us,hl with |[_],_=>rfl
 have d'16:Df K mg "cells_within" zaG ["one"]:=⟨f22,_,F22,W.mg_of X G a22,b22⟩;have F23:=zaB (st:=zaT) l23 c23 k23;have b23:=F23.binds (ps:=["_law_script","_law_k"]) fun _ _ _ _ _ _ us hl=>match us,hl with |[_,_],_=>rfl
 have d'17:Df K mg "_law_cell_at" zaT ["_law_script","_law_k"]:=⟨f23,_,F23,W.mg_of X G a23,b23⟩;have F24:=zaB (st:=zbR) l24 c24 k24;have b24:=F24.binds (ps:=["_law_cell","_law_many","_law_base"]) fun _ _ _ _ _ _ us hl=>match us,hl with |[_,_,_],_=>rfl
 have d'18:Df K mg "_law_row" zbR ["_law_cell","_law_many","_law_base"]:=⟨f24,_,F24,W.mg_of X G a24,b24⟩;have F25:=zaB (st:=zaH) l25 c25 k25;have b25:=F25.binds (ps:=["_law_script","_law_start"]) fun _ _ _ _ _ _ us hl=>match us,hl with |[_,_],_=>rfl
 have d'19:Df K mg "_law_picture" zaH ["_law_script","_law_start"]:=⟨f25,_,F25,W.mg_of X G a25,b25⟩;have F26:=zaB (st:=zbA) l26 c26 k26;have b26:=F26.binds (ps:=["_law_x","_law_y","_law_step"]) fun _ _ _ _ _ _ us hl=>match us,hl with |[_,_,_],_=>rfl
 have d'1a:Df K mg "_law_gone" zbA ["_law_x","_law_y","_law_step"]:=⟨f26,_,F26,W.mg_of X G a26,b26⟩;have F27:=zaB (st:=zbS) l27 c27 k27;have b27:=F27.binds (ps:=["_law_cells"]) fun _ _ _ _ _ _ us hl=>match us,hl with |[_],_=>rfl
 have d'1b:Df K mg "_law_lot" zbS ["_law_cells"]:=⟨f27,_,F27,W.mg_of X G a27,b27⟩;have F28:=zaB (st:=za7) l28 c28 k28;have b28:=F28.binds (ps:=["_law_there","_law_edge"]) fun _ _ _ _ _ _ us hl=>match us,hl with |[_,_],_=>rfl
 have d'1c:Df K mg "_law_behind" za7 ["_law_there","_law_edge"]:=⟨f28,_,F28,W.mg_of X G a28,b28⟩;have F29:=zaB (st:=za0) l29 c29 k29;have b29:=F29.binds (ps:=["_law_there"]) fun _ _ _ _ _ _ us hl=>match us,hl with |[_],_=>rfl
 have d'1d:Df K mg "_law_edges" za0 ["_law_there"]:=⟨f29,_,F29,W.mg_of X G a29,b29⟩;have F30:=zaB (st:=za5) l30 c30 k30;have b30:=F30.binds (ps:=["_law_there","_law_first"]) fun _ _ _ _ _ _ us hl=>match us,hl with |[_,_],_=>rfl
 have d'1e:Df K mg "_law_walked" za5 ["_law_there","_law_first"]:=⟨f30,_,F30,W.mg_of X G a30,b30⟩;have F31:=zaB (st:=zaS) l31 c31 k31;have b31:=F31.binds (ps:=["_law_edges_here","_law_steps"]) fun _ _ _ _ _ _ us hl=>match us,hl with |[_,_],_=>rfl
 have d'1f:Df K mg "_law_told" zaS ["_law_edges_here","_law_steps"]:=⟨f31,_,F31,W.mg_of X G a31,b31⟩;have F32:=zaB (st:=za6) l32 c32 k32;have b32:=F32.binds (ps:=["_law_cells"]) fun _ _ _ _ _ _ us hl=>match us,hl with |[_],_=>rfl
 obtain⟨d'20,hc_1⟩:∃d:Df K mg "_law_traced" za6 ["_law_cells"],d.fd.code=.ref cc1:=⟨⟨f32,_,F32,W.mg_of X G a32,b32⟩,rfl⟩;have F33:=zaB (st:=zbn) l33 c33 k33;have b33:=F33.binds (ps:=["_law_there","_law_first","_law_steps"]) fun _ _ _ _ _ _ us hl=>match us,hl with |[_,_,_],_=>rfl
 have d'21:Df K mg "_law_flood" zbn ["_law_there","_law_first","_law_steps"]:=⟨f33,_,F33,W.mg_of X G a33,b33⟩;have F34:=zaB (st:=zbq) l34 c34 k34;have b34:=F34.binds (ps:=["_law_cells"]) fun _ _ _ _ _ _ us hl=>match us,hl with |[_],_=>rfl
 have d'22:Df K mg "_law_box" zbq ["_law_cells"]:=⟨f34,_,F34,W.mg_of X G a34,b34⟩;have F35:=zaB (st:=zaN) l35 c35 k35;have b35:=F35.binds (ps:=["_law_cells","_law_one"]) fun _ _ _ _ _ _ us hl=>match us,hl with |[_,_],_=>rfl
 obtain⟨d'23,hc_0⟩:∃d:Df K mg "_law_within" zaN ["_law_cells","_law_one"],d.fd.code=.ref cc0:=⟨⟨f35,_,F35,W.mg_of X G a35,b35⟩,rfl⟩;have F36:=zaB (st:=s_law) l36 c36 k36;have b36:=F36.binds (ps:=["_law_script"]) fun _ _ _ _ _ _ us hl=>match us,hl with |[_],_=>rfl
 have hh_0:W.codeHdIn K cc0 L0=true:=hd_of lc0 lh0;have hh_1:W.codeHdIn K cc1 L1=true:=hd_of lc1 lh1;refine⟨W.fnOf "law" "law" (zar s_law) (zaq s_law) (zad s_law) .none kV36 dc36 pm36 an36 cd36 ct36,fun s v=>.of_eq rfl,List.forall_mem_cons.mpr ⟨⟨cc0,hh_0⟩,List.forall_mem_cons.mpr ⟨⟨cc1,hh_1⟩,fun _ z=>nomatch z⟩⟩,fun base _ _ hB=>?_⟩;have g'24:=d'0.fn (P:=l.prog) (w:=w) (base:=base) (zeT d'0);have g'25:=d'1.fn (P:=l.prog) (w:=w) (base:=base) (zkK T d'1);have g'26:=d'3.fn (P:=l.prog) (w:=w) (base:=base) (zds d'3);have g'27:=d'4.fn (P:=l.prog) (w:=w) (base:=base) (zeM d'4);have g'28:=d'5.fn (P:=l.prog) (w:=w) (base:=base) (zgm d'5);have g'29:=d'2.fn (P:=l.prog) (w:=w) (base:=base) (zeR g'25 d'2);have g'2a:=d'6.fn (P:=l.prog) (w:=w) (base:=base) (zd3 g'25 g'28 d'6);have g'2b:=d'7.fn (P:=l.prog) (w:=w) (base:=base) (zcP T g'28 d'7);have g'2c:=d'8.fn (P:=l.prog) (w:=w) (base:=base) (zcG g'2b d'8);have g'2d:=d'9.fn (P:=l.prog) (w:=w) (base:=base) (zgo T g'24 d'9);have g'2e:=d'a.fn (P:=l.prog) (w:=w) (base:=base) (zeU T d'a);have g'2f:=d'b.fn (P:=l.prog) (w:=w) (base:=base) (zhA d'b);have g'30:=d'c.fn (P:=l.prog) (w:=w) (base:=base) (zd4 g'2f d'c);have g'31:=d'd.fn (P:=l.prog) (w:=w) (base:=base) (zhC g'2a d'd);have g'32:=d'e.fn (P:=l.prog) (w:=w) (base:=base) (zeL g'31 g'30 d'e);have g'33:=d'f.fn (P:=l.prog) (w:=w) (base:=base) (zdL g'2a g'29 g'28 g'25 g'27 g'26 d'f);have g'34:=d'10.fn (P:=l.prog) (w:=w) (base:=base) (zd2 g'33 d'10);have g'35:=d'11.fn (P:=l.prog) (w:=w) (base:=base) (zeS g'2a d'11);have g'36:=d'12.fn (P:=l.prog) (w:=w) (base:=base) (zfw T g'35 g'2c d'12);have g'37:=d'13.fn (P:=l.prog) (w:=w) (base:=base) (zhB g'2e g'32 g'34 g'36 g'2d d'13);have g'38:=d'14.fn (P:=l.prog) (w:=w) (base:=base) (zgn g'37 d'14);have g'39:=d'17.fn (P:=l.prog) (w:=w) (base:=base) (zd1 T d'17);have g'3a:=d'18.fn (P:=l.prog) (w:=w) (base:=base) (zhD T d'18);have g'3b:=d'19.fn (P:=l.prog) (w:=w) (base:=base) (zd0 T g'39 g'3a d'19);have g'3c:=d'1a.fn (P:=l.prog) (w:=w) (base:=base) (zgl d'1a);have g'3d:=d'1b.fn (P:=l.prog) (w:=w) (base:=base) (zhE d'1b);have g'3e:=d'1c.fn (P:=l.prog) (w:=w) (base:=base) (zeQ g'3c d'1c);have g'3f:=d'1e.fn (P:=l.prog) (w:=w) (base:=base) (zeO g'3e d'1e);have g'40:=d'1d.fn (P:=l.prog) (w:=w) (base:=base) (zfv T g'3c d'1d);have g'41:=d'1f.fn (P:=l.prog) (w:=w) (base:=base) (zgk T d'1f);have g'42:=d'20.fn (P:=l.prog) (w:=w) (base:=base) (zeP T hB hh_1 g'3d g'40 g'3f g'41 d'20 hc_1);have g'43:=d'15.fn (P:=l.prog) (w:=w) (base:=base) (zgj T d'15);have g'44:=d'16.fn (P:=l.prog) (w:=w) (base:=base) (zdM T g'38 g'43 d'16);have g'45:=d'21.fn (P:=l.prog) (w:=w) (base:=base) (zfu g'3c d'21);have g'46:=d'22.fn (P:=l.prog) (w:=w) (base:=base) (zhF T d'22);have g'47:=d'23.fn (P:=l.prog) (w:=w) (base:=base) (zeN T hB hh_0 g'3d g'46 g'45 d'23 hc_0);exact zlB hL01.symm T g'3b g'42 g'47 g'44 ⟨_,_,F36,W.mg_of X G a36,b36⟩
theorem walk{L0 L1:Addr}{l:W.OpenLaw}{q:Program}{loose:List Str}{XP:(Str -> Option Value) -> Heap -> Prop}{YP:World -> Heap -> Prop}{d:DefRec}{K:Params -> W.Frag}(hn:l.most=some 63)(hdf:d.params.defaults = [])
  (hY:∀(w:World) (h:Heap),YP w h->(K w.params).In h/\(∀P∈[L0,L1],h.get? P=some (W.tabObj #[]))/\∀P∈[L0,L1],(K w.params).lookup P=none)
  (F:∀(w:World) (mg:Str->Option Value) (fa:Addr) (h:Heap),(K w.params).In h->h.Ns mainGlobals mg->mg d.name=some (.ref fa) ->
   ∃fd:FuncData,(∀(s:Shared) (u:Value),BindsTo s fd ⟨[u],[]⟩ [("_law_script",u)])/\(∀P∈[L0,L1],∃c,W.codeHdIn (K w.params) c P=true)/\∀base:Heap,(K w.params).In base->base.Ns mainGlobals mg->Bm mg base->FnOk l.prog w (K w.params) mg base CX0 10 fa fd ["_law_script"] (spLaw (K w.params) L0 L1)) :
  W.WalkO q loose XP YP l.row.toRowW d [] (fun f vs=>PySem.call f vs) :=
 L2.walk_ofL (n:=63) (k:=10) (x:="_law_script") (CX:=fun _=>CX0) (sp:=fun w=>spLaw (K w.params) L0 L1) (ts:=[L0,L1]) hn (by decide) hdf ⟨rfl,by decide,by decide⟩ hY F (fun _ _ a ns hl hT hS=>⟨a,ns,rfl,hS,hl,⟨#[],hT L0 (by simp),.inl rfl⟩,⟨#[],hT L1 (by simp),.inl rfl⟩,fun _=>rfl⟩) fun _ _ _ _ _ z=>z
end RR
namespace PySem.W.Fast
def tw15424321402857415903:=()
def tw3384147520684424970:=()
def tw13943105442523102650:=()
def tw16936614611921460010:=()
def tw2888085034517371614:=()
def tw13811982934916740131:=()
def tw8247826392473444432:=()
def tw6819594198344518024:=()
def tw11203723305822210966:=()
def tw17061748982465233171:=()
def tw17025213374008954165:=()
def tw10382968786182374666:=()
def tw4401252509406414864:=()
def tw18097429806775007604:=()
def tw2840607831260253224:=()
def tw8686850168990270472:=()
def tw16255560223439988423:=()
def tw5855597341837731449:=()
def tw17545719893404484033:=()
def tw17772900977598933712:=()
def tw14511816971518880901:=()
def tw10375714363277581079:=()
def tw2956778794900633941:=()
def tw8605553775859884651:=()
def tw2318440533953883723:=()
def tw7789420225520924494:=()
def tw10667762645118836639:=()
def tw1944027004018570256:=()
def tw3815629531586350168:=()
def tw16991262614818525602:=()
def tw14410791595432703646:=()
def tw9045211071526527757:=()
def tw8210253199209842205:=()
def tw3015302841412157131:=()
def tw7261403143656305505:=()
def tw511634235884999638:=()
def tw4825346440032272730:=()
def tw7629024613144918069:=()
def tw11630262834741544848:=()
def tw10038029372680228327:=()
def tw13020731546956701104:=()
def tw12610194118614672231:=()
def tw3020798911243381397:=()
def tw2541985051740427171:=()
def tw14551510060998203048:=()
def tw15623635039849879545:=()
def tw15912719728667091899:=()
def tw17341103947597563961:=()
def tw10596330463051328664:=()
def tw7185990013862371406:=()
def tw7660150260025703536:=()
def tw4088342288241023960:=()
def tw4924768036867363217:=()
def tw195518361740691175:=()
def tw7301446236677615417:=()
def tw12571026627273057506:=()
def tw11479293103437085159:=()
def tw6528747100380177842:=()
def tw2330612022273949473:=()
def tw16246823687209024243:=()
def tw5619754764484544017:=()
def tw2970691028016500932:=()
def tw11549286607926171589:=()
def tw14076912367113912131:=()
def tw15264159079170293275:=()
def tw11027041744753816325:=()
def tw13194995997738004117:=()
def tw8907289643982405690:=()
def tw3967590274807062821:=()
def tw12301664893429882233:=()
def tw2055902842191132226:=()
def tw534805500003048760:=()
def tw12469920542023960197:=()
def tw5996361370867760833:=()
def tw18154449218800257667:=()
def tw2727233512495172612:=()
def tw11302083694683124512:=()
def tw16708086253202531841:=()
def tw15646212888890497838:=()
def tw6083917502605589765:=()
def tw5310746950295440145:=()
def tw2135913162816649189:=()
def tw2706837163602446169:=()
def tw15164536042465552107:=()
def tw15636605581585504260:=()
def tw137528364856520563:=()
def tw12690200813738598278:=()
def tw1127265338596513736:=()
def tw17826223505751160559:=()
def tw17102241579456646854:=()
def tw4089677775764789973:=()
def tw15631486486047881027:=()
def tw281342321420331603:=()
def tw6509757173735111049:=()
def tw11322634722836367855:=()
def tw8210602957780105155:=()
def tw17802806322801922190:=()
def tw11400435091606026398:=()
def tw6765427580972776299:=()
def tw5302061863116629511:=()
def tw3742793622430094863:=()
def tw4706370171134841745:=()
def tw778001246599914775:=()
def tw702416418057788016:=()
def tw6282306557905527570:=()
def tw10044163328530028332:=()
def tw10677071813706826466:=()
def tw9210790786136199284:=()
def tw5308426808306683430:=()
def tw12661064265025246233:=()
def tw1970921915839801150:=()
def tw6478098772902726942:=()
def tw2248634048746288579:=()
def tw11918557412209033455:=()
def tw9767299010200695979:=()
def tw5516256700190155506:=()
def tw13453954591544789905:=()
def tw2810212612585218398:=()
def tw3979641869767552767:=()
def tw8023298277682829676:=()
def tw17970102065753777395:=()
def tw6143054863893510722:=()
def tw5169654755096138209:=()
def tw14650752458897272170:=()
def tw14609612198663957883:=()
def tw14867132479953641145:=()
def tw17520127128876118285:=()
def tw8157344522310345968:=()
def tw5179221647640983846:=()
def tw6364088103209963290:=()
def tw5987626970307082783:=()
def tw10961502937275449561:=()
def tw3715991124363939241:=()
def tw16065515204186283704:=()
def tw6946898865306328575:=()
def tw2305466815382877122:=()
def tw11848237369703957514:=()
def tw16973624389259962204:=()
def tw5936367730026283792:=()
def tw9344718277723161301:=()
def tw14305215802334721512:=()
def tw18307349056487398222:=()
def tw997560449947257984:=()
def tw9138115183935311271:=()
def tw15605204098074714077:=()
def tw5727177736562347895:=()
def tw4754701130959806339:=()
def tw9579946818799489447:=()
def tw18277907076988914208:=()
def tw15276885707379367122:=()
def tw1573983845918642445:=()
def tw15463811651179034469:=()
def tw6018306719102863714:=()
def tw3904615353142150539:=()
def tw7911393395642371909:=()
def tw613152578882179224:=()
def tw17486284814091273089:=()
def tw7236562523133882814:=()
def tw5715105623173488577:=()
def tw9863026884933226100:=()
def tw16396093569402408129:=()
def tw7270775623029170728:=()
def tw458543556924914767:=()
def tw3929455357161113453:=()
def tw16778320436665764313:=()
def tw5350479515488862920:=()
def tw12400092789821806262:=()
def tw680793066032503524:=()
def tw1003712497922795443:=()
def tw4533390100368698738:=()
def tw12366066628330387801:=()
def tw1526548444280281030:=()
def tw13141169778305365620:=()
def tw11567313562886003259:=()
def tw3104980135890421256:=()
def tw11801900414569385888:=()
def tw2424063843037158733:=()
def tw5242537565007060626:=()
def tw12953601439770400946:=()
def tw1267282416910132481:=()
def tw15812477241211752420:=()
def tw13662324871487213696:=()
def tw6236467126263281987:=()
def tw14756183095688146066:=()
def tw5219140875945520029:=()
def tw1564842053787127433:=()
def tw7254264466958884269:=()
def tw13319482777030078062:=()
def tw7074513581731593778:=()
def tw2590327647533916760:=()
def tw17378939556425898645:=()
def tw17267571900612817694:=()
def tw16496318021091354309:=()
def tw7997598307689032654:=()
def tw2109240638586574212:=()
def tw3487327076838950474:=()
def tw15682949625085755125:=()
def tw5896729223441112177:=()
def tw14668106322563763178:=()
def tw14333528310059108562:=()
def tw17064959658734147715:=()
def tw13348601250385851513:=()
end PySem.W.Fast
open PySem PySem.W PyProof.Rows
set_option maxRecDepth 100000 in
set_option maxHeartbeats 0 in
theorem PySem.Challenge.cw_rimsteps_k12_cells_within_holds : PySem.Challenge.rw_rimsteps_k12_cells_within.Holds := by
 w_on;o_law;k_head;(case hw=>w_witness2)
 k_fill
 refine RR.walk (l:=PySem.Challenge.rw_rimsteps_k12_cells_within) rfl rfl (L2.km_all (by decide)) ?F
 case F =>
  intro w mg fa h KX G hmg
  refine' RR.all_mk KX G hmg ?a0 ?l0 ?c0 ?k0 ?a1 ?l1 ?c1 ?k1 ?a2 ?l2 ?c2 ?k2 ?a3 ?l3 ?c3 ?k3 ?a4 ?l4 ?c4 ?k4 ?a5 ?l5 ?c5 ?k5 ?a6 ?l6 ?c6 ?k6 ?a7 ?l7 ?c7 ?k7 ?a8 ?l8 ?c8 ?k8 ?a9 ?l9 ?c9 ?k9 ?a10 ?l10 ?c10 ?k10 ?a11 ?l11 ?c11 ?k11 ?a12 ?l12 ?c12 ?k12 ?a13 ?l13 ?c13 ?k13 ?a14 ?l14 ?c14 ?k14 ?a15 ?l15 ?c15 ?k15 ?a16 ?l16 ?c16 ?k16 ?a17 ?l17 ?c17 ?k17 ?a18 ?l18 ?c18 ?k18 ?a19 ?l19 ?c19 ?k19 ?a20 ?l20 ?c20 ?k20 ?a21 ?l21 ?c21 ?k21 ?a22 ?l22 ?c22 ?k22 ?a23 ?l23 ?c23 ?k23 ?a24 ?l24 ?c24 ?k24 ?a25 ?l25 ?c25 ?k25 ?a26 ?l26 ?c26 ?k26 ?a27 ?l27 ?c27 ?k27 ?a28 ?l28 ?c28 ?k28 ?a29 ?l29 ?c29 ?k29 ?a30 ?l30 ?c30 ?k30 ?a31 ?l31 ?c31 ?k31 ?a32 ?l32 ?c32 ?k32 ?lc1 ?lh1 ?a33 ?l33 ?c33 ?k33 ?a34 ?l34 ?c34 ?k34 ?a35 ?l35 ?c35 ?k35 ?lc0 ?lh0 ?a36 ?l36 ?c36 ?k36 ?aM ?lM ?x0 ?x1 ?x2 ?x3 ?x4 ?x5 ?x6 ?x7 ?aB ?lB ?aB2 ?lB2 ?z_range ?z_len ?z_min ?z_sorted ?z_tuple ?z_int ?z_bool ?z_str ?z_all ?z_isinstance ?z_list ?z_sum ?z_enumerate ?z_zip ?z_max ?hL01
  (case a0=>k_is)
  (case l0=>k_is)
  (case c0=>k_is)
  (case k0=>k_is)
  (case a1=>k_is)
  (case l1=>k_is)
  (case c1=>k_is)
  (case k1=>k_is)
  (case a2=>k_is)
  (case l2=>k_is)
  (case c2=>k_is)
  (case k2=>k_is)
  (case a3=>k_is)
  (case l3=>k_is)
  (case c3=>k_is)
  (case k3=>k_is)
  (case a4=>k_is)
  (case l4=>k_is)
  (case c4=>k_is)
  (case k4=>k_is)
  (case a5=>k_is)
  (case l5=>k_is)
  (case c5=>k_is)
  (case k5=>k_is)
  (case a6=>k_is)
  (case l6=>k_is)
  (case c6=>k_is)
  (case k6=>k_is)
  (case a7=>k_is)
  (case l7=>k_is)
  (case c7=>k_is)
  (case k7=>k_is)
  (case a8=>k_is)
  (case l8=>k_is)
  (case c8=>k_is)
  (case k8=>k_is)
  (case a9=>k_is)
  (case l9=>k_is)
  (case c9=>k_is)
  (case k9=>k_is)
  (case a10=>k_is)
  (case l10=>k_is)
  (case c10=>k_is)
  (case k10=>k_is)
  (case a11=>k_is)
  (case l11=>k_is)
  (case c11=>k_is)
  (case k11=>k_is)
  (case a12=>k_is)
  (case l12=>k_is)
  (case c12=>k_is)
  (case k12=>k_is)
  (case a13=>k_is)
  (case l13=>k_is)
  (case c13=>k_is)
  (case k13=>k_is)
  (case a14=>k_is)
  (case l14=>k_is)
  (case c14=>k_is)
  (case k14=>k_is)
  (case a15=>k_is)
  (case l15=>k_is)
  (case c15=>k_is)
  (case k15=>k_is)
  (case a16=>k_is)
  (case l16=>k_is)
  (case c16=>k_is)
  (case k16=>k_is)
  (case a17=>k_is)
  (case l17=>k_is)
  (case c17=>k_is)
  (case k17=>k_is)
  (case a18=>k_is)
  (case l18=>k_is)
  (case c18=>k_is)
  (case k18=>k_is)
  (case a19=>k_is)
  (case l19=>k_is)
  (case c19=>k_is)
  (case k19=>k_is)
  (case a20=>k_is)
  (case l20=>k_is)
  (case c20=>k_is)
  (case k20=>k_is)
  (case a21=>k_is)
  (case l21=>k_is)
  (case c21=>k_is)
  (case k21=>k_is)
  (case a22=>k_is)
  (case l22=>k_is)
  (case c22=>k_is)
  (case k22=>k_is)
  (case a23=>k_is)
  (case l23=>k_is)
  (case c23=>k_is)
  (case k23=>k_is)
  (case a24=>k_is)
  (case l24=>k_is)
  (case c24=>k_is)
  (case k24=>k_is)
  (case a25=>k_is)
  (case l25=>k_is)
  (case c25=>k_is)
  (case k25=>k_is)
  (case a26=>k_is)
  (case l26=>k_is)
  (case c26=>k_is)
  (case k26=>k_is)
  (case a27=>k_is)
  (case l27=>k_is)
  (case c27=>k_is)
  (case k27=>k_is)
  (case a28=>k_is)
  (case l28=>k_is)
  (case c28=>k_is)
  (case k28=>k_is)
  (case a29=>k_is)
  (case l29=>k_is)
  (case c29=>k_is)
  (case k29=>k_is)
  (case a30=>k_is)
  (case l30=>k_is)
  (case c30=>k_is)
  (case k30=>k_is)
  (case a31=>k_is)
  (case l31=>k_is)
  (case c31=>k_is)
  (case k31=>k_is)
  (case a32=>k_is)
  (case l32=>k_is)
  (case c32=>k_is)
  (case k32=>k_is)
  (case lc1=>k_is)
  (case lh1=>exact rfl)
  (case a33=>k_is)
  (case l33=>k_is)
  (case c33=>k_is)
  (case k33=>k_is)
  (case a34=>k_is)
  (case l34=>k_is)
  (case c34=>k_is)
  (case k34=>k_is)
  (case a35=>k_is)
  (case l35=>k_is)
  (case c35=>k_is)
  (case k35=>k_is)
  (case lc0=>k_is)
  (case lh0=>exact rfl)
  (case a36=>k_is)
  (case l36=>k_is)
  (case c36=>k_is)
  (case k36=>k_is)
  (case aM=>k_is)
  (case lM=>k_is)
  (case x0=>k_is)
  (case x1=>k_is)
  (case x2=>k_is)
  (case x3=>k_is)
  (case x4=>k_is)
  (case x5=>k_is)
  (case x6=>k_is)
  (case x7=>k_is)
  (case aB=>k_is)
  (case lB=>k_is)
  (case aB2=>k_is)
  (case lB2=>k_is)
  (case z_range=>k_is)
  (case z_len=>k_is)
  (case z_min=>k_is)
  (case z_sorted=>k_is)
  (case z_tuple=>k_is)
  (case z_int=>k_is)
  (case z_bool=>k_is)
  (case z_str=>k_is)
  (case z_all=>k_is)
  (case z_isinstance=>k_is)
  (case z_list=>k_is)
  (case z_sum=>k_is)
  (case z_enumerate=>k_is)
  (case z_zip=>k_is)
  (case z_max=>k_is)
  (case hL01=>decide)

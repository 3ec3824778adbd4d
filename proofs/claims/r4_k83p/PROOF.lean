import PyProof.Rows.All
import Wide.All
import OpenK.AllK
import Wide.FinOn
import Lean
import PyProof.EqAt
import PyProof.EqKinds
import PyProof.TupleCall
import PySem.Challenge.RW_rimsteps_k83_pictures_drawn
set_option Elab.async false
set_option linter.all false
set_option maxRecDepth 100000
open PySem renaming Value → Aa,Shared → Ab,wpAny_bind → Ac,Program → Aj,wpAny → Ao,mainGlobals → Ap,model → As,Around → Au,wpAny_pure → Av,World → Ax,starEach → Ay,FuncData → AO,Spec → AQ,rawInt → AV,wpAny_holding → AW,assignEach → Bc,mem_of_lookup → Bd,wpAny_of_eq → Be,compareOp → Bf,wpAny_truthy_bool → Bl,sysModules → Bu,wpAny_loadPart' → Bz,codeAny → BG,wpAny_newObj_type → BH,keywordEach → BI,binaryOp → BS,wpAny_comprehension_free → BU,wpAny_passesOwn → BW,wpAny_mono → BZ,wpAny_Call_Name_kw → B0,sliceBounds → B4,wpAny_field → B5
open List renaming getElem?_eq_getElem → Ad,length_map → Af,getElem?_eq_some_iff → Ah,set_cons_succ → Ak,set_cons_zero → Am,size_toArray → Ar,mem_cons_of_mem → Az,map_append → AC,lookup_cons → AE,mem_append_right → AF,mem_cons → AG,mem_of_getElem? → AI,mem_cons_self → AJ,length_append → AK,mem_map → AN,length_range → AS,range → AU,length_cons → A0,getElem?_append_right → A1,getD_eq_getElem?_getD → A2,getElem?_append_left → A3,map_cons → A5,length_take → Bg,mem_singleton → Bv,find?_cons → By,take_length → BP,length_pos_iff → BQ,getElem_of_mem → BR,length_nil → BX,range_succ → BY,mem_append → B6,nodup_cons → B7
open PySem.Heap renaming get?_push_of_some → Ae,lt_size → Ag,get?_push_size → An,get?_update_other → AD,get?_update_self → BC
open Nat renaming le_refl → Ai,lt_of_lt_of_le → Aq,ne_of_lt → AA,le_trans → AY,zero_le → AZ,le_of_lt → Bk,lt_irrefl → BA,lt_or_ge → BO
open PySem.Str renaming ofString → At
open Bool renaming false_ne_true → Aw,false_eq_true → B3
open PySem.PyData renaming strOk → AB,canLay0 → Bt,int → BJ,eqv → BK,eqvAll → BV
open PySem.NameKind renaming free → AH,cell → BB
open PySem.Value renaming ref → AL,none → Ba
open PyProof.Rows renaming callWith_type1 → AM,SortKind → Bh,IntsAre → BM
open PySem.Builtin.Range renaming rangeFitsLong → AR,rangeSize → AT
open Option.some renaming inj → AX
open Int renaming emod_lt_of_pos → A4,emod_nonneg → Bj
open Lean renaming maxHeartbeats → A6
open PySem.SeqAt renaming shaped → A7
open PySem.W renaming mg_none_of → A8,kitOne → Bm,kia_one → Bs,findIn → Bx,nsIn → BD,fnOf → B1
open PySem.F renaming plainAttrs_list → A9,slot_list_append → Bp,type_list_append → Bq,plainAttrs_str → Bw,slot_str_join → BE,type_str_join → BF,plain_max_loop → BN
open False renaming elim → Bb
open PySem.PassesOwn renaming never → Bi
open True renaming intro → Bo
open Ne renaming symm → Br
open Array renaming getElem?_eq_some_iff → BL
open PySem.Builtin.List renaming listTooLong → BT
open Or renaming inr → B2
namespace L2
open PySem PySem.Spec PyProof.Rows
noncomputable abbrev Key:=Sum Int Str
noncomputable def keyIs:Key->Aa->Bool
 |.inl k,v=>Value.isInt k v
 |.inr x,v=>Value.isStrOf x v
noncomputable def keyH(w:Ax):Key->Int
 |.inl k=>hashInt k
 |.inr x=>hashStr w x
theorem zaq:∀{k:Key}{v:Aa},keyIs k v=true->(∃i t,k=Sum.inl i/\v=Value.int i t)∨(∃x t,k=Sum.inr x/\v=Value.str x t)
 |.inl i,v,h=>by
  obtain⟨t,e⟩:=Value.isInt_shape (k:=i) (v:=v) h;exact .inl ⟨i,t,rfl,e⟩
 |.inr x,v,h=>by
  obtain⟨t,e⟩:=Value.isStrOf_shape (x:=x) (v:=v) h;exact .inr ⟨x,t,rfl,e⟩
theorem zej(i:Int)(t:Tok):keyIs (.inl i) (.int i t)=true:=by simp[keyIs,Value.isInt]
theorem zei(x:Str)(t:Tok):keyIs (.inr x) (.str x t)=true:=by simp[keyIs,Value.isStrOf]
theorem zf8(a b:Int):decide ((Sum.inl a:Key)=Sum.inl b)=(a == b):=by
 by_cases e:a=b
 .subst e;simp
 .have h:¬ (Sum.inl a:Key)=Sum.inl b:=λq=>e (Sum.inl.inj q)
  rw[decide_eq_false h];exact (beq_eq_false_iff_ne.mpr e).symm
theorem zf5(a b:Str):decide ((Sum.inr a:Key)=Sum.inr b)=decide (a=b):=by
 by_cases e:a=b
 .subst e;simp
 .have h:¬ (Sum.inr a:Key)=Sum.inr b:=λq=>e (Sum.inr.inj q)
  rw[decide_eq_false h,decide_eq_false e]
theorem zf7(a:Int)(b:Str):decide ((Sum.inl a:Key)=Sum.inr b)=false:=decide_eq_false (λq=>nomatch q)
theorem zf6(a:Str)(b:Int):decide ((Sum.inr a:Key)=Sum.inl b)=false:=decide_eq_false (λq=>nomatch q)
noncomputable def zaz(prog:Aj)(w:Ax):PySem.KeyKind prog w Key where
 is:=keyIs
 hash:=keyH w
 inj:=λv a b ha hb=>by
  rcases zaq ha with⟨i,t,rfl,rfl⟩ |⟨x,t,rfl,rfl⟩
  .rcases zaq hb with⟨j,u,rfl,e⟩ |⟨y,u,rfl,e⟩
   .injection e with e1 _;rw[e1]
   .exact nomatch e
  .rcases zaq hb with⟨j,u,rfl,e⟩ |⟨y,u,rfl,e⟩
   .exact nomatch e
   .injection e with e1 _;rw[e1]
 byValue:=λk v h=>by rcases zaq h with⟨i,t,rfl,rfl⟩ |⟨x,t,rfl,rfl⟩ <;> rfl
 pyHash:=λhv h=>by
  rcases zaq hv with⟨i,t,rfl,rfl⟩ |⟨x,t,rfl,rfl⟩
  .exact wpAny_pyHash_int h
  .exact wpAny_pyHash_str h
 eqBool:=λhu hv h=>by
  rcases zaq hu with⟨i,t,rfl,rfl⟩ |⟨x,t,rfl,rfl⟩
  .rcases zaq hv with⟨j,u,rfl,rfl⟩ |⟨y,u,rfl,rfl⟩
   .rw[zf8]at h;exact wpAny_eqBool_int h
   .rw[zf7]at h;exact SeqAt.EqAt.int_str i t y u _ _ _ _ h
  .rcases zaq hv with⟨j,u,rfl,rfl⟩ |⟨y,u,rfl,rfl⟩
   .rw[zf6]at h;exact SeqAt.EqAt.str_int x t j u _ _ _ _ h
   .rw[zf5]at h;exact wpAny_eqBool_str h
 «strs»:=λk x t v h=>by
  rcases zaq h with⟨i,u,rfl,e⟩ |⟨y,u,rfl,e⟩
  .exact nomatch e
  .injection e with e1 _;subst e1
   cases v <;> rfl
theorem zc7(prog:Aj)(w:Ax)(i:Int)(t:Tok):(zaz prog w).is (.inl i) (.int i t)=true:=zej i t
theorem zc6(prog:Aj)(w:Ax)(x:Str)(t:Tok):(zaz prog w).is (.inr x) (.str x t)=true:=zei x t
inductive V where
 |non |bl (b:Bool) |int (i:Int) |str (x:Str) |byt (b:Array UInt8) |flt (b:UInt64) |ref (a:Addr) |ty (n:String)
 deriving DecidableEq
noncomputable def RelV:V->Aa->Prop
 |.non,u=>u=Ba
 |.bl b,u=>u=Value.bool b
 |.int i,u=>∃t,u=Value.int i t
 |.str x,u=>∃t,u=Value.str x t
 |.byt b,u=>∃t,u=Value.bytes b t
 |.flt b,u=>∃t,u=Value.float b t
 |.ref a,u=>u=AL a
 |.ty n,u=>u=Value.type n
noncomputable abbrev Vals:List V->List Aa->Prop:=Paired RelV
theorem Vals.length{xs:List V}{us:List Aa}(r:Vals xs us):xs.length=us.length:=Paired.length r
theorem Vals.get:∀{xs:List V}{us:List Aa}{i:Nat}{x:V},Vals xs us->xs[i]?=some x->∃u,us[i]?=some u/\RelV x u
 |_,_,_,_,.nil,e=>by simp at e
 |_,_,0,_,.cons r _,e=>by simp at e;subst e;exact⟨_,rfl,r⟩
 |_,_,i+1,x,.cons _ t,e=>by
  obtain⟨u,h1,h2⟩:=Vals.get (i:=i) (x:=x) t (by simpa using e);exact⟨u,by simpa using h1,h2⟩
theorem Vals.append:∀{xs ys:List V}{us ws:List Aa},Vals xs us->Vals ys ws->Vals (xs++ys) (us++ws)
 |_,_,_,_,.nil,s=>s
 |_,_,_,_,.cons r t,s=>.cons r (Vals.append t s)
theorem Vals.take:∀{xs:List V}{us:List Aa}(n:Nat),Vals xs us->Vals (xs.take n) (us.take n)
 |_,_,0,_=>.nil
 |_,_,_+1,.nil=>.nil
 |_,_,n+1,.cons r t=>.cons r (Vals.take n t)
theorem Vals.drop:∀{xs:List V}{us:List Aa}(n:Nat),Vals xs us->Vals (xs.drop n) (us.drop n)
 |_,_,0,r=>r
 |_,_,_+1,.nil=>.nil
 |_,_,n+1,.cons _ t=>Vals.drop n t
noncomputable def RelO:Option V->Option Aa->Prop
 |some v,some u=>RelV v u
 |none,none=>True
 |_,_=>False
noncomputable def KV{κ:Type}:List (κ×V)->List (κ×Aa)->Prop:=Paired λ(p:κ×V) (q:κ×Aa)=>p.1=q.1/\RelV p.2 q.2
noncomputable def kV:Key->V
 |.inl i=>.int i
 |.inr x=>.str x
inductive HO where
 /-- a list -/
 |lst (xs:List V)
 /-- a tuple (never changes) -/
 |tup (xs:List V)
 /-- a dict whose keys are ints and texts;one whose keys are tuples of ints and texts (the empty one is both) -/
 |dK (kvs:List (Key×V)) |dT (kvs:List (List Key×V))
 /-- a set of ints: its members,its size -/
 |set (S:Int->Bool) (n:Nat)
 /-- an instance of the class at C,its dict at dx,its attributes -/
 |ins (C dx:Addr) (fs:List (Str×V))
 /-- the dict of the instance at x -/
 |own (x:Addr)
 /-- the dict of an exception -/
 |xd (fs:List (Str×V))
 /-- a bound method,f of x -/
 |met (f x:Addr)
 /-- a range object lo,lo+1,.. below hi -/
 |rng (lo hi:Int)
 /-- a thing that is known to the object (the script;a dict while a loop walks it): read,never written while it is so -/
 |frz (o:Obj) (u:HO)
 /-- a code object's table -/
 |tbl (ps:Array Aa)
 /-- any other thing,by what is true of its one object (a def of one's own: SetO a S n:=HO.ext λh=>..) -/
 |ext (φ:Heap->Prop)
noncomputable abbrev Hp:=Addr->Option HO
noncomputable def upd(H:Hp)(a:Addr)(o:HO):Hp:=λb=>if b=a then some o else H b
theorem zaa{H:Hp}{a:Addr}{o:HO}:upd H a o a=some o:=by unfold upd;rw[if_pos rfl]
theorem zam{H:Hp}{a b:Addr}{o:HO}(h:b≠a):upd H a o b=H b:=by unfold upd;rw[if_neg h]
theorem ne_of{H:Hp}{a b:Addr}{o u:HO}(h:H a=some o)(h':H b=some u)(d:o≠u):a≠b:=by intro e;subst e;rw[h]at h';exact d (AX h')
theorem zat{H:Hp}{a b:Addr}{o:HO}(h:H a=some o)(h':H b=none):a≠b:=by intro e;subst e;rw[h]at h';cases h'
section
variable (P:Aj) (w:Ax)
noncomputable def ObjOk(H:Hp)(h:Heap)(a:Addr):HO->Prop
  |.lst xs=>xs.length<=sizeLine/\∃(its:List Aa) (n:Nat),Vals xs its/\h.get? a=some { cls:=.type "list",data:=.seq its.toArray n }
  |.tup xs=>xs.length<=sizeLine/\∃its:List Aa,Vals xs its/\IsTup h a its.toArray
  |.dK kvs=>kvs.length<=sizeLine/\(a == Bu)=false/\∃vs,KV kvs vs/\h.DictOf (zaz P w) a vs
  |.dT kvs => kvs.length <= sizeLine /\ (a == Bu)=false /\ ∃xs:List (List Key × Addr × Aa),
      Paired (λ(p:List Key×V) (q:List Key×Addr×Aa)=>p.1=q.1/\H q.2.1=some (.tup (p.1.map kV))/\RelV p.2 q.2.2) kvs xs /\
      ∃o es ep,h.get? a=some o/\o.ExactDict/\o.data=.dict es ep/\es.toList=xs.map (entryOfKey (tupleKind (zaz P w)))/\(xs.map (·.1)).Nodup
  |.set S n=>h.SetOf (intKind P w) a S n
  |.ins C dx fs => H dx=some (.own a) /\ fs.length <= 1000 /\ dx ≠ a /\ h.get? a=some (W.instObj C dx) /\
      ∃mA,h.Ns1 dx mA/\(∀f,RelO (fs.lookup f) (mA f))/\PySem.Within mA (fs.map (·.1))
  |.own _=>∃o,h.get? a=some o
  |.xd fs=>∃mA,h.Ns1 a mA/\∀f,RelO (fs.lookup f) (mA f)
  |.rng lo hi=>∃t u v,h.get? a=some { cls:=.type "range",data:=.fields #[.int lo t,.int hi u,.int 1 v] }
  |.frz o u=>h.get? a=some o/\ObjOk H h a u
  |.tbl ps=>h.get? a=some { cls:=.none,data:=.fields ps }
  |.met f x=>h.get? a=some (W.methodObj (.ref f) (.ref x))
  |.ext φ=>φ h/\(∃o,h.get? a=some o)/\∀h1 h2:Heap,φ h1->(∀o,h1.get? a=some o->h2.get? a=some o)->φ h2
noncomputable def HOk(H:Hp)(h:Heap):Prop:=∀a o,H a=some o->ObjOk P w H h a o
end
section
variable {P:Aj}{w:Ax}{H H':Hp}{h h':Heap}{a:Addr}{o:HO}
theorem ObjOk.lt(x:ObjOk P w H h a o):a<h.objs.size:=by
 cases o with
 |lst xs=>obtain⟨_,_,_,_,e⟩:=x;exact Ag e
 |tup xs=>obtain⟨_,_,_,p⟩:=x;exact p.lt
 |dK kvs=>obtain⟨_,_,_,_,o,_,_,e,_⟩:=x;exact Ag e
 |dT kvs=>obtain⟨_,_,_,_,o,_,_,e,_⟩:=x;exact Ag e
 |set S n=>obtain⟨o,_,_,_,e,_⟩:=x;exact Ag e
 |ins C dx fs=>obtain⟨_,_,_,e,_⟩:=x;exact Ag e
 |own y=>obtain⟨_,e⟩:=x;exact Ag e
 |xd fs=>obtain⟨_,⟨_,_,_,e,_⟩,_⟩:=x;exact Ag e
 |rng lo hi=>obtain⟨_,_,_,e⟩:=x;exact Ag e
 |frz ob u=>obtain⟨e,_⟩:=x;exact Ag e
 |tbl ps=>exact Ag (show h.get? a=some _ from x)
 |met f y=>exact Ag (show h.get? a=some _ from x)
 |ext φ=>obtain⟨_,⟨_,e⟩,_⟩:=x;exact Ag e
theorem Paired.mapP{α β:Type}{F G:α->β->Prop}:∀{l₁:List α}{l₂:List β},Paired F l₁ l₂->(∀a b,F a b->G a b)->Paired G l₁ l₂
 |_,_,.nil,_=>.nil
 |_,_,.cons r t,f=>.cons (f _ _ r) (Paired.mapP t f)
theorem ObjOk.stay(x:ObjOk P w H h a o)(k:∀b u, (b=a ∨ H b=some (.own a)) -> h.get? b=some u -> h'.get? b=some u)
  (ho:∀b,H b=some (.own a)->H' b=some (.own a)) (ht:∀b xs,H b=some (.tup xs)->H' b=some (.tup xs)):ObjOk P w H' h' a o:=by
 induction o with
 |lst xs=>obtain⟨z,its,n,r,e⟩:=x;exact⟨z,its,n,r,k _ _ (.inl rfl) e⟩
 |tup xs=>obtain⟨z,its,r,ob,e,c⟩:=x;exact⟨z,its,r,ob,k _ _ (.inl rfl) e,c⟩
 |dK kvs=>obtain⟨z,y,vs,r,ob,es,ep,e,c⟩:=x;exact⟨z,y,vs,r,ob,es,ep,k _ _ (.inl rfl) e,c⟩
 |dT kvs =>
  obtain⟨z,y,xs,r,ob,es,ep,e,c⟩:=x;exact⟨z,y,xs,Paired.mapP r λp q z=>⟨z.1,ht _ _ z.2.1,z.2.2⟩,ob,es,ep,k _ _ (.inl rfl) e,c⟩
 |set S n=>obtain⟨ob,es,ep,t,e,c⟩:=x;exact⟨ob,es,ep,t,k _ _ (.inl rfl) e,c⟩
 |ins C dx fs =>
  obtain⟨d,z,ne,e,mA,⟨od,es,ep,e2,c⟩,r⟩:=x;exact⟨ho _ d,z,ne,k _ _ (.inl rfl) e,mA,⟨od,es,ep,k _ _ (.inr d) e2,c⟩,r⟩
 |own y=>obtain⟨ob,e⟩:=x;exact⟨ob,k _ _ (.inl rfl) e⟩
 |xd fs=>obtain⟨mA,⟨od,es,ep,e,c⟩,r⟩:=x;exact⟨mA,⟨od,es,ep,k _ _ (.inl rfl) e,c⟩,r⟩
 |rng lo hi=>obtain⟨t,u,v,e⟩:=x;exact⟨t,u,v,k _ _ (.inl rfl) e⟩
 |frz ob u ih=>obtain⟨e,q⟩:=x;exact⟨k _ _ (.inl rfl) e,ih q⟩
 |tbl ps =>
  have e:h.get? a=some { cls:=.none,data:=.fields ps }:=x;show h'.get? a=some { cls:=.none,data:=.fields ps };exact k a _ (.inl rfl) e
 |met f y =>
  have e:h.get? a=some (W.methodObj (.ref f) (.ref y)):=x;show h'.get? a=some (W.methodObj (.ref f) (.ref y));exact k a _ (.inl rfl) e
 |ext φ=>obtain⟨p,⟨o,e⟩,st⟩:=x;exact⟨st _ _ p λo q=>k _ _ (.inl rfl) q,⟨o,k _ _ (.inl rfl) e⟩,st⟩
theorem HOk.lt(x:HOk P w H h)(e:H a=some o):a<h.objs.size:=(x a o e).lt
theorem HOk.fresh(x:HOk P w H h)(e:h.objs.size<=a):H a=none:=by
 cases q:H a with
 |none=>rfl
 |some u=>exact absurd (Aq (x.lt q) e) (BA _)
theorem HOk.kept(x:HOk P w H h)(k:∀b u,h.get? b=some u->h'.get? b=some u):HOk P w H h':=λa o e =>
 (x a o e).stay (λb u _ q=>k b u q) (λ_ q=>q) λ_ _ q=>q
theorem HOk.laid(x:HOk P w H h)(k:∀b u,h.get? b=some u->h'.get? b=some u)(hp:h.objs.size<=a)(new:ObjOk P w (upd H a o) h' a o):HOk P w (upd H a o) h':=λb u e=>by
 have hn:=x.fresh hp
 by_cases hb:b=a
 .subst hb;rw[zaa]at e;cases e;exact new
 .rw[zam hb]at e;exact (x b u e).stay (λc v _ q=>k c v q) (λc q=>by rw[zam (zat q hn)];exact q) λc xs q=>by rw[zam (zat q hn)];exact q
end
noncomputable def Rd(H:Hp)(a:Addr)(u:HO):Prop:=H a=some u∨∃o,H a=some (.frz o u)
theorem Rd.of{H:Hp}{a:Addr}{u:HO}(h:H a=some u):Rd H a u:=.inl h
theorem Rd.ok{P:Aj}{w:Ax}{H:Hp}{h:Heap}{a:Addr}{u:HO}(r:Rd H a u)(x:HOk P w H h):ObjOk P w H h a u:=by
 rcases r with r |⟨o,r⟩
 .exact x a u r
 .obtain⟨_,q⟩:=x a _ r;exact q
noncomputable def Mut:Option HO->Prop
 |some (.lst _)=>True
 |some (.dK _)=>True
 |some (.dT _)=>True
 |some (.set _ _)=>True
 |some (.ins _ _ _)=>True
 |some (.ext _)=>True
 |_=>False
section
variable {P:Aj}{w:Ax}{H:Hp}{h h':Heap}{x e:Addr}{o':HO}
theorem HOk.write(ok:HOk P w H h)(mu:Mut (H x))(he:e=x ∨ H e=some (.own x))(k:∀b u, b ≠ e -> h.get? b=some u -> h'.get? b=some u)(heo:∃u, h'.get? e=some u)
  (new:ObjOk P w (upd H x o') h' x o'):HOk P w (upd H x o') h':=λb u q=>by
 have nown:∀c y,H c=some (.own y)->c≠x:=λc y r z=>by subst z;rw[r]at mu;exact mu
 have ntup:∀c xs,H c=some (.tup xs)->c≠x:=λc xs r z=>by subst z;rw[r]at mu;exact mu
 by_cases hb:b=x
 .subst hb;rw[zaa]at q;cases q;exact new
 .rw[zam hb]at q
  by_cases hbe:b=e
  .have q':H b=some (.own x) := by
    rcases he with z |z
    .exact absurd (hbe.trans z) hb
    .rw[hbe];exact z
   rw[q]at q';cases q';obtain⟨v,hv⟩:=heo;exact⟨v,by rw[hbe];exact hv⟩
  .refine (ok b u q).stay (λc v hc r=>k c v ?_ r) (λc r=>by rw[zam (nown c b r)];exact r) λc xs r=>by rw[zam (ntup c xs r)];exact r
   rcases hc with rfl |hc
   .exact hbe
   .rintro rfl;rcases he with z |z
    .exact nown c b hc z
    .rw[hc]at z;cases z;exact hb rfl
end
structure Un (fs ex:List Addr) (H H':Hp) (h h':Heap):Prop where
 keep:∀b o,h.get? b=some o->H b=none->b ∉ fs->b ∉ ex->h'.get? b=some o
 slot:∀b o,h.get? b=some o->H b=none->b∈fs->b ∉ ex->∃sl,h'.get? b=some { o with slots:=sl }
 free:∀b o,h.get? b=some o->H b=none->b ∉ ex->H' b=none
 there:∀b o,h.get? b=some o->b ∉ ex->∃o',h'.get? b=some o'
 tups:∀b xs,H b=some (.tup xs)->H' b=some (.tup xs)
 frzs:∀b o u,H b=some (.frz o u)->H' b=some (.frz o u)
 tbls:∀b ps,H b=some (.tbl ps)->∃more,H' b=some (.tbl (ps++more))
section
variable {fs fs' ex ex':List Addr}{H H1 H2:Hp}{h h1 h2 h':Heap}{a x e:Addr}{o:HO}
theorem Un.any(u:Un fs ex H H1 h h1){b:Addr}{ob:Obj}(q:h.get? b=some ob)(n:H b=none)(hx:b ∉ ex):∃sl,h1.get? b=some { ob with slots:=sl }:=by
 by_cases hb:b∈fs
 .exact u.slot b ob q n hb hx
 .exact⟨ob.slots,u.keep b ob q n hb hx⟩
theorem Un.kept(k:∀b u,h.get? b=some u->h'.get? b=some u):Un fs ex H H h h' :=
 ⟨λb ob q _ _ _=>k b ob q,λb ob q _ _ _=>⟨ob.slots,k b ob q⟩,λ_ _ _ n _=>n,λb ob q _=>⟨ob,k b ob q⟩,λ_ _ q=>q,λ_ _ _ q=>q,λ_ ps q=>⟨#[],by rw[q];simp⟩⟩
theorem Un.refl:Un fs ex H H h h:=Un.kept λ_ _ q=>q
theorem Un.laid(k:∀b u,h.get? b=some u->h'.get? b=some u)(hp:h.objs.size<=a)(hn:H a=none):Un fs ex H (upd H a o) h h' where
 keep:=λb u q _ _ _=>k b u q
 slot:=λb u q _ _ _=>⟨u.slots,k b u q⟩
 free:=λb u q n _=>by rw[zam (AA (Aq (Ag q) hp))];exact n
 there:=λb u q _=>⟨u,k b u q⟩
 tups:=λb xs q=>by rw[zam (zat q hn)];exact q
 frzs:=λb u xs q=>by rw[zam (zat q hn)];exact q
 tbls:=λb ps q=>⟨#[],by rw[zam (zat q hn),q];simp⟩
theorem Un.write(mu:Mut (H x))(he:e=x∨H e=some (.own x))(k:∀b u,b≠e->h.get? b=some u->h'.get? b=some u)(heo:∃u,h'.get? e=some u):Un fs ex H (upd H x o) h h':=by
 have hx:∀b,H b=none->b≠x:=λb n z=>by subst z;rw[n]at mu;exact mu
 have hb:∀b,H b=none->b≠e:=λb n z=>by
  subst z;rcases he with r |r
  .exact hx b n r
  .rw[n]at r;cases r
 have hm:∀b u,H b=some u->¬ Mut (some u)->b≠x:=λb u q nm z=>by subst z;rw[q]at mu;exact nm mu
 refine⟨λb u q n _ _=>k b u (hb b n) q,λb u q n _ _=>⟨u.slots,k b u (hb b n) q⟩,λb u q n _=>by rw[zam (hx b n)];exact n,λb u q _=>?_,
  λb xs q=>by rw[zam (hm b _ q λz=>z)];exact q,λb u xs q=>by rw[zam (hm b _ q λz=>z)];exact q,λb ps q=>⟨#[],by rw[zam (hm b _ q λz=>z),q];simp⟩⟩
 by_cases hbe:b=e
 .subst hbe;exact heo
 .exact⟨u,k b u hbe q⟩
end
noncomputable def trk(h:Heap)(H:Hp):List Addr:=(AU h.objs.size).filter λa=>(H a).isSome
noncomputable def hidT(h:Heap)(H:Hp):Heap:=W.hideAll h (trk h H)
theorem zen(h:Heap)(H:Hp):(hidT h H).objs.size=h.objs.size:=W.hideAll_size _ _
theorem zeR{h:Heap}{H:Hp}{b:Addr}{o:Obj}(e:h.get? b=some o)(n:H b=none):(hidT h H).get? b=some o :=
 W.hideAll_get _ e λhm=>by have q:(H b).isSome=true:=(List.mem_filter.mp hm).2;rw[n]at q;simp at q
theorem zfB{h:Heap}{H:Hp}{b:Addr}{o:Obj}(e:(hidT h H).get? b=some o):h.get? b=some o/\H b=none:=by
 have e':h.get? b=some o:=W.of_hideAll (trk h H) e;refine⟨e',?_⟩
 cases q:H b with
 |none=>rfl
 |some x =>
  have hm:b∈trk h H:=List.mem_filter.mpr ⟨List.mem_range.mpr (Ag e'),by simp[q]⟩;have z:(hidT h H).get? b=none:=W.hideAll_none (trk h H) hm;rw[z]at e;cases e
noncomputable def zfK(g h:Heap)(L:Addr):List (Addr×Obj):=(AU h.objs.size).filterMap λa=>if a=L∨(g.get? a).isSome=true then none else (h.get? a).map λo=>(a,o)
noncomputable def rest(g h:Heap)(L d:Addr):List (Addr×Obj):=(zfK g h L).filter λp=>decide (p.1≠d)
structure Mod (K:W.Frag) (mg:Str->Option Aa) (base:Heap):Prop where
 kin:K.In base
 glob:base.Ns Ap mg
 blt:∃mb,base.Ns builtinsNs mb/\∀x:Str,x ≠ "__name__" -> mb x=bootBuiltins x
 nolimit:base.NoLimit
structure Cx where
 prog:Aj
 w:Ax
 K:W.Frag
 mg:Str->Option Aa
 base:Heap
 A:Au
 N:List Str
 s₀:Ab
 H₀:Hp
 env:Env
 outer:List Env
 stack:List Env
 ex:List Addr
 fn:Str->Bool
 calm:Bool
 pn:List (Addr×Obj)
 xe:Aa->Ab->Prop
noncomputable def frs(l:List Env):List Addr:=l.filterMap (·.frame)
noncomputable abbrev Cx.fs(X:Cx):List Addr:=frs X.outer
noncomputable def Vis(sc:Scope)(x:Str):Prop:=sc.names.lookup x=some .local∨sc.names.lookup x=some .cell∨sc.names.lookup x=some .free
noncomputable def Loc(sc:Scope)(x:Str):Prop:=sc.names.lookup x=some .local∨sc.names.lookup x=some .cell
noncomputable def Look(env:Env)(h:Heap)(m:Str->Option Aa)(x:Str)(u:Aa):Prop :=
 (env.kindOf x=some .local/\m x=some u)∨((env.kindOf x=some .cell∨env.kindOf x=some .free)/\∃c,env.cells.lookup x=some c/\h.IsCell c (some u))
structure Cx.Ok (X:Cx):Prop where
 mod:Mod X.K X.mg X.base
 kind:X.env.scope.kind=.function
 glob:X.env.globals=Ap
 blt:X.env.builtins=builtinsNs
 above:X.s₀.heap.objs.size<=X.env.locals
 inj:∀x y c,X.env.cells.lookup x=some c->X.env.cells.lookup y=some c->x=y
 has:∀x,(X.env.kindOf x=some .cell∨X.env.kindOf x=some .free)->∃c,X.env.cells.lookup x=some c
 cab:∀x c,X.fn x=true->X.env.cells.lookup x=some c->X.s₀.heap.objs.size<=c
 hd:X.calm=true->X.A.handled=none
 frames:X.A.frames=some X.stack
 stk:X.stack=X.outer∨(X.stack=X.env::X.outer/\X.env.frame=some X.env.locals)
 exf:∀b∈X.ex,b≠X.env.locals/\∀x c,X.env.cells.lookup x=some c->c≠b
 bs:∀b o,X.base.get? b=some o->X.s₀.heap.get? b=some o/\X.H₀ b=none
 bsz:X.base.objs.size<=X.s₀.heap.objs.size
 noex:∀b o,X.base.get? b=some o->b ∉ X.ex
 exfs:∀b∈X.ex,b ∉ X.fs
 funs:X.s₀.heap.FunFrames X.base X.outer
 frf:∀b∈X.fs,X.H₀ b=none
structure Inv (X:Cx) (pins:List (Addr×Obj)) (σ:List (Option V)) (H:Hp) (s:Ab):Prop where
 ok:X.Ok
 os:s.os=X.s₀.os
 bare:AllBare s.gens
 base:Un X.fs X.ex X.H₀ H X.s₀.heap s.heap
 loc:∃m,s.heap.Ns X.env.locals m/\∀(i:Nat) (x:Str) (v:V),X.N[i]?=some x->σ[i]?=some (some v)->Vis X.env.scope x->∃u,RelV v u/\Look X.env s.heap m x u
 cell:∀x c,X.env.cells.lookup x=some c->∃v,s.heap.IsCell c v
 free:H X.env.locals=none
 freeC:∀x c,X.env.cells.lookup x=some c->H c=none
 pin:∀p∈X.pn++pins,s.heap.get? p.1=some p.2/\H p.1=none/\p.1≠X.env.locals/\p.1 ∉ X.fs/\∀v,p.2.data≠.cell v
 hok:HOk X.prog X.w H s.heap
 len:σ.length=X.N.length
section
variable {X:Cx}{pins:List (Addr×Obj)}{σ:List (Option V)}{H H':Hp}{s:Ab}{h':Heap}
theorem Cx.Ok.nofr(ok:X.Ok){b:Addr}{o:Obj}(e:X.base.get? b=some o):b ∉ X.fs:=λhb=>by have:=(ok.funs.mem hb).1;rw[e]at this;cases this
theorem Inv.bs(I:Inv X pins σ H s):∀b o,X.base.get? b=some o->s.heap.get? b=some o/\H b=none:=λb o e =>
 ⟨I.base.keep b o (I.ok.bs b o e).1 (I.ok.bs b o e).2 (I.ok.nofr e) (I.ok.noex b o e),I.base.free b o (I.ok.bs b o e).1 (I.ok.bs b o e).2 (I.ok.noex b o e)⟩
theorem Inv.bk(I:Inv X pins σ H s):∀b o,X.base.get? b=some o->s.heap.get? b=some o:=λb o e=>(I.bs b o e).1
theorem Inv.mod(I:Inv X pins σ H s):Mod X.K X.mg X.base:=I.ok.mod
theorem Inv.kIn(I:Inv X pins σ H s):X.K.In s.heap:=I.ok.mod.kin.keeps I.bk
theorem Inv.lt(I:Inv X pins σ H s):X.env.locals<s.heap.objs.size:=let ⟨_,hn,_⟩:=I.loc;hn.lt
theorem Inv.sz(I:Inv X pins σ H s):X.s₀.heap.objs.size<=s.heap.objs.size:=AY I.ok.above (Bk I.lt)
theorem Inv.nofs(I:Inv X pins σ H s){a:Addr}(h:s.heap.objs.size<=a):a ∉ X.fs:=λhb=>by obtain⟨_,o,ho,_⟩:=I.ok.funs.mem hb;exact absurd (Aq (Ag ho) (AY I.sz h)) (BA _)
theorem Inv.cne(I:Inv X pins σ H s):∀x c,X.env.cells.lookup x=some c->c≠X.env.locals:=λx c e z=>by obtain⟨v,o,ho,hd⟩:=I.cell x c e;obtain⟨m,⟨o',es,ep,ho',hd',_⟩,_⟩:=I.loc;rw[z,ho']at ho;cases ho;rw[hd']at hd;cases hd
theorem Inv.funs(I:Inv X pins σ H s):s.heap.FunFrames X.base X.outer:=by
 have all:∀(l:List Env),(∀b∈frs l,b∈X.fs)->X.s₀.heap.FunFrames X.base l->s.heap.FunFrames X.base l:=by
  intro l
  induction l with
  |nil=>intro _ _;trivial
  |cons env r ih =>
   intro hs hl;obtain⟨hk,⟨L,o,hf,hn,ho,hd⟩,hr⟩:=hl;have hL:L∈X.fs:=hs L (by unfold frs;rw[List.filterMap_cons,hf];exact AJ);obtain⟨sl,e⟩:=I.base.slot L o ho (I.ok.frf L hL) hL λz=>I.ok.exfs L z hL
   exact⟨hk,⟨L,_,hf,hn,e,hd⟩,ih (λb hb=>hs b (by unfold frs;rw[List.filterMap_cons,hf];exact Az _ hb)) hr⟩
 exact all X.outer (λ_ hb=>hb) I.ok.funs
theorem Inv.stack(I:Inv X pins σ H s):s.heap.FunFrames X.base X.stack:=by
 rcases I.ok.stk with e |⟨e,hf⟩
 .rw[e];exact I.funs
 .rw[e];obtain⟨m,hn,_⟩:=I.loc;refine .cons (by rw[I.ok.kind];decide) hf hn ?_ I.funs;exact Heap.get?_none_of_le (AY I.ok.bsz I.ok.above)
theorem Inv.stkSub(I:Inv X pins σ H s):∀b∈frs X.stack,b∈X.env.locals::X.fs:=λb hb=>by
 rcases I.ok.stk with e |⟨e,hf⟩
 .rw[e]at hb;exact Az _ hb
 .rw[e]at hb;unfold frs at hb;rw[List.filterMap_cons,hf]at hb;exact hb
theorem Inv.stkFree(I:Inv X pins σ H s):∀b∈frs X.stack,H b=none:=λb hb=>by
 rcases AG.mp (I.stkSub b hb) with e |hb
 .rw[e];exact I.free
 .obtain⟨_,o,ho,_⟩:=I.ok.funs.mem hb;exact I.base.free b o ho (I.ok.frf b hb) λz=>I.ok.exfs b z hb
theorem Inv.step{g':Array GenState}{t':Nat}{d':Drawn}{ch:List Addr}(I:Inv X pins σ H s)
  (hch:∀b∈ch,(b∈X.ex∨X.s₀.heap.objs.size<=b)/\b≠X.env.locals/\(∀x c,X.env.cells.lookup x=some c->c≠b)/\∀p∈X.pn++pins,p.1≠b)
  (keep:∀b o,b≠X.env.locals->b ∉ X.fs->b ∉ ch->s.heap.get? b=some o->H b=none->h'.get? b=some o)
  (slot:∀b o,b≠X.env.locals->b∈X.fs->b ∉ ch->s.heap.get? b=some o->H b=none->∃sl,h'.get? b=some { o with slots:=sl }) (free:∀b o,b ∉ ch->s.heap.get? b=some o->H b=none->H' b=none)
  (there:∀b o,b ∉ ch->s.heap.get? b=some o->∃o',h'.get? b=some o')
  (tups:∀b xs,H b=some (.tup xs)->H' b=some (.tup xs)) (frzs:∀b o u,H b=some (.frz o u)->H' b=some (.frz o u)) (tbls:∀b ps,H b=some (.tbl ps)->∃more,H' b=some (.tbl (ps++more)))
  (ns:∀m,s.heap.Ns X.env.locals m->h'.Ns X.env.locals m) (hok:HOk X.prog X.w H' h') (hg:AllBare g') :
  Inv X pins σ H' { s with heap:=h',gens:=g',drawn:=d',toks:=t' }:=by
 have neL:∀b o,X.s₀.heap.get? b=some o->b≠X.env.locals:=λb o e=>AA (Aq (Ag e) I.ok.above)
 have neC:∀b o,X.s₀.heap.get? b=some o->b ∉ X.ex->b ∉ ch:=λb o e hx hb=>by
  rcases (hch b hb).1 with z |z
  .exact hx z
  .exact absurd (Aq (Ag e) z) (BA _)
 have cellK:∀x c,X.env.cells.lookup x=some c->∀v,s.heap.IsCell c v->h'.IsCell c v:=λx c e v ⟨o,ho,hd⟩=>by
  have nch:c ∉ ch:=λz=>(hch c z).2.2.1 x c e rfl
  by_cases hc:c∈X.fs
  .obtain⟨sl,q⟩:=slot c o (I.cne x c e) hc nch ho (I.freeC x c e);exact⟨_,q,hd⟩
  .exact⟨o,keep c o (I.cne x c e) hc nch ho (I.freeC x c e),hd⟩
 refine⟨I.ok,I.os,hg,⟨λb o e n hb hx=>?_,λb o e n hb hx=>?_,λb o e n hx=>?_,λb o e hx=>?_,λb xs e=>tups b xs (I.base.tups b xs e),λb o xs e=>frzs b o xs (I.base.frzs b o xs e),λb ps e=>?_⟩,?_,λx c e=>?_,?_,λx c e=>?_,λp hp=>?_,hok,I.len⟩
 .exact keep b o (neL b o e) hb (neC b o e hx) (I.base.keep b o e n hb hx) (I.base.free b o e n hx)
 .obtain⟨sl,e1⟩:=I.base.slot b o e n hb hx;obtain⟨sl',e2⟩:=slot b _ (neL b o e) hb (neC b o e hx) e1 (I.base.free b o e n hx);exact⟨sl',e2⟩
 .obtain⟨o',e1⟩:=I.base.there b o e hx;exact free b o' (neC b o e hx) e1 (I.base.free b o e n hx)
 .obtain⟨o',e1⟩:=I.base.there b o e hx;exact there b o' (neC b o e hx) e1
 .obtain⟨m1,e1⟩:=I.base.tbls b ps e;obtain⟨m2,e2⟩:=tbls b _ e1;exact⟨m1++m2,by rw[e2,Array.append_assoc]⟩
 .obtain⟨m,hn,hl⟩:=I.loc;refine⟨m,ns m hn,λi x v e1 e2 e3=>?_⟩;obtain⟨u,r,l⟩:=hl i x v e1 e2 e3;refine⟨u,r,?_⟩;rcases l with l |⟨k,c,e,z⟩
  .exact .inl l
  .exact .inr ⟨k,c,e,cellK x c e _ z⟩
 .obtain⟨v,z⟩:=I.cell x c e;exact⟨v,cellK x c e v z⟩
 .obtain⟨m,⟨o,_,_,ho,_⟩,_⟩:=I.loc;exact free _ o (λz=>(hch _ z).2.1 rfl) ho I.free
 .obtain⟨v,o,ho,hd⟩:=I.cell x c e;exact free c o (λz=>(hch c z).2.2.1 x c e rfl) ho (I.freeC x c e)
 .obtain⟨e,n,ne,nf,d⟩:=I.pin p hp;have nch:p.1 ∉ ch:=λz=>(hch p.1 z).2.2.2 p hp rfl
  exact⟨keep p.1 p.2 ne nf nch e n,free p.1 p.2 nch e n,ne,nf,d⟩
theorem Inv.un{t':Nat}(I:Inv X pins σ H s)(u:Un X.fs [] H H' s.heap h')(hok:HOk X.prog X.w H' h'):Inv X pins σ H' { s with heap:=h',toks:=t' }:=by
 obtain⟨m,⟨o,es,ep,ho,r⟩,_⟩:=id I.loc;obtain⟨sl,hL⟩:=u.any ho I.free (by simp)
 exact I.step (g':=s.gens) (d':=s.drawn) (ch:=[]) (λ_ z=>nomatch z) (λb o _ hb _ e n=>u.keep b o e n hb (by simp)) (λb o _ hb _ e n=>u.slot b o e n hb (by simp)) (λb o _ e n=>u.free b o e n (by simp)) (λb o _ e=>u.there b o e (by simp)) u.tups u.frzs u.tbls (λm' hm=>by obtain⟨o',es',ep',ho',r'⟩:=hm;rw[ho]at ho';cases ho';exact⟨_,es',ep',hL,r'⟩) hok I.bare
theorem Inv.call{g':Array GenState}{t':Nat}{d':Drawn}{ch:List Addr}(I:Inv X pins σ H s)(u:Un (frs X.stack) ch H H' s.heap h')(hok:HOk X.prog X.w H' h')(hg:AllBare g')
  (hch:∀b∈ch,(b∈X.ex∨X.s₀.heap.objs.size<=b)/\b≠X.env.locals/\(∀x c,X.env.cells.lookup x=some c->c≠b)/\∀p∈X.pn++pins,p.1≠b) :
  Inv X pins σ H' { s with heap:=h',gens:=g',drawn:=d',toks:=t' }:=by
 obtain⟨m,⟨o,es,ep,ho,r⟩,_⟩:=id I.loc;obtain⟨sl,hL⟩:=u.any ho I.free λz=>(hch _ z).2.1 rfl
 exact I.step (ch:=ch) hch (λb o hL hb hc e n=>u.keep b o e n (λz=>(AG.mp (I.stkSub b z)).elim hL hb) hc) (λb o _ _ hc e n=>u.any e n hc) (λb o hc e n=>u.free b o e n hc) (λb o hc e=>u.there b o e hc) u.tups u.frzs u.tbls (λm' hm=>by obtain⟨o',es',ep',ho',r'⟩:=hm;rw[ho]at ho';cases ho';exact⟨_,es',ep',hL,r'⟩) hok hg
theorem Inv.turned{t':Nat}{it:Addr}(I:Inv X pins σ H s)(k:∀b o, b ≠ it -> s.heap.get? b=some o -> h'.get? b=some o)(hn:H it=none)(hL:it ≠ X.env.locals)
  (h1:it∈X.ex∨X.s₀.heap.objs.size<=it) (h2:∀x c,X.env.cells.lookup x=some c->c≠it) (h3:∀p∈X.pn++pins,p.1≠it):Inv X pins σ H { s with heap:=h',toks:=t' }:=by
 have nit:∀b u,H b=some u->b≠it:=λb u e z=>by rw[z,hn]at e;cases e
 refine I.step (g':=s.gens) (d':=s.drawn) (ch:=[it]) (λb hb=>?_) (λb o _ _ hc e _=>k b o (λz=>hc (by simp[z])) e) (λb o _ _ hc e _=>⟨o.slots,k b o (λz=>hc (by simp[z])) e⟩) (λ_ _ _ _ n=>n)
  (λb o hc e=>⟨o,k b o (λz=>hc (by simp[z])) e⟩) (λ_ _ e=>e) (λ_ _ _ e=>e) (λb ps e=>⟨#[],by rw[e];simp⟩) (λm hm=>?_) (λb u e=>?_) I.bare
 .have e:b=it:=by simpa using hb
  subst e;exact⟨h1,hL,h2,h3⟩
 .obtain⟨o,es,ep,ho,r⟩:=hm;exact⟨o,es,ep,k _ o (Br hL) ho,r⟩
 .refine (I.hok b u e).stay (λc v hc q=>k c v ?_ q) (λ_ q=>q) λ_ _ q=>q
  rcases hc with z |z
  .rw[z];exact nit b u e
  .exact nit c _ z
theorem Inv.tok(I:Inv X pins σ H s)(t:Nat):Inv X pins σ H { s with toks:=t }:=I.un (h':=s.heap) (t':=t) Un.refl I.hok
theorem Inv.kept{t':Nat}(I:Inv X pins σ H s)(k:∀b u,s.heap.get? b=some u->h'.get? b=some u):Inv X pins σ H { s with heap:=h',toks:=t' }:=I.un (Un.kept k) (I.hok.kept k)
theorem Inv.laid{a:Addr}{o:HO}{t':Nat}(I:Inv X pins σ H s)(k:∀b u, s.heap.get? b=some u -> h'.get? b=some u)(hp:s.heap.objs.size <= a)(new:ObjOk X.prog X.w (upd H a o) h' a o) :
  Inv X pins σ (upd H a o) { s with heap:=h',toks:=t' }:=I.un (Un.laid k hp (I.hok.fresh hp)) (I.hok.laid k hp new)
theorem Inv.write{x e:Addr}{o:HO}{t':Nat}(I:Inv X pins σ H s)(mu:Mut (H x))(he:e=x ∨ H e=some (.own x))(k:∀b u, b ≠ e -> s.heap.get? b=some u -> h'.get? b=some u)(heo:∃u, h'.get? e=some u)
  (new:ObjOk X.prog X.w (upd H x o) h' x o):Inv X pins σ (upd H x o) { s with heap:=h',toks:=t' }:=I.un (Un.write mu he k heo) (I.hok.write mu he k heo new)
theorem Inv.pins_of{pins':List (Addr×Obj)}(I:Inv X pins σ H s)(h:∀p∈pins',s.heap.get? p.1=some p.2/\H p.1=none/\p.1≠X.env.locals/\p.1 ∉ X.fs/\∀v,p.2.data≠.cell v):Inv X pins' σ H s :=
 ⟨I.ok,I.os,I.bare,I.base,I.loc,I.cell,I.free,I.freeC,λp hp=>(B6.mp hp).elim (λz=>I.pin p (List.mem_append_left _ z)) (h p),I.hok,I.len⟩
theorem zcq{N:List Str}(hN:N.Nodup){i j:Nat}{x:Str}(a:N[i]?=some x)(b:N[j]?=some x):i=j:=by obtain⟨h1,e1⟩:=Ah.mp a;obtain⟨h2,e2⟩:=Ah.mp b;exact (List.getElem_inj hN).mp (e1.trans e2.symm)
theorem zcE{M:Model}{A:Au}{E:Aa -> Ab -> Prop}{i:Nat}{x:Str}{v:V}{u:Aa}{Q:Unit -> Ab -> Prop}(I:Inv X pins σ H s)(hN:X.N.Nodup)(hi:X.N[i]? = some x)(hx:Loc X.env.scope x)(r:RelV v u)
  (h:∀s',Inv X pins (σ.set i (some v)) H s'->(∃a,Heap.SameBut a s.heap s'.heap/\(a=X.env.locals∨X.env.cells.lookup x=some a))->Q () s') (hf:X.fn x=true∨X.env.scope.names.lookup x=some .local:=by first |exact .inl rfl |exact .inr rfl |assumption):Ao M A (storeName X.env x u) Q E s:=by
 obtain⟨m,hn,hl⟩:=id I.loc;have hcls:(X.env.scope.kind == .class || (X.env.scope.kind == .module && X.env.locals != X.env.globals))=false:=by rw[I.ok.kind];rfl
 have hiσ:i<σ.length:=by rw[I.len];exact (Ah.mp hi).1
 have cne:=I.cne
 have tracked:∀{a:Addr} {h':Heap},(∃o,s.heap.get? a=some o/\H a=none)->Heap.SameBut a s.heap h'->HOk X.prog X.w H h':=λ{a h'} ha hs b ob e=>by
  obtain⟨_,_,hfree⟩:=ha;refine (I.hok b ob e).stay (λc w' hc q=>(hs.2 c ?_).trans q) (λ_ q=>q) λ_ _ q=>q
  rintro rfl;rcases hc with rfl |hc
  .rw[hfree]at e;cases e
  .rw[hfree]at hc;cases hc
 rcases hx with hk |hk
 .refine wpAny_storeName_local hk hn (λh' hn' hs=>?_) hcls;obtain⟨oL,_,_,hoL,_⟩:=id hn;refine h _ ⟨I.ok,I.os,I.bare,⟨λb o e n hb hx=>?_,λb o e n hb hx=>?_,I.base.free,λb o e hx=>?_,I.base.tups,I.base.frzs,I.base.tbls⟩,⟨_,hn',λj y v' e1 e2 e3=>?_⟩,λy c e=>?_,I.free,I.freeC,λp hp=>?_,tracked ⟨oL,hoL,I.free⟩ hs,by simpa using I.len⟩ ⟨_,hs,.inl rfl⟩
  .exact (hs.2 b (AA (Aq (Ag e) I.ok.above))).trans (I.base.keep b o e n hb hx)
  .obtain⟨sl,e1⟩:=I.base.slot b o e n hb hx;exact⟨sl,(hs.2 b (AA (Aq (Ag e) I.ok.above))).trans e1⟩
  .obtain⟨o',e1⟩:=I.base.there b o e hx;exact⟨o',(hs.2 b (AA (Aq (Ag e) I.ok.above))).trans e1⟩
  .by_cases hj:j=i
   .subst hj;rw[hi]at e1;cases e1;rw[List.getElem?_set_self hiσ]at e2
    cases e2
    exact⟨u,r,.inl ⟨hk,by simp⟩⟩
   .rw[List.getElem?_set_ne (Br hj)]at e2;obtain⟨u',r',q⟩:=hl j y v' e1 e2 e3;refine⟨u',r',?_⟩;rcases q with⟨k,e⟩ |⟨k,c,e,z⟩
    .refine .inl ⟨k,?_⟩;have:y≠x:=λe=>hj (zcq hN e1 (e ▸ hi))
     simp[this,e]
    .exact .inr ⟨k,c,e,z.sameBut hs (cne y c e)⟩
  .obtain⟨w',z⟩:=I.cell y c e;exact⟨w',z.sameBut hs (cne y c e)⟩
  .obtain⟨e,n,ne,nf,d⟩:=I.pin p hp;exact⟨(hs.2 p.1 ne).trans e,n,ne,nf,d⟩
 .have hfn:X.fn x=true := by
   rcases hf with z |z
   .exact z
   .rw[z]at hk;cases hk
  obtain⟨c,hc⟩:=I.ok.has x (.inl hk);obtain⟨w',z⟩:=I.cell x c hc;refine wpAny_storeName_cell I.ok.kind hk hc z (λh' hc' hs=>?_);obtain⟨oc,hoc,hocd⟩:=id z;refine h { s with heap:=h' } ⟨I.ok,I.os,I.bare,⟨λb o e n hb hx=>?_,λb o e n hb hx=>?_,I.base.free,λb o e hx=>?_,I.base.tups,I.base.frzs,I.base.tbls⟩,⟨m,hn.sameBut hs (Br (cne x c hc)),λj y v' e1 e2 e3=>?_⟩,λy c' e=>?_,I.free,I.freeC,λp hp=>?_,tracked ⟨oc,hoc,I.freeC x c hc⟩ hs,by simpa using I.len⟩ ⟨c,hs,.inr hc⟩
  .exact (hs.2 b (AA (Aq (Ag e) (I.ok.cab x c hfn hc)))).trans (I.base.keep b o e n hb hx)
  .obtain⟨sl,e1⟩:=I.base.slot b o e n hb hx;exact⟨sl,(hs.2 b (AA (Aq (Ag e) (I.ok.cab x c hfn hc)))).trans e1⟩
  .obtain⟨o',e1⟩:=I.base.there b o e hx;exact⟨o',(hs.2 b (AA (Aq (Ag e) (I.ok.cab x c hfn hc)))).trans e1⟩
  .by_cases hj:j=i
   .subst hj;rw[hi]at e1;cases e1;rw[List.getElem?_set_self hiσ]at e2
    cases e2
    exact⟨u,r,.inr ⟨.inl hk,c,hc,hc'⟩⟩
   .rw[List.getElem?_set_ne (Br hj)]at e2;obtain⟨u',r',q⟩:=hl j y v' e1 e2 e3;refine⟨u',r',?_⟩;rcases q with q |⟨k,c',e,z'⟩
    .exact .inl q
    .refine .inr ⟨k,c',e,z'.sameBut hs ?_⟩;rintro rfl;exact hj (zcq hN e1 (I.ok.inj _ _ _ e hc ▸ hi))
  .by_cases hcc:c'=c
   .subst hcc;exact⟨_,hc'⟩
   .obtain⟨w2,z2⟩:=I.cell y c' e;exact⟨w2,z2.sameBut hs hcc⟩
  .obtain⟨e,n,ne,nf,d⟩:=I.pin p hp;refine⟨(hs.2 p.1 ?_).trans e,n,ne,nf,d⟩;intro q;rw[q,hoc]at e;have q':oc=p.2:=AX e;exact d w' (by rw[<- q'];exact hocd)
theorem zcf{M:Model}{A:Au}{E:Aa -> Ab -> Prop}{i:Nat}{x:Str}{v:V}{u:Aa}{Q:Unit -> Ab -> Prop}(I:Inv X pins σ H s)(hN:X.N.Nodup)(hi:X.N[i]? = some x)(hx:Loc X.env.scope x)(r:RelV v u)
  (h:∀s',Inv X pins (σ.set i (some v)) H s'->Q () s') (hf:X.fn x=true∨X.env.scope.names.lookup x=some .local:=by first |exact .inl rfl |exact .inr rfl |assumption):Ao M A (storeName X.env x u) Q E s :=
 zcE I hN hi hx r (λs' I' _=>h s' I') hf
theorem Inv.call'{s':Ab}{ch:List Addr}(I:Inv X pins σ H s)(ho:s'.os=s.os)(u:Un (frs X.stack) ch H H' s.heap s'.heap)(hok:HOk X.prog X.w H' s'.heap)(hg:AllBare s'.gens)
  (hch:∀b∈ch,(b∈X.ex∨X.s₀.heap.objs.size<=b)/\b≠X.env.locals/\(∀x c,X.env.cells.lookup x=some c->c≠b)/\∀p∈X.pn++pins,p.1≠b):Inv X pins σ H' s':=by
 obtain⟨h',g',d',t',o'⟩:=s';have e:o'=s.os:=ho;subst e;exact I.call (g':=g') (t':=t') (d':=d') u hok hg hch
end
noncomputable abbrev XK:=Aa->Option Addr->Hp->Prop
noncomputable abbrev St:=List (Option V)
noncomputable abbrev VK:=V->Hp->Prop
noncomputable abbrev TE:=St->Hp->VK->Prop
noncomputable abbrev TT:=St->Hp->(Bool->Hp->Prop)->Prop
noncomputable abbrev TA:=St->Hp->(List V->Hp->Prop)->Prop
structure Ends where
 nx:St->Hp->Prop
 rt:VK
 bk:St->Hp->Prop:=λ_ _=>False
 ct:St->Hp->Prop:=λ_ _=>False
noncomputable abbrev TS:=Ends->St->Hp->Prop
noncomputable def EP(X:Cx)(pins:List (Addr×Obj))(σ:St)(Q:VK)(u:Aa)(s':Ab):Prop:=∃v H',Inv X pins σ H' s'/\RelV v u/\Q v H'
noncomputable def TP(X:Cx)(pins:List (Addr×Obj))(σ:St)(Q:Bool->Hp->Prop)(b:Bool)(s':Ab):Prop:=∃H',Inv X pins σ H' s'/\Q b H'
noncomputable def AP(X:Cx)(pins:List (Addr×Obj))(σ:St)(Q:List V->Hp->Prop)(us:List Aa)(s':Ab):Prop:=∃vs H',Inv X pins σ H' s'/\Vals vs us/\Q vs H'
noncomputable def SP(X:Cx)(pins:List (Addr×Obj))(D:Ends)(f:Flow)(s':Ab):Prop :=
 match f with
 |.next=>∃ σ' H',Inv X pins σ' H' s'/\D.nx σ' H'
 |.brk=>∃ σ' H',Inv X pins σ' H' s'/\D.bk σ' H'
 |.cont=>∃ σ' H',Inv X pins σ' H' s'/\D.ct σ' H'
 |.ret u=>∃v σ' H',Inv X pins σ' H' s'/\RelV v u/\D.rt v H'
noncomputable def PE(X:Cx)(e:Expr)(t:TE):Prop :=
 ∀(pins:List (Addr×Obj)) (s:Ab) (σ:St) (H:Hp) (Q:VK),Inv X pins σ H s->t σ H Q->Ao (As X.prog X.w) X.A (eval e X.env) (EP X pins σ Q) X.xe s
noncomputable def PT(X:Cx)(e:Expr)(t:TT):Prop :=
 ∀(pins:List (Addr×Obj)) (s:Ab) (σ:St) (H:Hp) (Q:Bool->Hp->Prop),Inv X pins σ H s->t σ H Q->Ao (As X.prog X.w) X.A (isTrue e X.env (eval e X.env)) (TP X pins σ Q) X.xe s
noncomputable def PW(X:Cx)(e:Expr)(t:TT):Prop :=
 ∀(whole:Sem Aa) (pins:List (Addr×Obj)) (s:Ab) (σ:St) (H:Hp) (Q:Bool->Hp->Prop),Inv X pins σ H s->t σ H Q->Ao (As X.prog X.w) X.A (isTrue e X.env whole) (TP X pins σ Q) X.xe s
theorem PW.pt{X:Cx}{e:Expr}{t:TT}(h:PW X e t):PT X e t:=h _
noncomputable def PA(X:Cx)(es:List Expr)(t:TA):Prop :=
 ∀(pos:Pos) (pins:List (Addr×Obj)) (s:Ab) (σ:St) (H:Hp) (Q:List V->Hp->Prop),Inv X pins σ H s->t σ H Q->Ao (As X.prog X.w) X.A (spliced (backTo pos (Ay es X.env))) (AP X pins σ Q) X.xe s
noncomputable def PS(X:Cx)(st:Stmt)(t:TS):Prop :=
 ∀(pins:List (Addr×Obj)) (s:Ab) (σ:St) (H:Hp) (D:Ends),Inv X pins σ H s->t D σ H->Ao (As X.prog X.w) X.A (exec st X.env) (SP X pins D) X.xe s
noncomputable def PSs(X:Cx)(st:List Stmt)(t:TS):Prop :=
 ∀(pins:List (Addr×Obj)) (s:Ab) (σ:St) (H:Hp) (D:Ends),Inv X pins σ H s->t D σ H->Ao (As X.prog X.w) X.A (execs st X.env) (SP X pins D) X.xe s
theorem thn{α:Type}{t:Sem α}{Q Q':α->Ab->Prop}{M:Model}{A:Au}{E:Aa->Ab->Prop}{s:Ab}(h:Ao M A t Q E s)(hQ:∀a s,Q a s->Q' a s):Ao M A t Q' E s:=BZ h hQ λ_ _ x=>x
section
variable {X:Cx}
noncomputable def tVar(i:Nat):TE:=λσ H Q=>∃v,σ[i]?=some (some v)/\Q v H
noncomputable def tC(v:V):TE:=λ_ H Q=>Q v H
theorem zfZ {i:Nat}{x:Str}{pos:Pos}(hN:X.N[i]?=some x) (hv:Vis X.env.scope x) (hd:(x == ("__debug__" : Str))=false:=by decide) (hcd:(x == ("__classdict__" : Str))=false:=by decide):PE X (.Name x pos) (tVar i):=by
 intro pins s σ H Q I h;obtain⟨v,e,h⟩:=h;obtain⟨m,hn,hl⟩:=I.loc;obtain⟨u,r,l⟩:=hl i x v hN e hv;have fin:EP X pins σ Q u s:=⟨v,H,I,r,h⟩;rcases l with⟨hk,hm⟩ |⟨hk,c,hc,hcell⟩
 .exact wpAny_Name (wpAny_loadName_local I.ok.kind hk hn hm fin) hd
 .rcases hk with hk |hk
  .exact wpAny_Name (wpAny_loadName_cell I.ok.kind hk hc hcell fin) hd
  .exact wpAny_Name (wpAny_loadName_free I.ok.kind hk hc hcell fin hcd) hd
theorem zab{i j pos}:PE X (.Constant (.int i) j pos) (tC (.int i)):=λ_ _ _ H _ I h=>wpAny_Constant_int ⟨.int i,H,I.tok _,⟨_,rfl⟩,h⟩
theorem pe_bl{b j pos}:PE X (.Constant (.bool b) j pos) (tC (.bl b)):=λ_ _ _ H _ I h=>Constant_bool ⟨.bl b,H,I,rfl,h⟩
theorem zf0{j pos}:PE X (.Constant .none j pos) (tC .non):=λ_ _ _ H _ I h=>Constant_none ⟨.non,H,I,rfl,h⟩
theorem zaN{x j pos}:PE X (.Constant (.str x) j pos) (tC (.str x)):=λ_ _ _ H _ I h=>Calls.Constant_str ⟨.str x,H,I.tok _,⟨_,rfl⟩,h⟩
noncomputable def Gl(X:Cx)(x:Str):Prop:=X.env.kindOf x=some .globalImplicit
theorem zcv{E:Aa -> Ab -> Prop}{pins:List (Addr × Obj)}{s:Ab}{σ : St}{H:Hp}{x:Str}{u:Aa}{pos:Pos}{Q:Aa -> Ab -> Prop}(I:Inv X pins σ H s)(hg:Gl X x)(hm:X.mg x=some u)(h:Q u s)
  (hd:(x == ("__debug__" : Str))=false:=by decide):Ao (As X.prog X.w) X.A (eval (.Name x pos) X.env) Q E s :=
 Calls.Name_function_global I.ok.kind hg (Calls.loadGlobal_global (by rw[I.ok.glob];exact I.mod.glob.keeps I.bk) hm h) hd
theorem zbf{E:Aa -> Ab -> Prop}{pins:List (Addr × Obj)}{s:Ab}{σ : St}{H:Hp}{x:Str}{u:Aa}{pos:Pos}{Q:Aa -> Ab -> Prop}(I:Inv X pins σ H s)(hg:Gl X x)(hm:X.mg x=none)(hv:bootBuiltins x=some u)(h:Q u s)
  (hn:x ≠ "__name__":=by decide) (hd:(x == ("__debug__" : Str))=false:=by decide):Ao (As X.prog X.w) X.A (eval (.Name x pos) X.env) Q E s:=by
 obtain⟨mb,h1,h2⟩:=I.mod.blt;exact Calls.Name_function_global I.ok.kind hg (Calls.loadGlobal_builtin (by rw[I.ok.glob];exact I.mod.glob.keeps I.bk) hm (by rw[I.ok.blt];exact h1.keeps I.bk) ((h2 x hn).trans hv) h) hd
theorem zbQ {x:Str}{v:V}{u:Aa}{pos:Pos}(hg:Gl X x) (hm:X.mg x=some u) (r:RelV v u) (hd:(x == ("__debug__" : Str))=false:=by decide):PE X (.Name x pos) (tC v) :=
 λ_ _ _ H _ I h=>zcv I hg hm ⟨v,H,I,r,h⟩ hd
theorem zc3 {x:Str}{v:V}{u:Aa}{pos:Pos}(hg:Gl X x) (hm:X.mg x=none) (hv:bootBuiltins x=some u) (r:RelV v u) (hn:x ≠ "__name__":=by decide) (hd:(x == ("__debug__" : Str))=false:=by decide):PE X (.Name x pos) (tC v) :=
 λ_ _ _ H _ I h=>zbf I hg hm hv ⟨v,H,I,r,h⟩ hn hd
variable {a b:Expr}{ta tb:TE}{pos:Pos}
noncomputable def PC(X:Cx)(op:CmpOp)(a b:Expr)(t:TE):Prop :=
 ∀(pins:List (Addr×Obj)) (s:Ab) (σ:St) (H:Hp) (Q:VK),Inv X pins σ H s->t σ H Q ->
  Ao (As X.prog X.w) X.A (eval a X.env) (λv s₁=>Ao (As X.prog X.w) X.A (eval b X.env) (λu s₂=>Ao (As X.prog X.w) X.A (Bf op v u) (EP X pins σ Q) X.xe s₂) X.xe s₁) X.xe s
noncomputable def tB(t:TE):TT:=λσ H Q=>t σ H λx H1=>∃c,x=.bl c/\Q c H1
theorem zf1{op:CmpOp}{t:TE}(h:PC X op a b t)(h1:behindInMarks op b=false:=by first |exact nobehind _ (by decide) (by decide) |rfl):PE X (.Compare a [op] [b] pos) t:=λpins s σ H Q I hw=>wpAny_Compare1 (h pins s σ H Q I hw) h1
theorem zfV{op:CmpOp}{t:TE}(h:PC X op a b t)(h1:behindInMarks op b=false:=by first |exact nobehind _ (by decide) (by decide) |rfl):PT X (.Compare a [op] [b] pos) (tB t):=by
 intro pins s σ H Q I hw;refine wpAny_isTrue_Compare1 (thn (h pins s σ H _ I hw) λv s1 h1=>thn h1 λu s2 h2=>thn h2 λc s3 ⟨x,H1,I1,r1,q1⟩=>?_) h1;obtain⟨d,rfl,q⟩:=q1
 cases r1
 exact Bl ⟨H1,I1,q⟩
variable {tA tB':TT}{rest:List Expr}
noncomputable def tAnd(t u:TT):TT:=λσ H Q=>t σ H λc H1=>if c=true then u σ H1 Q else Q false H1
noncomputable def tOr(t u:TT):TT:=λσ H Q=>t σ H λc H1=>if c=true then Q true H1 else u σ H1 Q
noncomputable def tNot(t:TT):TT:=λσ H Q=>t σ H λc H1=>Q (!c) H1
theorem zdW(ha:PT X a tA):PW X (.BoolOp .And [a] pos) tA:=by
 intro wh pins s σ H Q I h;refine isTrue_and (thn (ha pins s σ H Q I h) λc s1 e=>?_)
 cases c with
 |true=>exact isTrue_and_nil e
 |false=>exact e
theorem zdV(ha:PT X a tA):PW X (.BoolOp .Or [a] pos) tA:=by
 intro wh pins s σ H Q I h;refine isTrue_or (thn (ha pins s σ H Q I h) λc s1 e=>?_)
 cases c with
 |false=>exact isTrue_or_nil e
 |true=>exact e
theorem ze3(ha:PT X a tA)(hb:PW X (.BoolOp .And (b::rest) pos) tB'):PW X (.BoolOp .And (a::b::rest) pos) (tAnd tA tB'):=by
 intro wh pins s σ H Q I h;refine isTrue_and (thn (ha pins s σ H _ I h) λc s1 ⟨H1,I1,q1⟩=>?_)
 cases c with
 |true=>exact hb wh pins s1 σ H1 Q I1 q1
 |false=>exact⟨H1,I1,q1⟩
theorem pw_or(ha:PT X a tA)(hb:PW X (.BoolOp .Or (b::rest) pos) tB'):PW X (.BoolOp .Or (a::b::rest) pos) (tOr tA tB'):=by
 intro wh pins s σ H Q I h;refine isTrue_or (thn (ha pins s σ H _ I h) λc s1 ⟨H1,I1,q1⟩=>?_)
 cases c with
 |true=>exact⟨H1,I1,q1⟩
 |false=>exact hb wh pins s1 σ H1 Q I1 q1
theorem zfU(ha:PT X a tA):PT X (.UnaryOp .Not a pos) (tNot tA):=by intro pins s σ H Q I h;exact isTrue_not (ha pins s σ H (λc H1=>Q (!c) H1) I h)
noncomputable def tAndV(ta tb:TE):TE:=λσ H Q=>ta σ H λx H1=>∃c,x=.bl c/\if c=true then tb σ H1 Q else Q (.bl false) H1
noncomputable def tNotV(ta:TE):TE:=λσ H Q=>ta σ H λx H1=>∃c,x=.bl c/\Q (.bl (!c)) H1
theorem ze4{op}{t:TE}(h:PE X a t):PE X (.BoolOp op [a] pos) t:=λpins s σ H Q I hw=>BoolOp_one (h pins s σ H Q I hw)
theorem zd3(ha:PE X a ta)(hb:PE X (.BoolOp .And (b::rest) pos) tb):PE X (.BoolOp .And (a::b::rest) pos) (tAndV ta tb):=by
 intro pins s σ H Q I h;refine BoolOp_and (thn (ha pins s σ H _ I h) λv s1 ⟨x,H1,I1,r1,q1⟩=>?_);obtain⟨c,rfl,q1⟩:=q1
 cases r1
 refine Bl ?_
 cases c with
 |true=>exact hb pins s1 σ H1 Q I1 q1
 |false=>exact⟨.bl false,H1,I1,rfl,q1⟩
theorem ze5(ha:PE X a ta):PE X (.UnaryOp .Not a pos) (tNotV ta):=by
 intro pins s σ H Q I h;refine UnaryOp_ (thn (ha pins s σ H _ I h) λv s1 ⟨x,H1,I1,r1,q1⟩=>?_);obtain⟨c,rfl,q1⟩:=q1
 cases r1
 exact not_of (Bl ⟨.bl (!c),H1,I1,rfl,q1⟩)
noncomputable def tIf(t:TT)(ta tb:TE):TE:=λσ H Q=>t σ H λc H1=>if c=true then ta σ H1 Q else tb σ H1 Q
theorem zeG{c:Expr}(hc:PT X c tA)(ha:PE X a ta)(hb:PE X b tb):PE X (.IfExp c a b pos) (tIf tA ta tb):=by
 intro pins s σ H Q I h;refine wpAny_IfExp (thn (hc pins s σ H _ I h) λd s1 ⟨H1,I1,q1⟩=>?_)
 cases d with
 |true=>exact ha pins s1 σ H1 Q I1 q1
 |false=>exact hb pins s1 σ H1 Q I1 q1
end
noncomputable def SqL(K:W.Frag)(H:Hp)(a:Addr)(xs:List V):Prop :=
 Rd H a (.lst xs) ∨
  ∃(o:Obj) (its:Array Aa) (n:Nat),K.lookup a=some o/\o.cls=.type "list" /\ o.dict=none/\o.data=.seq its n/\its.size<=sizeLine/\Vals xs its.toList
noncomputable def SqT(K:W.Frag)(H:Hp)(a:Addr)(xs:List V):Prop :=
 Rd H a (.tup xs) ∨
  ∃(o:Obj) (its:Array Aa) (n:Nat),K.lookup a=some o/\o.cls=.type "tuple" /\ o.data=.seq its n/\its.size<=sizeLine/\Vals xs its.toList
noncomputable def absV:Aa->Option V
 |.none=>some .non
 |.bool b=>some (.bl b)
 |.int i _=>some (.int i)
 |.str x _=>some (.str x)
 |.bytes b _=>some (.byt b)
 |.float b _=>some (.flt b)
 |.ref a=>some (.ref a)
 |.type n=>some (.ty n)
 |_=>none
theorem RelV.abs{x:V}{u:Aa}(r:RelV x u):absV u=some x:=by
 cases x with
 |non=>cases r;rfl
 |bl _=>cases r;rfl
 |int _=>obtain⟨t,rfl⟩:=r;rfl
 |str _=>obtain⟨t,rfl⟩:=r;rfl
 |byt _=>obtain⟨t,rfl⟩:=r;rfl
 |flt _=>obtain⟨t,rfl⟩:=r;rfl
 |ref _=>cases r;rfl
 |ty _=>cases r;rfl
theorem RelV.inj{x y:V}{u:Aa}(r:RelV x u)(q:RelV y u):x=y:=AX (r.abs.symm.trans q.abs)
theorem Vals.inj:∀{xs ys:List V}{us:List Aa},Vals xs us->Vals ys us->xs=ys
 |_,_,_,.nil,.nil=>rfl
 |_,_,_,.cons r t,.cons r' t'=>by rw[r.inj r',Vals.inj t t']
section
variable {X:Cx}{pins:List (Addr×Obj)}{σ:St}{H:Hp}{s:Ab}{a:Addr}{xs ys:List V}
theorem SqL.of{K:W.Frag}(h:H a=some (.lst xs)):SqL K H a xs:=.inl (.inl h)
theorem SqT.of{K:W.Frag}(h:H a=some (.tup xs)):SqT K H a xs:=.inl (.inl h)
theorem Inv.list(I:Inv X pins σ H s)(h:SqL X.K H a xs):∃its:List Aa,Vals xs its/\PlainL s.heap a its.toArray/\xs.length<=sizeLine:=by
 rcases h with h |⟨o,its,n,hk,hc,hd,hs,hz,r⟩
 .obtain⟨z,its,n,r,e⟩:=h.ok I.hok;exact⟨its,r,⟨_,n,e,rfl,rfl,rfl⟩,z⟩
 .refine⟨its.toList,r,⟨o,n,I.kIn a o hk,hc,hd,by simpa using hs⟩,?_⟩;have e:=r.length;simp only[Array.length_toList]at e;lia
theorem Inv.tuple(I:Inv X pins σ H s)(h:SqT X.K H a xs):∃its:List Aa,Vals xs its/\IsTup s.heap a its.toArray/\xs.length<=sizeLine:=by
 rcases h with h |⟨o,its,n,hk,hc,hs,hz,r⟩
 .obtain⟨z,its,r,p⟩:=h.ok I.hok;exact⟨its,r,p,z⟩
 .refine⟨its.toList,r,⟨o,I.kIn a o hk,hc,n,by simpa using hs⟩,?_⟩;have e:=r.length;simp only[Array.length_toList]at e;lia
theorem Inv.list_inj(I:Inv X pins σ H s)(h:SqL X.K H a xs)(h':SqL X.K H a ys):xs=ys:=by
 obtain⟨its,r,⟨o,n,e,_,_,d⟩,_⟩:=I.list h;obtain⟨its',r',⟨o',n',e',_,_,d'⟩,_⟩:=I.list h';rw[e]at e';cases e';rw[d]at d';injection d' with d1 _;have:its=its':=by simpa using congrArg Array.toList d1
 subst this;exact r.inj r'
end
noncomputable abbrev Cx.wish(X:Cx)(E:Aa->Ab->Prop):Cx:={ X with xe:=E }
noncomputable abbrev Cx.nox(X:Cx):Cx:=X.wish λ_ _=>False
theorem Cx.Ok.wish{X:Cx}(ok:X.Ok)(E:Aa->Ab->Prop):(X.wish E).Ok :=
 ⟨ok.mod,ok.kind,ok.glob,ok.blt,ok.above,ok.inj,ok.has,ok.cab,ok.hd,ok.frames,ok.stk,ok.exf,ok.bs,ok.bsz,ok.noex,ok.exfs,ok.funs,ok.frf⟩
theorem Cx.Ok.unwish{X:Cx}{E:Aa->Ab->Prop}(ok:(X.wish E).Ok):X.Ok :=
 ⟨ok.mod,ok.kind,ok.glob,ok.blt,ok.above,ok.inj,ok.has,ok.cab,ok.hd,ok.frames,ok.stk,ok.exf,ok.bs,ok.bsz,ok.noex,ok.exfs,ok.funs,ok.frf⟩
section
variable {X:Cx}{pins:List (Addr×Obj)}{σ:St}{H:Hp}{s:Ab}{E:Aa->Ab->Prop}
theorem Inv.wish(I:Inv X pins σ H s)(E:Aa->Ab->Prop):Inv (X.wish E) pins σ H s:=⟨I.ok.wish E,I.os,I.bare,I.base,I.loc,I.cell,I.free,I.freeC,I.pin,I.hok,I.len⟩
theorem Inv.unwish(I:Inv (X.wish E) pins σ H s):Inv X pins σ H s:=⟨I.ok.unwish,I.os,I.bare,I.base,I.loc,I.cell,I.free,I.freeC,I.pin,I.hok,I.len⟩
theorem SP.unwish{D:Ends}{f:Flow}{s':Ab}(h:SP (X.wish E) pins D f s'):SP X pins D f s':=by
 cases f with
 |next=>obtain⟨σ',H',I,q⟩:=h;exact⟨σ',H',I.unwish,q⟩
 |brk=>obtain⟨σ',H',I,q⟩:=h;exact⟨σ',H',I.unwish,q⟩
 |cont=>obtain⟨σ',H',I,q⟩:=h;exact⟨σ',H',I.unwish,q⟩
 |ret u=>obtain⟨v,σ',H',I,r,q⟩:=h;exact⟨v,σ',H',I.unwish,r,q⟩
theorem PT.nox{e:Expr}{t:TT}(h:PT X.nox e t):PT X e t:=λpins s σ H Q I hw =>
 BZ (h pins s σ H Q (I.wish _) hw) (λ_ _ ⟨H',I',q⟩=>⟨H',I'.unwish,q⟩) λ_ _ z=>Bb z
theorem PSs.nox{st:List Stmt}{t:TS}(h:PSs X.nox st t):PSs X st t:=λpins s σ H D I hw =>
 BZ (h pins s σ H D (I.wish _) hw) (λ_ _ q=>q.unwish) λ_ _ z=>Bb z
end
section
variable {X:Cx}{st:Stmt}{rest:List Stmt}{t u:TS}{e:Expr}{te:TE}{pos:Pos}
noncomputable def tNext:TS:=λD σ H=>D.nx σ H
noncomputable def tSeq(t u:TS):TS:=λD σ H=>t { D with nx:=u D } σ H
theorem za2:PSs X [] tNext:=λ_ _ σ H _ I h=>wpAny_execs_nil ⟨σ,H,I,h⟩
theorem zad(h1:PS X st t)(h2:PSs X rest u):PSs X (st::rest) (tSeq t u):=by
 intro pins s σ H D I h;refine wpAny_execs_cons (thn (h1 pins s σ H { D with nx:=u D } I h) λf s1 q=>?_)
 cases f with
 |next =>
  obtain⟨σ',H',I',q⟩:=q;exact h2 pins s1 σ' H' D I' q
 |ret v=>exact q
 |brk=>exact q
 |cont=>exact q
theorem zah(h1:PS X st t):PSs X [st] t:=by
 intro pins s σ H D I h;refine wpAny_execs_cons (thn (h1 pins s σ H D I h) λf s1 q=>?_)
 cases f with
 |next=>exact wpAny_execs_nil q
 |ret v=>exact q
 |brk=>exact q
 |cont=>exact q
theorem Inv.quiet{pins:List (Addr×Obj)}{σ:St}{H:Hp}{s:Ab}(I:Inv X pins σ H s):interactive X.env=false:=by simp[interactive,I.ok.kind]
noncomputable def tDrop(te:TE):TS:=λD σ H=>te σ H λ_ H1=>D.nx σ H1
theorem zbu(he:PE X e te)(hs:swapsWith e none pos.line X.env=pure false:=by rfl):PS X (.Expr e pos) (tDrop te):=by intro pins s σ H D I h;exact wpAny_Expr_any (thn (he pins s σ H _ I h) λv s1 ⟨x,H1,I1,r1,q1⟩=>⟨σ,H1,I1,q1⟩) I.quiet hs
noncomputable def tRet(te:TE):TS:=λD σ H=>te σ H D.rt
theorem zaJ(he:PE X e te):PS X (.Return (some e) pos) (tRet te):=by intro pins s σ H D I h;exact wpAny_Return_some (thn (he pins s σ H _ I h) λv s1 ⟨x,H1,I1,r1,q1⟩=>⟨x,σ,H1,I1,r1,q1⟩)
noncomputable def tIfS(c:TT)(t u:TS):TS:=λD σ H=>c σ H λb H1=>if b=true then t D σ H1 else u D σ H1
theorem ps_if{c:Expr}{a b:List Stmt}{tc:TT}(hc:PT X c tc)(ha:PSs X a t)(hb:PSs X b u):PS X (.If c a b pos) (tIfS tc t u):=by
 intro pins s σ H D I h;refine wpAny_If (thn (hc pins s σ H _ I h) λd s1 ⟨H1,I1,q1⟩=>?_)
 cases d with
 |true=>exact ha pins s1 σ H1 D I1 q1
 |false=>exact hb pins s1 σ H1 D I1 q1
noncomputable def zfO:TS:=λ_ _ _=>False
theorem zeF:PS X st zfO:=λ_ _ _ _ _ _ h=>h.elim
end
noncomputable abbrev TG:=V->St->Hp->(St->Hp->Prop)->Prop
noncomputable abbrev TGs:=List V->St->Hp->(St->Hp->Prop)->Prop
noncomputable def PG(X:Cx)(target:Expr)(t:TG):Prop :=
 ∀(pins:List (Addr×Obj)) (s:Ab) (σ:St) (H:Hp) (v:V) (u:Aa) (Q:St->Hp->Prop),Inv X pins σ H s->RelV v u->t v σ H Q ->
  Ao (As X.prog X.w) X.A (assign target X.env u) (λ_ s'=>∃ σ' H',Inv X pins σ' H' s'/\Q σ' H') X.xe s
noncomputable def PGs(X:Cx)(ts:List Expr)(t:TGs):Prop :=
 ∀(pins:List (Addr×Obj)) (s:Ab) (σ:St) (H:Hp) (vs:List V) (us:List Aa) (Q:St->Hp->Prop),Inv X pins σ H s->Vals vs us->t vs σ H Q ->
  Ao (As X.prog X.w) X.A (assignInOrder ((Bc ts X.env).map (·.2)) us) (λ_ s'=>∃ σ' H',Inv X pins σ' H' s'/\Q σ' H') X.xe s
section
variable {X:Cx}{pos:Pos}
noncomputable def gName(i:Nat):TG:=λv σ H Q=>Q (σ.set i (some v)) H
theorem zbj{i:Nat}{x:Str}(hN:X.N.Nodup)(hi:X.N[i]?=some x)(hx:Loc X.env.scope x)(hf:X.fn x=true∨X.env.scope.names.lookup x=some .local:=by first |exact .inl rfl |exact .inr rfl |assumption):PG X (.Name x pos) (gName i):=by intro pins s σ H v u Q I r h;exact wpAny_assign_Name (zcf I hN hi hx r (λs' I'=>⟨_,H,I',h⟩) hf)
noncomputable def gNil:TGs:=λvs σ H Q=>vs=[]/\Q σ H
noncomputable def gCons(t:TG)(u:TGs):TGs:=λvs σ H Q=>∃v r,vs=v::r/\t v σ H λσ' H'=>u r σ' H' Q
theorem za3:PGs X [] gNil:=by
 intro pins s σ H vs us Q I r h;obtain⟨e,h⟩:=h;subst e
 cases r
 exact assignInOrder_nil ⟨σ,H,I,h⟩
theorem zai{e:Expr}{es:List Expr}{t:TG}{u:TGs}(h1:PG X e t)(h2:PGs X es u)
  (hs:(Bc (e::es) X.env).map (·.2)=assign e X.env::(Bc es X.env).map (·.2):=by rfl):PGs X (e::es) (gCons t u):=by
 intro pins s σ H vs us Q I r h;obtain⟨v,vr,e1,h⟩:=h;subst e1
 cases r with
 |cons r rr =>
  rw[hs];refine assignInOrder_cons (thn (h1 pins s σ H _ _ _ I r h) λ_ s1 ⟨σ1,H1,I1,q1⟩=>?_);exact h2 pins s1 σ1 H1 _ _ Q I1 rr q1
noncomputable def gTup(K:W.Frag)(n:Nat)(t:TGs):TG:=λv σ H Q=>∃a xs,v=.ref a/\SqT K H a xs/\xs.length=n/\t xs σ H Q
theorem zd1{es:List Expr}{k:Nat}{t:TGs}{n:Nat}(hc:X.calm=true)(h:PGs X es t)
  (hn:(Bc es X.env).length=n:=by rfl) (hst:(Bc es X.env).findIdx? (·.1)=none:=by rfl):PG X (.Tuple es k pos) (gTup X.K n t):=by
 intro pins s σ H v u Q I r hw;obtain⟨a,xs,e1,hq,hl,hw⟩:=hw;subst e1
 cases r
 obtain⟨its,rv,ht,hz⟩:=I.tuple hq;refine assign_Tuple_tuple (I.ok.hd hc) ht (by simp[hn,<- hl,rv.length]) hst λh' hx=>?_
 have I1:Inv X pins σ H { s with heap:=h' }:=I.kept (t':=s.toks) λb o e=>hx b o (AA (Ag e)) e
 exact h pins _ σ H xs _ Q I1 (by simpa using rv) hw
noncomputable def tAsg(te:TE)(g:TG):TS:=λD σ H=>te σ H λx H1=>g x σ H1 D.nx
theorem zdY{tg e:Expr}{te:TE}{g:TG}(he:PE X e te)(hg:PG X tg g)(hs:swapsWithSole [tg] e pos.line X.env=pure false := by rfl)(hw:swappedStores [tg] e X.env=pure none := by rfl)
  (h1:(Bc [tg] X.env).map (·.2)=[assign tg X.env]:=by rfl):PS X (.Assign [tg] e pos) (tAsg te g):=by
 intro pins s σ H D I h;refine wpAny_Assign_stores (thn (he pins s σ H _ I h) λv s1 ⟨x,H1,I1,r1,q1⟩=>?_) hs hw;rw[h1];exact thn (hg pins s1 σ H1 x v _ I1 r1 q1) λ_ s2 q=>q
theorem zbC{i:Nat}{x:Str}{e:Expr}{te:TE}{pos':Pos}(hN:X.N.Nodup)(hi:X.N[i]? = some x)(hx:Loc X.env.scope x)(he:PE X e te)(hs:swapsWith e (some (.Name x pos')) pos.line X.env=pure false := by rfl)(hf:X.fn x=true ∨ X.env.scope.names.lookup x=some .local := by first |exact .inl rfl |exact .inr rfl |assumption) :
  PS X (.Assign [.Name x pos'] e pos) (tAsg te (gName i)):=by
 intro pins s σ H D I h;refine wpAny_Assign_Name (thn (he pins s σ H _ I h) λv s1 ⟨y,H1,I1,r1,q1⟩=>?_) hs;exact zcf I1 hN hi hx r1 (λs2 I2=>⟨_,H1,I2,q1⟩) hf
end
section
variable {X:Cx}{pos:Pos}
end
structure It where
 go:Nat->Hp->Prop
 yld:Nat->Hp->V->Hp->Prop
 stop:Nat->Hp->Prop
noncomputable def FpOk(X:Cx)(pins:List (Addr×Obj))(H:Hp)(b:Addr):Prop :=
 H b=none/\b≠X.env.locals/\b ∉ X.fs/\(b∈X.ex∨X.s₀.heap.objs.size<=b)/\(∀x c,X.env.cells.lookup x=some c->c≠b)/\∀p∈X.pn++pins,p.1≠b
theorem Inv.fpOk{X:Cx}{pins:List (Addr×Obj)}{σ:St}{H H':Hp}{s:Ab}{b:Addr}(I:Inv X pins σ H s)(hb:s.heap.objs.size<=b)(hn:H' b=none):FpOk X pins H' b:=by
 refine⟨hn,Nat.ne_of_gt (Aq I.lt hb),I.nofs hb,.inr (AY I.sz hb),λx c e z=>?_,λp hp z=>?_⟩
 .obtain⟨v,q⟩:=I.cell x c e;exact absurd (Aq q.lt (by rw[z];exact hb)) (BA _)
 .exact absurd (Aq (Ag (I.pin p hp).1) (by rw[z];exact hb)) (BA _)
structure Turn (P:Aj) (w:Ax) (K:W.Frag) (tg:Expr) (J:It) (fp:List Addr) (it:Addr) (tn:Nat->Heap->Prop):Prop where
 mem:it∈fp
 obj:∀i h,tn i h->∀b∈fp,∃o,h.get? b=some o/\∀v,o.data≠.cell v
 keep:∀i h h',tn i h->(∀b∈fp,∀o,h.get? b=some o->h'.get? b=some o)->tn i h'
 item:∀(X:Cx),X.prog=P->X.w=w->X.K=K->X.calm=true->∀(i:Nat) (pins:List (Addr×Obj)) (s:Ab) (σ:St) (H:Hp) (E:Aa->Ab->Prop),Inv X pins σ H s->(∀b∈fp,FpOk X pins H b)->tn i s.heap->J.go i H ->
  Ao (As P w) X.A (pyNext (.ref it)) (λr s1=>∃u,r=some u /\
   Ao (As P w) X.A (letOwnedTupleGo tg (.ref it) u) (λ_ s2=>∃x H',Inv X pins σ H' s2/\RelV x u/\J.yld i H x H'/\tn (i+1) s2.heap/\∀b∈fp,H' b=none) E s1) E s
 done:∀(X:Cx),X.prog=P->X.w=w->X.K=K->X.calm=true->∀(i:Nat) (pins:List (Addr×Obj)) (s:Ab) (σ:St) (H:Hp) (E:Aa->Ab->Prop),Inv X pins σ H s->(∀b∈fp,FpOk X pins H b)->tn i s.heap->J.stop i H ->
  Ao (As P w) X.A (pyNext (.ref it)) (λr s1=>r=none/\Inv X pins σ H s1) E s
 self:∀(A:Au) (i:Nat) (s:Ab) (Q:Aa->Ab->Prop) (E:Aa->Ab->Prop),tn i s.heap->Q (.ref it) s->Ao (As P w) A (pyIter (.ref it)) Q E s
noncomputable abbrev TI:=St->Hp->(It->Hp->Prop)->Prop
noncomputable def PIE(X:Cx)(pins:List (Addr×Obj))(σ:St)(tg:Expr)(R:It->Hp->Prop)(itv:Aa)(s2:Ab):Prop :=
 ∃(it:Addr) (fp:List Addr) (tn:Nat->Heap->Prop) (J:It) (H':Hp),itv=.ref it/\Inv X pins σ H' s2/\Turn X.prog X.w X.K tg J fp it tn/\tn 0 s2.heap/\(∀b∈fp,FpOk X pins H' b)/\R J H'
noncomputable def PI(X:Cx)(tg iter:Expr)(wi:TI):Prop :=
 ∀(pins:List (Addr×Obj)) (s:Ab) (σ:St) (H:Hp) (R:It->Hp->Prop),Inv X pins σ H s->wi σ H R ->
  Ao (As X.prog X.w) X.A (eval iter X.env) (λv s1=>Ao (As X.prog X.w) X.A (pyIter v) (PIE X pins σ tg R) X.xe s1) X.xe s
theorem go_of {M : Model}{A : Au}{E : Aa → Ab → Prop}{s : Ab}{tg : Expr}{it : Addr}{u : Aa}{o : Obj}{n : String}{vs : Array Aa}{Q : Unit → Ab → Prop}(ho : s.heap.get? it = some o) (hc : o.cls = .type n) (hd : o.data = .fields vs)
    (hn:["enumerate","zip","dict_itemiterator","dict_reverseitemiterator","odict_iterator","itertools.zip_longest","itertools.pairwise"].contains n=false) (hQ:Q () s):Ao M A (letOwnedTupleGo tg (.ref it) u) Q E s:=by
  unfold letOwnedTupleGo
  cases tg <;> first
    | exact Av hQ
    | (cases u <;> first
        | exact Av hQ
        | (refine Ac (wpAny_load ho ?_)
           rw[hc,hd]
           show Ao M A (if (["enumerate","zip","dict_itemiterator","dict_reverseitemiterator","odict_iterator","itertools.zip_longest","itertools.pairwise"].contains n && vs[0]? == some (AV _))=true then _ else _) Q E s
           rw[if_neg (by intro h;rw[hn,Bool.false_and] at h;cases h)]
           exact Av hQ))
noncomputable def Itl(K:W.Frag)(a:Addr):It :=
 ⟨λi H=>∃xs x,SqL K H a xs/\xs[i]?=some x,λi H x H'=>H'=H/\∀xs,SqL K H a xs->xs[i]?=some x,λi H=>∃xs,SqL K H a xs/\xs.length<=i⟩
noncomputable def Itr(lo:Int)(n:Nat):It:=⟨λi _=>i<n,λi H x H'=>H'=H/\x=.int (lo+i),λi _=>n<=i⟩
theorem zdJ{P:Aj}{w:Ax}{K:W.Frag}{tg:Expr}(a it:Addr):Turn P w K tg (Itl K a) [it] it (λi h=>h.IsListIter it a i) where
 mem:=by simp
 obj:=λi h st b hb=>by
  have e:b=it:=by simpa using hb
  subst e;obtain⟨o,e,c,d⟩:=st;exact⟨o,e,λv z=>by rw[d]at z;cases z⟩
 keep:=λi h h' st k=>st.at λo e=>k it (by simp) o e
 item:=by
  intro X hP hw hK hc i pins s σ H E I hf st hg;subst hP hw hK;obtain⟨xs,x,hq,hx⟩:=hg;obtain⟨its,rv,p,hz⟩:=I.list hq;obtain⟨u,hu,ru⟩:=rv.get hx;obtain⟨f0,f1,f2,f3,f4,f5⟩:=hf it (by simp);refine wpAny_pyNext_list_item st p.isList (x:=u) (by simpa using hu) λh' st' sb=>?_
  have I1:Inv X pins σ H { s with heap:=h' }:=I.turned (t':=s.toks) (λb o hb e=>(sb.2 b hb).trans e) f0 f1 f3 f4 f5;obtain⟨o,e,c,d⟩:=id st';exact⟨u,rfl,go_of (s:={ s with heap:=h' }) e c d (by decide) ⟨x,H,I1,ru,⟨rfl,λys hy=>by rw[I.list_inj hy hq];exact hx⟩,st',λb hb=>(hf b hb).1⟩⟩
 done:=by intro X hP hw hK hc i pins s σ H E I hf st hg;subst hP hw hK;obtain⟨xs,hq,hx⟩:=hg;obtain⟨its,rv,p,hz⟩:=I.list hq;obtain⟨f0,f1,f2,f3,f4,f5⟩:=hf it (by simp);have hl:=rv.length;exact wpAny_pyNext_list_end (I.ok.hd hc) st p.isList (by simp;lia) λh' eb=>⟨rfl,I.turned (t':=s.toks) (λb o hb e=>eb b o hb e) f0 f1 f3 f4 f5⟩
 self:=λ_ _ _ _ _ st h=>wpAny_pyIter_listiter st h
theorem zb4{P:Aj}{w:Ax}{K:W.Frag}{tg:Expr}(it:Addr)(lo:Int)(n:Nat):Turn P w K tg (Itr lo n) [it] it (λi h=>IsRangeIter h it (lo+(i:Nat)*1) ((n:Int)-(i:Nat)) 1) where
 mem:=by simp
 obj:=λi h st b hb=>by
  have e:b=it:=by simpa using hb
  subst e
  exact⟨_,st,λv z=>by
   have z':Data.fields _=Data.cell v:=z
   cases z'⟩
 keep:=λi h h' st k=>k it (by simp) _ st
 item:=by
  intro X hP hw hK hc i pins s σ H E I hf st hg;subst hP hw hK;obtain⟨f0,f1,f2,f3,f4,f5⟩:=hf it (by simp);have W:=Walks.range (prog:=X.prog) (w:=X.w) (I.ok.hd hc) it lo 1 n;refine W.item i s _ _ hg st λv h' tk hv st' kk=>?_
  obtain⟨t,rfl⟩:=hv;have I1:Inv X pins σ H { s with heap:=h',toks:=tk }:=I.turned (λb o hb e=>kk b o (by simpa using hb) e) f0 f1 f3 f4 f5;refine⟨_,rfl,go_of (s:={ s with heap:=h',toks:=tk }) (n:="range_iterator") st' rfl rfl (by decide) ⟨.int (lo+i),H,I1,⟨t,?_⟩,⟨rfl,rfl⟩,st',λb hb=>(hf b hb).1⟩⟩;rw[Int.mul_one]
 done:=by intro X hP hw hK hc i pins s σ H E I hf st hg;subst hP hw hK;obtain⟨f0,f1,f2,f3,f4,f5⟩:=hf it (by simp);exact wpAny_pyNext_range_end (I.ok.hd hc) st (by have:n<=i:=hg;lia) λh' eb=>⟨rfl,I.turned (t':=s.toks) (λb o hb e=>eb b o hb e) f0 f1 f3 f4 f5⟩
 self:=λ_ _ _ _ _ st h=>wpAny_pyIter_rangeiter st h
section
variable {X:Cx}{tg:Expr}
noncomputable def iList(K:W.Frag)(tl:TE):TI:=λσ H R=>tl σ H λx H1=>∃a,x=.ref a/\(∃xs,SqL K H1 a xs)/\R (Itl K a) H1
theorem za8{l:Expr}{tl:TE}(hl:PE X l tl):PI X tg l (iList X.K tl):=by
 intro pins s σ H R I h;refine thn (hl pins s σ H _ I h) λv s1 ⟨x,H1,I1,r1,q1⟩=>?_
 obtain⟨a,e,⟨xs,hq⟩,q⟩:=q1;subst e
 cases r1
 obtain⟨its,rv,p,hz⟩:=I1.list hq;refine wpAny_pyIter_list p.isList ?_
 refine⟨s1.heap.objs.size,[s1.heap.objs.size],_,_,H1,rfl,I1.kept (t':=s1.toks) λb o e=>Ae _ e,zdJ a _,⟨_,An _ rfl,rfl,rfl⟩,λb hb=>?_,q⟩;have e:b=s1.heap.objs.size:=by simpa using hb
 subst e;exact I1.fpOk (Ai _) (I1.hok.fresh (Ai _))
theorem zdj{pins:List (Addr × Obj)}{σ : St}{H:Hp}{s:Ab}{R:It -> Hp -> Prop}{E:Aa -> Ab -> Prop}{lo hi:Int}{t u v:Tok}{tk:Nat}(I:Inv X pins σ H s)(h1 : -(2 ^ 62) <= lo)(h2:lo < 2 ^ 62)(h3 : -(2 ^ 62) <= hi)(h4:hi < 2 ^ 62)
  (q:R (Itr lo (hi-lo).toNat) H):Ao (As X.prog X.w) X.A (pyIter (.ref s.heap.objs.size)) (PIE X pins σ tg R) E { s with heap:=s.heap.push { cls:=.type "range",data:=.fields #[.int lo t,.int hi u,.int 1 v] },toks:=tk }:=by
 refine wpAny_pyIter_range (IsRange.new ..) (small_one h1 h2 h3 h4) ?_
 have I1:Inv X pins σ H { s with heap:=s.heap.push { cls:=.type "range",data:=.fields #[.int lo t,.int hi u,.int 1 v] },toks:=tk }:=I.kept λb o e=>Ae _ e
 refine⟨(s.heap.push { cls:=.type "range",data:=.fields #[.int lo t,.int hi u,.int 1 v] }).objs.size,[(s.heap.push { cls:=.type "range",data:=.fields #[.int lo t,.int hi u,.int 1 v] }).objs.size],_,_,H,rfl,
  I1.kept (t':=tk) λb o e=>Ae _ e,zb4 _ lo (hi-lo).toNat,?_,λb hb=>?_,q⟩
 .have e1:lo+((0:Nat):Int)*1=lo:=by simp
  have e2:(((hi-lo).toNat:Nat):Int)-((0:Nat):Int)=AT lo hi 1:=by rw[rangeSize_one];split <;> lia
  show IsRangeIter _ _ (lo+((0:Nat):Int)*1) ((((hi-lo).toNat:Nat):Int)-((0:Nat):Int)) 1;rw[e1,e2];exact An _ rfl
 .have e:b=(s.heap.push { cls:=.type "range",data:=.fields #[.int lo t,.int hi u,.int 1 v] }).objs.size:=by simpa using hb
  subst e;exact I1.fpOk (Ai _) (I1.hok.fresh (Ai _))
noncomputable def iRng1(ta:TA):TI:=λσ H R=>ta σ H λvs H1=>∃j:Int,vs=[.int j]/\-(2 ^ 62)<=j/\j<2 ^ 62/\R (Itr 0 j.toNat) H1
noncomputable def iRng2(ta:TA):TI:=λσ H R=>ta σ H λvs H1=>∃i j:Int,vs=[.int i,.int j]/\(-(2 ^ 62)<=i/\i<2 ^ 62/\-(2 ^ 62)<=j/\j<2 ^ 62)/\R (Itr i (j-i).toNat) H1
theorem zbm {a:Expr}{ta:TA}{p pos:Pos}(hg:Gl X "range") (hm:X.mg "range" = none) (ha:PA X [a] ta) (hs:Ay [a] X.env=[(false,eval a X.env)]:=by rfl):PI X tg (.Call (.Name "range" p) [a] [] pos) (iRng1 ta):=by
 intro pins s σ H R I h;refine Call_ (zbf I hg hm boot_range (AM (thn (ha pos pins s σ H _ I h) λus s1 ⟨vs,H1,I1,r1,q1⟩=>?_) hs rfl));obtain⟨j,e,q1,q2,q⟩:=q1;subst e
 cases r1 with
 |cons r rr =>
  cases rr
  obtain⟨t,rfl⟩:=r;exact call_range_1 (zdj I1 (by lia) (by lia) q1 q2 (by simpa using q))
theorem zd0 {a b:Expr}{ta:TA}{p pos:Pos}(hg:Gl X "range") (hm:X.mg "range" = none) (ha:PA X [a, b] ta) (hs:Ay [a, b] X.env = [(false, eval a X.env), (false, eval b X.env)] := by rfl) (hs2:Ay [b] X.env = [(false, eval b X.env)] := by rfl) :
  PI X tg (.Call (.Name "range" p) [a,b] [] pos) (iRng2 ta):=by
 intro pins s σ H R I h;refine Call_ (zbf I hg hm boot_range (AM (thn (ha pos pins s σ H _ I h) λus s1 ⟨vs,H1,I1,r1,q1⟩=>?_) (by rw[hs,hs2]) (by rw[hs2];rfl)));obtain⟨i,j,e,⟨q1,q2,q3,q4⟩,q⟩:=q1;subst e
 cases r1 with
 |cons r rr =>
  cases rr with
  |cons r' rr =>
   cases rr
   obtain⟨t,rfl⟩:=r;obtain⟨t',rfl⟩:=r';exact call_range_2 (zdj I1 q1 q2 q3 q4 q)
noncomputable def tFor(wi:TI)(g:TG)(tb:TS):TS:=λD σ H=>wi σ H λJ H1=>∃W:Nat->Nat->St->Hp->Prop,(∃m,W 0 m σ H1)/\∀i m σ H,W i m σ H ->
 (J.stop i H/\D.nx σ H)∨(J.go i H/\∃N:St->Hp->Prop,(∀ σ' H',N σ' H'->∃m',m'<m/\W (i+1) m' σ' H')/\∀x H',J.yld i H x H'->g x σ H' λσ2 H2=>tb { D with nx:=N,ct:=N,bk:=D.nx } σ2 H2)
noncomputable def zcH(fp:List Addr)(h:Heap):List (Addr×Obj):=fp.filterMap λb=>(h.get? b).map λo=>(b,o)
theorem zbc{fp:List Addr}{h:Heap}{b:Addr}{o:Obj}(hb:b∈fp)(e:h.get? b=some o):(b,o)∈zcH fp h:=List.mem_filterMap.mpr ⟨b,hb,by rw[e];rfl⟩
theorem zea{fp:List Addr}{h:Heap}{p:Addr×Obj}(hp:p∈zcH fp h):p.1∈fp/\h.get? p.1=some p.2:=by
 obtain⟨b,hb,e⟩:=List.mem_filterMap.mp hp
 cases q:h.get? b with
 |none=>rw[q]at e;cases e
 |some o =>
  rw[q]at e;have e':(b,o)=p:=AX e;subst e';exact⟨hb,q⟩
theorem Inv.pinned{pins:List (Addr×Obj)}{σ:St}{H:Hp}{s:Ab}{fp:List Addr}(I:Inv X pins σ H s)(hf:∀b∈fp,FpOk X pins H b)(ho:∀b∈fp,∃o,s.heap.get? b=some o/\∀v,o.data≠.cell v):Inv X (pins++zcH fp s.heap) σ H s :=
 I.pins_of λp hp=>(B6.mp hp).elim (λz=>I.pin p (AF _ z)) λz=>by obtain⟨hb,e⟩:=zea z;obtain⟨f0,f1,f2,_⟩:=hf p.1 hb;obtain⟨o,e',d⟩:=ho p.1 hb;rw[e]at e';cases e';exact⟨e,f0,f1,f2,d⟩
theorem Inv.unpinned{pins pl:List (Addr×Obj)}{σ:St}{H:Hp}{s:Ab}(I:Inv X (pins++pl) σ H s):Inv X pins σ H s:=I.pins_of λp hp=>I.pin p (AF _ (List.mem_append_left _ hp))
theorem zbP{iter:Expr}{body:List Stmt}{wi:TI}{g:TG}{tb:TS}{pos:Pos}(hp:PassesOwn (As X.prog X.w) X.A X.env X.xe)(hc:X.calm=true)(hi:PI X tg iter wi)(hg:PG X tg g)(hb:PSs X body tb)
  (hs:∀x,foldedSetIterable iter X.env x=pure x:=by intro _;rfl):PS X (.For tg iter body [] pos) (tFor wi g tb):=by
 intro pins s σ H D I h;refine wpAny_For (thn (hi pins s σ H _ I h) λv s1 h1=>thn h1 λitv s2 h2=>?_) hs;obtain⟨it,fp,tn,J,H2,e,I2,T,st2,f2,W,⟨m0,w0⟩,turn⟩:=h2;subst e;have stat:∀{H':Hp},(∀b∈fp,H' b=none)->∀b∈fp,FpOk X pins H' b:=λhn b hb=>⟨hn b hb,(f2 b hb).2⟩
 refine codeAny_forLoop_any (λn s'=>∃i σ' H',Inv X pins σ' H' s'/\tn i s'.heap/\(∀b∈fp,H' b=none)/\W i n σ' H') ?_ m0 ⟨0,σ,H2,I2,st2,λb hb=>(f2 b hb).1,w0⟩;rintro n s3 ⟨i,σ3,H3,I3,st3,fr3,w3⟩;rcases turn i n σ3 H3 w3 with⟨stop,qn⟩ |⟨go,N,hN,step⟩
 .refine BW hp (thn (T.done X rfl rfl rfl hc i pins s3 σ3 H3 X.xe I3 (stat fr3) st3 stop) λr s4 ⟨hr,I4⟩=>?_);subst hr;exact wpAny_execs_nil ⟨σ3,H3,I4,qn⟩
 .refine BW hp (thn (T.item X rfl rfl rfl hc i pins s3 σ3 H3 X.xe I3 (stat fr3) st3 go) λr s4 ⟨u,hr,h4⟩=>?_);subst hr;refine BW hp (thn h4 λ_ s5 ⟨x,H5,I5,r5,y5,st5,fr5⟩=>?_);have I5':=I5.pinned (stat fr5) (T.obj _ _ st5);refine BW hp (thn (hg _ s5 σ3 H5 x u _ I5' r5 (step x H5 y5)) λ_ s6 ⟨σ6,H6,I6,q6⟩=>?_);refine BW hp (thn (hb _ s6 σ6 H6 _ I6 q6) λf s7 q7=>?_)
  have again:∀{σ7:St} {H7:Hp},Inv X (pins++zcH fp s5.heap) σ7 H7 s7->N σ7 H7->∃m,m<n/\∃i σ' H',Inv X pins σ' H' s7/\tn i s7.heap/\(∀b∈fp,H' b=none)/\W i m σ' H':=λ{σ7 H7} I7 n7=>by obtain⟨m',hm,w7⟩:=hN σ7 H7 n7;refine⟨m',hm,i+1,σ7,H7,I7.unpinned,T.keep _ _ _ st5 λb hb o e=>(I7.pin (b,o) (AF _ (AF _ (zbc hb e)))).1,λb hb=>?_,w7⟩;obtain⟨o,e,d⟩:=T.obj _ _ st5 b hb;exact (I7.pin (b,o) (AF _ (AF _ (zbc hb e)))).2.1
  cases f with
  |next=>obtain⟨σ7,H7,I7,n7⟩:=q7;exact again I7 n7
  |cont=>obtain⟨σ7,H7,I7,n7⟩:=q7;exact again I7 n7
  |brk=>obtain⟨σ7,H7,I7,q7⟩:=q7;exact⟨σ7,H7,I7.unpinned,q7⟩
  |ret v=>obtain⟨x7,σ7,H7,I7,r7,q7⟩:=q7;exact⟨x7,σ7,H7,I7.unpinned,r7,q7⟩
end
theorem zbq{K:W.Frag}{a:Addr}{xs:List V}{g:TG}{tb:TS}{D:Ends}{σ : St}{H:Hp}(Pv:Nat -> St -> Hp -> Prop)(h0:Pv 0 σ H)(hl:∀i σ H, i <= xs.length -> Pv i σ H -> SqL K H a xs)
  (hs:∀i x σ H,xs[i]?=some x->Pv i σ H->g x σ H λσ2 H2=>tb { D with nx:=Pv (i+1),ct:=Pv (i+1),bk:=D.nx } σ2 H2) (hd:∀ σ H,Pv xs.length σ H->D.nx σ H) :
  ∃W:Nat->Nat->St->Hp->Prop,(∃m,W 0 m σ H)/\∀i m σ H,W i m σ H ->
   ((Itl K a).stop i H/\D.nx σ H)∨((Itl K a).go i H/\∃N:St->Hp->Prop,(∀ σ' H',N σ' H'->∃m',m'<m/\W (i+1) m' σ' H')/\∀x H',(Itl K a).yld i H x H'->g x σ H' λσ2 H2=>tb { D with nx:=N,ct:=N,bk:=D.nx } σ2 H2):=by
 refine⟨λi m σ H=>m=xs.length-i/\i<=xs.length/\Pv i σ H,⟨xs.length,by simp,AZ _,h0⟩,?_⟩;rintro i m σ H ⟨rfl,hi,p⟩;have q:=hl i σ H hi p
 by_cases hlt:i<xs.length
 .refine .inr ⟨⟨xs,xs[i],q,by simp[hlt]⟩,Pv (i+1),λσ' H' p'=>⟨xs.length-(i+1),by lia,rfl,hlt,p'⟩,λx H' y=>?_⟩;obtain⟨e,y⟩:=y;subst e;exact hs i x σ _ (y xs q) p
 .have e:i=xs.length:=by lia
  subst e;exact .inl ⟨⟨xs,q,Ai _⟩,hd σ H p⟩
theorem zaQ{lo:Int}{n:Nat}{g:TG}{tb:TS}{D:Ends}{σ : St}{H:Hp}(Pv:Nat -> St -> Hp -> Prop)(h0:Pv 0 σ H)
  (hs:∀i σ H,i<n->Pv i σ H->g (.int (lo+i)) σ H λσ2 H2=>tb { D with nx:=Pv (i+1),ct:=Pv (i+1),bk:=D.nx } σ2 H2) (hd:∀ σ H,Pv n σ H->D.nx σ H) :
  ∃W:Nat->Nat->St->Hp->Prop,(∃m,W 0 m σ H)/\∀i m σ H,W i m σ H ->
   ((Itr lo n).stop i H/\D.nx σ H)∨((Itr lo n).go i H/\∃N:St->Hp->Prop,(∀ σ' H',N σ' H'->∃m',m'<m/\W (i+1) m' σ' H')/\∀x H',(Itr lo n).yld i H x H'->g x σ H' λσ2 H2=>tb { D with nx:=N,ct:=N,bk:=D.nx } σ2 H2):=by
 refine⟨λi m σ H=>m=n-i/\i<=n/\Pv i σ H,⟨n,by simp,AZ _,h0⟩,?_⟩;rintro i m σ H ⟨rfl,hi,p⟩
 by_cases hlt:i<n
 .refine .inr ⟨hlt,Pv (i+1),λσ' H' p'=>⟨n-(i+1),by lia,rfl,hlt,p'⟩,λx H' y=>?_⟩;obtain⟨e,y⟩:=y;subst e y;exact hs i σ _ hlt p
 .have e:i=n:=by lia
  subst e;exact .inl ⟨Ai _,hd σ H p⟩
noncomputable abbrev R2:=V->V->Hp->VK->Prop
noncomputable def OpR(X:Cx)(f:Aa->Aa->Sem Aa)(r:R2):Prop :=
 ∀(pins:List (Addr×Obj)) (s:Ab) (σ:St) (H:Hp) (x y:V) (v u:Aa) (Q:VK),Inv X pins σ H s->RelV x v->RelV y u->r x y H Q ->
  Ao (As X.prog X.w) X.A (f v u) (EP X pins σ Q) X.xe s
noncomputable def UnR(X:Cx)(f:Aa->Sem Aa)(r:V->Hp->VK->Prop):Prop :=
 ∀(pins:List (Addr×Obj)) (s:Ab) (σ:St) (H:Hp) (x:V) (v:Aa) (Q:VK),Inv X pins σ H s->RelV x v->r x H Q ->
  Ao (As X.prog X.w) X.A (f v) (EP X pins σ Q) X.xe s
noncomputable def CallR(X:Cx)(f:Aa)(r:List V->Hp->VK->Prop):Prop :=
 ∀(pins:List (Addr×Obj)) (s:Ab) (σ:St) (H:Hp) (xs:List V) (us:List Aa) (Q:VK),Inv X pins σ H s->Vals xs us->r xs H Q ->
  Ao (As X.prog X.w) X.A (call f us) (EP X pins σ Q) X.xe s
noncomputable def TruR(X:Cx)(r:V->Hp->(Bool->Hp->Prop)->Prop):Prop :=
 ∀(pins:List (Addr×Obj)) (s:Ab) (σ:St) (H:Hp) (x:V) (v:Aa) (Q:Bool->Hp->Prop),Inv X pins σ H s->RelV x v->r x H Q ->
  Ao (As X.prog X.w) X.A (truthy v) (TP X pins σ Q) X.xe s
noncomputable def tOp(r:R2)(ta tb:TE):TE:=λσ H Q=>ta σ H λx H1=>tb σ H1 λy H2=>r x y H2 Q
noncomputable def tUn(r:V->Hp->VK->Prop)(ta:TE):TE:=λσ H Q=>ta σ H λx H1=>r x H1 Q
noncomputable def rI(C:Int->Int->Prop)(g:Int->Int->V):R2:=λx y H Q=>∃i j,x=.int i/\y=.int j/\C i j/\Q (g i j) H
noncomputable def rI0(g:Int->Int->V):R2:=λx y H Q=>∃i j,x=.int i/\y=.int j/\Q (g i j) H
noncomputable def rU(g:Int->V):V->Hp->VK->Prop:=λx H Q=>∃i,x=.int i/\Q (g i) H
section
variable {X:Cx}{a b c:Expr}{ta tb tc:TE}{pos:Pos}
theorem binT(ha:PE X a ta)(hb:PE X b tb){pins:List (Addr × Obj)}{s:Ab}{σ : St}{H:Hp}{R:V -> V -> Hp -> Prop}(I:Inv X pins σ H s)
  (h:ta σ H λx H1=>tb σ H1 λy H2=>R x y H2) {Q:Aa->Ab->Prop} {f:Aa->Aa->Sem Aa}
  (hf:∀v u s2 x y H2,Inv X pins σ H2 s2->RelV x v->RelV y u->R x y H2->Ao (As X.prog X.w) X.A (f v u) Q X.xe s2) :
  Ao (As X.prog X.w) X.A (eval a X.env) (λv s₁=>Ao (As X.prog X.w) X.A (eval b X.env) (λu s₂=>Ao (As X.prog X.w) X.A (f v u) Q X.xe s₂) X.xe s₁) X.xe s:=by
 refine thn (ha pins s σ H _ I h) λv s1 ⟨x,H1,I1,r1,q1⟩=>?_
 refine thn (hb pins s1 σ H1 _ I1 q1) λu s2 ⟨y,H2,I2,r2,q2⟩=>?_
 exact hf v u s2 x y H2 I2 r1 r2 q2
theorem pe_op{op:Operator}{r:R2}(ho:OpR X (BS op) r)(ha:PE X a ta)(hb:PE X b tb):PE X (.BinOp a op b pos) (tOp r ta tb):=by intro pins s σ H Q I h;exact wpAny_BinOp (binT ha hb I h λv u s2 x y H2 I2 rx ry q=>ho pins s2 σ H2 x y v u Q I2 rx ry q)
theorem pe_un{op:UnaryOp}{r:V->Hp->VK->Prop}(ho:UnR X (unaryOp op) r)(ha:PE X a ta):PE X (.UnaryOp op a pos) (tUn r ta):=by intro pins s σ H Q I h;exact UnaryOp_ (thn (ha pins s σ H _ I h) λv s1 ⟨x,H1,I1,r1,q1⟩=>ho pins s1 σ H1 x v Q I1 r1 q1)
theorem opI{f:Aa -> Aa -> Sem Aa}{C:Int -> Int -> Prop}{g:Int -> Int -> Int}
  (rule:∀(i j:Int) (t u:Tok) (s:Ab) (Q:Aa->Ab->Prop) (E:Aa->Ab->Prop),C i j->Q (.int (g i j) s.toks) { s with toks:=s.toks+1 }->Ao (As X.prog X.w) X.A (f (.int i t) (.int j u)) Q E s) :
  OpR X f (rI C λi j=>.int (g i j)):=by
 intro pins s σ H x y v u Q I rx ry h;obtain⟨i,j,rfl,rfl,hc,q⟩:=h;obtain⟨t,rfl⟩:=rx;obtain⟨t',rfl⟩:=ry;exact rule i j t t' s _ _ hc ⟨.int (g i j),H,I.tok _,⟨_,rfl⟩,q⟩
theorem opI0{f:Aa -> Aa -> Sem Aa}{g:Int -> Int -> Int}
  (rule:∀(i j:Int) (t u:Tok) (s:Ab) (Q:Aa->Ab->Prop) (E:Aa->Ab->Prop),Q (.int (g i j) s.toks) { s with toks:=s.toks+1 }->Ao (As X.prog X.w) X.A (f (.int i t) (.int j u)) Q E s) :
  OpR X f (rI0 λi j=>.int (g i j)):=by
 intro pins s σ H x y v u Q I rx ry h;obtain⟨i,j,rfl,rfl,q⟩:=h;obtain⟨t,rfl⟩:=rx;obtain⟨t',rfl⟩:=ry;exact rule i j t t' s _ _ ⟨.int (g i j),H,I.tok _,⟨_,rfl⟩,q⟩
theorem opB0{f:Aa -> Aa -> Sem Aa}{g:Int -> Int -> Bool}
  (rule:∀(i j:Int) (t u:Tok) (s:Ab) (Q:Aa->Ab->Prop) (E:Aa->Ab->Prop),Q (.bool (g i j)) s->Ao (As X.prog X.w) X.A (f (.int i t) (.int j u)) Q E s) :
  OpR X f (rI0 λi j=>.bl (g i j)):=by
 intro pins s σ H x y v u Q I rx ry h;obtain⟨i,j,rfl,rfl,q⟩:=h;obtain⟨t,rfl⟩:=rx;obtain⟨t',rfl⟩:=ry;exact rule i j t t' s _ _ ⟨.bl (g i j),H,I,rfl,q⟩
noncomputable def CDiv(i j:Int):Prop:=0<j/\j<1073741824
noncomputable def CPow(i j:Int):Prop:=0<=j/\j<=1000000/\i.natAbs<2 ^ 64
noncomputable def CMul(i j:Int):Prop:=(-(2 ^ 64)<i/\i<2 ^ 64)∨(-(2 ^ 64)<j/\j<2 ^ 64)
theorem CMul.ok{i j:Int}(h:CMul i j):IntMulOk i j:=by
 rcases h with⟨h1,h2⟩ |⟨h1,h2⟩
 .exact .of_left (intBits_le_64 h1 h2)
 .exact .of_right (intBits_le_64 h1 h2)
theorem zaE:OpR X (BS .Add) (rI0 λi j=>.int (i+j)):=opI0 λ_ _ _ _ _ _ _ q=>add_int q
theorem zbo:OpR X (BS .Sub) (rI0 λi j=>.int (i-j)):=opI0 λ_ _ _ _ _ _ _ q=>sub_int q
theorem zb7:OpR X (BS .Mult) (rI CMul λi j=>.int (i*j)):=opI λ_ _ _ _ _ _ _ hc q=>mul_int q hc.ok
theorem zc4:OpR X (BS .FloorDiv) (rI CDiv λi j=>.int (i / j)):=opI λi j _ _ _ _ _ hc q=>by have h1:(0:Int)<j:=hc.1;have h2:j<1073741824:=hc.2;exact floordiv_int (by lia) (by rw[Int.fdiv_eq_ediv_of_nonneg i (by lia)];exact q) (.inl (PyProof.noPylong_small (by lia)))
theorem zaK:OpR X (BS .Mod) (rI (λ_ j=>0<j) λi j=>.int (i % j)):=opI λi j _ _ _ _ _ hc q=>by have h1:(0:Int)<j:=hc;exact mod_int' (by lia) (by rw[Int.fmod_eq_emod_of_nonneg i (by lia)];exact q)
theorem zd6:OpR X (BS .Pow) (rI CPow λi j=>.int (i ^ j.toNat)):=opI λ_ _ _ _ _ _ _ hc q=>pow_int_small hc.1 hc.2.1 hc.2.2 q
theorem unI{f:Aa -> Sem Aa}{g:Int -> Int}
  (rule:∀(i:Int) (t:Tok) (s:Ab) (Q:Aa->Ab->Prop) (E:Aa->Ab->Prop),Q (.int (g i) s.toks) { s with toks:=s.toks+1 }->Ao (As X.prog X.w) X.A (f (.int i t)) Q E s) :
  UnR X f (rU λi=>.int (g i)):=by
 intro pins s σ H x v Q I rx h;obtain⟨i,rfl,q⟩:=h;obtain⟨t,rfl⟩:=rx;exact rule i t s _ _ ⟨.int (g i),H,I.tok _,⟨_,rfl⟩,q⟩
theorem zdH:UnR X (unaryOp .USub) (rU λi=>.int (-i)):=unI λ_ _ _ _ _ q=>neg_int q
end
noncomputable def scal:V->V->Bool
 |.non,.non=>true |.non,.int _=>true |.int _,.non=>true |.non,.bl _=>true |.bl _,.non=>true |.non,.str _=>true |.str _,.non=>true
 |.int _,.int _=>true |.bl _,.bl _=>true |.str _,.str _=>true |.byt _,.byt _=>true
 |.int _,.str _=>true |.str _,.int _=>true |.bl _,.str _=>true |.str _,.bl _=>true
 |_,_=>false
noncomputable def rEq:R2:=λx y H Q=>scal x y=true/\Q (.bl (decide (x=y))) H
noncomputable def rNe:R2:=λx y H Q=>scal x y=true/\Q (.bl (!decide (x=y))) H
theorem zep{i j:Int}:decide (V.int i=V.int j)=(i == j):=by rw[Bool.eq_iff_iff];simp
theorem zfe{i j:Bool}:decide (V.bl i=V.bl j)=(i == j):=by rw[Bool.eq_iff_iff];simp
theorem zeo{i j:Str}:decide (V.str i=V.str j)=(i == j):=by rw[Bool.eq_iff_iff];simp
theorem zeq{i j:Array UInt8}:decide (V.byt i=V.byt j)=(i.toList == j.toList):=by
 rw[Bool.eq_iff_iff]
 cases i
 cases j
 simp
section
variable {X:Cx}{a b c:Expr}{ta tb tc:TE}{pos:Pos}
theorem zao{pins:List (Addr×Obj)}{σ:St}{H:Hp}{s:Ab}{Q:VK}{k k':Bool}(I:Inv X pins σ H s)(q:Q (.bl k) H)(e:k=k'):EP X pins σ Q (.bool k') s:=by subst e;exact⟨.bl k,H,I,rfl,q⟩
theorem op_eq:OpR X (Bf .Eq) rEq:=by
 intro pins s σ H x y v u Q I rx ry h;obtain⟨hs,q⟩:=h
 cases x with
 |non =>
  cases rx
  cases y with
  |non=>cases ry;exact PySem.EqNone.eq_none_none (zao I q (by simp))
  |bl j=>cases ry;exact PySem.EqNone.eq_none_bool (zao I q (by simp))
  |int j=>obtain⟨t',rfl⟩:=ry;exact PySem.EqNone.eq_none_int (zao I q (by simp))
  |str j=>obtain⟨t',rfl⟩:=ry;exact PySem.EqNone.eq_none_str (zao I q (by simp))
  |_=>exact absurd (show false=true from hs) Aw
 |bl i =>
  cases rx
  cases y with
  |non=>cases ry;exact PySem.EqNone.eq_bool_none (zao I q (by simp))
  |bl j=>cases ry;exact eq_bool (zao I q zfe)
  |str j=>obtain⟨t',rfl⟩:=ry;exact PySem.EqMixed.eq_bool_str (zao I q (by simp))
  |_=>exact absurd (show false=true from hs) Aw
 |int i =>
  obtain⟨t,rfl⟩:=rx
  cases y with
  |non=>cases ry;exact PySem.EqNone.eq_int_none (zao I q (by simp))
  |int j=>obtain⟨t',rfl⟩:=ry;exact eq_int (zao I q zep)
  |str j=>obtain⟨t',rfl⟩:=ry;exact PySem.EqMixed.eq_int_str (zao I q (by simp))
  |_=>exact absurd (show false=true from hs) Aw
 |str i =>
  obtain⟨t,rfl⟩:=rx
  cases y with
  |non=>cases ry;exact PySem.EqNone.eq_str_none (zao I q (by simp))
  |bl j=>cases ry;exact PySem.EqMixed.eq_str_bool (zao I q (by simp))
  |int j=>obtain⟨t',rfl⟩:=ry;exact PySem.EqMixed.eq_str_int (zao I q (by simp))
  |str j=>obtain⟨t',rfl⟩:=ry;exact eq_str (zao I q zeo)
  |_=>exact absurd (show false=true from hs) Aw
 |byt i =>
  obtain⟨t,rfl⟩:=rx
  cases y with
  |byt j=>obtain⟨t',rfl⟩:=ry;exact W.eq_bytes (zao I q zeq)
  |_=>exact absurd (show false=true from hs) Aw
 |_=>cases y <;> exact absurd (show false=true from hs) Aw
theorem op_ne:OpR X (Bf .NotEq) rNe:=by
 intro pins s σ H x y v u Q I rx ry h;obtain⟨hs,q⟩:=h
 cases x with
 |non =>
  cases rx
  cases y with
  |non=>cases ry;exact PySem.EqNone.ne_none_none (zao I q (by simp))
  |bl j=>cases ry;exact PySem.EqNone.ne_none_bool (zao I q (by simp))
  |int j=>obtain⟨t',rfl⟩:=ry;exact PySem.EqNone.ne_none_int (zao I q (by simp))
  |str j=>obtain⟨t',rfl⟩:=ry;exact PySem.EqNone.ne_none_str (zao I q (by simp))
  |_=>exact absurd (show false=true from hs) Aw
 |bl i =>
  cases rx
  cases y with
  |non=>cases ry;exact PySem.EqNone.ne_bool_none (zao I q (by simp))
  |bl j=>cases ry;exact ne_bool (zao I q (congrArg not zfe))
  |str j=>obtain⟨t',rfl⟩:=ry;exact PySem.EqMixed.ne_bool_str (zao I q (by simp))
  |_=>exact absurd (show false=true from hs) Aw
 |int i =>
  obtain⟨t,rfl⟩:=rx
  cases y with
  |non=>cases ry;exact PySem.EqNone.ne_int_none (zao I q (by simp))
  |int j=>obtain⟨t',rfl⟩:=ry;exact ne_int (zao I q (congrArg not zep))
  |str j=>obtain⟨t',rfl⟩:=ry;exact PySem.EqMixed.ne_int_str (zao I q (by simp))
  |_=>exact absurd (show false=true from hs) Aw
 |str i =>
  obtain⟨t,rfl⟩:=rx
  cases y with
  |non=>cases ry;exact PySem.EqNone.ne_str_none (zao I q (by simp))
  |bl j=>cases ry;exact PySem.EqMixed.ne_str_bool (zao I q (by simp))
  |int j=>obtain⟨t',rfl⟩:=ry;exact PySem.EqMixed.ne_str_int (zao I q (by simp))
  |str j=>obtain⟨t',rfl⟩:=ry;exact ne_str (zao I q (congrArg not zeo))
  |_=>exact absurd (show false=true from hs) Aw
 |byt i =>
  obtain⟨t,rfl⟩:=rx
  cases y with
  |byt j=>obtain⟨t',rfl⟩:=ry;exact W.ne_bytes (zao I q (congrArg not zeq))
  |_=>exact absurd (show false=true from hs) Aw
 |_=>cases y <;> exact absurd (show false=true from hs) Aw
theorem op_lt:OpR X (Bf .Lt) (rI0 λi j=>.bl (decide (i<j))):=opB0 λ_ _ _ _ _ _ _ q=>lt_int q
theorem op_le:OpR X (Bf .LtE) (rI0 λi j=>.bl (decide (i<=j))):=opB0 λ_ _ _ _ _ _ _ q=>le_int q
theorem op_gt:OpR X (Bf .Gt) (rI0 λi j=>.bl (decide (j<i))):=opB0 λ_ _ _ _ _ _ _ q=>gt_int q
theorem op_ge:OpR X (Bf .GtE) (rI0 λi j=>.bl (decide (j<=i))):=opB0 λ_ _ _ _ _ _ _ q=>ge_int q
theorem zaL(b:Expr){op:CmpOp}(h:op≠.In:=by decide)(h2:op≠.NotIn:=by decide):behindInMarks op b=false:=by
 have e1:(op == CmpOp.In)=false:=by cases op <;> first |rfl |exact absurd rfl h
 have e2:(op == CmpOp.NotIn)=false:=by cases op <;> first |rfl |exact absurd rfl h2
 cases b <;> simp[behindInMarks,e1,e2]
noncomputable def tTest(t:TE):TT:=λσ H Q=>t σ H λx H'=>∃k,x=.bl k/\Q k H'
theorem zau{op:CmpOp}{r:R2}(ho:OpR X (Bf op) r)(ha:PE X a ta)(hb:PE X b tb)(hm:behindInMarks op b=false):PT X (.Compare a [op] [b] pos) (tTest (tOp r ta tb)):=by
 intro pins s σ H Q I h
 refine wpAny_isTrue_Compare1 (thn (ha pins s σ H _ I h) λv s1 ⟨x,H1,I1,r1,q1⟩=>thn (hb pins s1 σ H1 _ I1 q1) λu s2 ⟨y,H2,I2,r2,q2⟩ =>
  thn (ho pins s2 σ H2 x y v u _ I2 r1 r2 q2) λc s3 ⟨z,H3,I3,r3,k,e,q3⟩=>?_) hm
 subst e
 cases r3
 exact Bl ⟨H3,I3,q3⟩
noncomputable def TruV(K:W.Frag)(x:V)(H:Hp)(k:Bool):Prop :=
 match x with
 |.non=>k=false
 |.bl b=>k=b
 |.int i=>k=(i != 0)
 |.str y=>y.length<=sizeLine/\k=((y.length:Int) != 0)
 |.byt y=>y.size<=sizeLine/\k=((y.size:Int) != 0)
 |.ref p=>(∃xs,SqL K H p xs/\k=!xs.isEmpty)∨(∃xs,SqT K H p xs/\k=!xs.isEmpty)∨∃kvs,H p=some (.dK kvs)/\k=!kvs.isEmpty
 |_=>False
theorem zdC{κ:Type}{kvs:List (κ×V)}{vs:List (κ×Aa)}(r:KV kvs vs):(!vs.isEmpty)=!kvs.isEmpty:=by
 cases r <;> rfl
theorem zcb{xs:List V}{its:List Aa}(r:Vals xs its):(!its.toArray.isEmpty)=!xs.isEmpty:=by
 cases r <;> simp
theorem zcL:(sizeLine:Nat)<2 ^ 63:=by rw[sizeLine_eq];decide
theorem zfN:TruR X (λx H Q=>∃k,TruV X.K x H k/\Q k H):=by
 intro pins s σ H x v Q I rx h;obtain⟨k,e,q⟩:=h;have hl:=zcL;have hs:sizeLine=16777216:=sizeLine_eq
 cases x with
 |non =>
  cases rx
  have e':k=false:=e;subst e';exact truthy_none ⟨H,I,q⟩
 |bl b =>
  cases rx
  have e':k=b:=e;subst e';exact Bl ⟨H,I,q⟩
 |int i =>
  obtain⟨t,rfl⟩:=rx;have e':k=(i != 0):=e;subst e';exact PySem.P.truthy_int ⟨H,I,q⟩
 |str y =>
  obtain⟨t,rfl⟩:=rx;obtain⟨hy,e'⟩:y.length<=sizeLine/\k=((y.length:Int) != 0):=e;subst e';exact PySem.P.truthy_str (by lia) ⟨H,I.tok _,q⟩
 |byt y =>
  obtain⟨t,rfl⟩:=rx;obtain⟨hy,e'⟩:y.size<=sizeLine/\k=((y.size:Int) != 0):=e;subst e';exact W.truthy_bytes (by lia) ⟨H,I.tok _,q⟩
 |ref p =>
  cases rx
  have e':(∃xs,SqL X.K H p xs/\k=!xs.isEmpty)∨(∃xs,SqT X.K H p xs/\k=!xs.isEmpty)∨∃kvs,H p=some (.dK kvs)/\k=!kvs.isEmpty:=e;rcases e' with⟨xs,hx,e'⟩ |⟨xs,hx,e'⟩ |⟨kvs,hx,e'⟩
  .subst e';obtain⟨its,r,pl,hz⟩:=I.list hx;have hlen:=r.length;exact wpAny_truthy_list pl.isList (by simp only[Ar];lia) ⟨H,I.tok _,by rw[zcb r];exact q⟩
  .subst e';obtain⟨its,r,pl,hz⟩:=I.tuple hx;have hlen:=r.length;exact truthy_tuple pl (by simp only[Ar];lia) ⟨H,I.tok _,by rw[zcb r];exact q⟩
  .subst e';obtain⟨hz,hS,vs,r,m⟩:kvs.length<=sizeLine/\(p == Bu)=false/\∃vs,KV kvs vs/\s.heap.DictOf (zaz X.prog X.w) p vs:=I.hok p _ hx;have hlen:kvs.length=vs.length:=Paired.length r;exact wpAny_truthy_dict hS m (by lia) ⟨H,I.tok _,by rw[zdC r];exact q⟩
 |_=>exact (show False from e).elim
theorem zeE(ha:PE X a ta)(he:∀whole, isTrue a X.env whole=(do let v <- whole; standAt a.pos; holding [v] (truthy v))) :
  PT X a (λσ H Q=>ta σ H λx H'=>∃k,TruV X.K x H' k/\Q k H'):=by
 intro pins s σ H Q I h;exact isTrue_plain (thn (ha pins s σ H _ I h) λv s1 ⟨x,H1,I1,r1,q1⟩=>zfN pins s1 σ H1 x v Q I1 r1 q1) (he _)
theorem vals1{x:V}{us:List Aa}(r:Vals [x] us):∃u,us=[u]/\RelV x u:=by
 cases r with
 |cons r1 r2=>cases r2;exact⟨_,rfl,r1⟩
theorem vals2{x y:V}{us:List Aa}(r:Vals [x,y] us):∃u w',us=[u,w']/\RelV x u/\RelV y w':=by
 cases r with
 |cons r1 r2 =>
  cases r2 with
  |cons r3 r4=>cases r4;exact⟨_,_,rfl,r1,r3⟩
theorem zdx:CallR X (.builtin "abs") (λxs H Q=>∃i,xs=[.int i]/\Q (.int (if i<0 then -i else i)) H):=by intro pins s σ H xs us Q I r h;obtain⟨i,rfl,q⟩:=h;obtain⟨u,rfl,t,rfl⟩:=vals1 r;exact call_abs_int λu tk=>⟨.int (if i<0 then -i else i),H,I.tok _,⟨_,rfl⟩,q⟩
theorem zex:CallR X (.type "int") (λxs H Q=>(∃i,xs=[.int i]/\Q (.int i) H)∨∃k,xs=[.bl k]/\Q (.int (if k then 1 else 0)) H):=by
 intro pins s σ H xs us Q I r h;rcases h with⟨i,rfl,q⟩ |⟨k,rfl,q⟩
 .obtain⟨u,rfl,t,rfl⟩:=vals1 r;exact call_int_int ⟨.int i,H,I,⟨_,rfl⟩,q⟩
 .obtain⟨u,rfl,r1⟩:=vals1 r
  cases r1
  exact call_int_bool ⟨.int (if k then 1 else 0),H,I.tok _,⟨_,rfl⟩,q⟩
theorem zbE:CallR X (.type "str") (λxs H Q=>∃i,xs=[.int i]/\i.natAbs.log2<1920/\Q (.str (toString i)) H):=by intro pins s σ H xs us Q I r h;obtain⟨i,rfl,hz,q⟩:=h;obtain⟨u,rfl,t,rfl⟩:=vals1 r;exact PySem.P.str_of_int hz ⟨.str _,H,I.tok _,⟨_,rfl⟩,q⟩
end
structure ObjM (h:Heap) (x dx C:Addr) (mA:Str->Option Aa):Prop where
 obj:h.get? x=some (W.instObj C dx)
 ns:h.Ns1 dx mA
 ne:dx≠x
theorem zeh{h:Heap}{dx:Addr}{mA:Str->Option Aa}(n:h.Ns1 dx mA):∃od,h.get? dx=some od/\∀name,W.lookIn name od=some (mA name):=by
 obtain⟨o,es,ep,ho,hd,hk,_,hm⟩:=n;refine⟨o,ho,λname=>?_⟩;have e:=hm name;unfold nsFind findBy at e;rw[<- Array.find?_toList]at e;unfold W.lookIn;rw[hd];dsimp only;split
 .rename_i y q
  rw[q]at e;exact congrArg some e
 .rename_i q
  rw[q]at e
  have a:es.toList.any (·.refKey)=false:=by rw[List.any_eq_false];intro y hy;obtain⟨z,t,hkey⟩:=hk y (Array.mem_toList_iff.mp hy);simp[DictEntry.refKey,hkey]
  have a':¬ es.toList.any (·.refKey)=true:=by rw[a];exact Aw
  rw[if_neg a'];exact congrArg some e
theorem ObjM.look{h:Heap}{x dx C:Addr}{mA:Str->Option Aa}(I:ObjM h x dx C mA):∃od,W.InstAt h x (W.instObj C dx) C (some od)/\∀name,W.lookIn name od=some (mA name) :=
 let ⟨od,ho,hl⟩:=zeh I.ns
 ⟨od,⟨I.obj,rfl,rfl,ho⟩,hl⟩
section
variable {prog:Aj}{w:Ax}{A:Au}{E:Aa->Ab->Prop}{s:Ab}{K:W.Frag}{x dx C f:Addr}{mA:Str->Option Aa}{name:Str}{v:Aa}
end
section
variable {P:Aj}{w:Ax}{H H':Hp}{h h':Heap}{a C dx:Addr}{fs fs':List (Str×V)}
theorem zfE(hok:HOk P w H h)(e:H a=some (.ins C dx fs)):∃mA,ObjM h a dx C mA/\(∀f,RelO (fs.lookup f) (mA f))/\PySem.Within mA (fs.map (·.1))/\fs.length<=1000/\H dx=some (.own a):=by obtain⟨d,z,ne,ob,mA,n,r,q⟩:=(show ObjOk P w H h a (.ins C dx fs) from hok a _ e);exact⟨mA,⟨ob,n,ne⟩,r,q,z,d⟩
end
structure Cls (K:W.Frag) (C:Addr):Prop where
 pg:W.plainGet K C Str.empty=true
 hd:W.hasDictIn K C=true
 po:W.plainOver K C=true
 sa:Bx K (.ref C) "__setattr__" = some (some (.builtin "object.__setattr__"))
theorem Cls.get{K:W.Frag}{C:Addr}(c:Cls K C)(f:Str):W.plainGet K C f=true:=c.pg
structure Con (K:W.Frag) (C:Addr) (f:Str) (v:V) (u:Aa):Prop where
 at_:Bx K (.ref C) f=some (some u)
 rel:RelV v u
 get:W.specialIn K u "__get__" = some none
 cp:W.copiedNames.contains f=false
structure Meth (K:W.Frag) (C:Addr) (m:Str) (f:Addr):Prop where
 at_:Bx K (.ref C) m=some (some (.ref f))
 fn:W.isFn K (.ref f)=true
 kp:W.keepIn K (.ref f)=true
section
variable {X:Cx}{pins:List (Addr×Obj)}{σ:St}{H:Hp}{s:Ab}{a C dx:Addr}{fs:List (Str×V)}{f:Str}{v:V}{A:Au}{E:Aa->Ab->Prop}
end
section
variable {X:Cx}{o e value:Expr}{f:Str}{pos pos' tpos:Pos}{ta tv:TE}
end
section
variable {X:Cx}{pins:List (Addr×Obj)}{σ:St}{H:Hp}{s:Ab}{A:Au}{E:Aa->Ab->Prop}{Q:Aa->Ab->Prop}{c:Aa}{b:Bool}
inductive TyOf (K:W.Frag) (H:Hp):V->Aa->Prop where
  |non:TyOf K H .non (.type "NoneType")
  |bl (x:Bool):TyOf K H (.bl x) (.type "bool")
  |int (i:Int):TyOf K H (.int i) (.type "int")
  |str (x:Str):TyOf K H (.str x) (.type "str")
  |flt (x:UInt64):TyOf K H (.flt x) (.type "float")
  |lst {a:Addr} {xs:List V} (e:H a=some (.lst xs)):TyOf K H (.ref a) (.type "list")
  |frz {a:Addr} {o:Obj} {xs:List V} (e:H a=some (.frz o (.lst xs))):TyOf K H (.ref a) (.type "list")
  |tup {a:Addr} {xs:List V} (e:H a=some (.tup xs)):TyOf K H (.ref a) (.type "tuple")
  |dK {a:Addr} {kvs:List (Key×V)} (e:H a=some (.dK kvs)):TyOf K H (.ref a) (.type "dict")
  |dT {a:Addr} {kvs:List (List Key×V)} (e:H a=some (.dT kvs)):TyOf K H (.ref a) (.type "dict")
  |ins {a C dx:Addr} {fs:List (Str × V)} (e:H a=some (.ins C dx fs)) (cl:Cls K C) (ha:Bx K (.ref C) "__class__" = some (some (.builtin "object.__class__")))
      (hn:W.specialIn K (.builtin "object.__class__") "__get__" = some (some (.builtin "getset_descriptor.__get__"))) (htk:W.takesIn K (.builtin "object.__class__")=some true)
      (hm:W.mroIn K C (.type "object")=some true):TyOf K H (.ref a) (.ref C)
theorem zek{x:V}{u t:Aa}(I:Inv X pins σ H s)(rx:RelV x u)(ty:TyOf X.K H x t)(e:Bm X.K t c=some b)(h:∀tk, Q (.bool b) { s with toks := tk }) :
  Ao (As X.prog X.w) A (call (.builtin "isinstance") [u,c]) Q E s:=by
 cases ty with
 |non=>cases (show u=Ba from rx);exact Bs W.kitx_none I.kIn Bo e (λz=>nomatch z) h
 |bl y=>cases (show u=Value.bool y from rx);exact Bs W.kitx_bool I.kIn Bo e (λz=>nomatch z) h
 |int i=>obtain⟨t,q⟩:=(show ∃t,u=Value.int i t from rx);cases q;exact Bs W.kitx_int I.kIn Bo e (λz=>nomatch z) h
 |str y=>obtain⟨t,q⟩:=(show ∃t,u=Value.str y t from rx);cases q;exact Bs W.kitx_str I.kIn Bo e (λz=>nomatch z) h
 |flt y=>obtain⟨t,q⟩:=(show ∃t,u=Value.float y t from rx);cases q;exact Bs W.kitx_float I.kIn Bo e (λz=>nomatch z) h
 |@lst a xs ea =>
  cases (show u=AL a from rx)
  obtain⟨_,_,n,_,h1⟩:=(show ObjOk X.prog X.w H s.heap a (.lst xs) from I.hok a _ ea);exact Bs W.kitx_list I.kIn ⟨_,h1,rfl⟩ e (λz=>nomatch z) h
 |@frz a ob xs ea =>
  cases (show u=AL a from rx)
  obtain⟨_,_,_,n,_,h1⟩:=(show ObjOk X.prog X.w H s.heap a (.frz ob (.lst xs)) from I.hok a _ ea);exact Bs W.kitx_list I.kIn ⟨_,h1,rfl⟩ e (λz=>nomatch z) h
 |@tup a xs ea =>
  cases (show u=AL a from rx)
  obtain⟨_,_,_,p⟩:=(show ObjOk X.prog X.w H s.heap a (.tup xs) from I.hok a _ ea);obtain⟨o,h1,h2,_⟩:=p;exact Bs W.kitx_tuple I.kIn ⟨o,h1,h2⟩ e (λz=>nomatch z) h
 |@dK a kvs ea =>
  cases (show u=AL a from rx)
  obtain⟨_,_,vs,_,p⟩:=(show ObjOk X.prog X.w H s.heap a (.dK kvs) from I.hok a _ ea);obtain⟨o,es,ep,h1,h2,_⟩:=p;exact Bs W.kitx_dict I.kIn ⟨o,h1,h2.1⟩ e (λz=>nomatch z) h
 |@dT a kvs ea =>
  cases (show u=AL a from rx)
  obtain⟨_,_,xs,_,o,es,ep,h1,h2,_⟩:=(show ObjOk X.prog X.w H s.heap a (.dT kvs) from I.hok a _ ea);exact Bs W.kitx_dict I.kIn ⟨o,h1,h2.1⟩ e (λz=>nomatch z) h
 |@ins a C dx fs ea cl ha hn htk hm =>
  cases (show u=AL a from rx)
  obtain⟨mA,O,_⟩:=zfE I.hok ea;obtain⟨od,J,_⟩:=O.look;exact Bs (W.kitx_own (cl.get _) cl.hd ha hn htk hm) I.kIn J e (λz=>nomatch z) h
end
structure Room (k:Nat) (A:Au):Prop where
 hd:A.handled=none
 dp:A.depth+3*k+5<recursionLimit
 un:A.units+16*k+200<cLine
theorem Room.mono{j k:Nat}{A:Au}(r:Room k A)(h:j<=k):Room j A:=⟨r.hd,by have:=r.dp;lia,by have:=r.un;lia⟩
theorem Room.deeper{k:Nat}{A:Au}(r:Room (k+1) A)(env:Env):Room k (A.deeper env) :=
 ⟨r.hd,by have:=r.dp;show A.depth+1+3*k+5<_;lia,by have:=r.un;show A.units+3+16*k+200<_;lia⟩
theorem Room.depth{k:Nat}{A:Au}(r:Room k A):A.depth<recursionLimit:=by have:=r.dp;lia
theorem Room.units{k:Nat}{A:Au}(r:Room k A):A.units+64<cLine:=by have:=r.un;lia
theorem Room.units0{k:Nat}{A:Au}(r:Room k A):A.units<cLine:=by have:=r.un;lia
noncomputable def tNil:TA:=λ_ H Q=>Q [] H
noncomputable def tCons(ta:TE)(tr:TA):TA:=λσ H Q=>ta σ H λx H1=>tr σ H1 λxs H2=>Q (x::xs) H2
section
variable {X:Cx}{e:Expr}{es:List Expr}{te:TE}{t:TA}{pos:Pos}
theorem zac:PA X [] tNil:=λ_ _ _ _ H Q I h=>Calls.spliced_nil ⟨[],H,I,.nil,h⟩
theorem zag(ha:PE X e te)(hr:PA X es t)(hs:Ay (e::es) X.env=(false,eval e X.env)::Ay es X.env:=by rfl):PA X (e::es) (tCons te t):=by intro pos pins s σ H Q I h;rw[hs];show Ao _ _ (spliced ((false,eval e X.env)::backTo pos (Ay es X.env))) _ _ s;refine Calls.spliced_cons (thn (ha pins s σ H _ I h) λu s1 ⟨x,H1,I1,r1,q1⟩=>?_);exact thn (hr pos pins s1 σ H1 _ I1 q1) λus s2 ⟨xs,H2,I2,r2,q2⟩=>⟨x::xs,H2,I2,.cons r1 r2,q2⟩
noncomputable def tTup(t:TA):TE:=λσ H Q=>t σ H λxs H1=>xs.length<=sizeLine/\∀p,H1 p=none->Q (.ref p) (upd H1 p (.tup xs))
noncomputable def tLst(t:TA):TE:=λσ H Q=>t σ H λxs H1=>xs.length<=sizeLine/\∀p,H1 p=none->Q (.ref p) (upd H1 p (.lst xs))
theorem za9{x1}(h:PA X es t):PE X (.Tuple es x1 pos) (tTup t):=by intro pins s σ H Q I hq;refine wpAny_Tuple_spliced (thn (h pos pins s σ H _ I hq) λus s1 ⟨xs,H1,I1,r,z,q⟩=>⟨by rw[<- r.length];exact z,?_⟩);have hf:H1 s1.heap.objs.size=none:=I1.hok.fresh (Ai _);refine⟨.ref s1.heap.objs.size,upd H1 s1.heap.objs.size (.tup xs),I1.laid (t':=s1.toks) (λb u e=>Ae _ e) (Ai _) ?_,rfl,q _ hf⟩;exact⟨z,us,r,⟨_,An _ rfl,rfl,_,rfl⟩⟩
theorem zaS(h:PA X es t):PE X (.List es pos) (tLst t):=by intro pins s σ H Q I hq;refine wpAny_List_spliced (thn (h pos pins s σ H _ I hq) λus s1 ⟨xs,H1,I1,r,z,q⟩=>⟨by rw[<- r.length];exact z,?_⟩);have hf:H1 s1.heap.objs.size=none:=I1.hok.fresh (Ai _);refine⟨.ref s1.heap.objs.size,upd H1 s1.heap.objs.size (.lst xs),I1.laid (t':=s1.toks) (λb u e=>Ae _ e) (Ai _) ?_,rfl,q _ hf⟩;exact⟨z,us,0,r,An _ rfl⟩
end
noncomputable abbrev Sp:=List V->Hp->VK->XK->Prop
noncomputable abbrev CXT:=List Env->Hp->Ab->XK->Aa->Ab->Prop
structure Env0 (P:Aj) (w:Ax) (K:W.Frag) (mg:Str->Option Aa) (base:Heap) (A:Au) (outer:List Env) (s:Ab) (H:Hp):Prop where
 frames:A.frames=some outer
 mod:Mod K mg base
 bs:∀b o,base.get? b=some o->s.heap.get? b=some o/\H b=none
 bsz:base.objs.size<=s.heap.objs.size
 funs:s.heap.FunFrames base outer
 frf:∀b∈frs outer,H b=none
 hok:HOk P w H s.heap
 bare:AllBare s.gens
noncomputable def CE(outer:List Env)(P:Aj)(w:Ax)(H:Hp)(s:Ab)(Q:VK)(u:Aa)(s':Ab):Prop :=
 ∃v H',s'.os=s.os/\AllBare s'.gens/\Un (frs outer) [] H H' s.heap s'.heap/\HOk P w H' s'.heap/\RelV v u/\Q v H'
noncomputable def CR(CX:CXT)(outer:List Env)(P:Aj)(w:Ax)(H:Hp)(s:Ab)(Q:VK)(E:XK)(r:Result)(s':Ab):Prop :=
 match r with
 |.ok (.ret u)=>CE outer P w H s Q u s'
 |.ok _=>False
 |.error e=>CX outer H s E e s'
structure FnOk (P:Aj) (w:Ax) (K:W.Frag) (mg:Str->Option Aa) (base:Heap) (CX:CXT) (k:Nat) (f:Addr) (fd:AO) (ps:List Str) (sp:Sp):Prop where
 len:∀vs H Q E,sp vs H Q E->vs.length=ps.length
 run:∀(A:Au) (outer:List Env) (s:Ab) (H:Hp) (args:Args) (us:List Aa) (vs:List V) (Q:VK) (E:XK),Room k A->Env0 P w K mg base A outer s H->BindsTo s fd args (ps.zip us)->Vals vs us->sp vs H Q E ->
  BG (As P w) A (.call (.ref f) args) (CR CX outer P w H s Q E) s
theorem FnOk.imp{P:Aj}{w:Ax}{K:W.Frag}{mg:Str -> Option Aa}{base:Heap}{CX:CXT}{k:Nat}{f:Addr}{fd:AO}{ps:List Str}{sp sp':Sp}(F:FnOk P w K mg base CX k f fd ps sp)
  (h:∀vs H Q E,sp' vs H Q E->sp vs H Q E):FnOk P w K mg base CX k f fd ps sp' :=
 ⟨λvs H Q E q=>F.len vs H Q E (h _ _ _ _ q),λA outer s H args us vs Q E hr he hb hv hs=>F.run A outer s H args us vs Q E hr he hb hv (h _ _ _ _ hs)⟩
section
variable {X:Cx}{pins:List (Addr×Obj)}{σ:St}{H:Hp}{s s':Ab}
theorem Inv.env0(I:Inv X pins σ H s):Env0 X.prog X.w X.K X.mg X.base X.A X.stack s H :=
 ⟨I.ok.frames,I.ok.mod,I.bs,AY I.ok.bsz I.sz,I.stack,I.stkFree,I.hok,I.bare⟩
theorem Inv.after{Q:VK}{u:Aa}(I:Inv X pins σ H s)(h:CE X.stack X.prog X.w H s Q u s'):EP X pins σ Q u s':=by obtain⟨v,H',os,bare,un,hok,r,q⟩:=h;obtain⟨hh,g,d,t,os'⟩:=s';obtain rfl:os'=s.os:=os;exact⟨v,H',I.call (h':=hh) (g':=g) (d':=d) (t':=t) (ch:=[]) un hok bare (λb z=>absurd z (by simp)),r,q⟩
end
noncomputable def tCall(sp:Sp)(dvs:List V)(E:XK)(t:TA):TE:=λσ H Q=>t σ H λvs H1=>sp (vs++dvs) H1 Q E
noncomputable def Binds(K:W.Frag)(fd:AO)(ps:List Str)(ds:List Aa):Prop :=
 ∀(s:Ab) (us:List Aa),K.In s.heap->(us++ds).length=ps.length->BindsTo s fd ⟨us,[]⟩ (ps.zip (us++ds))
theorem Binds.all{K:W.Frag}{fd:AO}{ps:List Str}(h:∀us:List Aa,us.length=ps.length->bindArgs fd ⟨us,[]⟩=pure (ps.zip us)):Binds K fd ps []:=λs us _ hl=>by rw[List.append_nil]at hl ⊢;exact .of_eq (h us hl)
noncomputable def zcW(CX:CXT)(X:Cx)(E:XK):Prop:=∀(pins:List (Addr×Obj)) (σ:St) (H:Hp) (s:Ab) (e:Aa) (s':Ab),Inv X pins σ H s->CX X.stack H s E e s'->X.xe e s'
section
variable {X:Cx}{CX:CXT}{k:Nat}{f C:Addr}{fd:AO}{ps:List Str}{sp:Sp}{dvs:List V}{ds:List Aa}{E:XK}{x m:Str}{p pos apos:Pos}{e o:Expr}{es:List Expr}{ta:TE}{t:TA}
theorem zfS{pins:List (Addr × Obj)}{σ : St}{H:Hp}{s:Ab}{Q:VK}{us:List Aa}{vs:List V}(F:FnOk X.prog X.w X.K X.mg X.base CX k f fd ps sp)(hr:Room k X.A)(hb:Binds X.K fd ps ds)(hd:Vals dvs ds)(hx:zcW CX X E)
  (I:Inv X pins σ H s) (r:Vals vs us) (h:sp (vs++dvs) H Q E):Ao (As X.prog X.w) X.A (call (.ref f) us) (EP X pins σ Q) X.xe s:=by
 have r2:Vals (vs++dvs) (us++ds):=r.append hd;have hl:(us++ds).length=ps.length:=by rw[<- r2.length];exact F.len _ _ _ _ h
 refine wpAny_call (codeAny_mono (F.run X.A X.stack s H ⟨us,[]⟩ (us++ds) (vs++dvs) Q E hr I.env0 (hb s us I.kIn hl) r2 h) λr s' hq=>?_)
 cases r with
 |error e=>exact hx pins σ H s e s' I hq
 |ok fl =>
  cases fl with
  |ret u=>exact I.after hq
  |next=>exact Bb hq
  |brk=>exact Bb hq
  |cont=>exact Bb hq
theorem zd2(F:FnOk X.prog X.w X.K X.mg X.base CX k f fd ps sp)(hr:Room k X.A)(hg:Gl X x)(hm:X.mg x=some (.ref f))(hk:W.keepIn X.K (.ref f)=true)(hb:Binds X.K fd ps ds)(hd:Vals dvs ds)(hx:zcW CX X E)
  (ha:PA X (e::es) t) (hdb:(x == ("__debug__" : Str))=false:=by decide) (he:Ay (e::es) X.env=(false,eval e X.env)::Ay es X.env:=by rfl) (hpl:(backTo pos (Ay es X.env)).any (·.1)=false:=by rfl) :
  PE X (.Call (.Name x p) (e::es) [] pos) (tCall sp dvs E t):=by
 intro pins s σ H Q I h;refine B0 (zcv I hg hm ?_ hdb);refine W.callWith_K (h₀:=X.base) I.ok.mod.kin hk (thn (ha pos pins s σ H _ I h) λus s1 ⟨vs,H1,I1,r,q⟩=>⟨I1.kIn,?_⟩) he hpl;exact zfS F hr hb hd hx I1 r q
structure Mk (K:W.Frag) (C f:Addr):Prop where
 makes:W.makesIn K C=true
 init:Bx K (.ref C) "__init__" = some (some (.ref f))
 fn:W.isFn K (.ref f)=true
 kp:W.keepIn K (.ref C)=true
end
noncomputable def PK(X:Cx)(kws:List Keyword)(t:TA):Prop :=
 ∀(pos:Pos) (pins:List (Addr×Obj)) (s:Ab) (σ:St) (H:Hp) (Q:List V->Hp->Prop),Inv X pins σ H s->t σ H Q->Ao (As X.prog X.w) X.A (evalAll ((backToKw pos (BI kws X.env)).map (·.2))) (AP X pins σ Q) X.xe s
section
variable {X:Cx}{CX:CXT}{k:Nat}{f C:Addr}{fd:AO}{ps ks:List Str}{sp:Sp}{E:XK}{x m:Str}{p pos apos kpos:Pos}{e o:Expr}{es:List Expr}{kws:List Keyword}{te ta:TE}{t tk:TA}{nm:Option Str}
theorem zfW:PK X [] tNil:=λ_ _ _ _ H Q I h=>wpAny_evalAll_nil ⟨[],H,I,.nil,h⟩
theorem zfs(ha:PE X e te)(hr:PK X kws t):PK X (⟨nm,e,kpos⟩::kws) (tCons te t):=by intro pos pins s σ H Q I h;show Ao _ _ (evalAll ((do let v <- eval e X.env;standAt pos;pure v)::(backToKw pos (BI kws X.env)).map (·.2))) _ _ s;refine wpAny_evalAll_cons (Ac (thn (ha pins s σ H _ I h) λu s1 ⟨x,H1,I1,r1,q1⟩=>Ac (wpAny_standAt (Av ?_))));exact thn (hr pos pins s1 σ H1 _ I1 q1) λus s2 ⟨xs,H2,I2,r2,q2⟩=>⟨x::xs,H2,I2,.cons r1 r2,q2⟩
structure KBinds (K:W.Frag) (fd:AO) (ps ks:List Str) (g:List Aa->List Aa->List Aa) (gV:List V->List V->List V):Prop where
 to:∀(s:Ab) (us ws:List Aa),K.In s.heap->(g us ws).length=ps.length->BindsTo s fd ⟨us,ks.zip ws⟩ (ps.zip (g us ws))
 rel:∀{vs:List V} {us:List Aa} {zs:List V} {ws:List Aa},Vals vs us->Vals zs ws->Vals (gV vs zs) (g us ws)
variable {g:List Aa->List Aa->List Aa}{gV:List V->List V->List V}
end
structure FnScope (N P:List Str) (sc:Scope):Prop where
 kind:sc.kind=.function
 co:sc.isCoroutine=false
 gen:sc.isGenerator=false
 nd:N.Nodup
 pre:N.take P.length=P
 par:∀x∈P,sc.names.lookup x=some .local∨sc.names.lookup x=some .cell
 nofree:∀y∈sc.names,y.2≠.free
theorem zcS{kindOf:Str->Option NameKind}{x:Str}:∀{binds:List (Str×Aa)}{m:Str->Option Aa},(∀v,(x,v) ∉ binds)->bindL kindOf binds m x=m x
 |[],_,_=>rfl
 | (n,v)::r,m,h=>by
  unfold bindL;rw[zcS λw hw=>h w (Az _ hw)];split
  .have:x≠n:=by rintro rfl;exact h v AJ
   simp[this]
  .rfl
theorem zcU{kindOf:Str->Option NameKind}{x:Str}:∀{binds:List (Str×Aa)}{m:Str->Option Aa},(∀v,(x,v) ∉ binds)->bindC kindOf binds m x=m x
 |[],_,_=>rfl
 | (n,v)::r,m,h=>by
  unfold bindC;rw[zcU λw hw=>h w (Az _ hw)];split
  .rfl
  .have:x≠n:=by rintro rfl;exact h v AJ
   simp[this]
theorem zcT{kindOf:Str -> Option NameKind}{x:Str}{v:Aa} : ∀{P:List Str}{vs:List Aa}{i:Nat}{m:Str -> Option Aa}, P.Nodup -> P[i]? = some x -> vs[i]? = some v -> kindOf x=some .local ->
  bindL kindOf (P.zip vs) m x=some v
 |[],_,_,_,_,h,_,_=>by simp at h
 |_::_,[],_,_,_,_,h,_=>by simp at h
 |p::P,w::vs,0,m,nd,h1,h2,hk=>by
  simp at h1 h2;subst h1;subst h2;show bindL kindOf ((p,w)::P.zip vs) m p=_;unfold bindL;rw[zcS λv hv=>(B7.mp nd).1 (List.of_mem_zip hv).1,if_pos hk];simp
 |p::P,w::vs,i+1,m,nd,h1,h2,hk=>by
  show bindL kindOf ((p,w)::P.zip vs) m x=_;unfold bindL;exact zcT (i:=i) (B7.mp nd).2 (by simpa using h1) (by simpa using h2) hk
theorem zcV{kindOf:Str -> Option NameKind}{x:Str}{v:Aa} : ∀{P:List Str}{vs:List Aa}{i:Nat}{m:Str -> Option Aa}, P.Nodup -> P[i]? = some x -> vs[i]? = some v -> kindOf x ≠ some .local ->
  bindC kindOf (P.zip vs) m x=some v
 |[],_,_,_,_,h,_,_=>by simp at h
 |_::_,[],_,_,_,_,h,_=>by simp at h
 |p::P,w::vs,0,m,nd,h1,h2,hk=>by
  simp at h1 h2;subst h1;subst h2;show bindC kindOf ((p,w)::P.zip vs) m p=_;unfold bindC;rw[zcU λv hv=>(B7.mp nd).1 (List.of_mem_zip hv).1,if_neg hk];simp
 |p::P,w::vs,i+1,m,nd,h1,h2,hk=>by
  show bindC kindOf ((p,w)::P.zip vs) m x=_;unfold bindC;exact zcV (i:=i) (B7.mp nd).2 (by simpa using h1) (by simpa using h2) hk
noncomputable def start(N:List Str)(vs:List V):St:=vs.map some++List.replicate (N.length-vs.length) none
noncomputable def cxOf(CX:CXT)(P:Aj)(w:Ax)(K:W.Frag)(mg:Str->Option Aa)(base:Heap)(N:List Str)(qual:Str)(scope:Scope)(f:Addr)(cd:Aa)(A:Au)(outer:List Env)(s:Ab)(H:Hp)(E:XK):Cx where
 prog:=P
 w:=w
 K:=K
 mg:=mg
 base:=base
 A:=A.deeper (envOfC qual scope s.heap.objs.size f cd)
 N:=N
 s₀:=s
 H₀:=H
 env:=envOfC qual scope s.heap.objs.size f cd
 outer:=outer
 stack:=envOfC qual scope s.heap.objs.size f cd::outer
 ex:=[]
 calm:=true
 fn:=λ_=>true
 pn:=[]
 xe:=λe s'=>Ao (As P w) (A.deeper (envOfC qual scope s.heap.objs.size f cd)) (leaving (envOfC qual scope s.heap.objs.size f cd) e) (λ_ s''=>CX outer H s E e s'') (λe' s''=>CX outer H s E e' s'') s'
theorem zdv{sc:Scope}{n:Nat}{x:Str}(h:sc.names.lookup x=some .cell):∃c,(cellsFrom n sc.names []).lookup x=some c:=by have q:=W.cellsFrom_some sc.names n [] (.inl h);exact Option.isSome_iff_exists.mp q
theorem zel{CX:CXT}{P:Aj}{w:Ax}{K:W.Frag}{mg:Str -> Option Aa}{base:Heap}{N ps:List Str}{qual:Str}{scope:Scope}{f:Addr}{cd:Aa}{A:Au}{outer:List Env}{s s1:Ab}{H:Hp}{E:XK}{us:List Aa}{vs:List V}
  (S:FnScope N ps scope) (hd:A.handled=none) (e0:Env0 P w K mg base A outer s H) (hl:vs.length=ps.length) (r:Vals vs us)
  (x:InCallC s s.heap.objs.size (bindL (envOfC qual scope s.heap.objs.size f cd).kindOf (ps.zip us) λ_=>none) (cellsFrom (s.heap.objs.size+1) scope.names []) (bindC (envOfC qual scope s.heap.objs.size f cd).kindOf (ps.zip us) λ_=>none) s1) :
  Inv (cxOf CX P w K mg base N qual scope f cd A outer s H E) [] (start N vs) H s1:=by
 have hpl:ps.length<=N.length:=by have:=congrArg List.length S.pre;rw[Bg]at this;lia
 obtain⟨h1,tk,rfl,hk⟩:=x.done;have noA:∀b:Addr,b ∉ (cxOf CX P w K mg base N qual scope f cd A outer s H E).ex:=λb z=>absurd (show b∈([]:List Addr) from z) (by simp)
 refine⟨⟨e0.mod,S.kind,rfl,rfl,Ai _,λy z c h1 h2=>?_,λy hy=>?_,λy c _ h=>?_,λ_=>hd,Around.frames_deeper e0.frames,.inr ⟨rfl,rfl⟩,λb z=>absurd z (noA b),e0.bs,e0.bsz,λb _ _=>noA b,λb z=>absurd z (noA b),e0.funs,e0.frf⟩,
  rfl,e0.bare,Un.kept hk,⟨_,x.toInCall.ns,λi y v h1 h2 h3=>?_⟩,λy c h=>⟨_,x.cell y c h⟩,e0.hok.fresh (Ai _),λy c h=>?_,λp hp=>absurd (show p∈([]:List (Addr×Obj)) from hp) (by simp),e0.hok.kept hk,?_⟩
 .exact name_of_addr x.apart (Bd h1) (Bd h2)
 .have hy:scope.names.lookup y=some .cell∨scope.names.lookup y=some .free:=hy;rcases hy with hy |hy
  .exact zdv hy
  .exact absurd rfl (S.nofree _ (Bd hy))
 .exact Bk (x.above y c (Bd h))
 .have hi:i < vs.length := by
   unfold start at h2
   by_cases hi:i<vs.length
   .exact hi
   .rw[A1 (by simpa using hi)]at h2;rw[List.getElem?_replicate]at h2;split at h2 <;> cases h2
  have ha:vs[i]?=some v:=by
   unfold start at h2;rw[A3 (by simpa using hi),List.getElem?_map]at h2
   cases e:vs[i]? with
   |none=>rw[e]at h2;cases h2
   |some a=>rw[e]at h2;cases h2;rfl
  obtain⟨u,hu,rv⟩:=r.get ha
  have hp:ps[i]?=some y:=by rw[<- S.pre,List.getElem?_take_of_lt (by lia)];exact h1
  have ndP:ps.Nodup:=by rw[<- S.pre];exact S.nd.sublist (List.take_sublist _ _)
  refine⟨u,rv,?_⟩;rcases S.par y (AI hp) with k |k
  .exact .inl ⟨k,zcT ndP hp hu k⟩
  .obtain⟨c,e⟩:=zdv (n:=s.heap.objs.size+1) k;refine .inr ⟨.inl k,c,e,?_⟩;have q:=x.cell y c e;rw[zcV ndP hp hu (by show scope.names.lookup y≠_;rw[k];decide)]at q;exact q
 .exact e0.hok.fresh (Bk (x.above y c (Bd h)))
 .unfold start;show _=N.length;rw[AK,Af,List.length_replicate];lia
theorem fn_of{CX:CXT}{P:Aj}{w:Ax}{K:W.Frag}{mg:Str -> Option Aa}{base:Heap}{k:Nat}{f:Addr}{name qual:Str}{params:Arguments}{body:List Stmt}{scope:Scope}{dV kV doc pm cdv ct oc:Aa}{an od:Option Addr}
  {osl:Array (Option Aa)} {N ps:List Str} {sp:Sp} (lk:K.lookup f=some ⟨oc,od,.func (B1 name qual params body scope dV kV doc pm an cdv ct),osl⟩) (hcd:W.codeIn K cdv qual=true) (S:FnScope N ps scope)
  (len:∀vs H Q E,sp vs H Q E->vs.length=ps.length)
  (hbody:∀(A:Au) (outer:List Env) (s:Ab) (H:Hp) (vs:List V) (Q:VK) (E:XK),Room k (A.deeper (envOfC qual scope s.heap.objs.size f cdv))->sp vs H Q E ->
   ∃t,PSs (cxOf CX P w K mg base N qual scope f cdv A outer s H E) body t/\t { nx:=λ_ H'=>Q .non H',rt:=Q } (start N vs) H) :
  FnOk P w K mg base CX (k+1) f (B1 name qual params body scope dV kV doc pm an cdv ct) ps sp:=by
 refine⟨len,λA outer s H args us vs Q E hr e0 hb r hsp=>?_⟩;have hl:=len _ _ _ _ hsp;have KX:K.In s.heap:=e0.mod.kin.keeps λb o e=>(e0.bs b o e).1
 have lim:s.heap.NoLimit:=e0.mod.nolimit.keeps λb o e=>(e0.bs b o e).1
 have hkind:∀y∈ps.zip us,scope.names.lookup y.1=some .local∨(scope.names.lookup y.1=some .cell/\((cellsFrom (s.heap.objs.size+1) scope.names []).lookup y.1).isSome=true):=λ⟨n,v⟩ hy=>by
  rcases S.par n (List.of_mem_zip hy).1 with q |q
  .exact .inl q
  .exact .inr ⟨q,W.cellsFrom_some _ _ _ (.inl q)⟩
 refine codeAny_call_function hr.depth (KX _ _ lk) rfl S.co S.gen rfl (W.codeRec_of KX hcd) (hb _ _ _ _ ?_);refine wpAny_newFunctionEnv_cells S.kind hkind λenv he s1 x=>?_
 subst he;refine⟨lim.keeps x.toInCall.keep,codeAny_func ?_⟩;obtain⟨t,ht,hq⟩:=hbody A outer s H vs Q E (hr.deeper _) hsp;have I:Inv (cxOf CX P w K mg base N qual scope f cdv A outer s H E) [] (start N vs) H s1:=zel S hr.hd e0 hl r x;refine BZ (ht [] s1 (start N vs) H _ I hq) (λfl s' hs=>?_) λe s' hs=>hs
 have fin:∀{σ':St} {H':Hp} {v:V} {u:Aa},Inv (cxOf CX P w K mg base N qual scope f cdv A outer s H E) [] σ' H' s'->RelV v u->Q v H'->CE outer P w H s Q u s' :=
  λ{σ' H' v u} J rv q=>⟨v,H',J.os,J.bare,J.base,J.hok,rv,q⟩
 cases fl with
 |ret u =>
  obtain⟨v,σ',H',J,rv,q⟩:=hs;exact fin J rv q
 |next =>
  obtain⟨σ',H',J,q⟩:=hs;exact fin (v:=V.non) (u:=Ba) J rfl q
 |brk =>
  obtain⟨_,_,_,q⟩:=hs;exact Bb q
 |cont =>
  obtain⟨_,_,_,q⟩:=hs;exact Bb q
section
variable {X:Cx}{x:Str}{p pos:Pos}{e:Expr}{es:List Expr}{t:TA}{id T:String}{r:List V->Hp->VK->Prop}
noncomputable def tCB(r:List V->Hp->VK->Prop)(t:TA):TE:=λσ H Q=>t σ H λvs H1=>r vs H1 Q
theorem zaj (hc:CallR X (.builtin id) r) (hg:Gl X x) (hm:X.mg x=none) (hv:bootBuiltins x=some (.builtin id)) (ha:PA X (e :: es) t) (hn:x ≠ "__name__" := by decide) (hdb:(x == ("__debug__" : Str))=false := by decide)
  (he:Ay (e::es) X.env=(false,eval e X.env)::Ay es X.env:=by rfl) (hpl:(backTo pos (Ay es X.env)).any (·.1)=false:=by rfl):PE X (.Call (.Name x p) (e::es) [] pos) (tCB r t):=by
 intro pins s σ H Q I h;refine B0 (zbf I hg hm hv ?_ hn hdb);exact PyProof.Rows.callWith_builtin1 (thn (ha pos pins s σ H _ I h) λus s1 ⟨vs,H1,I1,r1,q1⟩=>hc pins s1 σ H1 vs us Q I1 r1 q1) he hpl
theorem zbn (hc:CallR X (.type T) r) (hg:Gl X x) (hm:X.mg x=none) (hv:bootBuiltins x=some (.type T)) (ha:PA X (e :: es) t) (hn:x ≠ "__name__" := by decide) (hdb:(x == ("__debug__" : Str))=false := by decide)
  (he:Ay (e::es) X.env=(false,eval e X.env)::Ay es X.env:=by rfl) (hpl:(backTo pos (Ay es X.env)).any (·.1)=false:=by rfl):PE X (.Call (.Name x p) (e::es) [] pos) (tCB r t):=by
 intro pins s σ H Q I h;refine B0 (zbf I hg hm hv ?_ hn hdb);exact AM (thn (ha pos pins s σ H _ I h) λus s1 ⟨vs,H1,I1,r1,q1⟩=>hc pins s1 σ H1 vs us Q I1 r1 q1) he hpl
end
section
variable {κ:Type} [DecidableEq κ]
noncomputable def valV(kvs:List (κ×V))(k:κ):Option V:=(kvs.find? λkv=>decide (kv.1=k)).map (·.2)
noncomputable def putK(kvs:List (κ×V))(k:κ)(v:V):List (κ×V) :=
 if (kvs.any λkv=>decide (kv.1=k))=true then kvs.map (λkv=>if kv.1=k then (kv.1,v) else kv) else kvs++[(k,v)]
theorem zax{p:κ×V}{r:List (κ×V)}{k:κ}(e:p.1=k):valV (p::r) k=some p.2:=by simp[valV,By,e]
theorem zar{p:κ×V}{r:List (κ×V)}{k:κ}(e:¬ p.1=k):valV (p::r) k=valV r k:=by simp[valV,By,e]
theorem zbI(k:κ):∀kvs:List (κ×V),(kvs.any λkv=>decide (kv.1=k))=(valV kvs k).isSome
 |[]=>rfl
 |p::r=>by
  rw[List.any_cons]
  by_cases e:p.1=k
  .simp only[zax e,decide_eq_true e,Bool.true_or,Option.isSome_some]
  .rw[zar e,decide_eq_false e,Bool.false_or];exact zbI k r
theorem zdc(k j:κ)(y:V):∀kvs:List (κ×V),valV (kvs.map λkv=>if kv.1=k then (kv.1,y) else kv) j=(valV kvs j).map λx=>if j=k then y else x
 |[]=>rfl
 |p::r=>by
  have ih:=zdc k j y r;rw[A5]
  by_cases h:p.1=k
  .rw[if_pos h]
   by_cases e:p.1=j
   .rw[zax (p:=(p.1,y)) e,zax e,Option.map_some,if_pos (e.symm.trans h)]
   .rw[zar (p:=(p.1,y)) e,zar e,ih]
  .rw[if_neg h]
   by_cases e:p.1=j
   .rw[zax (p:=p) e,zax e,Option.map_some,if_neg (λz=>h (e.trans z))]
   .rw[zar (p:=p) e,zar e,ih]
theorem zcA(k j:κ)(y:V):∀kvs:List (κ×V),valV kvs k=none->valV (kvs++[(k,y)]) j=if j=k then some y else valV kvs j
 |[],_=>by
  by_cases e:k=j
  .rw[if_pos e.symm];exact zax (p:=(k,y)) e
  .rw[if_neg (λz=>e z.symm)];exact zar (p:=(k,y)) e
 |p::r,hn=>by
  rw[List.cons_append];have hk:¬ p.1=k:=λz=>by rw[zax z]at hn;cases hn
  rw[zar hk]at hn;have ih:=zcA k j y r hn
  by_cases e:p.1=j
  .rw[zax e,zax e,if_neg (λz=>hk (e.trans z))]
  .rw[zar e,zar e,ih]
theorem zeA(kvs:List (κ×V))(k j:κ)(y:V):valV (putK kvs k y) j=if j=k then some y else valV kvs j:=by
 unfold putK
 by_cases a:(kvs.any λkv=>decide (kv.1=k))=true
 .rw[if_pos a,zdc];rw[zbI]at a
  by_cases e:j=k
  .obtain⟨x,hx⟩:=Option.isSome_iff_exists.mp a;rw[if_pos e,e,hx,Option.map_some,if_pos rfl]
  .rw[if_neg e]
   cases valV kvs j with
   |none=>rfl
   |some x=>rw[Option.map_some,if_neg e]
 .rw[if_neg a];refine zcA k j y kvs ?_
  rw[zbI]at a
  cases q:valV kvs k with
  |none=>rfl
  |some x=>rw[q]at a;exact (a rfl).elim
theorem zaP(kvs:List (κ×V))(k:κ)(v:V):(putK kvs k v).length<=kvs.length+1:=by
 unfold putK;split
 .rw[Af];lia
 .rw[AK,A0,BX];lia
theorem RelO.isSome_eq{o:Option V}{u:Option Aa}(r:RelO o u):o.isSome=u.isSome:=by
 cases o with
 |none=>cases u with
  |none=>rfl
  |some _=>exact (show False from r).elim
 |some _=>cases u with
  |none=>exact (show False from r).elim
  |some _=>rfl
theorem KV.val{kvs:List (κ×V)}{vs:List (κ×Aa)}(r:KV kvs vs)(k:κ):RelO (valV kvs k) (valueAt vs k):=by
 unfold KV at r
 induction r with
 |nil=>exact Bo
 |@cons p q ps qs h t ih =>
  obtain⟨h1,h2⟩:=h
  by_cases e:p.1=k
  .have e':q.1=k:=h1.symm.trans e;have b:valueAt (q::qs) k=some q.2:=by simp[valueAt,By,e']
   rw[zax e,b];exact h2
  .have e':¬ q.1=k:=λz=>e (h1.trans z)
   have b:valueAt (q::qs) k=valueAt qs k:=by simp[valueAt,By,e']
   rw[zar e,b];exact ih
theorem KV.any{kvs:List (κ×V)}{vs:List (κ×Aa)}(r:KV kvs vs)(k:κ):(kvs.any λkv=>decide (kv.1=k))=vs.any λkv=>decide (kv.1=k):=by
 unfold KV at r
 induction r with
 |nil=>rfl
 |cons h t ih=>rw[List.any_cons,List.any_cons,ih,h.1]
theorem KV.repl{kvs:List (κ × V)}{vs:List (κ × Aa)}(r:KV kvs vs)(k : κ){y:V}{u:Aa}(ry:RelV y u) :
  KV (kvs.map λkv=>if kv.1=k then (kv.1,y) else kv) (vs.map λkv=>if kv.1=k then (kv.1,u) else kv):=by
 unfold KV at r ⊢
 induction r with
 |nil=>exact .nil
 |@cons p q ps qs h t ih =>
  rw[A5,A5];refine .cons ?_ ih;obtain⟨h1,h2⟩:=h
  by_cases e:p.1=k
  .rw[if_pos e,if_pos (h1.symm.trans e)];exact⟨h1,ry⟩
  .rw[if_neg e,if_neg (λz=>e (h1.trans z))];exact⟨h1,h2⟩
theorem KV.put{kvs:List (κ×V)}{vs:List (κ×Aa)}(r:KV kvs vs)(k:κ){y:V}{u:Aa}(ry:RelV y u):KV (putK kvs k y) (stored vs k u):=by
 unfold putK stored;rw[r.any k]
 by_cases e:(vs.any λkv=>decide (kv.1=k))=true
 .rw[if_pos e,if_pos e];exact r.repl k ry
 .rw[if_neg e,if_neg e];exact Paired.snoc r ⟨rfl,ry⟩
theorem KV.length{kvs:List (κ×V)}{vs:List (κ×Aa)}(r:KV kvs vs):kvs.length=vs.length:=Paired.length r
end
theorem kV_is{P:Aj}{w:Ax}{k:Key}{u:Aa}(r:RelV (kV k) u):(zaz P w).is k u=true:=by
 cases k with
 |inl i=>obtain⟨t,e⟩:=(show ∃t,u=Value.int i t from r);subst e;exact zc7 P w i t
 |inr x=>obtain⟨t,e⟩:=(show ∃t,u=Value.str x t from r);subst e;exact zc6 P w x t
theorem zcM{P:Aj}{w:Ax}:∀{ks:List Key}{us:List Aa},Vals (ks.map kV) us->ItemsAre (zaz P w) ks us
 |[],_,r=>by rw[List.map_nil]at r;cases r;exact .nil
 |k::ks,_,r=>by
  rw[A5]at r
  cases r with
  |cons h t=>exact .cons (kV_is h) (zcM t)
noncomputable abbrev KT(H:Hp):List (List Key×V)->List (List Key×Addr×Aa)->Prop:=Paired λp q=>p.1=q.1/\H q.2.1=some (.tup (p.1.map kV))/\RelV p.2 q.2.2
theorem KT.val{H:Hp}{kvs:List (List Key×V)}{xs:List (List Key×Addr×Aa)}(r:KT H kvs xs)(k:List Key):RelO (valV kvs k) ((atKey xs k).map (·.2)):=by
 induction r with
 |nil=>exact Bo
 |@cons p q ps qs h t ih =>
  obtain⟨h1,_,h2⟩:=h
  by_cases e:p.1=k
  .have e':q.1=k:=h1.symm.trans e;have b:atKey (q::qs) k=some q.2:=by simp[atKey,By,e']
   rw[zax e,b];exact h2
  .have e':¬ q.1=k:=λz=>e (h1.trans z)
   have b:atKey (q::qs) k=atKey qs k:=by simp[atKey,By,e']
   rw[zar e,b];exact ih
theorem KT.repl{H:Hp}{kvs:List (List Key × V)}{xs:List (List Key × Addr × Aa)}(r:KT H kvs xs)(k:List Key){y:V}{u:Aa}(ry:RelV y u) :
  KT H (kvs.map λkv=>if kv.1=k then (kv.1,y) else kv) (xs.map (putAt k u)):=by
 induction r with
 |nil=>exact .nil
 |@cons p q ps qs h t ih =>
  rw[A5,A5];refine .cons ?_ ih;obtain⟨h1,h2,h3⟩:=h;unfold putAt
  by_cases e:p.1=k
  .rw[if_pos e,if_pos (h1.symm.trans e)];exact⟨h1,h2,ry⟩
  .rw[if_neg e,if_neg (λz=>e (h1.trans z))];exact⟨h1,h2,h3⟩
theorem KT.put{H:Hp}{kvs:List (List Key × V)}{xs:List (List Key × Addr × Aa)}(r:KT H kvs xs)(k:List Key){b:Addr}{y:V}{u:Aa}(hb:H b=some (.tup (k.map kV)))(ry:RelV y u) :
  KT H (putK kvs k y) (storedH xs k b u):=by
 have e:(kvs.any λkv=>decide (kv.1=k))=(atKey xs k).isSome:=by rw[zbI,(r.val k).isSome_eq,Option.isSome_map]
 unfold putK storedH;rw[e]
 by_cases q:(atKey xs k).isSome=true
 .rw[if_pos q,if_pos q];exact r.repl k ry
 .rw[if_neg q,if_neg q];exact Paired.snoc r ⟨rfl,hb,ry⟩
theorem KT.keeps{H H':Hp}{kvs:List (List Key×V)}{xs:List (List Key×Addr×Aa)}(r:KT H kvs xs)(ht:∀b ys,H b=some (.tup ys)->H' b=some (.tup ys)):KT H' kvs xs :=
 Paired.mapP r λ_ _ z=>⟨z.1,ht _ _ z.2.1,z.2.2⟩
section
variable {P:Aj}{w:Ax}{H:Hp}{h:Heap}{a:Addr}
theorem rd_of{u:HO}(ok:HOk P w H h)(e:Rd H a u):ObjOk P w H h a u:=e.ok ok
theorem dk_rd{kvs:List (Key×V)}(ok:HOk P w H h)(e:Rd H a (.dK kvs)):kvs.length<=sizeLine/\(a == Bu)=false/\∃vs,KV kvs vs/\h.DictOf (zaz P w) a vs :=
 show ObjOk P w H h a (.dK kvs) from rd_of ok e
theorem dk_of{kvs:List (Key×V)}(ok:HOk P w H h)(e:H a=some (.dK kvs)):kvs.length<=sizeLine/\(a == Bu)=false/\∃vs,KV kvs vs/\h.DictOf (zaz P w) a vs:=dk_rd ok (.inl e)
theorem zdq{ks:List Key}(ok:HOk P w H h)(e:H a=some (.tup (ks.map kV))):(tupleKind (zaz P w)).is h ks a:=by obtain⟨_,its,r,o,h1,h2,n,h3⟩:=(show ObjOk P w H h a (.tup (ks.map kV)) from ok a _ e);exact⟨o,its.toArray,n,h1,h2,h3,by simpa using zcM r⟩
theorem dt_rd{kvs:List (List Key × V)}(ok:HOk P w H h)(e:Rd H a (.dT kvs)):kvs.length <= sizeLine /\ (a == Bu)=false /\
  ∃xs,KT H kvs xs/\h.DictOfH (tupleKind (zaz P w)) a xs:=by
 obtain⟨z,y,xs,r,o,es,ep,h1,h2,h3,h4,h5⟩:=(show ObjOk P w H h a (.dT kvs) from rd_of ok e);refine⟨z,y,xs,r,o,es,ep,h1,h2,h3,h4,λx hx=>?_,h5⟩
 have all:∀{l:List (List Key×V)} {m:List (List Key×Addr×Aa)},KT H l m->∀x∈m,(tupleKind (zaz P w)).is h x.1 x.2.1:=by
  intro l m q
  induction q with
  |nil=>intro x hx;exact nomatch hx
  |@cons p q ps qs hq t ih =>
   intro x hx;rcases AG.mp hx with e |hx
   .subst e;exact zdq ok (by rw[<- hq.1];exact hq.2.1)
   .exact ih x hx
 exact all r x hx
theorem dt_of{kvs:List (List Key × V)}(ok:HOk P w H h)(e:H a=some (.dT kvs)):kvs.length <= sizeLine /\ (a == Bu)=false /\
  ∃xs,KT H kvs xs/\h.DictOfH (tupleKind (zaz P w)) a xs:=dt_rd ok (.inl e)
end
noncomputable def DGet(H:Hp)(a:Addr)(y:V)(r:Option V):Prop :=
 (∃kvs k,Rd H a (.dK kvs)/\y=kV k/\r=valV kvs k)∨∃kvs k b,Rd H a (.dT kvs)/\y=.ref b/\H b=some (.tup (k.map kV))/\r=valV kvs k
noncomputable def DPut(H:Hp)(a:Addr)(y v:V)(H':Hp):Prop :=
 (∃kvs k,H a=some (.dK kvs)/\y=kV k/\kvs.length<sizeLine/\H'=upd H a (.dK (putK kvs k v))) ∨
 ∃kvs k b,H a=some (.dT kvs)/\y=.ref b/\H b=some (.tup (k.map kV))/\kvs.length<sizeLine/\H'=upd H a (.dT (putK kvs k v))
section
variable {X:Cx}{pins:List (Addr×Obj)}{σ:St}{H:Hp}{s:Ab}{a:Addr}{y v:V}{u r:Aa}{o:Option V}{A:Au}{E:Aa->Ab->Prop}
theorem Inv.big(I:Inv X pins σ H s):Bu<s.heap.objs.size:=by have h:Ap<s.heap.objs.size:=(I.mod.glob.keeps I.bk).lt;exact Nat.lt_trans (by decide) h
theorem d_in{Q:Aa -> Ab -> Prop}(hu:A.units + 1 < cLine)(I:Inv X pins σ H s)(g:DGet H a y o)(ry:RelV y u)(h:∀s', Inv X pins σ H s' -> Q (.bool o.isSome) s') :
  Ao (As X.prog X.w) A (Bf .In u (.ref a)) Q E s:=by
 rcases g with⟨kvs,k,e,ey,l⟩ |⟨kvs,k,b,e,ey,eb,l⟩
 .subst ey;obtain⟨z,hd,vs,rel,dd⟩:=dk_rd I.hok e;refine wpAny_in_of (kV_is ry) hd dd.mapOf ?_
  rw[<- (rel.val k).isSome_eq,<- l];exact h _ (I.tok _)
 .subst ey
  cases (show u=AL b from ry)
  obtain⟨z,hd,xs,rel,dd⟩:=dt_rd I.hok e;refine wpAny_in_heap (tupleKind_room_in1 hu) (zdq I.hok eb) hd dd ?_
  have q:=(rel.val k).isSome_eq;rw[Option.isSome_map]at q;rw[<- q,<- l];exact h _ (I.tok _)
theorem zcx{h':Heap}{t':Nat}{ob:HO}(I:Inv X pins σ H s)(mu:Mut (H a))(hs:Heap.SameBut a s.heap h')(he:∃q, h'.get? a=some q)(new:ObjOk X.prog X.w (upd H a ob) h' a ob) :
  Inv X pins σ (upd H a ob) { s with heap:=h',toks:=t' } :=
 I.write (x:=a) (e:=a) mu (.inl rfl) (λb q hb z=>(hs.2 b hb).trans z) he new
theorem zfd{P:Aj}{w:Ax}{H':Hp}{h':Heap}{kvs:List (Key × V)}{vs:List (Key × Aa)}(z:kvs.length <= sizeLine)(hd:(a == Bu)=false)(rel:KV kvs vs)(dd:h'.DictOf (zaz P w) a vs) :
  ObjOk P w H' h' a (.dK kvs):=⟨z,hd,vs,rel,dd⟩
theorem zer{H':Hp}{Q:Unit -> Ab -> Prop}(hu:A.units + 1 < cLine)(I:Inv X pins σ H s)(g:DPut H a y v H')(ry:RelV y u)(rv:RelV v r)(h:∀s', Inv X pins σ H' s' -> Q () s') :
  Ao (As X.prog X.w) A (setItem (.ref a) u r) Q E s:=by
 rcases g with⟨kvs,k,e,ey,l,eH⟩ |⟨kvs,k,b,e,ey,eb,l,eH⟩
 .subst ey eH;obtain⟨z,hd,vs,rel,dd⟩:=dk_of I.hok e;have hz:vs.length<=sizeLine:=by rw[<- rel.length];exact z
  have hl:(putK kvs k v).length<=sizeLine:=by have:=zaP kvs k v;lia
  refine wpAny_setItem_pairs (hsz:=hz) (kV_is ry) dd λh' dd' hs=>h _ ?_
  have he:∃q,h'.get? a=some q:=let ⟨q,_,_,hq,_⟩:=dd';⟨q,hq⟩
  exact zcx I (by rw[e];exact Bo) hs he (zfd hl hd (rel.put k rv) dd')
 .subst ey eH
  cases (show u=AL b from ry)
  obtain⟨z,hd,xs,rel,dd⟩:=dt_of I.hok e;have hz:xs.length<=sizeLine:=by rw[<- Paired.length rel];exact z
  have hl:(putK kvs k v).length<=sizeLine:=by have:=zaP kvs k v;lia
  refine wpAny_setItem_heap (hsz:=hz) (tupleKind_room_in1 hu) (zdq I.hok eb) dd λh' dd' hs=>h _ ?_
  obtain⟨q,es,ep,hq,h2,h3,h4,_,h5⟩:=dd';refine zcx I (by rw[e];exact Bo) hs ⟨q,hq⟩ ⟨hl,hd,_,(rel.put k eb rv).keeps λc ys ec=>?_,q,es,ep,hq,h2,h3,h4,h5⟩;rw[zam (ne_of ec e (λz=>nomatch z))];exact ec
end
section
variable {X:Cx}{pins:List (Addr×Obj)}{σ:St}{H:Hp}{s:Ab}{a:Addr}{kvs:List (Key×V)}{k:Key}{u:Aa}{A:Au}{E:Aa->Ab->Prop}
end
noncomputable def tDIn(ty td:TE):TE:=λσ H Q=>ty σ H λy H1=>td σ H1 λx H2=>∃a o,x=.ref a/\DGet H2 a y o/\Q (.bl o.isSome) H2
noncomputable def sDPut(td ty tv:TE):TS:=λD σ H=>tv σ H λv H1=>td σ H1 λx H2=>ty σ H2 λy H3=>∃a H4,x=.ref a/\DPut H3 a y v H4/\D.nx σ H4
section
variable {X:Cx}{o i e value:Expr}{pos pos' tpos:Pos}{td ty tv:TE}
theorem ze7(hu:X.A.units+1<cLine)(hi:PE X i ty)(ho:PE X o td):PC X .In i o (tDIn ty td):=by
 intro pins s σ H Q I h;refine thn (hi pins s σ H _ I h) λiv s1 ⟨y,H1,I1,ry,q1⟩=>thn (ho pins s1 σ H1 _ I1 q1) λu s2 ⟨x,H2,I2,rx,a,ov,ex,g,q2⟩=>?_
 subst ex;obtain rfl:u=AL a:=rx;exact d_in hu I2 g ry λs3 I3=>⟨.bl ov.isSome,H2,I3,rfl,q2⟩
theorem zfr(hu:X.A.units + 1 < cLine)(ho:PE X o td)(hi:PE X i ty)(hv:PE X value tv)(hs:swapsWith value (some (.Subscript o i pos')) pos.line X.env=pure false) :
  PS X (.Assign [.Subscript o i pos'] value pos) (sDPut td ty tv):=by
 intro pins s σ H D I h;refine wpAny_Assign_Subscript (thn (hv pins s σ H _ I h) λr s1 ⟨v,H1,I1,rv,q1⟩=>thn (ho pins s1 σ H1 _ I1 q1) λu s2 ⟨x,H2,I2,rx,q2⟩=>thn (hi pins s2 σ H2 _ I2 q2) λiv s3 ⟨y,H3,I3,ry,a,H4,ex,g,q3⟩=>?_) hs;subst ex;obtain rfl:u=AL a:=rx;exact zer hu I3 g ry rv λs4 I4=>⟨σ,H4,I4,q3⟩
end
theorem zdt {P:Aj}{w:Ax}{H:Hp}(h:Heap) (hb:Bu<h.objs.size):ObjOk P w H (h.push { cls:=.type "dict",data:=.dict #[] }) h.objs.size (.dT []) :=
 ⟨AZ _,beq_eq_false_iff_ne.mpr (Br (AA hb)),[],.nil,_,#[],0,An _ rfl,⟨rfl,rfl,rfl⟩,rfl,rfl,List.nodup_nil⟩
noncomputable def zfQ:TE:=λ_ H Q=>∀p,H p=none->Q (.ref p) (upd H p (.dT []))
section
variable {X:Cx}{pos:Pos}
theorem zeH:PE X (.Dict [] [] pos) zfQ:=λpins s σ H Q I h =>
 wpAny_Dict_empty ⟨.ref s.heap.objs.size,_,I.laid (a:=s.heap.objs.size) (o:=.dT []) (t':=s.toks) (λ_ _ q=>Ae _ q) (Ai _) (zdt s.heap I.big),rfl,h _ (I.hok.fresh (Ai _))⟩
end
structure M1 (X:Cx) (o:Expr) (m:Str) (apos:Pos) (e:Expr) (cpos:Pos):Prop where
 base:attributeBase o m X.env (eval o X.env)=eval o X.env
 few:((backTo cpos (Ay [e] X.env)).all (λx=>!x.1) && (backToKw cpos (BI [] X.env)).all (λx=>x.1.isSome)
  && decide (([e]:List Expr).length+([]:List Keyword).length+(if ([]:List Keyword).isEmpty then 0 else 1)<30))=true
 line:(apos.endLine == cpos.line)=true
 trees:backTo cpos (Ay [e] X.env)=[(false,eval e X.env)]
structure M2 (X:Cx) (o:Expr) (m:Str) (apos:Pos) (e f:Expr) (cpos:Pos):Prop where
 base:attributeBase o m X.env (eval o X.env)=eval o X.env
 few:((backTo cpos (Ay [e,f] X.env)).all (λx=>!x.1) && (backToKw cpos (BI [] X.env)).all (λx=>x.1.isSome)
  && decide (([e,f]:List Expr).length+([]:List Keyword).length+(if ([]:List Keyword).isEmpty then 0 else 1)<30))=true
 line:(apos.endLine == cpos.line)=true
 trees:backTo cpos (Ay [e,f] X.env)=[(false,eval e X.env),(false,eval f X.env)]
section
variable {X:Cx}{pins:List (Addr×Obj)}{σ:St}{H:Hp}{s:Ab}{a:Addr}{y d:V}{u r:Aa}{o:Option V}{A:Au}{E:Aa->Ab->Prop}
end
section
variable {X:Cx}{o e f:Expr}{apos cpos:Pos}{td ty tx:TE}
end
section
variable {X:Cx}{pins:List (Addr×Obj)}{σ:St}{H:Hp}{s:Ab}{a:Addr}{kvs:List (Key×V)}{A:Au}{E:Aa->Ab->Prop}
end
section
variable {X:Cx}{pins:List (Addr×Obj)}{σ:St}{H:Hp}{s:Ab}{a:Addr}{y:V}{u:Aa}{A:Au}{E:Aa->Ab->Prop}
end
end L2
namespace HT
open PySem PyProof.Rows
noncomputable def lexLt:List Int->List Int->Bool
 |[],[]=>false
 |[],_::_=>true
 |_::_,[]=>false
 |x::xs,y::ys=>if x=y then lexLt xs ys else decide (x<y)
theorem lexLt_cons(x y:Int)(xs ys:List Int):lexLt (x::xs) (y::ys)=if x=y then lexLt xs ys else decide (x<y):=rfl
theorem zeS(A:Au)(s:Ab)(a:Int)(t:Tok)(c:Int)(u:Tok):∃e,SeqAt.EqAt A s (.int a t) (.int c u) e/\(e=true ↔ a=c) :=
 ⟨(a == c),SeqAt.EqAt.int_int a t c u,by simp⟩
section
open PySem.SeqAt
open PySem.AutoSeq1 (wpAny_loadPart')
open PySem.MeetsSeq PySem.MeetsSeq2 PySem.MeetsSeq3
end
section
variable {prog:Aj}{w:Ax}{A:Au}{E:Aa->Ab->Prop}{s:Ab}
noncomputable def sIx(n d:Nat):Option Int->Nat
 |none=>d
 |some v=>if v<0 then (v+(n:Int)).toNat else min v.toNat n
theorem sIx_none(n d:Nat):sIx n d none=d:=rfl
theorem sIx_nat(n d k:Nat):sIx n d (some (k:Int))=min k n:=by show (if (k:Int)<0 then ((k:Int)+(n:Int)).toNat else min (k:Int).toNat n)=min k n;rw[if_neg (by lia),Int.toNat_natCast]
end
end HT
namespace L2
open PySem PySem.Spec PyProof.Rows
noncomputable abbrev TO:=St->Hp->(Option Int->Hp->Prop)->Prop
noncomputable def PO(X:Cx)(e:Option Expr)(t:TO):Prop :=
 ∀(pins:List (Addr×Obj)) (s:Ab) (σ:St) (H:Hp) (Q:Option Int->Hp->Prop),Inv X pins σ H s->t σ H Q ->
  Ao (As X.prog X.w) X.A (evalPart e X.env) (λu s'=>∃o H',Inv X pins σ H' s'/\IsPart u o/\Q o H') X.xe s
noncomputable def zfh:TO:=λ_ H Q=>Q none H
noncomputable def tPart(t:TE):TO:=λσ H Q=>t σ H λx H1=>∃i,x=.int i/\Q (some i) H1
theorem zcc{ns:List Int}:∀{us:List Aa},Vals (ns.map V.int) us->BM us ns:=by
 induction ns with
 |nil=>intro us r;rw[List.map_nil]at r;cases r;exact .nil
 |cons n ns ih =>
  intro us r;rw[A5]at r
  cases r with
  |cons r1 r2 =>
   obtain⟨t,e⟩:=r1;subst e;exact .cons n t (ih r2)
section
variable {X:Cx}{e:Expr}{te:TE}{lo hi:Option Expr}{tl th:TO}{pos p2:Pos}
theorem zc1:PO X none zfh:=by intro pins s σ H Q I h;rw[evalPart_none];exact Av ⟨none,H,I,.none,h⟩
theorem zc0(h:PE X e te):PO X (some e) (tPart te):=by
 intro pins s σ H Q I hw;rw[evalPart_some];refine thn (h pins s σ H _ I hw) λu s1 ⟨x,H1,I1,r1,q1⟩=>?_
 obtain⟨i,rfl,q⟩:=q1;obtain⟨t,rfl⟩:=r1;exact⟨some i,H1,I1,.int i t,q⟩
noncomputable def SlR(X:Cx)(r:V->Option Int->Option Int->Hp->VK->Prop):Prop :=
 ∀(pins:List (Addr×Obj)) (s:Ab) (σ:St) (H:Hp) (x:V) (v vl vu:Aa) (lo hi:Option Int) (sl:Addr) (Q:VK),Inv X pins σ H s->RelV x v->s.heap.IsSliceOf sl vl vu .none->IsPart vl lo->IsPart vu hi->r x lo hi H Q ->
  ∃T id,typeLookup (.type T) "__getitem__" = pure (some (.builtin id))/\s.TypeIs v T/\Ao (As X.prog X.w) X.A (getItem v (.ref sl)) (EP X pins σ Q) X.xe s
noncomputable def tSl(r:V->Option Int->Option Int->Hp->VK->Prop)(te:TE)(tl th:TO):TE:=λσ H Q=>te σ H λx H1=>tl σ H1 λl H2=>th σ H2 λu H3=>r x l u H3 Q
theorem zck{r:V->Option Int->Option Int->Hp->VK->Prop}(hr:SlR X r)(he:PE X e te)(hl:PO X lo tl)(hu:PO X hi th):PE X (.Subscript e (.Slice lo hi none p2) pos) (tSl r te tl th):=by
 intro pins s σ H Q I h;refine Subscript_ (thn (he pins s σ H _ I h) λv s1 ⟨x,H1,I1,r1,q1⟩=>?_);refine wpAny_Slice (thn (hl pins s1 σ H1 _ I1 q1) λvl s2 ⟨l,H2,I2,pl,q2⟩=>thn (hu pins s2 σ H2 _ I2 q2) λvu s3 ⟨u,H3,I3,pu,q3⟩=>?_);rw[evalPart_none];refine Av ?_
 have I4:Inv X pins σ H3 { s3 with heap:=s3.heap.push { cls:=.type "slice",data:=.fields #[vl,vu,.none] } }:=I3.kept (t':=s3.toks) λb ob q=>Ae _ q
 obtain⟨T,id,hT,ht,hg⟩:=hr pins { s3 with heap:=s3.heap.push { cls:=.type "slice",data:=.fields #[vl,vu,.none] } } σ H3 x v vl vu l u s3.heap.objs.size Q I4 r1 (Heap.IsSliceOf.new ..) pl pu q3;show Ao (As X.prog X.w) X.A (subscriptTail e (.Slice lo hi none p2) v (.ref s3.heap.objs.size)) (EP X pins σ Q) X.xe { s3 with heap:=s3.heap.push { cls:=.type "slice",data:=.fields #[vl,vu,.none] } };exact tail_any (ops:=[.ref s3.heap.objs.size,v]) ht hT hg (by with_unfolding_all rfl)
noncomputable def cutV(xs:List V)(lo hi:Option Int):List V:=(xs.drop (HT.sIx xs.length 0 lo)).take (HT.sIx xs.length xs.length hi-HT.sIx xs.length 0 lo)
theorem zda(xs:List V)(lo hi:Option Int):(cutV xs lo hi).length<=xs.length:=by unfold cutV;rw[Bg,List.length_drop];lia
end
noncomputable def ixN(n:Nat)(i:Int):Option Nat:=if 0<=i then (if i<n then some i.toNat else none) else if -(n:Int)<=i then some (i+n).toNat else none
noncomputable def atI{α:Type}(xs:List α)(i:Int):Option α:=(ixN xs.length i).bind λj=>xs[j]?
theorem zfC{n:Nat}{i:Int}{j:Nat}(h:ixN n i=some j):seqIndex? i n=some j/\j<n/\-(n:Int)<=i/\i<n:=by
 unfold ixN at h
 by_cases h0:0<=i
 .rw[if_pos h0]at h
  by_cases h1:i<n
  .rw[if_pos h1]at h;have e:i.toNat=j:=AX h;exact⟨by rw[seqIndex_of h0 h1,e],by lia,by lia,h1⟩
  .rw[if_neg h1]at h;cases h
 .rw[if_neg h0]at h
  by_cases h1:-(n:Int)<=i
  .rw[if_pos h1]at h;have e:(i+n).toNat=j:=AX h;exact⟨by rw[seqIndex_neg (by lia) h1,e],by lia,h1,by lia⟩
  .rw[if_neg h1]at h;cases h
theorem zdb{α:Type}{xs:List α}{i:Int}{v:α}(h:atI xs i=some v):∃j,seqIndex? i xs.length=some j/\xs[j]?=some v/\j<xs.length/\-(xs.length:Int)<=i/\i<xs.length:=by
 unfold atI at h
 cases e:ixN xs.length i with
 |none=>rw[e]at h;cases h
 |some j =>
  rw[e]at h;obtain⟨h1,h2,h3,h4⟩:=zfC e;exact⟨j,h1,h,h2,h3,h4⟩
theorem zaY{α:Type}{xs:List α}{j:Nat}{v:α}(h:xs[j]?=some v):atI xs (j:Int)=some v:=by
 have hj:j<xs.length:=(Ah.mp h).1
 have e:ixN xs.length (j:Int)=some j:=by unfold ixN;rw[if_pos (by lia),if_pos (by lia)];simp
 unfold atI;rw[e];exact h
noncomputable def zfL(b:Expr):Prop:=∀o i,subscripted b false o i=operate [o,i] (getItem o i)
noncomputable def IxR(X:Cx)(r:R2):Prop :=
 ∀(value slice:Expr) (pins:List (Addr×Obj)) (s:Ab) (σ:St) (H:Hp) (x y:V) (v u:Aa) (Q:VK),Inv X pins σ H s->RelV x v->RelV y u->r x y H Q ->
  subscripted slice false v u=operate [v,u] (getItem v u)->Ao (As X.prog X.w) X.A (subscriptTail value slice v u) (EP X pins σ Q) X.xe s
noncomputable def MtR(X:Cx)(id:String)(r:V->List V->Hp->VK->Prop):Prop :=
 ∀(pins:List (Addr×Obj)) (s:Ab) (σ:St) (H:Hp) (x:V) (xs:List V) (v:Aa) (us:List Aa) (Q:VK),Inv X pins σ H s->RelV x v->Vals xs us->r x xs H Q ->
  Ao (As X.prog X.w) X.A (call (.builtin id) (v::us)) (EP X pins σ Q) X.xe s
section
variable {X:Cx}{a b:Expr}{ta tb:TE}{pos:Pos}
theorem pe_ix{r:R2}(hr:IxR X r)(ha:PE X a ta)(hb:PE X b tb)(hs:zfL b):PE X (.Subscript a b pos) (tOp r ta tb):=by intro pins s σ H Q I h;exact Subscript_ (binT ha hb I h λv u s2 x y H2 I2 rx ry q=>hr a b pins s2 σ H2 x y v u Q I2 rx ry q (hs _ _))
noncomputable def rIxL(K:W.Frag):R2:=λx y H Q=>∃p xs i v,x=.ref p/\y=.int i/\SqL K H p xs/\atI xs i=some v/\Q v H
noncomputable def rIxT(K:W.Frag):R2:=λx y H Q=>∃p xs i v,x=.ref p/\y=.int i/\SqT K H p xs/\atI xs i=some v/\Q v H
noncomputable def rIxS:R2:=λx y H Q=>∃z i c,x=.str z/\y=.int i/\z.length<=sizeLine/\atI z.cps.toList i=some c/\Q (.str ⟨#[c]⟩) H
theorem zap:IxR X (rIxL X.K):=by
 intro value slice pins s σ H x y v u Q I rx ry h hs;obtain⟨p,xs,i,z,rfl,rfl,hq,he,q⟩:=h
 cases rx
 obtain⟨t,rfl⟩:=ry;obtain⟨its,r,pl,hz⟩:=I.list hq;obtain⟨j,h1,h2,h3,h4,h5⟩:=zdb he;obtain⟨w,ew,rw'⟩:=r.get h2;have hl:=r.length;have hn:=zcL;have fin:EP X pins σ Q w s:=⟨z,H,I,rw',q⟩
 by_cases h0:0<=i
 .have hj:i.toNat=j := by rw[seqIndex_of h0 h5]at h1;exact AX h1
  exact item_listR pl.isList h0 (by lia) (by rw[hj];simpa using ew) fin hs
 .have hj:(i + (its.toArray.size:Int)).toNat=j := by rw[seqIndex_neg (by lia) h4]at h1;rw[Ar,<- hl];exact AX h1
  exact subscriptTail_builtinR (x:=w) pl.isList.typeIs slot_list_getitem.lookup
   (wpAny_getItem_list_neg (Q:=λr s'=>r=w/\EP X pins σ Q r s') pl.isList (by lia) (by rw[Ar] <;> lia) (by lia) (by rw[hj];simpa using ew) ⟨rfl,fin⟩) hs
theorem zbp:IxR X (rIxT X.K):=by
 intro value slice pins s σ H x y v u Q I rx ry h hs;obtain⟨p,xs,i,z,rfl,rfl,hq,he,q⟩:=h
 cases rx
 obtain⟨t,rfl⟩:=ry;obtain⟨its,r,pl,hz⟩:=I.tuple hq;obtain⟨j,h1,h2,h3,h4,h5⟩:=zdb he;obtain⟨w,ew,rw'⟩:=r.get h2;have hl:=r.length;have hn:=zcL;have fin:EP X pins σ Q w s:=⟨z,H,I,rw',q⟩
 exact subscriptTail_builtinR (x:=w) pl.typeIs slot_tuple_getitem.lookup
  (getItem_tuple (j:=j) (Q:=λr s'=>r=w/\EP X pins σ Q r s') pl (by lia) (by lia) (by rw[Ar,<- hl];exact h1) (by simpa using ew) ⟨rfl,fin⟩) hs
theorem zf9:IxR X rIxS:=by
 intro value slice pins s σ H x y v u Q I rx ry h hs;obtain⟨z,i,c,rfl,rfl,hz,he,q⟩:=h;obtain⟨t,rfl⟩:=rx;obtain⟨t',rfl⟩:=ry;obtain⟨j,h1,h2,h3,h4,h5⟩:=zdb he;have hl:z.cps.toList.length=z.length:=by simp[Str.length]
 rw[hl]at h1 h4 h5;have hn:=zcL
 exact tail_any (typeIs_str s z t) slot_str_getitem.lookup (getItem_str (c:=c) (by
  have e1:decide (i < -(2 ^ 63:Int))=false:=decide_eq_false (by lia);have e2:decide (i ≥ 2 ^ 63)=false:=decide_eq_false (by lia);rw[e1,e2,Bool.or_false]) (by rw[h1];simpa using h2) ⟨.str ⟨#[c]⟩,H,I.tok _,⟨_,rfl⟩,q⟩) hs
theorem zcF(lo hi:Option Int)(n:Nat):(B4 lo hi none n).1=((HT.sIx n 0 lo:Nat):Int)/\(B4 lo hi none n).2.1=((HT.sIx n n hi:Nat):Int)/\(B4 lo hi none n).2.2=1:=by
 refine⟨?_,?_,rfl⟩
 .cases lo with
  |none=>simp[B4,HT.sIx]
  |some i =>
   simp only[B4,HT.sIx,Option.getD_none,show (1:Int) > 0 by decide,if_true]
   by_cases h:i<0
   .simp only[h,if_true] <;> lia
   .simp only[h,if_false] <;> lia
 .cases hi with
  |none=>simp[B4,HT.sIx]
  |some i =>
   simp only[B4,HT.sIx,Option.getD_none,show (1:Int) > 0 by decide,if_true]
   by_cases h:i<0
   .simp only[h,if_true] <;> lia
   .simp only[h,if_false] <;> lia
theorem zcg(its:List Aa)(lo hi:Option Int):slicePick its.toArray lo hi none=((its.drop (HT.sIx its.length 0 lo)).take (HT.sIx its.length its.length hi-HT.sIx its.length 0 lo)).toArray:=by obtain⟨h1,h2,h3⟩:=zcF lo hi its.toArray.size;unfold slicePick;rw[h1,h2,h3];simp only[sliceRange_one,pick_run,Ar] <;> rfl
noncomputable def rSlL(K:W.Frag):V->Option Int->Option Int->Hp->VK->Prop:=λx lo hi H Q=>∃a xs,x=.ref a/\SqL K H a xs/\∀p,H p=none->Q (.ref p) (upd H p (.lst (cutV xs lo hi)))
theorem zcZ:SlR X (rSlL X.K):=by
 intro pins s σ H x v vl vu lo hi sl Q I rx hs pl pu h;obtain⟨a,xs,rfl,hx,q⟩:=h
 cases rx
 obtain⟨its,r,ht,hz⟩:=I.list hx;have hlen:=r.length;refine⟨"list",_,slot_list_getitem.lookup,ht.isList.typeIs,?_⟩;refine wpAny_getItem_list_slice ht.isList hs pl pu .none (by simp) ?_ (by rw[Ar] <;> lia)
 rw[zcg,<- hlen];refine⟨.ref s.heap.objs.size,_,I.laid (t':=s.toks) (o:=.lst (cutV xs lo hi)) (λb ob q=>Ae _ q) (Ai _) ?_,rfl,q _ (I.hok.fresh (Ai _))⟩;exact⟨AY (zda xs lo hi) hz,_,0,(r.drop (HT.sIx xs.length 0 lo)).take (HT.sIx xs.length xs.length hi-HT.sIx xs.length 0 lo),An _ rfl⟩
theorem zaA:CallR X (.builtin "len") (λxs H Q=>∃p ys,xs=[.ref p]/\(SqL X.K H p ys∨SqT X.K H p ys)/\Q (.int ys.length) H):=by
 intro pins s σ H xs us Q I r h;obtain⟨p,ys,rfl,hq,q⟩:=h;obtain⟨u,rfl,rx⟩:=vals1 r
 cases rx
 have hn:=zcL;rcases hq with hq |hq
 .obtain⟨its,r',pl,hz⟩:=I.list hq;have hlen:=r'.length;exact Calls.call_len_list pl.isList (by simp only[Ar] <;> lia) ⟨.int ys.length,H,I.tok _,⟨s.toks+1,by rw[Ar,hlen]⟩,q⟩
 .obtain⟨its,r',pl,hz⟩:=I.tuple hq;have hlen:=r'.length;exact len_tuple pl (by simp only[Ar] <;> lia) ⟨.int ys.length,H,I.tok _,⟨s.toks+1,by rw[Ar,hlen]⟩,q⟩
theorem zcR:CallR X (.type "list") (λxs H Q=>∃p ys,xs=[.ref p]/\(SqL X.K H p ys∨SqT X.K H p ys)/\∀l,H l=none->Q (.ref l) (upd H l (.lst ys))):=by
  intro pins s σ H xs us Q I r h;obtain⟨p,ys,rfl,hq,q⟩:=h;obtain⟨u,rfl,rx⟩:=vals1 r
  cases rx
  have fin:∀(its:List Aa), Vals ys its -> ys.length <= sizeLine -> ∀(h':Heap) (c':Nat), (∀b o', s.heap.get? b=some o' -> h'.get? b=some o') ->
      h'.get? s.heap.objs.size=some { cls:=.type "list",dict:=none,data:=.seq its.toArray c',slots:=#[] }->EP X pins σ Q (.ref s.heap.objs.size) { s with heap:=h' }:=λits r' hz h' c' kp e =>
    ⟨.ref s.heap.objs.size,_,I.laid (t':=s.toks) kp (Ai _) (show ObjOk X.prog X.w _ h' _ (.lst ys) from ⟨hz,its,c',r',e⟩),rfl,q _ (I.hok.fresh (Ai _))⟩
  rcases hq with hq |hq
  . obtain⟨its,r',pl,hz⟩:=I.list hq;have hlen:=r'.length;obtain⟨o,ho,hc,n,hd⟩:=pl.isList;exact call_list_seq p (.inl rfl) ho hc hd (λh' c' kp e=>fin its r' hz h' c' kp e) (by simp only[Ar] <;> lia)
  . obtain⟨its,r',pl,hz⟩:=I.tuple hq;have hlen:=r'.length;obtain⟨o,ho,hc,n,hd⟩:=pl;exact call_list_seq p (.inr rfl) ho hc hd (λh' c' kp e=>fin its r' hz h' c' kp e) (by simp only[Ar] <;> lia)
noncomputable def tyV(K:W.Frag)(T:String)(x:V)(H:Hp):Prop:=match x with
  |.str _=>T = "str"
  |.int _=>T = "int"
  |.ref p => (T = "list" /\ ∃xs, SqL K H p xs) ∨ (T = "tuple" /\ ∃o, K.lookup p=some o /\ o.cls = .type "tuple" /\ o.dict=none) ∨
      (T = "dict" /\ ((∃kvs,H p=some (.dK kvs))∨∃kvs,H p=some (.dT kvs)))∨(T = "set" /\ ∃S n,H p=some (.set S n))
  |_=>False
theorem zfM{pins:List (Addr × Obj)}{σ : St}{H:Hp}{s:Ab}{T:String}{x:V}{v:Aa}(I:Inv X pins σ H s)(r:RelV x v)(ty:tyV X.K T x H) :
  s.TypeIs v T/\∀a,v=.ref a->∃ob,s.heap.get? a=some ob/\ob.dict=none:=by
 cases x with
 |str z =>
  obtain⟨t,rfl⟩:=r
  cases (show T = "str" from ty)
  exact⟨typeIs_str s z t,λ_ e=>nomatch e⟩
 |int i =>
  obtain⟨t,rfl⟩:=r
  cases (show T = "int" from ty)
  exact⟨typeIs_int s i t,λ_ e=>nomatch e⟩
 |ref p =>
  cases r
  rcases ty with⟨rfl,xs,hq⟩ |⟨rfl,o,hk,hc,hd⟩ |⟨rfl,hk⟩ |⟨rfl,S,n,hk⟩
  .obtain⟨its,_,pl,_⟩:=I.list hq;refine⟨pl.isList.typeIs,λa e=>?_⟩
   cases e
   obtain⟨o,n,e,c,hd,_⟩:=pl;exact⟨o,e,hd⟩
  .refine⟨⟨o,I.kIn p o hk,hc⟩,λa e=>?_⟩
   cases e
   exact⟨o,I.kIn _ o hk,hd⟩
  .have z:∃o, s.heap.get? p=some o /\ o.ExactDict := by
    rcases hk with⟨kvs,hk⟩ |⟨kvs,hk⟩
    .obtain⟨_,_,_,_,o,_,_,e,ex,_⟩:=I.hok p _ hk;exact⟨o,e,ex⟩
    .obtain⟨_,_,_,_,o,_,_,e,ex,_⟩:=I.hok p _ hk;exact⟨o,e,ex⟩
   obtain⟨o,e,ex⟩:=z;refine⟨⟨o,e,ex.1⟩,λa e2=>?_⟩
   cases e2
   exact⟨o,e,ex.2.1⟩
  .obtain⟨o,_,_,_,e,ex,_⟩:=I.hok p _ hk;refine⟨⟨o,e,ex.1⟩,λa e2=>?_⟩
   cases e2
   exact⟨o,e,ex.2.1⟩
 |_=>exact Bb ty
noncomputable def tBM(K:W.Frag)(T:String)(r:V->List V->Hp->VK->Prop)(to:TE)(t:TA):TE:=λσ H Q=>to σ H λx H1=>tyV K T x H1/\t σ H1 λxs H2=>r x xs H2 Q
variable {o e:Expr}{es:List Expr}{to:TE}{t:TA}{name:Str}{apos cpos:Pos}{T id:String}{r:V->List V->Hp->VK->Prop}
theorem pe_bm (pa:PlainAttrs T) (slot:Slot T name id) (hty:typeOf (.builtin id)=pure (.type "method_descriptor")) (hm:MtR X id r) (ho:PE X o to) (ha:PA X (e :: es) t)
  (hbase:attributeBase o name X.env (eval o X.env)=eval o X.env:=by rfl)
  (hfew:((backTo cpos (Ay (e::es) X.env)).all (λx=>!x.1) && (backToKw cpos (BI [] X.env)).all (λx=>x.1.isSome)
   && decide ((e::es).length+([]:List Keyword).length+(if ([]:List Keyword).isEmpty then 0 else 1)<30))=true:=by rfl)
  (hline:(apos.endLine == cpos.line)=true:=by rfl) (hs:Ay (e::es) X.env=(false,eval e X.env)::Ay es X.env:=by rfl) (hplain:(backTo cpos (Ay es X.env)).any (·.1)=false:=by rfl) :
  PE X (.Call (.Attribute o name apos) (e::es) [] cpos) (tBM X.K T r to t):=by
 intro pins s σ H Q I h;refine wpAny_Call_method_late hbase hfew hline rfl (thn (ho pins s σ H _ I h) λv s1 ⟨x,H1,I1,r1,ty,q1⟩=>?_);obtain⟨h1,h2⟩:=zfM I1 r1 ty;refine⟨T,id,pa,slot,hty,h1,h2,?_⟩;have hA:=ha cpos pins s1 σ H1 _ I1 q1;rw[hs]at hA ⊢;refine Calls.callWith_builtin (by show (false || (backTo cpos (Ay es X.env)).any (·.1))=false;rw[hplain] <;> rfl) (Calls.evalArgs_plain ?_);exact thn hA λus s2 ⟨vs,H2,I2,r2,q2⟩=>hm pins s2 σ H2 x vs v us Q I2 r1 r2 q2
/- xs.append(e),list.index on a module's tuple .. are MtR facts of 06m -/
end
noncomputable def MtM(X:Cx)(id:String)(r:V->List V->Hp->VK->Prop):Prop :=
 ∀(pins:List (Addr×Obj)) (s:Ab) (σ:St) (H:Hp) (x:V) (xs:List V) (v:Aa) (us:List Aa) (Q:VK),Inv X pins σ H s->RelV x v->Vals xs us->r x xs H Q ->
  Ao (As X.prog X.w) X.A (call (.builtin id) (v::us)) (EP X pins σ Q) X.xe s
theorem Vals.one:∀{x:V}{us:List Aa},Vals [x] us->∃u,us=[u]/\RelV x u
 |_,_,.cons r .nil=>⟨_,rfl,r⟩
theorem Vals.two:∀{x y:V}{us:List Aa},Vals [x,y] us->∃u v,us=[u,v]/\RelV x u/\RelV y v
 |_,_,_,.cons r (.cons q .nil)=>⟨_,_,rfl,r,q⟩
section
variable {X:Cx}{pins:List (Addr×Obj)}{σ:St}{H:Hp}{s:Ab}{l b:Addr}{xs ys zs:List V}
theorem Inv.lset{its its':List Aa}{n:Nat}{f:Array Aa -> Array Aa}{t':Nat}(I:Inv X pins σ H s)(hH:H l=some (.lst xs))
  (e:s.heap.get? l=some { cls:=.type "list",data:=.seq its.toArray n }) (hf:f its.toArray=its'.toArray) (hv:Vals ys its') (hz:ys.length<=sizeLine) :
  Inv X pins σ (upd H l (.lst ys)) { s with heap:=s.heap.update l (Obj.mapSeq f),toks:=t' }:=by
 have q:=PySem.IsL.update e f;rw[hf]at q;refine I.write (x:=l) (e:=l) (by rw[hH];exact trivial) (.inl rfl) (λb' u hb hu=>(AD s.heap (Obj.mapSeq f) (Br hb)).trans hu) ⟨_,q⟩ ?_
 exact⟨hz,its',_,hv,q⟩
theorem Inv.lnew{its:List Aa}{t':Nat}(I:Inv X pins σ H s)(hv:Vals ys its)(hz:ys.length <= sizeLine) :
  Inv X pins σ (upd H s.heap.objs.size (.lst ys)) { s with heap:=s.heap.push { cls:=.type "list",data:=.seq its.toArray },toks:=t' } :=
 I.laid (λ_ _ q=>Ae _ q) (Ai _) ⟨hz,its,0,hv,An _ rfl⟩
theorem Inv.fresh(I:Inv X pins σ H s):H s.heap.objs.size=none:=I.hok.fresh (Ai _)
theorem Inv.lstM (I:Inv X pins σ H s) (hH:H l=some (.lst xs)):xs.length<=sizeLine/\∃(its:List Aa) (n:Nat),Vals xs its/\xs.length=its.length/\s.heap.get? l=some { cls:=.type "list",data:=.seq its.toArray n }:=by obtain⟨z,its,n,r,e⟩:=I.hok l _ hH;exact⟨z,its,n,r,r.length,e⟩
theorem zeK{n:Nat}(h:n<=sizeLine):BT n=false:=by unfold BT;exact decide_eq_false (by lia)
end
section
variable {X:Cx}
noncomputable def zfo:V->List V->Hp->VK->Prop:=λx vs H Q=>∃l xs y,x=.ref l/\vs=[y]/\H l=some (.lst xs)/\xs.length<sizeLine/\Q .non (upd H l (.lst (xs++[y])))
theorem zba:MtM X "list.append" zfo:=by
 intro pins s σ H x vs v us Q I rx rv h;obtain⟨l,xs,y,rfl,rfl,hH,hz,q⟩:=h
 cases rx
 obtain⟨u,rfl,ru⟩:=rv.one;obtain⟨z,its,n,r,hl,e⟩:=I.lstM hH;refine call_meets F.slot_list_append ⟨_,e,rfl⟩ F.entry_list_append (F.args_list_append_2 _ _) (PySem.list_append l its.toArray n u (by rw[Ar];lia)) ⟨e,?_⟩;refine⟨.non,_,I.lset (its':=its++[u]) hH e (by simp) (r.append (.cons ru .nil)) ?_,rfl,q⟩;rw[AK,List.length_singleton];lia
noncomputable def zfn:V->List V->Hp->VK->Prop:=λx vs H Q=>∃l b xs zs,x=.ref l/\vs=[.ref b]/\H l=some (.lst xs)/\H b=some (.lst zs)/\xs.length+zs.length<=sizeLine/\Q .non (upd H l (.lst (xs++zs)))
theorem zed:MtM X "list.extend" zfn:=by
 intro pins s σ H x vs v us Q I rx rv h;obtain⟨l,b,xs,zs,rfl,rfl,hH,hB,hz,q⟩:=h
 cases rx
 obtain⟨u,rfl,ru⟩:=rv.one
 cases ru
 obtain⟨z,its,n,r,hl,e⟩:=I.lstM hH;obtain⟨z2,its2,n2,r2,hl2,e2⟩:=I.lstM hB;have hsz:its.toArray.size+its2.toArray.size<=sizeLine:=by rw[Ar,Ar];lia
 have hlong:¬ (!its.toArray.isEmpty && BT (its.toArray.size+its2.toArray.size))=true:=by rw[zeK hsz,Bool.and_false];exact Aw
 refine call_meets F.slot_list_extend ⟨_,e,rfl⟩ F.entry_list_extend (F.args_list_extend_2 _ _)
  (AutoSeq1.list_extend_list_list_0 l its.toArray n b its2.toArray n2 hlong (by rw[Ar];lia) (by lia)) ⟨e,e2,?_⟩
 refine⟨.non,_,I.lset (its':=its++its2) hH e (by simp) (r.append r2) ?_,rfl,q⟩;rw[AK];lia
noncomputable def rCat:R2:=λx y H Q=>∃l b xs zs,x=.ref l/\y=.ref b/\H l=some (.lst xs)/\H b=some (.lst zs)/\xs.length+zs.length<=sizeLine/\∀p,H p=none->Q (.ref p) (upd H p (.lst (xs++zs)))
theorem zd8:OpR X (BS .Add) rCat:=by
 intro pins s σ H x y v u Q I rx ry h;obtain⟨l,b,xs,zs,rfl,rfl,hH,hB,hz,q⟩:=h
 cases rx
 cases ry
 obtain⟨z,its,n,r,hl,e⟩:=I.lstM hH;obtain⟨z2,its2,n2,r2,hl2,e2⟩:=I.lstM hB;refine PySem.P.add_list e e2 ?_ (by rw[Ar,Ar];lia)
 have ea:its.toArray++its2.toArray=(its++its2).toArray:=by simp
 rw[ea];exact⟨.ref _,_,I.lnew (t':=s.toks) (r.append r2) (by rw[AK];lia),rfl,q _ I.fresh⟩
end
section
variable {prog:Aj}{w:Ax}{A:Au}{E:Aa->Ab->Prop}{s:Ab}
end
section
variable {X:Cx}
end
end L2
namespace Att
open PySem PySem.W PySem.Calls PyProof.Rows
theorem zbS{P:Params}{h:Heap}:∀(ns:List Int) (vs:List Aa),WellAll P h vs (ns.map WData.int)->BM vs ns:=by
 intro ns
 induction ns with
 |nil =>
  intro vs w;rw[List.map_nil]at w
  cases w
  exact .nil
 |cons n ns ih =>
  intro vs w;rw[A5]at w
  cases w with
  |cons a b =>
   cases a
   exact .cons _ _ (ih _ b)
theorem zdS{l:OpenLaw}{n:Nat}(hn:l.most=some n){P:Params}{h:Heap}{args:List WData}{vals:List Aa}
  (hpre:l.row.toRowW.claim.pre args=true) (hwl:WellAll P h vals args) :
  ∃a vs ns,vals=[AL a]/\args=[WData.list (ns.map WData.int)]/\h.get? a=some { cls:=.type "list",data:=.seq vs.toArray }/\BM vs ns/\ns.length<=n:=by
 have hsh:WShape.hasAll [] args [.list .int]=true:=(pre_splitW hpre).1;have hc:l.pre.holds [] { args:=args }=true:=(pre_splitW hpre).2;obtain⟨d,r,rfl,h1,h2⟩:=hasAllW_cons hsh;obtain rfl:=hasAllW_nil h2;obtain⟨xs,rfl,h3⟩:=hasW_list h1;obtain⟨ns,rfl⟩:=items_int h3
 have hlen:ns.length<=n:=by
  unfold OpenLaw.pre at hc
  have h4:(WTm.not (.lt (.lit (.int (n:Int))) (.len (.arg 0)))).holds [] { args:=[.list (ns.map .int)] }=true:=by have h4:=(holds_andW hc).1;rw[hn]at h4;exact h4
  have h5:=condW_of h4 (w_not (w_lt w_lit (w_len_list (w_arg rfl))));rw[Af]at h5;refine Nat.le_of_not_lt λq=>?_
  have q':(n:Int)<((ns.length:Nat):Int):=by lia
  first
   | (rw[decide_eq_true q']at h5;exact absurd h5 (by decide))
   | (simp at h5;lia)
 cases hwl with
 |cons w1 w2 =>
  cases w2
  cases w1 with
  |list ho hall=>exact⟨_,_,ns,rfl,rfl,ho,zbS ns _ hall,hlen⟩
theorem zdZ(l:OpenLaw)(args:List WData):l.row.toRowW.claim.post args (.bool true) args=true :=
 postW_of (r:=l.row.toRowW) (X:=(true == true))
  (show WShape.has [] (.bool true) .bool=true by first |rfl |decide |simp[WShape.has,WShape.arms,WShape.armsAll])
  (show (WTm.eq .res (.lit (.bool true))).value [] { args:=args,res:=some (.bool true),after:=args }=some (.bool (true == true)) from w_eq_bool (w_res rfl) w_lit) rfl
theorem attach_call{l:OpenLaw}{n:Nat}{q:Aj}{loose:List Str}{XP:(Str -> Option Aa) -> Heap -> Prop}{YP:Ax -> Heap -> Prop}{d:DefRec}
  (hn:l.most=some n) (hdf:d.params.defaults=[])
  (call:∀(w:Ax) (s₀ s₁:Ab) (mg mb:Str->Option Aa) (fa:Addr) (o:Obj) (pm cd doc:Aa) (a:Addr) (vs:List Aa) (ns:List Int),
   Ground q loose [] XP w s₀ mg mb s₁.heap->YP w s₁.heap ->
   s₁.heap.get? fa=some o->o.data=.func (docDef d.name d.params d.body d.scope pm cd doc)->s₁.heap.CodeRec cd d.name->mg d.name=some (.ref fa) ->
   s₁.heap.get? a=some { cls:=.type "list",data:=.seq vs.toArray }->BM vs ns->ns.length<=n->s₁.gens=#[] ->
   BG (As l.prog w) callerA (.call (.ref fa) ⟨[.ref a],[]⟩) (λr s'=>r=.ok (.ret (.bool true))/\OldK s₁.heap s'.heap/\s'.os=s₁.os/\AllBare s'.gens) s₁) :
  WalkO q loose XP YP l.row.toRowW d [] (λf vs=>PySem.call f vs):=by
 intro w s₀ s₁ mg mb G Y fa o pm cd doc dV kV ho hd hcd hD hmg hg args vals as hpre hlay hrd hwl hlo;obtain rfl:dV=.none:=Dflts.none hD hdf;obtain rfl:kV=.none:=Dflts.noKw hD;obtain⟨a,vs,ns,rfl,rfl,hobj,hints,hlen⟩:=zdS hn hpre hwl;refine enter_call (codeAny_mono (call w s₀ s₁ mg mb fa o pm cd doc a vs ns G Y ho (fd_plain hd) hcd hmg hobj hints hlen hg) λr s' hq=>?_);obtain⟨rfl,h2,h3,h4⟩:=hq;exact⟨.inl ⟨.bool true,.bool true,[],rfl,λ_=>rfl,.bool true,zdZ l _,λ_=>⟨List.Pairwise.nil,λ_ hm=>(nomatch hm)⟩⟩,h2,h3,h4⟩
section
variable {prog:Aj}{w:Ax}{A:Au}{E:Aa->Ab->Prop}{s:Ab}{K:Frag}
noncomputable def zgg(h:Heap)(L d:Addr):List (Addr×Obj):=(AU h.objs.size).filterMap λa=>if a=L∨a=d then none else (h.get? a).map λo=>(a,o)
end
end Att
namespace L2
open PySem PySem.Spec PyProof.Rows
theorem zcz:∀{vs:List Aa}{ns:List Int},BM vs ns->Vals (ns.map V.int) vs
 |_,_,.nil=>.nil
 |_,_,.cons n t h=>.cons ⟨t,rfl⟩ (zcz h)
noncomputable def Only(H:Hp):Prop:=∀b,H b=none∨∃o xs,H b=some (.frz o (.lst xs))
theorem zeO{P:Aj}{w:Ax}{K:W.Frag}{mg mb:Str -> Option Aa}{CX:CXT}{k:Nat}{fa a:Addr}{fd:AO}{x:Str}{sp:Sp}{s₁ : Ab}{vs:List Aa}{ns:List Int}
    (KX:K.In s₁.heap) (hns:s₁.heap.Ns Ap mg) (hb:s₁.heap.Ns builtinsNs mb) (hbb:∀x:Str,x ≠ "__name__" -> mb x=bootBuiltins x) (hlim:s₁.heap.NoLimit) (hg:s₁.gens=#[])
    (ha:s₁.heap.get? a=some { cls:=.type "list",data:=.seq vs.toArray }) (hi:BM vs ns) (hl:ns.length<=sizeLine) (hr:Room k callerA)
    (F:∀base:Heap,K.In base->base.Ns Ap mg->FnOk P w K mg base CX k fa fd [x] sp) (hbind:∀(s:Ab) (u:Aa),BindsTo s fd ⟨[u],[]⟩ [(x,u)])
    (hsp:∀H:Hp,Only H->SqL K H a (ns.map V.int)->sp [.ref a] H (λv _=>v=.bl true) λ_ _ _=>False)
    (hCX:∀H e s',CX [] H s₁ (λ_ _ _=>False) e s'->False) :
    BG (As P w) callerA (.call (.ref fa) ⟨[.ref a],[]⟩) (λr s'=>r=.ok (.ret (.bool true))/\OldK s₁.heap s'.heap/\s'.os=s₁.os/\AllBare s'.gens) s₁:=by
  have rv:=zcz hi;have lenV:=hi.length
  have core:∀H:Hp, Only H -> SqL K H a (ns.map V.int) -> HOk P w H s₁.heap -> (∀b, H b ≠ none -> b=a) -> (H a ≠ none -> K.lookup a=none) ->
      BG (As P w) callerA (.call (.ref fa) ⟨[.ref a],[]⟩) (λr s'=>r=.ok (.ret (.bool true))/\OldK s₁.heap s'.heap/\s'.os=s₁.os/\AllBare s'.gens) s₁:=by
    intro H hO hS hok hA hK;have base_of:∀{b:Addr} {o:Obj},s₁.heap.get? b=some o->H b=none->(hidT s₁.heap H).get? b=some o:=λe n=>zeR e n
    have noA:∀{b:Addr} {o:Obj} {es:Array DictEntry} {ep:Nat},s₁.heap.get? b=some o->o.data=.dict es ep->H b=none:=λ{b o es ep} e d=>by
      cases q:H b with
      |none=>rfl
      |some u =>
        have e':b=a:=hA b (by rw[q];simp);subst e';rw[ha]at e;cases e;have d':Data.seq vs.toArray _=Data.dict es ep:=d
        cases d'
    have nsK:∀{b:Addr} {m:Str->Option Aa},s₁.heap.Ns b m->(hidT s₁.heap H).Ns b m:=λ{b m} ⟨o,es,ep,e,d,r⟩=>⟨o,es,ep,base_of e (noA e d),d,r⟩
    have hKb:K.In (hidT s₁.heap H):=λb o e=>base_of (KX b o e) (by
      cases q:H b with
      |none=>rfl
      |some u =>
        have e':b=a:=hA b (by rw[q];simp);subst e';rw[hK (by rw[q];simp)]at e;cases e)
    have hM:Mod K mg (hidT s₁.heap H):=⟨hKb,nsK hns,⟨mb,nsK hb,hbb⟩,let ⟨mc,h1,h2⟩:=hlim;⟨mc,nsK h1,h2⟩⟩;have e0:Env0 P w K mg (hidT s₁.heap H) callerA [] s₁ H:=⟨rfl,hM,λb o e=>zfB e,Nat.le_of_eq (zen _ _),trivial,λb hb=>absurd (show b∈([]:List Addr) from hb) (by simp),hok,.of_eq hg⟩;refine codeAny_mono ((F _ hKb (nsK hns)).run callerA [] s₁ H ⟨[.ref a],[]⟩ [.ref a] [.ref a] _ _ hr e0 (hbind s₁ (.ref a)) (.cons rfl .nil) (hsp H hO hS)) λr s' h=>?_
    cases r with
    |error e=>exact (hCX H e s' h).elim
    |ok fl =>
      cases fl with
      |next=>exact Bb h
      |brk=>exact Bb h
      |cont=>exact Bb h
      |ret u =>
        obtain⟨v,H',os,bare,un,hok',r',q⟩:=h;have q':v=.bl true:=q;subst q';obtain rfl:u=Value.bool true:=r';refine⟨rfl,OldK.of_keep λb o e=>?_,os,bare⟩
        cases q:H b with
        |none=>exact un.keep b o e q (by intro z;exact absurd (show b∈([]:List Addr) from z) (by simp)) (by simp)
        |some u =>
          rcases hO b with z |⟨ob,xs,z⟩
          . rw[q]at z;cases z
          . have z2:=un.frzs b ob _ z;obtain⟨e1,_⟩:=hok b _ z;obtain⟨e2,_⟩:=hok' b _ z2;rw[e]at e1;cases e1;exact e2
  cases hk:K.lookup a with
  |some o =>
    have e:=KX a o hk;rw[ha]at e
    cases e
    refine core (λ_=>none) (λ_=>.inl rfl) (.inr ⟨_,vs.toArray,_,hk,rfl,rfl,rfl,by rw[Ar,lenV];exact hl,by simpa using rv⟩) (λb u z=>by have z':(none:Option HO)=some u:=z;cases z') (λb z=>absurd rfl z) λz=>absurd rfl z
  |none =>
    refine core (λb=>if b=a then some (.frz { cls:=.type "list",data:=.seq vs.toArray } (.lst (ns.map V.int))) else none) (λb=>?_) (.inl (.inr ⟨{ cls:=.type "list",data:=.seq vs.toArray },if_pos rfl⟩)) (λb u z=>?_) (λb z=>?_) λ_=>hk
    . by_cases hb:b=a
      . exact .inr ⟨_,_,if_pos hb⟩
      . exact .inl (if_neg hb)
    . by_cases hb:b=a
      . have z':=(if_pos hb).symm.trans z
        cases z'
        subst hb;exact⟨ha,by rw[Af];exact hl,vs,_,rv,ha⟩
      . have z':=(if_neg hb).symm.trans z
        cases z'
    . by_cases hb:b=a
      . exact hb
      . exact absurd (if_neg hb) z
noncomputable abbrev KOf{K:W.Frag}{h:Heap}(_:K.In h):W.Frag:=K
theorem walk_of{l:W.OpenLaw}{n k:Nat}{q:Aj}{loose:List Str}{XP:(Str -> Option Aa) -> Heap -> Prop}{YP:Ax -> Heap -> Prop}{d:DefRec}{K:Params -> W.Frag}{CX:Ax -> CXT}{sp:Ax -> Sp}{x:Str}
  (hn:l.most=some n) (hn2:n<=sizeLine) (hdf:d.params.defaults=[]) (hr:Room k callerA)
  (hY:∀(w:Ax) (h:Heap),YP w h->(K w.params).In h)
  (F:∀(w:Ax) (mg:Str->Option Aa) (fa:Addr) (h:Heap),(K w.params).In h->h.Ns Ap mg->mg d.name=some (.ref fa) ->
   ∃fd:AO,(∀(s:Ab) (u:Aa),BindsTo s fd ⟨[u],[]⟩ [(x,u)]) /\
    ∀base:Heap,(K w.params).In base->base.Ns Ap mg->FnOk l.prog w (K w.params) mg base (CX w) k fa fd [x] (sp w))
  (hsp:∀(w:Ax) (H:Hp) (a:Addr) (ns:List Int),ns.length<=n->Only H->SqL (K w.params) H a (ns.map V.int)->sp w [.ref a] H (λv _=>v=.bl true) λ_ _ _=>False)
  (hCX:∀(w:Ax) (H:Hp) (s:Ab) (e:Aa) (s':Ab),CX w [] H s (λ_ _ _=>False) e s'->False) :
  W.WalkO q loose XP YP l.row.toRowW d [] (λf vs=>PySem.call f vs):=by
 refine Att.attach_call hn hdf λw s₀ s₁ mg mb fa o pm cd doc a vs ns G Y ho hd hcd hmg hobj hints hlen hg=>?_
 have KX:=hY w _ Y;obtain⟨fd,hb,hF⟩:=F w mg fa _ KX G.T.g hmg;exact zeO KX G.T.g G.T.b G.T.builtins G.T.nolimit hg hobj hints (AY hlen hn2) hr hF hb (λH hO hS=>hsp w H a ns hlen hO hS) λH e s'=>hCX w H s₁ e s'
end L2
/- THE LAST THEOREM (shape; LID, My.* are yours):
  My.Adr: a structure of the addresses that your layer names (classes,functions);My.Txt K t: a structure (Prop) of the equations over K;
  My.txt_mk:{K} {implicit addresses ..} (e1:nsIn K Ap "law" = some (some (.ref f))) (e2:K.lookup f=some ⟨oc,od,.func (fnOf "law" "law" params body scope dV kV doc pm an cdv ct),sl⟩) (e3:codeIn K cdv "law" = true) ..:∃t,My.Txt K t
set_option maxRecDepth 100000 in
set_option maxHeartbeats 0 in
theorem PySem.Challenge.cw_LID_holds : PySem.Challenge.rw_LID.Holds := by
 w_on;o_law;k_head;(case hw=>w_witness2)
 k_fill
 refine L2.walk_of (l:=PySem.Challenge.rw_LID) (n:=63) (k:=40) (x:="script") (CX:=λw=>..) (sp:=λ_=>My.sp_law) rfl (by decide) rfl ⟨rfl,by decide,by decide⟩ (λw h Y=>W.kIn_of Y) ?F ?S ?C
 case F =>
  intro w mg fa h KX G hmg
  have T:∃ t,My.Txt (L2.KOf KX) t:=by
   dsimp only[L2.KOf]                          -- K must stand as «<heap const> w.params» for k_is
   refine' My.txt_mk ?e1 ?e2 ?e3 ..
   (case e1=>W.k_is)                    -- in the order: a name -> its address -> its object -> its parts
   (case e2=>W.k_is)
   ..
  obtain⟨t,T⟩:=T
  have e0:=hmg.symm.trans (W.mg_of KX G T.law)
  cases e0                                       -- fa is the law's own address
  exact⟨_,λs u=>.of_eq rfl,λbase kb nb=>My.law_fn T kb nb⟩     -- if «.of_eq rfl» comes too early: refine' ⟨_,?b,λbase kb nb=>My.law_fn T kb nb⟩;exact λs u=>.of_eq rfl
 case S=>exact λw H a ns hl hO hS=>..
 case C=>exact ..
(the tactic k_is has no namespace: write k_is) -/
namespace L2
open PySem PySem.Spec PyProof.Rows
noncomputable def zaF(s:Stmt):Arguments:=match s with
 |.FunctionDef _ a _ _ _ _ _ _ _ _=>a
 |_=>{ posonlyargs:=[],args:=[],vararg:=none,kwonlyargs:=[],kw_defaults:=[],kwarg:=none,defaults:=[] }
noncomputable def zav(s:Stmt):List Stmt:=match s with
 |.FunctionDef _ _ b _ _ _ _ _ _ _=>b
 |_=>[]
noncomputable def zae(s:Stmt):Scope:=match s with
 |.FunctionDef _ _ _ _ _ _ sc _ _ _=>sc
 |_=>{ kind:=.function,names:=[],isGenerator:=false,isCoroutine:=false }
noncomputable abbrev CX0:CXT:=λ_ _ _ _ _ _=>False
noncomputable abbrev E0:XK:=λ_ _ _=>False
theorem pass0{X:Cx}:zcW CX0 X E0:=λ_ _ _ _ _ _ _ h=>h.elim
structure Fun (K:W.Frag) (x qual:Str) (st:Stmt) (f:Addr) (fd:AO):Prop where
 ex:∃(oc:Aa) (od:Option Addr) (kV doc pm:Aa) (an:Option Addr) (cdv ct:Aa) (osl:Array (Option Aa)),
  fd=B1 x qual (zaF st) (zav st) (zae st) .none kV doc pm an cdv ct/\K.lookup f=some ⟨oc,od,.func fd,osl⟩/\W.codeIn K cdv qual=true
 kp:W.keepIn K (.ref f)=true
section
variable {P:Aj}{w:Ax}{K:W.Frag}{mg:Str->Option Aa}{base:Heap}
theorem Fun.ok{x qual:Str}{st:Stmt}{f:Addr}{fd:AO}{N ps:List Str}{k:Nat}{sp:Sp}(F:Fun K x qual st f fd)(S:FnScope N ps (zae st))(len:∀vs H Q E, sp vs H Q E -> vs.length=ps.length)
  (hbody:∀(cdv:Aa) (A:Au) (outer:List Env) (s:Ab) (H:Hp) (vs:List V) (Q:VK) (E:XK),Room k (A.deeper (envOfC qual (zae st) s.heap.objs.size f cdv))->sp vs H Q E ->
   ∃t,PSs (cxOf CX0 P w K mg base N qual (zae st) f cdv A outer s H E).nox (zav st) t/\t { nx:=λ_ H'=>Q .non H',rt:=Q } (start N vs) H):FnOk P w K mg base CX0 (k+1) f fd ps sp:=by
 obtain⟨oc,od,kV,doc,pm,an,cdv,ct,osl,rfl,lk,hcd⟩:=F.ex;refine fn_of lk hcd S len λA outer s H vs Q E hr hsp=>?_
 obtain⟨t,h,q⟩:=hbody cdv A outer s H vs Q E hr hsp;exact⟨t,h.nox,q⟩
theorem Fun.binds{x qual:Str}{st:Stmt}{f:Addr}{fd:AO}{ps:List Str}(F:Fun K x qual st f fd)
  (h:∀(kV doc pm:Aa) (an:Option Addr) (cdv ct:Aa) (us:List Aa),us.length=ps.length->bindArgs (B1 x qual (zaF st) (zav st) (zae st) .none kV doc pm an cdv ct) ⟨us,[]⟩=pure (ps.zip us)):Binds K fd ps []:=by
 obtain⟨oc,od,kV,doc,pm,an,cdv,ct,osl,rfl,lk,hcd⟩:=F.ex;exact .all (h kV doc pm an cdv ct)
theorem zbT{x qual:Str}{st:Stmt}{f:Addr}{oc:Aa}{od an:Option Addr}{osl:Array (Option Aa)}{kV doc pm cdv ct:Aa}(l:K.lookup f=some ⟨oc, od, .func (B1 x qual (zaF st) (zav st) (zae st) .none kV doc pm an cdv ct), osl⟩)
  (c:W.codeIn K cdv qual=true) (k:W.keepIn K (.ref f)=true):Fun K x qual st f (B1 x qual (zaF st) (zav st) (zae st) .none kV doc pm an cdv ct):=⟨⟨oc,od,kV,doc,pm,an,cdv,ct,osl,rfl,l,c⟩,k⟩
end
theorem hu_of{A:Au}{k:Nat}(hr:Room k A):A.units+1<cLine:=Nat.lt_of_le_of_lt (Nat.add_le_add_left (by decide:1<=64) _) hr.units
theorem zal{n:Nat}(h:n<=1000):n<sizeLine:=Nat.lt_of_le_of_lt h (by decide)
section
variable {X:Cx}
theorem pv (i:Nat){x:Str}{pos:Pos}(hN:X.N[i]? = some x := by rfl) (hv:Vis X.env.scope x := by first |exact Or.inl rfl |exact B2 (Or.inl rfl) |exact B2 (B2 rfl)) (hd:(x == ("__debug__" : Str))=false := by decide)
  (hcd:(x == ("__classdict__" : Str))=false:=by decide):PE X (.Name x pos) (tVar i):=zfZ hN hv hd hcd
end
theorem iteF{A B:Prop}(h:B):if false=true then A else B:=by rw[if_neg Aw];exact h
theorem iteT{A B:Prop}(h:A):if true=true then A else B:=by rw[if_pos rfl];exact h
theorem ite2{c A B:Prop} [Decidable c](h1:c->A)(h2:¬ c->B):if c then A else B:=by
 by_cases h:c
 .rw[if_pos h];exact h1 h
 .rw[if_neg h];exact h2 h
noncomputable def Same(H H':Hp):Prop:=∀b o,H b=some o->H' b=some o
theorem Same.refl(H:Hp):Same H H:=λ_ _ h=>h
theorem Same.trans{H H1 H2:Hp}(a:Same H H1)(b:Same H1 H2):Same H H2:=λc o h=>b c o (a c o h)
theorem Same.free{H H':Hp}(e:Same H H'){l:Addr}(h:H' l=Option.none):H l=Option.none:=by
 cases q:H l with
 |none=>rfl
 |some o =>
  rw[e l o q]at h
  cases h
theorem Same.seq{K:W.Frag}{H H':Hp}{a:Addr}{xs:List V}(e:Same H H')(h:SqL K H a xs):SqL K H' a xs:=by
 rcases h with (h |⟨o,h⟩) |h
 .exact .inl (.inl (e _ _ h))
 .exact .inl (.inr ⟨o,e _ _ h⟩)
 .exact .inr h
section
variable {κ:Type} [DecidableEq κ]
end
end L2
set_option maxHeartbeats 4000000
namespace L2
open PySem PySem.Spec PyProof.Rows
noncomputable def zbB(J:It)(g:TG)(tb:TS):TS:=λD σ H=>∃W:Nat->Nat->St->Hp->Prop,(∃m,W 0 m σ H)/\∀i m σ H,W i m σ H ->
 (J.stop i H/\D.nx σ H)∨(J.go i H/\∃N:St->Hp->Prop,(∀ σ' H',N σ' H'->∃m',m'<m/\W (i+1) m' σ' H')/\∀x H',J.yld i H x H'->g x σ H' λσ2 H2=>tb { D with nx:=N,ct:=N,bk:=D.nx } σ2 H2)
noncomputable def PTs(X:Cx)(ifs:List Expr)(t:TT):Prop :=
 ∀(pins:List (Addr×Obj)) (s:Ab) (σ:St) (H:Hp) (Q:Bool->Hp->Prop),Inv X pins σ H s->t σ H Q ->
  Ao (As X.prog X.w) X.A (forIn ifs true λc r=>if r=true then do let ok <- isTrue c X.env (eval c X.env);pure (ForInStep.yield ok) else pure (ForInStep.yield r)) (TP X pins σ Q) X.xe s
theorem za1{X:Cx}:PTs X [] (λ_ H Q=>Q true H):=λpins s σ H Q I h=>Av ⟨H,I,h⟩
theorem zfp{X:Cx}{c:Expr}{t:TT}(hc:PT X c t):PTs X [c] t:=λpins s σ H Q I h=>wpAny_tests_one (hc pins s σ H Q I h)
noncomputable def PB(X:Cx)(inner:Sem Unit)(t:TS):Prop :=
 ∀(pins:List (Addr×Obj)) (s:Ab) (σ:St) (H:Hp) (D:Ends),Inv X pins σ H s->t D σ H->Ao (As X.prog X.w) X.A inner (λ_ s'=>∃ σ' H',Inv X pins σ' H' s'/\D.nx σ' H') X.xe s
noncomputable def tIfs(tt:TT)(tb:TS):TS:=λD σ H=>tt σ H λb H1=>if b=true then tb D σ H1 else D.nx σ H1
theorem zcP{X:Cx}{e tg:Expr}{d:Nat}{ifs:List Expr}{p:Pos}{acc:Aa}{inner:Sem Unit}{g:TG}{tt:TT}{tb:TS}{it:Addr}{fp:List Addr}{tn:Nat -> Heap -> Prop}{J:It}
  {pins:List (Addr×Obj)} {s:Ab} {σ:St} {H:Hp} {D:Ends} {R:Result->Ab->Prop}
  (hq:(Code.compLoop e d (.ref it) acc X.env).quiet=true)
  (hden:(As X.prog X.w).den (.compLoop e d (.ref it) acc X.env)=(compTurn e d (.ref it) acc X.env).onRaise (λx=>do noteFrame x X.env;theTreesLotGoes x))
  (hT:compTurn e d (.ref it) acc X.env=(do
   standAt p
   match <- pyNext (.ref it) with
   |none=>pure (.done .next)
   |some v =>
    letOwnedTupleGo tg (.ref it) v
    assign tg X.env v
    let mut ok:=true
    for c in ifs do
     if ok then ok <- isTrue c X.env (eval c X.env)
    if ok then
     inner
    again (.compLoop e d (.ref it) acc X.env)))
  (hA:∀(B:Au) {α:Type} {t:Sem α} {Q:α->Ab->Prop} {E:Aa->Ab->Prop} {s:Ab},B=X.A.under (.compLoop e d (.ref it) acc X.env)->Ao (As X.prog X.w) X.A t Q E s->Ao (As X.prog X.w) B t Q E s)
  (hc:X.calm=true) (hx:X.xe=λ_ _=>False) (hg:PG X tg g) (ht:PTs X ifs tt) (hb:PB X inner tb)
  (I:Inv X pins σ H s) (T:Turn X.prog X.w X.K tg J fp it tn) (st:tn 0 s.heap) (f:∀b∈fp,FpOk X pins H b) (W:zbB J g (tIfs tt tb) D σ H)
  (hR:∀fl s',(∃ σ' H',Inv X pins σ' H' s'/\(∀b∈fp,H' b=none)/\D.nx σ' H')->R (.ok fl) s') :
  BG (As X.prog X.w) X.A (.compLoop e d (.ref it) acc X.env) R s:=by
 obtain⟨W,⟨m0,w0⟩,turn⟩:=W;have stat:∀{H':Hp},(∀b∈fp,H' b=none)->∀b∈fp,FpOk X pins H' b:=λhn b hb=>⟨hn b hb,(f b hb).2⟩
 refine codeAny_loop hq (λn s'=>∃i σ' H',Inv X pins σ' H' s'/\tn i s'.heap/\(∀b∈fp,H' b=none)/\W i n σ' H') ?_ m0 ⟨0,σ,H,I,st,λb hb=>(f b hb).1,w0⟩;rintro n s3 ⟨i,σ3,H3,I3,st3,fr3,w3⟩;refine hA _ rfl ?_
 rw[hden];refine wpAny_noted (wpAny_noRaise ?_);rw[hT];refine Ac (wpAny_standAt ?_)
 have nx:∀{α:Type} {t:Sem α} {Q:α->Ab->Prop} {s:Ab},Ao (As X.prog X.w) X.A t Q X.xe s->Ao (As X.prog X.w) X.A t Q (λ_ _=>False) s:=λ{α t Q s} h=>by rw[hx]at h;exact h
 rcases turn i n σ3 H3 w3 with⟨stop,qn⟩ |⟨go,N,hN,step⟩
 .refine Ac (thn (T.done X rfl rfl rfl hc i pins s3 σ3 H3 _ I3 (stat fr3) st3 stop) λr s4 ⟨hr,I4⟩=>?_);subst hr;exact Av (hR _ _ ⟨σ3,H3,I4,fr3,qn⟩)
 .refine Ac (thn (T.item X rfl rfl rfl hc i pins s3 σ3 H3 _ I3 (stat fr3) st3 go) λr s4 ⟨u,hr,h4⟩=>?_);subst hr;refine Ac (thn h4 λ_ s5 ⟨x,H5,I5,r5,y5,st5,fr5⟩=>?_);have I5':=I5.pinned (stat fr5) (T.obj _ _ st5)
  have again:∀{σ7:St} {H7:Hp} {s7:Ab},Inv X (pins++zcH fp s5.heap) σ7 H7 s7->N σ7 H7->∃m,m<n/\∃i σ' H',Inv X pins σ' H' s7/\tn i s7.heap/\(∀b∈fp,H' b=none)/\W i m σ' H':=λ{σ7 H7 s7} I7 n7=>by obtain⟨m',hm,w7⟩:=hN σ7 H7 n7;refine⟨m',hm,i+1,σ7,H7,I7.unpinned,T.keep _ _ _ st5 λb hb o e=>(I7.pin (b,o) (AF _ (AF _ (zbc hb e)))).1,λb hb=>?_,w7⟩;obtain⟨o,e,d⟩:=T.obj _ _ st5 b hb;exact (I7.pin (b,o) (AF _ (AF _ (zbc hb e)))).2.1
  refine Ac (thn (nx (hg _ s5 σ3 H5 x u _ I5' r5 (step x H5 y5))) λ_ s6 ⟨σ6,H6,I6,q6⟩=>?_);refine Ac (thn (nx (ht _ s6 σ6 H6 _ I6 q6)) λok s7 ⟨H7,I7,q7⟩=>?_)
  cases ok with
  |false =>
   exact Av ⟨rfl,again I7 q7⟩
  |true =>
   refine Ac (thn (nx (hb _ s7 σ6 H7 _ I7 q7)) λ_ s8 ⟨σ8,H8,I8,q8⟩=>?_);exact Av ⟨rfl,again I8 q8⟩
noncomputable abbrev blk(X:Cx)(sc:Scope)(cl:List (Str×Addr))(C:Addr)(N':List Str)(s0:Ab)(H0:Hp)(ex:List Addr):Cx :=
 { X with N:=N',s₀:=s0,H₀:=H0,env:=compEnvC sc cl C X.env,outer:=X.stack,stack:=X.stack,ex:=ex,fn:=λ_=>false,pn:=[],xe:=λ_ _=>False }
structure BlkOk (osc:Scope) (N:List Str) (sc:Scope) (N':List Str) (sel:List (Option Nat)):Prop where
 kind:sc.kind=.function
 nocell:∀y∈sc.names,y.2≠.cell
 names:∀y∈sc.names,y.2=.local->sc.names.lookup y.1=some .local
 free:∀y∈sc.names,y.2=.free->osc.names.lookup y.1=some .cell∨osc.names.lookup y.1=some .free
 len:sel.length=N'.length
 sel:∀p∈sel.zip N',∀i∈p.1,N[i]?=some p.2/\sc.names.lookup p.2=some .free
noncomputable def selSt(sel:List (Option Nat))(σ:St):St:=sel.map λo=>o.bind λi=>(σ[i]?).join
theorem zbk{env:Env} : ∀(names:List (Str × NameKind)) (acc:List (Str × Addr)), (∀y ∈ names, y.2 = .free -> ∃c, env.cells.lookup y.1=some c) ->
  ∃cl,(forIn names acc λ(x:Str×NameKind) (r:List (Str×Addr))=>(if (x.2 == .free)=true then do let c <- cellOf env x.1;pure (ForInStep.yield ((x.1,c)::r)) else pure (ForInStep.yield r):Sem (ForInStep (List (Str×Addr)))))=pure cl /\
   (∀x c,cl.lookup x=some c->acc.lookup x=some c∨(env.cells.lookup x=some c/\(x,AH)∈names))/\(∀y∈names,y.2=.free->∃c,cl.lookup y.1=some c)/\(∀x c,acc.lookup x=some c->∃c',cl.lookup x=some c')
 |[],acc,_=>⟨acc,rfl,λ_ _ h=>.inl h,(λ_ h=>nomatch h),λx c h=>⟨c,h⟩⟩
 | (n,k)::r,acc,h=>by
  by_cases hk:k=.free
  .subst hk;obtain⟨c,hc⟩:=h (n,.free) AJ rfl;obtain⟨cl,e,h1,h2,h3⟩:=zbk r ((n,c)::acc) λy hy=>h y (Az _ hy)
   refine⟨cl,?_,λx c' hx=>?_,λy hy hf=>?_,λx c' hx=>?_⟩
   .rw[List.forIn_cons];have e1:cellOf env n=pure c:=by unfold cellOf;rw[hc]
    simp only[beq_self_eq_true,if_true,e1,pure_bind];exact e
   .rcases h1 x c' hx with q |⟨q,m⟩
    .by_cases hn:x=n
     .subst hn;rw[AE,beq_self_eq_true]at q
      cases q
      exact .inr ⟨hc,AJ⟩
     .have hb:(x == n)=false:=by simpa using hn
      rw[AE,hb]at q;exact .inl q
    .exact .inr ⟨q,Az _ m⟩
   .rcases AG.mp hy with z |z
    .subst z;exact h3 n c (by rw[AE,beq_self_eq_true])
    .exact h2 y z hf
   .by_cases hn:x=n
    .subst hn;exact h3 x c (by rw[AE,beq_self_eq_true])
    .have hb:(x == n)=false:=by simpa using hn
     exact h3 x c' (by rw[AE,hb];exact hx)
  .obtain⟨cl,e,h1,h2,h3⟩:=zbk r acc λy hy=>h y (Az _ hy)
   refine⟨cl,?_,λx c' hx=>?_,λy hy hf=>?_,h3⟩
   .rw[List.forIn_cons];have hb:(k == AH)=false:=by simpa using hk
    simp only[hb,B3,if_false,pure_bind];exact e
   .rcases h1 x c' hx with q |⟨q,m⟩
    .exact .inl q
    .exact .inr ⟨q,Az _ m⟩
   .rcases AG.mp hy with z |z
    .subst z;exact absurd hf hk
    .exact h2 y z hf
structure Clo (env:Env) (sc:Scope) (cl:List (Str×Addr)):Prop where
 run:closureFor sc env=pure cl
 old:∀x c,cl.lookup x=some c->env.cells.lookup x=some c/\(x,AH)∈sc.names
 has:∀y∈sc.names,y.2=.free->∃c,cl.lookup y.1=some c
theorem zet{X:Cx}{osc:Scope}{N:List Str}{sc:Scope}{N':List Str}{sel:List (Option Nat)}(ok:X.Ok)(B:BlkOk osc N sc N' sel)(ho:X.env.scope=osc):∃cl,Clo X.env sc cl:=by
 have hc:∀y∈sc.names,y.2=.free->∃c,X.env.cells.lookup y.1=some c:=λy hy hf=>ok.has y.1 (by
  show X.env.scope.names.lookup y.1=_∨X.env.scope.names.lookup y.1=_;rw[ho];exact B.free y hy hf)
 obtain⟨cl,e,h1,h2,_⟩:=zbk (env:=X.env) sc.names [] hc;refine⟨cl,?_,λx c h=>?_,h2⟩
 .unfold closureFor;have e':=e;show (do let r <- forIn sc.names [] _;pure r)=_;simp only[bind_pure];exact e'
 .rcases h1 x c h with q |q
  .cases q
  .exact q
theorem zaW{env:Env} : ∀{names:List (Str × NameKind)}{x:Str}{k:NameKind}, (names.map λ(n, k) => if (k == AH && env.scope.kind == .function && env.kindOf n == some .cell) then (n, BB) else (n, k)).lookup x=some k ->
  ∃k',(x,k')∈names/\(k=k'∨(k=.cell/\k'=.free))
 |[],x,k,h=>nomatch h
 | (n,j)::r,x,k,h=>by
  have ih:=@zaW env r x k;have h:List.lookup x ((if (j == AH && env.scope.kind == .function && env.kindOf n == some .cell)=true then (n,BB) else (n,j))::_)=some k:=h
  by_cases hx:x=n
  .subst hx
   by_cases hc:(j == AH && env.scope.kind == .function && env.kindOf x == some .cell)=true
   .rw[if_pos hc,AE,beq_self_eq_true]at h
    cases h
    refine⟨j,AJ,.inr ⟨rfl,?_⟩⟩;simp only[Bool.and_eq_true,beq_iff_eq]at hc;exact hc.1.1
   .rw[if_neg hc,AE,beq_self_eq_true]at h
    cases h
    exact⟨j,AJ,.inl rfl⟩
  .have hb:(x == n)=false:=by simpa using hx
   have h':List.lookup x (r.map λ(n,k)=>if (k == AH && env.scope.kind == .function && env.kindOf n == some .cell) then (n,BB) else (n,k))=some k:=by
    by_cases hc:(j == AH && env.scope.kind == .function && env.kindOf n == some .cell)=true
    .rw[if_pos hc,AE,hb]at h;exact h
    .rw[if_neg hc,AE,hb]at h;exact h
   obtain⟨k',m,e⟩:=ih h';exact⟨k',Az _ m,e⟩
theorem zaO{env:Env} : ∀{names:List (Str × NameKind)}{x:Str}, names.lookup x=some .free ->
  (names.map λ(n,k)=>if (k == AH && env.scope.kind == .function && env.kindOf n == some .cell) then (n,BB) else (n,k)).lookup x=some .cell ∨
  (names.map λ(n,k)=>if (k == AH && env.scope.kind == .function && env.kindOf n == some .cell) then (n,BB) else (n,k)).lookup x=some .free
 |[],x,h=>nomatch h
 | (n,j)::r,x,h=>by
  have ih:=@zaO env r x;rw[AE]at h;show List.lookup x ((if (j == AH && env.scope.kind == .function && env.kindOf n == some .cell)=true then (n,BB) else (n,j))::_)=_∨List.lookup x ((if (j == AH && env.scope.kind == .function && env.kindOf n == some .cell)=true then (n,BB) else (n,j))::_)=_
  cases hx:x == n with
  |true =>
   rw[hx]at h
   cases h
   by_cases hc:(AH == AH && env.scope.kind == .function && env.kindOf n == some .cell)=true
   .rw[if_pos hc,AE,hx];exact .inl rfl
   .rw[if_neg hc,AE,hx];exact .inr rfl
  |false =>
   rw[hx]at h
   by_cases hc:(j == AH && env.scope.kind == .function && env.kindOf n == some .cell)=true
   .rw[if_pos hc,AE,hx];exact ih h
   .rw[if_neg hc,AE,hx];exact ih h
section
variable {X:Cx}{osc:Scope}{N:List Str}{sc:Scope}{N':List Str}{sel:List (Option Nat)}{cl:List (Str×Addr)}{pins:List (Addr×Obj)}{σ:St}{H:Hp}{s:Ab}{fp:List Addr}
theorem zfD{h':Heap}{ob:Obj}{tk:Nat}(B:BlkOk osc N sc N' sel)(ho:X.env.scope=osc)(hN:X.N=N)(Cl:Clo X.env sc cl)(I:Inv X pins σ H s)
    (f:∀b∈fp,FpOk X pins H b) (fo:∀b∈fp,∃o,s.heap.get? b=some o) (hns:h'.Ns s.heap.objs.size (λ_=>none)) (hsb:Heap.SameBut s.heap.objs.size (s.heap.push ob) h') :
    Inv (blk X sc cl s.heap.objs.size N' s H fp) [] (selSt sel σ) H { s with heap:=h',toks:=tk }:=by
  have old:∀b o,s.heap.get? b=some o->h'.get? b=some o:=λb o e=>(hsb.2 b (AA (Ag e))).trans (Ae _ e)
  have bel:∀b∈fp,b<s.heap.objs.size:=λb hb=>by obtain⟨o,e⟩:=fo b hb;exact Ag e
  have kk:∀x,(compEnvC sc cl s.heap.objs.size X.env).kindOf x=some .cell∨(compEnvC sc cl s.heap.objs.size X.env).kindOf x=some .free->(x,AH)∈sc.names:=λx hx=>by
    rcases hx with hx |hx
    . obtain⟨k',m,e⟩:=zaW hx;rcases e with e |⟨_,e⟩
      . subst e;exact absurd rfl (B.nocell _ m)
      . subst e;exact m
    . obtain⟨k',m,e⟩:=zaW hx;rcases e with e |⟨e,_⟩
      . subst e;exact m
      . cases e
  refine⟨⟨I.mod, B.kind, I.ok.glob, I.ok.blt, Ai _, λx y c e1 e2 => I.ok.inj x y c (Cl.old x c e1).1 (Cl.old y c e2).1, λx hx => Cl.has _ (kk x hx) rfl, λx c z => absurd z (by intro q; cases q), I.ok.hd, I.ok.frames, .inl rfl,
      λb hb=>⟨AA (bel b hb),λx c e=>(f b hb).2.2.2.2.1 x c (Cl.old x c e).1⟩,I.bs,AY I.ok.bsz I.sz,λb o e hb=>?_,λb hb hs=>?_,I.stack,I.stkFree⟩,
    rfl,I.bare,Un.kept old,⟨_,hns,λj x v e1 e2 e3=>?_⟩,λx c e=>?_,I.hok.fresh (Ai _),λx c e=>I.freeC x c (Cl.old x c e).1,λp hp=>absurd (show p∈([]:List (Addr×Obj)) from hp) (by simp),I.hok.kept old,?_⟩
  . rcases (f b hb).2.2.2.1 with z |z
    . exact I.ok.noex b o e z
    . exact absurd (Aq (Ag e) (AY I.ok.bsz z)) (BA _)
  . obtain⟨_,f1,f2,_⟩:=f b hb;rcases AG.mp (I.stkSub b hs) with z |z
    . exact f1 z
    . exact f2 z
  . have e2':((sel[j]?).map λo => o.bind λi => (σ[i]?).join)=some (some v) := by have:=e2;unfold selSt at this;rw[List.getElem?_map]at this;exact this
    cases hj:sel[j]? with
    |none=>rw[hj]at e2';cases e2'
    |some o =>
      rw[hj]at e2'
      cases o with
      |none=>cases e2'
      |some i =>
        have e4:(σ[i]?).join=some v:=AX e2'
        have e5:σ[i]?=some (some v):=by
          cases q:σ[i]? with
          |none=>rw[q]at e4;cases e4
          |some z=>rw[q]at e4;exact congrArg some e4
        have hz:(some i,x)∈sel.zip N':=by
          refine AI (i:=j) ?_
          rw[List.getElem?_zip_eq_some];exact⟨hj,e1⟩
        obtain⟨g1,g2⟩:=B.sel _ hz i rfl;obtain⟨m,hn,hl⟩:=I.loc;have m2:(x,AH)∈sc.names:=Bd g2
        have k2:X.env.kindOf x=some .cell∨X.env.kindOf x=some .free:=by show X.env.scope.names.lookup x=_∨X.env.scope.names.lookup x=_;rw[ho];exact B.free _ m2 rfl
        have v2:Vis X.env.scope x:=by
          rcases k2 with z |z
          . exact .inr (.inl z)
          . exact .inr (.inr z)
        obtain⟨u,r,l⟩:=hl i x v (by rw[hN];exact g1) e5 v2;refine⟨u,r,?_⟩;rcases l with⟨l,_⟩ |⟨_,c,e6,hc⟩
        . rcases k2 with z |z <;> (rw[l]at z;cases z)
        . obtain⟨c',hc'⟩:=Cl.has _ m2 rfl;have e7:=(Cl.old x c' hc').1;rw[e6]at e7
          cases e7
          exact .inr ⟨zaO g2,c,hc',hc.keeps old⟩
  . obtain⟨v,hc⟩:=I.cell x c (Cl.old x c e).1;exact⟨v,hc.keeps old⟩
  . show (selSt sel σ).length=N'.length;unfold selSt;rw[Af,B.len]
theorem zfH{C:Addr}{H':Hp}{σ':St}{s':Ab}(I:Inv X pins σ H s)(f:∀b∈fp,FpOk X pins H b)(I':Inv (blk X sc cl C N' s H fp) [] σ' H' s'):Inv X pins σ H' s' :=
 I.call' (ch:=fp) I'.os I'.base I'.hok I'.bare λb hb=>by obtain⟨_,f1,_,f3,f4,f5⟩:=f b hb;exact⟨f3,f1,f4,f5⟩
end
section
variable {X:Cx}
noncomputable def zb6(p:Addr)(te:TE):TS:=λD σ H=>te σ H λv H1=>∃xs,H1 p=some (.lst xs)/\xs.length<sizeLine/\D.nx σ (upd H1 p (.lst (xs++[v])))
theorem zfx {p:Addr}{elt:Expr}{te:TE}(he:PE X elt te):PB X (do let _ <- call (.builtin "list.append") [.ref p,<- eval elt X.env]) (zb6 p te):=by intro pins s σ H D I h;refine Ac (thn (he pins s σ H _ I h) λv s1 ⟨x,H1,I1,r1,xs,e1,hl,q⟩=>?_);refine Ac (thn (zba pins s1 σ H1 (.ref p) [x] (.ref p) [v] (λz H2=>D.nx σ H2) I1 rfl (.cons r1 .nil) ⟨p,xs,x,rfl,rfl,e1,hl,q⟩) λu s2 ⟨z,H2,I2,_,q2⟩=>?_);exact Av ⟨σ,H2,I2,q2⟩
noncomputable def zdd(p:Addr)(tk tv:TE):TS:=λD σ H=>tk σ H λy H1=>tv σ H1 λv H2=>∃H3,DPut H2 p y v H3/\D.nx σ H3
theorem d_set{pins:List (Addr × Obj)}{σ : St}{H H':Hp}{s:Ab}{a:Addr}{y v:V}{u r:Aa}{A:Au}{E:Aa -> Ab -> Prop}{Q:Unit -> Ab -> Prop}(hu:A.units + 1 < cLine)(I:Inv X pins σ H s)(g:DPut H a y v H')(ry:RelV y u)(rv:RelV v r)(h:∀s', Inv X pins σ H' s' -> Q () s') :
  Ao (As X.prog X.w) A (dictSet a u r) Q E s:=by
 rcases g with⟨kvs,k,e,ey,l,eH⟩ |⟨kvs,k,b,e,ey,eb,l,eH⟩
 .subst ey eH;obtain⟨z,hd,vs,rel,dd⟩:=dk_of I.hok e;have hz:vs.length<=sizeLine:=by rw[<- rel.length];exact z
  have hl:(putK kvs k v).length<=sizeLine:=by have:=zaP kvs k v;lia
  refine wpAny_dictSet_pairs (hsz:=hz) (kV_is ry) dd λh' dd' hs=>h _ ?_
  have he:∃q,h'.get? a=some q:=let ⟨q,_,_,hq,_⟩:=dd';⟨q,hq⟩
  exact zcx I (by rw[e];exact Bo) hs he (zfd hl hd (rel.put k rv) dd')
 .subst ey eH
  cases (show u=AL b from ry)
  obtain⟨z,hd,xs,rel,dd⟩:=dt_of I.hok e;have hz:xs.length<=sizeLine:=by rw[<- Paired.length rel];exact z
  have hl:(putK kvs k v).length<=sizeLine:=by have:=zaP kvs k v;lia
  have hr:(tupleKind (zaz X.prog X.w)).room A:=by show A.units<cLine;lia
  refine wpAny_dictSet_heap (hsz:=hz) hr (zdq I.hok eb) dd λh' dd' hs=>h _ ?_
  obtain⟨q,es,ep,hq,h2,h3,h4,_,h5⟩:=dd';refine zcx I (by rw[e];exact Bo) hs ⟨q,hq⟩ ⟨hl,hd,_,(rel.put k eb rv).keeps λc ys ec=>?_,q,es,ep,hq,h2,h3,h4,h5⟩;rw[zam (ne_of ec e (λz=>nomatch z))];exact ec
theorem zfy{p:Addr}{kx vx:Expr}{tk tv:TE}(hu:X.A.units + 1 < cLine)(hk:PE X kx tk)(hv:PE X vx tv) :
    PB X (do
        let kv <- eval kx X.env
        let vv <- holding [kv] (eval vx X.env)
        match AL p with
        |.ref d=>do
          standAt { kx.pos with endLine:=vx.pos.endLine,endCol:=vx.pos.endCol }
          holding [kv,vv] (dictSet d kv vv)
        |_=>unsupported "internal:dictcomp") (zdd p tk tv):=by
  intro pins s σ H D I h;refine Ac (thn (hk pins s σ H _ I h) λkv s1 ⟨y,H1,I1,r1,q1⟩=>?_);refine Ac (AW (thn (hv pins s1 σ H1 _ I1 q1) λvv s2 ⟨v,H2,I2,r2,H3,g,q⟩=>?_));refine Ac (wpAny_standAt (AW (d_set hu I2 g r1 r2 λs3 I3=>⟨σ,H3,I3,q⟩)))
end
section
variable {X:Cx}{osc:Scope}{N:List Str}{sc:Scope}{N':List Str}{sel:List (Option Nat)}{pos:Pos}{elt kx vx tg iter:Expr}{ifs:List Expr}{wi:TI}{g:TG}{tt:TT}{te tk tv:TE}
noncomputable def InBlk(X:Cx)(sc:Scope)(N':List Str)(P:Cx->Prop):Prop:=∀cl C s0 H0 ex,P (blk X sc cl C N' s0 H0 ex)
theorem zbX{e:Expr}{inner:Env -> Addr -> Sem Unit}{tb:Addr -> TS}{use:Option (Aa -> Sem Unit)}{pins:List (Addr × Obj)}{s:Ab}{σ : St}{H:Hp}{J:It}{it:Addr}{fp:List Addr}{tn:Nat -> Heap -> Prop}{o0:HO}{ob:Obj}
    {D:Addr->Ends} {Q:Aa->Ab->Prop}
    (B:BlkOk osc N sc N' sel) (ho:X.env.scope=osc) (hN:X.N=N) (hc:X.calm=true)
    (hstart:∀(acc:Aa) (env:Env) (R:Result->Ab->Prop) (s:Ab),BG (As X.prog X.w) X.A (.compLoop e 0 (.ref it) acc env) R s->Ao (As X.prog X.w) X.A (pyIter (.ref it)) (λit' s'=>BG (As X.prog X.w) X.A (.compLoop e 0 it' acc env) R s') (notedBy (As X.prog X.w) X.A env λx s'=>R (.error x) s') s->BG (As X.prog X.w) X.A (.compStart e 0 (.ref it) acc env) R s)
    (hloop:∀cl C s0 H0 ex p pins s σ H Dn R,Inv (blk X sc cl C N' s0 H0 ex) pins σ H s->tn 0 s.heap->(∀b∈fp,FpOk (blk X sc cl C N' s0 H0 ex) pins H b)->zbB J g (tIfs tt (tb p)) Dn σ H ->
      (∀fl s',(∃ σ' H',Inv (blk X sc cl C N' s0 H0 ex) pins σ' H' s'/\(∀b∈fp,H' b=none)/\Dn.nx σ' H')->R (.ok fl) s')->BG (As X.prog X.w) X.A (.compLoop e 0 (.ref it) (.ref p) (compEnvC sc cl C X.env)) R s)
    (I:Inv X pins σ H s) (T:Turn X.prog X.w X.K tg J fp it tn) (st:tn 0 s.heap) (f:∀b∈fp,FpOk X pins H b)
    (hnew:ObjOk X.prog X.w (upd H s.heap.objs.size o0) (s.heap.push ob) s.heap.objs.size o0) (hfree:ob.isFreed=false)
    (h:zbB J g (tIfs tt (tb s.heap.objs.size)) (D s.heap.objs.size) (selSt sel σ) (upd H s.heap.objs.size o0))
    (hend:∀C H' s',Inv X pins σ H' s'->FpOk X pins H' C->(∃m,s'.heap.Ns C m)->(∃ σ',(D s.heap.objs.size).nx σ' H')->compPost (As X.prog X.w) X.A X.xe use Q (.ref s.heap.objs.size) C (.ok .next) s') (tk:Nat)
    (cl:List (Str×Addr)) (Cl:Clo X.env sc cl) (E:Aa->Ab->Prop) :
    Ao (As X.prog X.w) X.A (newFunctionEnv sc X.env.globals cl [] X.env.qual none .none (some X.env)) (λcenv s₄ =>
        BG (As X.prog X.w) X.A (.compStart e 0 (.ref it) (.ref s.heap.objs.size) { cenv with scope:=relabel sc X.env }) (compPost (As X.prog X.w) X.A X.xe use Q (.ref s.heap.objs.size) cenv.locals) s₄) E { s with heap:=s.heap.push ob,toks:=tk }:=by
  have grow:∀b o,s.heap.get? b=some o->(s.heap.push ob).get? b=some o:=λ_ _ q=>Ae _ q
  have I1:Inv X pins σ (upd H s.heap.objs.size o0) { s with heap:=s.heap.push ob,toks:=tk }:=I.laid grow (Ai _) hnew;have bel:∀b∈fp,∃o,s.heap.get? b=some o:=λb hb=>let ⟨o,e,_⟩:=T.obj _ _ st b hb;⟨o,e⟩
  have f1:∀b∈fp,FpOk X pins (upd H s.heap.objs.size o0) b:=λb hb=>by obtain⟨o,e⟩:=bel b hb;refine⟨?_,(f b hb).2⟩;rw[zam (AA (Ag e))];exact (f b hb).1
  refine wpAny_newFunctionEnv (s:={ s with heap:=s.heap.push ob,toks:=tk }) B.nocell (by intro x hx;cases hx) (λh1 hns hsb=>?_) B.kind;have I2:=zfD (tk:=tk) B ho hN Cl I1 f1 (λb hb=>let ⟨o,e⟩:=bel b hb;⟨o,grow b o e⟩) hns hsb;have old:∀b o,s.heap.get? b=some o->h1.get? b=some o:=λb o e=>(hsb.2 b (AA (Ag (grow b o e)))).trans (Ae _ (grow b o e))
  have st1:tn 0 h1:=T.keep _ _ _ st λb _ o e=>old b o e
  have f2:∀b∈fp,FpOk (blk X sc cl (s.heap.push ob).objs.size N' { s with heap:=s.heap.push ob,toks:=tk } (upd H s.heap.objs.size o0) fp) [] (upd H s.heap.objs.size o0) b:=λb hb=>by
    obtain⟨g0,g1,g2,g3,g4,g5⟩:=f1 b hb;obtain⟨o,e⟩:=bel b hb;refine⟨g0,AA (Ag (grow b o e)),λz=>?_,.inl hb,λx c e=>g4 x c (Cl.old x c e).1,λp hp=>absurd (show p∈([]:List (Addr×Obj)) from hp) (by simp)⟩;rcases AG.mp (I1.stkSub b z) with q |q
    . exact g1 q
    . exact g2 q
  have loop:=hloop cl _ _ _ _ s.heap.objs.size [] _ _ _ (D s.heap.objs.size) (compPost (As X.prog X.w) X.A X.xe use Q (.ref s.heap.objs.size) (s.heap.push ob).objs.size) I2 st1 f2 h λfl s' ⟨σ',H',I',fr',q'⟩=>by
    have I3:=zfH I1 f1 I';have hC:FpOk X pins H' (s.heap.push ob).objs.size:=I1.fpOk (Ai _) I'.free;obtain⟨m,hn,_⟩:=I'.loc;have:=hend _ H' s' I3 hC ⟨m,hn⟩ ⟨σ',q'⟩
    cases use <;> exact this
  exact hstart _ _ _ _ loop (T.self _ 0 _ _ _ st1 loop)
end
section
variable {X:Cx}{osc:Scope}{N:List Str}{sc:Scope}{N':List Str}{sel:List (Option Nat)}{pos:Pos}{elt kx vx tg iter:Expr}{ifs:List Expr}{wi:TI}{g:TG}{tt:TT}{te tk tv:TE}
theorem zcd{it:Addr}{fp:List Addr}{tn:Nat -> Heap -> Prop}{J:It}(T:Turn X.prog X.w X.K tg J fp it tn)(hc:X.calm=true)(hg:InBlk X sc N' λY => PG Y tg g)(ht:InBlk X sc N' λY => PTs Y ifs tt)(he:InBlk X sc N' λY => PE Y elt te) :
  ∀cl C s0 H0 ex p pins s σ H Dn R,Inv (blk X sc cl C N' s0 H0 ex) pins σ H s->tn 0 s.heap->(∀b∈fp,FpOk (blk X sc cl C N' s0 H0 ex) pins H b)->zbB J g (tIfs tt (zb6 p te)) Dn σ H ->
   (∀fl s',(∃ σ' H',Inv (blk X sc cl C N' s0 H0 ex) pins σ' H' s'/\(∀b∈fp,H' b=none)/\Dn.nx σ' H')->R (.ok fl) s')->BG (As X.prog X.w) X.A (.compLoop (.ListComp elt [⟨tg,iter,ifs,0⟩] sc pos) 0 (.ref it) (.ref p) (compEnvC sc cl C X.env)) R s :=
 λcl C s0 H0 ex p pins s σ H Dn R I st f W hR =>
  zcP (X:=blk X sc cl C N' s0 H0 ex) (p:=iter.pos) (inner:=do let _ <- call (.builtin "list.append") [.ref p,<- eval elt (compEnvC sc cl C X.env)]) rfl rfl rfl (λB {α t Q E s} h w=>by subst h;exact w) hc rfl (hg _ _ _ _ _) (ht _ _ _ _ _) (zfx (he _ _ _ _ _)) I T st f W hR
noncomputable def zde(wi:TI)(sel:List (Option Nat))(g:TG)(tt:TT)(te:TE):TE:=λσ H Q=>wi σ H λJ H1=>∀p,H1 p=none ->
 zbB J g (tIfs tt (zb6 p te)) { nx:=λ_ H'=>Q (.ref p) H',rt:=λ_ _=>False } (selSt sel σ) (upd H1 p (.lst []))
theorem Inv.let_go{pins:List (Addr×Obj)}{σ:St}{H:Hp}{s:Ab}{C:Addr}{h':Heap}(I:Inv X pins σ H s)(f:FpOk X pins H C)(hs:Heap.SameBut C s.heap h'):Inv X pins σ H { s with heap:=h' }:=by obtain⟨f0,f1,_,f3,f4,f5⟩:=f;exact I.turned (t':=s.toks) (λb o hb e=>(hs.2 b hb).trans e) f0 f1 f3 f4 f5
theorem zeg {P:Aj}{w:Ax}{H:Hp}{h:Heap}:ObjOk P w (upd H h.objs.size (.lst [])) (h.push { cls:=.type "list",dict:=none,data:=.seq ([]:List Aa).toArray }) h.objs.size (.lst []) :=
 ⟨AZ _,[],_,.nil,An _ rfl⟩
theorem za4(B:BlkOk osc N sc N' sel)(hi:PI X tg iter wi)(hg:InBlk X sc N' λY => PG Y tg g)(ht:InBlk X sc N' λY => PTs Y ifs tt)(he:InBlk X sc N' λY => PE Y elt te)
  (ho:X.env.scope=osc:=by rfl) (hN:X.N=N:=by rfl) (hc:X.calm=true:=by rfl) (hs:∀x,foldedSetIterable iter X.env x=pure x:=by intro _;rfl) :
  PE X (.ListComp elt [⟨tg,iter,ifs,0⟩] sc pos) (zde wi sel g tt te):=by
 intro pins s σ H Q I h;obtain⟨cl,Cl⟩:=zet I.ok B ho;rw[eval_ListComp];refine BU (use:=none) rfl hs Cl.run B.kind B.names (thn (hi pins s σ H _ I h) λv s1 h1=>thn h1 λitv s2 h2=>?_);obtain⟨it,fp,tn,J,H2,e,I2,T,st2,f2,h2⟩:=h2;subst e
 refine BH (zbX (e:=.ListComp elt [⟨tg,iter,ifs,0⟩] sc pos) (inner:=λ_ _=>pure ()) (D:=λp=>{ nx:=λ_ H'=>Q (.ref p) H',rt:=λ_ _=>False }) (tb:=λp=>zb6 p te) (use:=none) B ho hN hc (λacc env R s a b=>codeAny_compStart_list a b)
  (zcd (iter:=iter) (pos:=pos) T hc hg ht he) I2 T st2 f2 zeg rfl (h2 _ (I2.hok.fresh (Ai _))) (λC H' s' I3 fC hn hq=>?_) s2.toks cl Cl X.xe)
 obtain⟨m,hn⟩:=hn;obtain⟨_,hq⟩:=hq;exact⟨m,hn,λh' hs'=>⟨.ref s2.heap.objs.size,H',I3.let_go fC hs',rfl,hq⟩⟩
noncomputable def ze0(wi:TI)(sel:List (Option Nat))(g:TG)(tt:TT)(te:TE)(i:Nat):TS:=λD σ H=>wi σ H λJ H1=>∀p,H1 p=none ->
 zbB J g (tIfs tt (zb6 p te)) { nx:=λ_ H'=>D.nx (σ.set i (some (.ref p))) H',rt:=λ_ _=>False } (selSt sel σ) (upd H1 p (.lst []))
theorem zdk{i:Nat}{x:Str}{px spos:Pos}(B:BlkOk osc N sc N' sel)(hnd:X.N.Nodup)(hi':X.N[i]? = some x)(hx:Loc X.env.scope x)(hi:PI X tg iter wi)(hg:InBlk X sc N' λY => PG Y tg g)(ht:InBlk X sc N' λY => PTs Y ifs tt)(he:InBlk X sc N' λY => PE Y elt te)
  (hsw:swapsWith (.ListComp elt [⟨tg,iter,ifs,0⟩] sc pos) (some (.Name x px)) spos.line X.env=pure true:=by rfl)
  (ho:X.env.scope=osc:=by rfl) (hN:X.N=N:=by rfl) (hc:X.calm=true:=by rfl) (hs:∀x,foldedSetIterable iter X.env x=pure x:=by intro _;rfl)
  (hf:X.fn x=true∨X.env.scope.names.lookup x=some .local:=by first |exact .inl rfl |exact .inr rfl |assumption) :
  PS X (.Assign [.Name x px] (.ListComp elt [⟨tg,iter,ifs,0⟩] sc pos) spos) (ze0 wi sel g tt te i):=by
 intro pins s σ H D I h;obtain⟨cl,Cl⟩:=zet I.ok B ho;rw[exec_Assign_Name_used _ _ _ _ hsw];refine Ac (wpAny_standAt (Ac ?_));show Ao _ X.A (do let _ <- comprehension (.ListComp elt [⟨tg,iter,ifs,0⟩] sc pos) sc X.env _ (newList []) false (eval iter X.env) (some (assign (.Name x px) X.env))) _ _ s;refine Ac (thn (BU (use:=some (assign (.Name x px) X.env)) (Q:=λ_ s'=>SP X pins D .next s') rfl hs Cl.run B.kind B.names (thn (hi pins s σ H _ I h) λv s1 h1=>thn h1 λitv s2 h2=>?_)) λ_ s' hq=>Av (Av hq));obtain⟨it,fp,tn,J,H2,e,I2,T,st2,f2,h2⟩:=h2;subst e
 refine BH (zbX (e:=.ListComp elt [⟨tg,iter,ifs,0⟩] sc pos) (inner:=λ_ _=>pure ()) (D:=λp=>{ nx:=λ_ H'=>D.nx (σ.set i (some (.ref p))) H',rt:=λ_ _=>False }) (tb:=λp=>zb6 p te) (use:=some (assign (.Name x px) X.env)) B ho hN hc (λacc env R s a b=>codeAny_compStart_list a b)
  (zcd (iter:=iter) (pos:=pos) T hc hg ht he) I2 T st2 f2 zeg rfl (h2 _ (I2.hok.fresh (Ai _))) (λC H' s' I3 fC hn hq=>?_) s2.toks cl Cl X.xe)
 obtain⟨m,hn⟩:=hn;obtain⟨_,hq⟩:=hq;show Ao _ X.A (assign (.Name x px) X.env (.ref s2.heap.objs.size)) _ _ _;refine wpAny_assign_Name (zcE I3 hnd hi' hx (v:=.ref s2.heap.objs.size) rfl (λs4 I4 hch=>?_) hf);obtain⟨a,sb,ha⟩:=hch
 have nC:C≠a:=by
  rcases ha with z |z
  .rw[z];exact fC.2.1
  .exact λq=>fC.2.2.2.2.1 x a z q.symm
 refine⟨m,hn.sameBut sb nC,λh' hs'=>⟨_,H',I4.let_go fC hs',hq⟩⟩
theorem zdD{it:Addr}{fp:List Addr}{tn:Nat -> Heap -> Prop}{J:It}(hu:X.A.units + 1 < cLine)(T:Turn X.prog X.w X.K tg J fp it tn)(hc:X.calm=true)(hg:InBlk X sc N' λY => PG Y tg g)(ht:InBlk X sc N' λY => PTs Y ifs tt)(hk:InBlk X sc N' λY => PE Y kx tk)(hv:InBlk X sc N' λY => PE Y vx tv) :
  ∀cl C s0 H0 ex p pins s σ H Dn R,Inv (blk X sc cl C N' s0 H0 ex) pins σ H s->tn 0 s.heap->(∀b∈fp,FpOk (blk X sc cl C N' s0 H0 ex) pins H b)->zbB J g (tIfs tt (zdd p tk tv)) Dn σ H ->
   (∀fl s',(∃ σ' H',Inv (blk X sc cl C N' s0 H0 ex) pins σ' H' s'/\(∀b∈fp,H' b=none)/\Dn.nx σ' H')->R (.ok fl) s')->BG (As X.prog X.w) X.A (.compLoop (.DictComp kx vx [⟨tg,iter,ifs,0⟩] sc pos) 0 (.ref it) (.ref p) (compEnvC sc cl C X.env)) R s :=
 λcl C s0 H0 ex p pins s σ H Dn R I st f W hR =>
  zcP (X:=blk X sc cl C N' s0 H0 ex) (p:=iter.pos) rfl rfl rfl (λB {α t Q E s} h w=>by subst h;exact w) hc rfl (hg _ _ _ _ _) (ht _ _ _ _ _) (zfy (X:=blk X sc cl C N' s0 H0 ex) hu (hk _ _ _ _ _) (hv _ _ _ _ _)) I T st f W hR
noncomputable def zfR(wi:TI)(sel:List (Option Nat))(g:TG)(tt:TT)(tk tv:TE):TE:=λσ H Q=>wi σ H λJ H1=>∀p,H1 p=none ->
 zbB J g (tIfs tt (zdd p tk tv)) { nx:=λ_ H'=>Q (.ref p) H',rt:=λ_ _=>False } (selSt sel σ) (upd H1 p (.dT []))
theorem zeI(hu:X.A.units + 1 < cLine)(B:BlkOk osc N sc N' sel)(hi:PI X tg iter wi)(hg:InBlk X sc N' λY => PG Y tg g)(ht:InBlk X sc N' λY => PTs Y ifs tt)(hk:InBlk X sc N' λY => PE Y kx tk)(hv:InBlk X sc N' λY => PE Y vx tv)
  (ho:X.env.scope=osc:=by rfl) (hN:X.N=N:=by rfl) (hc:X.calm=true:=by rfl) (hs:∀x,foldedSetIterable iter X.env x=pure x:=by intro _;rfl) :
  PE X (.DictComp kx vx [⟨tg,iter,ifs,0⟩] sc pos) (zfR wi sel g tt tk tv):=by
 intro pins s σ H Q I h;obtain⟨cl,Cl⟩:=zet I.ok B ho;show Ao _ X.A (comprehension (.DictComp kx vx [⟨tg,iter,ifs,0⟩] sc pos) sc X.env _ newDict false (eval iter X.env)) _ _ s;refine BU (use:=none) rfl hs Cl.run B.kind B.names (thn (hi pins s σ H _ I h) λv s1 h1=>thn h1 λitv s2 h2=>?_);obtain⟨it,fp,tn,J,H2,e,I2,T,st2,f2,h2⟩:=h2;subst e
 refine BH (zbX (e:=.DictComp kx vx [⟨tg,iter,ifs,0⟩] sc pos) (inner:=λ_ _=>pure ()) (D:=λp=>{ nx:=λ_ H'=>Q (.ref p) H',rt:=λ_ _=>False }) (tb:=λp=>zdd p tk tv) (use:=none) B ho hN hc (λacc env R s a b=>codeAny_compStart_dict a b)
  (zdD (iter:=iter) (pos:=pos) hu T hc hg ht hk hv) I2 T st2 f2 (zdt s2.heap I2.big) rfl (h2 _ (I2.hok.fresh (Ai _))) (λC H' s' I3 fC hn hq=>?_) s2.toks cl Cl X.xe)
 obtain⟨m,hn⟩:=hn;obtain⟨_,hq⟩:=hq;exact⟨m,hn,λh' hs'=>⟨.ref s2.heap.objs.size,H',I3.let_go fC hs',rfl,hq⟩⟩
end
mutual
inductive RD (K:W.Frag) (H:Hp):V->PyData->Prop where
 |non:RD K H .non .none
 |bl (b:Bool):RD K H (.bl b) (.bool b)
 |int (i:Int):RD K H (.int i) (.int i)
 |str (x:Str):RD K H (.str x) (.str x)
 |lst {a:Addr} {xs:List V} {ds:List PyData}:SqL K H a xs->RDs K H xs ds->RD K H (.ref a) (.list ds)
 |tup {a:Addr} {xs:List V} {ds:List PyData}:SqT K H a xs->RDs K H xs ds->RD K H (.ref a) (.tuple ds)
inductive RDs (K:W.Frag) (H:Hp):List V->List PyData->Prop where
 |nil:RDs K H [] []
 |cons {x:V} {xs:List V} {d:PyData} {ds:List PyData}:RD K H x d->RDs K H xs ds->RDs K H (x::xs) (d::ds)
end
section
variable {X:Cx}{pins:List (Addr×Obj)}{σ:St}{H:Hp}{s:Ab}
mutual
theorem Inv.reads(I:Inv X pins σ H s):∀{v:V}{d:PyData}{u:Aa},RD X.K H v d->RelV v u->∃as,Reads s.heap u d as
 |_,_,_,.non,r=>by cases (show _=Ba from r);exact⟨_,.none⟩
 |_,_,_,.bl b,r=>by cases (show _=Value.bool b from r);exact⟨_,.bool b⟩
 |_,_,_,.int i,r=>by obtain⟨t,rfl⟩:=r;exact⟨_,.int i t⟩
 |_,_,_,.str x,r=>by obtain⟨t,rfl⟩:=r;exact⟨_,.str x t⟩
 |_,_,_,.lst (a:=a) hq hs,r=>by
  cases (show _=AL a from r)
  obtain⟨its,rv,p,hz⟩:=I.list hq;obtain⟨as,ra⟩:=I.readsAll hs rv;obtain⟨o,ho,hc,n,hd⟩:=p.isList;exact⟨_,.list ho hc hd (by simpa using ra)⟩
 |_,_,_,.tup (a:=a) hq hs,r=>by
  cases (show _=AL a from r)
  obtain⟨its,rv,p,hz⟩:=I.tuple hq;obtain⟨as,ra⟩:=I.readsAll hs rv;obtain⟨o,ho,hc,n,hd⟩:=p;exact⟨_,.tuple ho hc hd (by simpa using ra)⟩
theorem Inv.readsAll(I:Inv X pins σ H s):∀{vs:List V}{ds:List PyData}{us:List Aa},RDs X.K H vs ds->Vals vs us->∃as,ReadsAll s.heap us ds as
 |_,_,_,.nil,r=>by cases r;exact⟨_,.nil⟩
 |_,_,_,.cons h t,.cons r rr=>by
  obtain⟨as,h1⟩:=I.reads h r;obtain⟨bs,h2⟩:=I.readsAll t rr;exact⟨_,.cons h1 h2⟩
end
end
theorem RDs.ints{K:W.Frag}{H:Hp}:∀(ns:List Int),RDs K H (ns.map V.int) (ns.map BJ)
 |[]=>.nil
 |n::r=>.cons (.int n) (RDs.ints r)
mutual
theorem RD.mono{K:W.Frag}{H H':Hp}(hl:∀a xs,SqL K H a xs->SqL K H' a xs)(ht:∀a xs,SqT K H a xs->SqT K H' a xs):∀{v:V}{d:PyData},RD K H v d->RD K H' v d
 |_,_,.non=>.non
 |_,_,.bl b=>.bl b
 |_,_,.int i=>.int i
 |_,_,.str x=>.str x
 |_,_,.lst h t=>.lst (hl _ _ h) (RDs.mono hl ht t)
 |_,_,.tup h t=>.tup (ht _ _ h) (RDs.mono hl ht t)
theorem RDs.mono{K:W.Frag}{H H':Hp}(hl:∀a xs,SqL K H a xs->SqL K H' a xs)(ht:∀a xs,SqT K H a xs->SqT K H' a xs):∀{v:List V}{d:List PyData},RDs K H v d->RDs K H' v d
 |_,_,.nil=>.nil
 |_,_,.cons h t=>.cons (RD.mono hl ht h) (RDs.mono hl ht t)
end
noncomputable def rEqD(K:W.Frag):R2:=λx y H Q=>∃d e,RD K H x d/\RD K H y e/\A7 d=true/\A7 e=true/\Q (.bl (BK d e)) H
noncomputable def rNeD(K:W.Frag):R2:=λx y H Q=>∃d e,RD K H x d/\RD K H y e/\A7 d=true/\A7 e=true/\Q (.bl (!PyData.eqv d e)) H
section
variable {X:Cx}
theorem zfb(hu:X.A.units+64<cLine):OpR X (Bf .Eq) (rEqD X.K):=by intro pins s σ H x y v u Q I rx ry h;obtain⟨d,e,hd,he,sd,se,q⟩:=h;obtain⟨as,ra⟩:=I.reads hd rx;obtain⟨bs,rb⟩:=I.reads he ry;exact SeqAt.compareEq_shaped ra rb sd se hu ⟨.bl _,H,I,rfl,q⟩
theorem zfa(hu:X.A.units+64<cLine):OpR X (Bf .NotEq) (rNeD X.K):=by intro pins s σ H x y v u Q I rx ry h;obtain⟨d,e,hd,he,sd,se,q⟩:=h;obtain⟨as,ra⟩:=I.reads hd rx;obtain⟨bs,rb⟩:=I.reads he ry;exact SeqAt.compareNe_shaped ra rb sd se hu ⟨.bl _,H,I,rfl,q⟩
theorem zbU:∀ns ms:List Int,BV (ns.map BJ) (ms.map BJ)=decide (ns=ms)
 |[],[]=>rfl
 |[],_::_=>rfl
 |_::_,[]=>rfl
 |n::r,m::t=>by
  show (n == m && BV (r.map BJ) (t.map BJ))=_;rw[zbU r t]
  by_cases e:n=m
  .subst e;by_cases e2:r=t <;> simp[e2]
  .simp[e]
theorem za5:∀ns:List Int,PyData.depthAll (ns.map BJ)=0
 |[]=>rfl
 |n::r=>by show max 0 (PyData.depthAll (r.map BJ))=0;rw[za5 r];rfl
theorem zbg:∀ns:List Int,PyData.canLayAll0 (ns.map BJ)=true
 |[]=>rfl
 |n::r=>by show (true && PyData.canLayAll0 (r.map BJ))=true;rw[zbg r];rfl
noncomputable def tI(ns:List Int):PyData:=.tuple (ns.map .int)
theorem zgd(ns ms:List Int):BK (tI ns) (tI ms)=decide (ns=ms):=zbU ns ms
theorem zdR(ns:List Int):A7 (tI ns)=true:=by unfold A7 tI;rw[Bt,zbg,PyData.depth,za5];rfl
end
section
variable {prog:Aj}{w:Ax}{A:Au}{E:Aa->Ab->Prop}{s:Ab}
theorem zcO{it t:Addr}{items:Array Aa}(hne:t ≠ it):∀(n i:Nat) (s:Ab) (Q:List Aa -> Ab -> Prop), s.heap.IsListIter it t i -> s.heap.IsList t items -> i + n <= items.size ->
  (∀h',h'.IsListIter it t (i+n)->Heap.SameBut it s.heap h'->Q ((items.toList.drop i).take n) { s with heap:=h' })->Ao (As prog w) A (draw (.ref it) n) Q E s
 | 0,i,s,Q,hit,_,_,hQ=>by
  show Ao _ _ (pure []) Q E s;exact Av (by simpa using hQ s.heap hit (Heap.SameBut.refl ..))
 |n+1,i,s,Q,hit,ht,hle,hQ=>by
  have hlt:i<items.size:=by lia
  show Ao _ _ (pyNext (.ref it) >>= _) Q E s;refine Ac (wpAny_pyNext_list_item hit ht (x:=items[i]) (by simp[hlt]) λh₁ hit₁ hs₁=>?_);refine Ac (AW (zcO hne n (i+1) _ _ hit₁ (ht.extBut hs₁.extBut hne) (by lia) λh₂ hit₂ hs₂=>Av ?_));have hd:items.toList.drop i=items[i]::items.toList.drop (i+1):=by simp[List.drop_eq_getElem_cons,hlt]
  have:=hQ h₂ (by rw[show i+(n+1)=i+1+n by lia];exact hit₂) (hs₁.trans hs₂);rw[hd,List.take_succ_cons]at this;exact this
theorem zbH{t:Addr}{items:Array Aa}{Q:List Aa -> Ab -> Prop}(hh:A.handled=none)(ht:s.heap.IsList t items)
  (hQ:∀h',Heap.ExtBut s.heap.objs.size s.heap h'->Q items.toList { s with heap:=h' }):Ao (As prog w) A (unpackItems (.ref t) items.size none) Q E s:=by
 have hlt:t≠s.heap.objs.size:=by obtain⟨o,ho,_⟩:=ht;exact AA (Ag ho)
 unfold unpackItems;refine Ac ?_
 .unfold notIterableAtAll;refine Ac (wpAny_specialOf ht.typeIs PySem.F.slot_list_iter.lookup ?_);refine Av ?_
  simp only[B3,if_false];refine Ac (AW (wpAny_pyIter_list ht ?_));refine Ac (AW (zcO hlt items.size 0 _ _ ⟨_,An _ rfl,rfl,rfl⟩ (ht.push _) (by lia) λh₁ hit₁ hs₁=>?_))
  have hall:List.take items.size (List.drop 0 items.toList)=items.toList:=by rw[List.drop_zero];exact List.take_of_length_le (by simp)
  rw[hall];rw[if_neg (by simp)];have ht₁:h₁.IsList t items:=(ht.push _).extBut hs₁.extBut hlt;refine Ac (AW (wpAny_pyNext_list_end hh hit₁ ht₁ (by simp) λh₂ he₂=>?_));simp only[Option.isSome_none,B3,if_false];refine Av (hQ h₂ λb o hb e=>he₂ b o hb (hs₁.extBut b o hb (Ae _ e)))
theorem zbx{env:Env}{elts:List Expr}{x1}{pos:Pos}{t:Addr}{items:Array Aa}{Q:Unit -> Ab -> Prop}(hh:A.handled=none)(ht:s.heap.IsList t items)
  (hn:(Bc elts env).length=items.size) (hstar:(Bc elts env).findIdx? (·.1)=none)
  (h:∀h',Heap.ExtBut s.heap.objs.size s.heap h'->Ao (As prog w) A (assignInOrder ((Bc elts env).map (·.2)) items.toList) Q E { s with heap:=h' }) :
  Ao (As prog w) A (assign (.Tuple elts x1 pos) env (.ref t)) Q E s:=by
 rw[assign_Tuple];refine Ac (wpAny_standAt ?_);unfold unpack;rw[hn,hstar];exact Ac (AW (zbH hh ht h))
end
section
variable {X:Cx}{pos:Pos}
noncomputable def gLst(K:W.Frag)(n:Nat)(t:TGs):TG:=λv σ H Q=>∃a xs,v=.ref a/\SqL K H a xs/\xs.length=n/\t xs σ H Q
theorem zfY{es:List Expr}{k:Nat}{t:TGs}{n:Nat}(hc:X.calm=true)(h:PGs X es t)
  (hn:(Bc es X.env).length=n:=by rfl) (hst:(Bc es X.env).findIdx? (·.1)=none:=by rfl):PG X (.Tuple es k pos) (gLst X.K n t):=by
 intro pins s σ H v u Q I r hw;obtain⟨a,xs,e1,hq,hl,hw⟩:=hw;subst e1
 cases r
 obtain⟨its,rv,ht,hz⟩:=I.list hq;refine zbx (I.ok.hd hc) ht.isList (by simp[hn,<- hl,rv.length]) hst λh' hx=>?_
 have I1:Inv X pins σ H { s with heap:=h' }:=I.kept (t':=s.toks) λb o e=>hx b o (AA (Ag e)) e
 exact h pins _ σ H xs _ Q I1 (by simpa using rv) hw
noncomputable def CDivB(i j:Int):Prop:=0<j/\j.natAbs.log2<9000
theorem zeJ:OpR X (BS .FloorDiv) (rI CDivB λi j=>.int (i / j)):=opI λi j _ _ _ _ _ hc q=>by have e:i.fdiv j=i / j:=Int.fdiv_eq_ediv_of_nonneg i (Int.le_of_lt hc.1);rw[<- e]at q;exact floordiv_int (by have:=hc.1;lia) q (.inl (PyProof.noPylong_of_log2 hc.2))
end
section
variable {X:Cx}
theorem zdw:CallR X (.builtin "isinstance") (λxs H Q=>∃x T t b,xs=[x,.ty T]/\TyOf X.K H x t/\Bm X.K t (.type T)=some b/\Q (.bl b) H):=by
 intro pins s σ H xs us Q I r h;obtain⟨x,T,t,b,rfl,ty,e,q⟩:=h;obtain⟨u,w',rfl,ru,rw'⟩:=vals2 r
 cases (show w'=Value.type T from rw')
 exact zek I ru ty e λtk=>⟨.bl b,H,I.tok tk,rfl,q⟩
theorem zeQ(K:W.Frag)(T:String):Bm K (.type T) (.type T)=some true:=by unfold Bm;rw[if_pos (by simp)]
end
end L2
namespace HT
open PySem PyProof.Rows
noncomputable def lexLe:List Int->List Int->Bool
 |[],[]=>true
 |[],_::_=>true
 |_::_,[]=>false
 |x::xs,y::ys=>if x=y then lexLe xs ys else decide (x<=y)
theorem zca(x y:Int)(xs ys:List Int):lexLe (x::xs) (y::ys)=if x=y then lexLe xs ys else decide (x<=y):=rfl
theorem zct:lexLe [] []=true:=rfl
theorem zb1(y:Int)(ys:List Int):lexLe [] (y::ys)=true:=rfl
theorem zb2(x:Int)(xs:List Int):lexLe (x::xs) []=false:=rfl
theorem zeC(A:Au)(s:Ab)(a:Int)(t:Tok)(c:Int)(u:Tok)(prog:Aj)(w:Ax)(E:Aa -> Ab -> Prop)(Q:Aa -> Ab -> Prop)(h:Q (.bool (decide (a <= c))) s) :
  Ao (As prog w) A (richCompare .LtE (.int a t) (.int c u)) Q E s :=
 (PyProof.Rows.le_int h:Ao (As prog w) A (Bf .LtE (.int a t) (.int c u)) Q E s)
section
open PySem.SeqAt
open PySem.AutoSeq1 (wpAny_loadPart')
open PySem.MeetsSeq PySem.MeetsSeq2 PySem.MeetsSeq3
theorem zce(l b:Addr)(items items2:Array Aa)(n n2:Nat)(dd dd2:Option Addr)(sl sl2:Array (Option Aa))(ns ms:List Int)(hi:BM items.toList ns)(hj:BM items2.toList ms) :
  Meets (Builtin.«tuple.__le__» ⟨[.ref l,.ref b],[]⟩)
   (λ_ R s=>s.heap.get? l=some { cls:=.type "tuple",dict:=dd,data:=.seq items n,slots:=sl }/\s.heap.get? b=some { cls:=.type "tuple",dict:=dd2,data:=.seq items2 n2,slots:=sl2 } /\
    R (.ok (.ret (.bool (lexLe ns ms)))) s) :=
 .of_wp λprog w A R s h=>by
  obtain⟨hp,g,d,tk,os⟩:=s;obtain⟨hl,hb,h⟩:=h;have f2:=AutoSeq1.sub_tuple_tuple;have z1:items.size=ns.length:=by rw[<- hi.length];simp
  have z2:items2.size=ms.length:=by rw[<- hj.length];simp
  wp_walk using Bz hl,Bz hb,wpAny_forIn_list _ (λrest b s'=>b.1=none/\s'=⟨hp,g,d,tk,os⟩/\∃(vs ws:List Aa) (ns' ms':List Int),rest=vs.zip ws /\
   BM vs ns'/\BM ws ms'/\ns'.length+items2.size=ms'.length+items.size/\R (.ok (.ret (.bool (lexLe ns' ms')))) ⟨hp,g,d,tk,os⟩) _
  case turn =>
   rintro⟨y,x⟩ rest b s' ⟨hb',rfl,vs,ws,ns',ms',hz,hvi,hwi,hlen,hR⟩
   cases hvi with
   |nil=>rw[List.zip_nil_left]at hz;cases hz
   |cons a t hvi' =>
    cases hwi with
    |nil=>rw[List.zip_nil_right]at hz;cases hz
    |cons c u hwi' =>
     rw[List.zip_cons_cons]at hz;injection hz with hyx hrest;injection hyx with hy hx;subst hy hx;rw[zca]at hR;simp only[A0]at hlen;obtain⟨e,he,hiff⟩:=zeS A.in1 ⟨hp,g,d,tk,os⟩ a t c u;refine Ac (he prog w _ _ ?_)
     cases e with
     |true =>
      rw[if_pos (hiff.mp rfl)]at hR
      wp_walk
      exact⟨rfl,rfl,_,_,_,_,hrest,hvi',hwi',by lia,hR⟩
     |false =>
      rw[if_neg (λq=>absurd (hiff.mpr q) Aw)]at hR;have hri:=zeC A.in1 ⟨hp,g,d,tk,os⟩ a t c u prog w
      wp_walk using hri
      exact⟨_,rfl,by simpa using hR⟩
  case fin =>
   rintro⟨b1,b2⟩ s' ⟨hb',rfl,vs,ws,ns',ms',hz,hvi,hwi,hlen,hR⟩;simp only at hb';subst hb'
   have hv:lexLe ns' ms'=decide (items.size<=items2.size):=by
    cases hvi with
    |nil =>
     cases hwi with
     |nil =>
      simp only[BX]at hlen;rw[zct];exact (decide_eq_true (by lia)).symm
     |cons c u hw =>
      simp only[BX,A0]at hlen;rw[zb1];exact (decide_eq_true (by lia)).symm
    |cons a t hv =>
     cases hwi with
     |nil =>
      simp only[BX,A0]at hlen;rw[zb2];exact (decide_eq_false (by lia)).symm
     |cons c u hw =>
      rw[List.zip_cons_cons]at hz
      cases hz
   rw[hv]at hR
   wp_walk
   exact⟨_,rfl,by simpa[Builtin.Tuple.tupleCompareSizes]using hR⟩
  case h =>
   exact⟨rfl,rfl,items.toList,items2.toList,ns,ms,rfl,hi,hj,by lia,h⟩
end
section
variable {prog:Aj}{w:Ax}{A:Au}{E:Aa->Ab->Prop}{s:Ab}
theorem le_tupInts{l b:Addr}{items items2:Array Aa}{ns ms:List Int}{Q:Aa -> Ab -> Prop}(hl:IsTup s.heap l items)(hb:IsTup s.heap b items2)(hi:BM items.toList ns)(hj:BM items2.toList ms)
  (hu:A.units<cLine) (h:Q (.bool (lexLe ns ms)) s):Ao (As prog w) A (Bf .LtE (.ref l) (.ref b)) Q E s:=by
 obtain⟨⟨cls,dd,data,sl⟩,ho,hc,n,hd⟩:=id hl;obtain⟨⟨cls2,dd2,data2,sl2⟩,ho2,hc2,n2,hd2⟩:=id hb;simp only at hc hd hc2 hd2;subst hc hd hc2 hd2
 exact richCompare_meets_room (op:=.LtE) ⟨_,ho,rfl⟩ ⟨_,ho2,rfl⟩ PySem.F.slot_tuple_le PySem.F.entry_tuple_le (PySem.F.args_tuple_le_2 _ _) (zce l b items items2 n n2 dd dd2 sl sl2 ns ms hi hj)
  ⟨ho,ho2,show Value.bool (lexLe ns ms)≠Value.notImplemented/\Q (.bool (lexLe ns ms)) s from ⟨(λx=>nomatch x),h⟩⟩ hu
end
end HT
namespace L2
open PySem PySem.Spec PyProof.Rows
section
variable {X:Cx}
noncomputable def rLeT(K:W.Frag):R2:=λx y H Q=>∃a b ns ms,x=.ref a/\y=.ref b/\SqT K H a (ns.map V.int)/\SqT K H b (ms.map V.int)/\Q (.bl (HT.lexLe ns ms)) H
theorem zf2(hu:X.A.units<cLine):OpR X (Bf .LtE) (rLeT X.K):=by
 intro pins s σ H x y v u Q I rx ry h;obtain⟨a,b,ns,ms,rfl,rfl,ha,hb,q⟩:=h
 cases rx
 cases ry
 obtain⟨its,r1,p1,_⟩:=I.tuple ha;obtain⟨its2,r2,p2,_⟩:=I.tuple hb;have i1:BM its.toArray.toList ns:=zcc r1;have i2:BM its2.toArray.toList ms:=zcc r2;exact HT.le_tupInts p1 p2 i1 i2 hu ⟨.bl (HT.lexLe ns ms),H,I,rfl,q⟩
end
section
variable {X:Cx}
end
section
variable {X:Cx}{k:Nat}{f:Addr}{fd:AO}{ps:List Str}{sp:Sp}{pins:List (Addr×Obj)}{σ:St}
structure MK (X:Cx) (pins:List (Addr×Obj)) (σ:St) (H:Hp) (s:Ab) (it st l:Addr) (j:Nat) (vb kb:Aa):Prop where
 inv:Inv X pins σ H s
 fi:FpOk X pins H it
 fs:FpOk X pins H st
 ne:st≠it
 iter:s.heap.IsListIter it l j
 hold:∃c,s.heap.get? st=some (seqObj "list" #[vb,kb] c)
end
end L2
namespace HT
theorem lexLt_trans:∀{a b c:List Int},lexLt a b=true->lexLt b c=true->lexLt a c=true
 |[],[],_,h,_=>by cases h
 |[],_::_,[],_,h=>by cases h
 |[],_::_,_::_,_,_=>rfl
 |_::_,[],_,h,_=>by cases h
 |_::_,_::_,[],_,h=>by cases h
 |x::a,y::b,z::c,h,g=>by
  rw[lexLt_cons]at h g ⊢
  by_cases e1:x=y
  .subst e1;rw[if_pos rfl]at h
   by_cases e2:x=z
   .subst e2;rw[if_pos rfl]at g ⊢;exact lexLt_trans h g
   .rw[if_neg e2]at g ⊢;exact g
  .rw[if_neg e1]at h;have h':x<y:=by simpa using h
   by_cases e2:y=z
   .subst e2;rw[if_neg e1];exact h
   .rw[if_neg e2]at g;have g':y<z:=by simpa using g
    rw[if_neg (by lia)];exact decide_eq_true (by lia)
theorem lexLe_eq:∀a b:List Int,lexLe a b=!lexLt b a
 |[],[]=>rfl
 |[],_::_=>rfl
 |_::_,[]=>rfl
 |x::a,y::b=>by
  rw[zca,lexLt_cons]
  by_cases e:x=y
  .subst e;rw[if_pos rfl,if_pos rfl];exact lexLe_eq a b
  .rw[if_neg e,if_neg (Br e)]
   by_cases g:x<=y
   .rw[decide_eq_true g,decide_eq_false (by lia)];rfl
   .rw[decide_eq_false g,decide_eq_true (by lia)];rfl
end HT
namespace L2
open PySem PySem.Spec PyProof.Rows
section
variable {X:Cx}{k:Nat}{f:Addr}{fd:AO}{ps:List Str}{sp:Sp}{pins:List (Addr×Obj)}{σ:St}{H0:Hp}{Q:VK}{l it st:Addr}{xs:List V}{κ:Nat->List Int}
end
section
variable {X:Cx}{k:Nat}{f:Addr}{fd:AO}{ps:List Str}{sp:Sp}{pins:List (Addr×Obj)}{σ:St}{H0:Hp}{Q:VK}{l it st:Addr}{xs:List V}{κ:Nat->List Int}
structure MK0 (X:Cx) (pins:List (Addr×Obj)) (σ:St) (H:Hp) (s:Ab) (it st l:Addr) (j:Nat):Prop where
 inv:Inv X pins σ H s
 fi:FpOk X pins H it
 fs:FpOk X pins H st
 ne:st≠it
 iter:s.heap.IsListIter it l j
 hold:∃c,s.heap.get? st=some (seqObj "list" #[] c)
end
end L2
namespace RK
open PySem PySem.W PyProof.Rows
variable {n:Nat}{ans:Nat->Nat->Bool}
inductive Col:Aa->Aa->Int->Int->Prop where
 |int (a:Int) (t:Tok) (b:Int) (u:Tok):Col (.int a t) (.int b u) a b
 |bl (p q:Bool):Col (.bool p) (.bool q) (b2i p) (b2i q)
inductive Cols:List Aa->List Aa->List Int->List Int->Prop where
 |nil:Cols [] [] [] []
 |cons {u v:Aa} {us vs:List Aa} {a b:Int} {as bs:List Int}:Col u v a b->Cols us vs as bs->Cols (u::us) (v::vs) (a::as) (b::bs)
section
variable {prog:Aj}{w:Ax}{A:Au}{s:Ab}{Q:Bool->Ab->Prop}
end
end RK
namespace L2
open PySem PySem.Spec PyProof.Rows
section
variable {X:Cx}{k:Nat}{f:Addr}{fd:AO}{ps:List Str}{sp:Sp}{pins:List (Addr×Obj)}{σ:St}{H0:Hp}{Q:VK}
inductive VCol:V->V->Int->Int->Prop where
 |int (a b:Int):VCol (.int a) (.int b) a b
 |bl (p q:Bool):VCol (.bl p) (.bl q) (b2i p) (b2i q)
inductive VCols:List V->List V->List Int->List Int->Prop where
 |nil:VCols [] [] [] []
 |cons {x y:V} {xs ys:List V} {a b:Int} {as bs:List Int}:VCol x y a b->VCols xs ys as bs->VCols (x::xs) (y::ys) (a::as) (b::bs)
structure SK (X:Cx) (pins:List (Addr×Obj)) (σ:St) (H:Hp) (s:Ab) (D st:Addr) (e:Nat) (κV:Nat->List V) (ks:List Addr):Prop where
 inv:Inv X pins σ H s
 fd:FpOk X pins H D
 fs:FpOk X pins H st
 ne:st≠D
 hd:s.heap.get? D=some (seqObj "list" #[] e)
 hs:∃c,s.heap.get? st=some (seqObj "list" (ks.map AL).toArray c)
 hk:∀i a,ks[i]?=some a->SqT X.K H a (κV i)
end
section
variable {X:Cx}{pins:List (Addr×Obj)}{σ:St}{H:Hp}{s:Ab}{D st:Addr}{e:Nat}{κV:Nat->List V}{ks:List Addr}{E:Aa->Ab->Prop}
end
section
variable {X:Cx}{k:Nat}{f:Addr}{fd:AO}{ps:List Str}{sp:Sp}{pins:List (Addr×Obj)}{σ:St}{H0 H:Hp}{s:Ab}{D st l:Addr}{e:Nat}{κV:Nat->List V}{ks:List Addr}{E:Aa->Ab->Prop}{G:Array Nat->Prop}{xs:List V}{vs:List Aa}{Q:VK}
end
section
variable {X:Cx}{k:Nat}{f:Addr}{fd:AO}{ps:List Str}{sp:Sp}{pins:List (Addr×Obj)}{σ:St}{H0:Hp}{s:Ab}{l:Addr}{κV:Nat->List V}{G:Array Nat->Prop}{xs:List V}{Q:VK}
end
section
variable {X:Cx}{x:Str}{p pos kp kpos:Pos}{e:Expr}{te:TE}{k:Nat}{f:Addr}{fd:AO}{ps:List Str}{sp:Sp}{fn:Str}
end
end L2
namespace TS
open PySem PyProof.Rows
structure LtOk (M:Model) (A:Au) (E:Aa->Ab->Prop) (s:Ab) (kd:Bh) (S:Keyed->Prop) (L:Keyed->Keyed->Bool):Prop where
 lt:∀x y,S x->S y->∀(st:SortSt) (Q:Option Bool->SortSt->Prop),kindOf st=kd->Q (some (L x y)) st->wpS M A E s (lt' x y) Q st
 tr:∀x y z,S x->S y->S z->L y x=false->L z y=false->L z x=false
 as:∀x y,S x->S y->L x y=true->L y x=false
section
variable {M:Model}{A:Au}{E:Aa->Ab->Prop}{s:Ab}{kd:Bh}{S:Keyed->Prop}{L:Keyed->Keyed->Bool}
end
end TS
namespace TS
section
variable {α:Type}{le:α->α->Prop}
structure MI (le:α->α->Prop) (a b out:List α) (ia ib:Nat):Prop where
 ha:ia<=a.length
 hb:ib<=b.length
 perm:(out++a.drop ia++b.drop ib).Perm (a++b)
 sorted:out.Pairwise le
 lea:∀x∈out,∀y∈a.drop ia,le x y
 leb:∀x∈out,∀y∈b.drop ib,le x y
end
end TS
namespace TS
open PySem PyProof.Rows
noncomputable abbrev leOf(L:Keyed->Keyed->Bool):Keyed->Keyed->Prop:=λx y=>L y x=false
section
variable {M:Model}{A:Au}{E:Aa->Ab->Prop}{s:Ab}{kd:Bh}{S:Keyed->Prop}{L:Keyed->Keyed->Bool}
structure Two (S:Keyed->Prop) (L:Keyed->Keyed->Bool) (a b:Array Keyed):Prop where
 sa:a.toList.Pairwise (leOf L)
 sb:b.toList.Pairwise (leOf L)
 Sa:∀x∈a.toList,S x
 Sb:∀x∈b.toList,S x
variable {a b:Array Keyed}{out:Array Keyed}{ia ib:Nat}
end
end TS
set_option maxHeartbeats 8000000
namespace TS
open PySem PyProof.Rows
section
variable {M:Model}{A:Au}{E:Aa->Ab->Prop}{s:Ab}{kd:Bh}{S:Keyed->Prop}{L:Keyed->Keyed->Bool}{a b out:Array Keyed}{ia ib:Nat}
noncomputable abbrev LH:=Option (Array Keyed)×Array Keyed×Nat×Nat×Nat×Nat×Nat
variable {Q:ForInStep LH->SortSt->Prop}{z:SortSt}{N mg ac bc:Nat}{x y:Keyed}
end
section
variable {M:Model}{A:Au}{E:Aa->Ab->Prop}{s:Ab}{kd:Bh}{S:Keyed->Prop}{L:Keyed->Keyed->Bool}{a b:Array Keyed}
end
end TS
set_option maxHeartbeats 8000000
namespace TS
open PySem PyProof.Rows
section
variable {α:Type}{le:α->α->Prop}
structure MJ (le:α->α->Prop) (a b r:List α) (na nb:Nat):Prop where
 ha:na<=a.length
 hb:nb<=b.length
 perm:(a.take na++b.take nb++r).Perm (a++b)
 sorted:r.Pairwise le
 lea:∀x∈a.take na,∀y∈r,le x y
 leb:∀x∈b.take nb,∀y∈r,le x y
end
end TS
set_option maxHeartbeats 8000000
namespace TS
open PySem PyProof.Rows
section
variable {M:Model}{A:Au}{E:Aa->Ab->Prop}{s:Ab}{kd:Bh}{S:Keyed->Prop}{L:Keyed->Keyed->Bool}{a b out:Array Keyed}{na nb:Nat}
end
end TS
set_option maxHeartbeats 8000000
namespace TS
open PySem PyProof.Rows
section
variable {M:Model}{A:Au}{E:Aa->Ab->Prop}{s:Ab}{kd:Bh}{S:Keyed->Prop}{L:Keyed->Keyed->Bool}{a b out:Array Keyed}{na nb:Nat}
end
end TS
set_option maxHeartbeats 8000000
namespace TS
open PySem PyProof.Rows
section
variable {M:Model}{A:Au}{E:Aa->Ab->Prop}{s:Ab}{kd:Bh}{S:Keyed->Prop}{L:Keyed->Keyed->Bool}{a b out:Array Keyed}{na nb:Nat}
noncomputable abbrev RH:=Option (Array Keyed)×Nat×Nat×Array Keyed×Nat×Nat×Nat
variable {Q:ForInStep RH->SortSt->Prop}{z:SortSt}{N mg ac bc:Nat}{x y:Keyed}
end
section
variable {M:Model}{A:Au}{E:Aa->Ab->Prop}{s:Ab}{kd:Bh}{S:Keyed->Prop}{L:Keyed->Keyed->Bool}{a b:Array Keyed}
end
end TS
namespace TS
open PySem PyProof.Rows
section
variable {M:Model}{A:Au}{E:Aa->Ab->Prop}{s:Ab}{kd:Bh}{S:Keyed->Prop}{L:Keyed->Keyed->Bool}
noncomputable def Seg(L:Keyed->Keyed->Bool)(a:Array Keyed)(lo n:Nat):Prop:=∀(i j:Nat) x y,i<=j->j<n->a[lo+i]?=some x->a[lo+j]?=some y->L y x=false
structure SB (kd:Bh) (S:Keyed->Prop) (st0 st:SortSt) (lo hi:Nat):Prop where
 kind:kindOf st=kd
 pend:pendingOf st=pendingOf st0
 fail:failedOf st=failedOf st0
 perm:(arrOf st).Perm (arrOf st0)
 out:∀k:Nat,k<lo∨hi<=k->(arrOf st)[k]?=(arrOf st0)[k]?
 all:∀(k:Nat) x,(arrOf st)[k]?=some x->S x
end
end TS
namespace TS
open PySem PyProof.Rows
section
variable {M:Model}{A:Au}{E:Aa->Ab->Prop}{s:Ab}{kd:Bh}{S:Keyed->Prop}{L:Keyed->Keyed->Bool}
end
end TS
set_option maxHeartbeats 8000000
namespace TS
open PySem PyProof.Rows
noncomputable def wr(a:Array Keyed)(o:Nat)(l:List Keyed)(k:Nat):Array Keyed:=(l.zipIdx k).foldl (λa (p:Keyed×Nat)=>a.setIfInBounds (o+p.2) p.1) a
section
variable {M:Model}{A:Au}{E:Aa->Ab->Prop}{s:Ab}{kd:Bh}{S:Keyed->Prop}{L:Keyed->Keyed->Bool}
structure SM (kd:Bh) (S:Keyed->Prop) (L:Keyed->Keyed->Bool) (st0 st:SortSt) (pd:Array (Nat×Nat×Nat)) (lo n:Nat):Prop where
 kind:kindOf st=kd
 pend:pendingOf st=pd
 fail:failedOf st=none
 perm:(arrOf st).Perm (arrOf st0)
 out:∀k:Nat,k<lo∨lo+n<=k->(arrOf st)[k]?=(arrOf st0)[k]?
 all:∀(k:Nat) x,(arrOf st)[k]?=some x->S x
 seg:Seg L (arrOf st) lo n
end
end TS
set_option maxHeartbeats 8000000
namespace TS
open PySem PyProof.Rows
noncomputable abbrev Run:=Nat×Nat×Nat
section
variable {M:Model}{A:Au}{E:Aa->Ab->Prop}{s:Ab}{kd:Bh}{S:Keyed->Prop}{L:Keyed->Keyed->Bool}
noncomputable def Runs(L:Keyed->Keyed->Bool)(a:Array Keyed):List Run->Nat->Nat->Prop
 |[],x,y=>x=y
 |r::l,x,y=>r.1=x/\1<=r.2.1/\Seg L a r.1 r.2.1/\Runs L a l (x+r.2.1) y
structure PD (kd:Bh) (S:Keyed->Prop) (L:Keyed->Keyed->Bool) (a0:Array Keyed) (st:SortSt) (lo:Nat):Prop where
 kind:kindOf st=kd
 fail:failedOf st=none
 perm:(arrOf st).Perm a0
 all:∀(k:Nat) x,(arrOf st)[k]?=some x->S x
 runs:Runs L (arrOf st) (pendingOf st).toList 0 lo
end
end TS
namespace L2
open PySem PySem.Spec PyProof.Rows
section
variable {X:Cx}{pins:List (Addr×Obj)}{σ:St}{H:Hp}{s:Ab}{D st:Addr}{e:Nat}{κV:Nat->List V}{ks:List Addr}{E:Aa->Ab->Prop}
end
section
variable {X:Cx}{x:Str}{p pos kp kpos:Pos}{e:Expr}{te:TE}{k:Nat}{f:Addr}{fd:AO}{ps:List Str}{sp:Sp}{fn:Str}
end
section
variable {prog:Aj}{w:Ax}{A:Au}{R:Result->Ab->Prop}{s:Ab}
end
section
variable {X:Cx}{osc:Scope}{N:List Str}{sc:Scope}{N':List Str}{sel:List (Option Nat)}{pos:Pos}{elt kx vx tg iter tg2 iter2:Expr}{ifs ifs2:List Expr}{wi wi2:TI}{g g2:TG}{tt tt2:TT}{te tk tv:TE}
end
end L2
namespace RP
noncomputable def mv(i:Nat):Int×Int:=([(1,0),(1,1),(0,1),(-1,1),(-1,0),(-1,-1),(0,-1),(1,-1)]:List (Int×Int)).getD i (0,0)
noncomputable abbrev Cell:=Int×Int
noncomputable def go(c:Cell)(i:Nat):Cell:=(c.1+(mv i).1,c.2+(mv i).2)
structure Edge where
 c:Cell
 w:Nat
 deriving DecidableEq
noncomputable def gap(e:Edge):Cell:=go e.c ((2*e.w+6) % 8)
noncomputable def stepB(C:Cell->Bool)(e:Edge):Option Nat :=
 if C (go e.c ((2*e.w+7) % 8))=true then some ((2*e.w+7) % 8) else if C (go e.c (2*e.w))=true then some (2*e.w) else none
noncomputable def slant:Option Nat->Bool
 |none=>false
 |some s=>s % 2 == 1
noncomputable def edgeB(e:Edge):Option Nat->Edge
 |none=>⟨e.c,(e.w+1) % 4⟩
 |some s=>if s % 2=1 then ⟨go e.c s,(e.w+3) % 4⟩ else ⟨go e.c s,e.w⟩
noncomputable def nxt(C:Cell->Bool)(e:Edge):Edge:=edgeB e (stepB C e)
noncomputable def IsE(C:Cell->Bool)(e:Edge):Prop:=e.w<4/\C e.c=true/\C (gap e)=false
noncomputable def Chain(C:Cell->Bool)(b:Edge)(es:List Edge):Prop:=es[0]?=some b/\(∀i e f,es[i]?=some e->es[i+1]?=some f->f=nxt C e)/\(∀e∈es,IsE C e)/\es.Nodup
noncomputable def isIn(cs:List Cell)(c:Cell):Bool:=decide (c∈cs)
noncomputable def dx(w:Nat):Int:=if w=0 then 1 else if w=2 then -1 else 0
noncomputable def px(e:Edge):Int:=e.c.1+(if e.w=1∨e.w=2 then 1 else 0)
noncomputable def zfg(C:Cell->Bool)(b:Edge)(es:List Edge):Prop:=Chain C b es/\∃l,es[es.length-1]?=some l/\nxt C l=b
end RP
namespace L2
open PySem PySem.Spec PyProof.Rows
structure Fn (P:Aj) (w:Ax) (K:W.Frag) (mg:Str->Option Aa) (base:Heap) (k:Nat) (x:Str) (ps:List Str) (sp:Sp) where
 f:Addr
 fd:AO
 ok:FnOk P w K mg base CX0 k f fd ps sp
 m:mg x=some (.ref f)
 kp:W.keepIn K (.ref f)=true
 b:Binds K fd ps []
structure Df (K:W.Frag) (mg:Str->Option Aa) (x:Str) (st:Stmt) (ps:List Str) where
 f:Addr
 fd:AO
 F:Fun K x x st f fd
 m:mg x=some (.ref f)
 b:Binds K fd ps []
noncomputable def Df.fn{P:Aj}{w:Ax}{K:W.Frag}{mg:Str->Option Aa}{base:Heap}{k:Nat}{x:Str}{st:Stmt}{ps:List Str}{sp:Sp}(d:Df K mg x st ps)(h:FnOk P w K mg base CX0 k d.f d.fd ps sp):Fn P w K mg base k x ps sp :=
 ⟨d.f,d.fd,h,d.m,d.F.kp,d.b⟩
structure Ways (P:Aj) (w:Ax) (K:W.Frag) (mg:Str->Option Aa):Prop where
 ex:∃(B:Addr) (t1 t2 t3 t4:Tok) (n:Nat),mg "BEGIN_WAYS" = some (.ref B)/\K.lookup B=some ⟨.type "dict",none,.dict #[⟨PyData.keyHash w.params "rim",.str "rim" t1,.int 0 t2⟩,⟨PyData.keyHash w.params "hole",.str "hole" t3,.int 2 t4⟩] n,#[]⟩
section
variable {X:Cx}{K:W.Frag}
theorem zcw(hK:X.K=K:=by rfl):IxR X (rIxL K):=by subst hK;exact zap
theorem zbv{es:List Expr}{k:Nat}{t:TGs}{n:Nat}{pos:Pos}(hc:X.calm=true)(h:PGs X es t)
  (hn:(Bc es X.env).length=n:=by rfl) (hst:(Bc es X.env).findIdx? (·.1)=none:=by rfl) (hK:X.K=K:=by rfl):PG X (.Tuple es k pos) (gTup K n t):=by
 subst hK;exact zd1 hc h hn hst
end
section
variable {X:Cx}
end
end L2
namespace HT
open PySem PyProof.Rows
variable {prog:Aj}{w:Ax}{A:Au}{E:Aa->Ab->Prop}{s:Ab}
end HT
namespace L2
open PySem PySem.Spec PyProof.Rows
section
variable {X:Cx}{K:W.Frag}
end
section
variable {prog:Aj}{w:Ax}{K:Type} [DecidableEq K] {knd:HeapKind prog w K}{A:Au}{E:Aa->Ab->Prop}{s:Ab}{d a:Addr}{xs:List (K×Addr×Aa)}{k:K}{dflt:Aa}
end
section
variable {X:Cx}{o e f:Expr}{apos cpos:Pos}{td ty tx:TE}
end
structure Two (P:Aj) (w:Ax) (K:W.Frag) (mg:Str->Option Aa) (nm:Str) (a b:Int):Prop where
 ex:∃(B:Addr) (t1 t2 t3 t4:Tok) (n:Nat),mg nm=some (.ref B)/\K.lookup B=some ⟨.type "dict",none,.dict #[⟨PyData.keyHash w.params "rim",.str "rim" t1,.int a t2⟩,⟨PyData.keyHash w.params "hole",.str "hole" t3,.int b t4⟩] n,#[]⟩
section
variable {X:Cx}
end
end L2
namespace HT
open PySem PyProof.Rows PySem.Spec
variable {prog:Aj}{w:Ax}{A:Au}{E:Aa->Ab->Prop}{s:Ab}
end HT
namespace L2
open PySem PySem.Spec PyProof.Rows
section
variable {X:Cx}{K:W.Frag}
end
end L2
namespace HT
open PySem PyProof.Rows PySem.Spec
end HT
namespace L2
open PySem PySem.Spec PyProof.Rows
section
variable {X:Cx}{K:W.Frag}
end
section
variable {X:Cx}
end
section
variable {X:Cx}{e es:Expr}{te ts:TE}{pos p2:Pos}
end
section
variable {X:Cx}
end
theorem zef (a v:Aa):argsOk "max" ⟨[a],[(At "default",v)]⟩:=by unfold argsOk;kernel_rfl
section
variable {prog:Aj}{w:Ax}{A:Au}{R:Result->Ab->Prop}{I:Addr}{fp wr:List Addr}{n:Nat}{P:Nat->Aa->Prop}{St:Nat->Heap->Prop}{dv:Aa}
noncomputable def Best (S:Addr) (h:Heap) (old:Array Aa):Prop:=(∃c,h.get? S=some { cls:=.type "list",dict:=none,data:=.seq old c,slots:=#[] })/\(old=#[]∨∃m t,old=#[.int m t,.int m t])
theorem zee(W:Walks prog w A.in1 I fp wr n P St)(hP:∀i v, P i v -> ∃m t, v = .int m t)(hd:∃m t, dv = .int m t)(S:Addr)(hSf:S ∉ fp) :
  ∀(k j:Nat) (s:Ab) (old:Array Aa),n-j=k->j<=n->St j s.heap->Best S s.heap old ->
  (∀m t h' tk,(∀b o,b ∉ wr->b≠S->s.heap.get? b=some o->h'.get? b=some o)->R (.ok (.ret (.int m t))) { s with heap:=h',toks:=tk }) ->
  BG (As prog w) A (.builtin "max.loop" ⟨[.ref I,.none,.ref S],[(At "default",dv)]⟩) R s:=by
 have hSw:S ∉ wr:=λh=>hSf (W.sub _ h)
 have hname:(toString "max" ++ toString ".loop" : String) = "max.loop":=by decide
 obtain⟨dm,dt,rfl⟩:=hd;intro k
 induction k with
 |zero =>
  intro j s old hk hj hst hS hR;have hin:j=n:=by lia
  obtain⟨⟨c,hc⟩,ho⟩:=hS;refine codeAny_builtin F.entry_max_loop ?_
  rw[Around.under_plainId BN _];show Ao _ A.in1 (seqItems? (.ref S) >>= _) _ _ s;refine Ac (wpAny_seqItems hc rfl ?_);show Ao _ A.in1 (tryCatch (pyNext (.ref I)) _ >>= _) _ _ s;refine Ac (wpAny_tryCatch (W.done s _ _ (hin ▸ hst) λh' tk hk'=>?_));have hS':=hk' S _ hSw hc;rcases ho with rfl |⟨m,t,rfl⟩
  .show Ao _ A.in1 (rule _ >>= _) _ _ _;refine Ac (wpAny_rule ?_);exact Av (hR dm dt _ tk λb o hbw hbS e=>hk' b o hbw e)
  .show Ao _ A.in1 (updateSeq S (λ_=>#[]) >>= _) _ _ _;refine Ac ?_
   refine wpAny_updateSeq hS' rfl (Ac (wpAny_letGo (Av ?_)));exact hR m t _ tk λb o hbw hbS e=>(AD _ _ (Br hbS)).trans (hk' b o hbw e)
 |succ k ih =>
  intro j s old hk hj hst hS hR;have hlt:j<n:=by lia
  obtain⟨⟨c,hc⟩,ho⟩:=hS;refine codeAny_builtin F.entry_max_loop ?_
  rw[Around.under_plainId BN _];show Ao _ A.in1 (seqItems? (.ref S) >>= _) _ _ s;refine Ac (wpAny_seqItems hc rfl ?_);show Ao _ A.in1 (tryCatch (pyNext (.ref I)) _ >>= _) _ _ s;refine Ac (wpAny_tryCatch (W.item j s _ _ hlt hst λv h' tk hPv hst' hk'=>?_));obtain⟨m,t,rfl⟩:=hP j v hPv;have hS':=hk' S _ hSw hc;rcases ho with rfl |⟨m2,t2,rfl⟩
  .show Ao _ A.in1 (updateSeq S (λ_=>#[.int m t,.int m t]) >>= _) _ _ _;refine Ac ?_
   refine wpAny_updateSeq hS' rfl ?_
   rw[hname];refine Av ⟨plainId_quiet BN _,ih (j+1) _ _ (by lia) hlt (W.frame _ _ _ hst' λb hbf o e=>?_) ⟨⟨_,BC _ hS' rfl⟩,.inr ⟨m,t,rfl⟩⟩ λm' t' h'' tk'' hk''=>?_⟩
   .exact (AD _ _ (λh:S=b=>hSf (by rw[h];exact hbf))).trans e
   .exact hR m' t' h'' tk'' λb o hbw hbS e=>hk'' b o hbw hbS ((AD _ _ (Br hbS)).trans (hk' b o hbw e))
  .show Ao _ A.in1 (tryCatch (holding [.int m t,.int m t] (richCompare .Gt (.int m t) (.int m2 t2) >>= _)) _ >>= _) _ _ _;refine Ac (wpAny_tryCatch (AW (Ac (richCompare_gives (op:=.Gt) (typeIs_int _ _ t) (typeIs_int _ _ t2) F.slot_int_gt F.entry_int_gt (F.args_int_gt_2 _ _) (gives_int_gt _ _ t t2) (λx=>nomatch x) ?_))));refine Ac (AW (Bl ?_));refine Ac (wpAny_letGo (Av ?_))
   cases hb:decide (m > m2) with
   |true =>
    simp only[if_true];refine Ac ?_
    refine wpAny_updateSeq hS' rfl (Ac (wpAny_letGo ?_));rw[hname];refine Av ⟨plainId_quiet BN _,ih (j+1) _ _ (by lia) hlt (W.frame _ _ _ hst' λb hbf o e=>?_) ⟨⟨_,BC _ hS' rfl⟩,.inr ⟨m,t,rfl⟩⟩ λm' t' h'' tk'' hk''=>?_⟩
    .exact (AD _ _ (λh:S=b=>hSf (by rw[h];exact hbf))).trans e
    .exact hR m' t' h'' tk'' λb o hbw hbS e=>hk'' b o hbw hbS ((AD _ _ (Br hbS)).trans (hk' b o hbw e))
   |false =>
    simp only[B3,if_false];refine Ac (wpAny_letGo ?_);rw[hname];refine Av ⟨plainId_quiet BN _,ih (j+1) _ _ (by lia) hlt hst' ⟨⟨c,hS'⟩,.inr ⟨m2,t2,rfl⟩⟩ λm' t' h'' tk'' hk''=>?_⟩;exact hR m' t' h'' tk'' λb o hbw hbS e=>hk'' b o hbw hbS (hk' b o hbw e)
end
section
variable {X:Cx}{pins:List (Addr×Obj)}{σ:St}{H0:Hp}{s:Ab}{l:Addr}{Q:VK}
theorem zev{ns:List Int}{dm:Int}{dt:Tok}(hh:X.A.handled=none)(hl:SqL X.K H0 l (ns.map V.int))(hQ:∀m, Q (.int m) H0)(I:Inv X pins σ H0 s) :
  Ao (As X.prog X.w) X.A (call (.builtin "max") [.ref l] [(At "default",.int dm dt)]) (EP X pins σ Q) X.xe s:=by
 have nm:(toString "max" ++ toString ".loop" : String) = "max.loop":=by decide
 obtain⟨its,rv,pl,hz⟩:=I.list hl;have hll:l<s.heap.objs.size:=by obtain⟨o,ho,_⟩:=pl.isList;exact Ag ho
 refine kmk_tree PySem.F.kind_max PySem.F.plain_max PySem.F.entry_max (zef _ _) ?_
 show Ao _ X.A.in1 (Builtin.Builtins.bindParams "max" ["key","default"] 0 ⟨[],[(At "default",.int dm dt)]⟩ >>= _) _ _ s;refine Ac (Be (show Builtin.Builtins.bindParams "max" ["key","default"] 0 ⟨[],[(At "default",.int dm dt)]⟩=pure [none,some (.int dm dt)] from rfl) ?_);refine Ac (Av ?_);refine Ac (wpAny_pyIter_list pl.isList ?_);refine Ac (wpAny_newList ?_ (AZ _));rw[nm];refine Av ⟨plainId_quiet PySem.F.plain_max_loop _,?_⟩;have keep:∀b o,s.heap.get? b=some o->((s.heap.push { cls:=.type "list_iterator",data:=.fields #[.ref l,.int 0 0] }).push (seqObj "list" #[] 0)).get? b=some o:=λb o e=>Ae _ (Ae _ e)
 have gi:((s.heap.push { cls:=.type "list_iterator",data:=.fields #[.ref l,.int 0 0] }).push (seqObj "list" #[] 0)).get? s.heap.objs.size=some { cls:=.type "list_iterator",data:=.fields #[.ref l,.int 0 0] }:=Ae _ (An _ rfl);have hsS:(s.heap.push { cls:=.type "list_iterator",data:=.fields #[.ref l,.int 0 0] }).objs.size=s.heap.objs.size+1:=size_push' ..;have gs:((s.heap.push { cls:=.type "list_iterator",data:=.fields #[.ref l,.int 0 0] }).push (seqObj "list" #[] 0)).get? (s.heap.objs.size+1)=some (seqObj "list" #[] 0):=by rw[<- hsS];exact An _ rfl
 rw[hsS];have hli:l≠s.heap.objs.size:=AA hll;have W:=Walks.list (prog:=X.prog) (w:=X.w) (A:=X.A.in1) hh s.heap.objs.size l hli its.toArray;refine zee W (λi v hv=>?_) ⟨_,_,rfl⟩ (s.heap.objs.size+1) ?_ _ 0 _ #[] rfl (AZ _) ⟨⟨_,gi,rfl,rfl⟩,pl.isList.at λo e=>keep _ _ e⟩ ⟨⟨0,gs⟩,.inl rfl⟩ λm t h' tk hk=>?_
 .have hv':its[i]?=some v:=by simpa using hv
  have hi:i<its.length:=(Ah.mp hv').1;have hn:i<ns.length:=by have:=rv.length;simp at this;lia
  obtain⟨u,hu,ru⟩:=rv.get (i:=i) (x:=V.int ns[i]) (by simp[hn]);rw[hv']at hu;cases hu;obtain⟨t,rfl⟩:=ru;exact⟨_,_,rfl⟩
 .intro z;rcases AG.mp z with z |z
  .exact absurd z (Nat.succ_ne_self _)
  .rw[<- Bv.mp z]at hll;exact absurd hll (Nat.not_lt.mpr (Nat.le_succ _))
 .have I1:Inv X pins σ H0 { s with heap:=h',toks:=tk }:=I.kept λb o e=>hk b o (by simp;exact AA (Ag e)) (AA (Nat.lt_succ_of_lt (Ag e))) (keep b o e)
  exact⟨.int m,H0,I1,⟨_,rfl⟩,hQ m⟩
end
section
variable {X:Cx}{p pos kpos kp:Pos}{e:Expr}{te:TE}{d:Int}{kj:Nat}
noncomputable def tMaxD(K:W.Frag)(te:TE):TE:=λσ H Q=>te σ H λv H1=>∃l,∃ns:List Int,v=V.ref l/\SqL K H1 l (ns.map V.int)/\∀m,Q (.int m) H1
theorem zfv (hg:Gl X "max") (hm:X.mg "max" = none) (he:PE X e te) (hse:Ay [e] X.env = [(false, eval e X.env)] := by rfl) (hh:X.calm=true := by rfl)
  (hall:(backToKw pos (BI [⟨some "default",.Constant (.int d) kj kp,kpos⟩] X.env)).all (·.1.isSome)=true:=by rfl) (hkw:(backToKw pos (BI [⟨some "default",.Constant (.int d) kj kp,kpos⟩] X.env)).any (·.1.isNone)=false:=by rfl)
  (hks:(backToKw pos (BI [⟨some "default",.Constant (.int d) kj kp,kpos⟩] X.env)).filterMap (·.1)=[At "default"]:=by rfl) :
  PE X (.Call (.Name "max" p) [e] [⟨some "default",.Constant (.int d) kj kp,kpos⟩] pos) (tMaxD X.K te):=by
 intro pins s σ H Q I h;refine B0 (zbf I hg hm boot_max ?_ (by decide) (by decide));refine callWith_kw (thn (zag he zac (hs:=hse) pos pins s σ H (λvs H1=>∃l,∃ns:List Int,vs=[V.ref l]/\SqL X.K H1 l (ns.map V.int)/\∀m,Q (.int m) H1) I ?_) λus s1 ⟨vs,H1,I1,r,q⟩=>?_) (by rw[hse];rfl) (by rw[hse];rfl) hall hkw
 .show te σ H _
  have e:(λ(v:V) H1=>∃l,∃ns:List Int,v=V.ref l/\SqL X.K H1 l (ns.map V.int)/\∀m,Q (.int m) H1)=λv H1=>∃l,∃ns:List Int,[v]=[V.ref l]/\SqL X.K H1 l (ns.map V.int)/\∀m,Q (.int m) H1:=by
   funext v H1;simp only[List.cons.injEq,and_true]
  unfold tMaxD at h;rw[e]at h;exact h
 .obtain⟨l,ns,rfl,hq,hQ⟩:=q;obtain⟨u,rfl,ru⟩:=Vals.one r
  cases (show u=AL l from ru)
  refine thn (zfs (nm:=some "default") (kpos:=kpos) (zab (i:=d) (j:=kj) (pos:=kp)) zfW pos pins s1 σ H1 (λzs H2=>zs=[.int d]/\H2=H1) I1 ⟨rfl,rfl⟩) λws s2 ⟨zs,H2,I2,rz,q2⟩=>?_
  obtain⟨rfl,rfl⟩:=q2;obtain⟨u2,rfl,t2,rfl⟩:=Vals.one rz;rw[hks];exact zev (I1.ok.hd hh) hq hQ I2
end
end L2
namespace HT
open PySem PyProof.Rows
variable {prog:Aj}{w:Ax}{A:Au}{E:Aa->Ab->Prop}{s:Ab}
end HT
namespace L2
open PySem PySem.Spec PyProof.Rows
section
variable {X:Cx}{e es:Expr}{te ts:TE}{pos p2:Pos}
end
end L2
namespace HT
open PySem PyProof.Rows
section
open PySem.SeqAt
open PySem.AutoSeq1 (wpAny_loadPart')
open PySem.MeetsSeq PySem.MeetsSeq2 PySem.MeetsSeq3
end
section
variable {prog:Aj}{w:Ax}{A:Au}{E:Aa->Ab->Prop}{s:Ab}
end
end HT
namespace L2
open PySem PySem.Spec PyProof.Rows
section
variable {X:Cx}{pos:Pos}
end
section
variable {prog:Aj}{w:Ax}{A:Au}{E:Aa->Ab->Prop}{s:Ab}{it d:Addr}{i ep:Nat}{es:Array DictEntry}{od:Obj}
end
section
variable {X:Cx}{tg:Expr}
end
section
variable {prog:Aj}{w:Ax}{K:Type} [DecidableEq K] {knd:HeapKind prog w K}{A:Au}{E:Aa->Ab->Prop}{s:Ab}{d a:Addr}{xs:List (K×Addr×Aa)}{k:K}
end
section
variable {X:Cx}{o e f:Expr}{apos cpos:Pos}{td ty tx:TE}
end
end L2
namespace RP
end RP
namespace L2
open PySem PySem.Spec PyProof.Rows
theorem zbz{bt:Nat->Nat->Bool}:∀n,argBest bt n<=n
 | 0=>Ai _
 |n+1=>by
  show (if bt (n+1) (argBest bt n)=true then n+1 else argBest bt n)<=n+1;split
  .exact Ai _
  .exact Nat.le_succ_of_le (zbz n)
theorem zby{v:Nat->Int}:∀(n j:Nat),j<=n->v (argBest (λi j=>decide (v i<v j)) n)<=v j
 | 0,j,h=>by
  obtain rfl:j=0:=by lia
  exact Int.le_refl _
 |n+1,j,h=>by
  show v (if decide (v (n+1)<v (argBest (λi j=>decide (v i<v j)) n))=true then n+1 else argBest (λi j=>decide (v i<v j)) n)<=v j
  by_cases hb:v (n+1)<v (argBest (λi j=>decide (v i<v j)) n)
  .rw[if_pos (decide_eq_true hb)];rcases BO n j with q |q
   .obtain rfl:j=n+1:=by lia
    exact Int.le_refl _
   .have:=zby (v:=v) n j q;lia
  .rw[if_neg (by simpa using hb)];rcases BO n j with q |q
   .obtain rfl:j=n+1:=by lia
    lia
   .exact zby n j q
theorem zbA{v:Nat->Int}:∀(n j:Nat),j<=n->v j<=v (argBest (λi j=>decide (v i > v j)) n)
 | 0,j,h=>by
  obtain rfl:j=0:=by lia
  exact Int.le_refl _
 |n+1,j,h=>by
  show v j<=v (if decide (v (n+1) > v (argBest (λi j=>decide (v i > v j)) n))=true then n+1 else argBest (λi j=>decide (v i > v j)) n)
  by_cases hb:v (n+1) > v (argBest (λi j=>decide (v i > v j)) n)
  .rw[if_pos (decide_eq_true hb)];rcases BO n j with q |q
   .obtain rfl:j=n+1:=by lia
    exact Int.le_refl _
   .have:=zbA (v:=v) n j q;lia
  .rw[if_neg (by simpa using hb)];rcases BO n j with q |q
   .obtain rfl:j=n+1:=by lia
    lia
   .exact zbA n j q
theorem zem:∀(ns:List Int) (its:List Aa),Vals (ns.map V.int) its->∃ts:Array (Int×Tok),its.toArray=intItems ts/\ts.toList.map (·.1)=ns:=by
 intro ns its r
 have:∀(ns:List Int) (its:List Aa),Vals (ns.map V.int) its->∃ts:List (Int×Tok),its=ts.map (λp=>Value.int p.1 p.2)/\ts.map (·.1)=ns:=by
  intro ns
  induction ns with
  |nil=>intro its r;cases r;exact⟨[],rfl,rfl⟩
  |cons n ns ih =>
   intro its r
   cases r with
   |cons h t =>
    obtain⟨ts,h1,h2⟩:=ih _ t;obtain⟨tk,rfl⟩:=(show ∃t,_=Value.int n t from h);exact⟨(n,tk)::ts,by rw[h1];rfl,by rw[A5,h2]⟩
 obtain⟨ts,h1,h2⟩:=this ns its r;exact⟨ts.toArray,by rw[h1];simp[intItems],by simpa using h2⟩
section
variable {X:Cx}
noncomputable def IsMin(ns:List Int)(m:Int):Prop:=m∈ns/\∀n∈ns,m<=n
noncomputable def IsMax(ns:List Int)(m:Int):Prop:=m∈ns/\∀n∈ns,n<=m
theorem zbb (hh:X.calm=true):CallR X (.builtin "min") (λxs H Q=>∃(p:Addr) (ns:List Int),xs=[.ref p]/\SqL X.K H p (ns.map V.int)/\ns≠[]/\∀m,IsMin ns m->Q (.int m) H):=by
 intro pins s σ H xs us Q I r h;obtain⟨p,ns,rfl,hq,hne,q⟩:=h;obtain⟨u,rfl,ru⟩:=vals1 r
 cases (show u=AL p from ru)
 obtain⟨its,rv,pl,hz⟩:=I.list hq;obtain⟨ts,h1,h2⟩:=zem ns its rv;have hl1:=pl.isList;rw[h1]at hl1;have hgl:ns.length=ts.size:=by rw[<- h2];simp
 have hpos:0<ns.length:=BQ.mpr hne;have gd:∀j,numAt ts j=ns.getD j 0:=λj=>by rw[numAt_eq,h2]
 refine min_intList (I.ok.hd hh) hl1 (by lia) λv h' tk hv hk=>?_
 obtain⟨t,rfl⟩:=intItems_at hv;have hle:=zbz (bt:=λi j=>decide (numAt ts i<numAt ts j)) (ts.size-1);refine⟨.int _,H,I.kept hk,⟨_,rfl⟩,q _ ⟨?_,λn hn=>?_⟩⟩
 .rw[gd,A2,Ad (by lia)];exact List.getElem_mem _
 .obtain⟨j,hj,rfl⟩:=BR hn;have:=zby (v:=numAt ts) (ts.size-1) j (by lia);rw[gd j,A2,Ad hj]at this;exact this
theorem zbr (hh:X.calm=true):CallR X (.builtin "max") (λxs H Q=>∃(p:Addr) (ns:List Int),xs=[.ref p]/\SqL X.K H p (ns.map V.int)/\ns≠[]/\∀m,IsMax ns m->Q (.int m) H):=by
 intro pins s σ H xs us Q I r h;obtain⟨p,ns,rfl,hq,hne,q⟩:=h;obtain⟨u,rfl,ru⟩:=vals1 r
 cases (show u=AL p from ru)
 obtain⟨its,rv,pl,hz⟩:=I.list hq;obtain⟨ts,h1,h2⟩:=zem ns its rv;have hl1:=pl.isList;rw[h1]at hl1;have hgl:ns.length=ts.size:=by rw[<- h2];simp
 have hpos:0<ns.length:=BQ.mpr hne;have gd:∀j,numAt ts j=ns.getD j 0:=λj=>by rw[numAt_eq,h2]
 refine max_intList (I.ok.hd hh) hl1 (by lia) λv h' tk hv hk=>?_
 obtain⟨t,rfl⟩:=intItems_at hv;have hle:=zbz (bt:=λi j=>decide (numAt ts i > numAt ts j)) (ts.size-1);refine⟨.int _,H,I.kept hk,⟨_,rfl⟩,q _ ⟨?_,λn hn=>?_⟩⟩
 .rw[gd,A2,Ad (by lia)];exact List.getElem_mem _
 .obtain⟨j,hj,rfl⟩:=BR hn;have:=zbA (v:=numAt ts) (ts.size-1) j (by lia);rw[gd j,A2,Ad hj]at this;exact this
end
end L2
namespace HT
open PySem PyProof.Rows
variable {prog:Aj}{w:Ax}{A:Au}{E:Aa->Ab->Prop}{s:Ab}
end HT
namespace L2
open PySem PySem.Spec PyProof.Rows
section
variable {X:Cx}{e es:Expr}{te ts:TE}{pos p2:Pos}
theorem zey{n:Nat}{i:Int}(h:i.natAbs<2 ^ n):Builtin.Int.intBits i<=n:=by
 unfold Builtin.Int.intBits
 by_cases h0:i=0
 .subst h0;exact AZ _
 .rw[if_neg (by simpa using h0)];exact (Nat.log2_lt (by lia)).mpr h
noncomputable def CMulB(i j:Int):Prop:=i.natAbs<2 ^ 1000/\j.natAbs<2 ^ 1000
theorem zd7:OpR X (BS .Mult) (rI CMulB λi j=>.int (i*j)):=opI λi j _ _ _ _ _ hc q=>mul_int q (by
 refine PySem.IntMulOk.of_le (m:=1000) (n:=1000) ?_ ?_ (by decide)
 .exact zey hc.1
 .exact zey hc.2)
end
section
variable {prog:Aj}{w:Ax}{A:Au}{E:Aa->Ab->Prop}{s:Ab}
end
section
variable {X:Cx}
end
section
variable {X:Cx}
end
section
variable {prog:Aj}{w:Ax}{A:Au}{E:Aa->Ab->Prop}{s:Ab}
end
section
variable {X:Cx}{pins:List (Addr×Obj)}{σ:St}
end
section
variable {X:Cx}{l m:Expr}{t:TA}{p p2 pos pos2:Pos}
end
section
variable {X:Cx}{a:Expr}{t:TA}{p p2 pos pos2:Pos}
end
section
variable {X:Cx}
end
theorem zdI{P:Aj}{w:Ax}{K:W.Frag}{tg:Expr}(it:Addr)(lo:Int)(n:Nat):Turn P w K tg (Itr lo n) [it] it (λi h=>IsLongIter h it (lo+(i:Nat)*1) ((n:Int)-(i:Nat)) 1) where
 mem:=by simp
 obj:=λi h st b hb=>by
  have e:b=it:=by simpa using hb
  subst e
  exact⟨_,st,λv z=>by
   have z':Data.fields _=Data.cell v:=z
   cases z'⟩
 keep:=λi h h' st k=>k it (by simp) _ st
 item:=by
  intro X hP hw hK hc i pins s σ H E I hf st hg;subst hP hw hK;obtain⟨f0,f1,f2,f3,f4,f5⟩:=hf it (by simp);have W:=Walks.longrange (prog:=X.prog) (w:=X.w) (I.ok.hd hc) it lo 1 n;refine W.item i s _ _ hg st λv h' tk hv st' kk=>?_
  obtain⟨t,rfl⟩:=hv;have I1:Inv X pins σ H { s with heap:=h',toks:=tk }:=I.turned (λb o hb e=>kk b o (by simpa using hb) e) f0 f1 f3 f4 f5;refine⟨_,rfl,go_of (s:={ s with heap:=h',toks:=tk }) (n:="longrange_iterator") st' rfl rfl (by decide) ⟨.int (lo+i),H,I1,⟨t,?_⟩,⟨rfl,rfl⟩,st',λb hb=>(hf b hb).1⟩⟩;rw[Int.mul_one]
 done:=by intro X hP hw hK hc i pins s σ H E I hf st hg;subst hP hw hK;obtain⟨f0,f1,f2,f3,f4,f5⟩:=hf it (by simp);exact wpAny_pyNext_long_end (I.ok.hd hc) st (by have:n<=i:=hg;lia) λh' eb=>⟨rfl,I.turned (t':=s.toks) (λb o hb e=>eb b o hb e) f0 f1 f3 f4 f5⟩
 self:=λ_ _ _ _ _ st h=>wpAny_pyIter_longiter st h
section
variable {X:Cx}{tg:Expr}
theorem zdU{pins:List (Addr × Obj)}{σ : St}{H:Hp}{s:Ab}{R:It -> Hp -> Prop}{E:Aa -> Ab -> Prop}{lo hi:Int}{t u v:Tok}{tk:Nat}(I:Inv X pins σ H s)
  (q:R (Itr lo (hi-lo).toNat) H):Ao (As X.prog X.w) X.A (pyIter (.ref s.heap.objs.size)) (PIE X pins σ tg R) E { s with heap:=s.heap.push { cls:=.type "range",data:=.fields #[.int lo t,.int hi u,.int 1 v] },toks:=tk }:=by
 have I1:Inv X pins σ H { s with heap:=s.heap.push { cls:=.type "range",data:=.fields #[.int lo t,.int hi u,.int 1 v] },toks:=tk }:=I.kept λb o e=>Ae _ e
 have e1:lo+((0:Nat):Int)*1=lo:=by simp
 have e2:(((hi-lo).toNat:Nat):Int)-((0:Nat):Int)=AT lo hi 1:=by rw[rangeSize_one];split <;> lia
 cases hs:Builtin.Range.small lo hi 1 with
 |true =>
  refine wpAny_pyIter_range (IsRange.new ..) hs ?_
  refine⟨(s.heap.push { cls:=.type "range",data:=.fields #[.int lo t,.int hi u,.int 1 v] }).objs.size,[(s.heap.push { cls:=.type "range",data:=.fields #[.int lo t,.int hi u,.int 1 v] }).objs.size],_,_,H,rfl,
   I1.kept (t':=tk) λb o e=>Ae _ e,zb4 _ lo (hi-lo).toNat,?_,λb hb=>?_,q⟩
  .show IsRangeIter _ _ (lo+((0:Nat):Int)*1) ((((hi-lo).toNat:Nat):Int)-((0:Nat):Int)) 1;rw[e1,e2];exact An _ rfl
  .have e:b=(s.heap.push { cls:=.type "range",data:=.fields #[.int lo t,.int hi u,.int 1 v] }).objs.size:=by simpa using hb
   subst e;exact I1.fpOk (Ai _) (I1.hok.fresh (Ai _))
 |false =>
  refine wpAny_pyIter_longrange (IsRange.new ..) hs ?_
  refine⟨(s.heap.push { cls:=.type "range",data:=.fields #[.int lo t,.int hi u,.int 1 v] }).objs.size,[(s.heap.push { cls:=.type "range",data:=.fields #[.int lo t,.int hi u,.int 1 v] }).objs.size],_,_,H,rfl,
   I1.kept (t':=tk) λb o e=>Ae _ e,zdI _ lo (hi-lo).toNat,?_,λb hb=>?_,q⟩
  .show IsLongIter _ _ (lo+((0:Nat):Int)*1) ((((hi-lo).toNat:Nat):Int)-((0:Nat):Int)) 1;rw[e1,e2];exact An _ rfl
  .have e:b=(s.heap.push { cls:=.type "range",data:=.fields #[.int lo t,.int hi u,.int 1 v] }).objs.size:=by simpa using hb
   subst e;exact I1.fpOk (Ai _) (I1.hok.fresh (Ai _))
noncomputable def iRngB(ta:TA):TI:=λσ H R=>ta σ H λvs H1=>∃i j:Int,vs=[.int i,.int j]/\R (Itr i (j-i).toNat) H1
theorem zcI {a b:Expr}{ta:TA}{p pos:Pos}(hg:Gl X "range") (hm:X.mg "range" = none) (ha:PA X [a, b] ta) (hs:Ay [a, b] X.env = [(false, eval a X.env), (false, eval b X.env)] := by rfl) (hs2:Ay [b] X.env = [(false, eval b X.env)] := by rfl) :
  PI X tg (.Call (.Name "range" p) [a,b] [] pos) (iRngB ta):=by
 intro pins s σ H R I h;refine Call_ (zbf I hg hm boot_range (AM (thn (ha pos pins s σ H _ I h) λus s1 ⟨vs,H1,I1,r1,q1⟩=>?_) (by rw[hs,hs2]) (by rw[hs2];rfl)));obtain⟨i,j,e,q⟩:=q1;subst e
 cases r1 with
 |cons r rr =>
  cases rr with
  |cons r' rr =>
   cases rr
   obtain⟨t,rfl⟩:=r;obtain⟨t',rfl⟩:=r';exact call_range_2 (zdU I1 q)
end
section
variable {X:Cx}{pos:Pos}{kx vx:Expr}{tk tv:TE}
end
open AutoSeq1 (wpAny_loadPart')
section
variable {prog:Aj}{w:Ax}{A:Au}{E:Aa->Ab->Prop}{s:Ab}{d:Addr}{ep:Nat}{es:Array DictEntry}{od:Obj}
end
section
variable {X:Cx}
end
section
variable {X:Cx}{es:List Expr}{te:TE}{t:TA}{pos:Pos}
theorem pa_T{l:List Expr}{k:Nat}(ha:PE X (.Tuple l k pos) te)(hr:PA X es t):PA X (.Tuple l k pos::es) (tCons te t):=zag ha hr (by rfl)
theorem pa_C{c:Const}{k:Nat}(ha:PE X (.Constant c k pos) te)(hr:PA X es t):PA X (.Constant c k pos::es) (tCons te t):=zag ha hr (by rfl)
theorem pa_U{o:UnaryOp}{a:Expr}(ha:PE X (.UnaryOp o a pos) te)(hr:PA X es t):PA X (.UnaryOp o a pos::es) (tCons te t):=zag ha hr (by rfl)
theorem pa_B{a b:Expr}{o:Operator}(ha:PE X (.BinOp a o b pos) te)(hr:PA X es t):PA X (.BinOp a o b pos::es) (tCons te t):=zag ha hr (by rfl)
theorem pa_N{x:Str}(ha:PE X (.Name x pos) te)(hr:PA X es t):PA X (.Name x pos::es) (tCons te t):=zag ha hr (by rfl)
end
theorem zak{i:Nat}{v:V}{σ:St}{H:Hp}{Q:St->Hp->Prop}:gName i v σ H Q=Q (σ.set i (some v)) H:=rfl
theorem zgf{i:Nat}{v:V}{u:TS}{D:Ends}{σ:St}{H:Hp}:tSeq (tAsg (tC v) (gName i)) u D σ H=u D (σ.set i (some v)) H:=rfl
section
variable {X:Cx}{tg:Expr}
end
inductive IsC:Expr->V->Prop where
 |int {n:Int} {k:Nat} {p:Pos}:IsC (.Constant (.int n) k p) (.int n)
 |bl {b:Bool} {k:Nat} {p:Pos}:IsC (.Constant (.bool b) k p) (.bl b)
 |neg {n:Int} {k:Nat} {p q:Pos}:IsC (.UnaryOp .USub (.Constant (.int n) k p) q) (.int (-n))
inductive IsPs:List Expr->List (V×V)->Prop where
 |nil:IsPs [] []
 |cons {a b:Expr} {x y:V} {k:Nat} {p:Pos} {es:List Expr} {l:List (V×V)}:IsC a x->IsC b y->IsPs es l->IsPs (.Tuple [a,b] k p::es) ((x,y)::l)
inductive RetPs:List Stmt->List (V×V)->Prop where
 |mk {es:List Expr} {l:List (V×V)} {p q:Pos}:IsPs es l->RetPs [.Return (some (.List es p)) q] l
section
variable {X:Cx}
end
section
variable {X:Cx}
end
section
variable {prog:Aj}{w:Ax}{A:Au}{E:Aa->Ab->Prop}{s:Ab}{T:String}{r d:Addr}{n:Nat}{P:Nat->Aa->Prop}{OK:Heap->Prop}
end
section
variable {X:Cx}
end
section
variable {X:Cx}{o e f:Expr}{apos cpos:Pos}{td ty tx:TE}
end
section
variable {X:Cx}{tg:Expr}
end
section
variable {prog:Aj}{w:Ax}{A:Au}{E:Aa->Ab->Prop}{s:Ab}{d it v:Addr}{i ep:Nat}{es:Array DictEntry}{od:Obj}{ok ov:Aa}
end
section
variable {X:Cx}
end
open PySem PyProof.Rows
section
variable {X:Cx}{a b e v1 v2:Expr}{es rest:List Expr}{te ta tb:TE}{pos:Pos}
theorem zdL{x:Str}(h:(x.length == 0)=true):x=Str.empty:=by have h:=eq_of_beq h;obtain⟨c⟩:=x;have:c.size=0:=h;have:c=#[]:=Array.eq_empty_of_size_eq_zero this;rw[this];rfl
theorem zd5:OpR X (BS .Add) (λx y H Q=>∃a b,x=.str a/\y=.str b/\a.length+b.length<=sizeLine/\Q (.str (a++b)) H):=by
 intro pins s σ H x y v u Q I rx ry h;obtain⟨a,b,rfl,rfl,hz,q⟩:=h;obtain⟨t,rfl⟩:=rx;obtain⟨t',rfl⟩:=ry;refine PySem.P.add_str ?_
 split
 .rename_i h
  rw[zdL h]at q
  have e:Str.empty++b=b:=by obtain⟨c⟩:=b;show (⟨#[]++c⟩:Str)=⟨c⟩;rw[Array.empty_append]
  rw[e]at q;exact⟨.str _,H,I,⟨_,rfl⟩,q⟩
 .split
  .rename_i h
   rw[zdL h]at q
   have e:a++Str.empty=a:=by obtain⟨c⟩:=a;show (⟨c++#[]⟩:Str)=⟨c⟩;rw[Array.append_empty]
   rw[e]at q;exact⟨.str _,H,I,⟨_,rfl⟩,q⟩
  .refine⟨?_,.str _,H,I.tok _,⟨_,rfl⟩,q⟩
   have:(a++b).length=a.length+b.length:=by obtain⟨c⟩:=a;obtain⟨d⟩:=b;exact Array.size_append
   lia
theorem zdf:∀{ys:List Str}{its:List Aa},Vals (ys.map V.str) its->StrsAre its ys
 |[],_,.nil=>.nil
 |y::ys,_,.cons r rs=>by
  obtain⟨t,rfl⟩:=r;exact .cons y t (zdf rs)
noncomputable def rJoin:V->List V->Hp->VK->Prop:=λx vs H Q=>∃(sep:Str) (l:Addr) (ys:List Str),x=.str sep/\vs=[.ref l]/\H l=some (.lst (ys.map V.str))/\(ys.map Str.length).sum+ys.length*sep.length<=16777216/\Q (.str (Txt.join sep ys)) H
theorem zcr:MtR X "str.join" rJoin:=by
 intro pins s σ H x vs v us Q I rx rv h;obtain⟨sep,l,ys,rfl,rfl,hq,hz,q⟩:=h;obtain⟨t,rfl⟩:=rx;obtain⟨u,rfl,ru⟩:=vals1 rv
 cases ru
 obtain⟨z,its,n,r,hl,e⟩:=I.lstM hq;exact join_list ⟨_,e,rfl,n,rfl⟩ (by simpa using zdf r) hz λt' k=>⟨.str _,H,I.tok _,⟨_,rfl⟩,q⟩
noncomputable abbrev TJ:=St->Hp->Str->VK->Prop
noncomputable def PJ(X:Cx)(es:List Expr)(t:TJ):Prop:=∀(pins:List (Addr×Obj)) (s:Ab) (σ:St) (H:Hp) (out:Str) (Q:VK),Inv X pins σ H s->t σ H out Q ->
 Ao (As X.prog X.w) X.A (joinParts out (evalEach es X.env)) (EP X pins σ Q) X.xe s
noncomputable def tJNil:TJ:=λ_ H out Q=>out.length<=sizeLine/\Q (.str out) H
noncomputable def zfP(te:TE)(tr:TJ):TJ:=λσ H out Q=>te σ H λx H1=>∃y,x=.str y/\(out++y).length<=sizeLine/\tr σ H1 (out++y) Q
theorem zfX:PJ X [] tJNil:=by intro pins s σ H out Q I ⟨hz,q⟩;exact joinParts_nilE (joinParts_nil ⟨.str _,H,I.tok _,⟨_,rfl⟩,q⟩ hz)
theorem zc2{tr:TJ}(he:PE X e te)(hr:PJ X es tr):PJ X (e::es) (zfP te tr):=by intro pins s σ H out Q I h;refine joinParts_consE (joinParts_cons (thn (he pins s σ H _ I h) λv s1 ⟨x,H1,I1,r1,y,hx,hz,q⟩=>?_));subst hx;obtain⟨t,rfl⟩:=r1;exact⟨hz,hr pins s1 σ H1 _ Q I1 q⟩
theorem zfw{t:TJ}(h:PJ X (v1::v2::rest) t):PE X (.JoinedStr (v1::v2::rest) pos) (λσ H Q=>t σ H Str.empty Q):=by intro pins s σ H Q I q;exact JoinedStr_many (h pins s σ H _ Q I q)
noncomputable def tFmt(te:TE):TE:=λσ H Q=>te σ H λx H1=>(∃i,x=.int i/\i.natAbs.log2<1920/\Q (.str (toString i)) H1)∨∃y,x=.str y/\y.length<=sizeLine/\Q (.str y) H1
theorem ze6(he:PE X e te):PE X (.FormattedValue e (-1) none pos) (tFmt te):=by
 intro pins s σ H Q I h;refine FormattedValue_plain (thn (he pins s σ H _ I h) λv s1 ⟨x,H1,I1,r1,q⟩=>?_);rcases q with⟨i,rfl,hz,q⟩ |⟨y,rfl,hz,q⟩
 .obtain⟨t,rfl⟩:=r1;exact formatField_int_small hz ⟨.str _,H1,I1.tok _,⟨_,rfl⟩,q⟩
 .obtain⟨t,rfl⟩:=r1;exact formatField_str (λt' k=>⟨.str _,H1,I1.tok _,⟨_,rfl⟩,q⟩) hz
end
open PySem
theorem sC{N P:List Str}{sc:Scope}(a:sc.kind = .function := by rfl)(b:sc.isCoroutine=false := by rfl)(c:sc.isGenerator=false := by rfl)(d:N.Nodup := by decide +kernel)(e:N.take P.length=P := by rfl)
  (f:∀x∈P,sc.names.lookup x=some .local∨sc.names.lookup x=some .cell:=by decide +kernel) (g:∀y∈sc.names,y.2≠.free:=by decide +kernel):FnScope N P sc:=⟨a,b,c,d,e,f,g⟩
section
variable {X:Cx}{k j:Nat}{x:Str}{ps:List Str}{sp:Sp}{e:Expr}{es:List Expr}{t:TA}{te:TE}{p pos pos':Pos}
theorem pC (g:Fn X.prog X.w X.K X.mg X.base k x ps sp) (hr:Room j X.A) (ha:PA X (e :: es) t) (hj:k <= j := by decide) (hg:Gl X x := by rfl) (hdb:(x == ("__debug__" : Str))=false := by decide)
  (he:Ay (e::es) X.env=(false,eval e X.env)::Ay es X.env:=by rfl) (hpl:(backTo pos (Ay es X.env)).any (·.1)=false:=by rfl):PE X (.Call (.Name x p) (e::es) [] pos) (tCall sp [] E0 t) :=
 zd2 g.ok (hr.mono hj) hg g.m g.kp g.b .nil pass0 ha hdb he hpl
theorem nG(i:Nat)(hN:X.N.Nodup)(hi:X.N[i]?=some x:=by rfl)(hx:Loc X.env.scope x:=by exact Or.inl rfl)(hf:X.fn x=true∨X.env.scope.names.lookup x=some .local:=by first |exact .inl rfl |exact .inr rfl |assumption):PG X (.Name x pos) (gName i) :=
 zbj hN hi hx hf
theorem sE(i:Nat)(hN:X.N.Nodup)(he:PE X e te)(hi:X.N[i]? = some x := by rfl)(hx:Loc X.env.scope x := by exact Or.inl rfl)(hs:swapsWith e (some (.Name x pos')) pos.line X.env=pure false := by rfl)
  (hf:X.fn x=true∨X.env.scope.names.lookup x=some .local:=by first |exact .inl rfl |exact .inr rfl |assumption):PS X (.Assign [.Name x pos'] e pos) (tAsg te (gName i)) :=
 zbC hN hi hx he hs hf
end
theorem bO{osc:Scope}{N:List Str}{sc:Scope}{N':List Str}{sel:List (Option Nat)}(a:sc.kind = .function := by rfl)(b:∀y ∈ sc.names, y.2 ≠ .cell := by decide +kernel)(c:∀y ∈ sc.names, y.2 = .local -> sc.names.lookup y.1=some .local := by decide +kernel)
  (d:∀y∈sc.names,y.2=.free->osc.names.lookup y.1=some .cell∨osc.names.lookup y.1=some .free:=by decide +kernel) (e:sel.length=N'.length:=by rfl) (f:∀p∈sel.zip N',∀i∈p.1,N[i]?=some p.2/\sc.names.lookup p.2=some .free:=by decide +kernel):BlkOk osc N sc N' sel:=⟨a,b,c,d,e,f⟩
section
variable {K:W.Frag}{x qual:Str}{st:Stmt}{f:Addr}{fd:AO}
theorem Fun.b1{p0:Str}(F:Fun K x qual st f fd)(h:∀(kV doc pm:Aa) (an:Option Addr) (cdv ct a0:Aa),bindArgs (B1 x qual (zaF st) (zav st) (zae st) .none kV doc pm an cdv ct) ⟨[a0],[]⟩=pure [(p0,a0)]:=by intros;rfl):Binds K fd [p0] [] :=
 F.binds λkV doc pm an cdv ct us hl=>match us,hl with |[a0],_=>h kV doc pm an cdv ct a0
theorem Fun.b2{p0 p1:Str}(F:Fun K x qual st f fd)(h:∀(kV doc pm:Aa) (an:Option Addr) (cdv ct a0 a1:Aa),bindArgs (B1 x qual (zaF st) (zav st) (zae st) .none kV doc pm an cdv ct) ⟨[a0,a1],[]⟩=pure [(p0,a0),(p1,a1)]:=by intros;rfl):Binds K fd [p0,p1] [] :=
 F.binds λkV doc pm an cdv ct us hl=>match us,hl with |[a0,a1],_=>h kV doc pm an cdv ct a0 a1
theorem Fun.b3{p0 p1 p2:Str}(F:Fun K x qual st f fd)(h:∀(kV doc pm:Aa) (an:Option Addr) (cdv ct a0 a1 a2:Aa),bindArgs (B1 x qual (zaF st) (zav st) (zae st) .none kV doc pm an cdv ct) ⟨[a0,a1,a2],[]⟩=pure [(p0,a0),(p1,a1),(p2,a2)]:=by intros;rfl):Binds K fd [p0,p1,p2] [] :=
 F.binds λkV doc pm an cdv ct us hl=>match us,hl with |[a0,a1,a2],_=>h kV doc pm an cdv ct a0 a1 a2
end
noncomputable def DA(K:W.Frag)(x:Str)(st:Stmt):Prop:=∃(f:Addr) (od an:Option Addr) (sl:Array (Option Aa)) (oc kV dc pm cd ct:Aa),BD K Ap x=some (some (.ref f)) /\
 K.lookup f=some ⟨oc,od,.func (B1 x x (zaF st) (zav st) (zae st) .none kV dc pm an cd ct),sl⟩/\W.codeIn K cd x=true/\W.keepIn K (.ref f)=true
section
variable {K:W.Frag}{mg:Str->Option Aa}{h:Heap}{x:Str}{st:Stmt}
theorem DA.mk{f:Addr}{od an:Option Addr}{sl:Array (Option Aa)}{oc kV dc pm cd ct:Aa}(a:BD K Ap x=some (some (.ref f)))
  (l:K.lookup f=some ⟨oc,od,.func (B1 x x (zaF st) (zav st) (zae st) .none kV dc pm an cd ct),sl⟩) (c:W.codeIn K cd x=true) (k:W.keepIn K (.ref f)=true):DA K x st :=
 ⟨f,od,an,sl,oc,kV,dc,pm,cd,ct,a,l,c,k⟩
theorem DA.d1{p0:Str}(D:DA K x st)(X:K.In h)(G:h.Ns Ap mg)(hb:∀(kV doc pm:Aa) (an:Option Addr) (cdv ct a0:Aa),bindArgs (B1 x x (zaF st) (zav st) (zae st) .none kV doc pm an cdv ct) ⟨[a0],[]⟩=pure [(p0,a0)]:=by intros;rfl):Nonempty (Df K mg x st [p0]):=by obtain⟨f,od,an,sl,oc,kV,dc,pm,cd,ct,a,l,c,k⟩:=D;exact⟨⟨f,_,zbT l c k,W.mg_of X G a,(zbT l c k).b1 hb⟩⟩
theorem DA.d2{p0 p1:Str}(D:DA K x st)(X:K.In h)(G:h.Ns Ap mg)(hb:∀(kV doc pm:Aa) (an:Option Addr) (cdv ct a0 a1:Aa),bindArgs (B1 x x (zaF st) (zav st) (zae st) .none kV doc pm an cdv ct) ⟨[a0,a1],[]⟩=pure [(p0,a0),(p1,a1)]:=by intros;rfl):Nonempty (Df K mg x st [p0,p1]):=by obtain⟨f,od,an,sl,oc,kV,dc,pm,cd,ct,a,l,c,k⟩:=D;exact⟨⟨f,_,zbT l c k,W.mg_of X G a,(zbT l c k).b2 hb⟩⟩
theorem DA.d3{p0 p1 p2:Str}(D:DA K x st)(X:K.In h)(G:h.Ns Ap mg)(hb:∀(kV doc pm:Aa) (an:Option Addr) (cdv ct a0 a1 a2:Aa),bindArgs (B1 x x (zaF st) (zav st) (zae st) .none kV doc pm an cdv ct) ⟨[a0,a1,a2],[]⟩=pure [(p0,a0),(p1,a1),(p2,a2)]:=by intros;rfl):Nonempty (Df K mg x st [p0,p1,p2]):=by obtain⟨f,od,an,sl,oc,kV,dc,pm,cd,ct,a,l,c,k⟩:=D;exact⟨⟨f,_,zbT l c k,W.mg_of X G a,(zbT l c k).b3 hb⟩⟩
end
section
variable {X:Cx}{pos:Pos}
end
structure Fly (B:Heap) (l:List Env) (e:Addr) (o:Obj) (vs:Array Aa) (fl:Aa) (h:Heap):Prop where
 stay:B.StaysIn h
 new:B.get? e=none
 fr:h.FunFrames B l
 tb:∃T oT ts,h.get? e=some { o with data:=.fields (vs.setIfInBounds 1 (.ref T)) }/\1<vs.size/\B.get? T=none/\T≠e/\h.get? T=some oT/\oT.data=.fields ts/\ts[3]?=some fl
section
variable {M:Model}{A:Au}{E:Aa->Ab->Prop}{s:Ab}{B:Heap}{env:Env}{outer l:List Env}{L e:Addr}{o:Obj}{vs us:Array Aa}{fl:Aa}{Q:Unit->Ab->Prop}
theorem zb9{h:Heap}{c b:Addr}{u v:Obj}{ts:Array Aa}(hc:h.get? c=some u)(hd:u.data=.fields ts)(hb:h.get? b=some v)(hn:∀ws,v.data≠.fields ws):b≠c:=by
 rintro rfl;rw[hc]at hb
 cases hb
 exact hn _ hd
theorem zc5{b c:Addr}{u:Obj}(hb:B.get? b=some u)(hc:B.get? c=none):b≠c:=by
 rintro rfl;rw[hc]at hb
 cases hb
theorem zb8{head:Aa}{had:Bool}(hfr:A.frames=some (env :: outer))(hl:s.heap.FunFrames B (env :: outer))(hf:env.frame=some L)(he:s.heap.get? e=some { o with data := .fields us })(hkb:B.StaysIn s.heap)(hen:B.get? e=none)
  (hsz:1<us.size) (huv:∀x,us.setIfInBounds 1 x=vs.setIfInBounds 1 x) (h:∀h',Fly B (env::outer) e o vs (AV L) h'->s.heap.UpToSlots h'->Q () { s with heap:=h' }) :
  Ao M A (do let a <- frameOf env;let pl <- entryPlaceOf L had;let b <- EntryCells.newEntry head a .none (AV L) .none pl;setField (.ref e) 1 b) Q E s:=by
 have hes:e ∉ (env::outer).filterMap (·.frame):=λz=>by obtain⟨_,v,hv,hn⟩:=hl.mem z;exact zb9 he rfl hv hn rfl
 refine Ac (wpAny_frameOf_fun hfr hl hf λh1 k1=>?_);refine Ac (wpAny_entryPlaceOf λpl hpl=>?_);unfold EntryCells.newEntry newFields;refine Ac (BH ?_ (hpl.sizeOk5 _ _ _ _ _));have e1:h1.get? e=some { o with data:=.fields us }:=(k1.2.1 e hes).trans he;have b1:B.StaysIn h1:=λb u q=>(k1.2.1 b λz=>by rw[(hl.mem z).1]at q;cases q).trans (hkb b u q)
 generalize hT:({ cls:=.type "traceback",data:=.fields ([head,.ref L,.none,AV L,.none]++(if pl.isEmpty then List.replicate 6 Ba else pl)).toArray }:Obj)=oT;have hTd:oT.data=.fields ([head,.ref L,.none,AV L,.none]++(if pl.isEmpty then List.replicate 6 Ba else pl)).toArray:=by rw[<- hT]
 have hTf:oT.isFreed=false:=by rw[<- hT];rfl
 have ne:h1.objs.size≠e:=Nat.ne_of_gt (Ag e1);refine wpAny_setField (Ae _ e1) rfl hsz ?_
 have up:∀b u,b≠e->h1.get? b=some u->((h1.push oT).update e (Obj.mapFields (·.setIfInBounds 1 (AL h1.objs.size)))).get? b=some u:=λb u z q=>by rw[AD _ _ (Br z)];exact Ae _ q
 have sl:∀b u,s.heap.get? b=some u->(∀ws,u.data≠.fields ws)->∃x,((h1.push oT).update e (Obj.mapFields (·.setIfInBounds 1 (AL h1.objs.size)))).get? b=some { u with slots:=x }:=λb u q n=>by obtain⟨x,hx⟩:=k1.2.2 b u q;exact⟨x,up b _ (zb9 he rfl q n) hx⟩
 refine h _ ⟨λb u q=>up b u (zc5 q hen) (b1 b u q),hen,hl.of_keeps λb u q n=>?_,⟨h1.objs.size,oT,_,?_,?_,b1.fresh,ne,?_,hTd,?_⟩⟩ sl
 .obtain⟨x,hx⟩:=sl b u q n;exact⟨_,hx,rfl⟩
 .rw[<- huv];exact BC _ (Ae _ e1) rfl
 .have:=congrArg Array.size (huv Ba);simp only[Array.size_setIfInBounds]at this;lia
 .exact (AD _ _ (Br ne)).trans (An h1 hTf)
 .first | (simp;done) | (rcases hpl with rfl |⟨_,_,_,_,_,_,_,rfl⟩ <;> simp)
theorem zdB(hfr:A.frames=some (env :: outer))(hl:s.heap.FunFrames B (env :: outer))(hf:env.frame=some L)(he:s.heap.get? e=some { o with data := .fields vs })(hkb:B.StaysIn s.heap)(hen:B.get? e=none)(h1:vs[1]? = some .none)
  (h:∀h',Fly B (env::outer) e o vs (AV L) h'->s.heap.UpToSlots h'->Q () { s with heap:=h' }):Ao M A (noteFrame (.ref e) env) Q E s:=by
 unfold noteFrame;simp only[hf];refine Ac (B5 he rfl h1 ?_);rw[if_neg (by decide)];exact zb8 hfr hl hf he hkb hen (BL.mp h1).1 (λ_=>rfl) h
theorem zeb(hfr:A.frames=some (env :: outer))(hf:env.frame=some L)(F:Fly B (env :: outer) e o vs .none s.heap)
  (h:∀h',Fly B (env::outer) e o vs (AV L) h'->s.heap.UpToSlots h'->Q () { s with heap:=h' }):Ao M A (noteFrame (.ref e) env) Q E s:=by
 obtain⟨T,oT,ts,he,hz,nT,Te,hT,hd,h3⟩:=F.tb;unfold noteFrame;simp only[hf];refine Ac (B5 he rfl (x:=.ref T) (by simp[hz]) ?_);rw[if_pos (show (AL T != Ba)=true from by simp)];refine Ac (B5 hT hd h3 ?_);rw[if_neg (by simp[AV])];refine Ac (wpAny_setField hT hd (BL.mp h3).1 ?_);have ot:∀b,b≠T->(s.heap.update T (Obj.mapFields (·.setIfInBounds 3 Ba))).get? b=s.heap.get? b:=λb z=>AD _ _ (Br z)
 refine zb8 (s:={ s with heap:=s.heap.update T (Obj.mapFields (·.setIfInBounds 3 Ba)) }) hfr (F.fr.of_keeps λb u q n=>⟨u,(ot b (zb9 hT hd q n)).trans q,rfl⟩) hf ((ot e (Br Te)).trans he)
  (λb u q=>(ot b (zc5 q nT)).trans (F.stay b u q)) F.new (by simpa using hz) (λx=>by simp) λh' x1 x2=>h h' x1 λb u q n=>x2 b u ((ot b (zb9 hT hd q n)).trans q) n
theorem zbw(F:Fly B l e o vs fl s.heap)(h:∀h',Fly B l e o vs .none h'->s.heap.UpToSlots h'->Q () { s with heap:=h' }):Ao M A (setFlight (.ref e) none) Q E s:=by
 obtain⟨T,oT,ts,he,hz,nT,Te,hT,hd,h3⟩:=F.tb;have z3:3<ts.size:=(BL.mp h3).1;have ot:∀b,b≠T->(s.heap.update T (Obj.mapFields (·.setIfInBounds 3 ((none:Option Addr).elim Ba λf=>AV f)))).get? b=s.heap.get? b:=λb z=>AD _ _ (Br z)
 unfold setFlight;refine Ac (B5 he rfl (x:=.ref T) (by simp[hz]) ?_);rw[if_pos (show (AL T != Ba)=true from by simp)]
 refine wpAny_setField hT hd z3 (h _ ⟨λb u q=>(ot b (zc5 q nT)).trans (F.stay b u q),F.new,F.fr.of_keeps λb u q n=>⟨u,(ot b (zb9 hT hd q n)).trans q,rfl⟩,T,_,_,(ot e (Br Te)).trans he,hz,nT,Te,
  BC _ hT (Obj.isFreed_of_fields (Obj.data_mapFields hd _)),Obj.data_mapFields hd _,by simp[z3]⟩ λb u q n=>⟨u.slots,(ot b (zb9 hT hd q n)).trans q⟩)
theorem Fly.out(F:Fly B (env::outer) e o vs fl s.heap):Fly B outer e o vs fl s.heap:=⟨F.stay,F.new,F.fr.2.2,F.tb⟩
theorem zc9(hfr:A.frames=some (env :: outer))(hl:s.heap.FunFrames B (env :: outer))(hf:env.frame=some L)(he:s.heap.get? e=some { o with data := .fields vs })(hkb:B.StaysIn s.heap)(hen:B.get? e=none)(h1:vs[1]? = some .none)
  (h:∀h',Fly B outer e o vs .none h'->s.heap.UpToSlots h'->Q () { s with heap:=h' }):Ao M A (leaving env (.ref e)) Q E s:=by
 unfold leaving;refine Ac (zdB hfr hl hf he hkb hen h1 λh' x1 x2=>?_);exact zbw (s:={ s with heap:=h' }) x1 λh2 y1 y2=>h h2 (Fly.out (s:={ s with heap:=h2 }) y1) (x2.trans y2)
end
noncomputable def CX1(P:Aj)(w:Ax):CXT:=λouter H s E e s'=>∃(a:Addr) (H':Hp) (B:Heap) (o:Obj) (vs:Array Aa),e=.ref a/\s'.os=s.os/\AllBare s'.gens/\Fly B outer a o vs .none s'.heap/\s.heap.get? a=none/\H' a=none /\
 (∀h2,B.StaysIn h2->s'.heap.UpToSlots h2->Un (frs outer) [] H H' s.heap h2/\HOk P w H' h2)/\E o.cls o.dict H'
section
variable {P:Aj}{w:Ax}{K:W.Frag}{mg:Str->Option Aa}{base:Heap}{N:List Str}{qual:Str}{scope:Scope}{f:Addr}{cd:Aa}{A:Au}{outer:List Env}{s0:Ab}{H0:Hp}{E:XK}
 {pins:List (Addr×Obj)} {σ:St} {H:Hp} {s:Ab} {e:Addr} {o:Obj} {vs:Array Aa}
theorem xe_of(I:Inv (cxOf (CX1 P w) P w K mg base N qual scope f cd A outer s0 H0 E) pins σ H s)(he:s.heap.get? e=some { o with data := .fields vs })(h1:vs[1]? = some .none)(hn:H e=none)(hnew:s0.heap.get? e=none)(h:E o.cls o.dict H) :
  (cxOf (CX1 P w) P w K mg base N qual scope f cd A outer s0 H0 E).xe (.ref e) s:=by
 let X:=cxOf (CX1 P w) P w K mg base N qual scope f cd A outer s0 H0 E
 have hfs:∀b∈frs X.stack,H b=none:=I.stkFree
 have nin:∀b,b<s0.heap.objs.size->b ∉ frs outer->b≠e->b ∉ e::frs X.stack:=λb hb h2 h3 z=>by
  rcases AG.mp z with z |z
  .exact h3 z
  .rcases AG.mp (show b∈s0.heap.objs.size::frs outer from z) with z |z
   .exact absurd hb (by rw[z];exact BA _)
   .exact h2 z
 have ne0:∀b u,s0.heap.get? b=some u->b≠e:=λb u q z=>by rw[z,hnew]at q;cases q
 refine zc9 (B:=W.hideAll s.heap (e::frs X.stack)) (show _=some (X.env::outer) from I.ok.frames) (W.funFrames_hide I.stack λen hen a ha=>Az _ (List.mem_filterMap.mpr ⟨en,hen,ha⟩)) rfl he (λb u q=>W.of_hideAll _ q) (W.hideAll_none _ (.head _)) h1 λh' x1 x2=>?_
 refine⟨e,H,_,o,vs,rfl,I.os,I.bare,x1,hnew,hn,λh2 k1 k2=>?_,h⟩;have st:∀b u,s.heap.get? b=some u->b ∉ e::frs X.stack->h2.get? b=some u:=λb u q z=>k1 b u (W.hideAll_get _ q z)
 have sl:∀b u,b∈frs outer->s0.heap.get? b=some u->∃x,h2.get? b=some { u with slots:=x }:=λb u hb q=>by obtain⟨_,v,hv,hd⟩:=I.ok.funs.mem hb;obtain rfl:v=u:=AX (hv.symm.trans q);obtain⟨x,hx⟩:=I.base.slot b v q (I.ok.frf b hb) hb (by simp[cxOf]);obtain⟨y,hy⟩:=(x2.trans k2) b _ hx hd;exact⟨y,hy⟩
 refine⟨⟨λb u q n hb _=>st b u (I.base.keep b u q n hb (by simp[cxOf])) (nin b (Ag q) hb (ne0 b u q)),λb u q n hb _=>sl b u hb q,λb u q n _=>I.base.free b u q n (by simp[cxOf]),λb u q _=>?_,I.base.tups,I.base.frzs,I.base.tbls⟩,λb u q=>?_⟩
 .by_cases hb:b∈frs outer
  .obtain⟨x,hx⟩:=sl b u hb q;exact⟨_,hx⟩
  .obtain⟨v,hv⟩:=I.base.there b u q (by simp[cxOf]);exact⟨v,st b v hv (nin b (Ag q) hb (ne0 b u q))⟩
 .refine (I.hok b u q).stay (λc v hc r=>st c v r λz=>?_) (λ_ r=>r) λ_ _ r=>r
  have hH:H c≠none:=by
   rcases hc with rfl |hc
   .rw[q];simp
   .rw[hc];simp
  rcases AG.mp z with z |z
  .rw[z]at hH;exact hH hn
  .exact hH (hfs c z)
end
theorem ObjOk.ex{P:Aj}{w:Ax}{H:Hp}{h:Heap}{a:Addr}{o:HO}(x:ObjOk P w H h a o):∃u,h.get? a=some u:=by
 cases o with
 |lst xs=>obtain⟨_,_,_,_,e⟩:=x;exact⟨_,e⟩
 |tup xs=>obtain⟨_,_,_,u,e,_⟩:=x;exact⟨_,e⟩
 |dK kvs=>obtain⟨_,_,_,_,o,_,_,e,_⟩:=x;exact⟨_,e⟩
 |dT kvs=>obtain⟨_,_,_,_,o,_,_,e,_⟩:=x;exact⟨_,e⟩
 |set S n=>obtain⟨o,_,_,_,e,_⟩:=x;exact⟨_,e⟩
 |ins C dx fs=>obtain⟨_,_,_,e,_⟩:=x;exact⟨_,e⟩
 |own y=>exact x
 |xd fs=>obtain⟨_,⟨_,_,_,e,_⟩,_⟩:=x;exact⟨_,e⟩
 |rng lo hi=>obtain⟨_,_,_,e⟩:=x;exact⟨_,e⟩
 |frz ob u=>exact⟨_,x.1⟩
 |tbl ps=>exact⟨_,x⟩
 |met f y=>exact⟨_,x⟩
 |ext φ=>exact x.2.1
theorem HOk.gone{P:Aj}{w:Ax}{H:Hp}{h:Heap}{a:Addr}(x:HOk P w H h)(e:h.get? a=none):H a=none:=by
 cases q:H a with
 |none=>rfl
 |some o =>
  obtain⟨u,hu⟩:=(x a o q).ex;rw[e]at hu
  cases hu
theorem zgc{K:W.Frag}{h:Heap}{C:Addr}{bB:List Aa}{nw:String}(X:K.In h)(q:W.excIn K C bB nw=true) :
  ∃bm N nm qn bs hd sn sub ab col dd k0 k1 k2 k3 k5 mN,h.get? C=some (excClassObj nm qn C N bs bm hd sn sub ab col dd k0 k1 k2 k3 k5 nw)/\h.Ns N mN/\mN "__init__" = none/\OwnTail h bB bm:=by
 unfold W.excIn at q;split at q
 .rename_i dd c sl ho
  split at q
  .rename_i D bm k0 k1 k2 k3 n k5 hm hs
   simp only[Bool.and_eq_true,beq_iff_eq,Bool.not_eq_true']at q;obtain⟨⟨⟨⟨⟨q1,q2⟩,q3⟩,q4⟩,q5⟩,q6⟩:=q
   cases q1
   cases q2
   have h0:=X _ _ ho
   cases c with
   |mk nm bs mro ns qn hd sn sub ab col del =>
    cases hm
    cases q3
    cases sl with
    |mk l =>
     cases hs
     exact⟨bm,ns,nm,qn,bs,hd,sn,sub,ab,col,dd,k0,k1,k2,k3,k5,_,h0,.of_isNs (W.isNs_of_in X q5),W.nsMap_none_of_in X q5 q6,W.tail_of_in X q4⟩
  .cases q
 .cases q
section
variable {P:Aj}{w:Ax}{K:W.Frag}{mg:Str->Option Aa}{base:Heap}{N:List Str}{qual:Str}{scope:Scope}{f:Addr}{cd:Aa}{A:Au}{outer:List Env}{s0:Ab}{H0:Hp}{E:XK}
theorem zdX{x:Str}{C:Addr}{np cpos pos:Pos}{Bn nw it:String}{bB:List Aa}(FB:ExcBaseFacts Bn nw it bB)(hq:W.excIn K C bB nw=true)
  (hg:Gl (cxOf (CX1 P w) P w K mg base N qual scope f cd A outer s0 H0 E) x) (hm:mg x=some (.ref C)) (hd:(x == ("__debug__" : Str))=false:=by decide) :
  PS (cxOf (CX1 P w) P w K mg base N qual scope f cd A outer s0 H0 E) (.Raise (some (.Call (.Name x np) [] [] cpos)) none pos) (λ_ _ H=>E (.ref C) none H):=by
 intro pins s σ H D I h;obtain⟨bm,ns,nm,qn,bs,hdd,sn,sub,ab,col,dd,k0,k1,k2,k3,k5,mN,hC,hN,hni,T⟩:=zgc I.kIn hq
 refine wpAny_Raise_call_subT (C:=C) (nm:=nm) (q:=qn) (N:=ns) (bs:=bs) (bm:=bm) (hdct:=hdd) (sn:=sn) (sub:=sub) (ab:=ab) (col:=col) (dd:=dd) (k0:=k0) (k1:=k1) (k2:=k2) (k3:=k3) (k5:=k5)
  FB (mN:=mN) (T.hasType FB.hasBase) (I.ok.hd rfl) rfl hni (zcv I hg hm ⟨rfl,?_⟩ hd)
 refine PyProof.Rows.evalArgs_empty ⟨rfl,AZ _,hC,hN,T,λh' e hx=>?_⟩;obtain⟨t,he,_,_⟩:=hx.there
 exact xe_of (o:={ cls:=.ref C,data:=.fields #[.ref t,.none,.none,.none,.bool false,.none] }) (I.kept (t':=s.toks) hx.keeps) he rfl (I.hok.gone hx.new) (by
  cases q:s0.heap.get? e with
  |none=>rfl
  |some u =>
   obtain⟨v,hv⟩:=I.base.there e u q (by simp[cxOf]);rw[hx.new]at hv
   cases hv) h
end
noncomputable abbrev Cx.pinned(X:Cx)(pins:List (Addr×Obj)):Cx:={ X with pn:=X.pn++pins }
noncomputable abbrev Cx.tried(X:Cx)(pins:List (Addr×Obj))(E:XK):Cx:={ X with pn:=X.pn++pins,xe:=λe s'=>∃ps σ H s,Inv (X.pinned pins) ps σ H s/\CX1 X.prog X.w X.stack H s E e s' }
noncomputable abbrev Cx.held(X:Cx)(a:Addr):Cx:={ X with A:=X.A.mark (some (.ref a)),calm:=false,xe:=λ_ _=>False }
noncomputable def excO(a:Addr)(c:Aa)(d:Option Addr):HO:=.ext λh=>∃u,h.get? a=some u/\u.cls=c/\u.dict=d/\∃vs,u.data=.fields vs
noncomputable def Ends.drop(D:Ends)(i:Nat):Ends:={ nx:=λσ H=>D.nx (σ.set i none) H,rt:=D.rt,bk:=λσ H=>D.bk (σ.set i none) H,ct:=λσ H=>D.ct (σ.set i none) H }
section
variable {X:Cx}{pins:List (Addr×Obj)}{σ:St}{H:Hp}{s:Ab}{E:XK}
theorem Cx.Ok.pinned(ok:X.Ok):(X.pinned pins).Ok:=⟨ok.mod,ok.kind,ok.glob,ok.blt,ok.above,ok.inj,ok.has,ok.cab,ok.hd,ok.frames,ok.stk,ok.exf,ok.bs,ok.bsz,ok.noex,ok.exfs,ok.funs,ok.frf⟩
theorem Cx.Ok.unpinned(ok:(X.pinned pins).Ok):X.Ok:=⟨ok.mod,ok.kind,ok.glob,ok.blt,ok.above,ok.inj,ok.has,ok.cab,ok.hd,ok.frames,ok.stk,ok.exf,ok.bs,ok.bsz,ok.noex,ok.exfs,ok.funs,ok.frf⟩
theorem Inv.unpnd{ps:List (Addr×Obj)}(I:Inv (X.pinned pins) ps σ H s):Inv X pins σ H s:=⟨I.ok.unpinned,I.os,I.bare,I.base,I.loc,I.cell,I.free,I.freeC,λp hp=>I.pin p (List.mem_append_left _ hp),I.hok,I.len⟩
theorem Inv.tried(I:Inv X pins σ H s):Inv (X.tried pins E) [] σ H s:=⟨I.ok.pinned.wish _,I.os,I.bare,I.base,I.loc,I.cell,I.free,I.freeC,λp hp=>I.pin p (by simpa using hp),I.hok,I.len⟩
theorem Inv.untried{ps:List (Addr×Obj)}(I:Inv (X.tried pins E) ps σ H s):Inv (X.pinned pins) ps σ H s:=Inv.unwish (X:=X.pinned pins) I
theorem SP.untried{D:Ends}{f:Flow}{ps:List (Addr×Obj)}(h:SP (X.tried pins E) ps D f s):SP X pins D f s:=by
 cases f with
 |next=>obtain⟨σ',H',I,q⟩:=h;exact⟨σ',H',I.untried.unpnd,q⟩
 |brk=>obtain⟨σ',H',I,q⟩:=h;exact⟨σ',H',I.untried.unpnd,q⟩
 |cont=>obtain⟨σ',H',I,q⟩:=h;exact⟨σ',H',I.untried.unpnd,q⟩
 |ret u=>obtain⟨v,σ',H',I,r,q⟩:=h;exact⟨v,σ',H',I.untried.unpnd,r,q⟩
theorem passT{E1:XK}(hi:∀c d H',E1 c d H'->E c d H'):zcW (CX1 X.prog X.w) (X.tried pins E) E1:=by rintro ps σ H s e s' I ⟨a,H',B,o,vs,q1,q2,q3,q4,q5,q6,q7,h⟩;exact⟨ps,σ,H,s,I.untried,a,H',B,o,vs,q1,q2,q3,q4,q5,q6,q7,hi _ _ _ h⟩
theorem Inv.held{a:Addr}(I:Inv X pins σ H s):Inv (X.held a) pins σ H s :=
 ⟨⟨I.ok.mod,I.ok.kind,I.ok.glob,I.ok.blt,I.ok.above,I.ok.inj,I.ok.has,I.ok.cab,(λz=>nomatch z),I.ok.frames,I.ok.stk,I.ok.exf,I.ok.bs,I.ok.bsz,I.ok.noex,I.ok.exfs,I.ok.funs,I.ok.frf⟩,I.os,I.bare,I.base,I.loc,I.cell,I.free,I.freeC,I.pin,I.hok,I.len⟩
theorem Inv.unheld{a:Addr}(ok:X.Ok)(I:Inv (X.held a) pins σ H s):Inv X pins σ H s:=⟨ok,I.os,I.bare,I.base,I.loc,I.cell,I.free,I.freeC,I.pin,I.hok,I.len⟩
theorem Inv.track{a:Addr}{u:HO}{σ2:St}{H2:Hp}{s2:Ab}(I:Inv X pins σ H s)(I2:Inv X pins σ2 H2 s2)(hex:X.ex=[])(hn:H a=none)(h2:s2.heap.get? a=none)(new:ObjOk X.prog X.w (upd H a u) s.heap a u):Inv X pins σ (upd H a u) s:=by
 have na:∀b v,s2.heap.get? b=some v->b≠a:=λb v q z=>by rw[z,h2]at q;cases q
 have n0:∀b v,X.s₀.heap.get? b=some v->b≠a:=λb v q=>by obtain⟨x,hx⟩:=I2.base.there b v q (by rw[hex];simp);exact na b x hx
 have nH:∀b v,H b=some v->b≠a:=λb v q z=>by rw[z,hn]at q;cases q
 have nL:X.env.locals≠a:=by obtain⟨m,⟨v,_,_,q,_⟩,_⟩:=I2.loc;exact na _ v q
 have B:=I.base;refine⟨I.ok,I.os,I.bare,⟨B.keep,B.slot,λb v q z hx=>?_,B.there,λb xs q=>?_,λb v w q=>?_,λb ps q=>?_⟩,I.loc,I.cell,?_,λx c q=>?_,λp hp=>?_,λb v q=>?_,I.len⟩
 .rw[zam (n0 b v q)];exact B.free b v q z hx
 .have:=B.tups b xs q;rw[zam (nH _ _ this)];exact this
 .have:=B.frzs b v w q;rw[zam (nH _ _ this)];exact this
 .obtain⟨more,this⟩:=B.tbls b ps q;exact⟨more,by rw[zam (nH _ _ this)];exact this⟩
 .rw[zam nL];exact I.free
 .obtain⟨_,v,hv,_⟩:=I2.cell x c q;rw[zam (na c v hv)];exact I.freeC x c q
 .obtain⟨q1,q2,q3⟩:=I.pin p hp;refine⟨q1,?_,q3⟩;rw[zam (na _ _ (I2.pin p hp).1)];exact q2
 .by_cases hb:b=a
  .subst hb;rw[zaa]at q;cases q;exact new
  .rw[zam hb]at q;exact (I.hok b v q).stay (λ_ _ _ r=>r) (λc r=>by rw[zam (nH _ _ r)];exact r) λc xs r=>by rw[zam (nH _ _ r)];exact r
theorem zeM{M:Model}{A:Au}{Ex:Aa -> Ab -> Prop}{i:Nat}{n:Str}{pos:Pos}{Q:Unit -> Ab -> Prop}(I:Inv X pins σ H s)(hN:X.N.Nodup)(hi:X.N[i]? = some n)(hl:X.env.scope.names.lookup n=some .local)
  (h:∀s',Inv X pins (σ.set i none) H s'->Q () s'):Ao M A (do bindName X.env n .none;unbindBehindTheSuite X.env n pos) Q Ex s:=by
 obtain⟨m,hn,hv⟩:=id I.loc;have hp:(X.env.scope.kind == .class || (X.env.scope.kind == .module && X.env.locals != X.env.globals))=false:=by rw[I.ok.kind];rfl
 refine wpAny_nameGoes_keeps hl hn hp λh' v hn' hs=>?_
 have ab:∀b u,X.s₀.heap.get? b=some u->b≠X.env.locals:=λb u q=>AA (Aq (Ag q) I.ok.above)
 have cne:=I.cne;refine h _ ⟨I.ok,I.os,I.bare,⟨λb u q z hb hx=>(hs.2 b (ab b u q)).trans (I.base.keep b u q z hb hx),λb u q z hb hx=>?_,I.base.free,λb u q hx=>?_,I.base.tups,I.base.frzs,I.base.tbls⟩,⟨_,hn',λj y v' e1 e2 e3=>?_⟩,λy c q=>?_,I.free,I.freeC,λp hp=>?_,λb u q=>?_,by simpa using I.len⟩
 .obtain⟨x,hx⟩:=I.base.slot b u q z hb hx;exact⟨x,(hs.2 b (ab b u q)).trans hx⟩
 .obtain⟨x,hx⟩:=I.base.there b u q hx;exact⟨x,(hs.2 b (ab b u q)).trans hx⟩
 .have hj:j ≠ i := by
   rintro rfl;have hz:j<σ.length:=by rw[I.len];exact (Ah.mp hi).1
   rw[List.getElem?_set_self hz]at e2
   cases e2
  rw[List.getElem?_set_ne (Br hj)]at e2;obtain⟨u,r,q⟩:=hv j y v' e1 e2 e3;refine⟨u,r,?_⟩;rcases q with⟨k,q⟩ |⟨k,c,q,z⟩
  .have:y≠n:=λz=>hj (zcq hN e1 (z ▸ hi))
   exact .inl ⟨k,by simp[this,q]⟩
  .exact .inr ⟨k,c,q,z.sameBut hs (cne y c q)⟩
 .obtain⟨x,hx⟩:=I.cell y c q;exact⟨x,hx.sameBut hs (cne y c q)⟩
 .obtain⟨q1,q2,q3,q4,q5⟩:=I.pin p hp;exact⟨(hs.2 p.1 q3).trans q1,q2,q3,q4,q5⟩
 .refine (I.hok b u q).stay (λc v hc r=>(hs.2 c ?_).trans r) (λ_ r=>r) λ_ _ r=>r
  rintro rfl;rcases hc with rfl |hc
  .rw[I.free]at q;cases q
  .rw[I.free]at hc;cases hc
end
noncomputable def tTryE(i k:Nat)(E:XK)(tb ts:TS):TS:=λD σ H=>tb D σ H/\∀(c:Aa) (d:Option Addr) (H':Hp) (a:Addr) (σ':St),E c d H'->H' a=none->σ'.length=k->ts (D.drop i) (σ'.set i (some (.ref a))) (upd H' a (excO a c d))
section
variable {X:Cx}
theorem zfq{body suite:List Stmt}{b0:Stmt}{n tn:Str}{i:Nat}{T:Addr}{E:XK}{tb ts:TS}{np hpos pos:Pos}(hex:X.ex = [])(hst:X.stack=X.env :: X.outer)(hfm:X.env.frame=some X.env.locals)(hb:∀pins, PSs (X.tried pins E) body tb)(hs:∀a, PSs (X.held a) (b0 :: suite) ts)
  (hg:Gl X tn) (hm:X.mg tn=some (.ref T)) (hE:∀c d H,E c d H->W.exmOne X.K c (.ref T)=some true) (hN:X.N.Nodup) (hi:X.N[i]?=some n) (hl:X.env.scope.names.lookup n=some .local) (hdb:(tn == ("__debug__" : Str))=false:=by decide) :
  PS X (.Try body [.ExceptHandler (some (.Name tn np)) (some n) (b0::suite) hpos] [] [] pos) (tTryE i X.N.length E tb ts):=by
 rintro pins s σ H D I ⟨hb0,hs0⟩;refine wpAny_Try_except (BZ (hb pins [] s σ H D I.tried hb0) (λf s1 q=>?_) ?_)
 .cases f with
  |next=>exact wpAny_execs_nil q.untried
  |_=>exact q.untried
 rintro e s1 ⟨ps,σ',H1,s2,I1,a,H',B,o,vs,rfl,os,bare,F,hnew,hn,st,hE0⟩;rw[hst]at F;have J:=I1.unpnd;refine zeb (by rw[<- hst];exact I.ok.frames) hfm F λh4 F4 k4=>?_
 refine zbw (s:={ s1 with heap:=h4 }) F4 λh5 F5 k5=>?_
 have at5:∀h5,B.StaysIn h5->s1.heap.UpToSlots h5->Inv X pins σ' H' { s1 with heap:=h5 }:=λh5 z1 z2=>by obtain⟨un,hok⟩:=st h5 z1 z2;exact J.call' (s':={ s1 with heap:=h5 }) (ch:=[]) os un hok bare (λb z=>absurd z (by simp))
 have J5:=at5 h5 F5.stay (k4.trans k5);obtain⟨T5,_,_,e5,_⟩:=id F5.tb;refine wpAny_handleBy_cons (codeAny_handlers_test (zcv (X:=X.held a) J5.held hg hm ?_ hdb)) (by intro q;cases q);refine (W.exm_one J5.kIn ((W.Looks.ld e5).andThen .now) (hE _ _ _ hE0)).here ?_
 refine codeAny_handlers_suite_as ?_
 refine zbw (s:={ s1 with heap:=h5 }) F5 λh6 F6 k6=>?_
 have J6:=at5 h6 F6.stay ((k4.trans k5).trans k6);obtain⟨T6,_,_,e6,_⟩:=id F6.tb
 have J6':Inv (X.held a) pins σ' (upd H' a (excO a o.cls o.dict)) { s1 with heap:=h6 } :=
  (J6.track (u:=excO a o.cls o.dict) J hex hn hnew ⟨⟨_,e6,rfl,rfl,_,rfl⟩,⟨_,e6⟩,λh1 h2 ⟨u,hu,q⟩ k=>⟨u,k u hu,q⟩⟩).held
 refine zcf (X:=X.held a) (v:=.ref a) J6' hN hi (.inl hl) rfl (λs7 J7=>?_) (.inr hl);refine BZ (hs a pins s7 _ _ (D.drop i) J7 (hs0 _ _ _ a σ' hE0 hn J.len)) (λfl s8 q=>?_) (λ_ _ z=>Bb z);have go:∀{σ2:St} {H2:Hp} (Q:Unit->Ab->Prop),Inv (X.held a) pins σ2 H2 s8->(∀s',Inv X pins (σ2.set i none) H2 s'->Q () s')->Ao (As X.prog X.w) X.A (do bindName X.env n .none;unbindBehindTheSuite X.env n hpos) Q X.xe s8:=λQ I8 k=>zeM (Inv.unheld I.ok I8) hN hi hl k
 cases fl with
 |next=>obtain⟨σ2,H2,I8,q⟩:=q;exact go _ I8 λs' I9=>⟨_,_,I9,q⟩
 |brk=>obtain⟨σ2,H2,I8,q⟩:=q;exact go _ I8 λs' I9=>⟨_,_,I9,q⟩
 |cont=>obtain⟨σ2,H2,I8,q⟩:=q;exact go _ I8 λs' I9=>⟨_,_,I9,q⟩
 |ret u=>obtain⟨v,σ2,H2,I8,r,q⟩:=q;exact go _ I8 λs' I9=>⟨v,_,_,I9,r,q⟩
end
section
variable {prog:Aj}{w:Ax}{A:Au}{E:Aa->Ab->Prop}{s:Ab}{K:W.Frag}{a D:Addr}{u:Obj}
theorem zfG {M:Model}{nv:Aa}{Q:Unit->Ab->Prop}(L:W.Looks M s.heap (isInstance (.ref a) (.type "BaseException")) true) (h:Q () s):Ao M A (checkBuiltinCall "BaseException.__getattribute__" ⟨[.ref a,nv],[]⟩) Q E s:=by
 have k1:builtinKind "BaseException.__getattribute__" = some .slot:=by decide +kernel
 have k2:splitId "BaseException.__getattribute__" = some ("BaseException","__getattribute__"):=by decide +kernel
 have k3:=PySem.F.args_bexc_ga (.ref a) nv;obtain⟨hh,g,d,t,os⟩:=s;simp only[checkBuiltinCall,k1,k2];refine Ac (L.at ?_)
 repeat (first |assumption |wp_step)
theorem zga (X:K.In s.heap) (I:W.InstAt s.heap a u D none) (hb:W.subIn K (.ref D) (.type "BaseException")=some true){nv:Aa}{R:Result -> Ab -> Prop}
  (h:Ao (As prog w) A.in1 (Builtin.«object.__getattribute__» ⟨[.ref a,nv],[]⟩) (λf s'=>match f with |.done r=>R (.ok r) s' |_=>False) (λe s'=>R (.error e) s') s) :
  BG (As prog w) A (.call (.builtin "BaseException.__getattribute__") ⟨[.ref a,nv],[]⟩) R s:=by
 refine codeAny_call_builtin PySem.F.attr_ValueError.ga.plain PySem.F.entry_bexc_ga (zfG (I.type.andThen (W.looks_subIn X hb)) (BZ h (λf s' z=>?_) λ_ _ z=>z))
 cases f with
 |done r=>exact z
 |again c=>exact z.elim
theorem zfF (X:K.In s.heap) (I:W.InstAt s.heap a u D none) (hf:W.findObj K D none "__class__" = some (.bind (.builtin "getset_descriptor.__get__") (.builtin "object.__class__"))) (hm:W.mroIn K D (.type "object")=some true){tk:Tok}{Q:Fin -> Ab -> Prop}
  (h:Q (.done (.ret (.ref D))) s):Ao (As prog w) A (Builtin.«object.__getattribute__» ⟨[.ref a,.str "__class__" tk],[]⟩) Q E s:=by
 have L0:=I.type (M:=As prog w);have L1:=W.looks_find (M:=As prog w) X I hf;refine Ac (Av (Ac (Av (Ac (L0.here (Ac (L1.here ?_)))))));show Ao _ _ (holding [Value.builtin "object.__class__"] (call (.builtin "getset_descriptor.__get__") [.builtin "object.__class__",.ref a,.ref D]) >>= ret) _ _ _;exact Ac (AW (wpAny_call (W.class_get X I hm (Av h))))
theorem zgb (X:K.In s.heap) (I:W.InstAt s.heap a u D none) (hga:Bx K (.ref D) "__getattribute__" = some (some (.builtin "BaseException.__getattribute__"))) (hgb:Bx K (.ref D) "__getattr__" = some none)
  (hb:W.subIn K (.ref D) (.type "BaseException")=some true) (hf:W.findObj K D none "__class__" = some (.bind (.builtin "getset_descriptor.__get__") (.builtin "object.__class__"))) (hm:W.mroIn K D (.type "object")=some true) {Q:Option Aa->Ab->Prop}
  (h:Q (some (.ref D)) { s with toks:=s.toks+1 }):Ao (As prog w) A (getAttr? (.ref a) "__class__") Q E s:=by
 obtain⟨hh,g,d,t,os⟩:=s;have L0:=I.type (M:=As prog w);have L1:=W.looks_findIn (M:=As prog w) X hga;have L2:=W.looks_findIn (M:=As prog w) X hgb;unfold getAttr? getAttrBy? getAttrBy;refine Ac (wpAny_mkText (Ac (wpAny_attempt (AW (Ac (L0.at (Ac (L1.at ?_))))))));show Ao _ _ (getAttrByItsOwn (.ref a) _ (.ref D) (.builtin "BaseException.__getattribute__") false false) _ _ _;unfold getAttrByItsOwn;refine Ac (show Ao _ _ (typeLookup (.ref D) "__getattr__") _ _ _ from L2.at ?_);refine Ac (wpAny_attempt (AW ?_));show Ao _ _ (boundAndCalled (.builtin "BaseException.__getattribute__") (.ref a) _) _ _ _;unfold boundAndCalled;refine Ac (Be (PySem.F.attr_ValueError.ga.bind _) ?_);refine wpAny_call (zga (s:=⟨hh,g,d,t+1,os⟩) X I hb (zfF (s:=⟨hh,g,d,t+1,os⟩) X I hf hm ?_));exact W.handed_on rfl (Av h)
end
structure ExcC (K:W.Frag) (D:Addr):Prop where
 hga:Bx K (.ref D) "__getattribute__" = some (some (.builtin "BaseException.__getattribute__"))
 hgb:Bx K (.ref D) "__getattr__" = some none
 hb:W.subIn K (.ref D) (.type "BaseException")=some true
 hd:W.hasDictIn K D=true
 ha:Bx K (.ref D) "__class__" = some (some (.builtin "object.__class__"))
 hn:W.specialIn K (.builtin "object.__class__") "__get__" = some (some (.builtin "getset_descriptor.__get__"))
 ht:W.takesIn K (.builtin "object.__class__")=some true
 hm:W.mroIn K D (.type "object")=some true
noncomputable def ExcAt(a D:Addr)(h:Heap):Prop:=∃u,h.get? a=some u/\u.cls=.ref D/\u.dict=none/\∃vs,u.data=.fields vs
theorem zeP{K:W.Frag}{a D:Addr}(C:ExcC K D):W.KitX K (.ref a) (.ref D) (ExcAt a D) where
 ty:=λM h _ ⟨u,hu,hc,_⟩=>hc ▸ (W.Looks.ld hu).andThen .now
 it:=λM h X _=>by
  obtain⟨cd,hc,_⟩:=W.any_some C.hd;unfold W.clsIn at hc;split at hc
  .rename_i ho
   intro A' Q' E' s' k q;unfold isType loadHead;exact Ac (wpAny_loadPart (k _ _ (X _ _ ho)) (Av q))
  .cases hc
 ne:=λh tp dd its n sl X htp=>by
  obtain⟨cd,hc,_⟩:=W.any_some C.hd;refine Bool.eq_false_iff.mpr λq=>?_
  cases Value.ref.inj (beq_iff_eq.mp q)
  unfold W.clsIn at hc;split at hc
  .rename_i ho
   cases (X _ _ ho).symm.trans htp
  .cases hc
 ca:=λ{prog w A E Q s} X p k=>by
  obtain⟨u,hu,hc,hd,vs,hv⟩:=p;have I:W.InstAt s.heap a u D none:=⟨hu,hc,by unfold W.notCls;rw[hv],by rw[hd];exact trivial⟩
  have hf:W.findObj K D none "__class__" = some (.bind (.builtin "getset_descriptor.__get__") (.builtin "object.__class__")):=by obtain⟨cd,q,_⟩:=W.any_some C.hd;have e1:=C.ha;have e2:=C.hn;have e3:=C.ht;simp[W.findObj,q,e1,e2,e3]
  exact zgb X I C.hga C.hgb C.hb hf C.hm k
theorem zew {X:Cx}:CallR X (.builtin "isinstance") (λxs H Q=>∃a D c v b,xs=[.ref a,c]/\H a=some (excO a (.ref D) none)/\RelV c v/\(∀u,RelV c u->u=v)/\ExcC X.K D/\Bm X.K (.ref D) v=some b/\Q (.bl b) H):=by
 intro pins s σ H xs us Q I r h;obtain⟨a,D,c,v,b,rfl,ha,rc,un,C,hk,q⟩:=h;obtain⟨u1,u2,rfl,r1,r2⟩:=Vals.two r
 cases r1
 cases un _ r2
 obtain⟨z,_⟩:=I.hok a _ ha;exact Bs (zeP C) I.kIn z hk (λz=>nomatch z) λtk=>⟨.bl b,H,I.tok tk,rfl,q⟩
theorem zbd {X:Cx}{K:W.Frag}(hK:X.K=K:=by rfl):CallR X (.builtin "isinstance") (λxs H Q=>∃a D c v b,xs=[.ref a,c]/\H a=some (excO a (.ref D) none)/\RelV c v/\(∀u,RelV c u->u=v)/\ExcC K D/\Bm K (.ref D) v=some b/\Q (.bl b) H):=by subst hK;exact zew
theorem PS.nox{X:Cx}{st:Stmt}{t:TS}(h:PS X.nox st t):PS X st t:=λpins s σ H D I hw=>BZ (h pins s σ H D (I.wish _) hw) (λ_ _ q=>q.unwish) λ_ _ z=>Bb z
section
variable {P:Aj}{w:Ax}{K:W.Frag}{mg:Str->Option Aa}{base:Heap}
structure FnX (P:Aj) (w:Ax) (K:W.Frag) (mg:Str->Option Aa) (base:Heap) (k:Nat) (x:Str) (ps:List Str) (sp:Sp) where
 f:Addr
 fd:AO
 ok:FnOk P w K mg base (CX1 P w) k f fd ps sp
 m:mg x=some (.ref f)
 kp:W.keepIn K (.ref f)=true
 b:Binds K fd ps []
noncomputable def Df.fnX{k:Nat}{x:Str}{st:Stmt}{ps:List Str}{sp:Sp}(d:Df K mg x st ps)(h:FnOk P w K mg base (CX1 P w) k d.f d.fd ps sp):FnX P w K mg base k x ps sp:=⟨d.f,d.fd,h,d.m,d.F.kp,d.b⟩
theorem Fun.okX{x qual:Str}{st:Stmt}{f:Addr}{fd:AO}{N ps:List Str}{k:Nat}{sp:Sp}(F:Fun K x qual st f fd)(S:FnScope N ps (zae st))(len:∀vs H Q E, sp vs H Q E -> vs.length=ps.length)
  (hb:∀(cdv:Aa) (A:Au) (outer:List Env) (s:Ab) (H:Hp) (vs:List V) (Q:VK) (E:XK),Room k (A.deeper (envOfC qual (zae st) s.heap.objs.size f cdv))->sp vs H Q E ->
   ∃t,PSs (cxOf (CX1 P w) P w K mg base N qual (zae st) f cdv A outer s H E) (zav st) t/\t { nx:=λ_ H'=>Q .non H',rt:=Q } (start N vs) H):FnOk P w K mg base (CX1 P w) (k+1) f fd ps sp:=by
 obtain⟨oc,od,kV,doc,pm,an,cdv,ct,osl,rfl,lk,hcd⟩:=F.ex;exact fn_of lk hcd S len λA outer s H vs Q E hr hsp=>hb cdv A outer s H vs Q E hr hsp
end
section
variable {X:Cx}{k j:Nat}{x:Str}{ps:List Str}{sp:Sp}{E:XK}{p pos:Pos}{e:Expr}{es:List Expr}{t:TA}
theorem pCX (g:FnX X.prog X.w X.K X.mg X.base k x ps sp) (hr:Room j X.A) (hx:zcW (CX1 X.prog X.w) X E) (ha:PA X (e :: es) t) (hj:k <= j := by decide) (hg:Gl X x := by rfl) (hdb:(x == ("__debug__" : Str))=false := by decide)
  (he:Ay (e::es) X.env=(false,eval e X.env)::Ay es X.env:=by rfl) (hpl:(backTo pos (Ay es X.env)).any (·.1)=false:=by rfl):PE X (.Call (.Name x p) (e::es) [] pos) (tCall sp [] E t) :=
 zd2 g.ok (hr.mono hj) hg g.m g.kp g.b .nil hx ha hdb he hpl
end
noncomputable def ItrD(lo:Int)(n:Nat):It:=⟨λi _=>i<n,λi H x H'=>H'=H/\x=.int (lo-i),λi _=>n<=i⟩
theorem zcC{P:Aj}{w:Ax}{K:W.Frag}{tg:Expr}(it:Addr)(lo:Int)(n:Nat):Turn P w K tg (ItrD lo n) [it] it (λi h=>IsRangeIter h it (lo+(i:Nat)*(-1)) ((n:Int)-(i:Nat)) (-1)) where
 mem:=by simp
 obj:=λi h st b hb=>by
  cases (show b=it by simpa using hb)
  exact⟨_,st,λv z=>by cases (show Data.fields _=Data.cell v from z)⟩
 keep:=λi h h' st k=>k it (by simp) _ st
 item:=by
  intro X hP hw hK hc i pins s σ H E I hf st hg;subst hP hw hK;obtain⟨f0,f1,f2,f3,f4,f5⟩:=hf it (by simp);refine (Walks.range (prog:=X.prog) (w:=X.w) (I.ok.hd hc) it lo (-1) n).item i s _ _ hg st λv h' tk hv st' kk=>?_
  obtain⟨t,rfl⟩:=hv;have I1:Inv X pins σ H { s with heap:=h',toks:=tk }:=I.turned (λb o hb e=>kk b o (by simpa using hb) e) f0 f1 f3 f4 f5;exact⟨_,rfl,go_of (s:={ s with heap:=h',toks:=tk }) (n:="range_iterator") st' rfl rfl (by decide) ⟨.int (lo-i),H,I1,⟨t,by rw[Int.mul_neg,Int.mul_one];rfl⟩,⟨rfl,rfl⟩,st',λb hb=>(hf b hb).1⟩⟩
 done:=by intro X hP hw hK hc i pins s σ H E I hf st hg;subst hP hw hK;obtain⟨f0,f1,f2,f3,f4,f5⟩:=hf it (by simp);exact wpAny_pyNext_range_end (I.ok.hd hc) st (by have:n<=i:=hg;lia) λh' eb=>⟨rfl,I.turned (t':=s.toks) (λb o hb e=>eb b o hb e) f0 f1 f3 f4 f5⟩
 self:=λ_ _ _ _ _ st h=>wpAny_pyIter_rangeiter st h
theorem zb5{P:Aj}{w:Ax}{K:W.Frag}{tg:Expr}(it:Addr)(lo:Int)(n:Nat):Turn P w K tg (ItrD lo n) [it] it (λi h=>IsLongIter h it (lo+(i:Nat)*(-1)) ((n:Int)-(i:Nat)) (-1)) where
 mem:=by simp
 obj:=λi h st b hb=>by
  cases (show b=it by simpa using hb)
  exact⟨_,st,λv z=>by cases (show Data.fields _=Data.cell v from z)⟩
 keep:=λi h h' st k=>k it (by simp) _ st
 item:=by
  intro X hP hw hK hc i pins s σ H E I hf st hg;subst hP hw hK;obtain⟨f0,f1,f2,f3,f4,f5⟩:=hf it (by simp);refine (Walks.longrange (prog:=X.prog) (w:=X.w) (I.ok.hd hc) it lo (-1) n).item i s _ _ hg st λv h' tk hv st' kk=>?_
  obtain⟨t,rfl⟩:=hv;have I1:Inv X pins σ H { s with heap:=h',toks:=tk }:=I.turned (λb o hb e=>kk b o (by simpa using hb) e) f0 f1 f3 f4 f5;exact⟨_,rfl,go_of (s:={ s with heap:=h',toks:=tk }) (n:="longrange_iterator") st' rfl rfl (by decide) ⟨.int (lo-i),H,I1,⟨t,by rw[Int.mul_neg,Int.mul_one];rfl⟩,⟨rfl,rfl⟩,st',λb hb=>(hf b hb).1⟩⟩
 done:=by intro X hP hw hK hc i pins s σ H E I hf st hg;subst hP hw hK;obtain⟨f0,f1,f2,f3,f4,f5⟩:=hf it (by simp);exact wpAny_pyNext_long_end (I.ok.hd hc) st (by have:n<=i:=hg;lia) λh' eb=>⟨rfl,I.turned (t':=s.toks) (λb o hb e=>eb b o hb e) f0 f1 f3 f4 f5⟩
 self:=λ_ _ _ _ _ st h=>wpAny_pyIter_longiter st h
theorem zdQ(a b:Int):(((a-b).toNat:Nat):Int)=AT a b (-1):=by unfold AT;rw[if_neg (by decide)];rw[show -(-1:Int)=1 by decide,Int.ediv_one];split <;> lia
theorem zfi(a b:Int):(((b-a).toNat:Nat):Int)=AT a b 1:=by unfold AT;rw[if_pos (by decide)];rw[Int.ediv_one];split <;> lia
section
variable {X:Cx}{tg:Expr}{pins:List (Addr×Obj)}{σ:St}{H:Hp}{s:Ab}{R:It->Hp->Prop}{E:Aa->Ab->Prop}
theorem zeT {lo:Int}{n:Nat}{cl:String}(I:Inv X pins σ H s) (hc:cl = "range_iterator" ∨ cl = "longrange_iterator") (q:R (ItrD lo n) H) :
  Ao (As X.prog X.w) X.A (pyIter (.ref s.heap.objs.size)) (PIE X pins σ tg R) E { s with heap:=s.heap.push { cls:=.type cl,data:=.fields #[AV lo,AV n,AV (-1)] } }:=by
 have I1:Inv X pins σ H { s with heap:=s.heap.push { cls:=.type cl,data:=.fields #[AV lo,AV n,AV (-1)] } }:=I.kept (t':=s.toks) λb o e=>Ae _ e
 have st:(s.heap.push { cls:=.type cl,data:=.fields #[AV lo,AV n,AV (-1)] }).get? s.heap.objs.size=some { cls:=.type cl,data:=.fields #[AV lo,AV n,AV (-1)] }:=An _ rfl
 have fp:∀b∈[s.heap.objs.size],FpOk X pins H b:=λb hb=>by
  cases (show b=s.heap.objs.size by simpa using hb)
  have:=I.fpOk (Ai _) (I.hok.fresh (Ai _));exact this
 rcases hc with rfl |rfl
 .have z:IsRangeIter (s.heap.push { cls := .type "range_iterator", data := .fields #[AV lo, AV n, AV (-1)] }) s.heap.objs.size (lo + ((0:Nat):Int) * (-1)) ((n:Int)-((0:Nat):Int)) (-1) := by rw[show lo+((0:Nat):Int)*(-1)=lo by simp,show (n:Int)-((0:Nat):Int)=n by simp];exact st
  exact wpAny_pyIter_rangeiter z ⟨_,_,_,_,H,rfl,I1,zcC _ lo n,z,fp,q⟩
 .have z:IsLongIter (s.heap.push { cls := .type "longrange_iterator", data := .fields #[AV lo, AV n, AV (-1)] }) s.heap.objs.size (lo + ((0:Nat):Int) * (-1)) ((n:Int)-((0:Nat):Int)) (-1) := by rw[show lo+((0:Nat):Int)*(-1)=lo by simp,show (n:Int)-((0:Nat):Int)=n by simp];exact st
  exact wpAny_pyIter_longiter z ⟨_,_,_,_,H,rfl,I1,zb5 _ lo n,z,fp,q⟩
theorem zdy{lo hi:Int}{t u v:Tok}(I:Inv X pins σ H s)(q:R (ItrD lo (lo-hi).toNat) H) :
  Ao (As X.prog X.w) X.A (pyIter (.ref s.heap.objs.size)) (PIE X pins σ tg R) E { s with heap:=s.heap.push { cls:=.type "range",data:=.fields #[.int lo t,.int hi u,.int (-1) v] } }:=by
 have I1:Inv X pins σ H { s with heap:=s.heap.push { cls:=.type "range",data:=.fields #[.int lo t,.int hi u,.int (-1) v] } }:=I.kept (t':=s.toks) λb o e=>Ae _ e
 have I2:=λ(o:Obj)=>(I1.kept (t':=s.toks) (h':=(s.heap.push { cls:=.type "range",data:=.fields #[.int lo t,.int hi u,.int (-1) v] }).push o) λb o e=>Ae _ e)
 have fp:∀b∈[(s.heap.push { cls:=.type "range",data:=.fields #[.int lo t,.int hi u,.int (-1) v] }).objs.size],FpOk X pins H b:=λb hb=>by
  cases (show b=(s.heap.push { cls:=.type "range",data:=.fields #[.int lo t,.int hi u,.int (-1) v] }).objs.size by simpa using hb)
  exact I1.fpOk (Ai _) (I1.hok.fresh (Ai _))
 have e2:lo+((0:Nat):Int)*(-1)=lo:=by simp
 have e3:(((lo-hi).toNat:Nat):Int)-((0:Nat):Int)=AT lo hi (-1):=by rw[<- zdQ];simp
 cases hs:Builtin.Range.small lo hi (-1) with
 |true =>
  refine wpAny_pyIter_range (IsRange.new ..) hs ⟨_,_,_,_,H,rfl,I2 _,zcC _ lo (lo-hi).toNat,?_,fp,q⟩;show IsRangeIter _ _ _ _ _;rw[e2,e3];exact An _ rfl
 |false =>
  refine wpAny_pyIter_longrange (IsRange.new ..) hs ⟨_,_,_,_,H,rfl,I2 _,zb5 _ lo (lo-hi).toNat,?_,fp,q⟩;show IsLongIter _ _ _ _ _;rw[e2,e3];exact An _ rfl
end
section
variable {X:Cx}{tg:Expr}
noncomputable def iDown(ta:TA):TI:=λσ H R=>ta σ H λvs H1=>∃i j:Int,vs=[.int i,.int j,.int (-1)]/\R (ItrD i (i-j).toNat) H1
theorem zfu {a b c:Expr}{ta:TA}{p pos:Pos}(hg:Gl X "range") (hm:X.mg "range" = none) (ha:PA X [a, b, c] ta) (hs:Ay [a, b, c] X.env = [(false, eval a X.env), (false, eval b X.env), (false, eval c X.env)] := by rfl) (hs2:Ay [b, c] X.env = [(false, eval b X.env), (false, eval c X.env)] := by rfl) :
  PI X tg (.Call (.Name "range" p) [a,b,c] [] pos) (iDown ta):=by
 intro pins s σ H R I h;refine Call_ (zbf I hg hm boot_range (AM (thn (ha pos pins s σ H _ I h) λus s1 ⟨vs,H1,I1,r1,q1⟩=>?_) (by rw[hs,hs2]) (by rw[hs2];rfl)));obtain⟨i,j,e,q⟩:=q1;subst e
 cases r1 with
 |cons r rr =>
  cases rr with
  |cons r' rr =>
   cases rr with
   |cons r'' rr =>
    cases rr
    obtain⟨t,rfl⟩:=r;obtain⟨t',rfl⟩:=r';obtain⟨t'',rfl⟩:=r'';exact call_range_3 (by decide) (zdy I1 q) (.inl (PyProof.noPylong_small (by decide)))
end
noncomputable def rcl (lo hi:Int):String:=if (AR lo && AR hi && AR 1 && AR (-1) && AR (lo-1) && AR ((hi-lo).toNat:Nat))=true then "range_iterator" else "longrange_iterator"
theorem ze2 (lo hi:Int):rcl lo hi = "range_iterator" ∨ rcl lo hi = "longrange_iterator":=by
 unfold rcl;split
 .exact .inl rfl
 .exact .inr rfl
theorem zfm (lo hi:Int):isSubtype (.type (rcl lo hi)) (.type "reversed")=pure false:=by rcases ze2 lo hi with e |e <;> rw[e,isSubtype_type] <;> kernel_rfl
noncomputable def rObj(lo hi:Int):Obj:={ cls:=.type (rcl lo hi),data:=.fields #[AV (hi-1),AV ((hi-lo).toNat:Nat),AV (-1)] }
section
variable {prog:Aj}{w:Ax}{A:Au}{E:Aa->Ab->Prop}{s:Ab}{l:Addr}{lo hi:Int}{t u v:Tok}{Q:Aa->Ab->Prop}
theorem zfk (hl:s.heap.get? l=some { cls := .type "range", data := .fields #[.int lo t, .int hi u, .int 1 v] }) (h:Q (.ref s.heap.objs.size) { s with heap := s.heap.push (rObj lo hi) }) (hle:lo <= hi) :
  Ao (As prog w) A (call (.builtin "range.__reversed__") [.ref l]) Q E s:=by
 refine wpAny_call_entry F.slot_range_reversed ⟨_,hl,rfl⟩ F.entry_range_reversed ?_ (F.args_range_reversed_1 _)
 unfold Builtin.«range.__reversed__»;refine Ac (Be (a:=AL l) rfl ?_);unfold Builtin.Range.rangeFields;refine Ac (Ac (B5 hl rfl (x:=.int lo t) rfl ?_));refine Ac (Be (a:=some lo) rfl ?_);refine Ac (B5 hl rfl (x:=.int hi u) rfl ?_);refine Ac (Be (a:=some hi) rfl ?_);refine Ac (B5 hl rfl (x:=.int 1 v) rfl ?_);refine Ac (Be (a:=some 1) rfl ?_);dsimp only;refine Av ?_
 dsimp only;rw[<- zfi,show lo+((((hi-lo).toNat:Nat):Int)-1)*1=hi-1 by lia]
 have go:Ao (As prog w) A.in1 (newFields (rcl lo hi) [AV (hi-1),AV ((hi-lo).toNat:Nat),AV (-1)] >>= λx=>ret x) (λfin s'=>∃v,fin=Fin.done (Flow.ret v)/\Q v s') E s:=by unfold newFields;exact Ac (BH (Av ⟨_,rfl,h⟩))
 split
 .exact Ac (wpAny_rule go)
 .exact go
theorem zfl (hl:s.heap.get? l=some { cls := .type "range", data := .fields #[.int lo t, .int hi u, .int 1 v] }) (h:Q (.ref s.heap.objs.size) { s with heap := s.heap.push (rObj lo hi) }) (hle:lo <= hi) :
  BG (As prog w) A (.call (.builtin "reversed.__new__") ⟨[.type "reversed",.ref l],[]⟩) (wants Q E) s:=by
 refine codeAny_of_tree ?_
 show Ao _ A.in1 (checkBuiltinCall "reversed.__new__" ⟨[.type "reversed",.ref l],[]⟩ >>= λ_=>again (.builtin "reversed.__new__" ⟨[.type "reversed",.ref l],[]⟩)) _ _ s;refine Ac (Be (F.newCall_reversed_1 _) (Av ⟨plainId_quiet F.plain_reversed_new _,codeAny_builtin F.entry_reversed_new ?_⟩));rw[Around.under_plainId F.plain_reversed_new _];unfold Builtin.«reversed.__new__»;refine Ac (Be (newClass_reversed _) ?_);refine Ac (Be (a:=()) (by first |rfl |kernel_rfl) (Ac (Be (a:=()) (by first |rfl |kernel_rfl) ?_)));refine Ac (wpAny_specialOf ⟨_,hl,rfl⟩ F.slot_range_reversed.lookup ?_);refine Ac (Be (F.slot_range_reversed.bind _) ?_);dsimp only;rw[if_neg (show ¬ ((Value.builtin "range.__reversed__" == Ba)=true) from Aw)];refine Ac (wpAny_rule ?_);refine Ac (m:=runValue (.call (.builtin "range.__reversed__") ⟨[.ref l],[]⟩)) (show Ao _ _ (call (.builtin "range.__reversed__") [.ref l]) _ _ _ from zfk hl ?_ hle);exact Av h
theorem zeu (hl:s.heap.get? l=some { cls := .type "range", data := .fields #[.int lo t, .int hi u, .int 1 v] }) (h:Q (.ref s.heap.objs.size) { s with heap := s.heap.push (rObj lo hi) }) (hle:lo <= hi) :
  Ao (As prog w) A (call (.type "reversed") [.ref l]) Q E s:=by
 refine callType_other (U:=rcl lo hi) (Q₁:=λobj s₁=>obj=.ref s.heap.objs.size/\s₁={ s with heap:=s.heap.push (rObj lo hi) }) (by decide +kernel) F.create_reversed ⟨_,_,F.mro_reversed⟩ F.made_reversed (zfm lo hi) (F.typeCall_reversed_1 _) (zfl hl ⟨rfl,rfl⟩ hle) ?_
 rintro obj s₁ ⟨rfl,rfl⟩;exact⟨⟨_,An _ rfl,rfl⟩,h⟩
end
section
variable {X:Cx}{tg:Expr}
noncomputable def iRev(ta:TA):TI:=λσ H R=>ta σ H λvs H1=>∃i j:Int,vs=[.int i,.int j]/\i<=j/\R (ItrD (j-1) (j-i).toNat) H1
theorem zft {a b:Expr}{ta:TA}{p p2 pos pos2:Pos}(hgr:Gl X "reversed") (hmr:X.mg "reversed" = none) (hg:Gl X "range") (hm:X.mg "range" = none) (ha:PA X [a, b] ta) (hs:Ay [a, b] X.env = [(false, eval a X.env), (false, eval b X.env)] := by rfl)
  (hs2:Ay [b] X.env=[(false,eval b X.env)]:=by rfl) (hs3:Ay [Expr.Call (.Name "range" p2) [a,b] [] pos2] X.env=(false,eval (.Call (.Name "range" p2) [a,b] [] pos2) X.env)::Ay [] X.env:=by rfl) :
  PI X tg (.Call (.Name "reversed" p) [.Call (.Name "range" p2) [a,b] [] pos2] [] pos) (iRev ta):=by
 intro pins s σ H R I h;refine Call_ (zbf I hgr hmr PyProof.Rows.boot_reversed (AM (PyProof.Rows.spliced_more ?_ hs3) hs3 rfl));refine Call_ (zbf I hg hm boot_range (AM (thn (ha pos2 pins s σ H _ I h) λus s1 ⟨vs,H1,I1,r1,q1⟩=>?_) (by rw[hs,hs2]) (by rw[hs2];rfl)));obtain⟨i,j,e,hle,q⟩:=q1;subst e
 cases r1 with
 |cons r rr =>
  cases rr with
  |cons r' rr =>
   cases rr
   obtain⟨t,rfl⟩:=r;obtain⟨t',rfl⟩:=r';refine call_range_2 (PyProof.Rows.spliced_none (zeu (An _ rfl) ?_ hle));exact zeT (s:={ s1 with heap:=s1.heap.push { cls:=.type "range",data:=.fields #[.int i t,.int j t',.int 1 s1.toks] },toks:=s1.toks+1 }) (I1.kept (t':=s1.toks+1) λb o e=>Ae _ e) (ze2 i j) q
end
theorem zds{lo:Int}{n:Nat}{g:TG}{tb:TS}{D:Ends}{σ : St}{H:Hp}(Pv:Nat -> St -> Hp -> Prop)(h0:Pv 0 σ H)
  (hs:∀i σ H,i<n->Pv i σ H->g (.int (lo-i)) σ H λσ2 H2=>tb { D with nx:=Pv (i+1),ct:=Pv (i+1),bk:=D.nx } σ2 H2) (hd:∀ σ H,Pv n σ H->D.nx σ H) :
  ∃W:Nat->Nat->St->Hp->Prop,(∃m,W 0 m σ H)/\∀i m σ H,W i m σ H ->
   ((ItrD lo n).stop i H/\D.nx σ H)∨((ItrD lo n).go i H/\∃N:St->Hp->Prop,(∀ σ' H',N σ' H'->∃m',m'<m/\W (i+1) m' σ' H')/\∀x H',(ItrD lo n).yld i H x H'->g x σ H' λσ2 H2=>tb { D with nx:=N,ct:=N,bk:=D.nx } σ2 H2):=by
 refine⟨λi m σ H=>m=n-i/\i<=n/\Pv i σ H,⟨n,by simp,AZ _,h0⟩,?_⟩;rintro i m σ H ⟨rfl,hi,p⟩;rcases BO i n with hlt |hge
 .refine .inr ⟨hlt,Pv (i+1),λσ' H' p'=>⟨n-(i+1),by lia,rfl,hlt,p'⟩,?_⟩;rintro x H' ⟨rfl,rfl⟩;exact hs i σ _ hlt p
 .obtain rfl:i=n:=by lia
  exact .inl ⟨hge,hd σ H p⟩
end L2
namespace RP
noncomputable def tt(C:Cell->Bool)(e:Edge):Int:=match stepB C e with
 |none=>1
 |some s=>if s % 2=1 then -1 else 0
noncomputable def cr(x1 y1 x2 y2:Int):Int:=if y1=-1/\y2=0/\0<x2 then 1 else if y1=0/\y2=-1/\0<x1 then -1 else 0
section
variable (U V:Nat->Int)
noncomputable def hH(i j:Nat):Int:=cr (U j-U i) (V j-V i) (U (j+1)-U i) (V (j+1)-V i)
noncomputable def gG(i j:Nat):Int:=cr (U j-U i) (V j-V i) (U j-U (i+1)) (V j-V (i+1))
noncomputable def sE:Nat->Int
 | 0=>0
 |i+1=>sE i+hH U V i (i+1)+gG U V i (i+2)
variable {U V}
variable {n:Nat}
end
noncomputable def it(C:Cell->Bool)(b:Edge):Nat->Edge
 | 0=>b
 |k+1=>nxt C (it C b k)
noncomputable def wW(C:Cell->Bool)(b:Edge):Nat->Int
 | 0=>b.w
 |k+1=>wW C b k+tt C (it C b k)
noncomputable def th(C:Cell->Bool)(b:Edge)(k:Nat):Int:=2*wW C b k-1+tt C (it C b k)
end RP
namespace RR
open PySem L2
noncomputable def top(i:Nat):Stmt:=PySem.Challenge.pw_rimsteps_k83_pictures_drawn.main.body.getD i (.Pass ⟨0,0,0,0⟩)
noncomputable abbrev za6:Stmt:=top 6
noncomputable abbrev zcX:List Str:=["cell"]
theorem zci:FnScope zcX ["cell"] (zae za6):=sC
noncomputable abbrev za0:Stmt:=top 7
noncomputable abbrev zcy:List Str:=["picture","at"]
theorem zbe:FnScope zcy ["picture"] (zae za0):=sC
noncomputable abbrev zaR:Stmt:=top 8
noncomputable abbrev zbF:List Str:=["picture"]
theorem zch:FnScope zbF ["picture"] (zae zaR):=sC
noncomputable abbrev zaH:Stmt:=top 11
noncomputable abbrev zaT:List Str:=["picture","xs","left","right","low","high","table","rows","y"]
theorem zan:FnScope zaT ["picture"] (zae zaH):=sC
noncomputable abbrev zaV:Stmt:=top 13
noncomputable abbrev zb3:List Str:=["_law_script","_law_k"]
theorem zbN:FnScope zb3 ["_law_script","_law_k"] (zae zaV):=sC
noncomputable abbrev zbs:Stmt:=top 14
noncomputable abbrev zdF:List Str:=["_law_cell","_law_many","_law_base","_law_found","_law_left","_law_number","_law_k"]
theorem zay:FnScope zdF ["_law_cell","_law_many","_law_base"] (zae zbs):=sC
noncomputable abbrev zaG:Stmt:=top 15
noncomputable abbrev zbh:List Str:=["_law_script","_law_start","_law_wide","_law_high","_law_share","_law_left","_law_low","_law_way","_law_far","_law_found","_law_y","_law_row_here"]
theorem zaf:FnScope zbh ["_law_script","_law_start"] (zae zaG):=sC
noncomputable abbrev zbt:Stmt:=top 16
noncomputable abbrev zdG:List Str:=["_law_cells","_law_there","_law_cell"]
theorem zbi:FnScope zdG ["_law_cells"] (zae zbt):=sC
noncomputable abbrev zaI:Stmt:=top 17
noncomputable abbrev zaU:List Str:=["_law_cells","_law_there","_law_wide","_law_rows","_law_y"]
theorem zaB:FnScope zaU ["_law_cells"] (zae zaI):=sC
noncomputable abbrev zaD:Stmt:=top 18
noncomputable abbrev zaM:List Str:=["_law_script","_law_start","_law_cells","_law_ways","_law_by"]
theorem zaw:FnScope zaM ["_law_script","_law_start"] (zae zaD):=sC
noncomputable abbrev za7:Stmt:=top 19
noncomputable abbrev zbG:List Str:=["_law_cells","_law_told","e","_law_alone"]
theorem zas:FnScope zbG ["_law_cells"] (zae za7):=sC
noncomputable abbrev s_law:Stmt:=top 20
noncomputable abbrev N_law:List Str:=["_law_script","_law_cells","_law_draws","_law_x","_law_y","_law_handed","_law_wide","_law_high","_law_due","_law_turn","_law_found"]
theorem zaZ:FnScope N_law ["_law_script"] (zae s_law):=sC
open PySem L2 RP
noncomputable def cellT(c:Cell):List V:=[.int c.1,.int c.2]
noncomputable def Tab(H:Hp)(t:Addr)(C:Cell->Bool):Prop:=∃kvs:List (List Key×V),H t=some (.dT kvs)/\∀c:Cell,(valV kvs [Sum.inl c.1,Sum.inl c.2]).isSome=C c
theorem Same.up{H:Hp}{p:Addr}{o:HO}(h:H p=none):Same H (upd H p o):=λb u e=>by rw[zam (zat e h)];exact e
structure Txt (P:Aj) (w:Ax) (K:W.Frag) (mg:Str->Option Aa):Prop where
 nrange:mg "range" = none
 nlen:mg "len" = none
 nmin:mg "min" = none
 nmax:mg "max" = none
 nint:mg "int" = none
 nstr:mg "str" = none
 nisinstance:mg "isinstance" = none
 nlist:mg "list" = none
 nabs:mg "abs" = none
 nreversed:mg "reversed" = none
 nValueError:mg "ValueError" = none
theorem two:2<=sizeLine:=by decide
theorem three:3<=sizeLine:=by decide
section
variable {P:Aj}{w:Ax}{K:W.Frag}{mg:Str->Option Aa}{base:Heap}
noncomputable def zdO(K:W.Frag):Sp:=λvs H Q _=>∃(a:Addr) (x y:Int) (r:List V),vs=[.ref a]/\SqT K H a (.int x::.int y::r)/\∀(p:Addr) (H':Hp),H p=none->Same H H'->H' p=some (.tup [.int y,.int x])->Q (.ref p) H'
theorem zcp (d:Df K mg "cell_order" za6 ["cell"]):FnOk P w K mg base CX0 1 d.f d.fd ["cell"] (zdO K):=by
 refine d.F.ok zci (λvs H Q E h=>?_) (λcdv A outer s H vs Q E hr h=>?_)
 .obtain⟨a,x,y,r,rfl,_⟩:=h;rfl
 .obtain⟨a,x,y,r,rfl,hq,k⟩:=h;refine⟨_,(zah (zaJ (za9 (zag (pe_ix zbp (pv 0) zab (λ_ _=>rfl)) (zag (pe_ix zbp (pv 0) zab (λ_ _=>rfl)) zac))))),?_⟩;refine⟨_,rfl,a,_,_,_,rfl,rfl,hq,zaY (j:=1) rfl,_,rfl,a,_,_,_,rfl,rfl,hq,zaY (j:=0) rfl,two,λp hp=>?_⟩;exact k p _ hp (Same.up hp) zaa
theorem iteN{b:Bool}{A B:Prop}(h:b=false)(q:B):if b=true then A else B:=by subst h;exact iteF q
theorem zbJ{tb:TS}{D:Ends}{σ:St}{H:Hp}(h:tb D σ H):tIfs (λ_ H Q=>Q true H) tb D σ H:=by
 show if true=true then tb D σ H else D.nx σ H
 exact iteT h
theorem gN{j:Nat}{v:V}{σ:St}{H:Hp}{tb:TS}{D:Ends}(h:tb D (σ.set j (some v)) H):gName j v σ H λσ2 H2=>tIfs (λ_ H Q=>Q true H) tb D σ2 H2:=zbJ h
noncomputable def LR{α:Type}(K:W.Frag)(H:Hp)(a:Addr)(l:List α)(R:α->V->Hp->Prop):Prop:=∃vs:List V,SqL K H a vs/\vs.length=l.length/\∀(i:Nat) x v,l[i]?=some x->vs[i]?=some v->R x v H
noncomputable def cR(c:Cell)(v:V)(H:Hp):Prop:=∃b,v=.ref b/\H b=some (.tup (cellT c))
theorem cR.same{c:Cell}{v:V}{H H':Hp}(h:cR c v H)(s:Same H H'):cR c v H':=let ⟨b,e,q⟩:=h;⟨b,e,s _ _ q⟩
theorem zbR{α:Type}{l:List α}{i:Nat}{x c:α}(h:l[i]?=some x):c∈l.take (i+1) ↔ c∈l.take i∨c=x:=by rw[List.take_succ,h,List.mem_append];exact⟨λz=>z.elim .inl λz=>.inr (Bv.mp z),λz=>z.elim .inl λz=>.inr (List.mem_singleton.mpr z)⟩
noncomputable def InOrd(cs:List Cell):Prop:=∀(i:Nat) c d,cs[i]?=some c->cs[i+1]?=some d->HT.lexLt [c.2,c.1] [d.2,d.1]=true
noncomputable def spAsk(K:W.Frag):Sp:=λvs H Q _=>∃(a:Addr) (cs:List Cell),vs=[.ref a]/\LR K H a cs cR/\InOrd cs/\cs.length<=1000/\∀H',Same H H'->Q (.bl true) H'
theorem zb0 (T:Txt P w K mg) (g_cell_order:Fn P w K mg base 1 "cell_order" ["cell"] (zdO K)) (d:Df K mg "ask_picture" za0 ["picture"]):FnOk P w K mg base CX0 2 d.f d.fd ["picture"] (spAsk K):=by
 refine d.F.ok zbe (λvs H Q E h=>?_) (λcdv A outer s H vs Q E hr h=>?_)
 .obtain⟨a,cs,rfl,_⟩:=h;rfl
 .obtain⟨a,cs,rfl,⟨ws,hq,hn,hc⟩,ho,hlen,k⟩:=h;have hu0:=hr.units0
  refine⟨_,(zad (zbP Bi rfl (zd0 (by rfl) T.nrange (pa_C zab (zag (zaj zaA (by rfl) T.nlen (by rfl) (pa_N (pv 0) zac)) zac))) (nG 1 zbe.nd)
   (zah (ps_if (zau (zf2 hu0) (pC g_cell_order hr (zag (pe_ix zap (pv 0) (pv 1) (λ_ _=>rfl)) zac)) (pC g_cell_order hr (zag (pe_ix zap (pv 0) (pe_op zbo (pv 1) zab) (λ_ _=>rfl)) zac)) (zaL _))
   (zah zeF)
   za2)))
   (zah (zaJ pe_bl))),?_⟩
  refine⟨_,rfl,a,_,rfl,.inl hq,_,_,rfl,⟨by decide,by decide,by lia,by lia⟩,?_⟩;refine zaQ (lo:=1) (n:=((ws.length:Int)-1).toNat) (λi σ H2=>∃o,σ=[some (.ref a),o]/\Same H H2) ⟨_,rfl,Same.refl _⟩ ?_ ?_
  .rintro i σ H2 hi ⟨o,rfl,s2⟩;have h1:i+1<ws.length:=by lia
   have v1:ws[i+1]?=some ws[i+1]:=Ad h1;have v0:ws[i]?=some ws[i]:=Ad (by lia)
   have c1:cs[i+1]?=some cs[i+1]:=Ad (by lia)
   have c0:cs[i]?=some cs[i]:=Ad (by lia)
   obtain⟨b1,e1,q1⟩:=hc (i+1) _ _ c1 v1;obtain⟨b0,e0,q0⟩:=hc i _ _ c0 v0;refine⟨_,rfl,_,rfl,a,_,_,_,rfl,rfl,s2.seq hq,(by rw[show (1:Int)+(i:Int)=((i+1:Nat):Int) by lia];exact zaY v1),b1,_,_,[],(by rw[e1];rfl),SqT.of (s2 _ _ q1),λp1 H3 hp1 s3 f1=>?_⟩;refine⟨_,rfl,_,rfl,_,_,rfl,rfl,a,_,_,_,rfl,rfl,(s2.trans s3).seq hq,(by rw[show (1:Int)+(i:Int)-1=(i:Int) by lia];exact zaY v0),b0,_,_,[],(by rw[e0];rfl),SqT.of ((s2.trans s3) _ _ q0),λp0 H4 hp0 s4 f0=>?_⟩;refine⟨p1,p0,[cs[i+1].2,cs[i+1].1],[cs[i].2,cs[i].1],rfl,rfl,SqT.of (s4 _ _ f1),SqT.of f0,_,rfl,iteN ?_ ?_⟩
   .rw[HT.lexLe_eq,ho i _ _ c0 c1];rfl
   .exact⟨_,rfl,(s2.trans s3).trans s4⟩
  .rintro σ H2 ⟨o,rfl,s2⟩;exact k H2 s2
noncomputable def kC(c:Cell):List Key:=[Sum.inl c.1,Sum.inl c.2]
theorem zdr{c d:Cell}:kC c=kC d ↔ c=d:=by
 constructor
 .intro h;unfold kC at h;injection h with h1 h2;injection h2 with h2 _;exact Prod.ext (Sum.inl.inj h1) (Sum.inl.inj h2)
 .rintro rfl;rfl
noncomputable def zdM(K:W.Frag):Sp:=λvs H Q _=>∃(a:Addr) (cs:List Cell),vs=[.ref a]/\LR K H a cs cR/\cs.length<=1000/\∀t H',H t=none->Same H H'->Tab H' t (isIn cs)->Q (.ref t) H'
theorem zco (d:Df K mg "cell_table" zaR ["picture"]):FnOk P w K mg base CX0 1 d.f d.fd ["picture"] (zdM K):=by
 refine d.F.ok zch (λvs H Q E h=>?_) (λcdv A outer s H vs Q E hr h=>?_)
 .obtain⟨a,cs,rfl,_⟩:=h;rfl
 .obtain⟨a,cs,rfl,⟨ws,hq,hn,hc⟩,hlen,k⟩:=h;have hu1:=hu_of hr;have nb0:(["cell"]:List Str).Nodup:=by decide +kernel
  refine⟨_,(zah (zaJ (zeI hu1 (osc:=zae zaR) (N:=zbF) (N':=["cell"]) (sel:=[none]) bO (za8 (pv 0)) (λ_ _ _ _ _=>(nG 0 nb0)) (λ_ _ _ _ _=>za1) (λ_ _ _ _ _=>(pv 0)) (λ_ _ _ _ _=>pe_bl)))),?_⟩;refine⟨_,rfl,a,rfl,⟨_,hq⟩,λp hp=>?_⟩
  refine zbq (K:=K) (a:=a) (xs:=ws) (λi σ H2=>∃o,σ=[o]/\Same H H2/\∃kvs,H2 p=some (.dT kvs)/\kvs.length<=i/\∀c:Cell,(valV kvs (kC c)).isSome=decide (c∈cs.take i))
   ⟨_,rfl,Same.up hp,[],zaa,Ai _,λc=>by simp[valV]⟩ (λi σ H2 _ ⟨_,_,s2,_⟩=>s2.seq hq) ?_ ?_
  .rintro i v σ H2 hi ⟨o,rfl,s2,kvs,e2,hl,hv⟩;have hil:i<ws.length:=(Ah.mp hi).1;have ci:cs[i]?=some cs[i]:=Ad (by lia)
   obtain⟨b,rfl,q⟩:=hc i _ _ ci hi;refine gN ?_
   refine⟨_,rfl,_,.inr ⟨kvs,kC cs[i],b,e2,rfl,s2 _ _ q,zal (by lia),rfl⟩,_,rfl,λz o e=>?_,_,zaa,?_,λc=>?_⟩
   .rw[zam (zat e hp)];exact s2 z o e
   .exact AY (zaP _ _ _) (by lia)
   .rw[zeA]
    by_cases e:c=cs[i]
    .rw[if_pos (zdr.mpr e),decide_eq_true ((zbR ci).mpr (.inr e))];rfl
    .rw[if_neg (λz=>e (zdr.mp z)),hv];exact decide_eq_decide.mpr ⟨λz=>(zbR ci).mpr (.inl z),λz=>((zbR ci).mp z).resolve_right e⟩
  .rintro σ H2 ⟨o,rfl,s2,kvs,e2,hl,hv⟩;refine k p H2 hp s2 ⟨kvs,e2,λc=>?_⟩;show (valV kvs (kC c)).isSome=isIn cs c;rw[hv,hn,BP];rfl
noncomputable def KT(H H':Hp):Prop:=∀b xs,H b=some (.tup xs)->H' b=some (.tup xs)
theorem KT.of{H H':Hp}(s:Same H H'):KT H H':=λb xs e=>s b _ e
theorem KT.lst{H:Hp}{p:Addr}{xs:List V}{o:HO}(h:H p=some (.lst xs)):KT H (upd H p o):=λb ys e=>by rw[zam (ne_of e h (λz=>nomatch z))];exact e
theorem cR.kt{c:Cell}{v:V}{H H':Hp}(h:cR c v H)(s:KT H H'):cR c v H':=let ⟨b,e,q⟩:=h;⟨b,e,s _ _ q⟩
noncomputable def VR{α:Type}(vs:List V)(l:List α)(R:α->V->Hp->Prop)(H:Hp):Prop:=vs.length=l.length/\∀(i:Nat) x v,l[i]?=some x->vs[i]?=some v->R x v H
theorem VR.nil{α:Type}{R:α->V->Hp->Prop}{H:Hp}:VR [] ([]:List α) R H:=⟨rfl,λi x v h=>by simp at h⟩
theorem VR.snoc{α:Type}{vs:List V}{l:List α}{R:α->V->Hp->Prop}{H H':Hp}{x:α}{v:V}(h:VR vs l R H)(m:∀x v,R x v H->R x v H')(hx:R x v H'):VR (vs++[v]) (l++[x]) R H':=by
 refine⟨by simp[h.1],λi y u h1 h2=>?_⟩;rcases BO i l.length with hi |hi
 .rw[A3 hi]at h1;rw[A3 (by rw[h.1];exact hi)]at h2;exact m _ _ (h.2 i y u h1 h2)
 .rw[A1 hi]at h1;rw[A1 (by rw[h.1];exact hi)]at h2
  have hz:i-l.length=0:=by have:=(Ah.mp h1).1;simp at this;lia
  rw[hz]at h1;rw[h.1,hz]at h2
  cases h1;cases h2
  exact hx
theorem VR.mono{α:Type}{vs:List V}{l:List α}{R:α->V->Hp->Prop}{H H':Hp}(h:VR vs l R H)(m:∀x v,R x v H->R x v H'):VR vs l R H':=⟨h.1,λi x v h1 h2=>m _ _ (h.2 i x v h1 h2)⟩
theorem VR.at{α:Type}{vs:List V}{l:List α}{R:α->V->Hp->Prop}{H:Hp}(h:VR vs l R H){i:Nat}{v:V}(hv:vs[i]?=some v):∃x,l[i]?=some x/\R x v H:=by
 have hi:i<l.length:=by rw[<- h.1];exact (Ah.mp hv).1
 exact⟨l[i],Ad hi,h.2 i _ v (Ad hi) hv⟩
theorem zaC{H H2:Hp}{p:Addr}{o:HO}(hp:H p=none)(s:Same H H2):Same H (upd H2 p o):=λz u e=>by rw[zam (zat e hp)];exact s z u e
theorem zbM{α:Type}{l:List α}{i:Nat}{x:α}(h:l[i]?=some x):l.take (i+1)=l.take i++[x]:=by rw[List.take_succ,h];rfl
noncomputable def wk(C:Cell->Bool)(es:List Edge):List (Edge×Option Nat):=es.map λe=>(e,stepB C e)
noncomputable abbrev Wk:=List (Edge×Option Nat)
noncomputable def nL(W:Wk):Nat:=(W.filter λq=>q.2.isNone).length
noncomputable def nS(W:Wk):Nat:=(W.filter λq=>slant q.2).length
noncomputable def sortS (W:Wk):Str:=if nS W<nL W then "rim" else "hole"
noncomputable def kOf (s:Str):Nat:=if s = "rim" then 0 else 2
noncomputable def zez(W:Wk)(s:Str)(e:Edge):Prop:=e∈W.map (·.1)/\e.w=kOf s/\∀f∈W.map (·.1),f.w=kOf s->HT.lexLt [f.c.2,f.c.1] [e.c.2,e.c.1]=false
structure Rnd where
 so:Str
 x:Int
 y:Int
 row:List Nat
 deriving DecidableEq
noncomputable def IsRnd(W:Wk)(r:Rnd):Prop:=r.so=sortS W/\∃(j:Nat) (e:Edge),(W.map (·.1))[j]?=some e/\zez W (sortS W) e/\r.x=e.c.1/\r.y=e.c.2/\r.row=(W.drop j++W.take j).filterMap (·.2)
theorem VR.cons{α:Type}{v:V}{vs:List V}{x:α}{l:List α}{R:α->V->Hp->Prop}{H:Hp}:VR (v::vs) (x::l) R H ↔ R x v H/\VR vs l R H:=by
 constructor
 .intro h;exact⟨h.2 0 x v rfl rfl,by simpa using h.1,λi y u h1 h2=>h.2 (i+1) y u (by simpa using h1) (by simpa using h2)⟩
 .rintro⟨h1,h2⟩;refine⟨by simp[h2.1],λi y u e1 e2=>?_⟩
  match i,e1,e2 with
  | 0,e1,e2=>cases e1;cases e2;exact h1
  |i+1,e1,e2=>exact h2.2 i y u (by simpa using e1) (by simpa using e2)
structure Part (C:Cell->Bool) (ESS:List (List Edge)) (R:List Rnd):Prop where
 len:R.length=ESS.length
 each:∀(i:Nat) es r,ESS[i]?=some es->R[i]?=some r->(∃b,zfg C b es)/\IsRnd (wk C es) r
 nd:ESS.flatten.Nodup
noncomputable def begE(r:Rnd):Edge:=⟨(r.x,r.y),kOf r.so⟩
theorem atI_last{α:Type}{xs:List α}(h:0<xs.length):atI xs (-1)=xs[xs.length-1]?:=by unfold atI ixN;rw[if_neg (by decide),if_pos (by lia)];show xs[((-1:Int)+xs.length).toNat]?=_;rw[show ((-1:Int)+xs.length).toNat=xs.length-1 by lia]
theorem zeU(ns:List Int):PyData.depth (tI ns)=1:=by unfold tI;rw[PyData.depth,za5]
structure Can (C:Cell->Bool) (es:List Edge) (r:Rnd):Prop where
 cl:zfg C (begE r) es
 row:r.row=(es.map (stepB C)).filterMap id
 bg:zez (wk C es) r.so (begE r)
 so:r.so=sortS (wk C es)
inductive Al {α β:Type} (P:α->β->Prop):List α->List β->Prop where
 |nil:Al P [] []
 |cons {a:α} {b:β} {l:List α} {m:List β}:P a b->Al P l m->Al P (a::l) (b::m)
structure Cans (C:Cell->Bool) (ESS:List (List Edge)) (R:List Rnd):Prop where
 al:Al (λr es=>Can C es r) R ESS
 nd:ESS.flatten.Nodup
 all:∀e,e∈ESS.flatten ↔ IsE C e
inductive Lnk (C:Cell->Bool):Edge->List Edge->Prop where
 |one (e:Edge):Lnk C e []
 |more {e:Edge} {es:List Edge}:Lnk C (nxt C e) es->Lnk C e (nxt C e::es)
structure Box where
 (a b c d:Int)
theorem VR.app{α:Type}{vs ws:List V}{l m:List α}{R:α->V->Hp->Prop}{H:Hp}(h:VR vs l R H)(k:VR ws m R H):VR (vs++ws) (l++m) R H:=by
 refine⟨by rw[AK,AK,h.1,k.1],λi x v h1 h2=>?_⟩
 by_cases hi:i<l.length
 .rw[A3 hi]at h1;rw[A3 (by rw[h.1];exact hi)]at h2;exact h.2 i x v h1 h2
 .rw[A1 (by lia)]at h1;rw[A1 (by rw[h.1];lia),h.1]at h2;exact k.2 _ x v h1 h2
noncomputable abbrev Bfr(a b:Cell):Prop:=HT.lexLt [a.2,a.1] [b.2,b.1]=true
noncomputable def lT(l:List (List Int)):PyData:=.list (l.map tI)
theorem zcN:∀l:List (List Int),BV (l.map tI) (l.map tI)=true
 |[]=>rfl
 |x::l=>by show (BK (tI x) (tI x) && BV (l.map tI) (l.map tI))=true;rw[zcN l,zgd,decide_eq_true rfl];rfl
theorem zge(l:List (List Int)):BK (lT l) (lT l)=true:=zcN l
theorem zbD:∀l:List (List Int),PyData.canLayAll0 (l.map tI)=true
 |[]=>rfl
 |x::l=>by
  have:=zdR x;unfold A7 at this;rw[Bool.and_eq_true]at this;show (Bt (tI x) && PyData.canLayAll0 (l.map tI))=true;rw[this.1,zbD l];rfl
theorem zbW:∀l:List (List Int),PyData.depthAll (l.map tI)<=1
 |[]=>AZ _
 |x::l=>by show max (PyData.depth (tI x)) (PyData.depthAll (l.map tI))<=1;rw[zeU];have:=zbW l;lia
theorem zbl(l:List (List Int)):A7 (lT l)=true:=by unfold A7 lT;rw[Bt,zbD l,PyData.depth];have:=zbW l;simp only[Bool.true_and,decide_eq_true_eq];lia
noncomputable def cI(c:Cell):List Int:=[c.1,c.2]
theorem zcG{K:W.Frag}{H:Hp}:∀{vs:List V}{cs:List Cell},VR vs cs cR H->RDs K H vs ((cs.map cI).map tI)
 |[],[],_=>.nil
 |[],_::_,h=>by have:=h.1;cases this
 |_::_,[],h=>by have:=h.1;cases this
 |v::vs,r::R,h=>by
  obtain⟨⟨b,rfl,q⟩,h2⟩:=VR.cons.mp h;exact .cons (.tup (SqT.of q) (RDs.ints (cI r))) (zcG h2)
theorem zcj{K:W.Frag}{H:Hp}{a:Addr}{vs:List V}{cs:List Cell}(e:SqL K H a vs)(h:VR vs cs cR H):RD K H (.ref a) (lT (cs.map cI)):=.lst e (zcG h)
theorem zdE(l:List (List Int)):BK (lT l) (lT [])=l.isEmpty:=by cases l <;> rfl
theorem cpow{i j:Int}(h:0<=j/\j<=1000000/\i.natAbs<2 ^ 64):CPow i j:=h
theorem zdP{b:Int}(h0:0<b)(h:b<=6000):b.natAbs.log2<9000:=by refine (Nat.log2_lt (by lia)).mpr (Aq (show b.natAbs<2 ^ 13 by lia) (Nat.pow_le_pow_right (by decide) (by decide)))
theorem ze9{cs:List Cell}(h:cs.Pairwise Bfr):InOrd cs:=by intro i c d h1 h2;have hi:=(Ah.mp h1).1;have hj:=(Ah.mp h2).1;have e1:=(Ah.mp h1).2;have e2:=(Ah.mp h2).2;have a:=List.pairwise_iff_getElem.mp h i (i+1) hi hj (by lia);rw[e1,e2]at a;exact a
theorem zfI{a b y:Int}(h:a<b):Bfr (a,y) (b,y):=by show HT.lexLt [y,a] [y,b]=true;rw[HT.lexLt_cons,if_pos rfl,HT.lexLt_cons,if_neg (by lia)];exact decide_eq_true h
theorem zff{a b:Cell}(h:a.2<b.2):Bfr a b:=by show HT.lexLt [a.2,a.1] [b.2,b.1]=true;rw[HT.lexLt_cons,if_neg (by lia)];exact decide_eq_true h
noncomputable def zbK(K:W.Frag):Sp:=λvs H Q _=>∃(a:Addr) (ns:List Int) (k:Nat),vs=[.ref a,.int k]/\SqL K H a (ns.map V.int)/\∀n,Q (.int n) H
theorem zbZ (T:Txt P w K mg) (d:Df K mg "_law_cell_at" zaV ["_law_script","_law_k"]):FnOk P w K mg base CX0 1 d.f d.fd ["_law_script","_law_k"] (zbK K):=by
 refine d.F.ok zbN (λvs H Q E h=>?_) (λcdv A outer s H vs Q E hr h=>?_)
 .obtain⟨a,ns,k,rfl,_⟩:=h;rfl
 .obtain⟨a,ns,i,rfl,hq,k⟩:=h
  refine⟨_,(zad (ps_if (zau op_lt (pv 1) (zaj zaA (by rfl) T.nlen (by rfl) (pa_N (pv 0) zac)) (zaL _))
   (zah (zaJ (pe_ix zap (pv 0) (pv 1) (λ_ _=>rfl))))
   za2)
   (zah (zaJ zab))),?_⟩
  refine⟨_,rfl,_,rfl,a,_,rfl,.inl hq,_,_,rfl,rfl,_,rfl,?_⟩;refine ite2 (λhy=>?_) (λhn=>k 0)
  have hlt:i<ns.length:=by have:=of_decide_eq_true hy;rw[Af]at this;lia
  exact⟨_,rfl,_,rfl,a,_,_,_,rfl,rfl,hq,zaY (v:=.int ns[i]) (by simp[hlt]),k _⟩
noncomputable def spRow:Sp:=λvs H Q _=>∃(c b:Int) (m:Nat),vs=[.int c,.int m,.int b]/\m<=60/\0<b/\b<=6000/\∀p H' (ns:List Int),H p=none->Same H H'->H' p=some (.lst (ns.map V.int))->ns.length=m->(∀n∈ns,0<=n/\n<b)->Q (.ref p) H'
theorem zdz (T:Txt P w K mg) (d:Df K mg "_law_row" zbs ["_law_cell","_law_many","_law_base"]):FnOk P w K mg base CX0 1 d.f d.fd ["_law_cell","_law_many","_law_base"] spRow:=by
 refine d.F.ok zay (λvs H Q E h=>?_) (λcdv A outer s H vs Q E hr h=>?_)
 .obtain⟨c,b,m,rfl,_⟩:=h;rfl
 .obtain⟨c,b,m,rfl,hm,hb,hb2,k⟩:=h
  refine⟨_,(zad (sE 3 zay.nd (zaS zac))
   (zad (sE 4 zay.nd (pe_op zbo (pv 0) (pe_op zd6 zab zab)))
   (zad (sE 5 zay.nd (pe_op zaK (pv 0) zab))
   (zad (zbP Bi rfl (zbm (by rfl) T.nrange (pa_N (pv 1) zac)) (nG 6 zay.nd)
   (zah (ps_if (zau op_ge (pv 0) (pe_op zd6 zab zab) (zaL _))
   (zad (zbu (pe_bm A9 Bp Bq zba (pv 3) (pa_B (pe_op zaK (pv 4) (pv 2)) zac)))
   (zah (sE 4 zay.nd (pe_op zeJ (pv 4) (pv 2)))))
   (zad (sE 5 zay.nd (pe_op zaK (pe_op zaE (pe_op zaE (pe_op zb7 (pv 5) zab) (pe_op zb7 (pe_op zb7 (pv 6) (pv 6)) zab)) zab) zab))
   (zah (zbu (pe_bm A9 Bp Bq zba (pv 3) (pa_B (pe_op zaK (pe_op zc4 (pe_op zaK (pe_op zb7 (pv 5) (pv 5)) zab) zab) (pv 2)) zac))))))))
   (zah (zaJ (pv 3))))))),?_⟩
  have hmod:∀z:Int,0<=z % b/\z % b<b:=λz=>⟨Bj _ (by lia),A4 _ hb⟩
  have hnum:∀z:Int,0<=z % 2147483629/\z % 2147483629<2147483629:=λz=>⟨Bj _ (by decide),A4 _ (by decide)⟩
  refine⟨(by show 0<=sizeLine;decide),λp hp=>?_⟩;have s1:Same H (upd H p (.lst [])):=Same.up hp;have e1:upd H p (.lst []) p=some (.lst []):=zaa;generalize upd H p (.lst [])=H1 at s1 e1;refine⟨_,rfl,_,_,rfl,rfl,(by refine cpow ?_;decide),_,_,rfl,rfl,?_⟩;refine⟨_,rfl,_,_,rfl,rfl,(by show (0:Int)<2147483629;decide),?_⟩;refine⟨_,rfl,_,rfl,(by lia),(by lia),?_⟩
  refine zaQ (lo:=0) (n:=m) (λi σ H2=>∃(l q:Int) (o:Option V) (ns:List Int),σ=[some (.int c),some (.int m),some (.int b),some (.ref p),some (.int l),some (.int q),o]/\0<=q/\q<2147483629/\Same H H2/\H2 p=some (.lst (ns.map V.int))/\ns.length=i/\∀n∈ns,0<=n/\n<b)
   ⟨_,_,_,[],rfl,(hnum c).1,(hnum c).2,s1,e1,rfl,by simp⟩ ?_ ?_
  .rintro i σ H2 hi ⟨l,q,o,ns,rfl,q0,q1,s2,e2,hl,hall⟩
   have snoc:∀z:Int,0<=z->z<b->(ns++[z]).length=i+1/\∀n∈ns++[z],0<=n/\n<b:=λz z0 z1=>⟨by rw[AK,hl];rfl,λn hn=>by
    rcases B6.mp hn with h |h
    .exact hall n h
    .rw[Bv.mp h];exact⟨z0,z1⟩⟩
   refine⟨_,rfl,_,_,rfl,rfl,(by refine cpow ?_;decide),_,_,rfl,rfl,_,rfl,?_⟩;refine ite2 (λ_=>?_) (λ_=>?_)
   .refine⟨_,rfl,.inl ⟨rfl,_,SqL.of e2⟩,_,rfl,_,rfl,_,_,rfl,rfl,hb,p,_,_,rfl,rfl,e2,zal (by rw[Af];lia),?_⟩;refine⟨_,rfl,_,rfl,_,_,rfl,rfl,⟨hb,zdP hb hb2⟩,?_⟩;obtain⟨z1,z2⟩:=snoc (l % b) (hmod l).1 (hmod l).2;exact⟨_,q,_,ns++[l % b],rfl,q0,q1,zaC hp s2,by rw[zaa,AC];rfl,z1,z2⟩
   .refine⟨_,rfl,_,_,rfl,rfl,.inr ⟨by decide,by decide⟩,_,rfl,_,rfl,_,_,rfl,rfl,.inl ⟨by lia,by lia⟩,_,_,rfl,rfl,.inr ⟨by decide,by decide⟩,_,_,rfl,rfl,_,_,rfl,rfl,_,_,rfl,rfl,(by show (0:Int)<2147483629;decide),?_⟩;obtain⟨n0,n1⟩:=hnum (q*48271+(0+(i:Int))*(0+(i:Int))*69621+11);refine⟨_,rfl,.inl ⟨rfl,_,SqL.of e2⟩,_,rfl,_,rfl,_,_,rfl,rfl,.inl ⟨by lia,by lia⟩,_,_,rfl,rfl,(by show (0:Int)<2147483647;decide),_,_,rfl,rfl,⟨by decide,by decide⟩,_,rfl,_,_,rfl,rfl,hb,p,_,_,rfl,rfl,e2,zal (by rw[Af];lia),?_⟩;obtain⟨z1,z2⟩:=snoc (((q*48271+(0+(i:Int))*(0+(i:Int))*69621+11) % 2147483629)*((q*48271+(0+(i:Int))*(0+(i:Int))*69621+11) % 2147483629) % 2147483647 / 64 % b) (hmod _).1 (hmod _).2;exact⟨l,((q*48271+(0+(i:Int))*(0+(i:Int))*69621+11) % 2147483629),_,ns++[((q*48271+(0+(i:Int))*(0+(i:Int))*69621+11) % 2147483629)*((q*48271+(0+(i:Int))*(0+(i:Int))*69621+11) % 2147483629) % 2147483647 / 64 % b],rfl,n0,n1,zaC hp s2,by rw[zaa,AC];rfl,z1,z2⟩
  .rintro σ H2 ⟨l,q,o,ns,rfl,q0,q1,s2,e2,hl,hall⟩;exact⟨_,rfl,k p H2 ns hp s2 e2 hl hall⟩
noncomputable def rowX(ns:List Int)(sh dx y:Int)(n:Nat):List Cell:=((AU n).filter λx=>decide (ns.getD x 0<=sh)).map λx:Nat=>((x:Int)+dx,y)
theorem zdT(ns:List Int)(sh dx y:Int)(n:Nat):rowX ns sh dx y (n+1)=rowX ns sh dx y n++(if ns.getD n 0<=sh then [((n:Int)+dx,y)] else []):=by
 unfold rowX;rw[BY,List.filter_append,AC]
 congr 1
 by_cases h:ns.getD n 0<=sh
 .rw[if_pos h]
  have e:(List.filter (λx=>decide (ns.getD x 0<=sh)) [n])=[n]:=by show (match decide (ns.getD n 0<=sh) with |true=>[n] |false=>[])=[n];rw[decide_eq_true h]
  rw[e];rfl
 .rw[if_neg h]
  have e:(List.filter (λx=>decide (ns.getD x 0<=sh)) [n])=[]:=by show (match decide (ns.getD n 0<=sh) with |true=>[n] |false=>[])=[];rw[decide_eq_false h]
  rw[e];rfl
theorem zbO(ns:List Int)(sh dx y:Int)(n:Nat):(rowX ns sh dx y n).length<=n:=by
 unfold rowX;rw[Af];refine AY (List.length_filter_le _ _) ?_
 rw[AS];exact Ai _
theorem zfj(ns:List Int)(sh dx y:Int)(n:Nat):(rowX ns sh dx y n).Pairwise Bfr:=by unfold rowX;rw[List.pairwise_map];refine (List.pairwise_lt_range.filter _).imp λ{a b} h=>zfI (by lia)
theorem ze1{ns:List Int}{sh dx y:Int}{n:Nat}{c:Cell}(h:c∈rowX ns sh dx y n):c.2=y:=by obtain⟨x,_,rfl⟩:=AN.mp h;rfl
theorem zfT{ns:List Int}{sh dx y:Int}{n:Nat}{c:Cell}(h:c∈rowX ns sh dx y n):dx<=c.1/\c.1<dx+n:=by obtain⟨x,hx,rfl⟩:=AN.mp h;have:=List.mem_range.mp (List.mem_filter.mp hx).1;show dx<=(x:Int)+dx/\(x:Int)+dx<dx+n;lia
noncomputable def CellN(c:Cell):Prop:=(-(10 ^ 30)<c.1/\c.1<10 ^ 30)/\-(10 ^ 30)<c.2/\c.2<10 ^ 30
noncomputable def zeX(K:W.Frag):Sp:=λvs H Q _=>∃(a:Addr) (ns:List Int) (st:Nat),vs=[.ref a,.int st]/\SqL K H a (ns.map V.int)/\∀p H' vs cs,H p=none->Same H H'->H' p=some (.lst vs)->VR vs cs cR H'->cs.Pairwise Bfr->cs.length<=120->(∀c∈cs,CellN c)->Q (.ref p) H'
theorem six{α:Type}{l:List α}(h:l.length=6):∃a b c d e f,l=[a,b,c,d,e,f]:=by
 match l,h with
 |[a,b,c,d,e,f],_=>exact⟨a,b,c,d,e,f,rfl⟩
theorem zbY (T:Txt P w K mg) (g__law_cell_at:Fn P w K mg base 1 "_law_cell_at" ["_law_script", "_law_k"] (zbK K)) (g__law_row:Fn P w K mg base 1 "_law_row" ["_law_cell", "_law_many", "_law_base"] spRow)
    (d:Df K mg "_law_picture" zaG ["_law_script","_law_start"]):FnOk P w K mg base CX0 2 d.f d.fd ["_law_script","_law_start"] (zeX K):=by
  refine d.F.ok zaf (λvs H Q E h=>?_) (λcdv A outer s H vs Q E hr h=>?_)
  . obtain⟨a,ns,st,rfl,_⟩:=h;rfl
  . obtain⟨a,ns,st,rfl,hS,k⟩:=h;have nb0:(["_law_x","_law_y","_law_far","_law_row_here","_law_share","_law_left","_law_low"]:List Str).Nodup:=by decide +kernel
    refine⟨_,(zad (zdY (pC g__law_row hr (zag (pC g__law_cell_at hr (pa_N (pv 0) (pa_N (pv 1) zac))) (pa_C zab (pa_C zab zac)))) (zfY (by rfl) (zai (nG 2 zaf.nd) (zai (nG 3 zaf.nd) (zai (zbj (i:=4) zaf.nd (by rfl) (B2 rfl)) (zai (zbj (i:=5) zaf.nd (by rfl) (B2 rfl)) (zai (zbj (i:=6) zaf.nd (by rfl) (B2 rfl)) (zai (nG 7 zaf.nd) za3))))))))
      (zad (zbC (i:=8) zaf.nd (by rfl) (B2 rfl) (pe_ix zap (zaS (pa_C zab (pa_B (pe_op zd6 zab zab) zac))) (pe_op zc4 (pv 7) zab) (λ_ _=>rfl)))
      (zad (sE 9 zaf.nd (zaS zac))
      (zad (zbP Bi rfl (zbm (by rfl) T.nrange (pa_B (pe_op zaE zab (pe_op zaK (pv 3) zab)) zac)) (zbj (i:=10) zaf.nd (by rfl) (B2 rfl))
      (zad (zbC (i:=11) zaf.nd (by rfl) (B2 rfl) (pC g__law_row hr (pa_B (pe_op zaE (pC g__law_cell_at hr (pa_N (pv 0) (pa_B (pe_op zaE (pe_op zaE (pv 1) zab) (pv 10)) zac))) (pv 10)) (pa_B (pe_op zaE zab (pe_op zaK (pv 2) zab)) (pa_C zab zac)))))
      (zah (zbu (pe_bm A9 PySem.F.slot_list_extend PySem.F.type_list_extend zed (pv 9) (zag (za4 (osc:=zae zaG) (N:=zbh) (N':=["_law_x","_law_y","_law_far","_law_row_here","_law_share","_law_left","_law_low"]) (sel:=[none,some 10,some 8,some 11,some 4,some 5,some 6]) bO (zbm (by rfl) T.nrange (zag (zaj zaA (by rfl) T.nlen (by rfl) (pa_N (pv 11) zac)) zac)) (λ_ _ _ _ _=>(nG 0 nb0)) (λ_ _ _ _ _=>zfp (zau op_le (pe_ix (zcw (K:=K)) (pv 3) (pv 0) (λ_ _=>rfl)) (pe_op zaK (pv 4) zab) (zaL _))) (λ_ _ _ _ _=>(za9 (pa_B (pe_op zaE (pv 0) (pe_op zb7 (pe_op zbo (pv 5) zab) (pv 2))) (pa_B (pe_op zaE (pv 1) (pe_op zb7 (pe_op zbo (pv 6) zab) (pv 2))) zac))))) zac))))))
      (zah (zaJ (pv 9))))))),?_⟩
    refine⟨_,rfl,_,rfl,a,ns,st,rfl,hS,λc0=>⟨c0,60,6,rfl,by decide,by decide,by decide,λp1 H1 ms hp1 s1 e1 hl1 hb1=>?_⟩⟩;obtain⟨wd,hg,sh,lf,lw,wy,rfl⟩:=six hl1;have bw:=hb1 wd (by simp);have bh:=hb1 hg (by simp);have bl:=hb1 lf (by simp);have bo:=hb1 lw (by simp);have by':=hb1 wy (by simp);refine⟨p1,_,rfl,SqL.of e1,rfl,_,_,rfl,_,_,rfl,_,_,rfl,_,_,rfl,_,_,rfl,_,_,rfl,rfl,?_⟩;refine⟨_,_,rfl,rfl,(by refine cpow ?_;decide),two,λl2 hl2=>?_⟩;have s2:Same H1 (upd H1 l2 (.lst [.int 1,.int (10 ^ (28:Int).toNat)])):=Same.up hl2;have e2:upd H1 l2 (.lst [.int 1,.int (10 ^ (28:Int).toNat)]) l2=some (.lst [.int 1,.int (10 ^ (28:Int).toNat)]):=zaa;generalize upd H1 l2 (.lst [.int 1,.int (10 ^ (28:Int).toNat)])=H2 at s2 e2
    obtain⟨far,hfar,hf2⟩:∃far:Int,atI [V.int 1,V.int (10 ^ (28:Int).toNat)] (wy / 50)=some (.int far)/\(far=1∨far=10 ^ (28:Int).toNat):=by
      have:wy / 50=0∨wy / 50=1:=by lia
      rcases this with z |z <;> rw[z]
      . exact⟨_,rfl,.inl rfl⟩
      . exact⟨_,rfl,.inr rfl⟩
    refine⟨_,rfl,_,_,rfl,rfl,⟨by decide,by decide⟩,l2,_,_,_,rfl,rfl,SqL.of e2,hfar,?_⟩;refine⟨(by show 0<=sizeLine;decide),λf hf=>?_⟩;have s3:Same H2 (upd H2 f (.lst [])):=Same.up hf;have e3:upd H2 f (.lst []) f=some (.lst []):=zaa;generalize upd H2 f (.lst [])=H3 at s3 e3;have s02:=s1.trans s2;have hf0:H f=none:=s02.free hf;have s03:=s02.trans s3;have hh0:=Bj hg (show (10:Int)≠0 by decide);have hh1:=A4 hg (show (0:Int)<10 by decide);have hw0:=Bj wd (show (12:Int)≠0 by decide);have hw1:=A4 wd (show (0:Int)<12 by decide);refine⟨_,rfl,_,_,rfl,rfl,(by show (0:Int)<10;decide),_,_,rfl,rfl,_,rfl,(by show -(2 ^ 62)<=1+hg % 10;lia),(by show 1+hg % 10<2 ^ 62;lia),?_⟩
    refine zaQ (lo := 0) (n := (1 + hg % 10).toNat) (λi σ H4 => ∃o10 o11, σ = [some (.ref a), some (.int st), some (.int wd), some (.int hg), some (.int sh), some (.int lf), some (.int lw), some (.int wy), some (.int far), some (.ref f), o10, o11] /\ Same H H4 /\
        ∃vs cs,H4 f=some (.lst vs)/\VR vs cs cR H4/\cs.Pairwise Bfr/\(∀c∈cs,c.2<(i:Int)+(lw-30)*far/\(lw-30)*far<=c.2/\(lf-30)*far<=c.1/\c.1<(lf-30)*far+12)/\cs.length<=12*i)
      ⟨_,_,rfl,s03,[],[],e3,VR.nil,.nil,by simp,AZ _⟩ ?_ ?_
    . rintro i σ H4 hi ⟨o10,o11,rfl,s4,vs,cs,e4,hv4,hpw,hup,hcl⟩;have hi10:i<10:=by lia
      refine⟨_,rfl,_,rfl,_,_,rfl,rfl,_,rfl,_,_,rfl,rfl,a,ns,st+1+i,(by rw[Int.zero_add];rfl),s4.seq hS,λc1=>⟨_,rfl,_,_,rfl,rfl,?_⟩⟩;refine⟨_,rfl,_,_,rfl,rfl,(by show (0:Int)<12;decide),_,_,rfl,rfl,_,4,(1+wd % 12).toNat,(by rw[Int.toNat_of_nonneg (by lia)];rfl),by lia,by decide,by decide,λp5 H5 rs hp5 s5 e5 hl5 _=>?_⟩;have e45:=s5 _ _ e4;refine⟨_,rfl,.inl ⟨rfl,_,SqL.of e45⟩,_,rfl,p5,_,rfl,.inl (SqL.of e5),_,rfl,(by rw[Af];lia),(by rw[Af];lia),λg hg5=>?_⟩;rw[show ((((rs.map V.int).length:Nat):Int)).toNat=rs.length by rw[Af];rfl];have hrl:rs.length<=12:=by lia
      refine zaQ (lo:=0) (n:=rs.length) (λj σ H6=>∃o0,σ=[o0,some (.int (0+(i:Int))),some (.int far),some (.ref p5),some (.int sh),some (.int lf),some (.int lw)]/\Same H5 H6/\∃zs,H6 g=some (.lst zs)/\VR zs (rowX rs (sh % 3) ((lf-30)*far) ((i:Int)+(lw-30)*far) j) cR H6)
        ⟨_,rfl,Same.up hg5,[],zaa,VR.nil⟩ ?_ ?_
      . rintro j σ H6 hj ⟨o0,rfl,s6,zs,e6,hz6⟩;have hzl:zs.length<=12:=by rw[hz6.1];have:=zbO rs (sh % 3) ((lf-30)*far) ((i:Int)+(lw-30)*far) j;lia
        have hget:(rs.map V.int)[j]?=some (.int (rs.getD j 0)):=by rw[List.getElem?_map,A2,Ad hj];rfl
        refine⟨_,rfl,_,rfl,p5,_,_,_,rfl,rfl,SqL.of (s6 _ _ e5),(by rw[Int.zero_add];exact zaY hget),_,rfl,_,_,rfl,rfl,(by show (0:Int)<3;decide),_,_,rfl,rfl,_,rfl,?_⟩;rw[zdT];refine ite2 (λhy=>?_) (λhn=>?_)
        . rw[if_pos (of_decide_eq_true hy)];refine⟨_,rfl,_,rfl,_,_,rfl,rfl,_,rfl,_,_,rfl,rfl,.inl ⟨by lia,by lia⟩,_,_,rfl,rfl,?_⟩;refine⟨_,rfl,_,rfl,_,_,rfl,rfl,_,rfl,_,_,rfl,rfl,.inl ⟨by lia,by lia⟩,_,_,rfl,rfl,two,λt ht=>?_⟩;have s7:Same H6 (upd H6 t (.tup [.int (0+(j:Int)+(lf-30)*far),.int (0+(i:Int)+(lw-30)*far)])):=Same.up ht;have r7:cR ((j:Int)+(lf-30)*far,(i:Int)+(lw-30)*far) (.ref t) (upd H6 t (.tup [.int (0+(j:Int)+(lf-30)*far),.int (0+(i:Int)+(lw-30)*far)])):=⟨t,rfl,by rw[zaa,Int.zero_add,Int.zero_add];rfl⟩;generalize upd H6 t (.tup [.int (0+(j:Int)+(lf-30)*far),.int (0+(i:Int)+(lw-30)*far)])=H7 at s7 r7;have e7:=s7 _ _ e6;refine⟨zs,e7,zal (by lia),_,rfl,zaC hg5 (s6.trans s7),_,zaa,?_⟩;exact hz6.snoc (λx v h=>(h.kt (KT.of s7)).kt (KT.lst e7)) (r7.kt (KT.lst e7))
        . rw[if_neg (by simpa using hn)];exact⟨_,rfl,s6,zs,e6,by rw[List.append_nil];exact hz6⟩
      . rintro σ H6 ⟨o0,rfl,s6,zs,e6,hz6⟩;have hrx:=zbO rs (sh % 3) ((lf-30)*far) ((i:Int)+(lw-30)*far) rs.length;have hzl:zs.length<=12:=by rw[hz6.1];lia
        have hvl:vs.length<=120:=by rw[hv4.1];lia
        have e46:=s6 _ _ e45;refine⟨f,g,_,_,rfl,rfl,e46,e6,Bk (zal (by lia)),?_⟩;have k7:KT H6 (upd H6 f (.lst (vs++zs))):=KT.lst e46;refine⟨_,_,rfl,zaC hf0 (s4.trans (s5.trans s6)),_,_,zaa,(hv4.mono λx v h=>(h.kt (KT.of (s5.trans s6))).kt k7).app (hz6.mono λx v h=>h.kt k7),?_,?_,?_⟩
        . refine List.pairwise_append.mpr ⟨hpw,zfj _ _ _ _ _,λx hx y hy=>zff ?_⟩;have:=(hup x hx).1;rw[ze1 hy];exact this
        . intro c hc;rcases B6.mp hc with h |h
          . have:=hup c h;lia
          . have e1:=ze1 h;have e2:=zfT h;lia
        . rw[AK];lia
    . rintro σ H4 ⟨o10,o11,rfl,s4,vs,cs,e4,hv4,hpw,hup,hcl⟩;refine⟨_,rfl,k f H4 vs cs hf0 s4 e4 hv4 hpw (by lia) λc hc=>?_⟩;have hu:=hup c hc;have hi:((1+hg % 10).toNat:Int)<=10:=by lia
      have e28:((10:Int) ^ (28:Int).toNat)=10000000000000000000000000000:=rfl;have e30:((10:Int) ^ 30)=1000000000000000000000000000000:=rfl;unfold CellN;rw[e30];rcases hf2 with rfl |rfl
      . refine⟨⟨?_,?_⟩,?_,?_⟩ <;> lia
      . rw[e28]at hu;refine⟨⟨?_,?_⟩,?_,?_⟩ <;> lia
noncomputable def keyR(k:List Key)(v:V)(H:Hp):Prop:=∃b,v=.ref b/\H b=some (.tup (k.map kV))
noncomputable def tru(ks:List (List Key)):List (List Key×V):=ks.map λk=>(k,V.bl true)
theorem zeD{ks:List (List Key)}{k:List Key}(h:k ∉ ks):putK (tru ks) k (.bl true)=tru (ks++[k]):=by
 unfold putK tru;rw[if_neg (λz=>?_),AC]
 .rfl
 .obtain⟨x,hx,e⟩:=List.any_eq_true.mp z;obtain⟨y,hy,rfl⟩:=AN.mp hx;exact h (by rw[<- of_decide_eq_true e];exact hy)
theorem zdK:∀{ks:List (List Key)}{k:List Key},k ∉ ks->valV (tru ks) k=none
 |[],_,_=>rfl
 |x::xs,k,h=>by
  show valV ((x,V.bl true)::tru xs) k=none;rw[zar (λe=>h (by rw[<- e];exact AJ))];exact zdK λm=>h (Az _ m)
theorem zeW:∀{ks:List (List Key)}{k:List Key},k∈ks->valV (tru ks) k=some (.bl true)
 |x::xs,k,h=>by
  show valV ((x,V.bl true)::tru xs) k=some (V.bl true)
  by_cases e:x=k
  .rw[zax e]
  .rw[zar e];exact zeW ((AG.mp h).resolve_left λz=>e z.symm)
noncomputable def spLot(K:W.Frag):Sp:=λvs H Q _=>∃(a:Addr) (us:List V) (ks:List (List Key)),vs=[.ref a]/\SqL K H a us/\VR us ks keyR H/\ks.Nodup/\ks.length<=1000/\∀t H',H t=none->Same H H'->H' t=some (.dT (tru ks))->Q (.ref t) H'
theorem zdA (d:Df K mg "_law_lot" zbt ["_law_cells"]):FnOk P w K mg base CX0 1 d.f d.fd ["_law_cells"] (spLot K):=by
 refine d.F.ok zbi (λvs H Q E h=>?_) (λcdv A outer s H vs Q E hr h=>?_)
 .obtain⟨a,us,ks,rfl,_⟩:=h;rfl
 .obtain⟨a,us,ks,rfl,hq,hv,hnd,hlen,k⟩:=h;have hu1:=hu_of hr
  refine⟨_,(zad (sE 1 zbi.nd zeH)
   (zad (zbP Bi rfl (za8 (pv 0)) (nG 2 zbi.nd)
   (zah (zfr hu1 (pv 1) (pv 2) pe_bl rfl)))
   (zah (zaJ (pv 1))))),?_⟩
  refine λp hp=>?_
  refine⟨_,rfl,a,rfl,⟨_,(Same.up hp).seq hq⟩,?_⟩
  refine zbq (K:=K) (a:=a) (xs:=us) (λi σ H2=>∃o,σ=[some (.ref a),some (.ref p),o]/\Same H H2/\H2 p=some (.dT (tru (ks.take i))))
   ⟨_,rfl,Same.up hp,zaa⟩ (λi σ H2 _ ⟨_,_,s2,_⟩=>s2.seq hq) ?_ ?_
  .rintro i v σ H2 hi ⟨o,rfl,s2,e2⟩;obtain⟨x,hx,b,rfl,q⟩:=hv.at hi;have hil:i<ks.length:=(Ah.mp hx).1
   have hn:x ∉ ks.take i:=λhm=>by
    obtain⟨j,hj,ej⟩:=BR hm;rw[Bg]at hj;have h1:ks[j]?=some x:=by rw[<- ej,List.getElem_take];exact Ad (by lia)
    have:=(List.getElem?_inj (i:=j) (j:=i) (by lia) hnd).mp (by rw[h1,hx]);lia
   refine⟨_,rfl,_,rfl,p,_,rfl,.inr ⟨tru (ks.take i),x,b,e2,rfl,s2 _ _ q,zal (by unfold tru;rw[Af,Bg];lia),rfl⟩,?_⟩;refine⟨_,rfl,λz o e=>?_,?_⟩
   .rw[zam (zat e hp)];exact s2 z o e
   .rw[zaa,zeD hn,zbM hx]
  .rintro σ H2 ⟨o,rfl,s2,e2⟩;rw[hv.1,BP]at e2;exact⟨_,rfl,k p H2 hp s2 e2⟩
theorem zeB(cs:List Cell)(c:Cell):(valV (tru (cs.map kC)) (kC c)).isSome=isIn cs c:=by
 show _=decide (c∈cs)
 by_cases m:c∈cs
 .rw[zeW (List.mem_map.mpr ⟨c,m,rfl⟩),decide_eq_true m];rfl
 .rw[zdK (λz=>by obtain⟨x,hx,e⟩:=AN.mp z;exact m ((zdr.mp e) ▸ hx)),decide_eq_false m];rfl
noncomputable abbrev tS(i:Int):Str:=At (toString i)
noncomputable def NearI(x:Int):Prop:=-(10 ^ 31)<x/\x<10 ^ 31
theorem zaX(a b:Str):(a++b).length=a.length+b.length:=by obtain⟨c⟩:=a;obtain⟨d⟩:=b;exact Array.size_append
theorem zbV(b:Str):Str.empty++b=b:=by obtain⟨c⟩:=b;show (⟨#[]++c⟩:Str)=⟨c⟩;rw[Array.empty_append]
theorem zdo{x:Int}(h:NearI x):(tS x).length<=32:=by
 obtain⟨h1,h2⟩:=h
 by_cases hx:0<=x
 .exact AY (PyProof.Rows.toString_length_le hx (k:=31) (by decide) h2) (by decide)
 .have e:tS x=At ("-" ++ toString (0-x)):=by unfold tS;rw[PyProof.Rows.toString_neg (by lia)]
  have hl:=PyProof.Rows.toString_length_le (v:=0-x) (by lia) (k:=31) (by decide) (by lia);rw[e,PyProof.Rows.ofString_length,String.toList_append,AK];rw[PyProof.Rows.ofString_length]at hl;have:("-" : String).toList.length=1:=by decide
  lia
theorem zbL{x:Int}(h:NearI x):x.natAbs.log2<1920:=by
 obtain⟨h1,h2⟩:=h
 by_cases h0:x.natAbs=0
 .rw[h0];decide
 .refine (Nat.log2_lt h0).mpr (Aq (show x.natAbs<10 ^ 31 by lia) (by decide +kernel))
theorem zcD{ys:List Str}{B:Nat}(h:∀y∈ys,y.length<=B):(ys.map Str.length).sum<=B*ys.length:=by
 induction ys with
 |nil=>simp
 |cons y r ih =>
  have:=ih λz hz=>h z (Az _ hz)
  have:=h y AJ;rw[A5,List.sum_cons,A0,Nat.mul_add];lia
theorem zeN(sep:Str)(ys:List Str):(Txt.join sep ys).length<=(ys.map Str.length).sum+ys.length*sep.length:=by show (Builtin.Str.glued sep ys).length<=_;rw[size_glued];have:=Nat.mul_le_mul_right sep.length (show ys.length-1<=ys.length by lia);have e:(ys.map λx=>Str.length x)=ys.map Str.length:=rfl;rw[e];lia
noncomputable def signS (b:Bool):Str:=if b=true then "#" else "."
noncomputable def lineS (C:Cell->Bool) (l:Int) (n:Nat) (y:Int):Str:=Txt.join "" ((AU n).map λk:Nat=>signS (C (l+k,y)))
noncomputable def drawS (C:Cell->Bool) (l lo:Int) (n h:Nat):Str:=Txt.join "\n" ((tS l++At " " ++ tS lo)::(AU h).map λk:Nat=>lineS C l n (lo+h-1-k))
theorem zcu(b:Bool):(signS b).length=1:=by cases b <;> rfl
theorem zdp(C:Cell->Bool)(l:Int)(n:Nat)(y:Int):(lineS C l n y).length<=n:=by
 unfold lineS;refine AY (zeN _ _) ?_
 have:=zcD (ys:=(AU n).map λk:Nat=>signS (C (l+k,y))) (B:=1) λz hz=>by obtain⟨k,_,rfl⟩:=AN.mp hz;rw[zcu];exact Ai _
 rw[Af,AS]at this ⊢;have e:(At "").length=0:=rfl;rw[e];lia
noncomputable def CellM(c:Cell):Prop:=NearI c.1/\NearI c.2
theorem ze8{cs:List Cell}(h:InOrd cs):cs.Pairwise λa b=>HT.lexLt [a.2,a.1] [b.2,b.1]=true:=by
 induction cs with
 |nil=>exact .nil
 |cons a r ih =>
  have ih':=ih λi c d h1 h2=>h (i+1) c d (by simpa using h1) (by simpa using h2)
  refine List.pairwise_cons.mpr ⟨λb hb=>?_,ih'⟩
  cases r with
  |nil=>cases hb
  |cons c r =>
   have h0:HT.lexLt [a.2,a.1] [c.2,c.1]=true:=h 0 a c rfl rfl;rcases AG.mp hb with rfl |hb
   .exact h0
   .exact HT.lexLt_trans h0 ((List.pairwise_cons.mp ih').1 b hb)
theorem zfc{a b c d:Int}(h:HT.lexLt [a,b] [c,d]=true):a<=c:=by
 simp only[HT.lexLt]at h;split at h
 .lia
 .simp at h;lia
theorem zcl{cs:List Cell}(h:InOrd cs){d0 d1:Cell}(h0:cs[0]?=some d0)(h1:cs[cs.length-1]?=some d1):∀c∈cs,d0.2<=c.2/\c.2<=d1.2:=by
 intro c hc;obtain⟨i,hi,rfl⟩:=BR hc;have pw:=List.pairwise_iff_getElem.mp (ze8 h);have hl:0<cs.length:=by lia
 have h2:cs.length-1<cs.length:=by lia
 rw[Ad hl]at h0;rw[Ad h2]at h1
 cases h0
 cases h1
 constructor
 .rcases Nat.eq_zero_or_pos i with rfl |z
  .exact Int.le_refl _
  .exact zfc (pw 0 i hl hi z)
 .rcases BO i (cs.length-1) with z |z
  .exact zfc (pw i (cs.length-1) hi (by lia) z)
  .have:i=cs.length-1:=by lia
   subst this;exact Int.le_refl _
noncomputable def colD(i:Nat)(c:Cell):Int:=if i=0 then c.1 else c.2
theorem zcQ{K:W.Frag}{j i:Nat}{σ : St}{H:Hp}{a:Addr}{us:List V}{cs:List Cell}{Q:VK}(hi:i < 2)(h0 : σ[j]? = some (some (.ref a)))(ha:SqL K H a us)(hv:VR us cs cR H)(hl:cs.length <= 900)
  (k:∀g H',H g=none->Same H H'->H' g=some (.lst ((cs.map (colD i)).map V.int))->Q (.ref g) H') :
  zde (iList K (tVar j)) [none,none] (gTup K 2 (gCons (gName 0) (gCons (gName 1) gNil))) (λx H Q=>Q true H) (tVar i) σ H Q:=by
 refine⟨_,h0,a,rfl,⟨_,ha⟩,λg hg=>?_⟩
 refine zbq (K:=K) (a:=a) (xs:=us) (λj σ H2=>∃o0 o1,σ=[o0,o1]/\Same H H2/\H2 g=some (.lst (((cs.take j).map (colD i)).map V.int)))
  ⟨_,_,rfl,Same.up hg,zaa⟩ (λj σ H2 _ ⟨_,_,_,s2,_⟩=>s2.seq ha) ?_ ?_
 .rintro j x σ H2 hj ⟨o0,o1,rfl,s2,e2⟩;have hjl:j<us.length:=(Ah.mp hj).1;have hul:=hv.1;have hc:cs[j]?=some cs[j]:=Ad (by lia)
  obtain⟨B,rfl,qc⟩:=hv.2 j _ _ hc hj;refine⟨B,_,rfl,SqT.of (s2 _ _ qc),rfl,_,_,rfl,_,_,rfl,rfl,?_⟩;refine zbJ ?_
  have hx:([some (V.int cs[j].1),some (V.int cs[j].2)]:St)[i]?=some (some (V.int (colD i cs[j]))):=by
   have hil:i=0∨i=1:=by lia
   rcases hil with rfl |rfl <;> rfl
  refine⟨_,hx,_,e2,zal (by rw[Af,Af,Bg];lia),_,_,rfl,zaC hg s2,?_⟩;rw[zaa,zbM hc,AC,AC];rfl
 .rintro σ H2 ⟨o0,o1,rfl,s2,e2⟩;rw[hv.1,BP]at e2;exact k g H2 hg s2 e2
theorem zeY{K:W.Frag}{j i m:Nat}{σ : St}{H:Hp}{a:Addr}{us:List V}{cs:List Cell}{D:Ends}{t:TS}(hi:i < 2)(h0 : σ[j]? = some (some (.ref a)))(ha:SqL K H a us)(hv:VR us cs cR H)(hl:cs.length <= 900)
  (k:∀g H',H g=none->Same H H'->H' g=some (.lst ((cs.map (colD i)).map V.int))->t D (σ.set m (some (.ref g))) H') :
  tSeq (ze0 (iList K (tVar j)) [none,none] (gTup K 2 (gCons (gName 0) (gCons (gName 1) gNil))) (λx H Q=>Q true H) (tVar i) m) t D σ H :=
 zcQ (Q:=λv H'=>t D (σ.set m (some v)) H') hi h0 ha hv hl k
noncomputable def zdN (K:W.Frag) (C:Addr):Sp:=λvs H Q E=>∃(a:Addr) (cs:List Cell),vs=[.ref a]/\LR K H a cs cR/\InOrd cs/\cs.length<=120/\(∀c∈cs,CellM c)/\(cs=[]->∀H',Same H H'->Q (.str "") H') /\
 ∀c0 c1 l r,cs[0]?=some c0->cs[cs.length-1]?=some c1->IsMin (cs.map Prod.fst) l->IsMax (cs.map Prod.fst) r ->
  ((r-l<60/\c1.2-c0.2<60)->∀H',Same H H'->Q (.str (drawS (isIn cs) l c0.2 (r-l+1).toNat (c1.2-c0.2+1).toNat)) H')/\(¬ (r-l<60/\c1.2-c0.2<60)->∀H',Same H H'->E (.ref C) none H')
theorem zcm (T:Txt P w K mg){tMS:Tok}(hMS:mg "MOST_SIGNS" = some (.int 60 tMS)){c_TooWide:Addr}(m_TooWide:mg "TooWide" = some (.ref c_TooWide)) (e_TooWide:W.excIn K c_TooWide [.type "ValueError", .type "Exception", .type "BaseException", .type "object"] "ValueError.__new__" = true)
    (g_ask_picture:Fn P w K mg base 2 "ask_picture" ["picture"] (spAsk K)) (g_cell_table:Fn P w K mg base 1 "cell_table" ["picture"] (zdM K)) (d:Df K mg "show_drawn" zaH ["picture"]):FnOk P w K mg base (CX1 P w) 3 d.f d.fd ["picture"] (zdN K c_TooWide):=by
  refine d.F.okX zan (λvs H Q E h=>?_) (λcdv A outer s H vs Q E hr h=>?_)
  . obtain⟨a,cs,rfl,_⟩:=h;rfl
  . obtain⟨a,cs,rfl,hL,ho,hlen,hM,k0,k⟩:=h;have hu1:=hu_of hr;have nb0:(["x","y"]:List Str).Nodup:=by decide +kernel
    have nb1:(["x","table","y"]:List Str).Nodup:=by decide +kernel
    refine⟨_,(zad (PS.nox (zbu (pC g_ask_picture hr (pa_N (pv 0) zac))))
      (zad (PS.nox (ps_if (zfU (zeE (pv 0) (λ_=>rfl)))
      (zah (zaJ zaN))
      za2))
      (zad (PS.nox (zdk (i:=1) (osc:=zae zaH) (N:=zaT) (N':=["x","y"]) (sel:=[none,none]) bO zan.nd (by rfl) (Or.inl rfl) (za8 (pv 0)) (λ_ _ _ _ _=>(zbv (K:=K) (n:=2) (by rfl) (zai (nG 0 nb0) (zai (nG 1 nb0) za3)))) (λ_ _ _ _ _=>za1) (λ_ _ _ _ _=>(pv 0))))
      (zad (PS.nox (zdY (za9 (zag (zaj (zbb rfl) (by rfl) T.nmin (by rfl) (pa_N (pv 1) zac)) (zag (zaj (zbr rfl) (by rfl) T.nmax (by rfl) (pa_N (pv 1) zac)) (zag (pe_ix zbp (pe_ix zap (pv 0) zab (λ_ _=>rfl)) zab (λ_ _=>rfl)) (zag (pe_ix zbp (pe_ix zap (pv 0) (pe_un zdH zab) (λ_ _=>rfl)) zab (λ_ _=>rfl)) zac))))) (zd1 (by rfl) (zai (nG 2 zan.nd) (zai (nG 3 zan.nd) (zai (nG 4 zan.nd) (zai (nG 5 zan.nd) za3)))))))
      (zad (ps_if (PT.nox (pw_or (zau op_ge (pe_op zbo (pv 3) (pv 2)) (zbQ (v:=.int 60) (by rfl) hMS ⟨_,rfl⟩) (zaL _)) (zdV (zau op_ge (pe_op zbo (pv 5) (pv 4)) (zbQ (v:=.int 60) (by rfl) hMS ⟨_,rfl⟩) (zaL _)))).pt) (zah (zdX PySem.F.excBase_ValueError e_TooWide (by rfl) m_TooWide)) za2)
      (zad (PS.nox (zbC (i:=6) zan.nd (by rfl) (B2 rfl) (pC g_cell_table hr (pa_N (pv 0) zac))))
      (zad (PS.nox (sE 7 zan.nd (zaS (zag (zfw (zc2 (ze6 (pv 2)) (zc2 zaN (zc2 (ze6 (pv 4)) zfX)))) zac))))
      (zad (PS.nox (zbP Bi rfl (zft (by rfl) T.nreversed (by rfl) T.nrange (pa_N (pv 4) (pa_B (pe_op zaE (pv 5) zab) zac))) (zbj (i:=8) zan.nd (by rfl) (B2 rfl))
      (zah (zbu (pe_bm A9 Bp Bq zba (pv 7) (zag (pe_bm Bw BE BF zcr zaN (zag (za4 (osc:=zae zaH) (N:=zaT) (N':=["x","table","y"]) (sel:=[none,some 6,some 8]) bO (zcI (by rfl) T.nrange (pa_N (pv 2) (pa_B (pe_op zaE (pv 3) zab) zac))) (λ_ _ _ _ _=>(nG 0 nb1)) (λ_ _ _ _ _=>za1) (λ_ _ _ _ _=>(zeG (zfV (ze7 hu1 (za9 (pa_N (pv 0) (pa_N (pv 2) zac))) (pv 1))) zaN zaN))) zac)) zac))))))
      (zah (PS.nox (zaJ (pe_bm Bw BE BF zcr zaN (pa_N (pv 7) zac))))))))))))),?_⟩
    refine⟨_,rfl,a,cs,rfl,hL,ho,by lia,λH1 s1=>?_⟩;obtain⟨ws,hq,hn,hc⟩:=hL;refine⟨_,rfl,_,.inl ⟨ws,s1.seq hq,rfl⟩,?_⟩;have hq1:=s1.seq hq;have hv1:VR ws cs cR H1:=⟨hn,λi x v h1 h2=>(hc i x v h1 h2).same s1⟩;refine ite2 (λhz=>?_) (λhz=>?_)
    . have:ws=[]:=by simpa using hz
      subst this;exact k0 (List.eq_nil_of_length_eq_zero hn.symm) H1 s1
    have hwl:0<ws.length:=by
      rcases Nat.eq_zero_or_pos ws.length with z |z
      . have:=List.eq_nil_of_length_eq_zero z;subst this;exact absurd hz (by decide)
      . exact z
    have hcl:0<cs.length:=by lia
    refine zeY (j:=0) (i:=0) (m:=1) (by decide) rfl hq1 hv1 (by lia) λg H2 hg s2 e2=>?_
    have hne:cs.map (colD 0)≠[]:=λz=>by have:=congrArg List.length z;rw[Af,BX]at this;lia
    have w0:ws[0]?=some ws[0]:=Ad hwl;have c0:cs[0]?=some cs[0]:=Ad hcl;have w1:ws[ws.length-1]?=some ws[ws.length-1]:=Ad (by lia)
    have c1:cs[ws.length-1]?=some cs[ws.length-1]:=Ad (by lia)
    obtain⟨b0,eb0,q0⟩:=hv1.2 0 _ _ c0 w0;obtain⟨b1,eb1,q1⟩:=hv1.2 _ _ _ c1 w1;rw[eb0]at w0;rw[eb1]at w1;generalize cs[0]=d0 at *;generalize cs[ws.length-1]=d1 at *;refine⟨_,rfl,g,_,rfl,SqL.of e2,hne,λl hl=>⟨_,rfl,g,_,rfl,SqL.of e2,hne,λr hr'=>?_⟩⟩;refine⟨_,rfl,a,ws,0,_,rfl,rfl,s2.seq hq1,zaY w0,b0,_,1,_,rfl,rfl,SqT.of (s2 _ _ q0),rfl,?_⟩;refine⟨_,rfl,_,rfl,a,ws,-1,_,rfl,rfl,s2.seq hq1,(RR.atI_last hwl).trans w1,b1,_,1,_,rfl,rfl,SqT.of (s2 _ _ q1),rfl,(by show 4<=sizeLine;decide),λp hp=>?_⟩;have s3:=Same.up (o:=.tup [V.int l,V.int r,V.int d0.2,V.int d1.2]) hp;have e3:upd H2 p (.tup [V.int l,V.int r,V.int d0.2,V.int d1.2]) p=some (.tup [V.int l,V.int r,V.int d0.2,V.int d1.2]):=zaa;generalize upd H2 p (.tup [V.int l,V.int r,V.int d0.2,V.int d1.2])=H3 at s3 e3;refine⟨p,_,rfl,SqT.of e3,rfl,_,_,rfl,_,_,rfl,_,_,rfl,_,_,rfl,rfl,?_⟩;have hσ:L2.start zaT [V.ref a]=[some (.ref a),none,none,none,none,none,none,none,none]:=rfl;rw[hσ];simp only[zak,Ak,Am];have hcol:cs.map (colD 0)=cs.map Prod.fst:=List.map_congr_left λc _=>rfl
    rw[hcol]at hl hr';have kk:=k d0 d1 l r c0 (by rw[<- hn];exact c1) hl hr';have s03:Same H H3:=s1.trans (s2.trans s3);refine⟨_,rfl,_,rfl,_,_,rfl,rfl,_,_,rfl,rfl,_,rfl,?_⟩;refine ite2 (λh1=>iteT (kk.2 (λz=>absurd (of_decide_eq_true h1) (by lia)) H3 s03)) (λh1=>?_);refine⟨_,rfl,_,rfl,_,_,rfl,rfl,_,_,rfl,rfl,_,rfl,?_⟩;refine ite2 (λh2=>kk.2 (λz=>absurd (of_decide_eq_true h2) (by lia)) H3 s03) (λh2=>?_);have h1:¬ (60<=r-l):=λz=>h1 (decide_eq_true z)
    have h2:¬ (60<=d1.2-d0.2):=λz=>h2 (decide_eq_true z)
    have kd:=kk.1 ⟨by lia,by lia⟩;refine⟨_,rfl,a,cs,rfl,⟨ws,s03.seq hq,hn,λi x v z1 z2=>(hc i x v z1 z2).same s03⟩,by lia,λt H4 ht s4 hT=>?_⟩;simp only[zak,Ak,Am];have m0:=hM d0 (AI c0);obtain⟨cl,hcl1,hcl2⟩:=AN.mp hl.1;have ml:NearI l:=by rw[<- hcl2];exact (hM cl hcl1).1
    have ll:=zdo ml;have lo:=zdo m0.2;have hz1:∀n,n<=1000->n<=sizeLine:=λn hn=>Bk (zal hn)
    have l1:(At " ").length=1:=rfl;refine⟨_,rfl,.inl ⟨l,rfl,zbL ml,_,rfl,hz1 _ (by rw[zbV];show (tS l).length<=1000;lia),_,rfl,hz1 _ (by rw[zbV,zaX];show (tS l).length+_<=1000;lia),_,rfl,.inl ⟨d0.2,rfl,zbL m0.2,_,rfl,hz1 _ ?_,hz1 _ ?_,(by show 1<=sizeLine;decide),λrw hrw=>?_⟩⟩⟩
    . rw[zbV,zaX,zaX];show (tS l).length+_+(tS d0.2).length<=1000;lia
    . rw[zbV,zaX,zaX];show (tS l).length+_+(tS d0.2).length<=1000;lia
    rw[zbV];have s5:=Same.up (o:=.lst [.str (tS l++At " " ++ tS d0.2)]) hrw;have e5:upd H4 rw (.lst [.str (tS l++At " " ++ tS d0.2)]) rw=some (.lst [.str (tS l++At " " ++ tS d0.2)]):=zaa;generalize upd H4 rw (.lst [.str (tS l++At " " ++ tS d0.2)])=H5 at s5 e5;simp only[zak,Ak,Am];have hle:d0.2<=d1.2:=(zcl ho c0 (by rw[<- hn];exact c1) d0 (AI c0)).2;obtain⟨kvs,et,hC⟩:=hT;refine⟨_,rfl,_,rfl,_,_,rfl,rfl,d0.2,d1.2+1,rfl,by lia,?_⟩;have hnn:(d1.2+1-d0.2).toNat=(d1.2-d0.2+1).toNat:=by congr 1;lia
    rw[hnn];generalize hh:(d1.2-d0.2+1).toNat=h at *;generalize hw:(r-l+1).toNat=n at *
    refine zds (λi σ H6=>∃o,σ=[some (.ref a),some (.ref g),some (.int l),some (.int r),some (.int d0.2),some (.int d1.2),some (.ref t),some (.ref rw),o]/\Same H4 H6 /\
      H6 rw=some (.lst (((tS l++At " " ++ tS d0.2)::(AU i).map λk:Nat=>lineS (isIn cs) l n (d0.2+h-1-k)).map V.str))) ⟨_,rfl,s5,e5⟩ ?_ ?_
    . rintro i σ H6 hi ⟨o,rfl,s6,e6⟩;simp only[zak,Ak,Am];refine⟨_,rfl,.inl ⟨rfl,_,SqL.of e6⟩,rfl,_,rfl,_,rfl,_,_,rfl,rfl,l,r+1,rfl,λq hq=>?_⟩;have hwn:(r+1-l).toNat=n:=by rw[<- hw];congr 1;lia
      rw[hwn];generalize hy:d1.2+1-1-(i:Int)=y at *;refine zaQ (λj σ H7=>∃o,σ=[o,some (.ref t),some (.int y)]/\Same H6 H7/\H7 q=some (.lst (((AU j).map λk:Nat=>signS (isIn cs (l+k,y))).map V.str))) ⟨_,rfl,Same.up hq,zaa⟩ ?_ ?_
      . rintro j σ H7 hj ⟨o2,rfl,s7,e7⟩;refine gN ?_
        refine⟨_,rfl,_,rfl,two,λz hz=>⟨_,rfl,t,_,rfl,.inr ⟨kvs,kC (l+j,y),z,Rd.of (Same.up hz _ _ (s7 _ _ (s6 _ _ et))),rfl,zaa,rfl⟩,_,rfl,?_⟩⟩;have hv:=hC (l+j,y);change (valV kvs (kC (l+j,y))).isSome=_ at hv;rw[hv];have s8:=Same.up (o:=.tup [V.int (l+j),V.int y]) hz
        have fin:∀x:Str, x=signS (isIn cs (l + j, y)) -> ∃xs, upd H7 z (.tup [V.int (l + j), V.int y]) q=some (.lst xs) /\ xs.length < sizeLine /\ ∃o, [some (V.int (l + j)), some (V.ref t), some (V.int y)] = [o, some (V.ref t), some (V.int y)] /\ Same H6 (upd (upd H7 z (.tup [V.int (l + j), V.int y])) q (.lst (xs ++ [V.str x]))) /\
            upd (upd H7 z (.tup [V.int (l+j),V.int y])) q (.lst (xs++[V.str x])) q=some (.lst (((AU (j+1)).map λk:Nat=>signS (isIn cs (l+k,y))).map V.str)):=λx hx=>by
          refine⟨_,s8 _ _ e7,zal (by rw[Af,Af,AS];lia),_,rfl,zaC hq (s7.trans s8),?_⟩;rw[zaa,BY,AC,AC,hx];rfl
        refine ite2 (λhb=>fin _ (by unfold signS;rw[if_pos hb])) (λhb=>fin _ (by unfold signS;rw[if_neg hb]))
      . rintro σ H7 ⟨o2,rfl,s7,e7⟩;refine⟨_,q,_,rfl,rfl,e7,?_,rw,_,_,rfl,rfl,s7 _ _ e6,zal ?_,?_⟩
        . have := zcD (ys := (AU n).map λk:Nat => signS (isIn cs (l + k, y))) (B := 1) λz hz => by obtain⟨k,_,rfl⟩:=AN.mp hz;rw[zcu];exact Ai _
          rw[Af,AS]at this ⊢;have e:(At "").length=0:=rfl;rw[e];lia
        . rw[Af,A0,Af,AS];lia
        . refine⟨_,rfl,zaC hrw (s6.trans s7),?_⟩;have hyi:y=d0.2+h-1-i:=by lia
          rw[zaa,BY,AC,hyi,<- List.cons_append,AC];rfl
    . rintro σ H6 ⟨o,rfl,s6,e6⟩;refine⟨rfl,_,rfl,_,rw,_,rfl,rfl,e6,?_,?_⟩
      . have := zcD (ys := (tS l ++ At " " ++ tS d0.2) :: (AU h).map λk:Nat => lineS (isIn cs) l n (d0.2 + h-1-k)) (B := 65) λz hz => by
          rcases AG.mp hz with rfl |hz
          . rw[zaX,zaX];lia
          . obtain⟨k,_,rfl⟩:=AN.mp hz;have:=zdp (isIn cs) l n (d0.2+h-1-k);lia
        rw[A0,Af,AS]at this ⊢;have e:(At "\n").length=1:=rfl;rw[e];lia
      . exact kd H6 (s03.trans (s4.trans s6))
theorem zcs{ns:List Int}{a b:Int}(h:IsMin ns a)(k:IsMin ns b):a=b:=Int.le_antisymm (h.2 _ k.1) (k.2 _ h.1)
theorem zc8{ns:List Int}{a b:Int}(h:IsMax ns a)(k:IsMax ns b):a=b:=Int.le_antisymm (k.2 _ h.1) (h.2 _ k.1)
theorem zd4{cs:List Cell}(h:InOrd cs):cs.Nodup:=(ze8 h).imp λ{a b} q e=>by subst e;simp[HT.lexLt]at q
theorem zec{K:W.Frag}{H:Hp}{a:Addr}{vs:List V}{cs:List Cell}(e:SqL K H a vs)(h:VR vs cs cR H){q:Addr}{Q:VK}(f:H q=some (.lst []))(k:Q (.bl (decide (cs=[]))) H):rEqD K (.ref a) (.ref q) H Q:=by
 refine⟨lT (cs.map cI),lT [],zcj e h,.lst (SqL.of f) .nil,zbl _,zbl _,?_⟩;rw[zdE];have:(cs.map cI).isEmpty=decide (cs=[]):=by cases cs <;> rfl
 rw[this];exact k
noncomputable def zdh (K:W.Frag):Sp:=λvs H Q _=>∃(a:Addr) (cs:List Cell),vs=[.ref a]/\LR K H a cs cR/\InOrd cs/\cs.length<=120/\(∀c∈cs,CellM c)/\(cs=[]->∀H',Same H H'->Q (.str "") H') /\
 (cs≠[]->∃c0 c1 l r,cs[0]?=some c0/\cs[cs.length-1]?=some c1/\IsMin (cs.map Prod.fst) l/\IsMax (cs.map Prod.fst) r/\r-l<60/\c1.2-c0.2<60/\∀H',Same H H'->Q (.str (drawS (isIn cs) l c0.2 (r-l+1).toNat (c1.2-c0.2+1).toNat)) H')
theorem zcJ (T:Txt P w K mg) (g__law_lot:Fn P w K mg base 1 "_law_lot" ["_law_cells"] (spLot K)) (d:Df K mg "_law_drawn" zaI ["_law_cells"]):FnOk P w K mg base CX0 2 d.f d.fd ["_law_cells"] (zdh K):=by
  refine d.F.ok zaB (λvs H Q E h=>?_) (λcdv A outer s H vs Q E hr h=>?_)
  . obtain⟨a,cs,rfl,_⟩:=h;rfl
  . obtain⟨a,cs,rfl,⟨ws,hq,hn,hc⟩,ho,hlen,hM,k0,k⟩:=h;have hu1:=hu_of hr;have hu64:=hr.units;have nb0:(["_law_x","_law_y"]:List Str).Nodup:=by decide +kernel
    have nb1:(["_law_x","_law_there","_law_y"]:List Str).Nodup:=by decide +kernel
    refine⟨_,(zad (ps_if (zau (zfb hu64) (pv 0) (zaS zac) (zaL _))
      (zah (zaJ zaN))
      za2)
      (zad (zbC (i:=1) zaB.nd (by rfl) (B2 rfl) (pC g__law_lot hr (pa_N (pv 0) zac)))
      (zad (zdk (i:=2) (osc:=zae zaI) (N:=zaU) (N':=["_law_x","_law_y"]) (sel:=[none,none]) bO zaB.nd (by rfl) (Or.inl rfl) (za8 (pv 0)) (λ_ _ _ _ _=>(zbv (K:=K) (n:=2) (by rfl) (zai (nG 0 nb0) (zai (nG 1 nb0) za3)))) (λ_ _ _ _ _=>za1) (λ_ _ _ _ _=>(pv 0)))
      (zad (sE 3 zaB.nd (zaS (pa_B (pe_op zd5 (pe_op zd5 (zbn zbE (by rfl) T.nstr (by rfl) (zag (zaj (zbb rfl) (by rfl) T.nmin (by rfl) (pa_N (pv 2) zac)) zac)) zaN) (zbn zbE (by rfl) T.nstr (by rfl) (zag (pe_ix zbp (pe_ix zap (pv 0) zab (λ_ _=>rfl)) zab (λ_ _=>rfl)) zac))) zac)))
      (zad (zbP Bi rfl (zfu (by rfl) T.nrange (zag (pe_ix zbp (pe_ix zap (pv 0) (pe_un zdH zab) (λ_ _=>rfl)) zab (λ_ _=>rfl)) (pa_B (pe_op zbo (pe_ix zbp (pe_ix zap (pv 0) zab (λ_ _=>rfl)) zab (λ_ _=>rfl)) zab) (pa_U (pe_un zdH zab) zac)))) (zbj (i:=4) zaB.nd (by rfl) (B2 rfl))
      (zah (zbu (pe_bm A9 Bp Bq zba (pv 3) (zag (pe_bm Bw BE BF zcr zaN (zag (za4 (osc:=zae zaI) (N:=zaU) (N':=["_law_x","_law_there","_law_y"]) (sel:=[none,some 1,some 4]) bO (zcI (by rfl) T.nrange (zag (zaj (zbb rfl) (by rfl) T.nmin (by rfl) (pa_N (pv 2) zac)) (pa_B (pe_op zaE (zaj (zbr rfl) (by rfl) T.nmax (by rfl) (pa_N (pv 2) zac)) zab) zac))) (λ_ _ _ _ _=>(nG 0 nb1)) (λ_ _ _ _ _=>za1) (λ_ _ _ _ _=>(pe_ix zf9 zaN (zbn zex (by rfl) T.nint (by rfl) (zag (zf1 (ze7 hu1 (za9 (pa_N (pv 0) (pa_N (pv 2) zac))) (pv 1))) zac)) (λ_ _=>rfl)))) zac)) zac)))))
      (zah (zaJ (pe_bm Bw BE BF zcr zaN (pa_N (pv 3) zac))))))))),?_⟩
    refine⟨_,rfl,AZ _,λq hqn=>?_⟩;have s1:=Same.up (o:=.lst []) hqn;have q1:upd H q (.lst []) q=some (.lst []):=zaa;generalize upd H q (.lst [])=H1 at s1 q1;have hv1:VR ws cs cR H1:=⟨hn,λi x v h1 h2=>(hc i x v h1 h2).same s1⟩;refine zec (s1.seq hq) hv1 q1 ⟨_,rfl,?_⟩;refine ite2 (λhz=>k0 (of_decide_eq_true hz) H1 s1) (λhz=>?_);have hcs:cs≠[]:=λz=>hz (decide_eq_true z)
    obtain⟨d0,d1,l,r,c0,c1,hl,hrr,hw60,hh60,kd⟩:=k hcs;have hcl:0<cs.length:=BQ.mpr hcs
    have hkv:VR ws (cs.map kC) keyR H1:=by refine⟨by rw[Af];exact hn,λi x v h1 h2=>?_⟩;rw[List.getElem?_map]at h1;obtain⟨c,hci,rfl⟩:=Option.map_eq_some_iff.mp h1;exact hv1.2 i c v hci h2
    refine⟨_,rfl,a,ws,cs.map kC,rfl,s1.seq hq,hkv,?_,by rw[Af];lia,λt H2 ht s2 et=>?_⟩
    . exact (zd4 ho).map kC λx y z e=>z (zdr.mp e)
    have s02:=s1.trans s2;have hv2:VR ws cs cR H2:=⟨hn,λi x v h1 h2=>(hc i x v h1 h2).same s02⟩;refine zeY (j:=0) (i:=0) (m:=2) (by decide) rfl (s02.seq hq) hv2 (by lia) λg H3 hg s3 e3=>?_
    have hcol:cs.map (colD 0)=cs.map Prod.fst:=List.map_congr_left λc _=>rfl
    rw[hcol]at e3;have hne:cs.map Prod.fst≠[]:=λz=>hcs (List.map_eq_nil_iff.mp z)
    have hwl:0<ws.length:=by lia
    have w0:ws[0]?=some ws[0]:=Ad hwl;have w1:ws[ws.length-1]?=some ws[ws.length-1]:=Ad (by lia)
    obtain⟨b0,eb0,q0⟩:=hv2.2 0 _ _ c0 w0;obtain⟨b1,eb1,q1'⟩:=hv2.2 _ _ _ (by rw[hn];exact c1) w1;rw[eb0]at w0;rw[eb1]at w1;have s03:=s02.trans s3;have m0:=hM d0 (AI c0);obtain⟨cl,hcl1,hcl2⟩:=AN.mp hl.1;have ml:NearI l:=by rw[<- hcl2];exact (hM cl hcl1).1
    have ll:=zdo ml;have lo:=zdo m0.2;have hz1:∀n,n<=1000->n<=sizeLine:=λn hn=>Bk (zal hn)
    have l1:(At " ").length=1:=rfl;have hσ:L2.start zaU [V.ref a]=[some (.ref a),none,none,none,none]:=rfl;rw[hσ];simp only[zak,Ak,Am];refine⟨_,rfl,g,_,rfl,SqL.of e3,hne,λl' hl'=>?_⟩;obtain rfl:=zcs hl hl';refine⟨l,rfl,zbL ml,_,_,rfl,rfl,hz1 _ (by show (tS l).length+_<=1000;lia),?_⟩;refine⟨_,rfl,a,ws,0,_,rfl,rfl,s03.seq hq,zaY w0,b0,_,1,_,rfl,rfl,SqT.of (s3 _ _ q0),rfl,d0.2,rfl,zbL m0.2,_,_,rfl,rfl,hz1 _ (by rw[zaX];show (tS l).length+_+(tS d0.2).length<=1000;lia),(by show 1<=sizeLine;decide),λrw hrw=>?_⟩;have s5:=Same.up (o:=.lst [.str (tS l++At " " ++ tS d0.2)]) hrw;have e5:upd H3 rw (.lst [.str (tS l++At " " ++ tS d0.2)]) rw=some (.lst [.str (tS l++At " " ++ tS d0.2)]):=zaa;generalize upd H3 rw (.lst [.str (tS l++At " " ++ tS d0.2)])=H5 at s5 e5;simp only[zak,Ak,Am];have hle:d0.2<=d1.2:=(zcl ho c0 c1 d0 (AI c0)).2;have s05:=s03.trans s5;refine⟨_,rfl,_,rfl,a,ws,-1,_,rfl,rfl,s05.seq hq,(RR.atI_last hwl).trans w1,b1,_,1,_,rfl,rfl,SqT.of ((s3.trans s5) _ _ q1'),rfl,?_⟩;refine⟨_,rfl,a,ws,0,_,rfl,rfl,s05.seq hq,zaY w0,b0,_,1,_,rfl,rfl,SqT.of ((s3.trans s5) _ _ q0),rfl,_,_,rfl,rfl,_,rfl,d1.2,d0.2-1,rfl,?_⟩;have hnn:(d1.2-(d0.2-1)).toNat=(d1.2-d0.2+1).toNat:=by congr 1;lia
    rw[hnn];generalize hh:(d1.2-d0.2+1).toNat=h at *;generalize hw:(r-l+1).toNat=n at *
    refine zds (λi σ H6=>∃o,σ=[some (.ref a),some (.ref t),some (.ref g),some (.ref rw),o]/\Same H3 H6 /\
      H6 rw=some (.lst (((tS l++At " " ++ tS d0.2)::(AU i).map λk:Nat=>lineS (isIn cs) l n (d0.2+h-1-k)).map V.str))) ⟨_,rfl,s5,e5⟩ ?_ ?_
    . rintro i σ H6 hi ⟨o,rfl,s6,e6⟩;simp only[zak,Ak,Am];refine⟨_,rfl,.inl ⟨rfl,_,SqL.of e6⟩,rfl,_,rfl,g,_,rfl,SqL.of (s6 _ _ e3),hne,λl' hl'=>?_⟩;obtain rfl:=zcs hl hl';refine⟨_,rfl,g,_,rfl,SqL.of (s6 _ _ e3),hne,λr' hr'=>?_⟩;obtain rfl:=zc8 hrr hr';refine⟨_,_,rfl,rfl,l,r+1,rfl,λq hq=>?_⟩;have hwn:(r+1-l).toNat=n:=by rw[<- hw];congr 1;lia
      rw[hwn];have hyi:d1.2-(i:Int)=d0.2+h-1-i:=by lia
      generalize hy:d1.2-(i:Int)=y at *;refine zaQ (λj σ H7=>∃o,σ=[o,some (.ref t),some (.int y)]/\Same H6 H7/\H7 q=some (.lst (((AU j).map λk:Nat=>signS (isIn cs (l+k,y))).map V.str))) ⟨_,rfl,Same.up hq,zaa⟩ ?_ ?_
      . rintro j σ H7 hj ⟨o2,rfl,s7,e7⟩;refine gN ?_
        have et6:H7 t=some (.dT (tru (cs.map kC))):=s7 _ _ (s6 _ _ (s3 _ _ et));refine⟨_,rfl,_,rfl,two,λz hz=>⟨_,rfl,t,_,rfl,.inr ⟨_,kC (l+j,y),z,Rd.of (Same.up hz _ _ et6),rfl,zaa,rfl⟩,.inr ⟨_,rfl,?_⟩⟩⟩;rw[zeB];have s8:=Same.up (o:=.tup [V.int (l+j),V.int y]) hz
        have fin:∀x:Str, x=signS (isIn cs (l + j, y)) -> ∃xs, upd H7 z (.tup [V.int (l + j), V.int y]) q=some (.lst xs) /\ xs.length < sizeLine /\ ∃o, [some (V.int (l + j)), some (V.ref t), some (V.int y)] = [o, some (V.ref t), some (V.int y)] /\ Same H6 (upd (upd H7 z (.tup [V.int (l + j), V.int y])) q (.lst (xs ++ [V.str x]))) /\
            upd (upd H7 z (.tup [V.int (l+j),V.int y])) q (.lst (xs++[V.str x])) q=some (.lst (((AU (j+1)).map λk:Nat=>signS (isIn cs (l+k,y))).map V.str)):=λx hx=>by
          refine⟨_,s8 _ _ e7,zal (by rw[Af,Af,AS];lia),_,rfl,zaC hq (s7.trans s8),?_⟩;rw[zaa,BY,AC,AC,hx];rfl
        cases hb:isIn cs (l+j,y) with
        |true=>exact⟨_,_,_,rfl,rfl,(by show 2<=sizeLine;decide),rfl,fin _ (by rw[hb];rfl)⟩
        |false=>exact⟨_,_,_,rfl,rfl,(by show 2<=sizeLine;decide),rfl,fin _ (by rw[hb];rfl)⟩
      . rintro σ H7 ⟨o2,rfl,s7,e7⟩;refine⟨_,q,_,rfl,rfl,e7,?_,rw,_,_,rfl,rfl,s7 _ _ e6,zal ?_,?_⟩
        . have := zcD (ys := (AU n).map λk:Nat => signS (isIn cs (l + k, y))) (B := 1) λz hz => by obtain⟨k,_,rfl⟩:=AN.mp hz;rw[zcu];exact Ai _
          rw[Af,AS]at this ⊢;have e:(At "").length=0:=rfl;rw[e];lia
        . rw[Af,A0,Af,AS];lia
        . refine⟨_,rfl,zaC hrw (s6.trans s7),?_⟩;rw[zaa,BY,AC,hyi,<- List.cons_append,AC];rfl
    . rintro σ H6 ⟨o,rfl,s6,e6⟩;refine⟨rfl,_,rfl,_,rw,_,rfl,rfl,e6,?_,?_⟩
      . have := zcD (ys := (tS l ++ At " " ++ tS d0.2) :: (AU h).map λk:Nat => lineS (isIn cs) l n (d0.2 + h-1-k)) (B := 65) λz hz => by
          rcases AG.mp hz with rfl |hz
          . rw[zaX,zaX];lia
          . obtain⟨k,_,rfl⟩:=AN.mp hz;have:=zdp (isIn cs) l n (d0.2+h-1-k);lia
        rw[A0,Af,AS]at this ⊢;have e:(At "\n").length=1:=rfl;rw[e];lia
      . exact kd H6 (s03.trans s6)
noncomputable def CellQ(c:Cell):Prop:=(-(8*10 ^ 30)<c.1/\c.1<8*10 ^ 30)/\-(8*10 ^ 30)<c.2/\c.2<8*10 ^ 30
noncomputable def mulC(b e:Int)(c:Cell):Cell:=(c.1*b,c.2*e)
theorem zfJ{b e:Int}(hb:0<b)(he:0<e){c d:Cell}(h:Bfr c d):Bfr (mulC b e c) (mulC b e d):=by
 have h':HT.lexLt [c.2,c.1] [d.2,d.1]=true:=h;show HT.lexLt [c.2*e,c.1*b] [d.2*e,d.1*b]=true;simp only[HT.lexLt]at h' ⊢;split at h'
 .rename_i z
  rw[z,if_pos rfl];split at h'
  .cases h'
  .rename_i z2
   have h1:=of_decide_eq_true h';have:=Int.mul_lt_mul_of_pos_right h1 hb;rw[if_neg (by lia)];exact decide_eq_true this
 .have h1:=of_decide_eq_true h';have:=Int.mul_lt_mul_of_pos_right h1 he;rw[if_neg (by lia)];exact decide_eq_true this
theorem zdn{x b:Int}(h1:-(10 ^ 30)<x)(h2:x<10 ^ 30)(b1:1<=b)(b7:b<=7):-(8*10 ^ 30)<x*b/\x*b<8*10 ^ 30:=by
 have:b=1∨b=2∨b=3∨b=4∨b=5∨b=6∨b=7:=by lia
 rcases this with rfl |rfl |rfl |rfl |rfl |rfl |rfl <;> constructor <;> lia
theorem big_n{x:Int}(h1:-(10 ^ 31)<x)(h2:x<10 ^ 31):x.natAbs<2 ^ 1000:=Aq (show x.natAbs<10 ^ 31 by lia) (by decide +kernel)
noncomputable def zdg(K:W.Frag):Sp:=λvs H Q _=>∃(a:Addr) (ns:List Int) (st:Nat),vs=[.ref a,.int st]/\SqL K H a (ns.map V.int)/\∀p H' vs cs,H p=none->Same H H'->H' p=some (.lst vs)->VR vs cs cR H'->InOrd cs->cs.length<=120->(∀c∈cs,CellQ c)->Q (.ref p) H'
theorem zcn (T:Txt P w K mg) (g__law_cell_at:Fn P w K mg base 1 "_law_cell_at" ["_law_script", "_law_k"] (zbK K)) (g__law_row:Fn P w K mg base 1 "_law_row" ["_law_cell", "_law_many", "_law_base"] spRow) (g__law_picture:Fn P w K mg base 2 "_law_picture" ["_law_script", "_law_start"] (zeX K))
    (d:Df K mg "_law_spread" zaD ["_law_script","_law_start"]):FnOk P w K mg base CX0 3 d.f d.fd ["_law_script","_law_start"] (zdg K):=by
  refine d.F.ok zaw (λvs H Q E h=>?_) (λcdv A outer s H vs Q E hr h=>?_)
  . obtain⟨a,ns,st,rfl,_⟩:=h;rfl
  . obtain⟨a,ns,st,rfl,hS,k⟩:=h;have hu1:=hu_of hr;have nb0:(["_law_x","_law_y"]:List Str).Nodup:=by decide +kernel
    have nb1:(["_law_x","_law_y","_law_by","_law_ways"]:List Str).Nodup:=by decide +kernel
    refine⟨_,(zad (sE 2 zaw.nd (pC g__law_picture hr (pa_N (pv 0) (pa_N (pv 1) zac))))
      (zad (zbC (i:=3) zaw.nd (by rfl) (B2 rfl) (pC g__law_row hr (zag (pC g__law_cell_at hr (pa_N (pv 0) (pa_B (pe_op zaE (pv 1) zab) zac))) (pa_C zab (pa_C zab zac)))))
      (zad (zbC (i:=4) zaw.nd (by rfl) (B2 rfl) (pe_ix zap (zaS (pa_C zab (pa_C zab (pa_B (pe_op zaE zab (pe_op zaK (pe_ix zap (pv 3) zab (λ_ _=>rfl)) zab)) zac)))) (pe_op zaK (pe_ix zap (pv 3) zab (λ_ _=>rfl)) zab) (λ_ _=>rfl)))
      (zad (ps_if (zau op_gt (zfv (by rfl) T.nmax (za4 (osc:=zae zaD) (N:=zaM) (N':=["_law_x","_law_y"]) (sel:=[none,none]) bO (za8 (pv 2)) (λ_ _ _ _ _=>(zbv (K:=K) (n:=2) (by rfl) (zai (nG 0 nb0) (zai (nG 1 nb0) za3)))) (λ_ _ _ _ _=>za1) (λ_ _ _ _ _=>(pe_op zaE (zaj zdx (by rfl) T.nabs (by rfl) (pa_N (pv 0) zac)) (zaj zdx (by rfl) T.nabs (by rfl) (pa_N (pv 1) zac)))))) zab (zaL _))
      (zah (zbC (i:=4) zaw.nd (by rfl) (B2 rfl) zab))
      za2)
      (zah (zaJ (za4 (osc:=zae zaD) (N:=zaM) (N':=["_law_x","_law_y","_law_by","_law_ways"]) (sel:=[none,none,some 4,some 3]) bO (za8 (pv 2)) (λ_ _ _ _ _=>(zbv (K:=K) (n:=2) (by rfl) (zai (nG 0 nb1) (zai (nG 1 nb1) za3)))) (λ_ _ _ _ _=>za1) (λ_ _ _ _ _=>(za9 (pa_B (pe_op zd7 (pv 0) (pv 2)) (pa_B (pe_op zd7 (pv 1) (pe_ix (zcw (K:=K)) (zaS (pa_C zab (pa_N (pv 2) zac))) (pe_op zaK (pe_ix (zcw (K:=K)) (pv 3) zab (λ_ _=>rfl)) zab) (λ_ _=>rfl))) zac))))))))))),?_⟩
    refine⟨_,rfl,_,rfl,a,ns,st,rfl,hS,λp H1 vs cs hp s1 e1 hv hpw hl hB=>?_⟩;have hσ:L2.start zaM [V.ref a,V.int (st:Int)]=[some (.ref a),some (.int st),none,none,none]:=rfl;rw[hσ];simp only[zak,Ak,Am];refine⟨_,rfl,_,rfl,_,_,rfl,rfl,a,ns,st+11,rfl,s1.seq hS,λc0=>⟨c0,5040,3,rfl,by decide,by decide,by decide,λq H2 ms hq s2 e2 hml hmb=>?_⟩⟩
    obtain⟨m0,m1,m2,rfl⟩:∃x y z,ms=[x,y,z]:=by
      match ms,hml with
      |[x,y,z],_=>exact⟨x,y,z,rfl⟩
    have b0:=hmb m0 (by simp);have b1:=hmb m1 (by simp);have b2:=hmb m2 (by simp);refine⟨_,rfl,q,_,1,_,rfl,rfl,SqL.of e2,rfl,_,_,rfl,rfl,(by show (0:Int)<7;decide),_,_,rfl,rfl,three,λl3 hl3=>?_⟩;have s3:=Same.up (o:=.lst [V.int 1,V.int 1,V.int (1+m1 % 7)]) hl3;have e3:upd H2 l3 (.lst [V.int 1,V.int 1,V.int (1+m1 % 7)]) l3=some (.lst [V.int 1,V.int 1,V.int (1+m1 % 7)]):=zaa;generalize upd H2 l3 (.lst [V.int 1,V.int 1,V.int (1+m1 % 7)])=H3 at s3 e3
    obtain⟨fb,hat,f1,f7⟩:∃fb:Int,atI [V.int 1,V.int 1,V.int (1+m1 % 7)] (m0 % 3)=some (.int fb)/\1<=fb/\fb<=7:=by
      have h7:=Bj m1 (show (7:Int)≠0 by decide);have h7':=A4 m1 (show (0:Int)<7 by decide);have:m0 % 3=0∨m0 % 3=1∨m0 % 3=2:=by lia
      rcases this with z |z |z <;> rw[z]
      . exact⟨_,rfl,by decide,by decide⟩
      . exact⟨_,rfl,by decide,by decide⟩
      . exact⟨_,rfl,by lia,by lia⟩
    refine⟨_,rfl,q,_,0,_,rfl,rfl,SqL.of (s3 _ _ e2),rfl,_,_,rfl,rfl,(by show (0:Int)<3;decide),l3,_,_,_,rfl,rfl,SqL.of e3,hat,?_⟩;simp only[zak,Ak,Am];have s13:Same H1 H3:=s2.trans s3
    have key:∀(b:Int) (H4:Hp), 1 <= b -> b <= 7 -> Same H3 H4 -> zde (iList K (tVar 2)) [none, none, some 4, some 3] (gTup K 2 (gCons (gName 0) (gCons (gName 1) gNil))) (λx H Q => Q true H)
        (tTup (tCons (tOp (rI CMulB λi j=>V.int (i*j)) (tVar 0) (tVar 2)) (tCons (tOp (rI CMulB λi j=>V.int (i*j)) (tVar 1) (tOp (rIxL K) (tLst (tCons (tC (V.int 1)) (tCons (tVar 2) tNil))) (tOp (rI (λx j=>0<j) λi j=>V.int (i % j)) (tOp (rIxL K) (tVar 3) (tC (V.int 2))) (tC (V.int 2))))) tNil)))
        [some (.ref a),some (.int st),some (.ref p),some (.ref q),some (.int b)] H4 Q:=by
      intro b H4 hb1 hb7 s4;have s14:=s13.trans s4;refine⟨_,rfl,p,rfl,⟨_,SqL.of (s14 _ _ e1)⟩,λg hg=>?_⟩
      obtain⟨fe,he1,he7,hat2⟩:∃fe:Int,1<=fe/\fe<=7/\atI [V.int 1,V.int b] (m2 % 2)=some (.int fe):=by
        have:m2 % 2=0∨m2 % 2=1:=by lia
        rcases this with z |z <;> rw[z]
        . exact⟨1,by decide,by decide,rfl⟩
        . exact⟨b,hb1,hb7,rfl⟩
      refine zbq (K:=K) (a:=p) (xs:=vs) (λj σ H5=>∃o0 o1,σ=[o0,o1,some (.int b),some (.ref q)]/\Same H4 H5/\∃zs,H5 g=some (.lst zs)/\VR zs ((cs.take j).map (mulC b fe)) cR H5)
        ⟨_,_,rfl,Same.up hg,[],zaa,VR.nil⟩ (λj σ H5 _ ⟨_,_,_,s5,_⟩=>SqL.of (s5 _ _ (s14 _ _ e1))) ?_ ?_
      . rintro j x σ H5 hj ⟨o0,o1,rfl,s5,zs,e5,hz⟩;have hjl:j<vs.length:=(Ah.mp hj).1;have hvl:=hv.1;have hc:cs[j]?=some cs[j]:=Ad (by lia)
        obtain⟨B,rfl,qc⟩:=hv.2 j _ _ hc hj;obtain⟨⟨x1,x2⟩,y1,y2⟩:=hB cs[j] (AI hc);refine⟨B,_,rfl,SqT.of ((s14.trans s5) _ _ qc),rfl,_,_,rfl,_,_,rfl,rfl,?_⟩;refine zbJ ?_
        have bx:cs[j].1.natAbs<2 ^ 1000:=big_n (by lia) (by lia);have by':cs[j].2.natAbs<2 ^ 1000:=big_n (by lia) (by lia);have bb:b.natAbs<2 ^ 1000:=big_n (by lia) (by lia);have be:fe.natAbs<2 ^ 1000:=big_n (by lia) (by lia);refine⟨_,rfl,_,rfl,_,_,rfl,rfl,⟨bx,bb⟩,_,rfl,_,rfl,two,λl4 hl4=>?_⟩;have s6:=Same.up (o:=.lst [V.int 1,V.int b]) hl4;have e6:upd H5 l4 (.lst [V.int 1,V.int b]) l4=some (.lst [V.int 1,V.int b]):=zaa;generalize upd H5 l4 (.lst [V.int 1,V.int b])=H6 at s6 e6;refine⟨_,rfl,q,_,2,_,rfl,rfl,SqL.of ((s3.trans (s4.trans (s5.trans s6))) _ _ e2),rfl,_,_,rfl,rfl,(by show (0:Int)<2;decide),l4,_,_,_,rfl,rfl,SqL.of e6,hat2,_,_,rfl,rfl,⟨by',be⟩,two,λt ht=>?_⟩;have s7:=Same.up (o:=.tup (cellT (mulC b fe cs[j]))) ht;have e7:upd H6 t (.tup (cellT (mulC b fe cs[j]))) t=some (.tup (cellT (mulC b fe cs[j]))):=zaa;have hzl:zs.length<=120:=by rw[hz.1,Af,Bg];lia
        refine⟨zs,(s6.trans s7) _ _ e5,zal (by lia),_,_,rfl,zaC hg (s5.trans (s6.trans s7)),_,zaa,?_⟩;rw[zbM hc,AC]
        have hgt:∀x v,cR x v H5->cR x v (upd (upd H6 t (.tup (cellT (mulC b fe cs[j])))) g (.lst (zs++[.ref t]))):=λx v ⟨B',hB',qB⟩=>⟨B',hB',by
          rw[zam (λz=>by rw[z,e5]at qB;cases qB)];exact (s6.trans s7) _ _ qB⟩
        refine VR.snoc hz hgt ⟨t,rfl,?_⟩
        rw[zam (λz=>by have:=(s6.trans s7) _ _ e5;rw[<- z]at this;exact absurd (e7.symm.trans this) (by simp))]
        exact e7
      . rintro σ H5 ⟨o0,o1,rfl,s5,zs,e5,hz⟩;rw[hv.1,BP]at hz;refine k g H5 zs _ ((s1.trans s14).free hg) ((s1.trans s14).trans s5) e5 hz (ze9 ?_) ?_ ?_
        . exact List.pairwise_map.mpr (hpw.imp λ{x y} z=>zfJ (by lia) (by lia) z)
        . rw[Af];exact hl
        . intro c hc;obtain⟨c',hc',rfl⟩:=AN.mp hc;have hm:=hB c' hc';exact⟨zdn hm.1.1 hm.1.2 hb1 hb7,zdn hm.2.1 hm.2.2 he1 he7⟩
    refine⟨_,rfl,p,rfl,⟨_,SqL.of (s13 _ _ e1)⟩,λg hg=>?_⟩
    refine zbq (K:=K) (a:=p) (xs:=vs) (λj σ H4=>∃o0 o1,σ=[o0,o1]/\Same H3 H4/\∃zs:List Int,H4 g=some (.lst (zs.map V.int))/\zs.length=j)
      ⟨_,_,rfl,Same.up hg,[],zaa,rfl⟩ (λj σ H4 _ ⟨_,_,_,s4,_⟩=>SqL.of (s4 _ _ (s13 _ _ e1))) ?_ ?_
    . rintro j x σ H4 hj ⟨o0,o1,rfl,s4,zs,e4,hz⟩;have hjl:j<vs.length:=(Ah.mp hj).1;have hvl:=hv.1;have hc:cs[j]?=some cs[j]:=Ad (by lia)
      obtain⟨B,rfl,qc⟩:=hv.2 j _ _ hc hj;refine⟨B,_,rfl,SqT.of ((s13.trans s4) _ _ qc),rfl,_,_,rfl,_,_,rfl,rfl,?_⟩;refine zbJ ?_
      refine⟨_,rfl,_,rfl,_,rfl,_,rfl,_,_,rfl,rfl,_,e4,zal (by rw[Af];lia),_,_,rfl,zaC hg s4,zs++[(if cs[j].1<0 then -cs[j].1 else cs[j].1)+if cs[j].2<0 then -cs[j].2 else cs[j].2],?_,by rw[AK,hz];rfl⟩;rw[zaa,AC];rfl
    . rintro σ H4 ⟨o0,o1,rfl,s4,zs,e4,hz⟩;refine⟨g,zs,rfl,SqL.of e4,λm=>⟨_,_,rfl,rfl,_,rfl,ite2 (λ_=>?_) (λ_=>?_)⟩⟩
      . exact key 1 H4 (by decide) (by decide) s4
      . exact key fb H4 f1 f7 s4
noncomputable def zcY (K:W.Frag):Sp:=λvs H Q _=>∃(a:Addr) (cs:List Cell),vs=[.ref a]/\LR K H a cs cR/\InOrd cs/\cs.length<=120/\(∀c∈cs,CellM c)/\(cs=[]->∀t H',H t=none->Same H H'->H' t=some (.tup [.str "told",.str ""])->Q (.ref t) H') /\
 ∀c0 c1 l r,cs[0]?=some c0->cs[cs.length-1]?=some c1->IsMin (cs.map Prod.fst) l->IsMax (cs.map Prod.fst) r ->
  ((r-l<60/\c1.2-c0.2<60)->∀t H',H t=none->Same H H'->H' t=some (.tup [.str "told",.str (drawS (isIn cs) l c0.2 (r-l+1).toNat (c1.2-c0.2+1).toNat)])->Q (.ref t) H') /\
  (¬ (r-l<60/\c1.2-c0.2<60)->∀t H',H t=none->Same H H'->H' t=some (.tup [.str "refused",.bl true])->Q (.ref t) H')
structure ExcT (K:W.Frag) (mg:Str->Option Aa) (c_TooWide c_NoPicture c_NoText c_RimError:Addr):Prop where
 mT:mg "TooWide" = some (.ref c_TooWide)
 mP:mg "NoPicture" = some (.ref c_NoPicture)
 mX:mg "NoText" = some (.ref c_NoText)
 mR:mg "RimError" = some (.ref c_RimError)
 cT:ExcC K c_TooWide
 xR:W.exmOne K (.ref c_TooWide) (.ref c_RimError)=some true
 kT:Bm K (.ref c_TooWide) (.ref c_TooWide)=some true
 kV:Bm K (.ref c_TooWide) (.type "ValueError")=some true
 kP:Bm K (.ref c_TooWide) (.ref c_NoPicture)=some false
 kX:Bm K (.ref c_TooWide) (.ref c_NoText)=some false
theorem zcK (T:Txt P w K mg){c_TooWide c_NoPicture c_NoText c_RimError:Addr}(X:ExcT K mg c_TooWide c_NoPicture c_NoText c_RimError) (g_show_drawn:FnX P w K mg base 3 "show_drawn" ["picture"] (zdN K c_TooWide))
  (d:Df K mg "_law_asked" za7 ["_law_cells"]):FnOk P w K mg base CX0 4 d.f d.fd ["_law_cells"] (zcY K):=by
 have m_TooWide:=X.mT;have m_NoPicture:=X.mP;have m_NoText:=X.mX;have m_RimError:=X.mR;refine d.F.ok zas (λvs H Q E h=>?_) (λcdv A outer s H vs Q E hr h=>?_)
 .obtain⟨a,cs,rfl,_⟩:=h;rfl
 .obtain⟨a,cs,rfl,hL,ho,hlen,hM,k0,k⟩:=h;have hu1:=hu_of hr
  let ex:XK:=λc o H'=>c=.ref c_TooWide/\o=none/\Same H H'/\∃c0 c1 l r,cs[0]?=some c0/\cs[cs.length-1]?=some c1/\IsMin (cs.map Prod.fst) l/\IsMax (cs.map Prod.fst) r/\¬ (r-l<60/\c1.2-c0.2<60)
  have hex:∀c o H',ex c o H'->W.exmOne K c (.ref c_RimError)=some true:=λc o H' z=>by rw[z.1];exact X.xR
  refine⟨_,(zad (sE 1 zas.nd zf0)
   (zad (zfq (E:=ex) (i:=2) rfl rfl rfl (λpins=>(zah (sE 1 zas.nd (za9 (pa_C zaN (zag (pCX g_show_drawn hr (passT (λ_ _ _ h=>h)) (pa_N (pv 0) zac)) zac))))))
   (λa=>(zad (sE 3 zas.nd (zd3 (zaj (zbd (K:=K)) (by rfl) T.nisinstance (by rfl) (pa_N (pv 2) (pa_N (zbQ (v:=.ref c_TooWide) (by rfl) m_TooWide rfl) zac))) (ze4 (zaj (zbd (K:=K)) (by rfl) T.nisinstance (by rfl) (pa_N (pv 2) (pa_N (zc3 (v:=.ty "ValueError") (by rfl) T.nValueError (by rfl) rfl) zac))))))
   (zah (sE 1 zas.nd (za9 (pa_C zaN (zag (zd3 (pv 3) (zd3 (ze5 (zaj (zbd (K:=K)) (by rfl) T.nisinstance (by rfl) (pa_N (pv 2) (pa_N (zbQ (v:=.ref c_NoPicture) (by rfl) m_NoPicture rfl) zac)))) (ze4 (ze5 (zaj (zbd (K:=K)) (by rfl) T.nisinstance (by rfl) (pa_N (pv 2) (pa_N (zbQ (v:=.ref c_NoText) (by rfl) m_NoText rfl) zac))))))) zac))))))) (by rfl) m_RimError hex zas.nd (by rfl) (by rfl))
   (zah (zaJ (pv 1))))),?_⟩
  have hσ:L2.start zbG [V.ref a]=[some (.ref a),none,none,none]:=rfl;rw[hσ];refine⟨?_,?_⟩
  .refine⟨_,rfl,a,cs,rfl,hL,ho,hlen,hM,λz H1 s1=>⟨two,λt ht=>?_⟩,λc0 c1 l r h0 h1 h2 h3=>⟨λhw H1 s1=>⟨two,λt ht=>?_⟩,λhw H1 s1=>⟨rfl,rfl,s1,c0,c1,l,r,h0,h1,h2,h3,hw⟩⟩⟩
   .exact⟨_,rfl,k0 z t _ (s1.free ht) (s1.trans (Same.up ht)) zaa⟩
   .exact⟨_,rfl,(k c0 c1 l r h0 h1 h2 h3).1 hw t _ (s1.free ht) (s1.trans (Same.up ht)) zaa⟩
  .rintro c o H1 b σ' ⟨rfl,rfl,s1,c0,c1,l,r,h0,h1,h2,h3,hw⟩ hb hl
   obtain⟨o0,o1,o2,o3,rfl⟩:∃x y z u,σ'=[x,y,z,u]:=by
    match σ',hl with
    |[x,y,z,u],_=>exact⟨x,y,z,u,rfl⟩
   have s2:Same H1 (upd H1 b (excO b (.ref c_TooWide) none)):=Same.up hb;have hx:upd H1 b (excO b (.ref c_TooWide) none) b=some (excO b (.ref c_TooWide) none):=zaa;generalize upd H1 b (excO b (.ref c_TooWide) none)=H2 at s2 hx;refine⟨_,rfl,b,c_TooWide,.ref c_TooWide,_,true,rfl,hx,rfl,λu z=>z,X.cT,X.kT,_,rfl,iteT ?_⟩;refine⟨_,rfl,b,c_TooWide,.ty "ValueError",_,true,rfl,hx,rfl,λu z=>z,X.cT,X.kV,?_⟩;simp only[zak,Ak,Am];refine⟨_,rfl,_,rfl,iteT ?_⟩;refine⟨_,rfl,b,c_TooWide,.ref c_NoPicture,_,false,rfl,hx,rfl,λu z=>z,X.cT,X.kP,_,rfl,_,rfl,iteT ?_⟩;refine⟨_,rfl,b,c_TooWide,.ref c_NoText,_,false,rfl,hx,rfl,λu z=>z,X.cT,X.kX,_,rfl,?_⟩;refine⟨two,λt ht=>?_⟩;exact⟨_,rfl,(k c0 c1 l r h0 h1 h2 h3).2 hw t _ (s1.free (s2.free ht)) ((s1.trans s2).trans (Same.up ht)) zaa⟩
theorem zcB{A:Prop}{D:St->Hp->Prop}(C:St->Hp->Prop)(g:(∀ σ H1,D σ H1->C σ H1)->A)(h:∀ σ H1,D σ H1->C σ H1):A:=g h
theorem zes(us:List V)(k:Nat):cutV us none (some (k:Int))=us.take k:=by
 have e:cutV us none (some (k:Int))=us.take (min k us.length):=by unfold cutV;rw[HT.sIx_nat,HT.sIx_none,List.drop_zero,Nat.sub_zero]
 rw[e];rcases Nat.le_total k us.length with h |h
 .rw[Nat.min_eq_left h]
 .rw[Nat.min_eq_right h,BP,List.take_of_length_le h]
theorem zdu(n:Nat):cutV [V.int 0] (some (n:Int)) none=if n=0 then [V.int 0] else []:=by
 unfold cutV;rw[HT.sIx_nat,HT.sIx_none]
 cases n with
 |zero=>rfl
 |succ n =>
  rw[if_neg (by lia)];have:min (n+1) [V.int 0].length=1:=by show min (n+1) 1=1;lia
  rw[this];rfl
theorem zeZ{K:W.Frag}{j i:Nat}{σ : St}{H:Hp}{a:Addr}{us:List V}{cs:List Cell}{D:Ends}{u:TS}{te:TE}{gg:TG}(hi:i < 2)(h0 : σ[j]? = some (some (.ref a)))(ha:SqL K H a us)(hv:VR us cs cR H)(hl:cs.length <= 900)
  (k:∀g H',H g=none->Same H H'->H' g=some (.lst ((cs.map (colD i)).map V.int))->te σ H' λy H2=>rCat (.ref g) y H2 λz H3=>gg z σ H3 (u D)) :
  tSeq (tAsg (tOp rCat (zde (iList K (tVar j)) [none,none] (gTup K 2 (gCons (gName 0) (gCons (gName 1) gNil))) (λx H Q=>Q true H) (tVar i)) te) gg) u D σ H :=
 zcQ (Q:=λx H1=>te σ H1 λy H2=>rCat x y H2 λz H3=>gg z σ H3 (u D)) hi h0 ha hv hl k
theorem zdm{a b:Str}(ha:AB a=true)(hb:AB b=true):AB (a++b)=true:=by obtain⟨c⟩:=a;obtain⟨e⟩:=b;show (c++e).all _=true;rw[Array.all_append];exact Bool.and_eq_true_iff.mpr ⟨ha,hb⟩
theorem ok_of(s:String):AB (At s)=true:=by
 rw[Str.ofString_eq_toList];show ((s.toList.map Char.toNat).toArray).all _=true;rw[List.all_toArray,List.all_eq_true];intro x hx;obtain⟨c,_,rfl⟩:=AN.mp hx;refine decide_eq_true ?_
 have:=c.valid;rcases this with h |h
 .exact Nat.lt_trans h (by decide)
 .exact h.2
theorem zd9{sep:Str}(hs:AB sep=true):∀{ys:List Str},(∀y∈ys,AB y=true)->AB (Str.join sep ys)=true
 |[],_=>by rw[Str.join];simp[AB,Str.empty]
 |[x],h=>h x AJ
 |x::y::r,h=>zdm (zdm (h x AJ) hs) (zd9 hs λz hz=>h z (Az _ hz))
theorem zdl{sep:Str}(hs:AB sep=true){ys:List Str}(h:∀y∈ys,AB y=true):AB (Txt.join sep ys)=true:=by show AB (Builtin.Str.glued sep ys)=true;rw[PySem.StrLaws.glued_eq_join];exact zd9 hs h
theorem zfz(C:Cell->Bool)(l:Int)(n:Nat)(y:Int):AB (lineS C l n y)=true:=by
 refine zdl (ok_of _) λz hz=>?_
 obtain⟨k,_,rfl⟩:=AN.mp hz;unfold signS;split <;> exact ok_of _
theorem zfA(C:Cell->Bool)(l lo:Int)(n h:Nat):AB (drawS C l lo n h)=true:=by
 refine zdl (ok_of _) λz hz=>?_
 rcases AG.mp hz with rfl |hz
 .exact zdm (zdm (ok_of _) (ok_of _)) (ok_of _)
 .obtain⟨k,_,rfl⟩:=AN.mp hz;exact zfz C l n _
noncomputable def DueOk (cs:List Cell) (du:List V):Prop:=(cs=[]/\du=[.str "told",.str ""])∨∃c0 c1 l r,cs[0]?=some c0/\cs[cs.length-1]?=some c1/\IsMin (cs.map Prod.fst) l/\IsMax (cs.map Prod.fst) r /\
 (((r-l<60/\c1.2-c0.2<60)/\du=[.str "told",.str (drawS (isIn cs) l c0.2 (r-l+1).toNat (c1.2-c0.2+1).toNat)])∨(¬ (r-l<60/\c1.2-c0.2<60)/\du=[.str "refused",.bl true]))
theorem DueOk.two{cs:List Cell}{du:List V}(h:DueOk cs du):∃x v,du=[.str x,v]/\AB x=true/\((∃y,v=.str y/\AB y=true)∨v=.bl true):=by
 rcases h with⟨_,rfl⟩ |⟨_,_,_,_,_,_,_,_,⟨_,rfl⟩ |⟨_,rfl⟩⟩
 .exact⟨_,_,rfl,ok_of _,.inl ⟨_,rfl,ok_of _⟩⟩
 .exact⟨_,_,rfl,ok_of _,.inl ⟨_,rfl,zfA _ _ _ _ _⟩⟩
 .exact⟨_,_,rfl,ok_of _,.inr rfl⟩
theorem zf4{K:W.Frag}{H:Hp}{s t:Addr}{x:Str}{v:V}{Q:VK}(hs:H s=some (.tup [.str x,v]))(ht:H t=some (.tup [.str x,v]))(hx:AB x=true)(hv:(∃y,v=.str y/\AB y=true)∨v=.bl true)(k:Q (.bl false) H):rNeD K (.ref s) (.ref t) H Q:=by
 rcases hv with⟨y,rfl,hy⟩ |rfl
 .have sh1:A7 (.tuple [.str x, .str y])=true := by
   show (Bt (.tuple [.str x,.str y]) && _)=true;have:Bt (.tuple [.str x,.str y])=true:=by show (AB x && (AB y && true))=true;rw[hx,hy];rfl
   rw[this];rfl
  refine⟨.tuple [.str x,.str y],.tuple [.str x,.str y],.tup (SqT.of hs) (.cons (.str _) (.cons (.str _) .nil)),.tup (SqT.of ht) (.cons (.str _) (.cons (.str _) .nil)),sh1,sh1,?_⟩;have:BK (.tuple [.str x,.str y]) (.tuple [.str x,.str y])=true:=by simp[BK,BV]
  rw[this];exact k
 .have sh2:A7 (.tuple [.str x, .bool true])=true := by
   show (Bt (.tuple [.str x,.bool true]) && _)=true;have:Bt (.tuple [.str x,.bool true])=true:=by show (AB x && (true && true))=true;rw[hx];rfl
   rw[this];rfl
  refine⟨.tuple [.str x,.bool true],.tuple [.str x,.bool true],.tup (SqT.of hs) (.cons (.str _) (.cons (.bl _) .nil)),.tup (SqT.of ht) (.cons (.str _) (.cons (.bl _) .nil)),sh2,sh2,?_⟩;have:BK (.tuple [.str x,.bool true]) (.tuple [.str x,.bool true])=true:=by simp[BK,BV]
  rw[this];exact k
theorem zeL{K:W.Frag}{H:Hp}{a b:Addr}{vs:List V}{cs:List Cell}{Q:VK}(ha:H a=some (.lst vs))(hb:H b=some (.lst vs))(hv:VR vs cs cR H)(k:Q (.bl false) H):rNeD K (.ref a) (.ref b) H Q:=by refine⟨lT (cs.map cI),lT (cs.map cI),zcj (SqL.of ha) hv,zcj (SqL.of hb) hv,zbl _,zbl _,?_⟩;rw[zge];exact k
noncomputable def zdi(K:W.Frag):Sp:=λvs H Q _=>∃(a:Addr) (cs:List Cell) (du:List V),vs=[.ref a]/\LR K H a cs cR/\InOrd cs/\cs.length<=120/\(∀c∈cs,CellM c)/\DueOk cs du/\∀t H',H t=none->Same H H'->H' t=some (.tup du)->Q (.ref t) H'
theorem zeV{K:W.Frag}{vs:List V}{H:Hp}{Q:VK}{E:XK}(h:zdi K vs H Q E):zcY K vs H Q E:=by
 obtain⟨a,cs,du,rfl,hL,ho,hl,hB,hD,k⟩:=h;refine⟨a,cs,rfl,hL,ho,hl,hB,?_,?_⟩
 .intro z t H' h1 h2 h3;rcases hD with⟨_,rfl⟩ |⟨c0,_,_,_,h0,_⟩
  .exact k t H' h1 h2 h3
  .rw[z]at h0;cases h0
 .intro c0 c1 l r h0 h1 h2 h3;rcases hD with⟨z,_⟩ |⟨d0,d1,l',r',g0,g1,g2,g3,hw⟩
  .rw[z]at h0;cases h0
  .cases h0.symm.trans g0
   cases h1.symm.trans g1
   obtain rfl:=zcs h2 g2;obtain rfl:=zc8 h3 g3;rcases hw with⟨hf,rfl⟩ |⟨hf,rfl⟩
   .exact⟨λ_=>k,λz=>absurd hf z⟩
   .exact⟨λz=>absurd z hf,λ_=>k⟩
noncomputable def spLaw(K:W.Frag):Sp:=λvs H Q _=>∃(a:Addr) (ns:List Int),vs=[.ref a]/\SqL K H a (ns.map V.int)/\ns.length<=63/\∀H',Q (.bl true) H'
theorem zf3 (T:Txt P w K mg) (g__law_spread:Fn P w K mg base 3 "_law_spread" ["_law_script", "_law_start"] (zdg K)) (g__law_row:Fn P w K mg base 1 "_law_row" ["_law_cell", "_law_many", "_law_base"] spRow) (g__law_cell_at:Fn P w K mg base 1 "_law_cell_at" ["_law_script", "_law_k"] (zbK K))
  (g__law_drawn:Fn P w K mg base 2 "_law_drawn" ["_law_cells"] (zdh K)) (g0:Fn P w K mg base 4 "_law_asked" ["_law_cells"] (zcY K)) (d:Df K mg "law" s_law ["_law_script"]):FnOk P w K mg base CX0 8 d.f d.fd ["_law_script"] (spLaw K):=by
 refine d.F.ok zaZ (λvs H Q E h=>?_) (λcdv A outer s H vs Q E hr h=>?_)
 .obtain⟨a,ns,rfl,_⟩:=h;rfl
 .obtain⟨a,ns,rfl,hS,hns,k⟩:=h;have hu1:=hu_of hr;have hu64:=hr.units;have g__law_asked:Fn P w K mg base 4 "_law_asked" ["_law_cells"] (zdi K):=⟨g0.f,g0.fd,g0.ok.imp λ_ _ _ _ z=>zeV z,g0.m,g0.kp,g0.b⟩;have nb0:(["_law_x","_law_y"]:List Str).Nodup:=by decide +kernel
  have nb1:(["_law_x","_law_y"]:List Str).Nodup:=by decide +kernel
  refine⟨_,(zad (sE 1 zaZ.nd (pC g__law_spread hr (pa_N (pv 0) (pa_C zab zac))))
   (zad (sE 2 zaZ.nd (pC g__law_row hr (zag (pC g__law_cell_at hr (pa_N (pv 0) (pa_C zab zac))) (pa_C zab (pa_C zab zac)))))
   (zad (ps_if (ze3 (zau op_gt (zaj zaA (by rfl) T.nlen (by rfl) (pa_N (pv 1) zac)) zab (zaL _)) (zdW (zau op_eq (pe_op zaK (pe_ix zap (pv 2) zab (λ_ _=>rfl)) zab) zab (zaL _)))).pt
   (zad (zdY (pe_ix zap (pv 1) zab (λ_ _=>rfl)) (zd1 (by rfl) (zai (nG 3 zaZ.nd) (zai (nG 4 zaZ.nd) za3))))
   (zah (sE 1 zaZ.nd (pe_op zd8 (zck zcZ (pv 1) zc1 (zc0 zab)) (zaS (pa_T (za9 (pa_B (pe_op zaE (pe_op zaE (pv 3) (pe_ix zap (zaS (pa_C zab (pa_C zab zac))) (pe_op zaK (pe_ix zap (pv 2) zab (λ_ _=>rfl)) zab) (λ_ _=>rfl))) (pe_op zaK (pe_ix zap (pv 2) zab (λ_ _=>rfl)) zab)) (pa_B (pe_op zaE (pe_op zaE (pv 4) (pe_ix zap (zaS (pa_C zab (pa_C zab zac))) (pe_op zaK (pe_ix zap (pv 2) zab (λ_ _=>rfl)) zab) (λ_ _=>rfl))) (pe_op zaK (pe_op zc4 (pe_ix zap (pv 2) zab (λ_ _=>rfl)) zab) zab)) zac))) zac))))))
   za2)
   (zad (sE 5 zaZ.nd (zbn zcR (by rfl) T.nlist (by rfl) (pa_N (pv 1) zac)))
   (zad (sE 6 zaZ.nd (pe_op zd8 (za4 (osc:=zae s_law) (N:=N_law) (N':=["_law_x","_law_y"]) (sel:=[none,none]) bO (za8 (pv 1)) (λ_ _ _ _ _=>(zbv (K:=K) (n:=2) (by rfl) (zai (nG 0 nb0) (zai (nG 1 nb0) za3)))) (λ_ _ _ _ _=>za1) (λ_ _ _ _ _=>(pv 0))) (zck zcZ (zaS (pa_C zab zac)) (zc0 (zaj zaA (by rfl) T.nlen (by rfl) (pa_N (pv 1) zac))) zc1)))
   (zad (sE 7 zaZ.nd (pe_op zd8 (za4 (osc:=zae s_law) (N:=N_law) (N':=["_law_x","_law_y"]) (sel:=[none,none]) bO (za8 (pv 1)) (λ_ _ _ _ _=>(zbv (K:=K) (n:=2) (by rfl) (zai (nG 0 nb1) (zai (nG 1 nb1) za3)))) (λ_ _ _ _ _=>za1) (λ_ _ _ _ _=>(pv 1))) (zck zcZ (zaS (pa_C zab zac)) (zc0 (zaj zaA (by rfl) T.nlen (by rfl) (pa_N (pv 1) zac))) zc1)))
   (zad (sE 8 zaZ.nd (za9 (pa_C zaN (pa_C pe_bl zac))))
   (zad (ps_if (pw_or (zau (zfb hu64) (pv 1) (zaS zac) (zaL _)) (zdV (ze3 (zau op_lt (pe_op zbo (zaj (zbr rfl) (by rfl) T.nmax (by rfl) (pa_N (pv 6) zac)) (zaj (zbb rfl) (by rfl) T.nmin (by rfl) (pa_N (pv 6) zac))) zab (zaL _)) (zdW (zau op_lt (pe_op zbo (zaj (zbr rfl) (by rfl) T.nmax (by rfl) (pa_N (pv 7) zac)) (zaj (zbb rfl) (by rfl) T.nmin (by rfl) (pa_N (pv 7) zac))) zab (zaL _)))).pt)).pt
   (zah (sE 8 zaZ.nd (za9 (pa_C zaN (zag (pC g__law_drawn hr (pa_N (pv 1) zac)) zac)))))
   za2)
   (zad (zbP Bi rfl (zbm (by rfl) T.nrange (pa_C zab zac)) (nG 9 zaZ.nd)
   (zad (sE 10 zaZ.nd (pC g__law_asked hr (pa_N (pv 5) zac)))
   (zah (ps_if (pw_or (zau (zfa hu64) (pv 10) (pv 8) (zaL _)) (pw_or (zau (zfa hu64) (pv 5) (pv 1) (zaL _)) (zdV (zau op_ne (zaj zdw (by rfl) T.nisinstance (by rfl) (zag (pe_ix zbp (pv 10) zab (λ_ _=>rfl)) (pa_N (zc3 (v:=.ty "str") (by rfl) T.nstr (by rfl) rfl) zac))) (zaj zdw (by rfl) T.nisinstance (by rfl) (zag (pe_ix zbp (pv 8) zab (λ_ _=>rfl)) (pa_N (zc3 (v:=.ty "str") (by rfl) T.nstr (by rfl) rfl) zac))) (zaL _))))).pt
   (zah (zaJ pe_bl))
   za2))))
   (zah (zaJ pe_bl))))))))))),?_⟩
  refine⟨_,rfl,a,ns,0,rfl,hS,λp H1 vs cs hp s1 e1 hv ho hl hB=>?_⟩;have hσ:L2.start N_law [V.ref a]=[some (.ref a),none,none,none,none,none,none,none,none,none,none]:=rfl;rw[hσ];simp only[zak,Ak,Am];refine⟨_,rfl,a,ns,12,rfl,s1.seq hS,λc0=>⟨c0,5040,3,rfl,by decide,by decide,by decide,λq H2 ms hq s2 e2 hml hmb=>?_⟩⟩;simp only[zak,Ak,Am]
  obtain⟨m0,m1,m2,rfl⟩:∃x y z,ms=[x,y,z]:=by
   match ms,hml with
   |[x,y,z],_=>exact⟨x,y,z,rfl⟩
  have b0:=hmb m0 (by simp);have b1:=hmb m1 (by simp);have b2:=hmb m2 (by simp);have hv2:VR vs cs cR H2:=hv.mono λx v h=>h.same s2
  have e12:=s2 _ _ e1;have near:∀c:Cell,CellQ c->CellM c:=λc ⟨⟨x1,x2⟩,y1,y2⟩=>⟨⟨by lia,by lia⟩,by lia,by lia⟩
  refine zcB (D:=λσ H3=>∃p' o3 o4 vs cs,σ=[some (V.ref a),some (V.ref p'),some (V.ref q),o3,o4,none,none,none,none,none,none]/\H3 p'=some (.lst vs)/\VR vs cs cR H3/\InOrd cs/\cs.length<=120/\∀c∈cs,CellM c) ?C (λshare=>?g) ?h
  case g =>
   refine⟨_,rfl,p,vs,rfl,.inl (SqL.of e12),_,_,rfl,rfl,_,rfl,?_⟩;refine ite2 (λh1=>?_) (λh1=>iteF ?_)
   .have h1:=of_decide_eq_true h1;refine⟨_,rfl,q,_,0,_,rfl,rfl,SqL.of e2,rfl,_,_,rfl,rfl,(by show (0:Int)<2;decide),?_⟩;refine⟨rfl,_,rfl,ite2 (λh2=>?_) (λh2=>?_)⟩
    .have hvl:=hv2.1;have hvs:0<vs.length:=by lia
     have w0:vs[0]?=some vs[0]:=Ad hvs;have c0':cs[0]?=some cs[0]:=Ad (by lia)
     obtain⟨b0',eb0,q0⟩:=hv2.2 0 _ _ c0' w0;rw[eb0]at w0;obtain⟨⟨x1,x2⟩,y1,y2⟩:=hB _ (AI c0');generalize cs[0]=d0 at *;refine⟨_,rfl,p,vs,0,_,rfl,rfl,SqL.of e12,zaY w0,b0',_,rfl,SqT.of q0,rfl,_,_,rfl,_,_,rfl,rfl,?_⟩;simp only[zak,Ak,Am];refine⟨_,rfl,_,rfl,p,vs,rfl,SqL.of e12,λp1 hp1=>?_⟩;rw[show cutV vs none (some 1)=vs.take 1 from zes vs 1];have s4:=Same.up (o:=.lst (vs.take 1)) hp1;have e4:upd H2 p1 (.lst (vs.take 1)) p1=some (.lst (vs.take 1)):=zaa;generalize upd H2 p1 (.lst (vs.take 1))=H4 at s4 e4
     obtain⟨u,hu,hu2⟩:∃u:Int,atI [V.int 0,V.int 57] (m1 % 2)=some (.int u)/\(u=0∨u=57):=by
      have:m1 % 2=0∨m1 % 2=1:=by lia
      rcases this with z |z <;> rw[z]
      .exact⟨_,rfl,.inl rfl⟩
      .exact⟨_,rfl,.inr rfl⟩
     obtain⟨v,hv',hv2'⟩:∃v:Int,atI [V.int 57,V.int 1] (m1 % 2)=some (.int v)/\(v=57∨v=1):=by
      have:m1 % 2=0∨m1 % 2=1:=by lia
      rcases this with z |z <;> rw[z]
      .exact⟨_,rfl,.inl rfl⟩
      .exact⟨_,rfl,.inr rfl⟩
     refine⟨_,rfl,two,λl1 hl1=>?_⟩;have s5:=Same.up (o:=.lst [V.int 0,V.int 57]) hl1;have e5:upd H4 l1 (.lst [V.int 0,V.int 57]) l1=some (.lst [V.int 0,V.int 57]):=zaa;generalize upd H4 l1 (.lst [V.int 0,V.int 57])=H5 at s5 e5;have eq5:=(s4.trans s5) _ _ e2;refine⟨_,rfl,q,_,1,_,rfl,rfl,SqL.of eq5,rfl,_,_,rfl,rfl,(by show (0:Int)<2;decide),l1,_,_,_,rfl,rfl,SqL.of e5,hu,_,_,rfl,rfl,?_⟩;refine⟨_,rfl,q,_,2,_,rfl,rfl,SqL.of eq5,rfl,_,_,rfl,rfl,(by show (0:Int)<6;decide),_,_,rfl,rfl,?_⟩;refine⟨_,rfl,two,λl2 hl2=>?_⟩;have s6:=Same.up (o:=.lst [V.int 57,V.int 1]) hl2;have e6:upd H5 l2 (.lst [V.int 57,V.int 1]) l2=some (.lst [V.int 57,V.int 1]):=zaa;generalize upd H5 l2 (.lst [V.int 57,V.int 1])=H6 at s6 e6;have eq6:=s6 _ _ eq5;refine⟨_,rfl,q,_,1,_,rfl,rfl,SqL.of eq6,rfl,_,_,rfl,rfl,(by show (0:Int)<2;decide),l2,_,_,_,rfl,rfl,SqL.of e6,hv',_,_,rfl,rfl,?_⟩;refine⟨_,rfl,q,_,2,_,rfl,rfl,SqL.of eq6,rfl,_,_,rfl,rfl,⟨by decide,by decide⟩,_,_,rfl,rfl,(by show (0:Int)<6;decide),_,_,rfl,rfl,?_⟩;dsimp only;generalize hx':d0.1+u+m2 % 6=x';generalize hy':d0.2+v+m2 / 6 % 6=y';refine⟨two,λt ht=>?_⟩;have s7:=Same.up (o:=.tup [V.int x',V.int y']) ht;have e7:upd H6 t (.tup [V.int x',V.int y']) t=some (.tup [V.int x',V.int y']):=zaa;generalize upd H6 t (.tup [V.int x',V.int y'])=H7 at s7 e7;refine⟨(by show 1<=sizeLine;decide),λl3 hl3=>?_⟩;have s8:=Same.up (o:=.lst [V.ref t]) hl3;have e8:upd H7 l3 (.lst [V.ref t]) l3=some (.lst [V.ref t]):=zaa;generalize upd H7 l3 (.lst [V.ref t])=H8 at s8 e8;have s48:=s5.trans (s6.trans (s7.trans s8));refine⟨p1,l3,_,_,rfl,rfl,s48 _ _ e4,e8,?_,λpn hpn=>?_⟩
     .refine Bk (zal ?_);rw[Bg];show min 1 vs.length+1<=1000;lia
     have ht1:vs.take 1=[V.ref b0']:=by
      match vs,w0 with
      |x::r,w0=>cases w0;rfl
     rw[ht1];have s9:=Same.up (o:=.lst ([V.ref b0']++[V.ref t])) hpn;have e9:upd H8 pn (.lst ([V.ref b0']++[V.ref t])) pn=some (.lst ([V.ref b0']++[V.ref t])):=zaa;generalize upd H8 pn (.lst ([V.ref b0']++[V.ref t]))=H9 at s9 e9;simp only[zak,Ak,Am];have hm6:=Bj m2 (show (6:Int)≠0 by decide);have hm6':=A4 m2 (show (0:Int)<6 by decide);have hk6:=Bj (m2 / 6) (show (6:Int)≠0 by decide);have hk6':=A4 (m2 / 6) (show (0:Int)<6 by decide);generalize hs0:([some (V.ref a),some (V.ref pn),some (V.ref q),some (V.int d0.1),some (V.int d0.2),none,none,none,none,none,none]:St)=σ0;refine share σ0 H9 ⟨pn,_,_,_,[d0,(x',y')],hs0.symm,e9,?_,?_,(by show 2<=120;decide),?_⟩
     .refine⟨rfl,λi x z h1 h2=>?_⟩
      match i,h1,h2 with
      | 0,h1,h2 =>
       cases h1;cases h2
       exact⟨b0',rfl,s9 _ _ (s48 _ _ (s4 _ _ q0))⟩
      | 1,h1,h2 =>
       cases h1;cases h2
       exact⟨t,rfl,s9 _ _ (s8 _ _ e7)⟩
     .refine ze9 (List.pairwise_cons.mpr ⟨λz hz=>?_,List.pairwise_singleton _ _⟩);rw[Bv.mp hz];exact zff (by show d0.2<y';lia)
     .intro c hc;rcases AG.mp hc with rfl |hc
      .exact⟨⟨by lia,by lia⟩,by lia,by lia⟩
      .rw[Bv.mp hc];exact⟨⟨by show -(10 ^ 31)<x';lia,by show x'<10 ^ 31;lia⟩,by show -(10 ^ 31)<y';lia,by show y'<10 ^ 31;lia⟩
    .generalize hs0:([some (V.ref a),some (V.ref p),some (V.ref q),none,none,none,none,none,none,none,none]:St)=σ0;exact share σ0 H2 ⟨p,none,none,vs,cs,hs0.symm,e12,hv2,ho,hl,λc hc=>near c (hB c hc)⟩
   .generalize hs0:([some (V.ref a),some (V.ref p),some (V.ref q),none,none,none,none,none,none,none,none]:St)=σ0;exact share σ0 H2 ⟨p,none,none,vs,cs,hs0.symm,e12,hv2,ho,hl,λc hc=>near c (hB c hc)⟩
  case h =>
   rintro σ H3 ⟨p3,o3,o4,vs,cs,rfl,e3,hv,ho,hl,hB⟩;refine⟨_,rfl,p3,vs,rfl,.inl (SqL.of e3),λh hh=>?_⟩;have s4:=Same.up (o:=.lst vs) hh;have e4:upd H3 h (.lst vs) h=some (.lst vs):=zaa;generalize upd H3 h (.lst vs)=H4 at s4 e4;have ep4:=s4 _ _ e3;have hv4:VR vs cs cR H4:=hv.mono λx v z=>z.same s4
   simp only[zak,Ak,Am];refine zeZ (j:=1) (i:=0) (by decide) rfl (SqL.of ep4) hv4 (by lia) λg5 H5 hg5 s5 e5=>?_
   have hl0:(cs.map (colD 0)).length=cs.length:=Af _;have hl1:(cs.map (colD 1)).length=cs.length:=Af _;have hvl:=hv.1;refine⟨(by show 1<=sizeLine;decide),λz6 hz6=>?_⟩;have s6:=Same.up (o:=.lst [V.int 0]) hz6;have e6:upd H5 z6 (.lst [V.int 0]) z6=some (.lst [V.int 0]):=zaa;generalize upd H5 z6 (.lst [V.int 0])=H6 at s6 e6;have ep6:=s6 _ _ (s5 _ _ ep4);refine⟨_,rfl,p3,vs,rfl,.inl (SqL.of ep6),_,rfl,z6,_,rfl,SqL.of e6,λz7 hz7=>?_⟩;rw[zdu];generalize hdf:(if vs.length=0 then [V.int 0] else [])=df;have s7:=Same.up (o:=.lst df) hz7;have e7:upd H6 z7 (.lst df) z7=some (.lst df):=zaa;generalize upd H6 z7 (.lst df)=H7 at s7 e7
   have hdl:df.length<=1:=by
    rw[<- hdf];split
    .exact Ai _
    .exact AZ _
   refine⟨g5,z7,_,_,rfl,rfl,(s6.trans s7) _ _ e5,e7,Bk (zal (by rw[Af,hl0];lia)),λw8 hw8=>?_⟩;have s8:=Same.up (o:=.lst ((cs.map (colD 0)).map V.int++df)) hw8;have e8:upd H7 w8 (.lst ((cs.map (colD 0)).map V.int++df)) w8=some (.lst ((cs.map (colD 0)).map V.int++df)):=zaa;generalize upd H7 w8 (.lst ((cs.map (colD 0)).map V.int++df))=H8 at s8 e8;simp only[zak,Ak,Am];have s48:=s5.trans (s6.trans (s7.trans s8));have ep8:=s48 _ _ ep4;have hv8:VR vs cs cR H8:=hv4.mono λx v z=>z.same s48
   refine zeZ (j:=1) (i:=1) (by decide) rfl (SqL.of ep8) hv8 (by lia) λg9 H9 hg9 s9 e9=>?_
   refine⟨(by show 1<=sizeLine;decide),λza hza=>?_⟩;have sa:=Same.up (o:=.lst [V.int 0]) hza;have ea:upd H9 za (.lst [V.int 0]) za=some (.lst [V.int 0]):=zaa;generalize upd H9 za (.lst [V.int 0])=Ha at sa ea;refine⟨_,rfl,p3,vs,rfl,.inl (SqL.of (sa _ _ (s9 _ _ ep8))),_,rfl,za,_,rfl,SqL.of ea,λzb hzb=>?_⟩;rw[zdu,hdf];have sb:=Same.up (o:=.lst df) hzb;have eb:upd Ha zb (.lst df) zb=some (.lst df):=zaa;generalize upd Ha zb (.lst df)=Hb at sb eb;refine⟨g9,zb,_,_,rfl,rfl,(sa.trans sb) _ _ e9,eb,Bk (zal (by rw[Af,hl1];lia)),λwc hwc=>?_⟩;have sc:=Same.up (o:=.lst ((cs.map (colD 1)).map V.int++df)) hwc;have ec:upd Hb wc (.lst ((cs.map (colD 1)).map V.int++df)) wc=some (.lst ((cs.map (colD 1)).map V.int++df)):=zaa;generalize upd Hb wc (.lst ((cs.map (colD 1)).map V.int++df))=Hc at sc ec;simp only[zak,Ak,Am];have s8c:=s9.trans (sa.trans (sb.trans sc));refine⟨two,λtd htd=>?_⟩;have sd:=Same.up (o:=.tup [V.str "refused",V.bl true]) htd;have ed:upd Hc td (.tup [V.str "refused",V.bl true]) td=some (.tup [V.str "refused",V.bl true]):=zaa;generalize upd Hc td (.tup [V.str "refused",V.bl true])=Hd at sd ed;simp only[zak,Ak,Am];have s4d:=s48.trans (s8c.trans sd);have epd:=s4d _ _ ep4;have ehd:=s4d _ _ e4;have ewd:=(s8c.trans sd) _ _ e8;have ecd:=sd _ _ ec;have hvd:VR vs cs cR Hd:=hv4.mono λx v z=>z.same s4d
   refine zcB (D:=λσ He=>∃td du,σ=[some (V.ref a),some (V.ref p3),some (V.ref q),o3,o4,some (V.ref h),some (V.ref w8),some (V.ref wc),some (V.ref td),none,none]/\He td=some (.tup du)/\DueOk cs du/\He p3=some (.lst vs)/\He h=some (.lst vs)/\VR vs cs cR He) ?C2 (λshare=>?g2) ?h2
   case g2 =>
    refine⟨_,rfl,AZ _,λze hze=>?_⟩;have se:=Same.up (o:=.lst []) hze;have ee:upd Hd ze (.lst []) ze=some (.lst []):=zaa;generalize upd Hd ze (.lst [])=He at se ee;have epe:=se _ _ epd;have hve:VR vs cs cR He:=hvd.mono λx v z=>z.same se
    have hLe:LR K He p3 cs cR:=⟨vs,SqL.of epe,hvl,hve.2⟩;refine zec (SqL.of epe) hve ee ⟨_,rfl,?_⟩;refine ite2 (λhcz=>iteT ?_) (λhcz=>?_)
    .have hcz:=of_decide_eq_true hcz;refine⟨_,rfl,p3,cs,rfl,hLe,ho,hl,hB,λ_ Hf sf=>⟨two,λtf htf=>?_⟩,λz=>absurd hcz z⟩;have sg:=Same.up (o:=.tup [V.str "told",V.str ""]) htf;have eg:upd Hf tf (.tup [V.str "told",V.str ""]) tf=some (.tup [V.str "told",V.str ""]):=zaa;generalize upd Hf tf (.tup [V.str "told",V.str ""])=Hg at sg eg;simp only[zak,Ak,Am];generalize hs0:([some (V.ref a),some (V.ref p3),some (V.ref q),o3,o4,some (V.ref h),some (V.ref w8),some (V.ref wc),some (V.ref tf),none,none]:St)=σ0;have seg:=se.trans (sf.trans sg);exact share σ0 Hg ⟨tf,_,hs0.symm,eg,.inl ⟨hcz,rfl⟩,seg _ _ epd,seg _ _ ehd,hvd.mono λx v z=>z.same seg⟩
    .have hcz:cs≠[]:=λz=>hcz (decide_eq_true z)
     have hcl:0<cs.length:=BQ.mpr hcz;have hd0:df=[]:=by rw[<- hdf,if_neg (by lia)]
     have ewe:=se _ _ ewd;have ece:=se _ _ ecd;rw[hd0,List.append_nil]at ewe ece;have c0e:cs[0]?=some cs[0]:=Ad hcl;have c1e:cs[cs.length-1]?=some cs[cs.length-1]:=Ad (by lia)
     generalize cs[0]=d0 at c0e;generalize cs[cs.length-1]=d1 at c1e;have ends:=zcl ho c0e c1e;have hmx:cs.map (colD 0)=cs.map Prod.fst:=List.map_congr_left λc _=>rfl
     have hn0:cs.map (colD 0)≠[]:=λz=>hcz (List.map_eq_nil_iff.mp z)
     have hn1:cs.map (colD 1)≠[]:=λz=>hcz (List.map_eq_nil_iff.mp z)
     have hy0:IsMin (cs.map (colD 1)) d0.2:=⟨List.mem_map.mpr ⟨d0,AI c0e,rfl⟩,λn hn=>by obtain⟨c,hc,rfl⟩:=AN.mp hn;exact (ends c hc).1⟩
     have hy1:IsMax (cs.map (colD 1)) d1.2:=⟨List.mem_map.mpr ⟨d1,AI c1e,rfl⟩,λn hn=>by obtain⟨c,hc,rfl⟩:=AN.mp hn;exact (ends c hc).2⟩
     refine⟨_,rfl,w8,_,rfl,SqL.of ewe,hn0,λr hr'=>⟨_,rfl,w8,_,rfl,SqL.of ewe,hn0,λl hl'=>⟨_,_,rfl,rfl,_,_,rfl,rfl,_,rfl,?_⟩⟩⟩;rw[hmx]at hr' hl';have ref:¬ (r-l<60/\d1.2-d0.2<60)->DueOk cs [.str "refused",.bl true]:=λz=>.inr ⟨d0,d1,l,r,c0e,c1e,hl',hr',.inr ⟨z,rfl⟩⟩
     have ede:=se _ _ ed;have ehe:=se _ _ ehd;refine ite2 (λh1=>?_) (λh1=>iteF ?_)
     .have h1:=of_decide_eq_true h1;refine⟨_,rfl,wc,_,rfl,SqL.of ece,hn1,λmh hmh=>⟨_,rfl,wc,_,rfl,SqL.of ece,hn1,λml hml'=>⟨_,_,rfl,rfl,_,_,rfl,rfl,_,rfl,?_⟩⟩⟩;obtain rfl:=zc8 hy1 hmh;obtain rfl:=zcs hy0 hml';refine ite2 (λh2=>?_) (λh2=>?_)
      .have h2:=of_decide_eq_true h2;refine⟨_,rfl,p3,cs,rfl,hLe,ho,hl,hB,λz=>absurd z hcz,λ_=>⟨d0,d1,l,r,c0e,c1e,hl',hr',h1,h2,λHf sf=>⟨two,λtf htf=>?_⟩⟩⟩;have sg:=Same.up (o:=.tup [V.str "told",V.str (drawS (isIn cs) l d0.2 (r-l+1).toNat (d1.2-d0.2+1).toNat)]) htf;have eg:upd Hf tf (.tup [V.str "told",V.str (drawS (isIn cs) l d0.2 (r-l+1).toNat (d1.2-d0.2+1).toNat)]) tf=some (.tup [V.str "told",V.str (drawS (isIn cs) l d0.2 (r-l+1).toNat (d1.2-d0.2+1).toNat)]):=zaa;generalize upd Hf tf (.tup [V.str "told",V.str (drawS (isIn cs) l d0.2 (r-l+1).toNat (d1.2-d0.2+1).toNat)])=Hg at sg eg;simp only[zak,Ak,Am];generalize hs0:([some (V.ref a),some (V.ref p3),some (V.ref q),o3,o4,some (V.ref h),some (V.ref w8),some (V.ref wc),some (V.ref tf),none,none]:St)=σ0;have seg:=se.trans (sf.trans sg);exact share σ0 Hg ⟨tf,_,hs0.symm,eg,.inr ⟨d0,d1,l,r,c0e,c1e,hl',hr',.inl ⟨⟨h1,h2⟩,rfl⟩⟩,seg _ _ epd,seg _ _ ehd,hvd.mono λx v z=>z.same seg⟩
      .generalize hs0:([some (V.ref a),some (V.ref p3),some (V.ref q),o3,o4,some (V.ref h),some (V.ref w8),some (V.ref wc),some (V.ref td),none,none]:St)=σ0;exact share σ0 He ⟨td,_,hs0.symm,ede,ref λz=>h2 (decide_eq_true z.2),epe,ehe,hve⟩
     .generalize hs0:([some (V.ref a),some (V.ref p3),some (V.ref q),o3,o4,some (V.ref h),some (V.ref w8),some (V.ref wc),some (V.ref td),none,none]:St)=σ0;exact share σ0 He ⟨td,_,hs0.symm,ede,ref λz=>h1 (decide_eq_true z.1),epe,ehe,hve⟩
   case h2 =>
    rintro σ He ⟨td,du,rfl,ed,hD,epe,ehe,hve⟩;refine⟨2,rfl,by decide,by decide,?_⟩
    refine zaQ (lo:=0) (n:=2) (λi σ Hf=>∃o9 o10,σ=[some (V.ref a),some (V.ref p3),some (V.ref q),o3,o4,some (V.ref h),some (V.ref w8),some (V.ref wc),some (V.ref td),o9,o10]/\Same He Hf)
     ⟨_,_,rfl,Same.refl _⟩ ?_ ?_
    .rintro i σ Hf hi ⟨o9,o10,rfl,sf⟩;simp only[zak,Ak,Am];have hvf:VR vs cs cR Hf:=hve.mono λx v z=>z.same sf
     refine⟨_,rfl,h,cs,du,rfl,⟨vs,SqL.of (sf _ _ ehe),hvl,hvf.2⟩,ho,hl,hB,hD,λt Hg ht sg eg=>?_⟩;simp only[zak,Ak,Am];obtain⟨x,v,rfl,hx,hv0⟩:=hD.two;have sfg:=sf.trans sg;refine⟨_,rfl,_,rfl,zf4 eg (sfg _ _ ed) hx hv0 ⟨_,rfl,iteF ?_⟩⟩;refine⟨_,rfl,_,rfl,zeL (sfg _ _ ehe) (sfg _ _ epe) (hve.mono λx v z=>z.same sfg) ⟨_,rfl,iteF ?_⟩⟩
     obtain⟨tv,b,hty,hkit⟩:∃tv b,TyOf K Hg v tv/\Bm K tv (.type "str")=some b:=by
      rcases hv0 with⟨y,rfl,_⟩ |rfl
      .exact⟨_,true,.str y,zeQ K "str"⟩
      .exact⟨_,false,.bl true,rfl⟩
     refine⟨_,rfl,t,_,1,_,rfl,rfl,SqT.of eg,rfl,v,"str",tv,b,rfl,hty,hkit,?_⟩;refine⟨_,rfl,td,_,1,_,rfl,rfl,SqT.of (sfg _ _ ed),rfl,v,"str",tv,b,rfl,hty,hkit,rfl,_,rfl,iteN (by simp) ?_⟩;exact⟨_,_,rfl,sfg⟩
    .rintro σ Hf ⟨o9,o10,rfl,sf⟩;exact k Hf
end
theorem all_mk {l:W.OpenLaw}{w:Ax}{K:W.Frag}{h:Heap}{mg:Str -> Option Aa}{fa:Addr}(X:K.In h) (G:h.Ns Ap mg) (hfa:mg "law" = some (.ref fa)){fx11:Addr}{od11 an11:Option Addr}{sl11:Array (Option Aa)}{oc11 kV11 dc11 pm11 ct11 cd11:Aa}
  (h0:DA K "cell_order" za6)
  (h1:DA K "ask_picture" za0)
  (h2:DA K "cell_table" zaR)
  (h3:DA K "show_drawn" zaH)
  (h4:DA K "_law_cell_at" zaV)
  (h5:DA K "_law_row" zbs)
  (h6:DA K "_law_picture" zaG)
  (h7:DA K "_law_lot" zbt)
  (h8:DA K "_law_drawn" zaI)
  (h9:DA K "_law_spread" zaD)
  (h10:DA K "_law_asked" za7)
  (a11:BD K Ap "law" = some (some (.ref fx11))) (l11:K.lookup fx11=some ⟨oc11,od11,.func (B1 "law" "law" (zaF s_law) (zav s_law) (zae s_law) .none kV11 dc11 pm11 an11 cd11 ct11),sl11⟩) (c11:W.codeIn K cd11 "law" = true) (k11:W.keepIn K (.ref fx11)=true)
  {tMS:Tok}{cTW cNP cNT cRE:Addr} (xMS:BD K Ap "MOST_SIGNS" = some (some (.int 60 tMS))) (xTW:BD K Ap "TooWide" = some (some (.ref cTW))) (xNP:BD K Ap "NoPicture" = some (some (.ref cNP))) (xNT:BD K Ap "NoText" = some (some (.ref cNT))) (xRE:BD K Ap "RimError" = some (some (.ref cRE)))
  (xEX:W.excIn K cTW [.type "ValueError",.type "Exception",.type "BaseException",.type "object"] "ValueError.__new__" = true) (xC1:Bx K (.ref cTW) "__getattribute__" = some (some (.builtin "BaseException.__getattribute__"))) (xC7:Bx K (.ref cTW) "__getattr__" = some none) (xC8:W.subIn K (.ref cTW) (.type "BaseException")=some true) (xC2:W.hasDictIn K cTW=true) (xC3:Bx K (.ref cTW) "__class__" = some (some (.builtin "object.__class__")))
  (xC4:W.specialIn K (.builtin "object.__class__") "__get__" = some (some (.builtin "getset_descriptor.__get__"))) (xC5:W.takesIn K (.builtin "object.__class__")=some true) (xC6:W.mroIn K cTW (.type "object")=some true)
  (xXR:W.exmOne K (.ref cTW) (.ref cRE)=some true) (xKT:Bm K (.ref cTW) (.ref cTW)=some true) (xKV:Bm K (.ref cTW) (.type "ValueError")=some true) (xKP:Bm K (.ref cTW) (.ref cNP)=some false) (xKX:Bm K (.ref cTW) (.ref cNT)=some false)
  (z_range:BD K Ap "range" = some none)
  (z_len:BD K Ap "len" = some none)
  (z_min:BD K Ap "min" = some none)
  (z_max:BD K Ap "max" = some none)
  (z_int:BD K Ap "int" = some none)
  (z_str:BD K Ap "str" = some none)
  (z_isinstance:BD K Ap "isinstance" = some none)
  (z_list:BD K Ap "list" = some none)
  (z_abs:BD K Ap "abs" = some none)
  (z_reversed:BD K Ap "reversed" = some none)
  (z_ValueError:BD K Ap "ValueError" = some none) :
  ∃fd:AO,(∀(s:Ab) (v:Aa),BindsTo s fd ⟨[v],[]⟩ [("_law_script",v)])/\∀base:Heap,K.In base->base.Ns Ap mg->FnOk l.prog w K mg base CX0 8 fa fd ["_law_script"] (spLaw K):=by
 have e:=hfa.symm.trans (W.mg_of X G a11)
 cases e
 have T:Txt l.prog w K mg:={ nrange:=A8 X G z_range,nlen:=A8 X G z_len,nmin:=A8 X G z_min,nmax:=A8 X G z_max,nint:=A8 X G z_int,nstr:=A8 X G z_str,nisinstance:=A8 X G z_isinstance,nlist:=A8 X G z_list,nabs:=A8 X G z_abs,nreversed:=A8 X G z_reversed,nValueError:=A8 X G z_ValueError };obtain⟨d'0⟩:=h0.d1 X G (p0:="cell");obtain⟨d'1⟩:=h1.d1 X G (p0:="picture");obtain⟨d'2⟩:=h2.d1 X G (p0:="picture");obtain⟨d'3⟩:=h3.d1 X G (p0:="picture");obtain⟨d'4⟩:=h4.d2 X G (p0:="_law_script") (p1:="_law_k");obtain⟨d'5⟩:=h5.d3 X G (p0:="_law_cell") (p1:="_law_many") (p2:="_law_base");obtain⟨d'6⟩:=h6.d2 X G (p0:="_law_script") (p1:="_law_start");obtain⟨d'7⟩:=h7.d1 X G (p0:="_law_cells");obtain⟨d'8⟩:=h8.d1 X G (p0:="_law_cells");obtain⟨d'9⟩:=h9.d2 X G (p0:="_law_script") (p1:="_law_start");obtain⟨d'a⟩:=h10.d1 X G (p0:="_law_cells");have F11:=zbT (st:=s_law) l11 c11 k11;have b11:=F11.b1 (p0:="_law_script");refine⟨B1 "law" "law" (zaF s_law) (zav s_law) (zae s_law) .none kV11 dc11 pm11 an11 cd11 ct11,λs v=>.of_eq rfl,λbase _ _=>?_⟩;have fn:∀{k:Nat}{x:Str}{s:Stmt}{ps:List Str}{sp:Sp} (d:Df K mg x s ps),FnOk l.prog w K mg base CX0 k d.f d.fd ps sp->Fn l.prog w K mg base k x ps sp:=λd h=>d.fn h
 have hXT:ExcT K mg cTW cNP cNT cRE:=⟨W.mg_of X G xTW,W.mg_of X G xNP,W.mg_of X G xNT,W.mg_of X G xRE,⟨xC1,xC7,xC8,xC2,xC3,xC4,xC5,xC6⟩,xXR,xKT,xKV,xKP,xKX⟩;have g'b:=fn d'0 (zcp d'0);have g'c:=fn d'1 (zb0 T g'b d'1);have g'd:=fn d'2 (zco d'2);have g'e:=fn d'4 (zbZ T d'4);have g'f:=fn d'5 (zdz T d'5);have g'10:=fn d'6 (zbY T g'e g'f d'6);have g'11:=fn d'7 (zdA d'7);have g'12:=fn d'8 (zcJ T g'11 d'8);have g'13:=fn d'9 (zcn T g'e g'f g'10 d'9);have g'14:=d'3.fnX (zcm (base:=base) T (W.mg_of X G xMS) (W.mg_of X G xTW) xEX g'c g'd d'3);have g'15:=fn d'a (zcK T hXT g'14 d'a);exact zf3 T g'13 g'f g'e g'12 g'15 ⟨_,_,F11,W.mg_of X G a11,b11⟩
theorem walk{l:W.OpenLaw}{q:Aj}{loose:List Str}{XP:(Str -> Option Aa) -> Heap -> Prop}{YP:Ax -> Heap -> Prop}{d:DefRec}{K:Params -> W.Frag}(hn:l.most=some 63)(hdf:d.params.defaults = [])
  (hY:∀(w:Ax) (h:Heap),YP w h->(K w.params).In h)
  (F:∀(w:Ax) (mg:Str->Option Aa) (fa:Addr) (h:Heap),(K w.params).In h->h.Ns Ap mg->mg d.name=some (.ref fa) ->
   ∃fd:AO,(∀(s:Ab) (u:Aa),BindsTo s fd ⟨[u],[]⟩ [("_law_script",u)])/\∀base:Heap,(K w.params).In base->base.Ns Ap mg->FnOk l.prog w (K w.params) mg base CX0 8 fa fd ["_law_script"] (spLaw (K w.params))) :
  W.WalkO q loose XP YP l.row.toRowW d [] (λf vs=>PySem.call f vs) :=
 L2.walk_of (n:=63) (k:=8) (x:="_law_script") (CX:=λ_=>CX0) (sp:=λw=>spLaw (K w.params)) hn (by decide) hdf ⟨rfl,by decide,by decide⟩ hY F (λ_ _ a ns hl _ hS=>⟨a,ns,rfl,hS,hl,λ_=>rfl⟩) λ_ _ _ _ _ z=>z
end RR
namespace PySem.W.Fast
noncomputable def tw17756499004009585699:=()
noncomputable def tw10838194706497928009:=()
noncomputable def tw17841930297804139913:=()
noncomputable def tw16084521849296245190:=()
noncomputable def tw8582225324202723129:=()
noncomputable def tw632665893452930933:=()
noncomputable def tw567129957833494896:=()
noncomputable def tw13583007669206120670:=()
noncomputable def tw193360794690122661:=()
noncomputable def tw10475264771315755631:=()
noncomputable def tw2075899214814756260:=()
noncomputable def tw3364957490752696524:=()
noncomputable def tw10661382412723826574:=()
noncomputable def tw5190056678680238341:=()
noncomputable def tw16622598190818078558:=()
noncomputable def tw17324141953131872303:=()
noncomputable def tw14321790327884811143:=()
noncomputable def tw13021413025931800195:=()
noncomputable def tw5950621441503964331:=()
noncomputable def tw13795424685948453163:=()
noncomputable def tw1803850220217753359:=()
noncomputable def tw11570618705205296529:=()
noncomputable def tw9995548507418805186:=()
noncomputable def tw16441452401740607692:=()
noncomputable def tw7384751409136763182:=()
noncomputable def tw4489637517710588634:=()
noncomputable def tw13691400552207095285:=()
noncomputable def tw6137230370020236810:=()
noncomputable def tw11164448189687745311:=()
noncomputable def tw16637436682421040371:=()
noncomputable def tw10854385181008867004:=()
noncomputable def tw14042347868622185327:=()
noncomputable def tw5514608849819772178:=()
noncomputable def tw6592804703824544815:=()
noncomputable def tw16315501528272182472:=()
noncomputable def tw6344958615757347793:=()
noncomputable def tw15804088683827262937:=()
noncomputable def tw2255656696049939951:=()
noncomputable def tw287978960388833388:=()
noncomputable def tw10750499877440958117:=()
noncomputable def tw16444059620134148049:=()
noncomputable def tw5702466362768569602:=()
noncomputable def tw3651644830775982237:=()
noncomputable def tw17223897354276714678:=()
noncomputable def tw1877160470494327203:=()
noncomputable def tw6186817448997723307:=()
noncomputable def tw2309088614220432081:=()
noncomputable def tw10201976216669342964:=()
noncomputable def tw5459919852850326394:=()
noncomputable def tw9870786901962486292:=()
noncomputable def tw678089235855077174:=()
noncomputable def tw14054430366071587608:=()
noncomputable def tw11875134297081988137:=()
noncomputable def tw12172486280408383467:=()
noncomputable def tw3301173971047076269:=()
noncomputable def tw11168938454095753836:=()
noncomputable def tw18088287384955911861:=()
noncomputable def tw7301409152190478446:=()
noncomputable def tw318425950272663366:=()
noncomputable def tw8044432243384118389:=()
noncomputable def tw1310349553188785966:=()
noncomputable def tw9777503147354112207:=()
noncomputable def tw10628792052438737717:=()
noncomputable def tw1168787437656130686:=()
noncomputable def tw15799164150305360353:=()
noncomputable def tw7532574787870522040:=()
noncomputable def tw11145826359471585407:=()
noncomputable def tw15141558861955610302:=()
noncomputable def tw713826685873940435:=()
noncomputable def tw11235994224851126958:=()
noncomputable def tw11353373782512054033:=()
noncomputable def tw3009389318551775931:=()
noncomputable def tw5866055746043627798:=()
noncomputable def tw8657216804327202016:=()
noncomputable def tw6152635568353936344:=()
noncomputable def tw13230906263980732061:=()
noncomputable def tw1595392783002045210:=()
noncomputable def tw17387383963217081600:=()
noncomputable def tw7133044733334461849:=()
noncomputable def tw2097119904864982107:=()
noncomputable def tw11557639953375310942:=()
noncomputable def tw4489968623577479266:=()
noncomputable def tw6548688834055518668:=()
noncomputable def tw9267639053430878160:=()
noncomputable def tw7191449576949467167:=()
noncomputable def tw11236900238447341762:=()
noncomputable def tw13045570817739146550:=()
noncomputable def tw12140978939372597157:=()
noncomputable def tw15308017111161350206:=()
noncomputable def tw4211040459866039952:=()
noncomputable def tw10600037668696089571:=()
noncomputable def tw8129161574378665235:=()
noncomputable def tw6157610652294276989:=()
noncomputable def tw13123662996999917427:=()
noncomputable def tw6290528986714667964:=()
noncomputable def tw12409864621928203211:=()
noncomputable def tw294415510488452645:=()
noncomputable def tw13451064818668682736:=()
noncomputable def tw14127968448258723629:=()
noncomputable def tw15815943467632231922:=()
noncomputable def tw14529236067794930667:=()
noncomputable def tw11512868471283168284:=()
noncomputable def tw16207237649584196563:=()
noncomputable def tw5834336208266328811:=()
noncomputable def tw1492224469789342146:=()
noncomputable def tw7286836329142894586:=()
noncomputable def tw16928853625533443307:=()
noncomputable def tw1960711393214450218:=()
noncomputable def tw17771923262410627686:=()
noncomputable def tw310548132152950008:=()
noncomputable def tw15524180889634043586:=()
noncomputable def tw5860681949749435582:=()
noncomputable def tw13182451337375913306:=()
noncomputable def tw11983882303711556213:=()
noncomputable def tw17314918291311829259:=()
noncomputable def tw9410441916967932760:=()
noncomputable def tw18120088632399091654:=()
end PySem.W.Fast
open PySem PySem.W PyProof.Rows
set_option maxRecDepth 100000 in
set_option maxHeartbeats 0 in
theorem PySem.Challenge.cw_rimsteps_k83_pictures_drawn_holds : PySem.Challenge.rw_rimsteps_k83_pictures_drawn.Holds := by
 w_on;o_law;k_head;(case hw=>w_witness2)
 k_fill
 refine RR.walk (l:=PySem.Challenge.rw_rimsteps_k83_pictures_drawn) rfl rfl (λw h Y=>W.kIn_of Y) ?F
 case F =>
  intro w mg fa h KX G hmg
  refine' RR.all_mk KX G hmg (.mk ?a0 ?l0 ?c0 ?k0) (.mk ?a1 ?l1 ?c1 ?k1) (.mk ?a2 ?l2 ?c2 ?k2) (.mk ?a3 ?l3 ?c3 ?k3) (.mk ?a4 ?l4 ?c4 ?k4) (.mk ?a5 ?l5 ?c5 ?k5) (.mk ?a6 ?l6 ?c6 ?k6) (.mk ?a7 ?l7 ?c7 ?k7) (.mk ?a8 ?l8 ?c8 ?k8) (.mk ?a9 ?l9 ?c9 ?k9) (.mk ?a10 ?l10 ?c10 ?k10) ?a11 ?l11 ?c11 ?k11 ?xMS ?xTW ?xNP ?xNT ?xRE ?xEX ?xC1 ?xC7 ?xC8 ?xC2 ?xC3 ?xC4 ?xC5 ?xC6 ?xXR ?xKT ?xKV ?xKP ?xKX ?z_range ?z_len ?z_min ?z_max ?z_int ?z_str ?z_isinstance ?z_list ?z_abs ?z_reversed ?z_ValueError
  (case a0=>k_is)
  (case l0=>k_is)
  (case c0=>k_is)
  (case k0=>k_is)
  (case a1=>k_is)
  (case l1=>k_is)
  (case c1=>k_is)
  (case k1=>k_is)
  (case a2=>k_is)
  (case l2=>k_is)
  (case c2=>k_is)
  (case k2=>k_is)
  (case a3=>k_is)
  (case l3=>k_is)
  (case c3=>k_is)
  (case k3=>k_is)
  (case a4=>k_is)
  (case l4=>k_is)
  (case c4=>k_is)
  (case k4=>k_is)
  (case a5=>k_is)
  (case l5=>k_is)
  (case c5=>k_is)
  (case k5=>k_is)
  (case a6=>k_is)
  (case l6=>k_is)
  (case c6=>k_is)
  (case k6=>k_is)
  (case a7=>k_is)
  (case l7=>k_is)
  (case c7=>k_is)
  (case k7=>k_is)
  (case a8=>k_is)
  (case l8=>k_is)
  (case c8=>k_is)
  (case k8=>k_is)
  (case a9=>k_is)
  (case l9=>k_is)
  (case c9=>k_is)
  (case k9=>k_is)
  (case a10=>k_is)
  (case l10=>k_is)
  (case c10=>k_is)
  (case k10=>k_is)
  (case a11=>k_is)
  (case l11=>k_is)
  (case c11=>k_is)
  (case k11=>k_is)
  (case xMS=>k_is)
  (case xTW=>k_is)
  (case xNP=>k_is)
  (case xNT=>k_is)
  (case xRE=>k_is)
  (case xEX=>k_exc)
  (case xC1=>k_is)
  (case xC7=>k_is)
  (case xC8=>k_is)
  (case xC2=>k_is)
  (case xC3=>k_is)
  (case xC4=>k_is)
  (case xC5=>k_is)
  (case xC6=>k_is)
  (case xXR=>exact rfl)
  (case xKT=>exact rfl)
  (case xKV=>exact rfl)
  (case xKP=>exact rfl)
  (case xKX=>exact rfl)
  (case z_range=>k_is)
  (case z_len=>k_is)
  (case z_min=>k_is)
  (case z_max=>k_is)
  (case z_int=>k_is)
  (case z_str=>k_is)
  (case z_isinstance=>k_is)
  (case z_list=>k_is)
  (case z_abs=>k_is)
  (case z_reversed=>k_is)
  (case z_ValueError=>k_is)

import PyProof.Rows.All
import Wide.All
import OpenK.AllK
import Wide.FinOn
import Lean
import PyProof.EqAt
import PyProof.EqKinds
import PyProof.TupleCall
import PySem.Challenge.RW_rimsteps_k66_thinnings_looked_at
set_option Elab.async false
set_option linter.all false
set_option maxRecDepth 100000
open List renaming getElem?_eq_getElem → Aa,getElem?_eq_some_iff → Ab,length_map → Af,mem_of_getElem? → Ag,length_append → Aj,getD_eq_getElem?_getD → Ak,getElem?_append_left → Am,size_toArray → An,mem_cons_of_mem → Ao,length_take → Aq,range → As,mem_cons → At,getElem?_append_right → Au,map_append → Ax,mem_cons_self → Ay,getElem?_map → Az,mem_append_right → AA,length_drop → AE,mem_map → AL,getElem_of_mem → AM,mem_singleton → AN,length_cons → AO,getElem_mem → AU,map_cons → AW,take_length → AX,replicate → AZ,take_of_length_le → A0,length_range → A4,getElem?_zip_eq_some → A6,lookup_cons → A8,not_mem_nil → A9,mem_append → Ba,length_pos_iff → Bf,length_dropLast → Bn,getElem?_drop → Bq,append_nil → Bt,length_singleton → Bv,getElem?_range → BB,replicate_succ → BK,pairwise_iff_getElem → BM,mem_of_mem_take → BO,length_nil → BR,zip_cons_cons → B2,filterMap_map → B3,nodup_cons → Cb,flatten_cons → Ce,sum_cons → Cn,filterMap_cons_none → Co,filterMap_cons_some → Cp,all_eq_true → Cr,mem_range → Cs,map_map → Cz,find?_cons → CA,length_filter_le → CG,dropLast_eq_take → CH,append_assoc → CI,mem_of_mem_drop → CP,flatten_append → CY,getElem?_take_of_lt → C0,forIn_cons → C4,length_zip → C8,getElem?_take → De
open PySem renaming wpAny_bind → Ac,Value → Ad,Shared → Ae,wpAny_pure → Al,wpAny → Ar,model → Av,mainGlobals → AI,starEach → AJ,Program → AK,Around → AQ,World → A1,wpAny_holding → A7,foldedSetIterable → Bb,wpAny_Call_Name_kw → Bh,wpAny_newObj_type → Bl,Spec → Bo,FuncData → Bs,compareOp → Bu,wpAny_truthy_bool → Bw,wpAny_mono → BG,wpAny_comprehension_free → BN,codeAny → BP,wpAny_loadPart' → BS,mem_of_lookup → BU,keywordEach → BX,wpAny_field → BY,wpAny_passesOwn → B9,wpAny_updateSeq → Cc,compEnvC → Cf,backTo → Ci,wpAny_standAt → Cj,wpAny_callSpecial?_slot → Cq,sysModules → Cv,codeAny_compStart_list → Cy,plainId_quiet → CD,bindArgs → CL,wpAny_seqItems → CM,wpAny_tryCatch → CN,backToKw → CZ,holding → C1,letOwnedTupleGo → C2,codeAny_builtin → C7,assignEach → Db,sliceBounds → Dh
open Nat renaming le_refl → Ah,ne_of_lt → AC,lt_of_lt_of_le → AD,le_trans → AF,zero_le → AV,lt_or_ge → A3,le_add_right → A5,le_of_lt → Bc,not_lt_zero → Cd,lt_irrefl → Ch,le_succ → Cu,add_lt_add_left → CW
open PySem.Heap renaming get?_push_of_some → Ai,lt_size → Ap,get?_push_size → AG,get?_update_other → BJ,get?_update_self → B6,SameBut → CS
open Bool renaming false_ne_true → Aw,and_eq_true → AT,true_and → Bm,false_and → BC,false_eq_true → BH,eq_iff_iff → Ca
open PySem.Value renaming ref → AB,none → CK,bool → C9,type → Da
open PySem.Obj renaming mapSeq → AH
open PySem.Str renaming ofString → AR
open PyProof.Rows renaming callWith_type1 → AS,slot_tuple_getitem → Bi,seqObj → Bp,IntsAre → BV,SortKind → B4,get?_update_seq → C6
open PySem.PassesOwn renaming never → AY
open Option.some renaming inj → A2
open PySem.SeqAt renaming shaped → Bd
open PySem.NameKind renaming free → Be,cell → CC
open Option renaming map_eq_some_iff → Bg,map_some → C3
open PySem.F renaming plainAttrs_list → Bj,plain_min_loop → BA,slot_list_append → BE,type_list_append → BF,plain_extend_loop → B8,slot_zip_next → CF
open PySem.W renaming mg_none_of → Br,nsIn → Ct,fnOf → Cw,kia_one → CB
open Ne renaming symm → By
open False renaming elim → Bz
open PySem.Builtin.SmallTypes renaming ownedTupleIsFree → BD,nextOf → CV
open Lean renaming maxHeartbeats → BI
open PySem.Heap.SameBut renaming update → BL
open PySem.PyData renaming canLayAll0 → BQ,keyHash → B5,depthAll → C5,eqv → Dd
open PySem.Builtin.Builtins renaming bindParams → BW
open True renaming intro → BZ
open PySem.Builtin.Slice renaming slicePlaces → B7,sliceAdjust → CT
open PySem.Around renaming under_plainId → Cg
open PySem.Builtin.Tuple renaming tupleExact → Ck
open PySem.Builtin.List renaming listTooLong → Cm,listExtendWith → CJ
open Int renaming mul_nonneg → CO,eq_ofNat_of_zero_le → Di
open Sum renaming inl → CQ
open Classical renaming byContradiction → CU
open PySem.Calls renaming spliced_cons → Dc
open PySem.Builtin.Range renaming rangeSize → Dg
namespace L2
open PySem PySem.Spec PyProof.Rows
noncomputable abbrev Key:=Sum Int Str
noncomputable def keyIs:Key->Ad->Bool
 |.inl k,v=>Value.isInt k v
 |.inr x,v=>Value.isStrOf x v
noncomputable def keyH(w:A1):Key->Int
 |.inl k=>hashInt k
 |.inr x=>hashStr w x
theorem zaY:∀{k:Key}{v:Ad},keyIs k v=true->(∃i t,k=CQ i/\v=Value.int i t)∨(∃x t,k=Sum.inr x/\v=Value.str x t)
 |.inl i,v,h=>by
  obtain⟨t,e⟩:=Value.isInt_shape (k:=i) (v:=v) h;exact .inl ⟨i,t,rfl,e⟩
 |.inr x,v,h=>by
  obtain⟨t,e⟩:=Value.isStrOf_shape (x:=x) (v:=v) h;exact .inr ⟨x,t,rfl,e⟩
theorem zjv(i:Int)(t:Tok):keyIs (.inl i) (.int i t)=true:=by simp[keyIs,Value.isInt]
theorem zju(x:Str)(t:Tok):keyIs (.inr x) (.str x t)=true:=by simp[keyIs,Value.isStrOf]
theorem zmn(a b:Int):decide ((CQ a:Key)=CQ b)=(a == b):=by
 by_cases e:a=b
 .subst e;simp
 .have h:¬ (CQ a:Key)=CQ b:=λq=>e (Sum.inl.inj q)
  rw[decide_eq_false h];exact (beq_eq_false_iff_ne.mpr e).symm
theorem zmk(a b:Str):decide ((Sum.inr a:Key)=Sum.inr b)=decide (a=b):=by
 by_cases e:a=b
 .subst e;simp
 .have h:¬ (Sum.inr a:Key)=Sum.inr b:=λq=>e (Sum.inr.inj q)
  rw[decide_eq_false h,decide_eq_false e]
theorem zmm(a:Int)(b:Str):decide ((CQ a:Key)=Sum.inr b)=false:=decide_eq_false (λq=>nomatch q)
theorem zml(a:Str)(b:Int):decide ((Sum.inr a:Key)=CQ b)=false:=decide_eq_false (λq=>nomatch q)
noncomputable def za6(prog:AK)(w:A1):PySem.KeyKind prog w Key where
 is:=keyIs
 hash:=keyH w
 inj:=λv a b ha hb=>by
  rcases zaY ha with⟨i,t,rfl,rfl⟩ |⟨x,t,rfl,rfl⟩
  .rcases zaY hb with⟨j,u,rfl,e⟩ |⟨y,u,rfl,e⟩
   .injection e with e1 _;rw[e1]
   .exact nomatch e
  .rcases zaY hb with⟨j,u,rfl,e⟩ |⟨y,u,rfl,e⟩
   .exact nomatch e
   .injection e with e1 _;rw[e1]
 byValue:=λk v h=>by rcases zaY h with⟨i,t,rfl,rfl⟩ |⟨x,t,rfl,rfl⟩ <;> rfl
 pyHash:=λhv h=>by
  rcases zaY hv with⟨i,t,rfl,rfl⟩ |⟨x,t,rfl,rfl⟩
  .exact wpAny_pyHash_int h
  .exact wpAny_pyHash_str h
 eqBool:=λhu hv h=>by
  rcases zaY hu with⟨i,t,rfl,rfl⟩ |⟨x,t,rfl,rfl⟩
  .rcases zaY hv with⟨j,u,rfl,rfl⟩ |⟨y,u,rfl,rfl⟩
   .rw[zmn]at h;exact wpAny_eqBool_int h
   .rw[zmm]at h;exact SeqAt.EqAt.int_str i t y u _ _ _ _ h
  .rcases zaY hv with⟨j,u,rfl,rfl⟩ |⟨y,u,rfl,rfl⟩
   .rw[zml]at h;exact SeqAt.EqAt.str_int x t j u _ _ _ _ h
   .rw[zmk]at h;exact wpAny_eqBool_str h
 «strs»:=λk x t v h=>by
  rcases zaY h with⟨i,u,rfl,e⟩ |⟨y,u,rfl,e⟩
  .exact nomatch e
  .injection e with e1 _;subst e1
   cases v <;> rfl
theorem zgV(prog:AK)(w:A1)(i:Int)(t:Tok):(za6 prog w).is (.inl i) (.int i t)=true:=zjv i t
theorem zcX(prog:AK)(w:A1)(x:Str)(t:Tok):(za6 prog w).is (.inr x) (.str x t)=true:=zju x t
inductive V where
 |non |bl (b:Bool) |int (i:Int) |str (x:Str) |byt (b:Array UInt8) |flt (b:UInt64) |ref (a:Addr) |ty (n:String)
 deriving DecidableEq
noncomputable def RelV:V->Ad->Prop
 |.non,u=>u=CK
 |.bl b,u=>u=C9 b
 |.int i,u=>∃t,u=Value.int i t
 |.str x,u=>∃t,u=Value.str x t
 |.byt b,u=>∃t,u=Value.bytes b t
 |.flt b,u=>∃t,u=Value.float b t
 |.ref a,u=>u=AB a
 |.ty n,u=>u=Da n
noncomputable abbrev Vals:List V->List Ad->Prop:=Paired RelV
theorem Vals.length{xs:List V}{us:List Ad}(r:Vals xs us):xs.length=us.length:=Paired.length r
theorem Vals.get:∀{xs:List V}{us:List Ad}{i:Nat}{x:V},Vals xs us->xs[i]?=some x->∃u,us[i]?=some u/\RelV x u
 |_,_,_,_,.nil,e=>by simp at e
 |_,_,0,_,.cons r _,e=>by simp at e;subst e;exact⟨_,rfl,r⟩
 |_,_,i+1,x,.cons _ t,e=>by
  obtain⟨u,h1,h2⟩:=Vals.get (i:=i) (x:=x) t (by simpa using e);exact⟨u,by simpa using h1,h2⟩
theorem Vals.set{x:V}{u:Ad}(r:RelV x u):∀{xs:List V}{us:List Ad}(i:Nat),Vals xs us->Vals (xs.set i x) (us.set i u)
 |_,_,_,.nil=>.nil
 |_,_,0,.cons _ t=>.cons r t
 |_,_,i+1,.cons q t=>.cons q (Vals.set r i t)
theorem Vals.append:∀{xs ys:List V}{us ws:List Ad},Vals xs us->Vals ys ws->Vals (xs++ys) (us++ws)
 |_,_,_,_,.nil,s=>s
 |_,_,_,_,.cons r t,s=>.cons r (Vals.append t s)
theorem Vals.take:∀{xs:List V}{us:List Ad}(n:Nat),Vals xs us->Vals (xs.take n) (us.take n)
 |_,_,0,_=>.nil
 |_,_,_+1,.nil=>.nil
 |_,_,n+1,.cons r t=>.cons r (Vals.take n t)
theorem Vals.drop:∀{xs:List V}{us:List Ad}(n:Nat),Vals xs us->Vals (xs.drop n) (us.drop n)
 |_,_,0,r=>r
 |_,_,_+1,.nil=>.nil
 |_,_,n+1,.cons _ t=>Vals.drop n t
noncomputable def RelO:Option V->Option Ad->Prop
 |some v,some u=>RelV v u
 |none,none=>True
 |_,_=>False
noncomputable def KV{κ:Type}:List (κ×V)->List (κ×Ad)->Prop:=Paired λ(p:κ×V) (q:κ×Ad)=>p.1=q.1/\RelV p.2 q.2
noncomputable def kV:Key->V
 |.inl i=>.int i
 |.inr x=>.str x
inductive HO where
 /-- a list -/
 |lst (xs:List V)
 /-- a tuple (never changes) -/
 |tup (xs:List V)
 /-- a dict whose keys are ints and texts;one whose keys are tuples of ints and texts (the empty one is both) -/
 |dK (kvs:List (Key×V)) |dT (kvs:List (List Key×V))
 /-- a set of ints: its members,its size -/
 |set (S:Int->Bool) (n:Nat)
 /-- an instance of the class at C,its dict at dx,its attributes -/
 |ins (C dx:Addr) (fs:List (Str×V))
 /-- the dict of the instance at x -/
 |own (x:Addr)
 /-- the dict of an exception -/
 |xd (fs:List (Str×V))
 /-- a bound method,f of x -/
 |met (f x:Addr)
 /-- a range object lo,lo+1,.. below hi -/
 |rng (lo hi:Int)
 /-- a thing that is known to the object (the script;a dict while a loop walks it): read,never written while it is so -/
 |frz (o:Obj) (u:HO)
 /-- a code object's table -/
 |tbl (ps:Array Ad)
 /-- any other thing,by what is true of its one object (a def of one's own: SetO a S n:=HO.ext λh=>..) -/
 |ext (φ:Heap->Prop)
noncomputable abbrev Hp:=Addr->Option HO
noncomputable def upd(H:Hp)(a:Addr)(o:HO):Hp:=λb=>if b=a then some o else H b
theorem zaa{H:Hp}{a:Addr}{o:HO}:upd H a o a=some o:=by unfold upd;rw[if_pos rfl]
theorem zam{H:Hp}{a b:Addr}{o:HO}(h:b≠a):upd H a o b=H b:=by unfold upd;rw[if_neg h]
theorem zk5{H:Hp}{a:Addr}{o u:HO}:upd (upd H a o) a u=upd H a u:=by
 funext b;unfold upd;split <;> rfl
theorem ne_of{H:Hp}{a b:Addr}{o u:HO}(h:H a=some o)(h':H b=some u)(d:o≠u):a≠b:=by intro e;subst e;rw[h]at h';exact d (A2 h')
theorem zao{H:Hp}{a b:Addr}{o:HO}(h:H a=some o)(h':H b=none):a≠b:=by intro e;subst e;rw[h]at h';cases h'
section
variable (P:AK) (w:A1)
noncomputable def ObjOk(H:Hp)(h:Heap)(a:Addr):HO->Prop
  |.lst xs=>xs.length<=sizeLine/\∃(its:List Ad) (n:Nat),Vals xs its/\h.get? a=some { cls:=.type "list",data:=.seq its.toArray n }
  |.tup xs=>xs.length<=sizeLine/\∃its:List Ad,Vals xs its/\IsTup h a its.toArray
  |.dK kvs=>kvs.length<=sizeLine/\(a == Cv)=false/\∃vs,KV kvs vs/\h.DictOf (za6 P w) a vs
  |.dT kvs => kvs.length <= sizeLine /\ (a == Cv)=false /\ ∃xs:List (List Key × Addr × Ad),
      Paired (λ(p:List Key×V) (q:List Key×Addr×Ad)=>p.1=q.1/\H q.2.1=some (.tup (p.1.map kV))/\RelV p.2 q.2.2) kvs xs /\
      ∃o es ep,h.get? a=some o/\o.ExactDict/\o.data=.dict es ep/\es.toList=xs.map (entryOfKey (tupleKind (za6 P w)))/\(xs.map (·.1)).Nodup
  |.set S n=>h.SetOf (intKind P w) a S n
  |.ins C dx fs => H dx=some (.own a) /\ fs.length <= 1000 /\ dx ≠ a /\ h.get? a=some (W.instObj C dx) /\
      ∃mA,h.Ns1 dx mA/\(∀f,RelO (fs.lookup f) (mA f))/\PySem.Within mA (fs.map (·.1))
  |.own _=>∃o,h.get? a=some o
  |.xd fs=>∃mA,h.Ns1 a mA/\∀f,RelO (fs.lookup f) (mA f)
  |.rng lo hi=>∃t u v,h.get? a=some { cls:=.type "range",data:=.fields #[.int lo t,.int hi u,.int 1 v] }
  |.frz o u=>h.get? a=some o/\ObjOk H h a u
  |.tbl ps=>h.get? a=some { cls:=.none,data:=.fields ps }
  |.met f x=>h.get? a=some (W.methodObj (.ref f) (.ref x))
  |.ext φ=>φ h/\(∃o,h.get? a=some o)/\∀h1 h2:Heap,φ h1->(∀o,h1.get? a=some o->h2.get? a=some o)->φ h2
noncomputable def HOk(H:Hp)(h:Heap):Prop:=∀a o,H a=some o->ObjOk P w H h a o
end
section
variable {P:AK}{w:A1}{H H':Hp}{h h':Heap}{a:Addr}{o:HO}
theorem ObjOk.lt(x:ObjOk P w H h a o):a<h.objs.size:=by
 cases o with
 |lst xs=>obtain⟨_,_,_,_,e⟩:=x;exact Ap e
 |tup xs=>obtain⟨_,_,_,p⟩:=x;exact p.lt
 |dK kvs=>obtain⟨_,_,_,_,o,_,_,e,_⟩:=x;exact Ap e
 |dT kvs=>obtain⟨_,_,_,_,o,_,_,e,_⟩:=x;exact Ap e
 |set S n=>obtain⟨o,_,_,_,e,_⟩:=x;exact Ap e
 |ins C dx fs=>obtain⟨_,_,_,e,_⟩:=x;exact Ap e
 |own y=>obtain⟨_,e⟩:=x;exact Ap e
 |xd fs=>obtain⟨_,⟨_,_,_,e,_⟩,_⟩:=x;exact Ap e
 |rng lo hi=>obtain⟨_,_,_,e⟩:=x;exact Ap e
 |frz ob u=>obtain⟨e,_⟩:=x;exact Ap e
 |tbl ps=>exact Ap (show h.get? a=some _ from x)
 |met f y=>exact Ap (show h.get? a=some _ from x)
 |ext φ=>obtain⟨_,⟨_,e⟩,_⟩:=x;exact Ap e
theorem Paired.mapP{α β:Type}{F G:α->β->Prop}:∀{l₁:List α}{l₂:List β},Paired F l₁ l₂->(∀a b,F a b->G a b)->Paired G l₁ l₂
 |_,_,.nil,_=>.nil
 |_,_,.cons r t,f=>.cons (f _ _ r) (Paired.mapP t f)
theorem ObjOk.stay(x:ObjOk P w H h a o)(k:∀b u, (b=a ∨ H b=some (.own a)) -> h.get? b=some u -> h'.get? b=some u)
  (ho:∀b,H b=some (.own a)->H' b=some (.own a)) (ht:∀b xs,H b=some (.tup xs)->H' b=some (.tup xs)):ObjOk P w H' h' a o:=by
 induction o with
 |lst xs=>obtain⟨z,its,n,r,e⟩:=x;exact⟨z,its,n,r,k _ _ (.inl rfl) e⟩
 |tup xs=>obtain⟨z,its,r,ob,e,c⟩:=x;exact⟨z,its,r,ob,k _ _ (.inl rfl) e,c⟩
 |dK kvs=>obtain⟨z,y,vs,r,ob,es,ep,e,c⟩:=x;exact⟨z,y,vs,r,ob,es,ep,k _ _ (.inl rfl) e,c⟩
 |dT kvs =>
  obtain⟨z,y,xs,r,ob,es,ep,e,c⟩:=x;exact⟨z,y,xs,Paired.mapP r λp q z=>⟨z.1,ht _ _ z.2.1,z.2.2⟩,ob,es,ep,k _ _ (.inl rfl) e,c⟩
 |set S n=>obtain⟨ob,es,ep,t,e,c⟩:=x;exact⟨ob,es,ep,t,k _ _ (.inl rfl) e,c⟩
 |ins C dx fs =>
  obtain⟨d,z,ne,e,mA,⟨od,es,ep,e2,c⟩,r⟩:=x;exact⟨ho _ d,z,ne,k _ _ (.inl rfl) e,mA,⟨od,es,ep,k _ _ (.inr d) e2,c⟩,r⟩
 |own y=>obtain⟨ob,e⟩:=x;exact⟨ob,k _ _ (.inl rfl) e⟩
 |xd fs=>obtain⟨mA,⟨od,es,ep,e,c⟩,r⟩:=x;exact⟨mA,⟨od,es,ep,k _ _ (.inl rfl) e,c⟩,r⟩
 |rng lo hi=>obtain⟨t,u,v,e⟩:=x;exact⟨t,u,v,k _ _ (.inl rfl) e⟩
 |frz ob u ih=>obtain⟨e,q⟩:=x;exact⟨k _ _ (.inl rfl) e,ih q⟩
 |tbl ps =>
  have e:h.get? a=some { cls:=.none,data:=.fields ps }:=x;show h'.get? a=some { cls:=.none,data:=.fields ps };exact k a _ (.inl rfl) e
 |met f y =>
  have e:h.get? a=some (W.methodObj (.ref f) (.ref y)):=x;show h'.get? a=some (W.methodObj (.ref f) (.ref y));exact k a _ (.inl rfl) e
 |ext φ=>obtain⟨p,⟨o,e⟩,st⟩:=x;exact⟨st _ _ p λo q=>k _ _ (.inl rfl) q,⟨o,k _ _ (.inl rfl) e⟩,st⟩
theorem HOk.lt(x:HOk P w H h)(e:H a=some o):a<h.objs.size:=(x a o e).lt
theorem HOk.fresh(x:HOk P w H h)(e:h.objs.size<=a):H a=none:=by
 cases q:H a with
 |none=>rfl
 |some u=>exact absurd (AD (x.lt q) e) (Ch _)
theorem HOk.kept(x:HOk P w H h)(k:∀b u,h.get? b=some u->h'.get? b=some u):HOk P w H h':=λa o e =>
 (x a o e).stay (λb u _ q=>k b u q) (λ_ q=>q) λ_ _ q=>q
theorem HOk.laid(x:HOk P w H h)(k:∀b u,h.get? b=some u->h'.get? b=some u)(hp:h.objs.size<=a)(new:ObjOk P w (upd H a o) h' a o):HOk P w (upd H a o) h':=λb u e=>by
 have hn:=x.fresh hp
 by_cases hb:b=a
 .subst hb;rw[zaa]at e;cases e;exact new
 .rw[zam hb]at e;exact (x b u e).stay (λc v _ q=>k c v q) (λc q=>by rw[zam (zao q hn)];exact q) λc xs q=>by rw[zam (zao q hn)];exact q
end
noncomputable def Rd(H:Hp)(a:Addr)(u:HO):Prop:=H a=some u∨∃o,H a=some (.frz o u)
theorem Rd.of{H:Hp}{a:Addr}{u:HO}(h:H a=some u):Rd H a u:=.inl h
theorem Rd.ok{P:AK}{w:A1}{H:Hp}{h:Heap}{a:Addr}{u:HO}(r:Rd H a u)(x:HOk P w H h):ObjOk P w H h a u:=by
 rcases r with r |⟨o,r⟩
 .exact x a u r
 .obtain⟨_,q⟩:=x a _ r;exact q
noncomputable def Mut:Option HO->Prop
 |some (.lst _)=>True
 |some (.dK _)=>True
 |some (.dT _)=>True
 |some (.set _ _)=>True
 |some (.ins _ _ _)=>True
 |some (.ext _)=>True
 |_=>False
section
variable {P:AK}{w:A1}{H:Hp}{h h':Heap}{x e:Addr}{o':HO}
theorem HOk.write(ok:HOk P w H h)(mu:Mut (H x))(he:e=x ∨ H e=some (.own x))(k:∀b u, b ≠ e -> h.get? b=some u -> h'.get? b=some u)(heo:∃u, h'.get? e=some u)
  (new:ObjOk P w (upd H x o') h' x o'):HOk P w (upd H x o') h':=λb u q=>by
 have nown:∀c y,H c=some (.own y)->c≠x:=λc y r z=>by subst z;rw[r]at mu;exact mu
 have ntup:∀c xs,H c=some (.tup xs)->c≠x:=λc xs r z=>by subst z;rw[r]at mu;exact mu
 by_cases hb:b=x
 .subst hb;rw[zaa]at q;cases q;exact new
 .rw[zam hb]at q
  by_cases hbe:b=e
  .have q':H b=some (.own x) := by
    rcases he with z |z
    .exact absurd (hbe.trans z) hb
    .rw[hbe];exact z
   rw[q]at q';cases q';obtain⟨v,hv⟩:=heo;exact⟨v,by rw[hbe];exact hv⟩
  .refine (ok b u q).stay (λc v hc r=>k c v ?_ r) (λc r=>by rw[zam (nown c b r)];exact r) λc xs r=>by rw[zam (ntup c xs r)];exact r
   rcases hc with rfl |hc
   .exact hbe
   .rintro rfl;rcases he with z |z
    .exact nown c b hc z
    .rw[hc]at z;cases z;exact hb rfl
end
structure Un (fs ex:List Addr) (H H':Hp) (h h':Heap):Prop where
 keep:∀b o,h.get? b=some o->H b=none->b ∉ fs->b ∉ ex->h'.get? b=some o
 slot:∀b o,h.get? b=some o->H b=none->b∈fs->b ∉ ex->∃sl,h'.get? b=some { o with slots:=sl }
 free:∀b o,h.get? b=some o->H b=none->b ∉ ex->H' b=none
 there:∀b o,h.get? b=some o->b ∉ ex->∃o',h'.get? b=some o'
 tups:∀b xs,H b=some (.tup xs)->H' b=some (.tup xs)
 frzs:∀b o u,H b=some (.frz o u)->H' b=some (.frz o u)
 tbls:∀b ps,H b=some (.tbl ps)->∃more,H' b=some (.tbl (ps++more))
section
variable {fs fs' ex ex':List Addr}{H H1 H2:Hp}{h h1 h2 h':Heap}{a x e:Addr}{o:HO}
theorem Un.any(u:Un fs ex H H1 h h1){b:Addr}{ob:Obj}(q:h.get? b=some ob)(n:H b=none)(hx:b ∉ ex):∃sl,h1.get? b=some { ob with slots:=sl }:=by
 by_cases hb:b∈fs
 .exact u.slot b ob q n hb hx
 .exact⟨ob.slots,u.keep b ob q n hb hx⟩
theorem Un.kept(k:∀b u,h.get? b=some u->h'.get? b=some u):Un fs ex H H h h' :=
 ⟨λb ob q _ _ _=>k b ob q,λb ob q _ _ _=>⟨ob.slots,k b ob q⟩,λ_ _ _ n _=>n,λb ob q _=>⟨ob,k b ob q⟩,λ_ _ q=>q,λ_ _ _ q=>q,λ_ ps q=>⟨#[],by rw[q];simp⟩⟩
theorem Un.refl:Un fs ex H H h h:=Un.kept λ_ _ q=>q
theorem Un.laid(k:∀b u,h.get? b=some u->h'.get? b=some u)(hp:h.objs.size<=a)(hn:H a=none):Un fs ex H (upd H a o) h h' where
 keep:=λb u q _ _ _=>k b u q
 slot:=λb u q _ _ _=>⟨u.slots,k b u q⟩
 free:=λb u q n _=>by rw[zam (AC (AD (Ap q) hp))];exact n
 there:=λb u q _=>⟨u,k b u q⟩
 tups:=λb xs q=>by rw[zam (zao q hn)];exact q
 frzs:=λb u xs q=>by rw[zam (zao q hn)];exact q
 tbls:=λb ps q=>⟨#[],by rw[zam (zao q hn),q];simp⟩
theorem Un.write(mu:Mut (H x))(he:e=x∨H e=some (.own x))(k:∀b u,b≠e->h.get? b=some u->h'.get? b=some u)(heo:∃u,h'.get? e=some u):Un fs ex H (upd H x o) h h':=by
 have hx:∀b,H b=none->b≠x:=λb n z=>by subst z;rw[n]at mu;exact mu
 have hb:∀b,H b=none->b≠e:=λb n z=>by
  subst z;rcases he with r |r
  .exact hx b n r
  .rw[n]at r;cases r
 have hm:∀b u,H b=some u->¬ Mut (some u)->b≠x:=λb u q nm z=>by subst z;rw[q]at mu;exact nm mu
 refine⟨λb u q n _ _=>k b u (hb b n) q,λb u q n _ _=>⟨u.slots,k b u (hb b n) q⟩,λb u q n _=>by rw[zam (hx b n)];exact n,λb u q _=>?_,
  λb xs q=>by rw[zam (hm b _ q λz=>z)];exact q,λb u xs q=>by rw[zam (hm b _ q λz=>z)];exact q,λb ps q=>⟨#[],by rw[zam (hm b _ q λz=>z),q];simp⟩⟩
 by_cases hbe:b=e
 .subst hbe;exact heo
 .exact⟨u,k b u hbe q⟩
end
noncomputable def trk(h:Heap)(H:Hp):List Addr:=(As h.objs.size).filter λa=>(H a).isSome
noncomputable def hidT(h:Heap)(H:Hp):Heap:=W.hideAll h (trk h H)
theorem zjA(h:Heap)(H:Hp):(hidT h H).objs.size=h.objs.size:=W.hideAll_size _ _
theorem zku{h:Heap}{H:Hp}{b:Addr}{o:Obj}(e:h.get? b=some o)(n:H b=none):(hidT h H).get? b=some o :=
 W.hideAll_get _ e λhm=>by have q:(H b).isSome=true:=(List.mem_filter.mp hm).2;rw[n]at q;simp at q
theorem zlw{h:Heap}{H:Hp}{b:Addr}{o:Obj}(e:(hidT h H).get? b=some o):h.get? b=some o/\H b=none:=by
 have e':h.get? b=some o:=W.of_hideAll (trk h H) e;refine⟨e',?_⟩
 cases q:H b with
 |none=>rfl
 |some x =>
  have hm:b∈trk h H:=List.mem_filter.mpr ⟨List.mem_range.mpr (Ap e'),by simp[q]⟩;have z:(hidT h H).get? b=none:=W.hideAll_none (trk h H) hm;rw[z]at e;cases e
noncomputable def zlT(g h:Heap)(L:Addr):List (Addr×Obj):=(As h.objs.size).filterMap λa=>if a=L∨(g.get? a).isSome=true then none else (h.get? a).map λo=>(a,o)
noncomputable def rest(g h:Heap)(L d:Addr):List (Addr×Obj):=(zlT g h L).filter λp=>decide (p.1≠d)
structure Mod (K:W.Frag) (mg:Str->Option Ad) (base:Heap):Prop where
 kin:K.In base
 glob:base.Ns AI mg
 blt:∃mb,base.Ns builtinsNs mb/\∀x:Str,x ≠ "__name__" -> mb x=bootBuiltins x
 nolimit:base.NoLimit
structure Cx where
 prog:AK
 w:A1
 K:W.Frag
 mg:Str->Option Ad
 base:Heap
 A:AQ
 N:List Str
 s₀:Ae
 H₀:Hp
 env:Env
 outer:List Env
 stack:List Env
 ex:List Addr
 fn:Str->Bool
 calm:Bool
 pn:List (Addr×Obj)
 xe:Ad->Ae->Prop
noncomputable def frs(l:List Env):List Addr:=l.filterMap (·.frame)
noncomputable abbrev Cx.fs(X:Cx):List Addr:=frs X.outer
noncomputable def Vis(sc:Scope)(x:Str):Prop:=sc.names.lookup x=some .local∨sc.names.lookup x=some .cell∨sc.names.lookup x=some .free
noncomputable def Loc(sc:Scope)(x:Str):Prop:=sc.names.lookup x=some .local∨sc.names.lookup x=some .cell
noncomputable def Look(env:Env)(h:Heap)(m:Str->Option Ad)(x:Str)(u:Ad):Prop :=
 (env.kindOf x=some .local/\m x=some u)∨((env.kindOf x=some .cell∨env.kindOf x=some .free)/\∃c,env.cells.lookup x=some c/\h.IsCell c (some u))
structure Cx.Ok (X:Cx):Prop where
 mod:Mod X.K X.mg X.base
 kind:X.env.scope.kind=.function
 glob:X.env.globals=AI
 blt:X.env.builtins=builtinsNs
 above:X.s₀.heap.objs.size<=X.env.locals
 inj:∀x y c,X.env.cells.lookup x=some c->X.env.cells.lookup y=some c->x=y
 has:∀x,(X.env.kindOf x=some .cell∨X.env.kindOf x=some .free)->∃c,X.env.cells.lookup x=some c
 cab:∀x c,X.fn x=true->X.env.cells.lookup x=some c->X.s₀.heap.objs.size<=c
 hd:X.calm=true->X.A.handled=none
 frames:X.A.frames=some X.stack
 stk:X.stack=X.outer∨(X.stack=X.env::X.outer/\X.env.frame=some X.env.locals)
 exf:∀b∈X.ex,b≠X.env.locals/\∀x c,X.env.cells.lookup x=some c->c≠b
 bs:∀b o,X.base.get? b=some o->X.s₀.heap.get? b=some o/\X.H₀ b=none
 bsz:X.base.objs.size<=X.s₀.heap.objs.size
 noex:∀b o,X.base.get? b=some o->b ∉ X.ex
 exfs:∀b∈X.ex,b ∉ X.fs
 funs:X.s₀.heap.FunFrames X.base X.outer
 frf:∀b∈X.fs,X.H₀ b=none
structure Inv (X:Cx) (pins:List (Addr×Obj)) (σ:List (Option V)) (H:Hp) (s:Ae):Prop where
 ok:X.Ok
 os:s.os=X.s₀.os
 bare:AllBare s.gens
 base:Un X.fs X.ex X.H₀ H X.s₀.heap s.heap
 loc:∃m,s.heap.Ns X.env.locals m/\∀(i:Nat) (x:Str) (v:V),X.N[i]?=some x->σ[i]?=some (some v)->Vis X.env.scope x->∃u,RelV v u/\Look X.env s.heap m x u
 cell:∀x c,X.env.cells.lookup x=some c->∃v,s.heap.IsCell c v
 free:H X.env.locals=none
 freeC:∀x c,X.env.cells.lookup x=some c->H c=none
 pin:∀p∈X.pn++pins,s.heap.get? p.1=some p.2/\H p.1=none/\p.1≠X.env.locals/\p.1 ∉ X.fs/\∀v,p.2.data≠.cell v
 hok:HOk X.prog X.w H s.heap
 len:σ.length=X.N.length
section
variable {X:Cx}{pins:List (Addr×Obj)}{σ:List (Option V)}{H H':Hp}{s:Ae}{h':Heap}
theorem Cx.Ok.nofr(ok:X.Ok){b:Addr}{o:Obj}(e:X.base.get? b=some o):b ∉ X.fs:=λhb=>by have:=(ok.funs.mem hb).1;rw[e]at this;cases this
theorem Inv.bs(I:Inv X pins σ H s):∀b o,X.base.get? b=some o->s.heap.get? b=some o/\H b=none:=λb o e =>
 ⟨I.base.keep b o (I.ok.bs b o e).1 (I.ok.bs b o e).2 (I.ok.nofr e) (I.ok.noex b o e),I.base.free b o (I.ok.bs b o e).1 (I.ok.bs b o e).2 (I.ok.noex b o e)⟩
theorem Inv.bk(I:Inv X pins σ H s):∀b o,X.base.get? b=some o->s.heap.get? b=some o:=λb o e=>(I.bs b o e).1
theorem Inv.mod(I:Inv X pins σ H s):Mod X.K X.mg X.base:=I.ok.mod
theorem Inv.kIn(I:Inv X pins σ H s):X.K.In s.heap:=I.ok.mod.kin.keeps I.bk
theorem Inv.lt(I:Inv X pins σ H s):X.env.locals<s.heap.objs.size:=let ⟨_,hn,_⟩:=I.loc;hn.lt
theorem Inv.sz(I:Inv X pins σ H s):X.s₀.heap.objs.size<=s.heap.objs.size:=AF I.ok.above (Bc I.lt)
theorem Inv.nofs(I:Inv X pins σ H s){a:Addr}(h:s.heap.objs.size<=a):a ∉ X.fs:=λhb=>by obtain⟨_,o,ho,_⟩:=I.ok.funs.mem hb;exact absurd (AD (Ap ho) (AF I.sz h)) (Ch _)
theorem Inv.cne(I:Inv X pins σ H s):∀x c,X.env.cells.lookup x=some c->c≠X.env.locals:=λx c e z=>by obtain⟨v,o,ho,hd⟩:=I.cell x c e;obtain⟨m,⟨o',es,ep,ho',hd',_⟩,_⟩:=I.loc;rw[z,ho']at ho;cases ho;rw[hd']at hd;cases hd
theorem Inv.funs(I:Inv X pins σ H s):s.heap.FunFrames X.base X.outer:=by
 have all:∀(l:List Env),(∀b∈frs l,b∈X.fs)->X.s₀.heap.FunFrames X.base l->s.heap.FunFrames X.base l:=by
  intro l
  induction l with
  |nil=>intro _ _;trivial
  |cons env r ih =>
   intro hs hl;obtain⟨hk,⟨L,o,hf,hn,ho,hd⟩,hr⟩:=hl;have hL:L∈X.fs:=hs L (by unfold frs;rw[List.filterMap_cons,hf];exact Ay);obtain⟨sl,e⟩:=I.base.slot L o ho (I.ok.frf L hL) hL λz=>I.ok.exfs L z hL
   exact⟨hk,⟨L,_,hf,hn,e,hd⟩,ih (λb hb=>hs b (by unfold frs;rw[List.filterMap_cons,hf];exact Ao _ hb)) hr⟩
 exact all X.outer (λ_ hb=>hb) I.ok.funs
theorem Inv.stack(I:Inv X pins σ H s):s.heap.FunFrames X.base X.stack:=by
 rcases I.ok.stk with e |⟨e,hf⟩
 .rw[e];exact I.funs
 .rw[e];obtain⟨m,hn,_⟩:=I.loc;refine .cons (by rw[I.ok.kind];decide) hf hn ?_ I.funs;exact Heap.get?_none_of_le (AF I.ok.bsz I.ok.above)
theorem Inv.stkSub(I:Inv X pins σ H s):∀b∈frs X.stack,b∈X.env.locals::X.fs:=λb hb=>by
 rcases I.ok.stk with e |⟨e,hf⟩
 .rw[e]at hb;exact Ao _ hb
 .rw[e]at hb;unfold frs at hb;rw[List.filterMap_cons,hf]at hb;exact hb
theorem Inv.stkFree(I:Inv X pins σ H s):∀b∈frs X.stack,H b=none:=λb hb=>by
 rcases At.mp (I.stkSub b hb) with e |hb
 .rw[e];exact I.free
 .obtain⟨_,o,ho,_⟩:=I.ok.funs.mem hb;exact I.base.free b o ho (I.ok.frf b hb) λz=>I.ok.exfs b z hb
theorem Inv.step{g':Array GenState}{t':Nat}{d':Drawn}{ch:List Addr}(I:Inv X pins σ H s)
  (hch:∀b∈ch,(b∈X.ex∨X.s₀.heap.objs.size<=b)/\b≠X.env.locals/\(∀x c,X.env.cells.lookup x=some c->c≠b)/\∀p∈X.pn++pins,p.1≠b)
  (keep:∀b o,b≠X.env.locals->b ∉ X.fs->b ∉ ch->s.heap.get? b=some o->H b=none->h'.get? b=some o)
  (slot:∀b o,b≠X.env.locals->b∈X.fs->b ∉ ch->s.heap.get? b=some o->H b=none->∃sl,h'.get? b=some { o with slots:=sl }) (free:∀b o,b ∉ ch->s.heap.get? b=some o->H b=none->H' b=none)
  (there:∀b o,b ∉ ch->s.heap.get? b=some o->∃o',h'.get? b=some o')
  (tups:∀b xs,H b=some (.tup xs)->H' b=some (.tup xs)) (frzs:∀b o u,H b=some (.frz o u)->H' b=some (.frz o u)) (tbls:∀b ps,H b=some (.tbl ps)->∃more,H' b=some (.tbl (ps++more)))
  (ns:∀m,s.heap.Ns X.env.locals m->h'.Ns X.env.locals m) (hok:HOk X.prog X.w H' h') (hg:AllBare g') :
  Inv X pins σ H' { s with heap:=h',gens:=g',drawn:=d',toks:=t' }:=by
 have neL:∀b o,X.s₀.heap.get? b=some o->b≠X.env.locals:=λb o e=>AC (AD (Ap e) I.ok.above)
 have neC:∀b o,X.s₀.heap.get? b=some o->b ∉ X.ex->b ∉ ch:=λb o e hx hb=>by
  rcases (hch b hb).1 with z |z
  .exact hx z
  .exact absurd (AD (Ap e) z) (Ch _)
 have cellK:∀x c,X.env.cells.lookup x=some c->∀v,s.heap.IsCell c v->h'.IsCell c v:=λx c e v ⟨o,ho,hd⟩=>by
  have nch:c ∉ ch:=λz=>(hch c z).2.2.1 x c e rfl
  by_cases hc:c∈X.fs
  .obtain⟨sl,q⟩:=slot c o (I.cne x c e) hc nch ho (I.freeC x c e);exact⟨_,q,hd⟩
  .exact⟨o,keep c o (I.cne x c e) hc nch ho (I.freeC x c e),hd⟩
 refine⟨I.ok,I.os,hg,⟨λb o e n hb hx=>?_,λb o e n hb hx=>?_,λb o e n hx=>?_,λb o e hx=>?_,λb xs e=>tups b xs (I.base.tups b xs e),λb o xs e=>frzs b o xs (I.base.frzs b o xs e),λb ps e=>?_⟩,?_,λx c e=>?_,?_,λx c e=>?_,λp hp=>?_,hok,I.len⟩
 .exact keep b o (neL b o e) hb (neC b o e hx) (I.base.keep b o e n hb hx) (I.base.free b o e n hx)
 .obtain⟨sl,e1⟩:=I.base.slot b o e n hb hx;obtain⟨sl',e2⟩:=slot b _ (neL b o e) hb (neC b o e hx) e1 (I.base.free b o e n hx);exact⟨sl',e2⟩
 .obtain⟨o',e1⟩:=I.base.there b o e hx;exact free b o' (neC b o e hx) e1 (I.base.free b o e n hx)
 .obtain⟨o',e1⟩:=I.base.there b o e hx;exact there b o' (neC b o e hx) e1
 .obtain⟨m1,e1⟩:=I.base.tbls b ps e;obtain⟨m2,e2⟩:=tbls b _ e1;exact⟨m1++m2,by rw[e2,Array.append_assoc]⟩
 .obtain⟨m,hn,hl⟩:=I.loc;refine⟨m,ns m hn,λi x v e1 e2 e3=>?_⟩;obtain⟨u,r,l⟩:=hl i x v e1 e2 e3;refine⟨u,r,?_⟩;rcases l with l |⟨k,c,e,z⟩
  .exact .inl l
  .exact .inr ⟨k,c,e,cellK x c e _ z⟩
 .obtain⟨v,z⟩:=I.cell x c e;exact⟨v,cellK x c e v z⟩
 .obtain⟨m,⟨o,_,_,ho,_⟩,_⟩:=I.loc;exact free _ o (λz=>(hch _ z).2.1 rfl) ho I.free
 .obtain⟨v,o,ho,hd⟩:=I.cell x c e;exact free c o (λz=>(hch c z).2.2.1 x c e rfl) ho (I.freeC x c e)
 .obtain⟨e,n,ne,nf,d⟩:=I.pin p hp;have nch:p.1 ∉ ch:=λz=>(hch p.1 z).2.2.2 p hp rfl
  exact⟨keep p.1 p.2 ne nf nch e n,free p.1 p.2 nch e n,ne,nf,d⟩
theorem Inv.un{t':Nat}(I:Inv X pins σ H s)(u:Un X.fs [] H H' s.heap h')(hok:HOk X.prog X.w H' h'):Inv X pins σ H' { s with heap:=h',toks:=t' }:=by
 obtain⟨m,⟨o,es,ep,ho,r⟩,_⟩:=id I.loc;obtain⟨sl,hL⟩:=u.any ho I.free (by simp)
 exact I.step (g':=s.gens) (d':=s.drawn) (ch:=[]) (λ_ z=>nomatch z) (λb o _ hb _ e n=>u.keep b o e n hb (by simp)) (λb o _ hb _ e n=>u.slot b o e n hb (by simp)) (λb o _ e n=>u.free b o e n (by simp)) (λb o _ e=>u.there b o e (by simp)) u.tups u.frzs u.tbls (λm' hm=>by obtain⟨o',es',ep',ho',r'⟩:=hm;rw[ho]at ho';cases ho';exact⟨_,es',ep',hL,r'⟩) hok I.bare
theorem Inv.call{g':Array GenState}{t':Nat}{d':Drawn}{ch:List Addr}(I:Inv X pins σ H s)(u:Un (frs X.stack) ch H H' s.heap h')(hok:HOk X.prog X.w H' h')(hg:AllBare g')
  (hch:∀b∈ch,(b∈X.ex∨X.s₀.heap.objs.size<=b)/\b≠X.env.locals/\(∀x c,X.env.cells.lookup x=some c->c≠b)/\∀p∈X.pn++pins,p.1≠b) :
  Inv X pins σ H' { s with heap:=h',gens:=g',drawn:=d',toks:=t' }:=by
 obtain⟨m,⟨o,es,ep,ho,r⟩,_⟩:=id I.loc;obtain⟨sl,hL⟩:=u.any ho I.free λz=>(hch _ z).2.1 rfl
 exact I.step (ch:=ch) hch (λb o hL hb hc e n=>u.keep b o e n (λz=>(At.mp (I.stkSub b z)).elim hL hb) hc) (λb o _ _ hc e n=>u.any e n hc) (λb o hc e n=>u.free b o e n hc) (λb o hc e=>u.there b o e hc) u.tups u.frzs u.tbls (λm' hm=>by obtain⟨o',es',ep',ho',r'⟩:=hm;rw[ho]at ho';cases ho';exact⟨_,es',ep',hL,r'⟩) hok hg
theorem Inv.turned{t':Nat}{it:Addr}(I:Inv X pins σ H s)(k:∀b o, b ≠ it -> s.heap.get? b=some o -> h'.get? b=some o)(hn:H it=none)(hL:it ≠ X.env.locals)
  (h1:it∈X.ex∨X.s₀.heap.objs.size<=it) (h2:∀x c,X.env.cells.lookup x=some c->c≠it) (h3:∀p∈X.pn++pins,p.1≠it):Inv X pins σ H { s with heap:=h',toks:=t' }:=by
 have nit:∀b u,H b=some u->b≠it:=λb u e z=>by rw[z,hn]at e;cases e
 refine I.step (g':=s.gens) (d':=s.drawn) (ch:=[it]) (λb hb=>?_) (λb o _ _ hc e _=>k b o (λz=>hc (by simp[z])) e) (λb o _ _ hc e _=>⟨o.slots,k b o (λz=>hc (by simp[z])) e⟩) (λ_ _ _ _ n=>n)
  (λb o hc e=>⟨o,k b o (λz=>hc (by simp[z])) e⟩) (λ_ _ e=>e) (λ_ _ _ e=>e) (λb ps e=>⟨#[],by rw[e];simp⟩) (λm hm=>?_) (λb u e=>?_) I.bare
 .have e:b=it:=by simpa using hb
  subst e;exact⟨h1,hL,h2,h3⟩
 .obtain⟨o,es,ep,ho,r⟩:=hm;exact⟨o,es,ep,k _ o (By hL) ho,r⟩
 .refine (I.hok b u e).stay (λc v hc q=>k c v ?_ q) (λ_ q=>q) λ_ _ q=>q
  rcases hc with z |z
  .rw[z];exact nit b u e
  .exact nit c _ z
theorem Inv.tok(I:Inv X pins σ H s)(t:Nat):Inv X pins σ H { s with toks:=t }:=I.un (h':=s.heap) (t':=t) Un.refl I.hok
theorem Inv.kept{t':Nat}(I:Inv X pins σ H s)(k:∀b u,s.heap.get? b=some u->h'.get? b=some u):Inv X pins σ H { s with heap:=h',toks:=t' }:=I.un (Un.kept k) (I.hok.kept k)
theorem Inv.laid{a:Addr}{o:HO}{t':Nat}(I:Inv X pins σ H s)(k:∀b u, s.heap.get? b=some u -> h'.get? b=some u)(hp:s.heap.objs.size <= a)(new:ObjOk X.prog X.w (upd H a o) h' a o) :
  Inv X pins σ (upd H a o) { s with heap:=h',toks:=t' }:=I.un (Un.laid k hp (I.hok.fresh hp)) (I.hok.laid k hp new)
theorem Inv.write{x e:Addr}{o:HO}{t':Nat}(I:Inv X pins σ H s)(mu:Mut (H x))(he:e=x ∨ H e=some (.own x))(k:∀b u, b ≠ e -> s.heap.get? b=some u -> h'.get? b=some u)(heo:∃u, h'.get? e=some u)
  (new:ObjOk X.prog X.w (upd H x o) h' x o):Inv X pins σ (upd H x o) { s with heap:=h',toks:=t' }:=I.un (Un.write mu he k heo) (I.hok.write mu he k heo new)
theorem Inv.pins_of{pins':List (Addr×Obj)}(I:Inv X pins σ H s)(h:∀p∈pins',s.heap.get? p.1=some p.2/\H p.1=none/\p.1≠X.env.locals/\p.1 ∉ X.fs/\∀v,p.2.data≠.cell v):Inv X pins' σ H s :=
 ⟨I.ok,I.os,I.bare,I.base,I.loc,I.cell,I.free,I.freeC,λp hp=>(Ba.mp hp).elim (λz=>I.pin p (List.mem_append_left _ z)) (h p),I.hok,I.len⟩
theorem zhy{N:List Str}(hN:N.Nodup){i j:Nat}{x:Str}(a:N[i]?=some x)(b:N[j]?=some x):i=j:=by obtain⟨h1,e1⟩:=Ab.mp a;obtain⟨h2,e2⟩:=Ab.mp b;exact (List.getElem_inj hN).mp (e1.trans e2.symm)
theorem zdQ{M:Model}{A:AQ}{E:Ad -> Ae -> Prop}{i:Nat}{x:Str}{v:V}{u:Ad}{Q:Unit -> Ae -> Prop}(I:Inv X pins σ H s)(hN:X.N.Nodup)(hi:X.N[i]? = some x)(hx:Loc X.env.scope x)(r:RelV v u)
  (h:∀s',Inv X pins (σ.set i (some v)) H s'->(∃a,CS a s.heap s'.heap/\(a=X.env.locals∨X.env.cells.lookup x=some a))->Q () s') (hf:X.fn x=true∨X.env.scope.names.lookup x=some .local:=by first |exact .inl rfl |exact .inr rfl |assumption):Ar M A (storeName X.env x u) Q E s:=by
 obtain⟨m,hn,hl⟩:=id I.loc;have hcls:(X.env.scope.kind == .class || (X.env.scope.kind == .module && X.env.locals != X.env.globals))=false:=by rw[I.ok.kind];rfl
 have hiσ:i<σ.length:=by rw[I.len];exact (Ab.mp hi).1
 have cne:=I.cne
 have tracked:∀{a:Addr} {h':Heap},(∃o,s.heap.get? a=some o/\H a=none)->CS a s.heap h'->HOk X.prog X.w H h':=λ{a h'} ha hs b ob e=>by
  obtain⟨_,_,hfree⟩:=ha;refine (I.hok b ob e).stay (λc w' hc q=>(hs.2 c ?_).trans q) (λ_ q=>q) λ_ _ q=>q
  rintro rfl;rcases hc with rfl |hc
  .rw[hfree]at e;cases e
  .rw[hfree]at hc;cases hc
 rcases hx with hk |hk
 .refine wpAny_storeName_local hk hn (λh' hn' hs=>?_) hcls;obtain⟨oL,_,_,hoL,_⟩:=id hn;refine h _ ⟨I.ok,I.os,I.bare,⟨λb o e n hb hx=>?_,λb o e n hb hx=>?_,I.base.free,λb o e hx=>?_,I.base.tups,I.base.frzs,I.base.tbls⟩,⟨_,hn',λj y v' e1 e2 e3=>?_⟩,λy c e=>?_,I.free,I.freeC,λp hp=>?_,tracked ⟨oL,hoL,I.free⟩ hs,by simpa using I.len⟩ ⟨_,hs,.inl rfl⟩
  .exact (hs.2 b (AC (AD (Ap e) I.ok.above))).trans (I.base.keep b o e n hb hx)
  .obtain⟨sl,e1⟩:=I.base.slot b o e n hb hx;exact⟨sl,(hs.2 b (AC (AD (Ap e) I.ok.above))).trans e1⟩
  .obtain⟨o',e1⟩:=I.base.there b o e hx;exact⟨o',(hs.2 b (AC (AD (Ap e) I.ok.above))).trans e1⟩
  .by_cases hj:j=i
   .subst hj;rw[hi]at e1;cases e1;rw[List.getElem?_set_self hiσ]at e2
    cases e2
    exact⟨u,r,.inl ⟨hk,by simp⟩⟩
   .rw[List.getElem?_set_ne (By hj)]at e2;obtain⟨u',r',q⟩:=hl j y v' e1 e2 e3;refine⟨u',r',?_⟩;rcases q with⟨k,e⟩ |⟨k,c,e,z⟩
    .refine .inl ⟨k,?_⟩;have:y≠x:=λe=>hj (zhy hN e1 (e ▸ hi))
     simp[this,e]
    .exact .inr ⟨k,c,e,z.sameBut hs (cne y c e)⟩
  .obtain⟨w',z⟩:=I.cell y c e;exact⟨w',z.sameBut hs (cne y c e)⟩
  .obtain⟨e,n,ne,nf,d⟩:=I.pin p hp;exact⟨(hs.2 p.1 ne).trans e,n,ne,nf,d⟩
 .have hfn:X.fn x=true := by
   rcases hf with z |z
   .exact z
   .rw[z]at hk;cases hk
  obtain⟨c,hc⟩:=I.ok.has x (.inl hk);obtain⟨w',z⟩:=I.cell x c hc;refine wpAny_storeName_cell I.ok.kind hk hc z (λh' hc' hs=>?_);obtain⟨oc,hoc,hocd⟩:=id z;refine h { s with heap:=h' } ⟨I.ok,I.os,I.bare,⟨λb o e n hb hx=>?_,λb o e n hb hx=>?_,I.base.free,λb o e hx=>?_,I.base.tups,I.base.frzs,I.base.tbls⟩,⟨m,hn.sameBut hs (By (cne x c hc)),λj y v' e1 e2 e3=>?_⟩,λy c' e=>?_,I.free,I.freeC,λp hp=>?_,tracked ⟨oc,hoc,I.freeC x c hc⟩ hs,by simpa using I.len⟩ ⟨c,hs,.inr hc⟩
  .exact (hs.2 b (AC (AD (Ap e) (I.ok.cab x c hfn hc)))).trans (I.base.keep b o e n hb hx)
  .obtain⟨sl,e1⟩:=I.base.slot b o e n hb hx;exact⟨sl,(hs.2 b (AC (AD (Ap e) (I.ok.cab x c hfn hc)))).trans e1⟩
  .obtain⟨o',e1⟩:=I.base.there b o e hx;exact⟨o',(hs.2 b (AC (AD (Ap e) (I.ok.cab x c hfn hc)))).trans e1⟩
  .by_cases hj:j=i
   .subst hj;rw[hi]at e1;cases e1;rw[List.getElem?_set_self hiσ]at e2
    cases e2
    exact⟨u,r,.inr ⟨.inl hk,c,hc,hc'⟩⟩
   .rw[List.getElem?_set_ne (By hj)]at e2;obtain⟨u',r',q⟩:=hl j y v' e1 e2 e3;refine⟨u',r',?_⟩;rcases q with q |⟨k,c',e,z'⟩
    .exact .inl q
    .refine .inr ⟨k,c',e,z'.sameBut hs ?_⟩;rintro rfl;exact hj (zhy hN e1 (I.ok.inj _ _ _ e hc ▸ hi))
  .by_cases hcc:c'=c
   .subst hcc;exact⟨_,hc'⟩
   .obtain⟨w2,z2⟩:=I.cell y c' e;exact⟨w2,z2.sameBut hs hcc⟩
  .obtain⟨e,n,ne,nf,d⟩:=I.pin p hp;refine⟨(hs.2 p.1 ?_).trans e,n,ne,nf,d⟩;intro q;rw[q,hoc]at e;have q':oc=p.2:=A2 e;exact d w' (by rw[<- q'];exact hocd)
theorem zhc{M:Model}{A:AQ}{E:Ad -> Ae -> Prop}{i:Nat}{x:Str}{v:V}{u:Ad}{Q:Unit -> Ae -> Prop}(I:Inv X pins σ H s)(hN:X.N.Nodup)(hi:X.N[i]? = some x)(hx:Loc X.env.scope x)(r:RelV v u)
  (h:∀s',Inv X pins (σ.set i (some v)) H s'->Q () s') (hf:X.fn x=true∨X.env.scope.names.lookup x=some .local:=by first |exact .inl rfl |exact .inr rfl |assumption):Ar M A (storeName X.env x u) Q E s :=
 zdQ I hN hi hx r (λs' I' _=>h s' I') hf
theorem Inv.call'{s':Ae}{ch:List Addr}(I:Inv X pins σ H s)(ho:s'.os=s.os)(u:Un (frs X.stack) ch H H' s.heap s'.heap)(hok:HOk X.prog X.w H' s'.heap)(hg:AllBare s'.gens)
  (hch:∀b∈ch,(b∈X.ex∨X.s₀.heap.objs.size<=b)/\b≠X.env.locals/\(∀x c,X.env.cells.lookup x=some c->c≠b)/\∀p∈X.pn++pins,p.1≠b):Inv X pins σ H' s':=by
 obtain⟨h',g',d',t',o'⟩:=s';have e:o'=s.os:=ho;subst e;exact I.call (g':=g') (t':=t') (d':=d') u hok hg hch
end
noncomputable abbrev XK:=Ad->Option Addr->Hp->Prop
noncomputable abbrev St:=List (Option V)
noncomputable abbrev VK:=V->Hp->Prop
noncomputable abbrev TE:=St->Hp->VK->Prop
noncomputable abbrev TT:=St->Hp->(Bool->Hp->Prop)->Prop
noncomputable abbrev TA:=St->Hp->(List V->Hp->Prop)->Prop
structure Ends where
 nx:St->Hp->Prop
 rt:VK
 bk:St->Hp->Prop:=λ_ _=>False
 ct:St->Hp->Prop:=λ_ _=>False
noncomputable abbrev TS:=Ends->St->Hp->Prop
noncomputable def EP(X:Cx)(pins:List (Addr×Obj))(σ:St)(Q:VK)(u:Ad)(s':Ae):Prop:=∃v H',Inv X pins σ H' s'/\RelV v u/\Q v H'
noncomputable def TP(X:Cx)(pins:List (Addr×Obj))(σ:St)(Q:Bool->Hp->Prop)(b:Bool)(s':Ae):Prop:=∃H',Inv X pins σ H' s'/\Q b H'
noncomputable def AP(X:Cx)(pins:List (Addr×Obj))(σ:St)(Q:List V->Hp->Prop)(us:List Ad)(s':Ae):Prop:=∃vs H',Inv X pins σ H' s'/\Vals vs us/\Q vs H'
noncomputable def SP(X:Cx)(pins:List (Addr×Obj))(D:Ends)(f:Flow)(s':Ae):Prop :=
 match f with
 |.next=>∃ σ' H',Inv X pins σ' H' s'/\D.nx σ' H'
 |.brk=>∃ σ' H',Inv X pins σ' H' s'/\D.bk σ' H'
 |.cont=>∃ σ' H',Inv X pins σ' H' s'/\D.ct σ' H'
 |.ret u=>∃v σ' H',Inv X pins σ' H' s'/\RelV v u/\D.rt v H'
noncomputable def PE(X:Cx)(e:Expr)(t:TE):Prop :=
 ∀(pins:List (Addr×Obj)) (s:Ae) (σ:St) (H:Hp) (Q:VK),Inv X pins σ H s->t σ H Q->Ar (Av X.prog X.w) X.A (eval e X.env) (EP X pins σ Q) X.xe s
noncomputable def PT(X:Cx)(e:Expr)(t:TT):Prop :=
 ∀(pins:List (Addr×Obj)) (s:Ae) (σ:St) (H:Hp) (Q:Bool->Hp->Prop),Inv X pins σ H s->t σ H Q->Ar (Av X.prog X.w) X.A (isTrue e X.env (eval e X.env)) (TP X pins σ Q) X.xe s
noncomputable def PW(X:Cx)(e:Expr)(t:TT):Prop :=
 ∀(whole:Sem Ad) (pins:List (Addr×Obj)) (s:Ae) (σ:St) (H:Hp) (Q:Bool->Hp->Prop),Inv X pins σ H s->t σ H Q->Ar (Av X.prog X.w) X.A (isTrue e X.env whole) (TP X pins σ Q) X.xe s
theorem PW.pt{X:Cx}{e:Expr}{t:TT}(h:PW X e t):PT X e t:=h _
noncomputable def PA(X:Cx)(es:List Expr)(t:TA):Prop :=
 ∀(pos:Pos) (pins:List (Addr×Obj)) (s:Ae) (σ:St) (H:Hp) (Q:List V->Hp->Prop),Inv X pins σ H s->t σ H Q->Ar (Av X.prog X.w) X.A (spliced (Ci pos (AJ es X.env))) (AP X pins σ Q) X.xe s
noncomputable def PS(X:Cx)(st:Stmt)(t:TS):Prop :=
 ∀(pins:List (Addr×Obj)) (s:Ae) (σ:St) (H:Hp) (D:Ends),Inv X pins σ H s->t D σ H->Ar (Av X.prog X.w) X.A (exec st X.env) (SP X pins D) X.xe s
noncomputable def PSs(X:Cx)(st:List Stmt)(t:TS):Prop :=
 ∀(pins:List (Addr×Obj)) (s:Ae) (σ:St) (H:Hp) (D:Ends),Inv X pins σ H s->t D σ H->Ar (Av X.prog X.w) X.A (execs st X.env) (SP X pins D) X.xe s
theorem thn{α:Type}{t:Sem α}{Q Q':α->Ae->Prop}{M:Model}{A:AQ}{E:Ad->Ae->Prop}{s:Ae}(h:Ar M A t Q E s)(hQ:∀a s,Q a s->Q' a s):Ar M A t Q' E s:=BG h hQ λ_ _ x=>x
section
variable {X:Cx}
noncomputable def tVar(i:Nat):TE:=λσ H Q=>∃v,σ[i]?=some (some v)/\Q v H
noncomputable def tC(v:V):TE:=λ_ H Q=>Q v H
theorem zma {i:Nat}{x:Str}{pos:Pos}(hN:X.N[i]?=some x) (hv:Vis X.env.scope x) (hd:(x == ("__debug__" : Str))=false:=by decide) (hcd:(x == ("__classdict__" : Str))=false:=by decide):PE X (.Name x pos) (tVar i):=by
 intro pins s σ H Q I h;obtain⟨v,e,h⟩:=h;obtain⟨m,hn,hl⟩:=I.loc;obtain⟨u,r,l⟩:=hl i x v hN e hv;have fin:EP X pins σ Q u s:=⟨v,H,I,r,h⟩;rcases l with⟨hk,hm⟩ |⟨hk,c,hc,hcell⟩
 .exact wpAny_Name (wpAny_loadName_local I.ok.kind hk hn hm fin) hd
 .rcases hk with hk |hk
  .exact wpAny_Name (wpAny_loadName_cell I.ok.kind hk hc hcell fin) hd
  .exact wpAny_Name (wpAny_loadName_free I.ok.kind hk hc hcell fin hcd) hd
theorem zac{i j pos}:PE X (.Constant (.int i) j pos) (tC (.int i)):=λ_ _ _ H _ I h=>wpAny_Constant_int ⟨.int i,H,I.tok _,⟨_,rfl⟩,h⟩
theorem pe_bl{b j pos}:PE X (.Constant (.bool b) j pos) (tC (.bl b)):=λ_ _ _ H _ I h=>Constant_bool ⟨.bl b,H,I,rfl,h⟩
theorem zdE{j pos}:PE X (.Constant .none j pos) (tC .non):=λ_ _ _ H _ I h=>Constant_none ⟨.non,H,I,rfl,h⟩
theorem zfW{x j pos}:PE X (.Constant (.str x) j pos) (tC (.str x)):=λ_ _ _ H _ I h=>Calls.Constant_str ⟨.str x,H,I.tok _,⟨_,rfl⟩,h⟩
noncomputable def Gl(X:Cx)(x:Str):Prop:=X.env.kindOf x=some .globalImplicit
theorem zjt{E:Ad -> Ae -> Prop}{pins:List (Addr × Obj)}{s:Ae}{σ : St}{H:Hp}{x:Str}{u:Ad}{pos:Pos}{Q:Ad -> Ae -> Prop}(I:Inv X pins σ H s)(hg:Gl X x)(hm:X.mg x=some u)(h:Q u s)
  (hd:(x == ("__debug__" : Str))=false:=by decide):Ar (Av X.prog X.w) X.A (eval (.Name x pos) X.env) Q E s :=
 Calls.Name_function_global I.ok.kind hg (Calls.loadGlobal_global (by rw[I.ok.glob];exact I.mod.glob.keeps I.bk) hm h) hd
theorem zbR{E:Ad -> Ae -> Prop}{pins:List (Addr × Obj)}{s:Ae}{σ : St}{H:Hp}{x:Str}{u:Ad}{pos:Pos}{Q:Ad -> Ae -> Prop}(I:Inv X pins σ H s)(hg:Gl X x)(hm:X.mg x=none)(hv:bootBuiltins x=some u)(h:Q u s)
  (hn:x ≠ "__name__":=by decide) (hd:(x == ("__debug__" : Str))=false:=by decide):Ar (Av X.prog X.w) X.A (eval (.Name x pos) X.env) Q E s:=by
 obtain⟨mb,h1,h2⟩:=I.mod.blt;exact Calls.Name_function_global I.ok.kind hg (Calls.loadGlobal_builtin (by rw[I.ok.glob];exact I.mod.glob.keeps I.bk) hm (by rw[I.ok.blt];exact h1.keeps I.bk) ((h2 x hn).trans hv) h) hd
theorem zfi {x:Str}{v:V}{u:Ad}{pos:Pos}(hg:Gl X x) (hm:X.mg x=some u) (r:RelV v u) (hd:(x == ("__debug__" : Str))=false:=by decide):PE X (.Name x pos) (tC v) :=
 λ_ _ _ H _ I h=>zjt I hg hm ⟨v,H,I,r,h⟩ hd
theorem zcm {x:Str}{v:V}{u:Ad}{pos:Pos}(hg:Gl X x) (hm:X.mg x=none) (hv:bootBuiltins x=some u) (r:RelV v u) (hn:x ≠ "__name__":=by decide) (hd:(x == ("__debug__" : Str))=false:=by decide):PE X (.Name x pos) (tC v) :=
 λ_ _ _ H _ I h=>zbR I hg hm hv ⟨v,H,I,r,h⟩ hn hd
variable {a b:Expr}{ta tb:TE}{pos:Pos}
noncomputable def PC(X:Cx)(op:CmpOp)(a b:Expr)(t:TE):Prop :=
 ∀(pins:List (Addr×Obj)) (s:Ae) (σ:St) (H:Hp) (Q:VK),Inv X pins σ H s->t σ H Q ->
  Ar (Av X.prog X.w) X.A (eval a X.env) (λv s₁=>Ar (Av X.prog X.w) X.A (eval b X.env) (λu s₂=>Ar (Av X.prog X.w) X.A (Bu op v u) (EP X pins σ Q) X.xe s₂) X.xe s₁) X.xe s
noncomputable def tB(t:TE):TT:=λσ H Q=>t σ H λx H1=>∃c,x=.bl c/\Q c H1
theorem zi3{op:CmpOp}{t:TE}(h:PC X op a b t)(h1:behindInMarks op b=false:=by first |exact nobehind _ (by decide) (by decide) |rfl):PT X (.Compare a [op] [b] pos) (tB t):=by
 intro pins s σ H Q I hw;refine wpAny_isTrue_Compare1 (thn (h pins s σ H _ I hw) λv s1 h1=>thn h1 λu s2 h2=>thn h2 λc s3 ⟨x,H1,I1,r1,q1⟩=>?_) h1;obtain⟨d,rfl,q⟩:=q1
 cases r1
 exact Bw ⟨H1,I1,q⟩
theorem zbA{e:Expr}{t:TE}(h:PE X e t)(he:∀whole,isTrue e X.env whole=(do let v <- whole;standAt e.pos;C1 [v] (truthy v)):=by intro _;rfl):PT X e (tB t):=by
 intro pins s σ H Q I hw;refine isTrue_plain (thn (h pins s σ H _ I hw) λv s1 ⟨x,H1,I1,r1,q1⟩=>?_) (he _);obtain⟨d,rfl,q⟩:=q1
 cases r1
 exact Bw ⟨H1,I1,q⟩
variable {tA tB':TT}{rest:List Expr}
noncomputable def tOr(t u:TT):TT:=λσ H Q=>t σ H λc H1=>if c=true then Q true H1 else u σ H1 Q
noncomputable def tNot(t:TT):TT:=λσ H Q=>t σ H λc H1=>Q (!c) H1
theorem zdB(ha:PT X a tA):PW X (.BoolOp .Or [a] pos) tA:=by
 intro wh pins s σ H Q I h;refine isTrue_or (thn (ha pins s σ H Q I h) λc s1 e=>?_)
 cases c with
 |false=>exact isTrue_or_nil e
 |true=>exact e
theorem pw_or(ha:PT X a tA)(hb:PW X (.BoolOp .Or (b::rest) pos) tB'):PW X (.BoolOp .Or (a::b::rest) pos) (tOr tA tB'):=by
 intro wh pins s σ H Q I h;refine isTrue_or (thn (ha pins s σ H _ I h) λc s1 ⟨H1,I1,q1⟩=>?_)
 cases c with
 |true=>exact⟨H1,I1,q1⟩
 |false=>exact hb wh pins s1 σ H1 Q I1 q1
theorem zcs(ha:PT X a tA):PT X (.UnaryOp .Not a pos) (tNot tA):=by intro pins s σ H Q I h;exact isTrue_not (ha pins s σ H (λc H1=>Q (!c) H1) I h)
noncomputable def tAndV(ta tb:TE):TE:=λσ H Q=>ta σ H λx H1=>∃c,x=.bl c/\if c=true then tb σ H1 Q else Q (.bl false) H1
noncomputable def tOrV(ta tb:TE):TE:=λσ H Q=>ta σ H λx H1=>∃c,x=.bl c/\if c=true then Q (.bl true) H1 else tb σ H1 Q
noncomputable def tNotV(ta:TE):TE:=λσ H Q=>ta σ H λx H1=>∃c,x=.bl c/\Q (.bl (!c)) H1
theorem zd2{op}{t:TE}(h:PE X a t):PE X (.BoolOp op [a] pos) t:=λpins s σ H Q I hw=>BoolOp_one (h pins s σ H Q I hw)
theorem zd3(ha:PE X a ta)(hb:PE X (.BoolOp .And (b::rest) pos) tb):PE X (.BoolOp .And (a::b::rest) pos) (tAndV ta tb):=by
 intro pins s σ H Q I h;refine BoolOp_and (thn (ha pins s σ H _ I h) λv s1 ⟨x,H1,I1,r1,q1⟩=>?_);obtain⟨c,rfl,q1⟩:=q1
 cases r1
 refine Bw ?_
 cases c with
 |true=>exact hb pins s1 σ H1 Q I1 q1
 |false=>exact⟨.bl false,H1,I1,rfl,q1⟩
theorem pe_or(ha:PE X a ta)(hb:PE X (.BoolOp .Or (b::rest) pos) tb):PE X (.BoolOp .Or (a::b::rest) pos) (tOrV ta tb):=by
 intro pins s σ H Q I h;refine BoolOp_or (thn (ha pins s σ H _ I h) λv s1 ⟨x,H1,I1,r1,q1⟩=>?_);obtain⟨c,rfl,q1⟩:=q1
 cases r1
 refine Bw ?_
 cases c with
 |false=>exact hb pins s1 σ H1 Q I1 q1
 |true=>exact⟨.bl true,H1,I1,rfl,q1⟩
theorem zja(ha:PE X a ta):PE X (.UnaryOp .Not a pos) (tNotV ta):=by
 intro pins s σ H Q I h;refine UnaryOp_ (thn (ha pins s σ H _ I h) λv s1 ⟨x,H1,I1,r1,q1⟩=>?_);obtain⟨c,rfl,q1⟩:=q1
 cases r1
 exact not_of (Bw ⟨.bl (!c),H1,I1,rfl,q1⟩)
noncomputable def tIf(t:TT)(ta tb:TE):TE:=λσ H Q=>t σ H λc H1=>if c=true then ta σ H1 Q else tb σ H1 Q
theorem zhu{c:Expr}(hc:PT X c tA)(ha:PE X a ta)(hb:PE X b tb):PE X (.IfExp c a b pos) (tIf tA ta tb):=by
 intro pins s σ H Q I h;refine wpAny_IfExp (thn (hc pins s σ H _ I h) λd s1 ⟨H1,I1,q1⟩=>?_)
 cases d with
 |true=>exact ha pins s1 σ H1 Q I1 q1
 |false=>exact hb pins s1 σ H1 Q I1 q1
end
noncomputable def SqL(K:W.Frag)(H:Hp)(a:Addr)(xs:List V):Prop :=
 Rd H a (.lst xs) ∨
  ∃(o:Obj) (its:Array Ad) (n:Nat),K.lookup a=some o/\o.cls=.type "list" /\ o.dict=none/\o.data=.seq its n/\its.size<=sizeLine/\Vals xs its.toList
noncomputable def SqT(K:W.Frag)(H:Hp)(a:Addr)(xs:List V):Prop :=
 Rd H a (.tup xs) ∨
  ∃(o:Obj) (its:Array Ad) (n:Nat),K.lookup a=some o/\o.cls=.type "tuple" /\ o.data=.seq its n/\its.size<=sizeLine/\Vals xs its.toList
noncomputable def absV:Ad->Option V
 |.none=>some .non
 |.bool b=>some (.bl b)
 |.int i _=>some (.int i)
 |.str x _=>some (.str x)
 |.bytes b _=>some (.byt b)
 |.float b _=>some (.flt b)
 |.ref a=>some (.ref a)
 |.type n=>some (.ty n)
 |_=>none
theorem RelV.abs{x:V}{u:Ad}(r:RelV x u):absV u=some x:=by
 cases x with
 |non=>cases r;rfl
 |bl _=>cases r;rfl
 |int _=>obtain⟨t,rfl⟩:=r;rfl
 |str _=>obtain⟨t,rfl⟩:=r;rfl
 |byt _=>obtain⟨t,rfl⟩:=r;rfl
 |flt _=>obtain⟨t,rfl⟩:=r;rfl
 |ref _=>cases r;rfl
 |ty _=>cases r;rfl
theorem RelV.inj{x y:V}{u:Ad}(r:RelV x u)(q:RelV y u):x=y:=A2 (r.abs.symm.trans q.abs)
theorem Vals.inj:∀{xs ys:List V}{us:List Ad},Vals xs us->Vals ys us->xs=ys
 |_,_,_,.nil,.nil=>rfl
 |_,_,_,.cons r t,.cons r' t'=>by rw[r.inj r',Vals.inj t t']
section
variable {X:Cx}{pins:List (Addr×Obj)}{σ:St}{H:Hp}{s:Ae}{a:Addr}{xs ys:List V}
theorem SqL.of{K:W.Frag}(h:H a=some (.lst xs)):SqL K H a xs:=.inl (.inl h)
theorem SqT.of{K:W.Frag}(h:H a=some (.tup xs)):SqT K H a xs:=.inl (.inl h)
theorem Inv.list(I:Inv X pins σ H s)(h:SqL X.K H a xs):∃its:List Ad,Vals xs its/\PlainL s.heap a its.toArray/\xs.length<=sizeLine:=by
 rcases h with h |⟨o,its,n,hk,hc,hd,hs,hz,r⟩
 .obtain⟨z,its,n,r,e⟩:=h.ok I.hok;exact⟨its,r,⟨_,n,e,rfl,rfl,rfl⟩,z⟩
 .refine⟨its.toList,r,⟨o,n,I.kIn a o hk,hc,hd,by simpa using hs⟩,?_⟩;have e:=r.length;simp only[Array.length_toList]at e;lia
theorem Inv.tuple(I:Inv X pins σ H s)(h:SqT X.K H a xs):∃its:List Ad,Vals xs its/\IsTup s.heap a its.toArray/\xs.length<=sizeLine:=by
 rcases h with h |⟨o,its,n,hk,hc,hs,hz,r⟩
 .obtain⟨z,its,r,p⟩:=h.ok I.hok;exact⟨its,r,p,z⟩
 .refine⟨its.toList,r,⟨o,I.kIn a o hk,hc,n,by simpa using hs⟩,?_⟩;have e:=r.length;simp only[Array.length_toList]at e;lia
theorem Inv.list_inj(I:Inv X pins σ H s)(h:SqL X.K H a xs)(h':SqL X.K H a ys):xs=ys:=by
 obtain⟨its,r,⟨o,n,e,_,_,d⟩,_⟩:=I.list h;obtain⟨its',r',⟨o',n',e',_,_,d'⟩,_⟩:=I.list h';rw[e]at e';cases e';rw[d]at d';injection d' with d1 _;have:its=its':=by simpa using congrArg Array.toList d1
 subst this;exact r.inj r'
theorem Inv.tuple_inj(I:Inv X pins σ H s)(h:SqT X.K H a xs)(h':SqT X.K H a ys):xs=ys:=by
 obtain⟨its,r,⟨o,e,_,n,d⟩,_⟩:=I.tuple h;obtain⟨its',r',⟨o',e',_,n',d'⟩,_⟩:=I.tuple h';rw[e]at e';cases e';rw[d]at d';injection d' with d1 _;have:its=its':=by simpa using congrArg Array.toList d1
 subst this;exact r.inj r'
end
noncomputable abbrev Cx.wish(X:Cx)(E:Ad->Ae->Prop):Cx:={ X with xe:=E }
noncomputable abbrev Cx.nox(X:Cx):Cx:=X.wish λ_ _=>False
theorem Cx.Ok.wish{X:Cx}(ok:X.Ok)(E:Ad->Ae->Prop):(X.wish E).Ok :=
 ⟨ok.mod,ok.kind,ok.glob,ok.blt,ok.above,ok.inj,ok.has,ok.cab,ok.hd,ok.frames,ok.stk,ok.exf,ok.bs,ok.bsz,ok.noex,ok.exfs,ok.funs,ok.frf⟩
theorem Cx.Ok.unwish{X:Cx}{E:Ad->Ae->Prop}(ok:(X.wish E).Ok):X.Ok :=
 ⟨ok.mod,ok.kind,ok.glob,ok.blt,ok.above,ok.inj,ok.has,ok.cab,ok.hd,ok.frames,ok.stk,ok.exf,ok.bs,ok.bsz,ok.noex,ok.exfs,ok.funs,ok.frf⟩
section
variable {X:Cx}{pins:List (Addr×Obj)}{σ:St}{H:Hp}{s:Ae}{E:Ad->Ae->Prop}
theorem Inv.wish(I:Inv X pins σ H s)(E:Ad->Ae->Prop):Inv (X.wish E) pins σ H s:=⟨I.ok.wish E,I.os,I.bare,I.base,I.loc,I.cell,I.free,I.freeC,I.pin,I.hok,I.len⟩
theorem Inv.unwish(I:Inv (X.wish E) pins σ H s):Inv X pins σ H s:=⟨I.ok.unwish,I.os,I.bare,I.base,I.loc,I.cell,I.free,I.freeC,I.pin,I.hok,I.len⟩
theorem SP.unwish{D:Ends}{f:Flow}{s':Ae}(h:SP (X.wish E) pins D f s'):SP X pins D f s':=by
 cases f with
 |next=>obtain⟨σ',H',I,q⟩:=h;exact⟨σ',H',I.unwish,q⟩
 |brk=>obtain⟨σ',H',I,q⟩:=h;exact⟨σ',H',I.unwish,q⟩
 |cont=>obtain⟨σ',H',I,q⟩:=h;exact⟨σ',H',I.unwish,q⟩
 |ret u=>obtain⟨v,σ',H',I,r,q⟩:=h;exact⟨v,σ',H',I.unwish,r,q⟩
theorem PSs.nox{st:List Stmt}{t:TS}(h:PSs X.nox st t):PSs X st t:=λpins s σ H D I hw =>
 BG (h pins s σ H D (I.wish _) hw) (λ_ _ q=>q.unwish) λ_ _ z=>Bz z
end
section
variable {X:Cx}{st:Stmt}{rest:List Stmt}{t u:TS}{e:Expr}{te:TE}{pos:Pos}
noncomputable def tNext:TS:=λD σ H=>D.nx σ H
noncomputable def tSeq(t u:TS):TS:=λD σ H=>t { D with nx:=u D } σ H
theorem zaw:PSs X [] tNext:=λ_ _ σ H _ I h=>wpAny_execs_nil ⟨σ,H,I,h⟩
theorem zad(h1:PS X st t)(h2:PSs X rest u):PSs X (st::rest) (tSeq t u):=by
 intro pins s σ H D I h;refine wpAny_execs_cons (thn (h1 pins s σ H { D with nx:=u D } I h) λf s1 q=>?_)
 cases f with
 |next =>
  obtain⟨σ',H',I',q⟩:=q;exact h2 pins s1 σ' H' D I' q
 |ret v=>exact q
 |brk=>exact q
 |cont=>exact q
theorem zaf(h1:PS X st t):PSs X [st] t:=by
 intro pins s σ H D I h;refine wpAny_execs_cons (thn (h1 pins s σ H D I h) λf s1 q=>?_)
 cases f with
 |next=>exact wpAny_execs_nil q
 |ret v=>exact q
 |brk=>exact q
 |cont=>exact q
theorem Inv.quiet{pins:List (Addr×Obj)}{σ:St}{H:Hp}{s:Ae}(I:Inv X pins σ H s):interactive X.env=false:=by simp[interactive,I.ok.kind]
noncomputable def tDrop(te:TE):TS:=λD σ H=>te σ H λ_ H1=>D.nx σ H1
theorem zcA(he:PE X e te)(hs:swapsWith e none pos.line X.env=pure false:=by rfl):PS X (.Expr e pos) (tDrop te):=by intro pins s σ H D I h;exact wpAny_Expr_any (thn (he pins s σ H _ I h) λv s1 ⟨x,H1,I1,r1,q1⟩=>⟨σ,H1,I1,q1⟩) I.quiet hs
noncomputable def tRet(te:TE):TS:=λD σ H=>te σ H D.rt
theorem zaj(he:PE X e te):PS X (.Return (some e) pos) (tRet te):=by intro pins s σ H D I h;exact wpAny_Return_some (thn (he pins s σ H _ I h) λv s1 ⟨x,H1,I1,r1,q1⟩=>⟨x,σ,H1,I1,r1,q1⟩)
noncomputable def tIfS(c:TT)(t u:TS):TS:=λD σ H=>c σ H λb H1=>if b=true then t D σ H1 else u D σ H1
theorem ps_if{c:Expr}{a b:List Stmt}{tc:TT}(hc:PT X c tc)(ha:PSs X a t)(hb:PSs X b u):PS X (.If c a b pos) (tIfS tc t u):=by
 intro pins s σ H D I h;refine wpAny_If (thn (hc pins s σ H _ I h) λd s1 ⟨H1,I1,q1⟩=>?_)
 cases d with
 |true=>exact ha pins s1 σ H1 D I1 q1
 |false=>exact hb pins s1 σ H1 D I1 q1
noncomputable def zl2:TS:=λ_ _ _=>False
theorem zkg:PS X st zl2:=λ_ _ _ _ _ _ h=>h.elim
end
noncomputable abbrev TG:=V->St->Hp->(St->Hp->Prop)->Prop
noncomputable abbrev TGs:=List V->St->Hp->(St->Hp->Prop)->Prop
noncomputable def PG(X:Cx)(target:Expr)(t:TG):Prop :=
 ∀(pins:List (Addr×Obj)) (s:Ae) (σ:St) (H:Hp) (v:V) (u:Ad) (Q:St->Hp->Prop),Inv X pins σ H s->RelV v u->t v σ H Q ->
  Ar (Av X.prog X.w) X.A (assign target X.env u) (λ_ s'=>∃ σ' H',Inv X pins σ' H' s'/\Q σ' H') X.xe s
noncomputable def PGs(X:Cx)(ts:List Expr)(t:TGs):Prop :=
 ∀(pins:List (Addr×Obj)) (s:Ae) (σ:St) (H:Hp) (vs:List V) (us:List Ad) (Q:St->Hp->Prop),Inv X pins σ H s->Vals vs us->t vs σ H Q ->
  Ar (Av X.prog X.w) X.A (assignInOrder ((Db ts X.env).map (·.2)) us) (λ_ s'=>∃ σ' H',Inv X pins σ' H' s'/\Q σ' H') X.xe s
noncomputable abbrev TSet:=V->V->V->Hp->(Hp->Prop)->Prop
noncomputable def PSet(X:Cx)(t:TSet):Prop :=
 ∀(pins:List (Addr×Obj)) (s:Ae) (σ:St) (H:Hp) (o i v:V) (ov iv u:Ad) (Q:Hp->Prop),Inv X pins σ H s->RelV o ov->RelV i iv->RelV v u->t o i v H Q ->
  Ar (Av X.prog X.w) X.A (setItem ov iv u) (λ_ s'=>∃H',Inv X pins σ H' s'/\Q H') X.xe s
section
variable {X:Cx}{pos:Pos}
noncomputable def gName(i:Nat):TG:=λv σ H Q=>Q (σ.set i (some v)) H
theorem zfh{i:Nat}{x:Str}(hN:X.N.Nodup)(hi:X.N[i]?=some x)(hx:Loc X.env.scope x)(hf:X.fn x=true∨X.env.scope.names.lookup x=some .local:=by first |exact .inl rfl |exact .inr rfl |assumption):PG X (.Name x pos) (gName i):=by intro pins s σ H v u Q I r h;exact wpAny_assign_Name (zhc I hN hi hx r (λs' I'=>⟨_,H,I',h⟩) hf)
noncomputable def gNil:TGs:=λvs σ H Q=>vs=[]/\Q σ H
noncomputable def gCons(t:TG)(u:TGs):TGs:=λvs σ H Q=>∃v r,vs=v::r/\t v σ H λσ' H'=>u r σ' H' Q
theorem zaC:PGs X [] gNil:=by
 intro pins s σ H vs us Q I r h;obtain⟨e,h⟩:=h;subst e
 cases r
 exact assignInOrder_nil ⟨σ,H,I,h⟩
theorem zai{e:Expr}{es:List Expr}{t:TG}{u:TGs}(h1:PG X e t)(h2:PGs X es u)
  (hs:(Db (e::es) X.env).map (·.2)=assign e X.env::(Db es X.env).map (·.2):=by rfl):PGs X (e::es) (gCons t u):=by
 intro pins s σ H vs us Q I r h;obtain⟨v,vr,e1,h⟩:=h;subst e1
 cases r with
 |cons r rr =>
  rw[hs];refine assignInOrder_cons (thn (h1 pins s σ H _ _ _ I r h) λ_ s1 ⟨σ1,H1,I1,q1⟩=>?_);exact h2 pins s1 σ1 H1 _ _ Q I1 rr q1
noncomputable def gTup(K:W.Frag)(n:Nat)(t:TGs):TG:=λv σ H Q=>∃a xs,v=.ref a/\SqT K H a xs/\xs.length=n/\t xs σ H Q
theorem zbr{es:List Expr}{k:Nat}{t:TGs}{n:Nat}(hc:X.calm=true)(h:PGs X es t)
  (hn:(Db es X.env).length=n:=by rfl) (hst:(Db es X.env).findIdx? (·.1)=none:=by rfl):PG X (.Tuple es k pos) (gTup X.K n t):=by
 intro pins s σ H v u Q I r hw;obtain⟨a,xs,e1,hq,hl,hw⟩:=hw;subst e1
 cases r
 obtain⟨its,rv,ht,hz⟩:=I.tuple hq;refine assign_Tuple_tuple (I.ok.hd hc) ht (by simp[hn,<- hl,rv.length]) hst λh' hx=>?_
 have I1:Inv X pins σ H { s with heap:=h' }:=I.kept (t':=s.toks) λb o e=>hx b o (AC (Ap e)) e
 exact h pins _ σ H xs _ Q I1 (by simpa using rv) hw
noncomputable def gSub(to ti:TE)(t:TSet):TG:=λv σ H Q=>to σ H λo H1=>ti σ H1 λi H2=>t o i v H2 λH3=>Q σ H3
theorem zkN{o i:Expr}{to ti:TE}{t:TSet}(ho:PE X o to)(hi:PE X i ti)(hs:PSet X t)
  (ha:∀v,assign (.Subscript o i pos) X.env v=(do
   let ov <- C1 [v] (eval o X.env)
   let iv <- C1 [v,ov] (eval i X.env)
   standAt pos
   C1 [v,ov,iv] (setItem ov iv v)
   release [v,ov,iv] []):=by intro _;rfl):PG X (.Subscript o i pos) (gSub to ti t):=by
 intro pins s σ H v u Q I r h;rw[ha];refine Ac (A7 (thn (ho pins s σ H _ I h) λov s1 ⟨x,H1,I1,r1,q1⟩=>?_));refine Ac (A7 (thn (hi pins s1 σ H1 _ I1 q1) λiv s2 ⟨y,H2,I2,r2,q2⟩=>?_));refine Ac (Cj (Ac (A7 (thn (hs pins s2 σ H2 x y v ov iv u _ I2 r1 r2 r q2) λ_ s3 ⟨H3,I3,q3⟩=>?_))));exact wpAny_release ⟨σ,H3,I3,q3⟩
noncomputable def tAsg(te:TE)(g:TG):TS:=λD σ H=>te σ H λx H1=>g x σ H1 D.nx
theorem zbX{tg e:Expr}{te:TE}{g:TG}(he:PE X e te)(hg:PG X tg g)(hs:swapsWithSole [tg] e pos.line X.env=pure false := by rfl)(hw:swappedStores [tg] e X.env=pure none := by rfl)
  (h1:(Db [tg] X.env).map (·.2)=[assign tg X.env]:=by rfl):PS X (.Assign [tg] e pos) (tAsg te g):=by
 intro pins s σ H D I h;refine wpAny_Assign_stores (thn (he pins s σ H _ I h) λv s1 ⟨x,H1,I1,r1,q1⟩=>?_) hs hw;rw[h1];exact thn (hg pins s1 σ H1 x v _ I1 r1 q1) λ_ s2 q=>q
theorem zda{i:Nat}{x:Str}{e:Expr}{te:TE}{pos':Pos}(hN:X.N.Nodup)(hi:X.N[i]? = some x)(hx:Loc X.env.scope x)(he:PE X e te)(hs:swapsWith e (some (.Name x pos')) pos.line X.env=pure false := by rfl)(hf:X.fn x=true ∨ X.env.scope.names.lookup x=some .local := by first |exact .inl rfl |exact .inr rfl |assumption) :
  PS X (.Assign [.Name x pos'] e pos) (tAsg te (gName i)):=by
 intro pins s σ H D I h;refine wpAny_Assign_Name (thn (he pins s σ H _ I h) λv s1 ⟨y,H1,I1,r1,q1⟩=>?_) hs;exact zhc I1 hN hi hx r1 (λs2 I2=>⟨_,H1,I2,q1⟩) hf
end
section
variable {X:Cx}{pos:Pos}
noncomputable def zkC(c:TT)(tb:TS):TS:=λD σ H=>∃W:Nat->St->Hp->Prop,(∃m,W m σ H)/\∀m σ H,W m σ H ->
 c σ H λb H1=>if b=true then ∃N:St->Hp->Prop,(∀ σ' H',N σ' H'->∃m',m'<m/\W m' σ' H')/\tb { D with nx:=N,ct:=N,bk:=D.nx } σ H1 else D.nx σ H1
theorem zkf{c:Expr}{body:List Stmt}{tc:TT}{tb:TS}(hp:PassesOwn (Av X.prog X.w) X.A X.env X.xe)(hc:PT X c tc)(hb:PSs X body tb):PS X (.While c body [] pos) (zkC tc tb):=by
 intro pins s σ H D I h;obtain⟨W,⟨m0,w0⟩,turn⟩:=h;refine wpAny_While (codeAny_whileLoop (λn s'=>∃ σ' H',Inv X pins σ' H' s'/\W n σ' H') ?_ m0 ⟨σ,H,I,w0⟩);rintro n s1 ⟨σ1,H1,I1,w1⟩;refine B9 hp (thn (hc pins s1 σ1 H1 _ I1 (turn n σ1 H1 w1)) λb s2 ⟨H2,I2,q2⟩=>?_)
 cases b with
 |true =>
  obtain⟨N,hN,q2⟩:=q2;rw[if_pos rfl];refine B9 hp (thn (hb pins s2 σ1 H2 _ I2 q2) λf s3 q3=>?_)
  cases f with
  |next =>
   obtain⟨σ3,H3,I3,n3⟩:=q3;obtain⟨m',hm,w3⟩:=hN σ3 H3 n3;exact⟨m',hm,σ3,H3,I3,w3⟩
  |cont =>
   obtain⟨σ3,H3,I3,n3⟩:=q3;obtain⟨m',hm,w3⟩:=hN σ3 H3 n3;exact⟨m',hm,σ3,H3,I3,w3⟩
  |brk=>exact q3
  |ret v=>exact q3
 |false =>
  rw[if_neg Aw];exact wpAny_execs_nil ⟨σ1,H2,I2,q2⟩
end
structure It where
 go:Nat->Hp->Prop
 yld:Nat->Hp->V->Hp->Prop
 stop:Nat->Hp->Prop
noncomputable def FpOk(X:Cx)(pins:List (Addr×Obj))(H:Hp)(b:Addr):Prop :=
 H b=none/\b≠X.env.locals/\b ∉ X.fs/\(b∈X.ex∨X.s₀.heap.objs.size<=b)/\(∀x c,X.env.cells.lookup x=some c->c≠b)/\∀p∈X.pn++pins,p.1≠b
theorem Inv.fpOk{X:Cx}{pins:List (Addr×Obj)}{σ:St}{H H':Hp}{s:Ae}{b:Addr}(I:Inv X pins σ H s)(hb:s.heap.objs.size<=b)(hn:H' b=none):FpOk X pins H' b:=by
 refine⟨hn,Nat.ne_of_gt (AD I.lt hb),I.nofs hb,.inr (AF I.sz hb),λx c e z=>?_,λp hp z=>?_⟩
 .obtain⟨v,q⟩:=I.cell x c e;exact absurd (AD q.lt (by rw[z];exact hb)) (Ch _)
 .exact absurd (AD (Ap (I.pin p hp).1) (by rw[z];exact hb)) (Ch _)
structure Turn (P:AK) (w:A1) (K:W.Frag) (tg:Expr) (J:It) (fp:List Addr) (it:Addr) (tn:Nat->Heap->Prop):Prop where
 mem:it∈fp
 obj:∀i h,tn i h->∀b∈fp,∃o,h.get? b=some o/\∀v,o.data≠.cell v
 keep:∀i h h',tn i h->(∀b∈fp,∀o,h.get? b=some o->h'.get? b=some o)->tn i h'
 item:∀(X:Cx),X.prog=P->X.w=w->X.K=K->X.calm=true->∀(i:Nat) (pins:List (Addr×Obj)) (s:Ae) (σ:St) (H:Hp) (E:Ad->Ae->Prop),Inv X pins σ H s->(∀b∈fp,FpOk X pins H b)->tn i s.heap->J.go i H ->
  Ar (Av P w) X.A (pyNext (.ref it)) (λr s1=>∃u,r=some u /\
   Ar (Av P w) X.A (C2 tg (.ref it) u) (λ_ s2=>∃x H',Inv X pins σ H' s2/\RelV x u/\J.yld i H x H'/\tn (i+1) s2.heap/\∀b∈fp,H' b=none) E s1) E s
 done:∀(X:Cx),X.prog=P->X.w=w->X.K=K->X.calm=true->∀(i:Nat) (pins:List (Addr×Obj)) (s:Ae) (σ:St) (H:Hp) (E:Ad->Ae->Prop),Inv X pins σ H s->(∀b∈fp,FpOk X pins H b)->tn i s.heap->J.stop i H ->
  Ar (Av P w) X.A (pyNext (.ref it)) (λr s1=>r=none/\Inv X pins σ H s1) E s
 self:∀(A:AQ) (i:Nat) (s:Ae) (Q:Ad->Ae->Prop) (E:Ad->Ae->Prop),tn i s.heap->Q (.ref it) s->Ar (Av P w) A (pyIter (.ref it)) Q E s
noncomputable abbrev TI:=St->Hp->(It->Hp->Prop)->Prop
noncomputable def PIE(X:Cx)(pins:List (Addr×Obj))(σ:St)(tg:Expr)(R:It->Hp->Prop)(itv:Ad)(s2:Ae):Prop :=
 ∃(it:Addr) (fp:List Addr) (tn:Nat->Heap->Prop) (J:It) (H':Hp),itv=.ref it/\Inv X pins σ H' s2/\Turn X.prog X.w X.K tg J fp it tn/\tn 0 s2.heap/\(∀b∈fp,FpOk X pins H' b)/\R J H'
noncomputable def PI(X:Cx)(tg iter:Expr)(wi:TI):Prop :=
 ∀(pins:List (Addr×Obj)) (s:Ae) (σ:St) (H:Hp) (R:It->Hp->Prop),Inv X pins σ H s->wi σ H R ->
  Ar (Av X.prog X.w) X.A (eval iter X.env) (λv s1=>Ar (Av X.prog X.w) X.A (pyIter v) (PIE X pins σ tg R) X.xe s1) X.xe s
theorem go_of {M : Model}{A : AQ}{E : Ad → Ae → Prop}{s : Ae}{tg : Expr}{it : Addr}{u : Ad}{o : Obj}{n : String}{vs : Array Ad}{Q : Unit → Ae → Prop}(ho : s.heap.get? it = some o) (hc : o.cls = .type n) (hd : o.data = .fields vs)
    (hn:["enumerate","zip","dict_itemiterator","dict_reverseitemiterator","odict_iterator","itertools.zip_longest","itertools.pairwise"].contains n=false) (hQ:Q () s):Ar M A (C2 tg (.ref it) u) Q E s:=by
  unfold C2
  cases tg <;> first
    | exact Al hQ
    | (cases u <;> first
        | exact Al hQ
        | (refine Ac (wpAny_load ho ?_)
           rw[hc,hd]
           show Ar M A (if (["enumerate","zip","dict_itemiterator","dict_reverseitemiterator","odict_iterator","itertools.zip_longest","itertools.pairwise"].contains n && vs[0]? == some (rawInt _))=true then _ else _) Q E s
           rw[if_neg (by intro h;rw[hn,BC] at h;cases h)]
           exact Al hQ))
noncomputable def Itl(K:W.Frag)(a:Addr):It :=
 ⟨λi H=>∃xs x,SqL K H a xs/\xs[i]?=some x,λi H x H'=>H'=H/\∀xs,SqL K H a xs->xs[i]?=some x,λi H=>∃xs,SqL K H a xs/\xs.length<=i⟩
noncomputable def Itt(K:W.Frag)(a:Addr):It :=
 ⟨λi H=>∃xs x,SqT K H a xs/\xs[i]?=some x,λi H x H'=>H'=H/\∀xs,SqT K H a xs->xs[i]?=some x,λi H=>∃xs,SqT K H a xs/\xs.length<=i⟩
noncomputable def Itr(lo:Int)(n:Nat):It:=⟨λi _=>i<n,λi H x H'=>H'=H/\x=.int (lo+i),λi _=>n<=i⟩
theorem zix{P:AK}{w:A1}{K:W.Frag}{tg:Expr}(a it:Addr):Turn P w K tg (Itl K a) [it] it (λi h=>h.IsListIter it a i) where
 mem:=by simp
 obj:=λi h st b hb=>by
  have e:b=it:=by simpa using hb
  subst e;obtain⟨o,e,c,d⟩:=st;exact⟨o,e,λv z=>by rw[d]at z;cases z⟩
 keep:=λi h h' st k=>st.at λo e=>k it (by simp) o e
 item:=by
  intro X hP hw hK hc i pins s σ H E I hf st hg;subst hP hw hK;obtain⟨xs,x,hq,hx⟩:=hg;obtain⟨its,rv,p,hz⟩:=I.list hq;obtain⟨u,hu,ru⟩:=rv.get hx;obtain⟨f0,f1,f2,f3,f4,f5⟩:=hf it (by simp);refine wpAny_pyNext_list_item st p.isList (x:=u) (by simpa using hu) λh' st' sb=>?_
  have I1:Inv X pins σ H { s with heap:=h' }:=I.turned (t':=s.toks) (λb o hb e=>(sb.2 b hb).trans e) f0 f1 f3 f4 f5;obtain⟨o,e,c,d⟩:=id st';exact⟨u,rfl,go_of (s:={ s with heap:=h' }) e c d (by decide) ⟨x,H,I1,ru,⟨rfl,λys hy=>by rw[I.list_inj hy hq];exact hx⟩,st',λb hb=>(hf b hb).1⟩⟩
 done:=by intro X hP hw hK hc i pins s σ H E I hf st hg;subst hP hw hK;obtain⟨xs,hq,hx⟩:=hg;obtain⟨its,rv,p,hz⟩:=I.list hq;obtain⟨f0,f1,f2,f3,f4,f5⟩:=hf it (by simp);have hl:=rv.length;exact wpAny_pyNext_list_end (I.ok.hd hc) st p.isList (by simp;lia) λh' eb=>⟨rfl,I.turned (t':=s.toks) (λb o hb e=>eb b o hb e) f0 f1 f3 f4 f5⟩
 self:=λ_ _ _ _ _ st h=>wpAny_pyIter_listiter st h
theorem zhY{P:AK}{w:A1}{K:W.Frag}{tg:Expr}(a it:Addr):Turn P w K tg (Itt K a) [it] it (λi h=>h.IsTupleIter it a i) where
 mem:=by simp
 obj:=λi h st b hb=>by
  have e:b=it:=by simpa using hb
  subst e;obtain⟨o,e,c,d⟩:=st;exact⟨o,e,λv z=>by rw[d]at z;cases z⟩
 keep:=λi h h' st k=>st.at λo e=>k it (by simp) o e
 item:=by
  intro X hP hw hK hc i pins s σ H E I hf st hg;subst hP hw hK;obtain⟨xs,x,hq,hx⟩:=hg;obtain⟨its,rv,p,hz⟩:=I.tuple hq;obtain⟨u,hu,ru⟩:=rv.get hx;obtain⟨f0,f1,f2,f3,f4,f5⟩:=hf it (by simp);refine wpAny_pyNext_tuple_item st (show s.heap.IsTuple a its.toArray from p) (x:=u) (by simpa using hu) λh' st' sb=>?_
  have I1:Inv X pins σ H { s with heap:=h' }:=I.turned (t':=s.toks) (λb o hb e=>(sb.2 b hb).trans e) f0 f1 f3 f4 f5;obtain⟨o,e,c,d⟩:=id st';exact⟨u,rfl,go_of (s:={ s with heap:=h' }) e c d (by decide) ⟨x,H,I1,ru,⟨rfl,λys hy=>by rw[I.tuple_inj hy hq];exact hx⟩,st',λb hb=>(hf b hb).1⟩⟩
 done:=by intro X hP hw hK hc i pins s σ H E I hf st hg;subst hP hw hK;obtain⟨xs,hq,hx⟩:=hg;obtain⟨its,rv,p,hz⟩:=I.tuple hq;obtain⟨f0,f1,f2,f3,f4,f5⟩:=hf it (by simp);have hl:=rv.length;exact wpAny_pyNext_tuple_end (I.ok.hd hc) st (show s.heap.IsTuple a its.toArray from p) (by simp;lia) λh' eb=>⟨rfl,I.turned (t':=s.toks) (λb o hb e=>eb b o hb e) f0 f1 f3 f4 f5⟩
 self:=λ_ _ _ _ _ st h=>wpAny_pyIter_tupleiter st h
theorem zhZ{P:AK}{w:A1}{K:W.Frag}{tg:Expr}(it:Addr)(lo:Int)(n:Nat):Turn P w K tg (Itr lo n) [it] it (λi h=>IsRangeIter h it (lo+(i:Nat)*1) ((n:Int)-(i:Nat)) 1) where
 mem:=by simp
 obj:=λi h st b hb=>by
  have e:b=it:=by simpa using hb
  subst e
  exact⟨_,st,λv z=>by
   have z':Data.fields _=Data.cell v:=z
   cases z'⟩
 keep:=λi h h' st k=>k it (by simp) _ st
 item:=by
  intro X hP hw hK hc i pins s σ H E I hf st hg;subst hP hw hK;obtain⟨f0,f1,f2,f3,f4,f5⟩:=hf it (by simp);have W:=Walks.range (prog:=X.prog) (w:=X.w) (I.ok.hd hc) it lo 1 n;refine W.item i s _ _ hg st λv h' tk hv st' kk=>?_
  obtain⟨t,rfl⟩:=hv;have I1:Inv X pins σ H { s with heap:=h',toks:=tk }:=I.turned (λb o hb e=>kk b o (by simpa using hb) e) f0 f1 f3 f4 f5;refine⟨_,rfl,go_of (s:={ s with heap:=h',toks:=tk }) (n:="range_iterator") st' rfl rfl (by decide) ⟨.int (lo+i),H,I1,⟨t,?_⟩,⟨rfl,rfl⟩,st',λb hb=>(hf b hb).1⟩⟩;rw[Int.mul_one]
 done:=by intro X hP hw hK hc i pins s σ H E I hf st hg;subst hP hw hK;obtain⟨f0,f1,f2,f3,f4,f5⟩:=hf it (by simp);exact wpAny_pyNext_range_end (I.ok.hd hc) st (by have:n<=i:=hg;lia) λh' eb=>⟨rfl,I.turned (t':=s.toks) (λb o hb e=>eb b o hb e) f0 f1 f3 f4 f5⟩
 self:=λ_ _ _ _ _ st h=>wpAny_pyIter_rangeiter st h
section
variable {X:Cx}{tg:Expr}
noncomputable def iList(K:W.Frag)(tl:TE):TI:=λσ H R=>tl σ H λx H1=>∃a,x=.ref a/\(∃xs,SqL K H1 a xs)/\R (Itl K a) H1
noncomputable def iTup(K:W.Frag)(tl:TE):TI:=λσ H R=>tl σ H λx H1=>∃a,x=.ref a/\(∃xs,SqT K H1 a xs)/\R (Itt K a) H1
theorem zaM{l:Expr}{tl:TE}(hl:PE X l tl):PI X tg l (iList X.K tl):=by
 intro pins s σ H R I h;refine thn (hl pins s σ H _ I h) λv s1 ⟨x,H1,I1,r1,q1⟩=>?_
 obtain⟨a,e,⟨xs,hq⟩,q⟩:=q1;subst e
 cases r1
 obtain⟨its,rv,p,hz⟩:=I1.list hq;refine wpAny_pyIter_list p.isList ?_
 refine⟨s1.heap.objs.size,[s1.heap.objs.size],_,_,H1,rfl,I1.kept (t':=s1.toks) λb o e=>Ai _ e,zix a _,⟨_,AG _ rfl,rfl,rfl⟩,λb hb=>?_,q⟩;have e:b=s1.heap.objs.size:=by simpa using hb
 subst e;exact I1.fpOk (Ah _) (I1.hok.fresh (Ah _))
theorem zi8{l:Expr}{tl:TE}(hl:PE X l tl):PI X tg l (iTup X.K tl):=by
 intro pins s σ H R I h;refine thn (hl pins s σ H _ I h) λv s1 ⟨x,H1,I1,r1,q1⟩=>?_
 obtain⟨a,e,⟨xs,hq⟩,q⟩:=q1;subst e
 cases r1
 obtain⟨its,rv,p,hz⟩:=I1.tuple hq;refine wpAny_pyIter_tuple (show s1.heap.IsTuple a its.toArray from p) ?_
 refine⟨s1.heap.objs.size,[s1.heap.objs.size],_,_,H1,rfl,I1.kept (t':=s1.toks) λb o e=>Ai _ e,zhY a _,⟨_,AG _ rfl,rfl,rfl⟩,λb hb=>?_,q⟩;have e:b=s1.heap.objs.size:=by simpa using hb
 subst e;exact I1.fpOk (Ah _) (I1.hok.fresh (Ah _))
theorem zhr{pins:List (Addr × Obj)}{σ : St}{H:Hp}{s:Ae}{R:It -> Hp -> Prop}{E:Ad -> Ae -> Prop}{lo hi:Int}{t u v:Tok}{tk:Nat}(I:Inv X pins σ H s)(h1 : -(2 ^ 62) <= lo)(h2:lo < 2 ^ 62)(h3 : -(2 ^ 62) <= hi)(h4:hi < 2 ^ 62)
  (q:R (Itr lo (hi-lo).toNat) H):Ar (Av X.prog X.w) X.A (pyIter (.ref s.heap.objs.size)) (PIE X pins σ tg R) E { s with heap:=s.heap.push { cls:=.type "range",data:=.fields #[.int lo t,.int hi u,.int 1 v] },toks:=tk }:=by
 refine wpAny_pyIter_range (IsRange.new ..) (small_one h1 h2 h3 h4) ?_
 have I1:Inv X pins σ H { s with heap:=s.heap.push { cls:=.type "range",data:=.fields #[.int lo t,.int hi u,.int 1 v] },toks:=tk }:=I.kept λb o e=>Ai _ e
 refine⟨(s.heap.push { cls:=.type "range",data:=.fields #[.int lo t,.int hi u,.int 1 v] }).objs.size,[(s.heap.push { cls:=.type "range",data:=.fields #[.int lo t,.int hi u,.int 1 v] }).objs.size],_,_,H,rfl,
  I1.kept (t':=tk) λb o e=>Ai _ e,zhZ _ lo (hi-lo).toNat,?_,λb hb=>?_,q⟩
 .have e1:lo+((0:Nat):Int)*1=lo:=by simp
  have e2:(((hi-lo).toNat:Nat):Int)-((0:Nat):Int)=Dg lo hi 1:=by rw[rangeSize_one];split <;> lia
  show IsRangeIter _ _ (lo+((0:Nat):Int)*1) ((((hi-lo).toNat:Nat):Int)-((0:Nat):Int)) 1;rw[e1,e2];exact AG _ rfl
 .have e:b=(s.heap.push { cls:=.type "range",data:=.fields #[.int lo t,.int hi u,.int 1 v] }).objs.size:=by simpa using hb
  subst e;exact I1.fpOk (Ah _) (I1.hok.fresh (Ah _))
noncomputable def iRng1(ta:TA):TI:=λσ H R=>ta σ H λvs H1=>∃j:Int,vs=[.int j]/\-(2 ^ 62)<=j/\j<2 ^ 62/\R (Itr 0 j.toNat) H1
noncomputable def iRng2(ta:TA):TI:=λσ H R=>ta σ H λvs H1=>∃i j:Int,vs=[.int i,.int j]/\(-(2 ^ 62)<=i/\i<2 ^ 62/\-(2 ^ 62)<=j/\j<2 ^ 62)/\R (Itr i (j-i).toNat) H1
theorem zca {a:Expr}{ta:TA}{p pos:Pos}(hg:Gl X "range") (hm:X.mg "range" = none) (ha:PA X [a] ta) (hs:AJ [a] X.env=[(false,eval a X.env)]:=by rfl):PI X tg (.Call (.Name "range" p) [a] [] pos) (iRng1 ta):=by
 intro pins s σ H R I h;refine Call_ (zbR I hg hm boot_range (AS (thn (ha pos pins s σ H _ I h) λus s1 ⟨vs,H1,I1,r1,q1⟩=>?_) hs rfl));obtain⟨j,e,q1,q2,q⟩:=q1;subst e
 cases r1 with
 |cons r rr =>
  cases rr
  obtain⟨t,rfl⟩:=r;exact call_range_1 (zhr I1 (by lia) (by lia) q1 q2 (by simpa using q))
theorem zdb {a b:Expr}{ta:TA}{p pos:Pos}(hg:Gl X "range") (hm:X.mg "range" = none) (ha:PA X [a, b] ta) (hs:AJ [a, b] X.env = [(false, eval a X.env), (false, eval b X.env)] := by rfl) (hs2:AJ [b] X.env = [(false, eval b X.env)] := by rfl) :
  PI X tg (.Call (.Name "range" p) [a,b] [] pos) (iRng2 ta):=by
 intro pins s σ H R I h;refine Call_ (zbR I hg hm boot_range (AS (thn (ha pos pins s σ H _ I h) λus s1 ⟨vs,H1,I1,r1,q1⟩=>?_) (by rw[hs,hs2]) (by rw[hs2];rfl)));obtain⟨i,j,e,⟨q1,q2,q3,q4⟩,q⟩:=q1;subst e
 cases r1 with
 |cons r rr =>
  cases rr with
  |cons r' rr =>
   cases rr
   obtain⟨t,rfl⟩:=r;obtain⟨t',rfl⟩:=r';exact call_range_2 (zhr I1 q1 q2 q3 q4 q)
noncomputable def tFor(wi:TI)(g:TG)(tb:TS):TS:=λD σ H=>wi σ H λJ H1=>∃W:Nat->Nat->St->Hp->Prop,(∃m,W 0 m σ H1)/\∀i m σ H,W i m σ H ->
 (J.stop i H/\D.nx σ H)∨(J.go i H/\∃N:St->Hp->Prop,(∀ σ' H',N σ' H'->∃m',m'<m/\W (i+1) m' σ' H')/\∀x H',J.yld i H x H'->g x σ H' λσ2 H2=>tb { D with nx:=N,ct:=N,bk:=D.nx } σ2 H2)
noncomputable def zdC(fp:List Addr)(h:Heap):List (Addr×Obj):=fp.filterMap λb=>(h.get? b).map λo=>(b,o)
theorem za0{fp:List Addr}{h:Heap}{b:Addr}{o:Obj}(hb:b∈fp)(e:h.get? b=some o):(b,o)∈zdC fp h:=List.mem_filterMap.mpr ⟨b,hb,by rw[e];rfl⟩
theorem zjh{fp:List Addr}{h:Heap}{p:Addr×Obj}(hp:p∈zdC fp h):p.1∈fp/\h.get? p.1=some p.2:=by
 obtain⟨b,hb,e⟩:=List.mem_filterMap.mp hp
 cases q:h.get? b with
 |none=>rw[q]at e;cases e
 |some o =>
  rw[q]at e;have e':(b,o)=p:=A2 e;subst e';exact⟨hb,q⟩
theorem Inv.pinned{pins:List (Addr×Obj)}{σ:St}{H:Hp}{s:Ae}{fp:List Addr}(I:Inv X pins σ H s)(hf:∀b∈fp,FpOk X pins H b)(ho:∀b∈fp,∃o,s.heap.get? b=some o/\∀v,o.data≠.cell v):Inv X (pins++zdC fp s.heap) σ H s :=
 I.pins_of λp hp=>(Ba.mp hp).elim (λz=>I.pin p (AA _ z)) λz=>by obtain⟨hb,e⟩:=zjh z;obtain⟨f0,f1,f2,_⟩:=hf p.1 hb;obtain⟨o,e',d⟩:=ho p.1 hb;rw[e]at e';cases e';exact⟨e,f0,f1,f2,d⟩
theorem Inv.unpinned{pins pl:List (Addr×Obj)}{σ:St}{H:Hp}{s:Ae}(I:Inv X (pins++pl) σ H s):Inv X pins σ H s:=I.pins_of λp hp=>I.pin p (AA _ (List.mem_append_left _ hp))
theorem zbq{iter:Expr}{body:List Stmt}{wi:TI}{g:TG}{tb:TS}{pos:Pos}(hp:PassesOwn (Av X.prog X.w) X.A X.env X.xe)(hc:X.calm=true)(hi:PI X tg iter wi)(hg:PG X tg g)(hb:PSs X body tb)
  (hs:∀x,Bb iter X.env x=pure x:=by intro _;rfl):PS X (.For tg iter body [] pos) (tFor wi g tb):=by
 intro pins s σ H D I h;refine wpAny_For (thn (hi pins s σ H _ I h) λv s1 h1=>thn h1 λitv s2 h2=>?_) hs;obtain⟨it,fp,tn,J,H2,e,I2,T,st2,f2,W,⟨m0,w0⟩,turn⟩:=h2;subst e;have stat:∀{H':Hp},(∀b∈fp,H' b=none)->∀b∈fp,FpOk X pins H' b:=λhn b hb=>⟨hn b hb,(f2 b hb).2⟩
 refine codeAny_forLoop_any (λn s'=>∃i σ' H',Inv X pins σ' H' s'/\tn i s'.heap/\(∀b∈fp,H' b=none)/\W i n σ' H') ?_ m0 ⟨0,σ,H2,I2,st2,λb hb=>(f2 b hb).1,w0⟩;rintro n s3 ⟨i,σ3,H3,I3,st3,fr3,w3⟩;rcases turn i n σ3 H3 w3 with⟨stop,qn⟩ |⟨go,N,hN,step⟩
 .refine B9 hp (thn (T.done X rfl rfl rfl hc i pins s3 σ3 H3 X.xe I3 (stat fr3) st3 stop) λr s4 ⟨hr,I4⟩=>?_);subst hr;exact wpAny_execs_nil ⟨σ3,H3,I4,qn⟩
 .refine B9 hp (thn (T.item X rfl rfl rfl hc i pins s3 σ3 H3 X.xe I3 (stat fr3) st3 go) λr s4 ⟨u,hr,h4⟩=>?_);subst hr;refine B9 hp (thn h4 λ_ s5 ⟨x,H5,I5,r5,y5,st5,fr5⟩=>?_);have I5':=I5.pinned (stat fr5) (T.obj _ _ st5);refine B9 hp (thn (hg _ s5 σ3 H5 x u _ I5' r5 (step x H5 y5)) λ_ s6 ⟨σ6,H6,I6,q6⟩=>?_);refine B9 hp (thn (hb _ s6 σ6 H6 _ I6 q6) λf s7 q7=>?_)
  have again:∀{σ7:St} {H7:Hp},Inv X (pins++zdC fp s5.heap) σ7 H7 s7->N σ7 H7->∃m,m<n/\∃i σ' H',Inv X pins σ' H' s7/\tn i s7.heap/\(∀b∈fp,H' b=none)/\W i m σ' H':=λ{σ7 H7} I7 n7=>by obtain⟨m',hm,w7⟩:=hN σ7 H7 n7;refine⟨m',hm,i+1,σ7,H7,I7.unpinned,T.keep _ _ _ st5 λb hb o e=>(I7.pin (b,o) (AA _ (AA _ (za0 hb e)))).1,λb hb=>?_,w7⟩;obtain⟨o,e,d⟩:=T.obj _ _ st5 b hb;exact (I7.pin (b,o) (AA _ (AA _ (za0 hb e)))).2.1
  cases f with
  |next=>obtain⟨σ7,H7,I7,n7⟩:=q7;exact again I7 n7
  |cont=>obtain⟨σ7,H7,I7,n7⟩:=q7;exact again I7 n7
  |brk=>obtain⟨σ7,H7,I7,q7⟩:=q7;exact⟨σ7,H7,I7.unpinned,q7⟩
  |ret v=>obtain⟨x7,σ7,H7,I7,r7,q7⟩:=q7;exact⟨x7,σ7,H7,I7.unpinned,r7,q7⟩
end
theorem zaz{K:W.Frag}{a:Addr}{xs:List V}{g:TG}{tb:TS}{D:Ends}{σ : St}{H:Hp}(Pv:Nat -> St -> Hp -> Prop)(h0:Pv 0 σ H)(hl:∀i σ H, i <= xs.length -> Pv i σ H -> SqL K H a xs)
  (hs:∀i x σ H,xs[i]?=some x->Pv i σ H->g x σ H λσ2 H2=>tb { D with nx:=Pv (i+1),ct:=Pv (i+1),bk:=D.nx } σ2 H2) (hd:∀ σ H,Pv xs.length σ H->D.nx σ H) :
  ∃W:Nat->Nat->St->Hp->Prop,(∃m,W 0 m σ H)/\∀i m σ H,W i m σ H ->
   ((Itl K a).stop i H/\D.nx σ H)∨((Itl K a).go i H/\∃N:St->Hp->Prop,(∀ σ' H',N σ' H'->∃m',m'<m/\W (i+1) m' σ' H')/\∀x H',(Itl K a).yld i H x H'->g x σ H' λσ2 H2=>tb { D with nx:=N,ct:=N,bk:=D.nx } σ2 H2):=by
 refine⟨λi m σ H=>m=xs.length-i/\i<=xs.length/\Pv i σ H,⟨xs.length,by simp,AV _,h0⟩,?_⟩;rintro i m σ H ⟨rfl,hi,p⟩;have q:=hl i σ H hi p
 by_cases hlt:i<xs.length
 .refine .inr ⟨⟨xs,xs[i],q,by simp[hlt]⟩,Pv (i+1),λσ' H' p'=>⟨xs.length-(i+1),by lia,rfl,hlt,p'⟩,λx H' y=>?_⟩;obtain⟨e,y⟩:=y;subst e;exact hs i x σ _ (y xs q) p
 .have e:i=xs.length:=by lia
  subst e;exact .inl ⟨⟨xs,q,Ah _⟩,hd σ H p⟩
theorem zgY{K:W.Frag}{a:Addr}{xs:List V}{g:TG}{tb:TS}{D:Ends}{σ : St}{H:Hp}(Pv:Nat -> St -> Hp -> Prop)(h0:Pv 0 σ H)(hl:∀i σ H, i <= xs.length -> Pv i σ H -> SqT K H a xs)
  (hs:∀i x σ H,xs[i]?=some x->Pv i σ H->g x σ H λσ2 H2=>tb { D with nx:=Pv (i+1),ct:=Pv (i+1),bk:=D.nx } σ2 H2) (hd:∀ σ H,Pv xs.length σ H->D.nx σ H) :
  ∃W:Nat->Nat->St->Hp->Prop,(∃m,W 0 m σ H)/\∀i m σ H,W i m σ H ->
   ((Itt K a).stop i H/\D.nx σ H)∨((Itt K a).go i H/\∃N:St->Hp->Prop,(∀ σ' H',N σ' H'->∃m',m'<m/\W (i+1) m' σ' H')/\∀x H',(Itt K a).yld i H x H'->g x σ H' λσ2 H2=>tb { D with nx:=N,ct:=N,bk:=D.nx } σ2 H2):=by
 refine⟨λi m σ H=>m=xs.length-i/\i<=xs.length/\Pv i σ H,⟨xs.length,by simp,AV _,h0⟩,?_⟩;rintro i m σ H ⟨rfl,hi,p⟩;have q:=hl i σ H hi p
 by_cases hlt:i<xs.length
 .refine .inr ⟨⟨xs,xs[i],q,by simp[hlt]⟩,Pv (i+1),λσ' H' p'=>⟨xs.length-(i+1),by lia,rfl,hlt,p'⟩,λx H' y=>?_⟩;obtain⟨e,y⟩:=y;subst e;exact hs i x σ _ (y xs q) p
 .have e:i=xs.length:=by lia
  subst e;exact .inl ⟨⟨xs,q,Ah _⟩,hd σ H p⟩
theorem zbd{lo:Int}{n:Nat}{g:TG}{tb:TS}{D:Ends}{σ : St}{H:Hp}(Pv:Nat -> St -> Hp -> Prop)(h0:Pv 0 σ H)
  (hs:∀i σ H,i<n->Pv i σ H->g (.int (lo+i)) σ H λσ2 H2=>tb { D with nx:=Pv (i+1),ct:=Pv (i+1),bk:=D.nx } σ2 H2) (hd:∀ σ H,Pv n σ H->D.nx σ H) :
  ∃W:Nat->Nat->St->Hp->Prop,(∃m,W 0 m σ H)/\∀i m σ H,W i m σ H ->
   ((Itr lo n).stop i H/\D.nx σ H)∨((Itr lo n).go i H/\∃N:St->Hp->Prop,(∀ σ' H',N σ' H'->∃m',m'<m/\W (i+1) m' σ' H')/\∀x H',(Itr lo n).yld i H x H'->g x σ H' λσ2 H2=>tb { D with nx:=N,ct:=N,bk:=D.nx } σ2 H2):=by
 refine⟨λi m σ H=>m=n-i/\i<=n/\Pv i σ H,⟨n,by simp,AV _,h0⟩,?_⟩;rintro i m σ H ⟨rfl,hi,p⟩
 by_cases hlt:i<n
 .refine .inr ⟨hlt,Pv (i+1),λσ' H' p'=>⟨n-(i+1),by lia,rfl,hlt,p'⟩,λx H' y=>?_⟩;obtain⟨e,y⟩:=y;subst e y;exact hs i σ _ hlt p
 .have e:i=n:=by lia
  subst e;exact .inl ⟨Ah _,hd σ H p⟩
theorem zj3{c:TT}{tb:TS}{D:Ends}{σ : St}{H:Hp}(Pv:St -> Hp -> Prop)(μ : St -> Hp -> Nat)(h0:Pv σ H)
  (hs:∀ σ H,Pv σ H->c σ H λb H1=>if b=true then tb { D with nx:=λσ' H'=>Pv σ' H'/\μ σ' H'<μ σ H,ct:=λσ' H'=>Pv σ' H'/\μ σ' H'<μ σ H,bk:=D.nx } σ H1 else D.nx σ H1)
  (mono:∀ σ H Q Q',(∀b H1,Q b H1->Q' b H1)->c σ H Q->c σ H Q'):zkC c tb D σ H:=by
 refine⟨λm σ H=>m=μ σ H/\Pv σ H,⟨_,rfl,h0⟩,?_⟩;rintro m σ H ⟨rfl,p⟩;refine mono σ H _ _ (λb H1 q=>?_) (hs σ H p)
 cases b with
 |true=>exact⟨_,λσ' H' ⟨p',l⟩=>⟨_,l,rfl,p'⟩,q⟩
 |false=>exact q
noncomputable abbrev R2:=V->V->Hp->VK->Prop
noncomputable def OpR(X:Cx)(f:Ad->Ad->Sem Ad)(r:R2):Prop :=
 ∀(pins:List (Addr×Obj)) (s:Ae) (σ:St) (H:Hp) (x y:V) (v u:Ad) (Q:VK),Inv X pins σ H s->RelV x v->RelV y u->r x y H Q ->
  Ar (Av X.prog X.w) X.A (f v u) (EP X pins σ Q) X.xe s
noncomputable def UnR(X:Cx)(f:Ad->Sem Ad)(r:V->Hp->VK->Prop):Prop :=
 ∀(pins:List (Addr×Obj)) (s:Ae) (σ:St) (H:Hp) (x:V) (v:Ad) (Q:VK),Inv X pins σ H s->RelV x v->r x H Q ->
  Ar (Av X.prog X.w) X.A (f v) (EP X pins σ Q) X.xe s
noncomputable def CallR(X:Cx)(f:Ad)(r:List V->Hp->VK->Prop):Prop :=
 ∀(pins:List (Addr×Obj)) (s:Ae) (σ:St) (H:Hp) (xs:List V) (us:List Ad) (Q:VK),Inv X pins σ H s->Vals xs us->r xs H Q ->
  Ar (Av X.prog X.w) X.A (call f us) (EP X pins σ Q) X.xe s
noncomputable def TruR(X:Cx)(r:V->Hp->(Bool->Hp->Prop)->Prop):Prop :=
 ∀(pins:List (Addr×Obj)) (s:Ae) (σ:St) (H:Hp) (x:V) (v:Ad) (Q:Bool->Hp->Prop),Inv X pins σ H s->RelV x v->r x H Q ->
  Ar (Av X.prog X.w) X.A (truthy v) (TP X pins σ Q) X.xe s
noncomputable def tOp(r:R2)(ta tb:TE):TE:=λσ H Q=>ta σ H λx H1=>tb σ H1 λy H2=>r x y H2 Q
noncomputable def tUn(r:V->Hp->VK->Prop)(ta:TE):TE:=λσ H Q=>ta σ H λx H1=>r x H1 Q
noncomputable def rI(C:Int->Int->Prop)(g:Int->Int->V):R2:=λx y H Q=>∃i j,x=.int i/\y=.int j/\C i j/\Q (g i j) H
noncomputable def rI0(g:Int->Int->V):R2:=λx y H Q=>∃i j,x=.int i/\y=.int j/\Q (g i j) H
noncomputable def rU(g:Int->V):V->Hp->VK->Prop:=λx H Q=>∃i,x=.int i/\Q (g i) H
section
variable {X:Cx}{a b c:Expr}{ta tb tc:TE}{pos:Pos}
theorem binT(ha:PE X a ta)(hb:PE X b tb){pins:List (Addr × Obj)}{s:Ae}{σ : St}{H:Hp}{R:V -> V -> Hp -> Prop}(I:Inv X pins σ H s)
  (h:ta σ H λx H1=>tb σ H1 λy H2=>R x y H2) {Q:Ad->Ae->Prop} {f:Ad->Ad->Sem Ad}
  (hf:∀v u s2 x y H2,Inv X pins σ H2 s2->RelV x v->RelV y u->R x y H2->Ar (Av X.prog X.w) X.A (f v u) Q X.xe s2) :
  Ar (Av X.prog X.w) X.A (eval a X.env) (λv s₁=>Ar (Av X.prog X.w) X.A (eval b X.env) (λu s₂=>Ar (Av X.prog X.w) X.A (f v u) Q X.xe s₂) X.xe s₁) X.xe s:=by
 refine thn (ha pins s σ H _ I h) λv s1 ⟨x,H1,I1,r1,q1⟩=>?_
 refine thn (hb pins s1 σ H1 _ I1 q1) λu s2 ⟨y,H2,I2,r2,q2⟩=>?_
 exact hf v u s2 x y H2 I2 r1 r2 q2
theorem pe_op{op:Operator}{r:R2}(ho:OpR X (binaryOp op) r)(ha:PE X a ta)(hb:PE X b tb):PE X (.BinOp a op b pos) (tOp r ta tb):=by intro pins s σ H Q I h;exact wpAny_BinOp (binT ha hb I h λv u s2 x y H2 I2 rx ry q=>ho pins s2 σ H2 x y v u Q I2 rx ry q)
theorem pe_un{op:UnaryOp}{r:V->Hp->VK->Prop}(ho:UnR X (unaryOp op) r)(ha:PE X a ta):PE X (.UnaryOp op a pos) (tUn r ta):=by intro pins s σ H Q I h;exact UnaryOp_ (thn (ha pins s σ H _ I h) λv s1 ⟨x,H1,I1,r1,q1⟩=>ho pins s1 σ H1 x v Q I1 r1 q1)
theorem opI{f:Ad -> Ad -> Sem Ad}{C:Int -> Int -> Prop}{g:Int -> Int -> Int}
  (rule:∀(i j:Int) (t u:Tok) (s:Ae) (Q:Ad->Ae->Prop) (E:Ad->Ae->Prop),C i j->Q (.int (g i j) s.toks) { s with toks:=s.toks+1 }->Ar (Av X.prog X.w) X.A (f (.int i t) (.int j u)) Q E s) :
  OpR X f (rI C λi j=>.int (g i j)):=by
 intro pins s σ H x y v u Q I rx ry h;obtain⟨i,j,rfl,rfl,hc,q⟩:=h;obtain⟨t,rfl⟩:=rx;obtain⟨t',rfl⟩:=ry;exact rule i j t t' s _ _ hc ⟨.int (g i j),H,I.tok _,⟨_,rfl⟩,q⟩
theorem opI0{f:Ad -> Ad -> Sem Ad}{g:Int -> Int -> Int}
  (rule:∀(i j:Int) (t u:Tok) (s:Ae) (Q:Ad->Ae->Prop) (E:Ad->Ae->Prop),Q (.int (g i j) s.toks) { s with toks:=s.toks+1 }->Ar (Av X.prog X.w) X.A (f (.int i t) (.int j u)) Q E s) :
  OpR X f (rI0 λi j=>.int (g i j)):=by
 intro pins s σ H x y v u Q I rx ry h;obtain⟨i,j,rfl,rfl,q⟩:=h;obtain⟨t,rfl⟩:=rx;obtain⟨t',rfl⟩:=ry;exact rule i j t t' s _ _ ⟨.int (g i j),H,I.tok _,⟨_,rfl⟩,q⟩
theorem opB0{f:Ad -> Ad -> Sem Ad}{g:Int -> Int -> Bool}
  (rule:∀(i j:Int) (t u:Tok) (s:Ae) (Q:Ad->Ae->Prop) (E:Ad->Ae->Prop),Q (.bool (g i j)) s->Ar (Av X.prog X.w) X.A (f (.int i t) (.int j u)) Q E s) :
  OpR X f (rI0 λi j=>.bl (g i j)):=by
 intro pins s σ H x y v u Q I rx ry h;obtain⟨i,j,rfl,rfl,q⟩:=h;obtain⟨t,rfl⟩:=rx;obtain⟨t',rfl⟩:=ry;exact rule i j t t' s _ _ ⟨.bl (g i j),H,I,rfl,q⟩
noncomputable def CDiv(i j:Int):Prop:=0<j/\j<1073741824
noncomputable def CPow(i j:Int):Prop:=0<=j/\j<=1000000/\i.natAbs<2 ^ 64
noncomputable def CMul(i j:Int):Prop:=(-(2 ^ 64)<i/\i<2 ^ 64)∨(-(2 ^ 64)<j/\j<2 ^ 64)
theorem CMul.ok{i j:Int}(h:CMul i j):IntMulOk i j:=by
 rcases h with⟨h1,h2⟩ |⟨h1,h2⟩
 .exact .of_left (intBits_le_64 h1 h2)
 .exact .of_right (intBits_le_64 h1 h2)
theorem zaK:OpR X (binaryOp .Add) (rI0 λi j=>.int (i+j)):=opI0 λ_ _ _ _ _ _ _ q=>add_int q
theorem zay:OpR X (binaryOp .Sub) (rI0 λi j=>.int (i-j)):=opI0 λ_ _ _ _ _ _ _ q=>sub_int q
theorem zaJ:OpR X (binaryOp .Mult) (rI CMul λi j=>.int (i*j)):=opI λ_ _ _ _ _ _ _ hc q=>mul_int q hc.ok
theorem zlu:OpR X (binaryOp .FloorDiv) (rI CDiv λi j=>.int (i / j)):=opI λi j _ _ _ _ _ hc q=>by have h1:(0:Int)<j:=hc.1;have h2:j<1073741824:=hc.2;exact floordiv_int (by lia) (by rw[Int.fdiv_eq_ediv_of_nonneg i (by lia)];exact q) (.inl (PyProof.noPylong_small (by lia)))
theorem zbY:OpR X (binaryOp .Mod) (rI (λ_ j=>0<j) λi j=>.int (i % j)):=opI λi j _ _ _ _ _ hc q=>by have h1:(0:Int)<j:=hc;exact mod_int' (by lia) (by rw[Int.fmod_eq_emod_of_nonneg i (by lia)];exact q)
theorem zeU:OpR X (binaryOp .Pow) (rI CPow λi j=>.int (i ^ j.toNat)):=opI λ_ _ _ _ _ _ _ hc q=>pow_int_small hc.1 hc.2.1 hc.2.2 q
theorem unI{f:Ad -> Sem Ad}{g:Int -> Int}
  (rule:∀(i:Int) (t:Tok) (s:Ae) (Q:Ad->Ae->Prop) (E:Ad->Ae->Prop),Q (.int (g i) s.toks) { s with toks:=s.toks+1 }->Ar (Av X.prog X.w) X.A (f (.int i t)) Q E s) :
  UnR X f (rU λi=>.int (g i)):=by
 intro pins s σ H x v Q I rx h;obtain⟨i,rfl,q⟩:=h;obtain⟨t,rfl⟩:=rx;exact rule i t s _ _ ⟨.int (g i),H,I.tok _,⟨_,rfl⟩,q⟩
theorem zct:UnR X (unaryOp .USub) (rU λi=>.int (-i)):=unI λ_ _ _ _ _ q=>neg_int q
end
noncomputable def scal:V->V->Bool
 |.non,.non=>true |.non,.int _=>true |.int _,.non=>true |.non,.bl _=>true |.bl _,.non=>true |.non,.str _=>true |.str _,.non=>true
 |.int _,.int _=>true |.bl _,.bl _=>true |.str _,.str _=>true |.byt _,.byt _=>true
 |.int _,.str _=>true |.str _,.int _=>true |.bl _,.str _=>true |.str _,.bl _=>true
 |_,_=>false
noncomputable def rEq:R2:=λx y H Q=>scal x y=true/\Q (.bl (decide (x=y))) H
noncomputable def rNe:R2:=λx y H Q=>scal x y=true/\Q (.bl (!decide (x=y))) H
theorem zjE{i j:Int}:decide (V.int i=V.int j)=(i == j):=by rw[Ca];simp
theorem zkW{i j:Bool}:decide (V.bl i=V.bl j)=(i == j):=by rw[Ca];simp
theorem zjD{i j:Str}:decide (V.str i=V.str j)=(i == j):=by rw[Ca];simp
theorem zjF{i j:Array UInt8}:decide (V.byt i=V.byt j)=(i.toList == j.toList):=by
 rw[Ca]
 cases i
 cases j
 simp
section
variable {X:Cx}{a b c:Expr}{ta tb tc:TE}{pos:Pos}
theorem zaO{pins:List (Addr×Obj)}{σ:St}{H:Hp}{s:Ae}{Q:VK}{k k':Bool}(I:Inv X pins σ H s)(q:Q (.bl k) H)(e:k=k'):EP X pins σ Q (.bool k') s:=by subst e;exact⟨.bl k,H,I,rfl,q⟩
theorem op_eq:OpR X (Bu .Eq) rEq:=by
 intro pins s σ H x y v u Q I rx ry h;obtain⟨hs,q⟩:=h
 cases x with
 |non =>
  cases rx
  cases y with
  |non=>cases ry;exact PySem.EqNone.eq_none_none (zaO I q (by simp))
  |bl j=>cases ry;exact PySem.EqNone.eq_none_bool (zaO I q (by simp))
  |int j=>obtain⟨t',rfl⟩:=ry;exact PySem.EqNone.eq_none_int (zaO I q (by simp))
  |str j=>obtain⟨t',rfl⟩:=ry;exact PySem.EqNone.eq_none_str (zaO I q (by simp))
  |_=>exact absurd (show false=true from hs) Aw
 |bl i =>
  cases rx
  cases y with
  |non=>cases ry;exact PySem.EqNone.eq_bool_none (zaO I q (by simp))
  |bl j=>cases ry;exact eq_bool (zaO I q zkW)
  |str j=>obtain⟨t',rfl⟩:=ry;exact PySem.EqMixed.eq_bool_str (zaO I q (by simp))
  |_=>exact absurd (show false=true from hs) Aw
 |int i =>
  obtain⟨t,rfl⟩:=rx
  cases y with
  |non=>cases ry;exact PySem.EqNone.eq_int_none (zaO I q (by simp))
  |int j=>obtain⟨t',rfl⟩:=ry;exact eq_int (zaO I q zjE)
  |str j=>obtain⟨t',rfl⟩:=ry;exact PySem.EqMixed.eq_int_str (zaO I q (by simp))
  |_=>exact absurd (show false=true from hs) Aw
 |str i =>
  obtain⟨t,rfl⟩:=rx
  cases y with
  |non=>cases ry;exact PySem.EqNone.eq_str_none (zaO I q (by simp))
  |bl j=>cases ry;exact PySem.EqMixed.eq_str_bool (zaO I q (by simp))
  |int j=>obtain⟨t',rfl⟩:=ry;exact PySem.EqMixed.eq_str_int (zaO I q (by simp))
  |str j=>obtain⟨t',rfl⟩:=ry;exact eq_str (zaO I q zjD)
  |_=>exact absurd (show false=true from hs) Aw
 |byt i =>
  obtain⟨t,rfl⟩:=rx
  cases y with
  |byt j=>obtain⟨t',rfl⟩:=ry;exact W.eq_bytes (zaO I q zjF)
  |_=>exact absurd (show false=true from hs) Aw
 |_=>cases y <;> exact absurd (show false=true from hs) Aw
theorem op_ne:OpR X (Bu .NotEq) rNe:=by
 intro pins s σ H x y v u Q I rx ry h;obtain⟨hs,q⟩:=h
 cases x with
 |non =>
  cases rx
  cases y with
  |non=>cases ry;exact PySem.EqNone.ne_none_none (zaO I q (by simp))
  |bl j=>cases ry;exact PySem.EqNone.ne_none_bool (zaO I q (by simp))
  |int j=>obtain⟨t',rfl⟩:=ry;exact PySem.EqNone.ne_none_int (zaO I q (by simp))
  |str j=>obtain⟨t',rfl⟩:=ry;exact PySem.EqNone.ne_none_str (zaO I q (by simp))
  |_=>exact absurd (show false=true from hs) Aw
 |bl i =>
  cases rx
  cases y with
  |non=>cases ry;exact PySem.EqNone.ne_bool_none (zaO I q (by simp))
  |bl j=>cases ry;exact ne_bool (zaO I q (congrArg not zkW))
  |str j=>obtain⟨t',rfl⟩:=ry;exact PySem.EqMixed.ne_bool_str (zaO I q (by simp))
  |_=>exact absurd (show false=true from hs) Aw
 |int i =>
  obtain⟨t,rfl⟩:=rx
  cases y with
  |non=>cases ry;exact PySem.EqNone.ne_int_none (zaO I q (by simp))
  |int j=>obtain⟨t',rfl⟩:=ry;exact ne_int (zaO I q (congrArg not zjE))
  |str j=>obtain⟨t',rfl⟩:=ry;exact PySem.EqMixed.ne_int_str (zaO I q (by simp))
  |_=>exact absurd (show false=true from hs) Aw
 |str i =>
  obtain⟨t,rfl⟩:=rx
  cases y with
  |non=>cases ry;exact PySem.EqNone.ne_str_none (zaO I q (by simp))
  |bl j=>cases ry;exact PySem.EqMixed.ne_str_bool (zaO I q (by simp))
  |int j=>obtain⟨t',rfl⟩:=ry;exact PySem.EqMixed.ne_str_int (zaO I q (by simp))
  |str j=>obtain⟨t',rfl⟩:=ry;exact ne_str (zaO I q (congrArg not zjD))
  |_=>exact absurd (show false=true from hs) Aw
 |byt i =>
  obtain⟨t,rfl⟩:=rx
  cases y with
  |byt j=>obtain⟨t',rfl⟩:=ry;exact W.ne_bytes (zaO I q (congrArg not zjF))
  |_=>exact absurd (show false=true from hs) Aw
 |_=>cases y <;> exact absurd (show false=true from hs) Aw
theorem op_lt:OpR X (Bu .Lt) (rI0 λi j=>.bl (decide (i<j))):=opB0 λ_ _ _ _ _ _ _ q=>lt_int q
theorem op_le:OpR X (Bu .LtE) (rI0 λi j=>.bl (decide (i<=j))):=opB0 λ_ _ _ _ _ _ _ q=>le_int q
theorem op_gt:OpR X (Bu .Gt) (rI0 λi j=>.bl (decide (j<i))):=opB0 λ_ _ _ _ _ _ _ q=>gt_int q
theorem op_ge:OpR X (Bu .GtE) (rI0 λi j=>.bl (decide (j<=i))):=opB0 λ_ _ _ _ _ _ _ q=>ge_int q
theorem zkP:OpR X (Bu .Is) (λx y H Q=>y=.non/\Q (.bl (decide (x=.non))) H):=by
 intro pins s σ H x y v u Q I rx ry h;obtain⟨rfl,q⟩:=h
 cases ry
 refine is_none_gen (zaO I q ?_)
 cases x <;> first
  | (cases rx;rfl)
  | (obtain⟨t,rfl⟩:=rx;rfl)
theorem zjc:OpR X (Bu .IsNot) (λx y H Q=>y=.non/\Q (.bl (!decide (x=.non))) H):=by
 intro pins s σ H x y v u Q I rx ry h;obtain⟨rfl,q⟩:=h
 cases ry
 refine isnot_none_gen (zaO I q ?_)
 cases x <;> first
  | (cases rx;rfl)
  | (obtain⟨t,rfl⟩:=rx;rfl)
theorem zaq(b:Expr){op:CmpOp}(h:op≠.In:=by decide)(h2:op≠.NotIn:=by decide):behindInMarks op b=false:=by
 have e1:(op == CmpOp.In)=false:=by cases op <;> first |rfl |exact absurd rfl h
 have e2:(op == CmpOp.NotIn)=false:=by cases op <;> first |rfl |exact absurd rfl h2
 cases b <;> simp[behindInMarks,e1,e2]
theorem zaQ{op:CmpOp}{r:R2}(ho:OpR X (Bu op) r)(ha:PE X a ta)(hb:PE X b tb)(hm:behindInMarks op b=false):PE X (.Compare a [op] [b] pos) (tOp r ta tb):=by intro pins s σ H Q I h;exact wpAny_Compare1 (binT ha hb I h λv u s2 x y H2 I2 rx ry q=>ho pins s2 σ H2 x y v u Q I2 rx ry q) hm
noncomputable def tTest(t:TE):TT:=λσ H Q=>t σ H λx H'=>∃k,x=.bl k/\Q k H'
theorem zav{op:CmpOp}{r:R2}(ho:OpR X (Bu op) r)(ha:PE X a ta)(hb:PE X b tb)(hm:behindInMarks op b=false):PT X (.Compare a [op] [b] pos) (tTest (tOp r ta tb)):=by
 intro pins s σ H Q I h
 refine wpAny_isTrue_Compare1 (thn (ha pins s σ H _ I h) λv s1 ⟨x,H1,I1,r1,q1⟩=>thn (hb pins s1 σ H1 _ I1 q1) λu s2 ⟨y,H2,I2,r2,q2⟩ =>
  thn (ho pins s2 σ H2 x y v u _ I2 r1 r2 q2) λc s3 ⟨z,H3,I3,r3,k,e,q3⟩=>?_) hm
 subst e
 cases r3
 exact Bw ⟨H3,I3,q3⟩
noncomputable def TruV(K:W.Frag)(x:V)(H:Hp)(k:Bool):Prop :=
 match x with
 |.non=>k=false
 |.bl b=>k=b
 |.int i=>k=(i != 0)
 |.str y=>y.length<=sizeLine/\k=((y.length:Int) != 0)
 |.byt y=>y.size<=sizeLine/\k=((y.size:Int) != 0)
 |.ref p=>(∃xs,SqL K H p xs/\k=!xs.isEmpty)∨(∃xs,SqT K H p xs/\k=!xs.isEmpty)∨∃kvs,H p=some (.dK kvs)/\k=!kvs.isEmpty
 |_=>False
theorem zii{κ:Type}{kvs:List (κ×V)}{vs:List (κ×Ad)}(r:KV kvs vs):(!vs.isEmpty)=!kvs.isEmpty:=by
 cases r <;> rfl
theorem zeX{xs:List V}{its:List Ad}(r:Vals xs its):(!its.toArray.isEmpty)=!xs.isEmpty:=by
 cases r <;> simp
theorem zf7:(sizeLine:Nat)<2 ^ 63:=by rw[sizeLine_eq];decide
theorem zl0:TruR X (λx H Q=>∃k,TruV X.K x H k/\Q k H):=by
 intro pins s σ H x v Q I rx h;obtain⟨k,e,q⟩:=h;have hl:=zf7;have hs:sizeLine=16777216:=sizeLine_eq
 cases x with
 |non =>
  cases rx
  have e':k=false:=e;subst e';exact truthy_none ⟨H,I,q⟩
 |bl b =>
  cases rx
  have e':k=b:=e;subst e';exact Bw ⟨H,I,q⟩
 |int i =>
  obtain⟨t,rfl⟩:=rx;have e':k=(i != 0):=e;subst e';exact PySem.P.truthy_int ⟨H,I,q⟩
 |str y =>
  obtain⟨t,rfl⟩:=rx;obtain⟨hy,e'⟩:y.length<=sizeLine/\k=((y.length:Int) != 0):=e;subst e';exact PySem.P.truthy_str (by lia) ⟨H,I.tok _,q⟩
 |byt y =>
  obtain⟨t,rfl⟩:=rx;obtain⟨hy,e'⟩:y.size<=sizeLine/\k=((y.size:Int) != 0):=e;subst e';exact W.truthy_bytes (by lia) ⟨H,I.tok _,q⟩
 |ref p =>
  cases rx
  have e':(∃xs,SqL X.K H p xs/\k=!xs.isEmpty)∨(∃xs,SqT X.K H p xs/\k=!xs.isEmpty)∨∃kvs,H p=some (.dK kvs)/\k=!kvs.isEmpty:=e;rcases e' with⟨xs,hx,e'⟩ |⟨xs,hx,e'⟩ |⟨kvs,hx,e'⟩
  .subst e';obtain⟨its,r,pl,hz⟩:=I.list hx;have hlen:=r.length;exact wpAny_truthy_list pl.isList (by simp only[An];lia) ⟨H,I.tok _,by rw[zeX r];exact q⟩
  .subst e';obtain⟨its,r,pl,hz⟩:=I.tuple hx;have hlen:=r.length;exact truthy_tuple pl (by simp only[An];lia) ⟨H,I.tok _,by rw[zeX r];exact q⟩
  .subst e';obtain⟨hz,hS,vs,r,m⟩:kvs.length<=sizeLine/\(p == Cv)=false/\∃vs,KV kvs vs/\s.heap.DictOf (za6 X.prog X.w) p vs:=I.hok p _ hx;have hlen:kvs.length=vs.length:=Paired.length r;exact wpAny_truthy_dict hS m (by lia) ⟨H,I.tok _,by rw[zii r];exact q⟩
 |_=>exact (show False from e).elim
theorem zke(ha:PE X a ta)(he:∀whole, isTrue a X.env whole=(do let v <- whole; standAt a.pos; C1 [v] (truthy v))) :
  PT X a (λσ H Q=>ta σ H λx H'=>∃k,TruV X.K x H' k/\Q k H'):=by
 intro pins s σ H Q I h;exact isTrue_plain (thn (ha pins s σ H _ I h) λv s1 ⟨x,H1,I1,r1,q1⟩=>zl0 pins s1 σ H1 x v Q I1 r1 q1) (he _)
theorem vals1{x:V}{us:List Ad}(r:Vals [x] us):∃u,us=[u]/\RelV x u:=by
 cases r with
 |cons r1 r2=>cases r2;exact⟨_,rfl,r1⟩
theorem vals2{x y:V}{us:List Ad}(r:Vals [x,y] us):∃u w',us=[u,w']/\RelV x u/\RelV y w':=by
 cases r with
 |cons r1 r2 =>
  cases r2 with
  |cons r3 r4=>cases r4;exact⟨_,_,rfl,r1,r3⟩
theorem zhS:CallR X (.builtin "abs") (λxs H Q=>∃i,xs=[.int i]/\Q (.int (if i<0 then -i else i)) H):=by intro pins s σ H xs us Q I r h;obtain⟨i,rfl,q⟩:=h;obtain⟨u,rfl,t,rfl⟩:=vals1 r;exact call_abs_int λu tk=>⟨.int (if i<0 then -i else i),H,I.tok _,⟨_,rfl⟩,q⟩
theorem zjR (hc:X.calm=true):CallR X (.builtin "max") (λxs H Q=>∃i j,xs=[.int i,.int j]/\Q (.int (if j > i then j else i)) H):=by
 intro pins s σ H xs us Q I r h;obtain⟨i,j,rfl,q⟩:=h;obtain⟨u,w',rfl,⟨t,rfl⟩,⟨t',rfl⟩⟩:=vals2 r;refine max_two_ints (I.ok.hd hc) λh' tk k=>⟨_,H,I.kept k,?_,q⟩
 by_cases hj:j > i
 .rw[if_pos hj,if_pos hj];exact⟨_,rfl⟩
 .rw[if_neg hj,if_neg hj];exact⟨_,rfl⟩
theorem zjQ (hc:X.calm=true):CallR X (.builtin "min") (λxs H Q=>∃i j,xs=[.int i,.int j]/\Q (.int (if j<i then j else i)) H):=by
 intro pins s σ H xs us Q I r h;obtain⟨i,j,rfl,q⟩:=h;obtain⟨u,w',rfl,⟨t,rfl⟩,⟨t',rfl⟩⟩:=vals2 r;refine min_two_ints (I.ok.hd hc) λh' tk k=>⟨_,H,I.kept k,?_,q⟩
 by_cases hj:j<i
 .rw[if_pos hj,if_pos hj];exact⟨_,rfl⟩
 .rw[if_neg hj,if_neg hj];exact⟨_,rfl⟩
theorem zdj:CallR X (.type "int") (λxs H Q=>(∃i,xs=[.int i]/\Q (.int i) H)∨∃k,xs=[.bl k]/\Q (.int (if k then 1 else 0)) H):=by
 intro pins s σ H xs us Q I r h;rcases h with⟨i,rfl,q⟩ |⟨k,rfl,q⟩
 .obtain⟨u,rfl,t,rfl⟩:=vals1 r;exact call_int_int ⟨.int i,H,I,⟨_,rfl⟩,q⟩
 .obtain⟨u,rfl,r1⟩:=vals1 r
  cases r1
  exact call_int_bool ⟨.int (if k then 1 else 0),H,I.tok _,⟨_,rfl⟩,q⟩
end
structure ObjM (h:Heap) (x dx C:Addr) (mA:Str->Option Ad):Prop where
 obj:h.get? x=some (W.instObj C dx)
 ns:h.Ns1 dx mA
 ne:dx≠x
theorem zjq{h:Heap}{dx:Addr}{mA:Str->Option Ad}(n:h.Ns1 dx mA):∃od,h.get? dx=some od/\∀name,W.lookIn name od=some (mA name):=by
 obtain⟨o,es,ep,ho,hd,hk,_,hm⟩:=n;refine⟨o,ho,λname=>?_⟩;have e:=hm name;unfold nsFind findBy at e;rw[<- Array.find?_toList]at e;unfold W.lookIn;rw[hd];dsimp only;split
 .rename_i y q
  rw[q]at e;exact congrArg some e
 .rename_i q
  rw[q]at e
  have a:es.toList.any (·.refKey)=false:=by rw[List.any_eq_false];intro y hy;obtain⟨z,t,hkey⟩:=hk y (Array.mem_toList_iff.mp hy);simp[DictEntry.refKey,hkey]
  have a':¬ es.toList.any (·.refKey)=true:=by rw[a];exact Aw
  rw[if_neg a'];exact congrArg some e
theorem ObjM.look{h:Heap}{x dx C:Addr}{mA:Str->Option Ad}(I:ObjM h x dx C mA):∃od,W.InstAt h x (W.instObj C dx) C (some od)/\∀name,W.lookIn name od=some (mA name) :=
 let ⟨od,ho,hl⟩:=zjq I.ns
 ⟨od,⟨I.obj,rfl,rfl,ho⟩,hl⟩
section
variable {prog:AK}{w:A1}{A:AQ}{E:Ad->Ae->Prop}{s:Ae}{K:W.Frag}{x dx C f:Addr}{mA:Str->Option Ad}{name:Str}{v:Ad}
end
section
variable {P:AK}{w:A1}{H H':Hp}{h h':Heap}{a C dx:Addr}{fs fs':List (Str×V)}
theorem zlK(hok:HOk P w H h)(e:H a=some (.ins C dx fs)):∃mA,ObjM h a dx C mA/\(∀f,RelO (fs.lookup f) (mA f))/\PySem.Within mA (fs.map (·.1))/\fs.length<=1000/\H dx=some (.own a):=by obtain⟨d,z,ne,ob,mA,n,r,q⟩:=(show ObjOk P w H h a (.ins C dx fs) from hok a _ e);exact⟨mA,⟨ob,n,ne⟩,r,q,z,d⟩
end
structure Cls (K:W.Frag) (C:Addr):Prop where
 pg:W.plainGet K C Str.empty=true
 hd:W.hasDictIn K C=true
 po:W.plainOver K C=true
 sa:W.findIn K (.ref C) "__setattr__" = some (some (.builtin "object.__setattr__"))
theorem Cls.get{K:W.Frag}{C:Addr}(c:Cls K C)(f:Str):W.plainGet K C f=true:=c.pg
structure Con (K:W.Frag) (C:Addr) (f:Str) (v:V) (u:Ad):Prop where
 at_:W.findIn K (.ref C) f=some (some u)
 rel:RelV v u
 get:W.specialIn K u "__get__" = some none
 cp:W.copiedNames.contains f=false
structure Meth (K:W.Frag) (C:Addr) (m:Str) (f:Addr):Prop where
 at_:W.findIn K (.ref C) m=some (some (.ref f))
 fn:W.isFn K (.ref f)=true
 kp:W.keepIn K (.ref f)=true
section
variable {X:Cx}{pins:List (Addr×Obj)}{σ:St}{H:Hp}{s:Ae}{a C dx:Addr}{fs:List (Str×V)}{f:Str}{v:V}{A:AQ}{E:Ad->Ae->Prop}
end
section
variable {X:Cx}{o e value:Expr}{f:Str}{pos pos' tpos:Pos}{ta tv:TE}
end
section
variable {X:Cx}{pins:List (Addr×Obj)}{σ:St}{H:Hp}{s:Ae}{A:AQ}{E:Ad->Ae->Prop}{Q:Ad->Ae->Prop}{c:Ad}{b:Bool}
inductive TyOf (K:W.Frag) (H:Hp):V->Ad->Prop where
  |non:TyOf K H .non (.type "NoneType")
  |bl (x:Bool):TyOf K H (.bl x) (.type "bool")
  |int (i:Int):TyOf K H (.int i) (.type "int")
  |str (x:Str):TyOf K H (.str x) (.type "str")
  |flt (x:UInt64):TyOf K H (.flt x) (.type "float")
  |lst {a:Addr} {xs:List V} (e:H a=some (.lst xs)):TyOf K H (.ref a) (.type "list")
  |frz {a:Addr} {o:Obj} {xs:List V} (e:H a=some (.frz o (.lst xs))):TyOf K H (.ref a) (.type "list")
  |tup {a:Addr} {xs:List V} (e:H a=some (.tup xs)):TyOf K H (.ref a) (.type "tuple")
  |dK {a:Addr} {kvs:List (Key×V)} (e:H a=some (.dK kvs)):TyOf K H (.ref a) (.type "dict")
  |dT {a:Addr} {kvs:List (List Key×V)} (e:H a=some (.dT kvs)):TyOf K H (.ref a) (.type "dict")
  |ins {a C dx:Addr} {fs:List (Str × V)} (e:H a=some (.ins C dx fs)) (cl:Cls K C) (ha:W.findIn K (.ref C) "__class__" = some (some (.builtin "object.__class__")))
      (hn:W.specialIn K (.builtin "object.__class__") "__get__" = some (some (.builtin "getset_descriptor.__get__"))) (htk:W.takesIn K (.builtin "object.__class__")=some true)
      (hm:W.mroIn K C (.type "object")=some true):TyOf K H (.ref a) (.ref C)
theorem zjy{x:V}{u t:Ad}(I:Inv X pins σ H s)(rx:RelV x u)(ty:TyOf X.K H x t)(e:W.kitOne X.K t c=some b)(h:∀tk, Q (.bool b) { s with toks := tk }) :
  Ar (Av X.prog X.w) A (call (.builtin "isinstance") [u,c]) Q E s:=by
 cases ty with
 |non=>cases (show u=CK from rx);exact CB W.kitx_none I.kIn BZ e (λz=>nomatch z) h
 |bl y=>cases (show u=C9 y from rx);exact CB W.kitx_bool I.kIn BZ e (λz=>nomatch z) h
 |int i=>obtain⟨t,q⟩:=(show ∃t,u=Value.int i t from rx);cases q;exact CB W.kitx_int I.kIn BZ e (λz=>nomatch z) h
 |str y=>obtain⟨t,q⟩:=(show ∃t,u=Value.str y t from rx);cases q;exact CB W.kitx_str I.kIn BZ e (λz=>nomatch z) h
 |flt y=>obtain⟨t,q⟩:=(show ∃t,u=Value.float y t from rx);cases q;exact CB W.kitx_float I.kIn BZ e (λz=>nomatch z) h
 |@lst a xs ea =>
  cases (show u=AB a from rx)
  obtain⟨_,_,n,_,h1⟩:=(show ObjOk X.prog X.w H s.heap a (.lst xs) from I.hok a _ ea);exact CB W.kitx_list I.kIn ⟨_,h1,rfl⟩ e (λz=>nomatch z) h
 |@frz a ob xs ea =>
  cases (show u=AB a from rx)
  obtain⟨_,_,_,n,_,h1⟩:=(show ObjOk X.prog X.w H s.heap a (.frz ob (.lst xs)) from I.hok a _ ea);exact CB W.kitx_list I.kIn ⟨_,h1,rfl⟩ e (λz=>nomatch z) h
 |@tup a xs ea =>
  cases (show u=AB a from rx)
  obtain⟨_,_,_,p⟩:=(show ObjOk X.prog X.w H s.heap a (.tup xs) from I.hok a _ ea);obtain⟨o,h1,h2,_⟩:=p;exact CB W.kitx_tuple I.kIn ⟨o,h1,h2⟩ e (λz=>nomatch z) h
 |@dK a kvs ea =>
  cases (show u=AB a from rx)
  obtain⟨_,_,vs,_,p⟩:=(show ObjOk X.prog X.w H s.heap a (.dK kvs) from I.hok a _ ea);obtain⟨o,es,ep,h1,h2,_⟩:=p;exact CB W.kitx_dict I.kIn ⟨o,h1,h2.1⟩ e (λz=>nomatch z) h
 |@dT a kvs ea =>
  cases (show u=AB a from rx)
  obtain⟨_,_,xs,_,o,es,ep,h1,h2,_⟩:=(show ObjOk X.prog X.w H s.heap a (.dT kvs) from I.hok a _ ea);exact CB W.kitx_dict I.kIn ⟨o,h1,h2.1⟩ e (λz=>nomatch z) h
 |@ins a C dx fs ea cl ha hn htk hm =>
  cases (show u=AB a from rx)
  obtain⟨mA,O,_⟩:=zlK I.hok ea;obtain⟨od,J,_⟩:=O.look;exact CB (W.kitx_own (cl.get _) cl.hd ha hn htk hm) I.kIn J e (λz=>nomatch z) h
end
structure Room (k:Nat) (A:AQ):Prop where
 hd:A.handled=none
 dp:A.depth+3*k+5<recursionLimit
 un:A.units+16*k+200<cLine
 gd:A.guards=some []
theorem Room.mono{j k:Nat}{A:AQ}(r:Room k A)(h:j<=k):Room j A:=⟨r.hd,by have:=r.dp;lia,by have:=r.un;lia,r.gd⟩
theorem Room.deeper{k:Nat}{A:AQ}(r:Room (k+1) A)(env:Env):Room k (A.deeper env) :=
 ⟨r.hd,by have:=r.dp;show A.depth+1+3*k+5<_;lia,by have:=r.un;show A.units+3+16*k+200<_;lia,r.gd⟩
theorem Room.in1{k:Nat}{A:AQ}(r:Room (k+1) A):Room k A.in1 :=
 ⟨r.hd,by have:=r.dp;show A.depth+3*k+5<_;lia,by have:=r.un;show A.units+1+16*k+200<_;lia,r.gd⟩
theorem Room.depth{k:Nat}{A:AQ}(r:Room k A):A.depth<recursionLimit:=by have:=r.dp;lia
theorem Room.units{k:Nat}{A:AQ}(r:Room k A):A.units+64<cLine:=by have:=r.un;lia
theorem Room.units0{k:Nat}{A:AQ}(r:Room k A):A.units<cLine:=by have:=r.un;lia
noncomputable def tNil:TA:=λ_ H Q=>Q [] H
noncomputable def tCons(ta:TE)(tr:TA):TA:=λσ H Q=>ta σ H λx H1=>tr σ H1 λxs H2=>Q (x::xs) H2
section
variable {X:Cx}{e:Expr}{es:List Expr}{te:TE}{t:TA}{pos:Pos}
theorem zab:PA X [] tNil:=λ_ _ _ _ H Q I h=>Calls.spliced_nil ⟨[],H,I,.nil,h⟩
theorem zag(ha:PE X e te)(hr:PA X es t)(hs:AJ (e::es) X.env=(false,eval e X.env)::AJ es X.env:=by rfl):PA X (e::es) (tCons te t):=by intro pos pins s σ H Q I h;rw[hs];show Ar _ _ (spliced ((false,eval e X.env)::Ci pos (AJ es X.env))) _ _ s;refine Dc (thn (ha pins s σ H _ I h) λu s1 ⟨x,H1,I1,r1,q1⟩=>?_);exact thn (hr pos pins s1 σ H1 _ I1 q1) λus s2 ⟨xs,H2,I2,r2,q2⟩=>⟨x::xs,H2,I2,.cons r1 r2,q2⟩
noncomputable def tTup(t:TA):TE:=λσ H Q=>t σ H λxs H1=>xs.length<=sizeLine/\∀p,H1 p=none->Q (.ref p) (upd H1 p (.tup xs))
noncomputable def tLst(t:TA):TE:=λσ H Q=>t σ H λxs H1=>xs.length<=sizeLine/\∀p,H1 p=none->Q (.ref p) (upd H1 p (.lst xs))
theorem za8{x1}(h:PA X es t):PE X (.Tuple es x1 pos) (tTup t):=by intro pins s σ H Q I hq;refine wpAny_Tuple_spliced (thn (h pos pins s σ H _ I hq) λus s1 ⟨xs,H1,I1,r,z,q⟩=>⟨by rw[<- r.length];exact z,?_⟩);have hf:H1 s1.heap.objs.size=none:=I1.hok.fresh (Ah _);refine⟨.ref s1.heap.objs.size,upd H1 s1.heap.objs.size (.tup xs),I1.laid (t':=s1.toks) (λb u e=>Ai _ e) (Ah _) ?_,rfl,q _ hf⟩;exact⟨z,us,r,⟨_,AG _ rfl,rfl,_,rfl⟩⟩
theorem zaA(h:PA X es t):PE X (.List es pos) (tLst t):=by intro pins s σ H Q I hq;refine wpAny_List_spliced (thn (h pos pins s σ H _ I hq) λus s1 ⟨xs,H1,I1,r,z,q⟩=>⟨by rw[<- r.length];exact z,?_⟩);have hf:H1 s1.heap.objs.size=none:=I1.hok.fresh (Ah _);refine⟨.ref s1.heap.objs.size,upd H1 s1.heap.objs.size (.lst xs),I1.laid (t':=s1.toks) (λb u e=>Ai _ e) (Ah _) ?_,rfl,q _ hf⟩;exact⟨z,us,0,r,AG _ rfl⟩
end
noncomputable abbrev Sp:=List V->Hp->VK->XK->Prop
noncomputable abbrev CXT:=List Env->Hp->Ae->XK->Ad->Ae->Prop
structure Env0 (P:AK) (w:A1) (K:W.Frag) (mg:Str->Option Ad) (base:Heap) (A:AQ) (outer:List Env) (s:Ae) (H:Hp):Prop where
 frames:A.frames=some outer
 mod:Mod K mg base
 bs:∀b o,base.get? b=some o->s.heap.get? b=some o/\H b=none
 bsz:base.objs.size<=s.heap.objs.size
 funs:s.heap.FunFrames base outer
 frf:∀b∈frs outer,H b=none
 hok:HOk P w H s.heap
 bare:AllBare s.gens
noncomputable def CE(outer:List Env)(P:AK)(w:A1)(H:Hp)(s:Ae)(Q:VK)(u:Ad)(s':Ae):Prop :=
 ∃v H',s'.os=s.os/\AllBare s'.gens/\Un (frs outer) [] H H' s.heap s'.heap/\HOk P w H' s'.heap/\RelV v u/\Q v H'
noncomputable def CR(CX:CXT)(outer:List Env)(P:AK)(w:A1)(H:Hp)(s:Ae)(Q:VK)(E:XK)(r:Result)(s':Ae):Prop :=
 match r with
 |.ok (.ret u)=>CE outer P w H s Q u s'
 |.ok _=>False
 |.error e=>CX outer H s E e s'
structure FnOk (P:AK) (w:A1) (K:W.Frag) (mg:Str->Option Ad) (base:Heap) (CX:CXT) (k:Nat) (f:Addr) (fd:Bs) (ps:List Str) (sp:Sp):Prop where
 len:∀vs H Q E,sp vs H Q E->vs.length=ps.length
 run:∀(A:AQ) (outer:List Env) (s:Ae) (H:Hp) (args:Args) (us:List Ad) (vs:List V) (Q:VK) (E:XK),Room k A->Env0 P w K mg base A outer s H->BindsTo s fd args (ps.zip us)->Vals vs us->sp vs H Q E ->
  BP (Av P w) A (.call (.ref f) args) (CR CX outer P w H s Q E) s
theorem FnOk.imp{P:AK}{w:A1}{K:W.Frag}{mg:Str -> Option Ad}{base:Heap}{CX:CXT}{k:Nat}{f:Addr}{fd:Bs}{ps:List Str}{sp sp':Sp}(F:FnOk P w K mg base CX k f fd ps sp)
  (h:∀vs H Q E,sp' vs H Q E->sp vs H Q E):FnOk P w K mg base CX k f fd ps sp' :=
 ⟨λvs H Q E q=>F.len vs H Q E (h _ _ _ _ q),λA outer s H args us vs Q E hr he hb hv hs=>F.run A outer s H args us vs Q E hr he hb hv (h _ _ _ _ hs)⟩
theorem Env0.in1{P:AK}{w:A1}{K:W.Frag}{mg:Str -> Option Ad}{base:Heap}{A:AQ}{outer:List Env}{s:Ae}{H:Hp}(e:Env0 P w K mg base A outer s H) :
  Env0 P w K mg base A.in1 outer s H:=⟨e.frames,e.mod,e.bs,e.bsz,e.funs,e.frf,e.hok,e.bare⟩
section
variable {X:Cx}{pins:List (Addr×Obj)}{σ:St}{H:Hp}{s s':Ae}
theorem Inv.env0(I:Inv X pins σ H s):Env0 X.prog X.w X.K X.mg X.base X.A X.stack s H :=
 ⟨I.ok.frames,I.ok.mod,I.bs,AF I.ok.bsz I.sz,I.stack,I.stkFree,I.hok,I.bare⟩
theorem Inv.after{Q:VK}{u:Ad}(I:Inv X pins σ H s)(h:CE X.stack X.prog X.w H s Q u s'):EP X pins σ Q u s':=by obtain⟨v,H',os,bare,un,hok,r,q⟩:=h;obtain⟨hh,g,d,t,os'⟩:=s';obtain rfl:os'=s.os:=os;exact⟨v,H',I.call (h':=hh) (g':=g) (d':=d) (t':=t) (ch:=[]) un hok bare (λb z=>absurd z (by simp)),r,q⟩
end
noncomputable def tCall(sp:Sp)(dvs:List V)(E:XK)(t:TA):TE:=λσ H Q=>t σ H λvs H1=>sp (vs++dvs) H1 Q E
noncomputable def Binds(K:W.Frag)(fd:Bs)(ps:List Str)(ds:List Ad):Prop :=
 ∀(s:Ae) (us:List Ad),K.In s.heap->(us++ds).length=ps.length->BindsTo s fd ⟨us,[]⟩ (ps.zip (us++ds))
theorem Binds.all{K:W.Frag}{fd:Bs}{ps:List Str}(h:∀us:List Ad,us.length=ps.length->CL fd ⟨us,[]⟩=pure (ps.zip us)):Binds K fd ps []:=λs us _ hl=>by rw[Bt]at hl ⊢;exact .of_eq (h us hl)
noncomputable def zjX(CX:CXT)(X:Cx)(E:XK):Prop:=∀(pins:List (Addr×Obj)) (σ:St) (H:Hp) (s:Ae) (e:Ad) (s':Ae),Inv X pins σ H s->CX X.stack H s E e s'->X.xe e s'
section
variable {X:Cx}{CX:CXT}{k:Nat}{f C:Addr}{fd:Bs}{ps:List Str}{sp:Sp}{dvs:List V}{ds:List Ad}{E:XK}{x m:Str}{p pos apos:Pos}{e o:Expr}{es:List Expr}{ta:TE}{t:TA}
theorem zl9{pins:List (Addr × Obj)}{σ : St}{H:Hp}{s:Ae}{Q:VK}{us:List Ad}{vs:List V}(F:FnOk X.prog X.w X.K X.mg X.base CX k f fd ps sp)(hr:Room k X.A)(hb:Binds X.K fd ps ds)(hd:Vals dvs ds)(hx:zjX CX X E)
  (I:Inv X pins σ H s) (r:Vals vs us) (h:sp (vs++dvs) H Q E):Ar (Av X.prog X.w) X.A (call (.ref f) us) (EP X pins σ Q) X.xe s:=by
 have r2:Vals (vs++dvs) (us++ds):=r.append hd;have hl:(us++ds).length=ps.length:=by rw[<- r2.length];exact F.len _ _ _ _ h
 refine wpAny_call (codeAny_mono (F.run X.A X.stack s H ⟨us,[]⟩ (us++ds) (vs++dvs) Q E hr I.env0 (hb s us I.kIn hl) r2 h) λr s' hq=>?_)
 cases r with
 |error e=>exact hx pins σ H s e s' I hq
 |ok fl =>
  cases fl with
  |ret u=>exact I.after hq
  |next=>exact Bz hq
  |brk=>exact Bz hq
  |cont=>exact Bz hq
theorem zlr(F:FnOk X.prog X.w X.K X.mg X.base CX k f fd ps sp)(hr:Room k X.A)(hg:Gl X x)(hm:X.mg x=some (.ref f))(hk:W.keepIn X.K (.ref f)=true)(hb:Binds X.K fd ps ds)(hd:Vals dvs ds)(hx:zjX CX X E)
  (ha:PA X (e::es) t) (hdb:(x == ("__debug__" : Str))=false:=by decide) (he:AJ (e::es) X.env=(false,eval e X.env)::AJ es X.env:=by rfl) (hpl:(Ci pos (AJ es X.env)).any (·.1)=false:=by rfl) :
  PE X (.Call (.Name x p) (e::es) [] pos) (tCall sp dvs E t):=by
 intro pins s σ H Q I h;refine Bh (zjt I hg hm ?_ hdb);refine W.callWith_K (h₀:=X.base) I.ok.mod.kin hk (thn (ha pos pins s σ H _ I h) λus s1 ⟨vs,H1,I1,r,q⟩=>⟨I1.kIn,?_⟩) he hpl;exact zl9 F hr hb hd hx I1 r q
structure Mk (K:W.Frag) (C f:Addr):Prop where
 makes:W.makesIn K C=true
 init:W.findIn K (.ref C) "__init__" = some (some (.ref f))
 fn:W.isFn K (.ref f)=true
 kp:W.keepIn K (.ref C)=true
end
noncomputable def PK(X:Cx)(kws:List Keyword)(t:TA):Prop :=
 ∀(pos:Pos) (pins:List (Addr×Obj)) (s:Ae) (σ:St) (H:Hp) (Q:List V->Hp->Prop),Inv X pins σ H s->t σ H Q->Ar (Av X.prog X.w) X.A (evalAll ((CZ pos (BX kws X.env)).map (·.2))) (AP X pins σ Q) X.xe s
section
variable {X:Cx}{CX:CXT}{k:Nat}{f C:Addr}{fd:Bs}{ps ks:List Str}{sp:Sp}{E:XK}{x m:Str}{p pos apos kpos:Pos}{e o:Expr}{es:List Expr}{kws:List Keyword}{te ta:TE}{t tk:TA}{nm:Option Str}
theorem zkM:PK X [] tNil:=λ_ _ _ _ H Q I h=>wpAny_evalAll_nil ⟨[],H,I,.nil,h⟩
theorem zi7(ha:PE X e te)(hr:PK X kws t):PK X (⟨nm,e,kpos⟩::kws) (tCons te t):=by intro pos pins s σ H Q I h;show Ar _ _ (evalAll ((do let v <- eval e X.env;standAt pos;pure v)::(CZ pos (BX kws X.env)).map (·.2))) _ _ s;refine wpAny_evalAll_cons (Ac (thn (ha pins s σ H _ I h) λu s1 ⟨x,H1,I1,r1,q1⟩=>Ac (Cj (Al ?_))));exact thn (hr pos pins s1 σ H1 _ I1 q1) λus s2 ⟨xs,H2,I2,r2,q2⟩=>⟨x::xs,H2,I2,.cons r1 r2,q2⟩
structure KBinds (K:W.Frag) (fd:Bs) (ps ks:List Str) (g:List Ad->List Ad->List Ad) (gV:List V->List V->List V):Prop where
 to:∀(s:Ae) (us ws:List Ad),K.In s.heap->(g us ws).length=ps.length->BindsTo s fd ⟨us,ks.zip ws⟩ (ps.zip (g us ws))
 rel:∀{vs:List V} {us:List Ad} {zs:List V} {ws:List Ad},Vals vs us->Vals zs ws->Vals (gV vs zs) (g us ws)
variable {g:List Ad->List Ad->List Ad}{gV:List V->List V->List V}
end
structure FnScope (N P:List Str) (sc:Scope):Prop where
 kind:sc.kind=.function
 co:sc.isCoroutine=false
 gen:sc.isGenerator=false
 nd:N.Nodup
 pre:N.take P.length=P
 par:∀x∈P,sc.names.lookup x=some .local∨sc.names.lookup x=some .cell
 nofree:∀y∈sc.names,y.2≠.free
theorem zgi{kindOf:Str->Option NameKind}{x:Str}:∀{binds:List (Str×Ad)}{m:Str->Option Ad},(∀v,(x,v) ∉ binds)->bindL kindOf binds m x=m x
 |[],_,_=>rfl
 | (n,v)::r,m,h=>by
  unfold bindL;rw[zgi λw hw=>h w (Ao _ hw)];split
  .have:x≠n:=by rintro rfl;exact h v Ay
   simp[this]
  .rfl
theorem zgk{kindOf:Str->Option NameKind}{x:Str}:∀{binds:List (Str×Ad)}{m:Str->Option Ad},(∀v,(x,v) ∉ binds)->bindC kindOf binds m x=m x
 |[],_,_=>rfl
 | (n,v)::r,m,h=>by
  unfold bindC;rw[zgk λw hw=>h w (Ao _ hw)];split
  .rfl
  .have:x≠n:=by rintro rfl;exact h v Ay
   simp[this]
theorem zgj{kindOf:Str -> Option NameKind}{x:Str}{v:Ad} : ∀{P:List Str}{vs:List Ad}{i:Nat}{m:Str -> Option Ad}, P.Nodup -> P[i]? = some x -> vs[i]? = some v -> kindOf x=some .local ->
  bindL kindOf (P.zip vs) m x=some v
 |[],_,_,_,_,h,_,_=>by simp at h
 |_::_,[],_,_,_,_,h,_=>by simp at h
 |p::P,w::vs,0,m,nd,h1,h2,hk=>by
  simp at h1 h2;subst h1;subst h2;show bindL kindOf ((p,w)::P.zip vs) m p=_;unfold bindL;rw[zgi λv hv=>(Cb.mp nd).1 (List.of_mem_zip hv).1,if_pos hk];simp
 |p::P,w::vs,i+1,m,nd,h1,h2,hk=>by
  show bindL kindOf ((p,w)::P.zip vs) m x=_;unfold bindL;exact zgj (i:=i) (Cb.mp nd).2 (by simpa using h1) (by simpa using h2) hk
theorem zgl{kindOf:Str -> Option NameKind}{x:Str}{v:Ad} : ∀{P:List Str}{vs:List Ad}{i:Nat}{m:Str -> Option Ad}, P.Nodup -> P[i]? = some x -> vs[i]? = some v -> kindOf x ≠ some .local ->
  bindC kindOf (P.zip vs) m x=some v
 |[],_,_,_,_,h,_,_=>by simp at h
 |_::_,[],_,_,_,_,h,_=>by simp at h
 |p::P,w::vs,0,m,nd,h1,h2,hk=>by
  simp at h1 h2;subst h1;subst h2;show bindC kindOf ((p,w)::P.zip vs) m p=_;unfold bindC;rw[zgk λv hv=>(Cb.mp nd).1 (List.of_mem_zip hv).1,if_neg hk];simp
 |p::P,w::vs,i+1,m,nd,h1,h2,hk=>by
  show bindC kindOf ((p,w)::P.zip vs) m x=_;unfold bindC;exact zgl (i:=i) (Cb.mp nd).2 (by simpa using h1) (by simpa using h2) hk
noncomputable def start(N:List Str)(vs:List V):St:=vs.map some++AZ (N.length-vs.length) none
noncomputable def cxOf(CX:CXT)(P:AK)(w:A1)(K:W.Frag)(mg:Str->Option Ad)(base:Heap)(N:List Str)(qual:Str)(scope:Scope)(f:Addr)(cd:Ad)(A:AQ)(outer:List Env)(s:Ae)(H:Hp)(E:XK):Cx where
 prog:=P
 w:=w
 K:=K
 mg:=mg
 base:=base
 A:=A.deeper (envOfC qual scope s.heap.objs.size f cd)
 N:=N
 s₀:=s
 H₀:=H
 env:=envOfC qual scope s.heap.objs.size f cd
 outer:=outer
 stack:=envOfC qual scope s.heap.objs.size f cd::outer
 ex:=[]
 calm:=true
 fn:=λ_=>true
 pn:=[]
 xe:=λe s'=>Ar (Av P w) (A.deeper (envOfC qual scope s.heap.objs.size f cd)) (leaving (envOfC qual scope s.heap.objs.size f cd) e) (λ_ s''=>CX outer H s E e s'') (λe' s''=>CX outer H s E e' s'') s'
theorem zhQ{sc:Scope}{n:Nat}{x:Str}(h:sc.names.lookup x=some .cell):∃c,(cellsFrom n sc.names []).lookup x=some c:=by have q:=W.cellsFrom_some sc.names n [] (.inl h);exact Option.isSome_iff_exists.mp q
theorem zjz{CX:CXT}{P:AK}{w:A1}{K:W.Frag}{mg:Str -> Option Ad}{base:Heap}{N ps:List Str}{qual:Str}{scope:Scope}{f:Addr}{cd:Ad}{A:AQ}{outer:List Env}{s s1:Ae}{H:Hp}{E:XK}{us:List Ad}{vs:List V}
  (S:FnScope N ps scope) (hd:A.handled=none) (e0:Env0 P w K mg base A outer s H) (hl:vs.length=ps.length) (r:Vals vs us)
  (x:InCallC s s.heap.objs.size (bindL (envOfC qual scope s.heap.objs.size f cd).kindOf (ps.zip us) λ_=>none) (cellsFrom (s.heap.objs.size+1) scope.names []) (bindC (envOfC qual scope s.heap.objs.size f cd).kindOf (ps.zip us) λ_=>none) s1) :
  Inv (cxOf CX P w K mg base N qual scope f cd A outer s H E) [] (start N vs) H s1:=by
 have hpl:ps.length<=N.length:=by have:=congrArg List.length S.pre;rw[Aq]at this;lia
 obtain⟨h1,tk,rfl,hk⟩:=x.done;have noA:∀b:Addr,b ∉ (cxOf CX P w K mg base N qual scope f cd A outer s H E).ex:=λb z=>absurd (show b∈([]:List Addr) from z) (by simp)
 refine⟨⟨e0.mod,S.kind,rfl,rfl,Ah _,λy z c h1 h2=>?_,λy hy=>?_,λy c _ h=>?_,λ_=>hd,Around.frames_deeper e0.frames,.inr ⟨rfl,rfl⟩,λb z=>absurd z (noA b),e0.bs,e0.bsz,λb _ _=>noA b,λb z=>absurd z (noA b),e0.funs,e0.frf⟩,
  rfl,e0.bare,Un.kept hk,⟨_,x.toInCall.ns,λi y v h1 h2 h3=>?_⟩,λy c h=>⟨_,x.cell y c h⟩,e0.hok.fresh (Ah _),λy c h=>?_,λp hp=>absurd (show p∈([]:List (Addr×Obj)) from hp) (by simp),e0.hok.kept hk,?_⟩
 .exact name_of_addr x.apart (BU h1) (BU h2)
 .have hy:scope.names.lookup y=some .cell∨scope.names.lookup y=some .free:=hy;rcases hy with hy |hy
  .exact zhQ hy
  .exact absurd rfl (S.nofree _ (BU hy))
 .exact Bc (x.above y c (BU h))
 .have hi:i < vs.length := by
   unfold start at h2
   by_cases hi:i<vs.length
   .exact hi
   .rw[Au (by simpa using hi)]at h2;rw[List.getElem?_replicate]at h2;split at h2 <;> cases h2
  have ha:vs[i]?=some v:=by
   unfold start at h2;rw[Am (by simpa using hi),Az]at h2
   cases e:vs[i]? with
   |none=>rw[e]at h2;cases h2
   |some a=>rw[e]at h2;cases h2;rfl
  obtain⟨u,hu,rv⟩:=r.get ha
  have hp:ps[i]?=some y:=by rw[<- S.pre,C0 (by lia)];exact h1
  have ndP:ps.Nodup:=by rw[<- S.pre];exact S.nd.sublist (List.take_sublist _ _)
  refine⟨u,rv,?_⟩;rcases S.par y (Ag hp) with k |k
  .exact .inl ⟨k,zgj ndP hp hu k⟩
  .obtain⟨c,e⟩:=zhQ (n:=s.heap.objs.size+1) k;refine .inr ⟨.inl k,c,e,?_⟩;have q:=x.cell y c e;rw[zgl ndP hp hu (by show scope.names.lookup y≠_;rw[k];decide)]at q;exact q
 .exact e0.hok.fresh (Bc (x.above y c (BU h)))
 .unfold start;show _=N.length;rw[Aj,Af,List.length_replicate];lia
theorem fn_of{CX:CXT}{P:AK}{w:A1}{K:W.Frag}{mg:Str -> Option Ad}{base:Heap}{k:Nat}{f:Addr}{name qual:Str}{params:Arguments}{body:List Stmt}{scope:Scope}{dV kV doc pm cdv ct oc:Ad}{an od:Option Addr}
  {osl:Array (Option Ad)} {N ps:List Str} {sp:Sp} (lk:K.lookup f=some ⟨oc,od,.func (Cw name qual params body scope dV kV doc pm an cdv ct),osl⟩) (hcd:W.codeIn K cdv qual=true) (S:FnScope N ps scope)
  (len:∀vs H Q E,sp vs H Q E->vs.length=ps.length)
  (hbody:∀(A:AQ) (outer:List Env) (s:Ae) (H:Hp) (vs:List V) (Q:VK) (E:XK),Room k (A.deeper (envOfC qual scope s.heap.objs.size f cdv))->sp vs H Q E ->
   ∃t,PSs (cxOf CX P w K mg base N qual scope f cdv A outer s H E) body t/\t { nx:=λ_ H'=>Q .non H',rt:=Q } (start N vs) H) :
  FnOk P w K mg base CX (k+1) f (Cw name qual params body scope dV kV doc pm an cdv ct) ps sp:=by
 refine⟨len,λA outer s H args us vs Q E hr e0 hb r hsp=>?_⟩;have hl:=len _ _ _ _ hsp;have KX:K.In s.heap:=e0.mod.kin.keeps λb o e=>(e0.bs b o e).1
 have lim:s.heap.NoLimit:=e0.mod.nolimit.keeps λb o e=>(e0.bs b o e).1
 have hkind:∀y∈ps.zip us,scope.names.lookup y.1=some .local∨(scope.names.lookup y.1=some .cell/\((cellsFrom (s.heap.objs.size+1) scope.names []).lookup y.1).isSome=true):=λ⟨n,v⟩ hy=>by
  rcases S.par n (List.of_mem_zip hy).1 with q |q
  .exact .inl q
  .exact .inr ⟨q,W.cellsFrom_some _ _ _ (.inl q)⟩
 refine codeAny_call_function hr.depth (KX _ _ lk) rfl S.co S.gen rfl (W.codeRec_of KX hcd) (hb _ _ _ _ ?_);refine wpAny_newFunctionEnv_cells S.kind hkind λenv he s1 x=>?_
 subst he;refine⟨lim.keeps x.toInCall.keep,codeAny_func ?_⟩;obtain⟨t,ht,hq⟩:=hbody A outer s H vs Q E (hr.deeper _) hsp;have I:Inv (cxOf CX P w K mg base N qual scope f cdv A outer s H E) [] (start N vs) H s1:=zjz S hr.hd e0 hl r x;refine BG (ht [] s1 (start N vs) H _ I hq) (λfl s' hs=>?_) λe s' hs=>hs
 have fin:∀{σ':St} {H':Hp} {v:V} {u:Ad},Inv (cxOf CX P w K mg base N qual scope f cdv A outer s H E) [] σ' H' s'->RelV v u->Q v H'->CE outer P w H s Q u s' :=
  λ{σ' H' v u} J rv q=>⟨v,H',J.os,J.bare,J.base,J.hok,rv,q⟩
 cases fl with
 |ret u =>
  obtain⟨v,σ',H',J,rv,q⟩:=hs;exact fin J rv q
 |next =>
  obtain⟨σ',H',J,q⟩:=hs;exact fin (v:=V.non) (u:=CK) J rfl q
 |brk =>
  obtain⟨_,_,_,q⟩:=hs;exact Bz q
 |cont =>
  obtain⟨_,_,_,q⟩:=hs;exact Bz q
section
variable {X:Cx}{x:Str}{p pos:Pos}{e:Expr}{es:List Expr}{t:TA}{id T:String}{r:List V->Hp->VK->Prop}
noncomputable def tCB(r:List V->Hp->VK->Prop)(t:TA):TE:=λσ H Q=>t σ H λvs H1=>r vs H1 Q
theorem zak (hc:CallR X (.builtin id) r) (hg:Gl X x) (hm:X.mg x=none) (hv:bootBuiltins x=some (.builtin id)) (ha:PA X (e :: es) t) (hn:x ≠ "__name__" := by decide) (hdb:(x == ("__debug__" : Str))=false := by decide)
  (he:AJ (e::es) X.env=(false,eval e X.env)::AJ es X.env:=by rfl) (hpl:(Ci pos (AJ es X.env)).any (·.1)=false:=by rfl):PE X (.Call (.Name x p) (e::es) [] pos) (tCB r t):=by
 intro pins s σ H Q I h;refine Bh (zbR I hg hm hv ?_ hn hdb);exact PyProof.Rows.callWith_builtin1 (thn (ha pos pins s σ H _ I h) λus s1 ⟨vs,H1,I1,r1,q1⟩=>hc pins s1 σ H1 vs us Q I1 r1 q1) he hpl
theorem zbx (hc:CallR X (.type T) r) (hg:Gl X x) (hm:X.mg x=none) (hv:bootBuiltins x=some (.type T)) (ha:PA X (e :: es) t) (hn:x ≠ "__name__" := by decide) (hdb:(x == ("__debug__" : Str))=false := by decide)
  (he:AJ (e::es) X.env=(false,eval e X.env)::AJ es X.env:=by rfl) (hpl:(Ci pos (AJ es X.env)).any (·.1)=false:=by rfl):PE X (.Call (.Name x p) (e::es) [] pos) (tCB r t):=by
 intro pins s σ H Q I h;refine Bh (zbR I hg hm hv ?_ hn hdb);exact AS (thn (ha pos pins s σ H _ I h) λus s1 ⟨vs,H1,I1,r1,q1⟩=>hc pins s1 σ H1 vs us Q I1 r1 q1) he hpl
end
section
variable {κ:Type} [DecidableEq κ]
noncomputable def valV(kvs:List (κ×V))(k:κ):Option V:=(kvs.find? λkv=>decide (kv.1=k)).map (·.2)
noncomputable def putK(kvs:List (κ×V))(k:κ)(v:V):List (κ×V) :=
 if (kvs.any λkv=>decide (kv.1=k))=true then kvs.map (λkv=>if kv.1=k then (kv.1,v) else kv) else kvs++[(k,v)]
theorem zbh{p:κ×V}{r:List (κ×V)}{k:κ}(e:p.1=k):valV (p::r) k=some p.2:=by simp[valV,CA,e]
theorem zbi{p:κ×V}{r:List (κ×V)}{k:κ}(e:¬ p.1=k):valV (p::r) k=valV r k:=by simp[valV,CA,e]
theorem zdN(k:κ):∀kvs:List (κ×V),(kvs.any λkv=>decide (kv.1=k))=(valV kvs k).isSome
 |[]=>rfl
 |p::r=>by
  rw[List.any_cons]
  by_cases e:p.1=k
  .simp only[zbh e,decide_eq_true e,Bool.true_or,Option.isSome_some]
  .rw[zbi e,decide_eq_false e,Bool.false_or];exact zdN k r
theorem zg8(k j:κ)(y:V):∀kvs:List (κ×V),valV (kvs.map λkv=>if kv.1=k then (kv.1,y) else kv) j=(valV kvs j).map λx=>if j=k then y else x
 |[]=>rfl
 |p::r=>by
  have ih:=zg8 k j y r;rw[AW]
  by_cases h:p.1=k
  .rw[if_pos h]
   by_cases e:p.1=j
   .rw[zbh (p:=(p.1,y)) e,zbh e,C3,if_pos (e.symm.trans h)]
   .rw[zbi (p:=(p.1,y)) e,zbi e,ih]
  .rw[if_neg h]
   by_cases e:p.1=j
   .rw[zbh (p:=p) e,zbh e,C3,if_neg (λz=>h (e.trans z))]
   .rw[zbi (p:=p) e,zbi e,ih]
theorem zfG(k j:κ)(y:V):∀kvs:List (κ×V),valV kvs k=none->valV (kvs++[(k,y)]) j=if j=k then some y else valV kvs j
 |[],_=>by
  by_cases e:k=j
  .rw[if_pos e.symm];exact zbh (p:=(k,y)) e
  .rw[if_neg (λz=>e z.symm)];exact zbi (p:=(k,y)) e
 |p::r,hn=>by
  rw[List.cons_append];have hk:¬ p.1=k:=λz=>by rw[zbh z]at hn;cases hn
  rw[zbi hk]at hn;have ih:=zfG k j y r hn
  by_cases e:p.1=j
  .rw[zbh e,zbh e,if_neg (λz=>hk (e.trans z))]
  .rw[zbi e,zbi e,ih]
theorem zg7(kvs:List (κ×V))(k j:κ)(y:V):valV (putK kvs k y) j=if j=k then some y else valV kvs j:=by
 unfold putK
 by_cases a:(kvs.any λkv=>decide (kv.1=k))=true
 .rw[if_pos a,zg8];rw[zdN]at a
  by_cases e:j=k
  .obtain⟨x,hx⟩:=Option.isSome_iff_exists.mp a;rw[if_pos e,e,hx,C3,if_pos rfl]
  .rw[if_neg e]
   cases valV kvs j with
   |none=>rfl
   |some x=>rw[C3,if_neg e]
 .rw[if_neg a];refine zfG k j y kvs ?_
  rw[zdN]at a
  cases q:valV kvs k with
  |none=>rfl
  |some x=>rw[q]at a;exact (a rfl).elim
theorem zbs(kvs:List (κ×V))(k:κ)(v:V):(putK kvs k v).length<=kvs.length+1:=by
 unfold putK;split
 .rw[Af];lia
 .rw[Aj,AO,BR];lia
theorem RelO.isSome_eq{o:Option V}{u:Option Ad}(r:RelO o u):o.isSome=u.isSome:=by
 cases o with
 |none=>cases u with
  |none=>rfl
  |some _=>exact (show False from r).elim
 |some _=>cases u with
  |none=>exact (show False from r).elim
  |some _=>rfl
theorem KV.val{kvs:List (κ×V)}{vs:List (κ×Ad)}(r:KV kvs vs)(k:κ):RelO (valV kvs k) (valueAt vs k):=by
 unfold KV at r
 induction r with
 |nil=>exact BZ
 |@cons p q ps qs h t ih =>
  obtain⟨h1,h2⟩:=h
  by_cases e:p.1=k
  .have e':q.1=k:=h1.symm.trans e;have b:valueAt (q::qs) k=some q.2:=by simp[valueAt,CA,e']
   rw[zbh e,b];exact h2
  .have e':¬ q.1=k:=λz=>e (h1.trans z)
   have b:valueAt (q::qs) k=valueAt qs k:=by simp[valueAt,CA,e']
   rw[zbi e,b];exact ih
theorem KV.any{kvs:List (κ×V)}{vs:List (κ×Ad)}(r:KV kvs vs)(k:κ):(kvs.any λkv=>decide (kv.1=k))=vs.any λkv=>decide (kv.1=k):=by
 unfold KV at r
 induction r with
 |nil=>rfl
 |cons h t ih=>rw[List.any_cons,List.any_cons,ih,h.1]
theorem KV.repl{kvs:List (κ × V)}{vs:List (κ × Ad)}(r:KV kvs vs)(k : κ){y:V}{u:Ad}(ry:RelV y u) :
  KV (kvs.map λkv=>if kv.1=k then (kv.1,y) else kv) (vs.map λkv=>if kv.1=k then (kv.1,u) else kv):=by
 unfold KV at r ⊢
 induction r with
 |nil=>exact .nil
 |@cons p q ps qs h t ih =>
  rw[AW,AW];refine .cons ?_ ih;obtain⟨h1,h2⟩:=h
  by_cases e:p.1=k
  .rw[if_pos e,if_pos (h1.symm.trans e)];exact⟨h1,ry⟩
  .rw[if_neg e,if_neg (λz=>e (h1.trans z))];exact⟨h1,h2⟩
theorem KV.put{kvs:List (κ×V)}{vs:List (κ×Ad)}(r:KV kvs vs)(k:κ){y:V}{u:Ad}(ry:RelV y u):KV (putK kvs k y) (stored vs k u):=by
 unfold putK stored;rw[r.any k]
 by_cases e:(vs.any λkv=>decide (kv.1=k))=true
 .rw[if_pos e,if_pos e];exact r.repl k ry
 .rw[if_neg e,if_neg e];exact Paired.snoc r ⟨rfl,ry⟩
theorem KV.length{kvs:List (κ×V)}{vs:List (κ×Ad)}(r:KV kvs vs):kvs.length=vs.length:=Paired.length r
end
theorem kV_is{P:AK}{w:A1}{k:Key}{u:Ad}(r:RelV (kV k) u):(za6 P w).is k u=true:=by
 cases k with
 |inl i=>obtain⟨t,e⟩:=(show ∃t,u=Value.int i t from r);subst e;exact zgV P w i t
 |inr x=>obtain⟨t,e⟩:=(show ∃t,u=Value.str x t from r);subst e;exact zcX P w x t
theorem zf9{P:AK}{w:A1}:∀{ks:List Key}{us:List Ad},Vals (ks.map kV) us->ItemsAre (za6 P w) ks us
 |[],_,r=>by rw[List.map_nil]at r;cases r;exact .nil
 |k::ks,_,r=>by
  rw[AW]at r
  cases r with
  |cons h t=>exact .cons (kV_is h) (zf9 t)
noncomputable abbrev KT(H:Hp):List (List Key×V)->List (List Key×Addr×Ad)->Prop:=Paired λp q=>p.1=q.1/\H q.2.1=some (.tup (p.1.map kV))/\RelV p.2 q.2.2
theorem KT.val{H:Hp}{kvs:List (List Key×V)}{xs:List (List Key×Addr×Ad)}(r:KT H kvs xs)(k:List Key):RelO (valV kvs k) ((atKey xs k).map (·.2)):=by
 induction r with
 |nil=>exact BZ
 |@cons p q ps qs h t ih =>
  obtain⟨h1,_,h2⟩:=h
  by_cases e:p.1=k
  .have e':q.1=k:=h1.symm.trans e;have b:atKey (q::qs) k=some q.2:=by simp[atKey,CA,e']
   rw[zbh e,b];exact h2
  .have e':¬ q.1=k:=λz=>e (h1.trans z)
   have b:atKey (q::qs) k=atKey qs k:=by simp[atKey,CA,e']
   rw[zbi e,b];exact ih
theorem KT.repl{H:Hp}{kvs:List (List Key × V)}{xs:List (List Key × Addr × Ad)}(r:KT H kvs xs)(k:List Key){y:V}{u:Ad}(ry:RelV y u) :
  KT H (kvs.map λkv=>if kv.1=k then (kv.1,y) else kv) (xs.map (putAt k u)):=by
 induction r with
 |nil=>exact .nil
 |@cons p q ps qs h t ih =>
  rw[AW,AW];refine .cons ?_ ih;obtain⟨h1,h2,h3⟩:=h;unfold putAt
  by_cases e:p.1=k
  .rw[if_pos e,if_pos (h1.symm.trans e)];exact⟨h1,h2,ry⟩
  .rw[if_neg e,if_neg (λz=>e (h1.trans z))];exact⟨h1,h2,h3⟩
theorem KT.put{H:Hp}{kvs:List (List Key × V)}{xs:List (List Key × Addr × Ad)}(r:KT H kvs xs)(k:List Key){b:Addr}{y:V}{u:Ad}(hb:H b=some (.tup (k.map kV)))(ry:RelV y u) :
  KT H (putK kvs k y) (storedH xs k b u):=by
 have e:(kvs.any λkv=>decide (kv.1=k))=(atKey xs k).isSome:=by rw[zdN,(r.val k).isSome_eq,Option.isSome_map]
 unfold putK storedH;rw[e]
 by_cases q:(atKey xs k).isSome=true
 .rw[if_pos q,if_pos q];exact r.repl k ry
 .rw[if_neg q,if_neg q];exact Paired.snoc r ⟨rfl,hb,ry⟩
theorem KT.keeps{H H':Hp}{kvs:List (List Key×V)}{xs:List (List Key×Addr×Ad)}(r:KT H kvs xs)(ht:∀b ys,H b=some (.tup ys)->H' b=some (.tup ys)):KT H' kvs xs :=
 Paired.mapP r λ_ _ z=>⟨z.1,ht _ _ z.2.1,z.2.2⟩
section
variable {P:AK}{w:A1}{H:Hp}{h:Heap}{a:Addr}
theorem rd_of{u:HO}(ok:HOk P w H h)(e:Rd H a u):ObjOk P w H h a u:=e.ok ok
theorem dk_rd{kvs:List (Key×V)}(ok:HOk P w H h)(e:Rd H a (.dK kvs)):kvs.length<=sizeLine/\(a == Cv)=false/\∃vs,KV kvs vs/\h.DictOf (za6 P w) a vs :=
 show ObjOk P w H h a (.dK kvs) from rd_of ok e
theorem dk_of{kvs:List (Key×V)}(ok:HOk P w H h)(e:H a=some (.dK kvs)):kvs.length<=sizeLine/\(a == Cv)=false/\∃vs,KV kvs vs/\h.DictOf (za6 P w) a vs:=dk_rd ok (.inl e)
theorem zf8{ks:List Key}(ok:HOk P w H h)(e:H a=some (.tup (ks.map kV))):(tupleKind (za6 P w)).is h ks a:=by obtain⟨_,its,r,o,h1,h2,n,h3⟩:=(show ObjOk P w H h a (.tup (ks.map kV)) from ok a _ e);exact⟨o,its.toArray,n,h1,h2,h3,by simpa using zf9 r⟩
theorem dt_rd{kvs:List (List Key × V)}(ok:HOk P w H h)(e:Rd H a (.dT kvs)):kvs.length <= sizeLine /\ (a == Cv)=false /\
  ∃xs,KT H kvs xs/\h.DictOfH (tupleKind (za6 P w)) a xs:=by
 obtain⟨z,y,xs,r,o,es,ep,h1,h2,h3,h4,h5⟩:=(show ObjOk P w H h a (.dT kvs) from rd_of ok e);refine⟨z,y,xs,r,o,es,ep,h1,h2,h3,h4,λx hx=>?_,h5⟩
 have all:∀{l:List (List Key×V)} {m:List (List Key×Addr×Ad)},KT H l m->∀x∈m,(tupleKind (za6 P w)).is h x.1 x.2.1:=by
  intro l m q
  induction q with
  |nil=>intro x hx;exact nomatch hx
  |@cons p q ps qs hq t ih =>
   intro x hx;rcases At.mp hx with e |hx
   .subst e;exact zf8 ok (by rw[<- hq.1];exact hq.2.1)
   .exact ih x hx
 exact all r x hx
theorem dt_of{kvs:List (List Key × V)}(ok:HOk P w H h)(e:H a=some (.dT kvs)):kvs.length <= sizeLine /\ (a == Cv)=false /\
  ∃xs,KT H kvs xs/\h.DictOfH (tupleKind (za6 P w)) a xs:=dt_rd ok (.inl e)
end
noncomputable def DGet(H:Hp)(a:Addr)(y:V)(r:Option V):Prop :=
 (∃kvs k,Rd H a (.dK kvs)/\y=kV k/\r=valV kvs k)∨∃kvs k b,Rd H a (.dT kvs)/\y=.ref b/\H b=some (.tup (k.map kV))/\r=valV kvs k
noncomputable def DPut(H:Hp)(a:Addr)(y v:V)(H':Hp):Prop :=
 (∃kvs k,H a=some (.dK kvs)/\y=kV k/\kvs.length<sizeLine/\H'=upd H a (.dK (putK kvs k v))) ∨
 ∃kvs k b,H a=some (.dT kvs)/\y=.ref b/\H b=some (.tup (k.map kV))/\kvs.length<sizeLine/\H'=upd H a (.dT (putK kvs k v))
section
variable {X:Cx}{pins:List (Addr×Obj)}{σ:St}{H:Hp}{s:Ae}{a:Addr}{y v:V}{u r:Ad}{o:Option V}{A:AQ}{E:Ad->Ae->Prop}
theorem Inv.big(I:Inv X pins σ H s):Cv<s.heap.objs.size:=by have h:AI<s.heap.objs.size:=(I.mod.glob.keeps I.bk).lt;exact Nat.lt_trans (by decide) h
theorem d_in{Q:Ad -> Ae -> Prop}(hu:A.units + 1 < cLine)(I:Inv X pins σ H s)(g:DGet H a y o)(ry:RelV y u)(h:∀s', Inv X pins σ H s' -> Q (.bool o.isSome) s') :
  Ar (Av X.prog X.w) A (Bu .In u (.ref a)) Q E s:=by
 rcases g with⟨kvs,k,e,ey,l⟩ |⟨kvs,k,b,e,ey,eb,l⟩
 .subst ey;obtain⟨z,hd,vs,rel,dd⟩:=dk_rd I.hok e;refine wpAny_in_of (kV_is ry) hd dd.mapOf ?_
  rw[<- (rel.val k).isSome_eq,<- l];exact h _ (I.tok _)
 .subst ey
  cases (show u=AB b from ry)
  obtain⟨z,hd,xs,rel,dd⟩:=dt_rd I.hok e;refine wpAny_in_heap (tupleKind_room_in1 hu) (zf8 I.hok eb) hd dd ?_
  have q:=(rel.val k).isSome_eq;rw[Option.isSome_map]at q;rw[<- q,<- l];exact h _ (I.tok _)
theorem zlM{Q:Ad -> Ae -> Prop}(hu:A.units + 1 < cLine)(I:Inv X pins σ H s)(g:DGet H a y o)(ry:RelV y u)(h:∀s', Inv X pins σ H s' -> Q (.bool (!o.isSome)) s') :
  Ar (Av X.prog X.w) A (Bu .NotIn u (.ref a)) Q E s:=by
 rcases g with⟨kvs,k,e,ey,l⟩ |⟨kvs,k,b,e,ey,eb,l⟩
 .subst ey;obtain⟨z,hd,vs,rel,dd⟩:=dk_rd I.hok e;refine wpAny_notIn_of (kV_is ry) hd dd.mapOf ?_
  rw[<- (rel.val k).isSome_eq,<- l];exact h _ (I.tok _)
 .subst ey
  cases (show u=AB b from ry)
  obtain⟨z,hd,xs,rel,dd⟩:=dt_rd I.hok e;refine wpAny_notIn_heap (tupleKind_room_in1 hu) (zf8 I.hok eb) hd dd ?_
  have q:=(rel.val k).isSome_eq;rw[Option.isSome_map]at q;rw[<- q,<- l];exact h _ (I.tok _)
theorem zfu{h':Heap}{t':Nat}{ob:HO}(I:Inv X pins σ H s)(mu:Mut (H a))(hs:CS a s.heap h')(he:∃q, h'.get? a=some q)(new:ObjOk X.prog X.w (upd H a ob) h' a ob) :
  Inv X pins σ (upd H a ob) { s with heap:=h',toks:=t' } :=
 I.write (x:=a) (e:=a) mu (.inl rfl) (λb q hb z=>(hs.2 b hb).trans z) he new
theorem zkV{P:AK}{w:A1}{H':Hp}{h':Heap}{kvs:List (Key × V)}{vs:List (Key × Ad)}(z:kvs.length <= sizeLine)(hd:(a == Cv)=false)(rel:KV kvs vs)(dd:h'.DictOf (za6 P w) a vs) :
  ObjOk P w H' h' a (.dK kvs):=⟨z,hd,vs,rel,dd⟩
theorem zjI{H':Hp}{Q:Unit -> Ae -> Prop}(hu:A.units + 1 < cLine)(I:Inv X pins σ H s)(g:DPut H a y v H')(ry:RelV y u)(rv:RelV v r)(h:∀s', Inv X pins σ H' s' -> Q () s') :
  Ar (Av X.prog X.w) A (setItem (.ref a) u r) Q E s:=by
 rcases g with⟨kvs,k,e,ey,l,eH⟩ |⟨kvs,k,b,e,ey,eb,l,eH⟩
 .subst ey eH;obtain⟨z,hd,vs,rel,dd⟩:=dk_of I.hok e;have hz:vs.length<=sizeLine:=by rw[<- rel.length];exact z
  have hl:(putK kvs k v).length<=sizeLine:=by have:=zbs kvs k v;lia
  refine wpAny_setItem_pairs (hsz:=hz) (kV_is ry) dd λh' dd' hs=>h _ ?_
  have he:∃q,h'.get? a=some q:=let ⟨q,_,_,hq,_⟩:=dd';⟨q,hq⟩
  exact zfu I (by rw[e];exact BZ) hs he (zkV hl hd (rel.put k rv) dd')
 .subst ey eH
  cases (show u=AB b from ry)
  obtain⟨z,hd,xs,rel,dd⟩:=dt_of I.hok e;have hz:xs.length<=sizeLine:=by rw[<- Paired.length rel];exact z
  have hl:(putK kvs k v).length<=sizeLine:=by have:=zbs kvs k v;lia
  refine wpAny_setItem_heap (hsz:=hz) (tupleKind_room_in1 hu) (zf8 I.hok eb) dd λh' dd' hs=>h _ ?_
  obtain⟨q,es,ep,hq,h2,h3,h4,_,h5⟩:=dd';refine zfu I (by rw[e];exact BZ) hs ⟨q,hq⟩ ⟨hl,hd,_,(rel.put k eb rv).keeps λc ys ec=>?_,q,es,ep,hq,h2,h3,h4,h5⟩;rw[zam (ne_of ec e (λz=>nomatch z))];exact ec
end
section
variable {X:Cx}{pins:List (Addr×Obj)}{σ:St}{H:Hp}{s:Ae}{a:Addr}{kvs:List (Key×V)}{k:Key}{u:Ad}{A:AQ}{E:Ad->Ae->Prop}
end
noncomputable def NoSl(i:Expr):Prop:=∀ov iv,subscripted i false ov iv=operate [ov,iv] (getItem ov iv)
theorem zla{prog:AK}{w:A1}{A:AQ}{E:Ad -> Ae -> Prop}{s:Ae}{env:Env}{value slice:Expr}{pos:Pos}{T id:String}{Q:Ad -> Ae -> Prop}
  (hl:typeLookup (.type T) "__getitem__" = pure (some (.builtin id))) (hs:NoSl slice)
  (h:Ar (Av prog w) A (eval value env) (λo s₁=>Ar (Av prog w) A (eval slice env) (λi s₂=>s₂.TypeIs o T/\Ar (Av prog w) A (getItem o i) Q E s₂) E s₁) E s) :
  Ar (Av prog w) A (eval (.Subscript value slice pos) env) Q E s:=by
 refine Subscript_ (BG h (λo s₁ h₁=>BG h₁ (λi s₂ h₂=>?_) λ_ _ x=>x) λ_ _ x=>x);obtain⟨hT,h₂⟩:=h₂;unfold subscriptTail;refine Ac ?_
 rw[getitemInPython_of_ne hT.not_modules];refine Ac (wpAny_specialOf hT hl ?_)
 have fin:Ar (Av prog w) A (subscripted slice false o i) (λr s₃=>Ar (Av prog w) A (letTemporaryGo value o r >>= λ_=>pure r) Q E s₃) E s₂:=by rw[hs o i];exact wpAny_operating (BG h₂ (λr s₃ h₃=>Ac (wpAny_letTemporaryGo (Al h₃))) λ_ _ x=>x)
 first
  |exact Al (Ac fin)
  |exact Ac (Al (Ac fin))
  |exact Ac fin
noncomputable def tDIn(ty td:TE):TE:=λσ H Q=>ty σ H λy H1=>td σ H1 λx H2=>∃a o,x=.ref a/\DGet H2 a y o/\Q (.bl o.isSome) H2
noncomputable def zk8(ty td:TE):TE:=λσ H Q=>ty σ H λy H1=>td σ H1 λx H2=>∃a o,x=.ref a/\DGet H2 a y o/\Q (.bl (!o.isSome)) H2
noncomputable def sDPut(td ty tv:TE):TS:=λD σ H=>tv σ H λv H1=>td σ H1 λx H2=>ty σ H2 λy H3=>∃a H4,x=.ref a/\DPut H3 a y v H4/\D.nx σ H4
section
variable {X:Cx}{o i e value:Expr}{pos pos' tpos:Pos}{td ty tv:TE}
theorem zmb(hu:X.A.units+1<cLine)(hi:PE X i ty)(ho:PE X o td):PC X .In i o (tDIn ty td):=by
 intro pins s σ H Q I h;refine thn (hi pins s σ H _ I h) λiv s1 ⟨y,H1,I1,ry,q1⟩=>thn (ho pins s1 σ H1 _ I1 q1) λu s2 ⟨x,H2,I2,rx,a,ov,ex,g,q2⟩=>?_
 subst ex;obtain rfl:u=AB a:=rx;exact d_in hu I2 g ry λs3 I3=>⟨.bl ov.isSome,H2,I3,rfl,q2⟩
theorem zfY(hu:X.A.units+1<cLine)(hi:PE X i ty)(ho:PE X o td):PC X .NotIn i o (zk8 ty td):=by
 intro pins s σ H Q I h;refine thn (hi pins s σ H _ I h) λiv s1 ⟨y,H1,I1,ry,q1⟩=>thn (ho pins s1 σ H1 _ I1 q1) λu s2 ⟨x,H2,I2,rx,a,ov,ex,g,q2⟩=>?_
 subst ex;obtain rfl:u=AB a:=rx;exact zlM hu I2 g ry λs3 I3=>⟨.bl (!ov.isSome),H2,I3,rfl,q2⟩
theorem zln(hu:X.A.units + 1 < cLine)(ho:PE X o td)(hi:PE X i ty)(hv:PE X value tv)(hs:swapsWith value (some (.Subscript o i pos')) pos.line X.env=pure false) :
  PS X (.Assign [.Subscript o i pos'] value pos) (sDPut td ty tv):=by
 intro pins s σ H D I h;refine wpAny_Assign_Subscript (thn (hv pins s σ H _ I h) λr s1 ⟨v,H1,I1,rv,q1⟩=>thn (ho pins s1 σ H1 _ I1 q1) λu s2 ⟨x,H2,I2,rx,q2⟩=>thn (hi pins s2 σ H2 _ I2 q2) λiv s3 ⟨y,H3,I3,ry,a,H4,ex,g,q3⟩=>?_) hs;subst ex;obtain rfl:u=AB a:=rx;exact zjI hu I3 g ry rv λs4 I4=>⟨σ,H4,I4,q3⟩
end
theorem zhM {P:AK}{w:A1}{H:Hp}(h:Heap) (hb:Cv<h.objs.size):ObjOk P w H (h.push { cls:=.type "dict",data:=.dict #[] }) h.objs.size (.dT []) :=
 ⟨AV _,beq_eq_false_iff_ne.mpr (By (AC hb)),[],.nil,_,#[],0,AG _ rfl,⟨rfl,rfl,rfl⟩,rfl,rfl,List.nodup_nil⟩
noncomputable def zl3:TE:=λ_ H Q=>∀p,H p=none->Q (.ref p) (upd H p (.dT []))
section
variable {X:Cx}{pos:Pos}
theorem zkk:PE X (.Dict [] [] pos) zl3:=λpins s σ H Q I h =>
 wpAny_Dict_empty ⟨.ref s.heap.objs.size,_,I.laid (a:=s.heap.objs.size) (o:=.dT []) (t':=s.toks) (λ_ _ q=>Ai _ q) (Ah _) (zhM s.heap I.big),rfl,h _ (I.hok.fresh (Ah _))⟩
end
structure M1 (X:Cx) (o:Expr) (m:Str) (apos:Pos) (e:Expr) (cpos:Pos):Prop where
 base:attributeBase o m X.env (eval o X.env)=eval o X.env
 few:((Ci cpos (AJ [e] X.env)).all (λx=>!x.1) && (CZ cpos (BX [] X.env)).all (λx=>x.1.isSome)
  && decide (([e]:List Expr).length+([]:List Keyword).length+(if ([]:List Keyword).isEmpty then 0 else 1)<30))=true
 line:(apos.endLine == cpos.line)=true
 trees:Ci cpos (AJ [e] X.env)=[(false,eval e X.env)]
structure M2 (X:Cx) (o:Expr) (m:Str) (apos:Pos) (e f:Expr) (cpos:Pos):Prop where
 base:attributeBase o m X.env (eval o X.env)=eval o X.env
 few:((Ci cpos (AJ [e,f] X.env)).all (λx=>!x.1) && (CZ cpos (BX [] X.env)).all (λx=>x.1.isSome)
  && decide (([e,f]:List Expr).length+([]:List Keyword).length+(if ([]:List Keyword).isEmpty then 0 else 1)<30))=true
 line:(apos.endLine == cpos.line)=true
 trees:Ci cpos (AJ [e,f] X.env)=[(false,eval e X.env),(false,eval f X.env)]
section
variable {X:Cx}{pins:List (Addr×Obj)}{σ:St}{H:Hp}{s:Ae}{a:Addr}{y d:V}{u r:Ad}{o:Option V}{A:AQ}{E:Ad->Ae->Prop}
end
section
variable {X:Cx}{o e f:Expr}{apos cpos:Pos}{td ty tx:TE}
end
section
variable {X:Cx}{pins:List (Addr×Obj)}{σ:St}{H:Hp}{s:Ae}{a:Addr}{kvs:List (Key×V)}{A:AQ}{E:Ad->Ae->Prop}
end
section
variable {X:Cx}{pins:List (Addr×Obj)}{σ:St}{H:Hp}{s:Ae}{a:Addr}{y:V}{u:Ad}{A:AQ}{E:Ad->Ae->Prop}
end
end L2
namespace HT
open PySem PyProof.Rows
noncomputable def lexLt:List Int->List Int->Bool
 |[],[]=>false
 |[],_::_=>true
 |_::_,[]=>false
 |x::xs,y::ys=>if x=y then lexLt xs ys else decide (x<y)
theorem lexLt_cons(x y:Int)(xs ys:List Int):lexLt (x::xs) (y::ys)=if x=y then lexLt xs ys else decide (x<y):=rfl
theorem zfr:lexLt [] []=false:=rfl
theorem zeE(y:Int)(ys:List Int):lexLt [] (y::ys)=true:=rfl
theorem zeF(x:Int)(xs:List Int):lexLt (x::xs) []=false:=rfl
theorem zhK(A:AQ)(s:Ae)(a:Int)(t:Tok)(c:Int)(u:Tok):∃e,SeqAt.EqAt A s (.int a t) (.int c u) e/\(e=true ↔ a=c) :=
 ⟨(a == c),SeqAt.EqAt.int_int a t c u,by simp⟩
theorem zkc(A:AQ)(s:Ae)(a:Int)(t:Tok)(c:Int)(u:Tok)(prog:AK)(w:A1)(E:Ad -> Ae -> Prop)(Q:Ad -> Ae -> Prop)(h:Q (.bool (decide (a < c))) s) :
  Ar (Av prog w) A (richCompare .Lt (.int a t) (.int c u)) Q E s :=
 (PyProof.Rows.lt_int h:Ar (Av prog w) A (Bu .Lt (.int a t) (.int c u)) Q E s)
section
open PySem.SeqAt
open PySem.AutoSeq1 (wpAny_loadPart')
open PySem.MeetsSeq PySem.MeetsSeq2 PySem.MeetsSeq3
theorem ze4(l b:Addr)(items items2:Array Ad)(n n2:Nat)(dd dd2:Option Addr)(sl sl2:Array (Option Ad))(ns ms:List Int)(hi:BV items.toList ns)(hj:BV items2.toList ms) :
  Meets (Builtin.«tuple.__lt__» ⟨[.ref l,.ref b],[]⟩)
   (λ_ R s=>s.heap.get? l=some { cls:=.type "tuple",dict:=dd,data:=.seq items n,slots:=sl }/\s.heap.get? b=some { cls:=.type "tuple",dict:=dd2,data:=.seq items2 n2,slots:=sl2 } /\
    R (.ok (.ret (.bool (lexLt ns ms)))) s) :=
 .of_wp λprog w A R s h=>by
  obtain⟨hp,g,d,tk,os⟩:=s;obtain⟨hl,hb,h⟩:=h;have f2:=AutoSeq1.sub_tuple_tuple;have z1:items.size=ns.length:=by rw[<- hi.length];simp
  have z2:items2.size=ms.length:=by rw[<- hj.length];simp
  wp_walk using BS hl,BS hb,wpAny_forIn_list _ (λrest b s'=>b.1=none/\s'=⟨hp,g,d,tk,os⟩/\∃(vs ws:List Ad) (ns' ms':List Int),rest=vs.zip ws /\
   BV vs ns'/\BV ws ms'/\ns'.length+items2.size=ms'.length+items.size/\R (.ok (.ret (.bool (lexLt ns' ms')))) ⟨hp,g,d,tk,os⟩) _
  case turn =>
   rintro⟨y,x⟩ rest b s' ⟨hb',rfl,vs,ws,ns',ms',hz,hvi,hwi,hlen,hR⟩
   cases hvi with
   |nil=>rw[List.zip_nil_left]at hz;cases hz
   |cons a t hvi' =>
    cases hwi with
    |nil=>rw[List.zip_nil_right]at hz;cases hz
    |cons c u hwi' =>
     rw[B2]at hz;injection hz with hyx hrest;injection hyx with hy hx;subst hy hx;rw[lexLt_cons]at hR;simp only[AO]at hlen;obtain⟨e,he,hiff⟩:=zhK A.in1 ⟨hp,g,d,tk,os⟩ a t c u;refine Ac (he prog w _ _ ?_)
     cases e with
     |true =>
      rw[if_pos (hiff.mp rfl)]at hR
      wp_walk
      exact⟨rfl,rfl,_,_,_,_,hrest,hvi',hwi',by lia,hR⟩
     |false =>
      rw[if_neg (λq=>absurd (hiff.mpr q) Aw)]at hR;have hri:=zkc A.in1 ⟨hp,g,d,tk,os⟩ a t c u prog w
      wp_walk using hri
      exact⟨_,rfl,by simpa using hR⟩
  case fin =>
   rintro⟨b1,b2⟩ s' ⟨hb',rfl,vs,ws,ns',ms',hz,hvi,hwi,hlen,hR⟩;simp only at hb';subst hb'
   have hv:lexLt ns' ms'=decide (items.size<items2.size):=by
    cases hvi with
    |nil =>
     cases hwi with
     |nil =>
      simp only[BR]at hlen;rw[zfr];exact (decide_eq_false (by lia)).symm
     |cons c u hw =>
      simp only[BR,AO]at hlen;rw[zeE];exact (decide_eq_true (by lia)).symm
    |cons a t hv =>
     cases hwi with
     |nil =>
      simp only[BR,AO]at hlen;rw[zeF];exact (decide_eq_false (by lia)).symm
     |cons c u hw =>
      rw[B2]at hz
      cases hz
   rw[hv]at hR
   wp_walk
   exact⟨_,rfl,by simpa[Builtin.Tuple.tupleCompareSizes]using hR⟩
  case h =>
   exact⟨rfl,rfl,items.toList,items2.toList,ns,ms,rfl,hi,hj,by lia,h⟩
end
section
variable {prog:AK}{w:A1}{A:AQ}{E:Ad->Ae->Prop}{s:Ae}
theorem lt_tupInts{l b:Addr}{items items2:Array Ad}{ns ms:List Int}{Q:Ad -> Ae -> Prop}(hl:IsTup s.heap l items)(hb:IsTup s.heap b items2)(hi:BV items.toList ns)(hj:BV items2.toList ms)
  (hu:A.units<cLine) (h:Q (.bool (lexLt ns ms)) s):Ar (Av prog w) A (Bu .Lt (.ref l) (.ref b)) Q E s:=by
 obtain⟨⟨cls,dd,data,sl⟩,ho,hc,n,hd⟩:=id hl;obtain⟨⟨cls2,dd2,data2,sl2⟩,ho2,hc2,n2,hd2⟩:=id hb;simp only at hc hd hc2 hd2;subst hc hd hc2 hd2
 exact richCompare_meets_room (op:=.Lt) ⟨_,ho,rfl⟩ ⟨_,ho2,rfl⟩ PySem.F.slot_tuple_lt PySem.F.entry_tuple_lt (PySem.F.args_tuple_lt_2 _ _) (ze4 l b items items2 n n2 dd dd2 sl sl2 ns ms hi hj)
  ⟨ho,ho2,show C9 (lexLt ns ms)≠Value.notImplemented/\Q (.bool (lexLt ns ms)) s from ⟨(λx=>nomatch x),h⟩⟩ hu
noncomputable def sIx(n d:Nat):Option Int->Nat
 |none=>d
 |some v=>if v<0 then (v+(n:Int)).toNat else min v.toNat n
theorem sIx_none(n d:Nat):sIx n d none=d:=rfl
theorem sIx_nat(n d k:Nat):sIx n d (some (k:Int))=min k n:=by show (if (k:Int)<0 then ((k:Int)+(n:Int)).toNat else min (k:Int).toNat n)=min k n;rw[if_neg (by lia),Int.toNat_natCast]
theorem zl8(n d:Nat)(hd:d<=n)(o:Option Int):sIx n d o<=n:=by
 cases o with
 |none=>exact hd
 |some v =>
  show (if v<0 then (v+(n:Int)).toNat else min v.toNat n)<=n
  by_cases hv:v<0
  .rw[if_pos hv];lia
  .rw[if_neg hv];exact Nat.min_le_right _ _
theorem zjN(v:Int)(n d:Nat):(if v<0 then max (v+(n:Int)) 0 else min v (n:Int))=((sIx n d (some v):Nat):Int):=by
 show (if v<0 then max (v+(n:Int)) 0 else min v (n:Int))=(((if v<0 then (v+(n:Int)).toNat else min v.toNat n):Nat):Int)
 by_cases hv:v<0
 .simp only[if_pos hv];lia
 .simp only[if_neg hv];lia
theorem zil(lo hi:Option Int)(n:Nat):CT lo hi 1 (n:Int)=(((sIx n 0 lo:Nat):Int),((sIx n n hi:Nat):Int)):=by
 have h1:¬ ((1:Int)<0):=by lia
 unfold CT;simp only[h1,if_false];refine Prod.ext ?_ ?_
 .cases lo with
  |none=>rfl
  |some v=>exact zjN v n 0
 .cases hi with
  |none=>rfl
  |some v=>exact zjN v n n
theorem zh8(i j:Nat):B7 (i:Int) (j:Int) 1=j-i:=by
 unfold B7;have h1:(1:Int) > 0:=by lia
 simp only[h1,if_true,Int.ediv_one];split <;> lia
theorem zeR{v:Ad}{o:Option Int}{Q:Option Int->Ae->Prop}(p:IsPart v o)(h:Q o s):Ar (Av prog w) A (Builtin.Slice.slicePartIndex v) Q E s:=by
 cases p with
 |none=>exact slicePart_none h
 |int i t=>exact slicePart_int h
theorem zcr{sl:Addr}{vl vu:Ad}{lo hi:Option Int}{n:Nat}{Q:Int × Int × Nat -> Ae -> Prop}(hs:s.heap.IsSliceOf sl vl vu .none)(pl:IsPart vl lo)(pu:IsPart vu hi)
  (h:Q (((sIx n 0 lo:Nat):Int),1,sIx n n hi-sIx n 0 lo) s):Ar (Av prog w) A (Builtin.Slice.sliceApplied (.ref sl) (pure (n:Int))) Q E s:=by
 obtain⟨os,hos,hcs,hds⟩:=id hs;unfold Builtin.Slice.sliceApplied Builtin.Slice.sliceFields;refine Ac (Ac (BY hos hds (x:=vl) rfl (Ac (BY hos hds (x:=vu) rfl (Ac (BY hos hds (x:=.none) rfl (Al ?_)))))));refine Ac (slicePart_none ?_);show Ar _ _ (if ((1:Int) == 0)=true then _ else _) _ _ s;rw[if_neg (by decide)];refine Ac (zeR pl (Ac (zeR pu (Ac (Al ?_)))));show Ar _ _ (match CT lo hi 1 (n:Int) with | (lo,hi)=>pure (lo,(1:Int),B7 lo hi 1)) _ _ s;rw[zil lo hi n];show Ar _ _ (pure (((sIx n 0 lo:Nat):Int),(1:Int),B7 ((sIx n 0 lo:Nat):Int) ((sIx n n hi:Nat):Int) 1)) _ _ s;rw[zh8];exact Al h
theorem zkh(xs:Array Ad)(i k:Nat):((As k).filterMap λ(m:Nat)=>xs[((i:Int)+(m:Int)*1).toNat]?).toArray=((xs.toList.drop i).take k).toArray:=by
 have e:(λ(m:Nat)=>xs[((i:Int)+(m:Int)*1).toNat]?)=λm=>xs[i+m]?:=by
  funext m
  have:((i:Int)+(m:Int)*1).toNat=i+m:=by lia
  rw[this]
 rw[e];have:=pick_run xs i k;rw[B3]at this;have e2:((λx=>xs[x]?) ∘ λx=>i+x)=λm=>xs[i+m]?:=rfl
 rw[e2]at this;rw[this]
theorem getItem_tuple_cut{t sl:Addr}{items:Array Ad}{vl vu:Ad}{lo hi:Option Int}{Q:Ad -> Ae -> Prop}(ht:IsTup s.heap t items)(hs:s.heap.IsSliceOf sl vl vu .none)(pl:IsPart vl lo)(pu:IsPart vu hi)
  (hw:¬ (sIx items.size 0 lo=0/\sIx items.size items.size hi=items.size))
  (h:Q (.ref s.heap.objs.size) { s with heap:=s.heap.push { cls:=.type "tuple",data:=.seq ((items.toList.drop (sIx items.size 0 lo)).take (sIx items.size items.size hi-sIx items.size 0 lo)).toArray } })
  (hsz:items.size<=sizeLine):Ar (Av prog w) A (getItem (.ref t) (.ref sl)) Q E s:=by
 have htake:sizeOk (.seq ((items.toList.drop (sIx items.size 0 lo)).take (sIx items.size items.size hi-sIx items.size 0 lo)).toArray):=by show ((items.toList.drop (sIx items.size 0 lo)).take (sIx items.size items.size hi-sIx items.size 0 lo)).toArray.size<=sizeLine;rw[An,Aq,AE,Array.length_toList];lia
 have hj:sIx items.size items.size hi<=items.size:=zl8 _ _ (Ah _) hi;obtain⟨os,hos,hcs,hds⟩:=id hs;have hTs:s.TypeIs (.ref sl) "slice":=⟨os,hos,hcs⟩;unfold getItem
 try with_reducible refine A7 ?_
 first |refine Ac (Al ?_) |skip
 refine Ac (wpAny_sequenceKey ht.typeIs (by decide) ?_)
 refine Ac (Cq (name:=AR "__getitem__") ht.typeIs Bi
  (wpAny_call_entry Bi ht.typeIs entry_tuple_getitem ?_ (args_tuple_getitem _ _)))
 show Ar _ _ (Builtin.Tuple.tupleItemsOf (.ref t) >>= _) _ _ s;refine Ac (tupleItemsOf_ ht ?_);refine Ac (wpAny_typeOf hTs ?_);rw[if_pos (by decide)];refine Ac (zcr hs pl pu ?_)
 have hno:¬ ((((sIx items.size 0 lo:Nat):Int) == 0 && (1:Int) == 1 && (sIx items.size items.size hi-sIx items.size 0 lo) == items.size)=true):=by intro q;rw[AT,AT]at q;have q1:((sIx items.size 0 lo:Nat):Int)=0:=eq_of_beq q.1.1;have q2:sIx items.size items.size hi-sIx items.size 0 lo=items.size:=eq_of_beq q.2;exact hw ⟨by lia,by lia⟩
 show Ar _ _ (if (((sIx items.size 0 lo:Nat):Int) == 0 && (1:Int) == 1 && (sIx items.size items.size hi-sIx items.size 0 lo) == items.size)=true then _ else _) _ _ s;rw[if_neg hno,zkh]
 first
  |exact Ac (m:=Ck _) (Bl (Al ⟨_,rfl,Al h⟩) htake)
  |exact Ac (m:=Ck _) (Bl (Ac (Al (Al ⟨_,rfl,Al h⟩))) htake)
  |exact Ac (Ac (m:=Ck _) (Bl (Al (Al ⟨_,rfl,Al h⟩)) htake))
  |exact Ac (Ac (m:=Ck _) (Bl (Al ⟨_,rfl,Al h⟩) htake))
end
end HT
namespace L2
open PySem PySem.Spec PyProof.Rows
noncomputable abbrev TO:=St->Hp->(Option Int->Hp->Prop)->Prop
noncomputable def PO(X:Cx)(e:Option Expr)(t:TO):Prop :=
 ∀(pins:List (Addr×Obj)) (s:Ae) (σ:St) (H:Hp) (Q:Option Int->Hp->Prop),Inv X pins σ H s->t σ H Q ->
  Ar (Av X.prog X.w) X.A (evalPart e X.env) (λu s'=>∃o H',Inv X pins σ H' s'/\IsPart u o/\Q o H') X.xe s
noncomputable def zar:TO:=λ_ H Q=>Q none H
noncomputable def tPart(t:TE):TO:=λσ H Q=>t σ H λx H1=>∃i,x=.int i/\Q (some i) H1
theorem zcM{ns:List Int}:∀{us:List Ad},Vals (ns.map V.int) us->BV us ns:=by
 induction ns with
 |nil=>intro us r;rw[List.map_nil]at r;cases r;exact .nil
 |cons n ns ih =>
  intro us r;rw[AW]at r
  cases r with
  |cons r1 r2 =>
   obtain⟨t,e⟩:=r1;subst e;exact .cons n t (ih r2)
section
variable {X:Cx}{e:Expr}{te:TE}{lo hi:Option Expr}{tl th:TO}{pos p2:Pos}
theorem zaN:PO X none zar:=by intro pins s σ H Q I h;rw[evalPart_none];exact Al ⟨none,H,I,.none,h⟩
theorem zaI(h:PE X e te):PO X (some e) (tPart te):=by
 intro pins s σ H Q I hw;rw[evalPart_some];refine thn (h pins s σ H _ I hw) λu s1 ⟨x,H1,I1,r1,q1⟩=>?_
 obtain⟨i,rfl,q⟩:=q1;obtain⟨t,rfl⟩:=r1;exact⟨some i,H1,I1,.int i t,q⟩
noncomputable def SlR(X:Cx)(r:V->Option Int->Option Int->Hp->VK->Prop):Prop :=
 ∀(pins:List (Addr×Obj)) (s:Ae) (σ:St) (H:Hp) (x:V) (v vl vu:Ad) (lo hi:Option Int) (sl:Addr) (Q:VK),Inv X pins σ H s->RelV x v->s.heap.IsSliceOf sl vl vu .none->IsPart vl lo->IsPart vu hi->r x lo hi H Q ->
  ∃T id,typeLookup (.type T) "__getitem__" = pure (some (.builtin id))/\s.TypeIs v T/\Ar (Av X.prog X.w) X.A (getItem v (.ref sl)) (EP X pins σ Q) X.xe s
noncomputable def tSl(r:V->Option Int->Option Int->Hp->VK->Prop)(te:TE)(tl th:TO):TE:=λσ H Q=>te σ H λx H1=>tl σ H1 λl H2=>th σ H2 λu H3=>r x l u H3 Q
theorem zax{r:V->Option Int->Option Int->Hp->VK->Prop}(hr:SlR X r)(he:PE X e te)(hl:PO X lo tl)(hu:PO X hi th):PE X (.Subscript e (.Slice lo hi none p2) pos) (tSl r te tl th):=by
 intro pins s σ H Q I h;refine Subscript_ (thn (he pins s σ H _ I h) λv s1 ⟨x,H1,I1,r1,q1⟩=>?_);refine wpAny_Slice (thn (hl pins s1 σ H1 _ I1 q1) λvl s2 ⟨l,H2,I2,pl,q2⟩=>thn (hu pins s2 σ H2 _ I2 q2) λvu s3 ⟨u,H3,I3,pu,q3⟩=>?_);rw[evalPart_none];refine Al ?_
 have I4:Inv X pins σ H3 { s3 with heap:=s3.heap.push { cls:=.type "slice",data:=.fields #[vl,vu,.none] } }:=I3.kept (t':=s3.toks) λb ob q=>Ai _ q
 obtain⟨T,id,hT,ht,hg⟩:=hr pins { s3 with heap:=s3.heap.push { cls:=.type "slice",data:=.fields #[vl,vu,.none] } } σ H3 x v vl vu l u s3.heap.objs.size Q I4 r1 (Heap.IsSliceOf.new ..) pl pu q3;show Ar (Av X.prog X.w) X.A (subscriptTail e (.Slice lo hi none p2) v (.ref s3.heap.objs.size)) (EP X pins σ Q) X.xe { s3 with heap:=s3.heap.push { cls:=.type "slice",data:=.fields #[vl,vu,.none] } };exact tail_any (ops:=[.ref s3.heap.objs.size,v]) ht hT hg (by with_unfolding_all rfl)
noncomputable def cutV(xs:List V)(lo hi:Option Int):List V:=(xs.drop (HT.sIx xs.length 0 lo)).take (HT.sIx xs.length xs.length hi-HT.sIx xs.length 0 lo)
theorem zee(xs:List V)(lo hi:Option Int):(cutV xs lo hi).length<=xs.length:=by unfold cutV;rw[Aq,AE];lia
noncomputable def rSlT(K:W.Frag):V->Option Int->Option Int->Hp->VK->Prop:=λx lo hi H Q=>∃a xs,x=.ref a/\SqT K H a xs /\
 ¬ (HT.sIx xs.length 0 lo=0/\HT.sIx xs.length xs.length hi=xs.length)/\∀p,H p=none->Q (.ref p) (upd H p (.tup (cutV xs lo hi)))
theorem zl5:SlR X (rSlT X.K):=by
 intro pins s σ H x v vl vu lo hi sl Q I rx hs pl pu h;obtain⟨a,xs,rfl,hx,hw,q⟩:=h
 cases rx
 obtain⟨its,r,ht,hz⟩:=I.tuple hx;have hlen:its.toArray.size=xs.length:=by rw[An];exact r.length.symm
 refine⟨"tuple",_,Bi.lookup,ht.typeIs,?_⟩;refine HT.getItem_tuple_cut ht hs pl pu (by rw[hlen];exact hw) ?_ (by rw[hlen];exact hz)
 rw[hlen];refine⟨.ref s.heap.objs.size,_,I.laid (t':=s.toks) (o:=.tup (cutV xs lo hi)) (λb ob q=>Ai _ q) (Ah _) ?_,rfl,q _ (I.hok.fresh (Ah _))⟩;exact⟨AF (zee xs lo hi) hz,_,(r.drop (HT.sIx xs.length 0 lo)).take (HT.sIx xs.length xs.length hi-HT.sIx xs.length 0 lo),IsTup.new _ _⟩
end
noncomputable def ixN(n:Nat)(i:Int):Option Nat:=if 0<=i then (if i<n then some i.toNat else none) else if -(n:Int)<=i then some (i+n).toNat else none
noncomputable def atI{α:Type}(xs:List α)(i:Int):Option α:=(ixN xs.length i).bind λj=>xs[j]?
theorem zjx{n:Nat}{i:Int}{j:Nat}(h:ixN n i=some j):seqIndex? i n=some j/\j<n/\-(n:Int)<=i/\i<n:=by
 unfold ixN at h
 by_cases h0:0<=i
 .rw[if_pos h0]at h
  by_cases h1:i<n
  .rw[if_pos h1]at h;have e:i.toNat=j:=A2 h;exact⟨by rw[seqIndex_of h0 h1,e],by lia,by lia,h1⟩
  .rw[if_neg h1]at h;cases h
 .rw[if_neg h0]at h
  by_cases h1:-(n:Int)<=i
  .rw[if_pos h1]at h;have e:(i+n).toNat=j:=A2 h;exact⟨by rw[seqIndex_neg (by lia) h1,e],by lia,h1,by lia⟩
  .rw[if_neg h1]at h;cases h
theorem zjT{α:Type}{xs:List α}{i:Int}{v:α}(h:atI xs i=some v):∃j,seqIndex? i xs.length=some j/\xs[j]?=some v/\j<xs.length/\-(xs.length:Int)<=i/\i<xs.length:=by
 unfold atI at h
 cases e:ixN xs.length i with
 |none=>rw[e]at h;cases h
 |some j =>
  rw[e]at h;obtain⟨h1,h2,h3,h4⟩:=zjx e;exact⟨j,h1,h,h2,h3,h4⟩
theorem zah{α:Type}{xs:List α}{j:Nat}{v:α}(h:xs[j]?=some v):atI xs (j:Int)=some v:=by
 have hj:j<xs.length:=(Ab.mp h).1
 have e:ixN xs.length (j:Int)=some j:=by unfold ixN;rw[if_pos (by lia),if_pos (by lia)];simp
 unfold atI;rw[e];exact h
theorem zhT{α:Type}(xs:List α)(v:α):atI (xs++[v]) (-1)=some v:=by
 have hl:(xs++[v]).length=xs.length+1:=by simp
 have e:ixN (xs++[v]).length (-1)=some xs.length:=by
  unfold ixN;rw[hl,if_neg (by decide),if_pos (by lia)]
  congr 1
  lia
 unfold atI;rw[e];show (xs++[v])[xs.length]?=some v;simp
noncomputable def zlW(b:Expr):Prop:=∀o i,subscripted b false o i=operate [o,i] (getItem o i)
noncomputable def IxR(X:Cx)(r:R2):Prop :=
 ∀(value slice:Expr) (pins:List (Addr×Obj)) (s:Ae) (σ:St) (H:Hp) (x y:V) (v u:Ad) (Q:VK),Inv X pins σ H s->RelV x v->RelV y u->r x y H Q ->
  subscripted slice false v u=operate [v,u] (getItem v u)->Ar (Av X.prog X.w) X.A (subscriptTail value slice v u) (EP X pins σ Q) X.xe s
noncomputable def MtR(X:Cx)(id:String)(r:V->List V->Hp->VK->Prop):Prop :=
 ∀(pins:List (Addr×Obj)) (s:Ae) (σ:St) (H:Hp) (x:V) (xs:List V) (v:Ad) (us:List Ad) (Q:VK),Inv X pins σ H s->RelV x v->Vals xs us->r x xs H Q ->
  Ar (Av X.prog X.w) X.A (call (.builtin id) (v::us)) (EP X pins σ Q) X.xe s
section
variable {X:Cx}{a b:Expr}{ta tb:TE}{pos:Pos}
theorem pe_ix{r:R2}(hr:IxR X r)(ha:PE X a ta)(hb:PE X b tb)(hs:zlW b):PE X (.Subscript a b pos) (tOp r ta tb):=by intro pins s σ H Q I h;exact Subscript_ (binT ha hb I h λv u s2 x y H2 I2 rx ry q=>hr a b pins s2 σ H2 x y v u Q I2 rx ry q (hs _ _))
noncomputable def rIxL(K:W.Frag):R2:=λx y H Q=>∃p xs i v,x=.ref p/\y=.int i/\SqL K H p xs/\atI xs i=some v/\Q v H
noncomputable def rIxT(K:W.Frag):R2:=λx y H Q=>∃p xs i v,x=.ref p/\y=.int i/\SqT K H p xs/\atI xs i=some v/\Q v H
theorem zat:IxR X (rIxL X.K):=by
 intro value slice pins s σ H x y v u Q I rx ry h hs;obtain⟨p,xs,i,z,rfl,rfl,hq,he,q⟩:=h
 cases rx
 obtain⟨t,rfl⟩:=ry;obtain⟨its,r,pl,hz⟩:=I.list hq;obtain⟨j,h1,h2,h3,h4,h5⟩:=zjT he;obtain⟨w,ew,rw'⟩:=r.get h2;have hl:=r.length;have hn:=zf7;have fin:EP X pins σ Q w s:=⟨z,H,I,rw',q⟩
 by_cases h0:0<=i
 .have hj:i.toNat=j := by rw[seqIndex_of h0 h5]at h1;exact A2 h1
  exact item_listR pl.isList h0 (by lia) (by rw[hj];simpa using ew) fin hs
 .have hj:(i + (its.toArray.size:Int)).toNat=j := by rw[seqIndex_neg (by lia) h4]at h1;rw[An,<- hl];exact A2 h1
  exact subscriptTail_builtinR (x:=w) pl.isList.typeIs slot_list_getitem.lookup
   (wpAny_getItem_list_neg (Q:=λr s'=>r=w/\EP X pins σ Q r s') pl.isList (by lia) (by rw[An] <;> lia) (by lia) (by rw[hj];simpa using ew) ⟨rfl,fin⟩) hs
theorem zap:IxR X (rIxT X.K):=by
 intro value slice pins s σ H x y v u Q I rx ry h hs;obtain⟨p,xs,i,z,rfl,rfl,hq,he,q⟩:=h
 cases rx
 obtain⟨t,rfl⟩:=ry;obtain⟨its,r,pl,hz⟩:=I.tuple hq;obtain⟨j,h1,h2,h3,h4,h5⟩:=zjT he;obtain⟨w,ew,rw'⟩:=r.get h2;have hl:=r.length;have hn:=zf7;have fin:EP X pins σ Q w s:=⟨z,H,I,rw',q⟩
 exact subscriptTail_builtinR (x:=w) pl.typeIs slot_tuple_getitem.lookup
  (getItem_tuple (j:=j) (Q:=λr s'=>r=w/\EP X pins σ Q r s') pl (by lia) (by lia) (by rw[An,<- hl];exact h1) (by simpa using ew) ⟨rfl,fin⟩) hs
theorem zif (its:List Ad) (n j:Nat) (u:Ad):AH (·.setIfInBounds j u) { cls:=.type "list",data:=.seq its.toArray n }={ cls:=.type "list",data:=.seq (its.set j u).toArray n }:=by simp[AH]
theorem Inv.lst{pins:List (Addr × Obj)}{σ : St}{H:Hp}{s:Ae}{p:Addr}{xs:List V}(I:Inv X pins σ H s)(h:H p=some (.lst xs)) :
  ∃(its:List Ad) (n:Nat),Vals xs its/\s.heap.get? p=some { cls:=.type "list",data:=.seq its.toArray n }/\xs.length<=sizeLine:=by
 obtain⟨z,its,n,r,e⟩:=I.hok p _ h;exact⟨its,n,r,e,z⟩
theorem Inv.lstUpd{pins:List (Addr × Obj)}{σ : St}{H:Hp}{s:Ae}{p:Addr}{xs ys:List V}{its its':List Ad}{n n':Nat}{f:Obj -> Obj}(I:Inv X pins σ H s)(h:H p=some (.lst xs))
  (ho:s.heap.get? p=some { cls:=.type "list",data:=.seq its.toArray n }) (hf:f { cls:=.type "list",data:=.seq its.toArray n }={ cls:=.type "list",data:=.seq its'.toArray n' }) (r:Vals ys its') (hz:ys.length<=sizeLine) (t:Nat) :
  Inv X pins σ (upd H p (.lst ys)) { s with heap:=s.heap.update p f,toks:=t }:=by
 have e:(s.heap.update p f).get? p=some { cls:=.type "list",data:=.seq its'.toArray n' }:=by rw[B6 f ho (by rw[hf] <;> rfl),hf]
 refine I.write (x:=p) (e:=p) (by rw[h];trivial) (.inl rfl) (λb u hb q=>(BJ _ _ (By hb)).trans q) ⟨_,e⟩ ?_
 exact⟨hz,its',n',r,e⟩
noncomputable def rSetL:V->V->V->Hp->(Hp->Prop)->Prop:=λo i v H Q=>∃p xs k j,o=.ref p/\i=.int k/\H p=some (.lst xs)/\ixN xs.length k=some j/\Q (upd H p (.lst (xs.set j v)))
theorem zhl:PSet X rSetL:=by
 intro pins s σ H o i v ov iv u Q I ro ri rv h;obtain⟨p,xs,k,j,rfl,rfl,hp,hj,q⟩:=h
 cases ro
 obtain⟨t,rfl⟩:=ri;obtain⟨its,n,r,ho,hz⟩:=I.lst hp;obtain⟨h1,h2,h3,h4⟩:=zjx hj;have hl:=r.length;have hn:=zf7
 have I':Inv X pins σ (upd H p (.lst (xs.set j v))) { s with heap:=s.heap.update p (AH (·.setIfInBounds j u)) } :=
  I.lstUpd hp ho (zif its n j u) (r.set rv j) (by rw[List.length_set];exact hz) s.toks
 by_cases h0:0<=k
 .have hk:k.toNat=j := by rw[seqIndex_of h0 h4]at h1;exact A2 h1
  exact W.ki_setAt ho h0 (by lia) (by rw[An,<- hl];exact h4) (by rw[hk];exact⟨_,I',q⟩)
 .have hk:(k + (its.toArray.size:Int)).toNat=j := by rw[seqIndex_neg (by lia) h3]at h1;rw[An,<- hl];exact A2 h1
  exact W.ki_setBack ho (by lia) (by rw[An,<- hl];exact h3) (by lia) (by rw[hk];exact⟨_,I',q⟩)
theorem zfQ(lo hi:Option Int)(n:Nat):(Dh lo hi none n).1=((HT.sIx n 0 lo:Nat):Int)/\(Dh lo hi none n).2.1=((HT.sIx n n hi:Nat):Int)/\(Dh lo hi none n).2.2=1:=by
 refine⟨?_,?_,rfl⟩
 .cases lo with
  |none=>simp[Dh,HT.sIx]
  |some i =>
   simp only[Dh,HT.sIx,Option.getD_none,show (1:Int) > 0 by decide,if_true]
   by_cases h:i<0
   .simp only[h,if_true] <;> lia
   .simp only[h,if_false] <;> lia
 .cases hi with
  |none=>simp[Dh,HT.sIx]
  |some i =>
   simp only[Dh,HT.sIx,Option.getD_none,show (1:Int) > 0 by decide,if_true]
   by_cases h:i<0
   .simp only[h,if_true] <;> lia
   .simp only[h,if_false] <;> lia
theorem ze9(its:List Ad)(lo hi:Option Int):slicePick its.toArray lo hi none=((its.drop (HT.sIx its.length 0 lo)).take (HT.sIx its.length its.length hi-HT.sIx its.length 0 lo)).toArray:=by obtain⟨h1,h2,h3⟩:=zfQ lo hi its.toArray.size;unfold slicePick;rw[h1,h2,h3];simp only[sliceRange_one,pick_run,An] <;> rfl
noncomputable def rSlL(K:W.Frag):V->Option Int->Option Int->Hp->VK->Prop:=λx lo hi H Q=>∃a xs,x=.ref a/\SqL K H a xs/\∀p,H p=none->Q (.ref p) (upd H p (.lst (cutV xs lo hi)))
theorem zaP:SlR X (rSlL X.K):=by
 intro pins s σ H x v vl vu lo hi sl Q I rx hs pl pu h;obtain⟨a,xs,rfl,hx,q⟩:=h
 cases rx
 obtain⟨its,r,ht,hz⟩:=I.list hx;have hlen:=r.length;refine⟨"list",_,slot_list_getitem.lookup,ht.isList.typeIs,?_⟩;refine wpAny_getItem_list_slice ht.isList hs pl pu .none (by simp) ?_ (by rw[An] <;> lia)
 rw[ze9,<- hlen];refine⟨.ref s.heap.objs.size,_,I.laid (t':=s.toks) (o:=.lst (cutV xs lo hi)) (λb ob q=>Ai _ q) (Ah _) ?_,rfl,q _ (I.hok.fresh (Ah _))⟩;exact⟨AF (zee xs lo hi) hz,_,0,(r.drop (HT.sIx xs.length 0 lo)).take (HT.sIx xs.length xs.length hi-HT.sIx xs.length 0 lo),AG _ rfl⟩
theorem zan:CallR X (.builtin "len") (λxs H Q=>∃p ys,xs=[.ref p]/\(SqL X.K H p ys∨SqT X.K H p ys)/\Q (.int ys.length) H):=by
 intro pins s σ H xs us Q I r h;obtain⟨p,ys,rfl,hq,q⟩:=h;obtain⟨u,rfl,rx⟩:=vals1 r
 cases rx
 have hn:=zf7;rcases hq with hq |hq
 .obtain⟨its,r',pl,hz⟩:=I.list hq;have hlen:=r'.length;exact Calls.call_len_list pl.isList (by simp only[An] <;> lia) ⟨.int ys.length,H,I.tok _,⟨s.toks+1,by rw[An,hlen]⟩,q⟩
 .obtain⟨its,r',pl,hz⟩:=I.tuple hq;have hlen:=r'.length;exact len_tuple pl (by simp only[An] <;> lia) ⟨.int ys.length,H,I.tok _,⟨s.toks+1,by rw[An,hlen]⟩,q⟩
theorem zgh:CallR X (.type "list") (λxs H Q=>∃p ys,xs=[.ref p]/\(SqL X.K H p ys∨SqT X.K H p ys)/\∀l,H l=none->Q (.ref l) (upd H l (.lst ys))):=by
  intro pins s σ H xs us Q I r h;obtain⟨p,ys,rfl,hq,q⟩:=h;obtain⟨u,rfl,rx⟩:=vals1 r
  cases rx
  have fin:∀(its:List Ad), Vals ys its -> ys.length <= sizeLine -> ∀(h':Heap) (c':Nat), (∀b o', s.heap.get? b=some o' -> h'.get? b=some o') ->
      h'.get? s.heap.objs.size=some { cls:=.type "list",dict:=none,data:=.seq its.toArray c',slots:=#[] }->EP X pins σ Q (.ref s.heap.objs.size) { s with heap:=h' }:=λits r' hz h' c' kp e =>
    ⟨.ref s.heap.objs.size,_,I.laid (t':=s.toks) kp (Ah _) (show ObjOk X.prog X.w _ h' _ (.lst ys) from ⟨hz,its,c',r',e⟩),rfl,q _ (I.hok.fresh (Ah _))⟩
  rcases hq with hq |hq
  . obtain⟨its,r',pl,hz⟩:=I.list hq;have hlen:=r'.length;obtain⟨o,ho,hc,n,hd⟩:=pl.isList;exact call_list_seq p (.inl rfl) ho hc hd (λh' c' kp e=>fin its r' hz h' c' kp e) (by simp only[An] <;> lia)
  . obtain⟨its,r',pl,hz⟩:=I.tuple hq;have hlen:=r'.length;obtain⟨o,ho,hc,n,hd⟩:=pl;exact call_list_seq p (.inr rfl) ho hc hd (λh' c' kp e=>fin its r' hz h' c' kp e) (by simp only[An] <;> lia)
theorem zco:CallR X (.type "tuple") (λxs H Q=>∃p ys,xs=[.ref p]/\((SqL X.K H p ys/\∀l,H l=none->Q (.ref l) (upd H l (.tup ys)))∨(SqT X.K H p ys/\Q (.ref p) H))):=by
 intro pins s σ H xs us Q I r h;obtain⟨p,ys,rfl,h⟩:=h;obtain⟨u,rfl,rx⟩:=vals1 r
 cases rx
 rcases h with⟨hq,q⟩ |⟨hq,q⟩
 .obtain⟨its,r',pl,hz⟩:=I.list hq;have hlen:=r'.length;refine call_tuple_list pl.isList (λh' kp=>?_) (by simp only[An] <;> lia);have I1:Inv X pins σ H { s with heap:=h' }:=I.kept (t':=s.toks) kp
  have I2:Inv X pins σ (upd H h'.objs.size (.tup ys)) { s with heap:=h'.push { cls:=.type "tuple",data:=.seq its.toArray } } :=
   I1.laid (t':=s.toks) (λb o e=>Ai _ e) (Ah _) (show ObjOk X.prog X.w _ _ _ (.tup ys) from ⟨hz,its,r',IsTup.new _ _⟩)
  exact⟨.ref h'.objs.size,_,I2,rfl,q _ (I1.hok.fresh (Ah _))⟩
 .obtain⟨its,r',pl,hz⟩:=I.tuple hq;exact call_tuple_same pl ⟨.ref p,H,I,rfl,q⟩
noncomputable def tyV(K:W.Frag)(T:String)(x:V)(H:Hp):Prop:=match x with
  |.str _=>T = "str"
  |.int _=>T = "int"
  |.ref p => (T = "list" /\ ∃xs, SqL K H p xs) ∨ (T = "tuple" /\ ∃o, K.lookup p=some o /\ o.cls = .type "tuple" /\ o.dict=none) ∨
      (T = "dict" /\ ((∃kvs,H p=some (.dK kvs))∨∃kvs,H p=some (.dT kvs)))∨(T = "set" /\ ∃S n,H p=some (.set S n))
  |_=>False
theorem zlZ{pins:List (Addr × Obj)}{σ : St}{H:Hp}{s:Ae}{T:String}{x:V}{v:Ad}(I:Inv X pins σ H s)(r:RelV x v)(ty:tyV X.K T x H) :
  s.TypeIs v T/\∀a,v=.ref a->∃ob,s.heap.get? a=some ob/\ob.dict=none:=by
 cases x with
 |str z =>
  obtain⟨t,rfl⟩:=r
  cases (show T = "str" from ty)
  exact⟨typeIs_str s z t,λ_ e=>nomatch e⟩
 |int i =>
  obtain⟨t,rfl⟩:=r
  cases (show T = "int" from ty)
  exact⟨typeIs_int s i t,λ_ e=>nomatch e⟩
 |ref p =>
  cases r
  rcases ty with⟨rfl,xs,hq⟩ |⟨rfl,o,hk,hc,hd⟩ |⟨rfl,hk⟩ |⟨rfl,S,n,hk⟩
  .obtain⟨its,_,pl,_⟩:=I.list hq;refine⟨pl.isList.typeIs,λa e=>?_⟩
   cases e
   obtain⟨o,n,e,c,hd,_⟩:=pl;exact⟨o,e,hd⟩
  .refine⟨⟨o,I.kIn p o hk,hc⟩,λa e=>?_⟩
   cases e
   exact⟨o,I.kIn _ o hk,hd⟩
  .have z:∃o, s.heap.get? p=some o /\ o.ExactDict := by
    rcases hk with⟨kvs,hk⟩ |⟨kvs,hk⟩
    .obtain⟨_,_,_,_,o,_,_,e,ex,_⟩:=I.hok p _ hk;exact⟨o,e,ex⟩
    .obtain⟨_,_,_,_,o,_,_,e,ex,_⟩:=I.hok p _ hk;exact⟨o,e,ex⟩
   obtain⟨o,e,ex⟩:=z;refine⟨⟨o,e,ex.1⟩,λa e2=>?_⟩
   cases e2
   exact⟨o,e,ex.2.1⟩
  .obtain⟨o,_,_,_,e,ex,_⟩:=I.hok p _ hk;refine⟨⟨o,e,ex.1⟩,λa e2=>?_⟩
   cases e2
   exact⟨o,e,ex.2.1⟩
 |_=>exact Bz ty
noncomputable def tBM(K:W.Frag)(T:String)(r:V->List V->Hp->VK->Prop)(to:TE)(t:TA):TE:=λσ H Q=>to σ H λx H1=>tyV K T x H1/\t σ H1 λxs H2=>r x xs H2 Q
variable {o e:Expr}{es:List Expr}{to:TE}{t:TA}{name:Str}{apos cpos:Pos}{T id:String}{r:V->List V->Hp->VK->Prop}
theorem pe_bm (pa:PlainAttrs T) (slot:Slot T name id) (hty:typeOf (.builtin id)=pure (.type "method_descriptor")) (hm:MtR X id r) (ho:PE X o to) (ha:PA X (e :: es) t)
  (hbase:attributeBase o name X.env (eval o X.env)=eval o X.env:=by rfl)
  (hfew:((Ci cpos (AJ (e::es) X.env)).all (λx=>!x.1) && (CZ cpos (BX [] X.env)).all (λx=>x.1.isSome)
   && decide ((e::es).length+([]:List Keyword).length+(if ([]:List Keyword).isEmpty then 0 else 1)<30))=true:=by rfl)
  (hline:(apos.endLine == cpos.line)=true:=by rfl) (hs:AJ (e::es) X.env=(false,eval e X.env)::AJ es X.env:=by rfl) (hplain:(Ci cpos (AJ es X.env)).any (·.1)=false:=by rfl) :
  PE X (.Call (.Attribute o name apos) (e::es) [] cpos) (tBM X.K T r to t):=by
 intro pins s σ H Q I h;refine wpAny_Call_method_late hbase hfew hline rfl (thn (ho pins s σ H _ I h) λv s1 ⟨x,H1,I1,r1,ty,q1⟩=>?_);obtain⟨h1,h2⟩:=zlZ I1 r1 ty;refine⟨T,id,pa,slot,hty,h1,h2,?_⟩;have hA:=ha cpos pins s1 σ H1 _ I1 q1;rw[hs]at hA ⊢;refine Calls.callWith_builtin (by show (false || (Ci cpos (AJ es X.env)).any (·.1))=false;rw[hplain] <;> rfl) (Calls.evalArgs_plain ?_);exact thn hA λus s2 ⟨vs,H2,I2,r2,q2⟩=>hm pins s2 σ H2 x vs v us Q I2 r1 r2 q2
/- xs.append(e),list.index on a module's tuple .. are MtR facts of 06m -/
end
noncomputable def MtM(X:Cx)(id:String)(r:V->List V->Hp->VK->Prop):Prop :=
 ∀(pins:List (Addr×Obj)) (s:Ae) (σ:St) (H:Hp) (x:V) (xs:List V) (v:Ad) (us:List Ad) (Q:VK),Inv X pins σ H s->RelV x v->Vals xs us->r x xs H Q ->
  Ar (Av X.prog X.w) X.A (call (.builtin id) (v::us)) (EP X pins σ Q) X.xe s
theorem Vals.one:∀{x:V}{us:List Ad},Vals [x] us->∃u,us=[u]/\RelV x u
 |_,_,.cons r .nil=>⟨_,rfl,r⟩
theorem Vals.reverse{xs:List V}{us:List Ad}(h:Vals xs us):Vals xs.reverse us.reverse:=by
 induction h with
 |nil=>exact .nil
 |cons r t ih=>rw[List.reverse_cons,List.reverse_cons];exact Vals.append ih (.cons r .nil)
theorem Vals.rep{xs:List V}{us:List Ad}(h:Vals xs us):∀k:Nat,Vals (AZ k xs).flatten (AZ k us).flatten
 | 0=>.nil
 |k+1=>by
  rw[BK,BK,Ce,Ce];exact Vals.append h (Vals.rep h k)
theorem zga(its:List Ad):∀(k:Nat) (acc:List Ad),
  List.foldl (λx1 x2=>x1++x2) acc.toArray (AZ k its.toArray)=(acc++(AZ k its).flatten).toArray
 | 0,acc=>by simp
 |k+1,acc=>by
  have e:acc.toArray++its.toArray=(acc++its).toArray:=by simp
  have e2:(acc++its)++(AZ k its).flatten=acc++(AZ (k+1) its).flatten:=by rw[BK,Ce,CI]
  rw[<- e2,<- zga its k (acc++its),<- e,BK,List.foldl_cons]
section
variable {X:Cx}{pins:List (Addr×Obj)}{σ:St}{H:Hp}{s:Ae}{l b:Addr}{xs ys zs:List V}
theorem Inv.lset{its its':List Ad}{n:Nat}{f:Array Ad -> Array Ad}{t':Nat}(I:Inv X pins σ H s)(hH:H l=some (.lst xs))
  (e:s.heap.get? l=some { cls:=.type "list",data:=.seq its.toArray n }) (hf:f its.toArray=its'.toArray) (hv:Vals ys its') (hz:ys.length<=sizeLine) :
  Inv X pins σ (upd H l (.lst ys)) { s with heap:=s.heap.update l (AH f),toks:=t' }:=by
 have q:=PySem.IsL.update e f;rw[hf]at q;refine I.write (x:=l) (e:=l) (by rw[hH];exact trivial) (.inl rfl) (λb' u hb hu=>(BJ s.heap (AH f) (By hb)).trans hu) ⟨_,q⟩ ?_
 exact⟨hz,its',_,hv,q⟩
theorem Inv.lnew{its:List Ad}{t':Nat}(I:Inv X pins σ H s)(hv:Vals ys its)(hz:ys.length <= sizeLine) :
  Inv X pins σ (upd H s.heap.objs.size (.lst ys)) { s with heap:=s.heap.push { cls:=.type "list",data:=.seq its.toArray },toks:=t' } :=
 I.laid (λ_ _ q=>Ai _ q) (Ah _) ⟨hz,its,0,hv,AG _ rfl⟩
theorem Inv.fresh(I:Inv X pins σ H s):H s.heap.objs.size=none:=I.hok.fresh (Ah _)
theorem Inv.lstM (I:Inv X pins σ H s) (hH:H l=some (.lst xs)):xs.length<=sizeLine/\∃(its:List Ad) (n:Nat),Vals xs its/\xs.length=its.length/\s.heap.get? l=some { cls:=.type "list",data:=.seq its.toArray n }:=by obtain⟨z,its,n,r,e⟩:=I.hok l _ hH;exact⟨z,its,n,r,r.length,e⟩
theorem zhx{n:Nat}(h:n<=sizeLine):Cm n=false:=by unfold Cm;exact decide_eq_false (by lia)
end
section
variable {X:Cx}
noncomputable def zlm:V->List V->Hp->VK->Prop:=λx vs H Q=>∃l xs y,x=.ref l/\vs=[y]/\H l=some (.lst xs)/\xs.length<sizeLine/\Q .non (upd H l (.lst (xs++[y])))
theorem zbP:MtM X "list.append" zlm:=by
 intro pins s σ H x vs v us Q I rx rv h;obtain⟨l,xs,y,rfl,rfl,hH,hz,q⟩:=h
 cases rx
 obtain⟨u,rfl,ru⟩:=rv.one;obtain⟨z,its,n,r,hl,e⟩:=I.lstM hH;refine call_meets F.slot_list_append ⟨_,e,rfl⟩ F.entry_list_append (F.args_list_append_2 _ _) (PySem.list_append l its.toArray n u (by rw[An];lia)) ⟨e,?_⟩;refine⟨.non,_,I.lset (its':=its++[u]) hH e (by simp) (r.append (.cons ru .nil)) ?_,rfl,q⟩;rw[Aj,Bv];lia
noncomputable def zll:V->List V->Hp->VK->Prop:=λx vs H Q=>∃l b xs zs,x=.ref l/\vs=[.ref b]/\H l=some (.lst xs)/\H b=some (.lst zs)/\xs.length+zs.length<=sizeLine/\Q .non (upd H l (.lst (xs++zs)))
theorem zjm:MtM X "list.extend" zll:=by
 intro pins s σ H x vs v us Q I rx rv h;obtain⟨l,b,xs,zs,rfl,rfl,hH,hB,hz,q⟩:=h
 cases rx
 obtain⟨u,rfl,ru⟩:=rv.one
 cases ru
 obtain⟨z,its,n,r,hl,e⟩:=I.lstM hH;obtain⟨z2,its2,n2,r2,hl2,e2⟩:=I.lstM hB;have hsz:its.toArray.size+its2.toArray.size<=sizeLine:=by rw[An,An];lia
 have hlong:¬ (!its.toArray.isEmpty && Cm (its.toArray.size+its2.toArray.size))=true:=by rw[zhx hsz,Bool.and_false];exact Aw
 refine call_meets F.slot_list_extend ⟨_,e,rfl⟩ F.entry_list_extend (F.args_list_extend_2 _ _)
  (AutoSeq1.list_extend_list_list_0 l its.toArray n b its2.toArray n2 hlong (by rw[An];lia) (by lia)) ⟨e,e2,?_⟩
 refine⟨.non,_,I.lset (its':=its++its2) hH e (by simp) (r.append r2) ?_,rfl,q⟩;rw[Aj];lia
noncomputable def rCat:R2:=λx y H Q=>∃l b xs zs,x=.ref l/\y=.ref b/\H l=some (.lst xs)/\H b=some (.lst zs)/\xs.length+zs.length<=sizeLine/\∀p,H p=none->Q (.ref p) (upd H p (.lst (xs++zs)))
theorem za5:OpR X (binaryOp .Add) rCat:=by
 intro pins s σ H x y v u Q I rx ry h;obtain⟨l,b,xs,zs,rfl,rfl,hH,hB,hz,q⟩:=h
 cases rx
 cases ry
 obtain⟨z,its,n,r,hl,e⟩:=I.lstM hH;obtain⟨z2,its2,n2,r2,hl2,e2⟩:=I.lstM hB;refine PySem.P.add_list e e2 ?_ (by rw[An,An];lia)
 have ea:its.toArray++its2.toArray=(its++its2).toArray:=by simp
 rw[ea];exact⟨.ref _,_,I.lnew (t':=s.toks) (r.append r2) (by rw[Aj];lia),rfl,q _ I.fresh⟩
noncomputable def rRep:R2:=λx y H Q=>∃l k xs,x=.ref l/\y=.int k/\H l=some (.lst xs)/\-(2 ^ 63)<=k/\k<2 ^ 63/\xs.length*k.toNat<=sizeLine /\
 ∀p,H p=none->Q (.ref p) (upd H p (.lst (AZ k.toNat xs).flatten))
theorem zlG{α:Type}(xs:List α)(k:Nat):(AZ k xs).flatten.length=k*xs.length:=by
 induction k with
 |zero=>simp
 |succ k ih=>rw[BK,Ce,Aj,ih,Nat.succ_mul,Nat.add_comm]
theorem zmc:OpR X (binaryOp .Mult) rRep:=by
 intro pins s σ H x y v u Q I rx ry h;obtain⟨l,k,xs,rfl,rfl,hH,h1,h2,hz,q⟩:=h
 cases rx
 obtain⟨t,rfl⟩:=ry;obtain⟨z,its,n,r,hl,e⟩:=I.lstM hH;have hlen:its.toArray.size*k.toNat<=sizeLine:=by rw[An,<- hl];exact hz
 have hcap:¬ its.toArray.size*k.toNat > (2 ^ 63-1) / 8:=by
  have:(sizeLine:Nat)<=(2 ^ 63-1) / 8:=by decide
  lia
 have hfit:¬ (!Builtin.List.listFitsIndex k)=true:=by rw[fitsIndex_both h1 h2];exact Aw
 have hlong:¬ Cm (its.toArray.size*k.toNat)=true:=by rw[zhx hlen];exact Aw
 have hnew:List.foldl (λx1 x2=>x1++x2) #[] (AZ (if its.toArray.isEmpty=true then 0 else k.toNat) its.toArray)=(AZ k.toNat its).flatten.toArray:=by
  have f0:∀m:Nat,List.foldl (λx1 x2=>x1++x2) #[] (AZ m its.toArray)=(AZ m its).flatten.toArray:=λm=>by have:=zga its m [];rw[List.nil_append]at this;exact this
  rw[f0]
  cases its with
  |nil=>simp
  |cons a r'=>rw[if_neg (by simp)]
 refine wpAny_binaryOp_repeat_ref (T:="list") (U:="int") (by decide) ⟨_,e,rfl⟩ (λs'=>typeIs_int s' k t) noFill_list_mul F.fills_int_mul F.slot_int_rmul repeat_list F.slot_int_index.lookup
  (call_meets F.slot_int_rmul (typeIs_int s k t) F.entry_int_rmul (F.args_int_rmul_2 _ _) (int___rmul___int_list k t l its.toArray n)
   ⟨e,rfl,⟨_,e,rfl⟩,call_meets F.slot_list_mul ⟨_,e,rfl⟩ F.entry_list_mul (F.args_list_mul_2 _ _) (AutoListH.list___mul___list_int_3 l its.toArray n k t hfit hcap hlong) ⟨e,?_⟩⟩)
 rw[hnew];exact⟨.ref _,_,I.lnew (t':=s.toks) (r.rep k.toNat) (by rw[zlG,Nat.mul_comm];exact hz),rfl,q _ I.fresh⟩
end
section
variable {prog:AK}{w:A1}{A:AQ}{E:Ad->Ae->Prop}{s:Ae}
end
section
variable {X:Cx}
end
end L2
namespace Att
open PySem PySem.W PySem.Calls PyProof.Rows
theorem zeb{P:Params}{h:Heap}:∀(ns:List Int) (vs:List Ad),WellAll P h vs (ns.map WData.int)->BV vs ns:=by
 intro ns
 induction ns with
 |nil =>
  intro vs w;rw[List.map_nil]at w
  cases w
  exact .nil
 |cons n ns ih =>
  intro vs w;rw[AW]at w
  cases w with
  |cons a b =>
   cases a
   exact .cons _ _ (ih _ b)
theorem ziV{l:OpenLaw}{n:Nat}(hn:l.most=some n){P:Params}{h:Heap}{args:List WData}{vals:List Ad}
  (hpre:l.row.toRowW.claim.pre args=true) (hwl:WellAll P h vals args) :
  ∃a vs ns,vals=[AB a]/\args=[WData.list (ns.map WData.int)]/\h.get? a=some { cls:=.type "list",data:=.seq vs.toArray }/\BV vs ns/\ns.length<=n:=by
 have hsh:WShape.hasAll [] args [.list .int]=true:=(pre_splitW hpre).1;have hc:l.pre.holds [] { args:=args }=true:=(pre_splitW hpre).2;obtain⟨d,r,rfl,h1,h2⟩:=hasAllW_cons hsh;obtain rfl:=hasAllW_nil h2;obtain⟨xs,rfl,h3⟩:=hasW_list h1;obtain⟨ns,rfl⟩:=items_int h3
 have hlen:ns.length<=n:=by
  unfold OpenLaw.pre at hc
  have h4:(WTm.not (.lt (.lit (.int (n:Int))) (.len (.arg 0)))).holds [] { args:=[.list (ns.map .int)] }=true:=by have h4:=(holds_andW hc).1;rw[hn]at h4;exact h4
  have h5:=condW_of h4 (w_not (w_lt w_lit (w_len_list (w_arg rfl))));rw[Af]at h5;refine Nat.le_of_not_lt λq=>?_
  have q':(n:Int)<((ns.length:Nat):Int):=by lia
  first
   | (rw[decide_eq_true q']at h5;exact absurd h5 (by decide))
   | (simp at h5;lia)
 cases hwl with
 |cons w1 w2 =>
  cases w2
  cases w1 with
  |list ho hall=>exact⟨_,_,ns,rfl,rfl,ho,zeb ns _ hall,hlen⟩
theorem zi6(l:OpenLaw)(args:List WData):l.row.toRowW.claim.post args (.bool true) args=true :=
 postW_of (r:=l.row.toRowW) (X:=(true == true))
  (show WShape.has [] (.bool true) .bool=true by first |rfl |decide |simp[WShape.has,WShape.arms,WShape.armsAll])
  (show (WTm.eq .res (.lit (.bool true))).value [] { args:=args,res:=some (.bool true),after:=args }=some (.bool (true == true)) from w_eq_bool (w_res rfl) w_lit) rfl
theorem attach_call{l:OpenLaw}{n:Nat}{q:AK}{loose:List Str}{XP:(Str -> Option Ad) -> Heap -> Prop}{YP:A1 -> Heap -> Prop}{d:DefRec}
  (hn:l.most=some n) (hdf:d.params.defaults=[])
  (call:∀(w:A1) (s₀ s₁:Ae) (mg mb:Str->Option Ad) (fa:Addr) (o:Obj) (pm cd doc:Ad) (a:Addr) (vs:List Ad) (ns:List Int),
   Ground q loose [] XP w s₀ mg mb s₁.heap->YP w s₁.heap ->
   s₁.heap.get? fa=some o->o.data=.func (docDef d.name d.params d.body d.scope pm cd doc)->s₁.heap.CodeRec cd d.name->mg d.name=some (.ref fa) ->
   s₁.heap.get? a=some { cls:=.type "list",data:=.seq vs.toArray }->BV vs ns->ns.length<=n->s₁.gens=#[] ->
   BP (Av l.prog w) callerA (.call (.ref fa) ⟨[.ref a],[]⟩) (λr s'=>r=.ok (.ret (.bool true))/\OldK s₁.heap s'.heap/\s'.os=s₁.os/\AllBare s'.gens) s₁) :
  WalkO q loose XP YP l.row.toRowW d [] (λf vs=>PySem.call f vs):=by
 intro w s₀ s₁ mg mb G Y fa o pm cd doc dV kV ho hd hcd hD hmg hg args vals as hpre hlay hrd hwl hlo;obtain rfl:dV=.none:=Dflts.none hD hdf;obtain rfl:kV=.none:=Dflts.noKw hD;obtain⟨a,vs,ns,rfl,rfl,hobj,hints,hlen⟩:=ziV hn hpre hwl;refine enter_call (codeAny_mono (call w s₀ s₁ mg mb fa o pm cd doc a vs ns G Y ho (fd_plain hd) hcd hmg hobj hints hlen hg) λr s' hq=>?_);obtain⟨rfl,h2,h3,h4⟩:=hq;exact⟨.inl ⟨.bool true,.bool true,[],rfl,λ_=>rfl,.bool true,zi6 l _,λ_=>⟨List.Pairwise.nil,λ_ hm=>(nomatch hm)⟩⟩,h2,h3,h4⟩
section
variable {prog:AK}{w:A1}{A:AQ}{E:Ad->Ae->Prop}{s:Ae}{K:Frag}
noncomputable def zmw(h:Heap)(L d:Addr):List (Addr×Obj):=(As h.objs.size).filterMap λa=>if a=L∨a=d then none else (h.get? a).map λo=>(a,o)
end
end Att
namespace L2
open PySem PySem.Spec PyProof.Rows
theorem zfF:∀{vs:List Ad}{ns:List Int},BV vs ns->Vals (ns.map V.int) vs
 |_,_,.nil=>.nil
 |_,_,.cons n t h=>.cons ⟨t,rfl⟩ (zfF h)
noncomputable def Only(H:Hp):Prop:=∀b,H b=none∨∃o xs,H b=some (.frz o (.lst xs))
theorem zkt{P:AK}{w:A1}{K:W.Frag}{mg mb:Str -> Option Ad}{CX:CXT}{k:Nat}{fa a:Addr}{fd:Bs}{x:Str}{sp:Sp}{s₁ : Ae}{vs:List Ad}{ns:List Int}
    (KX:K.In s₁.heap) (hns:s₁.heap.Ns AI mg) (hb:s₁.heap.Ns builtinsNs mb) (hbb:∀x:Str,x ≠ "__name__" -> mb x=bootBuiltins x) (hlim:s₁.heap.NoLimit) (hg:s₁.gens=#[])
    (ha:s₁.heap.get? a=some { cls:=.type "list",data:=.seq vs.toArray }) (hi:BV vs ns) (hl:ns.length<=sizeLine) (hr:Room k callerA)
    (F:∀base:Heap,K.In base->base.Ns AI mg->FnOk P w K mg base CX k fa fd [x] sp) (hbind:∀(s:Ae) (u:Ad),BindsTo s fd ⟨[u],[]⟩ [(x,u)])
    (hsp:∀H:Hp,Only H->SqL K H a (ns.map V.int)->sp [.ref a] H (λv _=>v=.bl true) λ_ _ _=>False)
    (hCX:∀H e s',CX [] H s₁ (λ_ _ _=>False) e s'->False) :
    BP (Av P w) callerA (.call (.ref fa) ⟨[.ref a],[]⟩) (λr s'=>r=.ok (.ret (.bool true))/\OldK s₁.heap s'.heap/\s'.os=s₁.os/\AllBare s'.gens) s₁:=by
  have rv:=zfF hi;have lenV:=hi.length
  have core:∀H:Hp, Only H -> SqL K H a (ns.map V.int) -> HOk P w H s₁.heap -> (∀b, H b ≠ none -> b=a) -> (H a ≠ none -> K.lookup a=none) ->
      BP (Av P w) callerA (.call (.ref fa) ⟨[.ref a],[]⟩) (λr s'=>r=.ok (.ret (.bool true))/\OldK s₁.heap s'.heap/\s'.os=s₁.os/\AllBare s'.gens) s₁:=by
    intro H hO hS hok hA hK;have base_of:∀{b:Addr} {o:Obj},s₁.heap.get? b=some o->H b=none->(hidT s₁.heap H).get? b=some o:=λe n=>zku e n
    have noA:∀{b:Addr} {o:Obj} {es:Array DictEntry} {ep:Nat},s₁.heap.get? b=some o->o.data=.dict es ep->H b=none:=λ{b o es ep} e d=>by
      cases q:H b with
      |none=>rfl
      |some u =>
        have e':b=a:=hA b (by rw[q];simp);subst e';rw[ha]at e;cases e;have d':Data.seq vs.toArray _=Data.dict es ep:=d
        cases d'
    have nsK:∀{b:Addr} {m:Str->Option Ad},s₁.heap.Ns b m->(hidT s₁.heap H).Ns b m:=λ{b m} ⟨o,es,ep,e,d,r⟩=>⟨o,es,ep,base_of e (noA e d),d,r⟩
    have hKb:K.In (hidT s₁.heap H):=λb o e=>base_of (KX b o e) (by
      cases q:H b with
      |none=>rfl
      |some u =>
        have e':b=a:=hA b (by rw[q];simp);subst e';rw[hK (by rw[q];simp)]at e;cases e)
    have hM:Mod K mg (hidT s₁.heap H):=⟨hKb,nsK hns,⟨mb,nsK hb,hbb⟩,let ⟨mc,h1,h2⟩:=hlim;⟨mc,nsK h1,h2⟩⟩;have e0:Env0 P w K mg (hidT s₁.heap H) callerA [] s₁ H:=⟨rfl,hM,λb o e=>zlw e,Nat.le_of_eq (zjA _ _),trivial,λb hb=>absurd (show b∈([]:List Addr) from hb) (by simp),hok,.of_eq hg⟩;refine codeAny_mono ((F _ hKb (nsK hns)).run callerA [] s₁ H ⟨[.ref a],[]⟩ [.ref a] [.ref a] _ _ hr e0 (hbind s₁ (.ref a)) (.cons rfl .nil) (hsp H hO hS)) λr s' h=>?_
    cases r with
    |error e=>exact (hCX H e s' h).elim
    |ok fl =>
      cases fl with
      |next=>exact Bz h
      |brk=>exact Bz h
      |cont=>exact Bz h
      |ret u =>
        obtain⟨v,H',os,bare,un,hok',r',q⟩:=h;have q':v=.bl true:=q;subst q';obtain rfl:u=C9 true:=r';refine⟨rfl,OldK.of_keep λb o e=>?_,os,bare⟩
        cases q:H b with
        |none=>exact un.keep b o e q (by intro z;exact absurd (show b∈([]:List Addr) from z) (by simp)) (by simp)
        |some u =>
          rcases hO b with z |⟨ob,xs,z⟩
          . rw[q]at z;cases z
          . have z2:=un.frzs b ob _ z;obtain⟨e1,_⟩:=hok b _ z;obtain⟨e2,_⟩:=hok' b _ z2;rw[e]at e1;cases e1;exact e2
  cases hk:K.lookup a with
  |some o =>
    have e:=KX a o hk;rw[ha]at e
    cases e
    refine core (λ_=>none) (λ_=>.inl rfl) (.inr ⟨_,vs.toArray,_,hk,rfl,rfl,rfl,by rw[An,lenV];exact hl,by simpa using rv⟩) (λb u z=>by have z':(none:Option HO)=some u:=z;cases z') (λb z=>absurd rfl z) λz=>absurd rfl z
  |none =>
    refine core (λb=>if b=a then some (.frz { cls:=.type "list",data:=.seq vs.toArray } (.lst (ns.map V.int))) else none) (λb=>?_) (.inl (.inr ⟨{ cls:=.type "list",data:=.seq vs.toArray },if_pos rfl⟩)) (λb u z=>?_) (λb z=>?_) λ_=>hk
    . by_cases hb:b=a
      . exact .inr ⟨_,_,if_pos hb⟩
      . exact .inl (if_neg hb)
    . by_cases hb:b=a
      . have z':=(if_pos hb).symm.trans z
        cases z'
        subst hb;exact⟨ha,by rw[Af];exact hl,vs,_,rv,ha⟩
      . have z':=(if_neg hb).symm.trans z
        cases z'
    . by_cases hb:b=a
      . exact hb
      . exact absurd (if_neg hb) z
noncomputable abbrev KOf{K:W.Frag}{h:Heap}(_:K.In h):W.Frag:=K
theorem walk_of{l:W.OpenLaw}{n k:Nat}{q:AK}{loose:List Str}{XP:(Str -> Option Ad) -> Heap -> Prop}{YP:A1 -> Heap -> Prop}{d:DefRec}{K:Params -> W.Frag}{CX:A1 -> CXT}{sp:A1 -> Sp}{x:Str}
  (hn:l.most=some n) (hn2:n<=sizeLine) (hdf:d.params.defaults=[]) (hr:Room k callerA)
  (hY:∀(w:A1) (h:Heap),YP w h->(K w.params).In h)
  (F:∀(w:A1) (mg:Str->Option Ad) (fa:Addr) (h:Heap),(K w.params).In h->h.Ns AI mg->mg d.name=some (.ref fa) ->
   ∃fd:Bs,(∀(s:Ae) (u:Ad),BindsTo s fd ⟨[u],[]⟩ [(x,u)]) /\
    ∀base:Heap,(K w.params).In base->base.Ns AI mg->FnOk l.prog w (K w.params) mg base (CX w) k fa fd [x] (sp w))
  (hsp:∀(w:A1) (H:Hp) (a:Addr) (ns:List Int),ns.length<=n->Only H->SqL (K w.params) H a (ns.map V.int)->sp w [.ref a] H (λv _=>v=.bl true) λ_ _ _=>False)
  (hCX:∀(w:A1) (H:Hp) (s:Ae) (e:Ad) (s':Ae),CX w [] H s (λ_ _ _=>False) e s'->False) :
  W.WalkO q loose XP YP l.row.toRowW d [] (λf vs=>PySem.call f vs):=by
 refine Att.attach_call hn hdf λw s₀ s₁ mg mb fa o pm cd doc a vs ns G Y ho hd hcd hmg hobj hints hlen hg=>?_
 have KX:=hY w _ Y;obtain⟨fd,hb,hF⟩:=F w mg fa _ KX G.T.g hmg;exact zkt KX G.T.g G.T.b G.T.builtins G.T.nolimit hg hobj hints (AF hlen hn2) hr hF hb (λH hO hS=>hsp w H a ns hlen hO hS) λH e s'=>hCX w H s₁ e s'
end L2
/- THE LAST THEOREM (shape; LID, My.* are yours):
  My.Adr: a structure of the addresses that your layer names (classes,functions);My.Txt K t: a structure (Prop) of the equations over K;
  My.txt_mk:{K} {implicit addresses ..} (e1:nsIn K AI "law" = some (some (.ref f))) (e2:K.lookup f=some ⟨oc,od,.func (fnOf "law" "law" params body scope dV kV doc pm an cdv ct),sl⟩) (e3:codeIn K cdv "law" = true) ..:∃t,My.Txt K t
set_option maxRecDepth 100000 in
set_option maxHeartbeats 0 in
theorem PySem.Challenge.cw_LID_holds : PySem.Challenge.rw_LID.Holds := by
 w_on;o_law;k_head;(case hw=>w_witness2)
 k_fill
 refine L2.walk_of (l:=PySem.Challenge.rw_LID) (n:=63) (k:=40) (x:="script") (CX:=λw=>..) (sp:=λ_=>My.sp_law) rfl (by decide) rfl ⟨rfl,by decide,by decide⟩ (λw h Y=>W.kIn_of Y) ?F ?S ?C
 case F =>
  intro w mg fa h KX G hmg
  have T:∃ t,My.Txt (L2.KOf KX) t:=by
   dsimp only[L2.KOf]                          -- K must stand as «<heap const> w.params» for k_is
   refine' My.txt_mk ?e1 ?e2 ?e3 ..
   (case e1=>W.k_is)                    -- in the order: a name -> its address -> its object -> its parts
   (case e2=>W.k_is)
   ..
  obtain⟨t,T⟩:=T
  have e0:=hmg.symm.trans (W.mg_of KX G T.law)
  cases e0                                       -- fa is the law's own address
  exact⟨_,λs u=>.of_eq rfl,λbase kb nb=>My.law_fn T kb nb⟩     -- if «.of_eq rfl» comes too early: refine' ⟨_,?b,λbase kb nb=>My.law_fn T kb nb⟩;exact λs u=>.of_eq rfl
 case S=>exact λw H a ns hl hO hS=>..
 case C=>exact ..
(the tactic k_is has no namespace: write k_is) -/
namespace L2
open PySem PySem.Spec PyProof.Rows
noncomputable def za1(s:Stmt):Arguments:=match s with
 |.FunctionDef _ a _ _ _ _ _ _ _ _=>a
 |_=>{ posonlyargs:=[],args:=[],vararg:=none,kwonlyargs:=[],kw_defaults:=[],kwarg:=none,defaults:=[] }
noncomputable def zaR(s:Stmt):List Stmt:=match s with
 |.FunctionDef _ _ b _ _ _ _ _ _ _=>b
 |_=>[]
noncomputable def zae(s:Stmt):Scope:=match s with
 |.FunctionDef _ _ _ _ _ _ sc _ _ _=>sc
 |_=>{ kind:=.function,names:=[],isGenerator:=false,isCoroutine:=false }
noncomputable abbrev CX0:CXT:=λ_ _ _ _ _ _=>False
noncomputable abbrev E0:XK:=λ_ _ _=>False
theorem pass0{X:Cx}:zjX CX0 X E0:=λ_ _ _ _ _ _ _ h=>h.elim
structure Fun (K:W.Frag) (x qual:Str) (st:Stmt) (f:Addr) (fd:Bs):Prop where
 ex:∃(oc:Ad) (od:Option Addr) (kV doc pm:Ad) (an:Option Addr) (cdv ct:Ad) (osl:Array (Option Ad)),
  fd=Cw x qual (za1 st) (zaR st) (zae st) .none kV doc pm an cdv ct/\K.lookup f=some ⟨oc,od,.func fd,osl⟩/\W.codeIn K cdv qual=true
 kp:W.keepIn K (.ref f)=true
section
variable {P:AK}{w:A1}{K:W.Frag}{mg:Str->Option Ad}{base:Heap}
theorem Fun.ok{x qual:Str}{st:Stmt}{f:Addr}{fd:Bs}{N ps:List Str}{k:Nat}{sp:Sp}(F:Fun K x qual st f fd)(S:FnScope N ps (zae st))(len:∀vs H Q E, sp vs H Q E -> vs.length=ps.length)
  (hbody:∀(cdv:Ad) (A:AQ) (outer:List Env) (s:Ae) (H:Hp) (vs:List V) (Q:VK) (E:XK),Room k (A.deeper (envOfC qual (zae st) s.heap.objs.size f cdv))->sp vs H Q E ->
   ∃t,PSs (cxOf CX0 P w K mg base N qual (zae st) f cdv A outer s H E).nox (zaR st) t/\t { nx:=λ_ H'=>Q .non H',rt:=Q } (start N vs) H):FnOk P w K mg base CX0 (k+1) f fd ps sp:=by
 obtain⟨oc,od,kV,doc,pm,an,cdv,ct,osl,rfl,lk,hcd⟩:=F.ex;refine fn_of lk hcd S len λA outer s H vs Q E hr hsp=>?_
 obtain⟨t,h,q⟩:=hbody cdv A outer s H vs Q E hr hsp;exact⟨t,h.nox,q⟩
theorem Fun.binds{x qual:Str}{st:Stmt}{f:Addr}{fd:Bs}{ps:List Str}(F:Fun K x qual st f fd)
  (h:∀(kV doc pm:Ad) (an:Option Addr) (cdv ct:Ad) (us:List Ad),us.length=ps.length->CL (Cw x qual (za1 st) (zaR st) (zae st) .none kV doc pm an cdv ct) ⟨us,[]⟩=pure (ps.zip us)):Binds K fd ps []:=by
 obtain⟨oc,od,kV,doc,pm,an,cdv,ct,osl,rfl,lk,hcd⟩:=F.ex;exact .all (h kV doc pm an cdv ct)
theorem zcC{x qual:Str}{st:Stmt}{f:Addr}{oc:Ad}{od an:Option Addr}{osl:Array (Option Ad)}{kV doc pm cdv ct:Ad}(l:K.lookup f=some ⟨oc, od, .func (Cw x qual (za1 st) (zaR st) (zae st) .none kV doc pm an cdv ct), osl⟩)
  (c:W.codeIn K cdv qual=true) (k:W.keepIn K (.ref f)=true):Fun K x qual st f (Cw x qual (za1 st) (zaR st) (zae st) .none kV doc pm an cdv ct):=⟨⟨oc,od,kV,doc,pm,an,cdv,ct,osl,rfl,l,c⟩,k⟩
end
theorem hu_of{A:AQ}{k:Nat}(hr:Room k A):A.units+1<cLine:=Nat.lt_of_le_of_lt (Nat.add_le_add_left (by decide:1<=64) _) hr.units
theorem zal{n:Nat}(h:n<=1000):n<sizeLine:=Nat.lt_of_le_of_lt h (by decide)
section
variable {X:Cx}
theorem pv (i:Nat){x:Str}{pos:Pos}(hN:X.N[i]? = some x := by rfl) (hv:Vis X.env.scope x := by first |exact Or.inl rfl |exact Or.inr (Or.inl rfl) |exact Or.inr (Or.inr rfl)) (hd:(x == ("__debug__" : Str))=false := by decide)
  (hcd:(x == ("__classdict__" : Str))=false:=by decide):PE X (.Name x pos) (tVar i):=zma hN hv hd hcd
end
theorem iteF{A B:Prop}(h:B):if false=true then A else B:=by rw[if_neg Aw];exact h
theorem iteT{A B:Prop}(h:A):if true=true then A else B:=by rw[if_pos rfl];exact h
theorem ite2{c A B:Prop} [Decidable c](h1:c->A)(h2:¬ c->B):if c then A else B:=by
 by_cases h:c
 .rw[if_pos h];exact h1 h
 .rw[if_neg h];exact h2 h
noncomputable def Same(H H':Hp):Prop:=∀b o,H b=some o->H' b=some o
theorem Same.refl(H:Hp):Same H H:=λ_ _ h=>h
theorem Same.trans{H H1 H2:Hp}(a:Same H H1)(b:Same H1 H2):Same H H2:=λc o h=>b c o (a c o h)
theorem Same.free{H H':Hp}(e:Same H H'){l:Addr}(h:H' l=Option.none):H l=Option.none:=by
 cases q:H l with
 |none=>rfl
 |some o =>
  rw[e l o q]at h
  cases h
theorem Same.seq{K:W.Frag}{H H':Hp}{a:Addr}{xs:List V}(e:Same H H')(h:SqL K H a xs):SqL K H' a xs:=by
 rcases h with (h |⟨o,h⟩) |h
 .exact .inl (.inl (e _ _ h))
 .exact .inl (.inr ⟨o,e _ _ h⟩)
 .exact .inr h
section
variable {κ:Type} [DecidableEq κ]
end
end L2
set_option maxHeartbeats 4000000
namespace L2
open PySem PySem.Spec PyProof.Rows
noncomputable def zb8(J:It)(g:TG)(tb:TS):TS:=λD σ H=>∃W:Nat->Nat->St->Hp->Prop,(∃m,W 0 m σ H)/\∀i m σ H,W i m σ H ->
 (J.stop i H/\D.nx σ H)∨(J.go i H/\∃N:St->Hp->Prop,(∀ σ' H',N σ' H'->∃m',m'<m/\W (i+1) m' σ' H')/\∀x H',J.yld i H x H'->g x σ H' λσ2 H2=>tb { D with nx:=N,ct:=N,bk:=D.nx } σ2 H2)
noncomputable def PTs(X:Cx)(ifs:List Expr)(t:TT):Prop :=
 ∀(pins:List (Addr×Obj)) (s:Ae) (σ:St) (H:Hp) (Q:Bool->Hp->Prop),Inv X pins σ H s->t σ H Q ->
  Ar (Av X.prog X.w) X.A (forIn ifs true λc r=>if r=true then do let ok <- isTrue c X.env (eval c X.env);pure (ForInStep.yield ok) else pure (ForInStep.yield r)) (TP X pins σ Q) X.xe s
theorem zaL{X:Cx}:PTs X [] (λ_ H Q=>Q true H):=λpins s σ H Q I h=>Al ⟨H,I,h⟩
theorem zdw{X:Cx}{c:Expr}{t:TT}(hc:PT X c t):PTs X [c] t:=λpins s σ H Q I h=>wpAny_tests_one (hc pins s σ H Q I h)
noncomputable def PB(X:Cx)(inner:Sem Unit)(t:TS):Prop :=
 ∀(pins:List (Addr×Obj)) (s:Ae) (σ:St) (H:Hp) (D:Ends),Inv X pins σ H s->t D σ H->Ar (Av X.prog X.w) X.A inner (λ_ s'=>∃ σ' H',Inv X pins σ' H' s'/\D.nx σ' H') X.xe s
noncomputable def tIfs(tt:TT)(tb:TS):TS:=λD σ H=>tt σ H λb H1=>if b=true then tb D σ H1 else D.nx σ H1
theorem zdi{X:Cx}{e tg:Expr}{d:Nat}{ifs:List Expr}{p:Pos}{acc:Ad}{inner:Sem Unit}{g:TG}{tt:TT}{tb:TS}{it:Addr}{fp:List Addr}{tn:Nat -> Heap -> Prop}{J:It}
  {pins:List (Addr×Obj)} {s:Ae} {σ:St} {H:Hp} {D:Ends} {R:Result->Ae->Prop}
  (hq:(Code.compLoop e d (.ref it) acc X.env).quiet=true)
  (hden:(Av X.prog X.w).den (.compLoop e d (.ref it) acc X.env)=(compTurn e d (.ref it) acc X.env).onRaise (λx=>do noteFrame x X.env;theTreesLotGoes x))
  (hT:compTurn e d (.ref it) acc X.env=(do
   standAt p
   match <- pyNext (.ref it) with
   |none=>pure (.done .next)
   |some v =>
    C2 tg (.ref it) v
    assign tg X.env v
    let mut ok:=true
    for c in ifs do
     if ok then ok <- isTrue c X.env (eval c X.env)
    if ok then
     inner
    again (.compLoop e d (.ref it) acc X.env)))
  (hA:∀(B:AQ) {α:Type} {t:Sem α} {Q:α->Ae->Prop} {E:Ad->Ae->Prop} {s:Ae},B=X.A.under (.compLoop e d (.ref it) acc X.env)->Ar (Av X.prog X.w) X.A t Q E s->Ar (Av X.prog X.w) B t Q E s)
  (hc:X.calm=true) (hx:X.xe=λ_ _=>False) (hg:PG X tg g) (ht:PTs X ifs tt) (hb:PB X inner tb)
  (I:Inv X pins σ H s) (T:Turn X.prog X.w X.K tg J fp it tn) (st:tn 0 s.heap) (f:∀b∈fp,FpOk X pins H b) (W:zb8 J g (tIfs tt tb) D σ H)
  (hR:∀fl s',(∃ σ' H',Inv X pins σ' H' s'/\(∀b∈fp,H' b=none)/\D.nx σ' H')->R (.ok fl) s') :
  BP (Av X.prog X.w) X.A (.compLoop e d (.ref it) acc X.env) R s:=by
 obtain⟨W,⟨m0,w0⟩,turn⟩:=W;have stat:∀{H':Hp},(∀b∈fp,H' b=none)->∀b∈fp,FpOk X pins H' b:=λhn b hb=>⟨hn b hb,(f b hb).2⟩
 refine codeAny_loop hq (λn s'=>∃i σ' H',Inv X pins σ' H' s'/\tn i s'.heap/\(∀b∈fp,H' b=none)/\W i n σ' H') ?_ m0 ⟨0,σ,H,I,st,λb hb=>(f b hb).1,w0⟩;rintro n s3 ⟨i,σ3,H3,I3,st3,fr3,w3⟩;refine hA _ rfl ?_
 rw[hden];refine wpAny_noted (wpAny_noRaise ?_);rw[hT];refine Ac (Cj ?_)
 have nx:∀{α:Type} {t:Sem α} {Q:α->Ae->Prop} {s:Ae},Ar (Av X.prog X.w) X.A t Q X.xe s->Ar (Av X.prog X.w) X.A t Q (λ_ _=>False) s:=λ{α t Q s} h=>by rw[hx]at h;exact h
 rcases turn i n σ3 H3 w3 with⟨stop,qn⟩ |⟨go,N,hN,step⟩
 .refine Ac (thn (T.done X rfl rfl rfl hc i pins s3 σ3 H3 _ I3 (stat fr3) st3 stop) λr s4 ⟨hr,I4⟩=>?_);subst hr;exact Al (hR _ _ ⟨σ3,H3,I4,fr3,qn⟩)
 .refine Ac (thn (T.item X rfl rfl rfl hc i pins s3 σ3 H3 _ I3 (stat fr3) st3 go) λr s4 ⟨u,hr,h4⟩=>?_);subst hr;refine Ac (thn h4 λ_ s5 ⟨x,H5,I5,r5,y5,st5,fr5⟩=>?_);have I5':=I5.pinned (stat fr5) (T.obj _ _ st5)
  have again:∀{σ7:St} {H7:Hp} {s7:Ae},Inv X (pins++zdC fp s5.heap) σ7 H7 s7->N σ7 H7->∃m,m<n/\∃i σ' H',Inv X pins σ' H' s7/\tn i s7.heap/\(∀b∈fp,H' b=none)/\W i m σ' H':=λ{σ7 H7 s7} I7 n7=>by obtain⟨m',hm,w7⟩:=hN σ7 H7 n7;refine⟨m',hm,i+1,σ7,H7,I7.unpinned,T.keep _ _ _ st5 λb hb o e=>(I7.pin (b,o) (AA _ (AA _ (za0 hb e)))).1,λb hb=>?_,w7⟩;obtain⟨o,e,d⟩:=T.obj _ _ st5 b hb;exact (I7.pin (b,o) (AA _ (AA _ (za0 hb e)))).2.1
  refine Ac (thn (nx (hg _ s5 σ3 H5 x u _ I5' r5 (step x H5 y5))) λ_ s6 ⟨σ6,H6,I6,q6⟩=>?_);refine Ac (thn (nx (ht _ s6 σ6 H6 _ I6 q6)) λok s7 ⟨H7,I7,q7⟩=>?_)
  cases ok with
  |false =>
   exact Al ⟨rfl,again I7 q7⟩
  |true =>
   refine Ac (thn (nx (hb _ s7 σ6 H7 _ I7 q7)) λ_ s8 ⟨σ8,H8,I8,q8⟩=>?_);exact Al ⟨rfl,again I8 q8⟩
noncomputable abbrev blk(X:Cx)(sc:Scope)(cl:List (Str×Addr))(C:Addr)(N':List Str)(s0:Ae)(H0:Hp)(ex:List Addr):Cx :=
 { X with N:=N',s₀:=s0,H₀:=H0,env:=Cf sc cl C X.env,outer:=X.stack,stack:=X.stack,ex:=ex,fn:=λ_=>false,pn:=[],xe:=λ_ _=>False }
structure BlkOk (osc:Scope) (N:List Str) (sc:Scope) (N':List Str) (sel:List (Option Nat)):Prop where
 kind:sc.kind=.function
 nocell:∀y∈sc.names,y.2≠.cell
 names:∀y∈sc.names,y.2=.local->sc.names.lookup y.1=some .local
 free:∀y∈sc.names,y.2=.free->osc.names.lookup y.1=some .cell∨osc.names.lookup y.1=some .free
 len:sel.length=N'.length
 sel:∀p∈sel.zip N',∀i∈p.1,N[i]?=some p.2/\sc.names.lookup p.2=some .free
noncomputable def selSt(sel:List (Option Nat))(σ:St):St:=sel.map λo=>o.bind λi=>(σ[i]?).join
theorem zc0{env:Env} : ∀(names:List (Str × NameKind)) (acc:List (Str × Addr)), (∀y ∈ names, y.2 = .free -> ∃c, env.cells.lookup y.1=some c) ->
  ∃cl,(forIn names acc λ(x:Str×NameKind) (r:List (Str×Addr))=>(if (x.2 == .free)=true then do let c <- cellOf env x.1;pure (ForInStep.yield ((x.1,c)::r)) else pure (ForInStep.yield r):Sem (ForInStep (List (Str×Addr)))))=pure cl /\
   (∀x c,cl.lookup x=some c->acc.lookup x=some c∨(env.cells.lookup x=some c/\(x,Be)∈names))/\(∀y∈names,y.2=.free->∃c,cl.lookup y.1=some c)/\(∀x c,acc.lookup x=some c->∃c',cl.lookup x=some c')
 |[],acc,_=>⟨acc,rfl,λ_ _ h=>.inl h,(λ_ h=>nomatch h),λx c h=>⟨c,h⟩⟩
 | (n,k)::r,acc,h=>by
  by_cases hk:k=.free
  .subst hk;obtain⟨c,hc⟩:=h (n,.free) Ay rfl;obtain⟨cl,e,h1,h2,h3⟩:=zc0 r ((n,c)::acc) λy hy=>h y (Ao _ hy)
   refine⟨cl,?_,λx c' hx=>?_,λy hy hf=>?_,λx c' hx=>?_⟩
   .rw[C4];have e1:cellOf env n=pure c:=by unfold cellOf;rw[hc]
    simp only[beq_self_eq_true,if_true,e1,pure_bind];exact e
   .rcases h1 x c' hx with q |⟨q,m⟩
    .by_cases hn:x=n
     .subst hn;rw[A8,beq_self_eq_true]at q
      cases q
      exact .inr ⟨hc,Ay⟩
     .have hb:(x == n)=false:=by simpa using hn
      rw[A8,hb]at q;exact .inl q
    .exact .inr ⟨q,Ao _ m⟩
   .rcases At.mp hy with z |z
    .subst z;exact h3 n c (by rw[A8,beq_self_eq_true])
    .exact h2 y z hf
   .by_cases hn:x=n
    .subst hn;exact h3 x c (by rw[A8,beq_self_eq_true])
    .have hb:(x == n)=false:=by simpa using hn
     exact h3 x c' (by rw[A8,hb];exact hx)
  .obtain⟨cl,e,h1,h2,h3⟩:=zc0 r acc λy hy=>h y (Ao _ hy)
   refine⟨cl,?_,λx c' hx=>?_,λy hy hf=>?_,h3⟩
   .rw[C4];have hb:(k == Be)=false:=by simpa using hk
    simp only[hb,BH,if_false,pure_bind];exact e
   .rcases h1 x c' hx with q |⟨q,m⟩
    .exact .inl q
    .exact .inr ⟨q,Ao _ m⟩
   .rcases At.mp hy with z |z
    .subst z;exact absurd hf hk
    .exact h2 y z hf
structure Clo (env:Env) (sc:Scope) (cl:List (Str×Addr)):Prop where
 run:closureFor sc env=pure cl
 old:∀x c,cl.lookup x=some c->env.cells.lookup x=some c/\(x,Be)∈sc.names
 has:∀y∈sc.names,y.2=.free->∃c,cl.lookup y.1=some c
theorem zgf{X:Cx}{osc:Scope}{N:List Str}{sc:Scope}{N':List Str}{sel:List (Option Nat)}(ok:X.Ok)(B:BlkOk osc N sc N' sel)(ho:X.env.scope=osc):∃cl,Clo X.env sc cl:=by
 have hc:∀y∈sc.names,y.2=.free->∃c,X.env.cells.lookup y.1=some c:=λy hy hf=>ok.has y.1 (by
  show X.env.scope.names.lookup y.1=_∨X.env.scope.names.lookup y.1=_;rw[ho];exact B.free y hy hf)
 obtain⟨cl,e,h1,h2,_⟩:=zc0 (env:=X.env) sc.names [] hc;refine⟨cl,?_,λx c h=>?_,h2⟩
 .unfold closureFor;have e':=e;show (do let r <- forIn sc.names [] _;pure r)=_;simp only[bind_pure];exact e'
 .rcases h1 x c h with q |q
  .cases q
  .exact q
theorem zb6{env:Env} : ∀{names:List (Str × NameKind)}{x:Str}{k:NameKind}, (names.map λ(n, k) => if (k == Be && env.scope.kind == .function && env.kindOf n == some .cell) then (n, CC) else (n, k)).lookup x=some k ->
  ∃k',(x,k')∈names/\(k=k'∨(k=.cell/\k'=.free))
 |[],x,k,h=>nomatch h
 | (n,j)::r,x,k,h=>by
  have ih:=@zb6 env r x k;have h:List.lookup x ((if (j == Be && env.scope.kind == .function && env.kindOf n == some .cell)=true then (n,CC) else (n,j))::_)=some k:=h
  by_cases hx:x=n
  .subst hx
   by_cases hc:(j == Be && env.scope.kind == .function && env.kindOf x == some .cell)=true
   .rw[if_pos hc,A8,beq_self_eq_true]at h
    cases h
    refine⟨j,Ay,.inr ⟨rfl,?_⟩⟩;simp only[AT,beq_iff_eq]at hc;exact hc.1.1
   .rw[if_neg hc,A8,beq_self_eq_true]at h
    cases h
    exact⟨j,Ay,.inl rfl⟩
  .have hb:(x == n)=false:=by simpa using hx
   have h':List.lookup x (r.map λ(n,k)=>if (k == Be && env.scope.kind == .function && env.kindOf n == some .cell) then (n,CC) else (n,k))=some k:=by
    by_cases hc:(j == Be && env.scope.kind == .function && env.kindOf n == some .cell)=true
    .rw[if_pos hc,A8,hb]at h;exact h
    .rw[if_neg hc,A8,hb]at h;exact h
   obtain⟨k',m,e⟩:=ih h';exact⟨k',Ao _ m,e⟩
theorem zbQ{env:Env} : ∀{names:List (Str × NameKind)}{x:Str}, names.lookup x=some .free ->
  (names.map λ(n,k)=>if (k == Be && env.scope.kind == .function && env.kindOf n == some .cell) then (n,CC) else (n,k)).lookup x=some .cell ∨
  (names.map λ(n,k)=>if (k == Be && env.scope.kind == .function && env.kindOf n == some .cell) then (n,CC) else (n,k)).lookup x=some .free
 |[],x,h=>nomatch h
 | (n,j)::r,x,h=>by
  have ih:=@zbQ env r x;rw[A8]at h;show List.lookup x ((if (j == Be && env.scope.kind == .function && env.kindOf n == some .cell)=true then (n,CC) else (n,j))::_)=_∨List.lookup x ((if (j == Be && env.scope.kind == .function && env.kindOf n == some .cell)=true then (n,CC) else (n,j))::_)=_
  cases hx:x == n with
  |true =>
   rw[hx]at h
   cases h
   by_cases hc:(Be == Be && env.scope.kind == .function && env.kindOf n == some .cell)=true
   .rw[if_pos hc,A8,hx];exact .inl rfl
   .rw[if_neg hc,A8,hx];exact .inr rfl
  |false =>
   rw[hx]at h
   by_cases hc:(j == Be && env.scope.kind == .function && env.kindOf n == some .cell)=true
   .rw[if_pos hc,A8,hx];exact ih h
   .rw[if_neg hc,A8,hx];exact ih h
section
variable {X:Cx}{osc:Scope}{N:List Str}{sc:Scope}{N':List Str}{sel:List (Option Nat)}{cl:List (Str×Addr)}{pins:List (Addr×Obj)}{σ:St}{H:Hp}{s:Ae}{fp:List Addr}
theorem zlJ{h':Heap}{ob:Obj}{tk:Nat}(B:BlkOk osc N sc N' sel)(ho:X.env.scope=osc)(hN:X.N=N)(Cl:Clo X.env sc cl)(I:Inv X pins σ H s)
    (f:∀b∈fp,FpOk X pins H b) (fo:∀b∈fp,∃o,s.heap.get? b=some o) (hns:h'.Ns s.heap.objs.size (λ_=>none)) (hsb:CS s.heap.objs.size (s.heap.push ob) h') :
    Inv (blk X sc cl s.heap.objs.size N' s H fp) [] (selSt sel σ) H { s with heap:=h',toks:=tk }:=by
  have old:∀b o,s.heap.get? b=some o->h'.get? b=some o:=λb o e=>(hsb.2 b (AC (Ap e))).trans (Ai _ e)
  have bel:∀b∈fp,b<s.heap.objs.size:=λb hb=>by obtain⟨o,e⟩:=fo b hb;exact Ap e
  have kk:∀x,(Cf sc cl s.heap.objs.size X.env).kindOf x=some .cell∨(Cf sc cl s.heap.objs.size X.env).kindOf x=some .free->(x,Be)∈sc.names:=λx hx=>by
    rcases hx with hx |hx
    . obtain⟨k',m,e⟩:=zb6 hx;rcases e with e |⟨_,e⟩
      . subst e;exact absurd rfl (B.nocell _ m)
      . subst e;exact m
    . obtain⟨k',m,e⟩:=zb6 hx;rcases e with e |⟨e,_⟩
      . subst e;exact m
      . cases e
  refine⟨⟨I.mod, B.kind, I.ok.glob, I.ok.blt, Ah _, λx y c e1 e2 => I.ok.inj x y c (Cl.old x c e1).1 (Cl.old y c e2).1, λx hx => Cl.has _ (kk x hx) rfl, λx c z => absurd z (by intro q; cases q), I.ok.hd, I.ok.frames, .inl rfl,
      λb hb=>⟨AC (bel b hb),λx c e=>(f b hb).2.2.2.2.1 x c (Cl.old x c e).1⟩,I.bs,AF I.ok.bsz I.sz,λb o e hb=>?_,λb hb hs=>?_,I.stack,I.stkFree⟩,
    rfl,I.bare,Un.kept old,⟨_,hns,λj x v e1 e2 e3=>?_⟩,λx c e=>?_,I.hok.fresh (Ah _),λx c e=>I.freeC x c (Cl.old x c e).1,λp hp=>absurd (show p∈([]:List (Addr×Obj)) from hp) (by simp),I.hok.kept old,?_⟩
  . rcases (f b hb).2.2.2.1 with z |z
    . exact I.ok.noex b o e z
    . exact absurd (AD (Ap e) (AF I.ok.bsz z)) (Ch _)
  . obtain⟨_,f1,f2,_⟩:=f b hb;rcases At.mp (I.stkSub b hs) with z |z
    . exact f1 z
    . exact f2 z
  . have e2':((sel[j]?).map λo => o.bind λi => (σ[i]?).join)=some (some v) := by have:=e2;unfold selSt at this;rw[Az]at this;exact this
    cases hj:sel[j]? with
    |none=>rw[hj]at e2';cases e2'
    |some o =>
      rw[hj]at e2'
      cases o with
      |none=>cases e2'
      |some i =>
        have e4:(σ[i]?).join=some v:=A2 e2'
        have e5:σ[i]?=some (some v):=by
          cases q:σ[i]? with
          |none=>rw[q]at e4;cases e4
          |some z=>rw[q]at e4;exact congrArg some e4
        have hz:(some i,x)∈sel.zip N':=by
          refine Ag (i:=j) ?_
          rw[A6];exact⟨hj,e1⟩
        obtain⟨g1,g2⟩:=B.sel _ hz i rfl;obtain⟨m,hn,hl⟩:=I.loc;have m2:(x,Be)∈sc.names:=BU g2
        have k2:X.env.kindOf x=some .cell∨X.env.kindOf x=some .free:=by show X.env.scope.names.lookup x=_∨X.env.scope.names.lookup x=_;rw[ho];exact B.free _ m2 rfl
        have v2:Vis X.env.scope x:=by
          rcases k2 with z |z
          . exact .inr (.inl z)
          . exact .inr (.inr z)
        obtain⟨u,r,l⟩:=hl i x v (by rw[hN];exact g1) e5 v2;refine⟨u,r,?_⟩;rcases l with⟨l,_⟩ |⟨_,c,e6,hc⟩
        . rcases k2 with z |z <;> (rw[l]at z;cases z)
        . obtain⟨c',hc'⟩:=Cl.has _ m2 rfl;have e7:=(Cl.old x c' hc').1;rw[e6]at e7
          cases e7
          exact .inr ⟨zbQ g2,c,hc',hc.keeps old⟩
  . obtain⟨v,hc⟩:=I.cell x c (Cl.old x c e).1;exact⟨v,hc.keeps old⟩
  . show (selSt sel σ).length=N'.length;unfold selSt;rw[Af,B.len]
theorem zlS{C:Addr}{H':Hp}{σ':St}{s':Ae}(I:Inv X pins σ H s)(f:∀b∈fp,FpOk X pins H b)(I':Inv (blk X sc cl C N' s H fp) [] σ' H' s'):Inv X pins σ H' s' :=
 I.call' (ch:=fp) I'.os I'.base I'.hok I'.bare λb hb=>by obtain⟨_,f1,_,f3,f4,f5⟩:=f b hb;exact⟨f3,f1,f4,f5⟩
end
section
variable {X:Cx}
noncomputable def zb9(p:Addr)(te:TE):TS:=λD σ H=>te σ H λv H1=>∃xs,H1 p=some (.lst xs)/\xs.length<sizeLine/\D.nx σ (upd H1 p (.lst (xs++[v])))
theorem zjb {p:Addr}{elt:Expr}{te:TE}(he:PE X elt te):PB X (do let _ <- call (.builtin "list.append") [.ref p,<- eval elt X.env]) (zb9 p te):=by intro pins s σ H D I h;refine Ac (thn (he pins s σ H _ I h) λv s1 ⟨x,H1,I1,r1,xs,e1,hl,q⟩=>?_);refine Ac (thn (zbP pins s1 σ H1 (.ref p) [x] (.ref p) [v] (λz H2=>D.nx σ H2) I1 rfl (.cons r1 .nil) ⟨p,xs,x,rfl,rfl,e1,hl,q⟩) λu s2 ⟨z,H2,I2,_,q2⟩=>?_);exact Al ⟨σ,H2,I2,q2⟩
noncomputable def zhb(p:Addr)(tk tv:TE):TS:=λD σ H=>tk σ H λy H1=>tv σ H1 λv H2=>∃H3,DPut H2 p y v H3/\D.nx σ H3
theorem d_set{pins:List (Addr × Obj)}{σ : St}{H H':Hp}{s:Ae}{a:Addr}{y v:V}{u r:Ad}{A:AQ}{E:Ad -> Ae -> Prop}{Q:Unit -> Ae -> Prop}(hu:A.units + 1 < cLine)(I:Inv X pins σ H s)(g:DPut H a y v H')(ry:RelV y u)(rv:RelV v r)(h:∀s', Inv X pins σ H' s' -> Q () s') :
  Ar (Av X.prog X.w) A (dictSet a u r) Q E s:=by
 rcases g with⟨kvs,k,e,ey,l,eH⟩ |⟨kvs,k,b,e,ey,eb,l,eH⟩
 .subst ey eH;obtain⟨z,hd,vs,rel,dd⟩:=dk_of I.hok e;have hz:vs.length<=sizeLine:=by rw[<- rel.length];exact z
  have hl:(putK kvs k v).length<=sizeLine:=by have:=zbs kvs k v;lia
  refine wpAny_dictSet_pairs (hsz:=hz) (kV_is ry) dd λh' dd' hs=>h _ ?_
  have he:∃q,h'.get? a=some q:=let ⟨q,_,_,hq,_⟩:=dd';⟨q,hq⟩
  exact zfu I (by rw[e];exact BZ) hs he (zkV hl hd (rel.put k rv) dd')
 .subst ey eH
  cases (show u=AB b from ry)
  obtain⟨z,hd,xs,rel,dd⟩:=dt_of I.hok e;have hz:xs.length<=sizeLine:=by rw[<- Paired.length rel];exact z
  have hl:(putK kvs k v).length<=sizeLine:=by have:=zbs kvs k v;lia
  have hr:(tupleKind (za6 X.prog X.w)).room A:=by show A.units<cLine;lia
  refine wpAny_dictSet_heap (hsz:=hz) hr (zf8 I.hok eb) dd λh' dd' hs=>h _ ?_
  obtain⟨q,es,ep,hq,h2,h3,h4,_,h5⟩:=dd';refine zfu I (by rw[e];exact BZ) hs ⟨q,hq⟩ ⟨hl,hd,_,(rel.put k eb rv).keeps λc ys ec=>?_,q,es,ep,hq,h2,h3,h4,h5⟩;rw[zam (ne_of ec e (λz=>nomatch z))];exact ec
theorem zlt{p:Addr}{kx vx:Expr}{tk tv:TE}(hu:X.A.units + 1 < cLine)(hk:PE X kx tk)(hv:PE X vx tv) :
    PB X (do
        let kv <- eval kx X.env
        let vv <- C1 [kv] (eval vx X.env)
        match AB p with
        |.ref d=>do
          standAt { kx.pos with endLine:=vx.pos.endLine,endCol:=vx.pos.endCol }
          C1 [kv,vv] (dictSet d kv vv)
        |_=>unsupported "internal:dictcomp") (zhb p tk tv):=by
  intro pins s σ H D I h;refine Ac (thn (hk pins s σ H _ I h) λkv s1 ⟨y,H1,I1,r1,q1⟩=>?_);refine Ac (A7 (thn (hv pins s1 σ H1 _ I1 q1) λvv s2 ⟨v,H2,I2,r2,H3,g,q⟩=>?_));refine Ac (Cj (A7 (d_set hu I2 g r1 r2 λs3 I3=>⟨σ,H3,I3,q⟩)))
end
section
variable {X:Cx}{osc:Scope}{N:List Str}{sc:Scope}{N':List Str}{sel:List (Option Nat)}{pos:Pos}{elt kx vx tg iter:Expr}{ifs:List Expr}{wi:TI}{g:TG}{tt:TT}{te tk tv:TE}
noncomputable def InBlk(X:Cx)(sc:Scope)(N':List Str)(P:Cx->Prop):Prop:=∀cl C s0 H0 ex,P (blk X sc cl C N' s0 H0 ex)
theorem zcE{e:Expr}{inner:Env -> Addr -> Sem Unit}{tb:Addr -> TS}{use:Option (Ad -> Sem Unit)}{pins:List (Addr × Obj)}{s:Ae}{σ : St}{H:Hp}{J:It}{it:Addr}{fp:List Addr}{tn:Nat -> Heap -> Prop}{o0:HO}{ob:Obj}
    {D:Addr->Ends} {Q:Ad->Ae->Prop}
    (B:BlkOk osc N sc N' sel) (ho:X.env.scope=osc) (hN:X.N=N) (hc:X.calm=true)
    (hstart:∀(acc:Ad) (env:Env) (R:Result->Ae->Prop) (s:Ae),BP (Av X.prog X.w) X.A (.compLoop e 0 (.ref it) acc env) R s->Ar (Av X.prog X.w) X.A (pyIter (.ref it)) (λit' s'=>BP (Av X.prog X.w) X.A (.compLoop e 0 it' acc env) R s') (notedBy (Av X.prog X.w) X.A env λx s'=>R (.error x) s') s->BP (Av X.prog X.w) X.A (.compStart e 0 (.ref it) acc env) R s)
    (hloop:∀cl C s0 H0 ex p pins s σ H Dn R,Inv (blk X sc cl C N' s0 H0 ex) pins σ H s->tn 0 s.heap->(∀b∈fp,FpOk (blk X sc cl C N' s0 H0 ex) pins H b)->zb8 J g (tIfs tt (tb p)) Dn σ H ->
      (∀fl s',(∃ σ' H',Inv (blk X sc cl C N' s0 H0 ex) pins σ' H' s'/\(∀b∈fp,H' b=none)/\Dn.nx σ' H')->R (.ok fl) s')->BP (Av X.prog X.w) X.A (.compLoop e 0 (.ref it) (.ref p) (Cf sc cl C X.env)) R s)
    (I:Inv X pins σ H s) (T:Turn X.prog X.w X.K tg J fp it tn) (st:tn 0 s.heap) (f:∀b∈fp,FpOk X pins H b)
    (hnew:ObjOk X.prog X.w (upd H s.heap.objs.size o0) (s.heap.push ob) s.heap.objs.size o0) (hfree:ob.isFreed=false)
    (h:zb8 J g (tIfs tt (tb s.heap.objs.size)) (D s.heap.objs.size) (selSt sel σ) (upd H s.heap.objs.size o0))
    (hend:∀C H' s',Inv X pins σ H' s'->FpOk X pins H' C->(∃m,s'.heap.Ns C m)->(∃ σ',(D s.heap.objs.size).nx σ' H')->compPost (Av X.prog X.w) X.A X.xe use Q (.ref s.heap.objs.size) C (.ok .next) s') (tk:Nat)
    (cl:List (Str×Addr)) (Cl:Clo X.env sc cl) (E:Ad->Ae->Prop) :
    Ar (Av X.prog X.w) X.A (newFunctionEnv sc X.env.globals cl [] X.env.qual none .none (some X.env)) (λcenv s₄ =>
        BP (Av X.prog X.w) X.A (.compStart e 0 (.ref it) (.ref s.heap.objs.size) { cenv with scope:=relabel sc X.env }) (compPost (Av X.prog X.w) X.A X.xe use Q (.ref s.heap.objs.size) cenv.locals) s₄) E { s with heap:=s.heap.push ob,toks:=tk }:=by
  have grow:∀b o,s.heap.get? b=some o->(s.heap.push ob).get? b=some o:=λ_ _ q=>Ai _ q
  have I1:Inv X pins σ (upd H s.heap.objs.size o0) { s with heap:=s.heap.push ob,toks:=tk }:=I.laid grow (Ah _) hnew;have bel:∀b∈fp,∃o,s.heap.get? b=some o:=λb hb=>let ⟨o,e,_⟩:=T.obj _ _ st b hb;⟨o,e⟩
  have f1:∀b∈fp,FpOk X pins (upd H s.heap.objs.size o0) b:=λb hb=>by obtain⟨o,e⟩:=bel b hb;refine⟨?_,(f b hb).2⟩;rw[zam (AC (Ap e))];exact (f b hb).1
  refine wpAny_newFunctionEnv (s:={ s with heap:=s.heap.push ob,toks:=tk }) B.nocell (by intro x hx;cases hx) (λh1 hns hsb=>?_) B.kind;have I2:=zlJ (tk:=tk) B ho hN Cl I1 f1 (λb hb=>let ⟨o,e⟩:=bel b hb;⟨o,grow b o e⟩) hns hsb;have old:∀b o,s.heap.get? b=some o->h1.get? b=some o:=λb o e=>(hsb.2 b (AC (Ap (grow b o e)))).trans (Ai _ (grow b o e))
  have st1:tn 0 h1:=T.keep _ _ _ st λb _ o e=>old b o e
  have f2:∀b∈fp,FpOk (blk X sc cl (s.heap.push ob).objs.size N' { s with heap:=s.heap.push ob,toks:=tk } (upd H s.heap.objs.size o0) fp) [] (upd H s.heap.objs.size o0) b:=λb hb=>by
    obtain⟨g0,g1,g2,g3,g4,g5⟩:=f1 b hb;obtain⟨o,e⟩:=bel b hb;refine⟨g0,AC (Ap (grow b o e)),λz=>?_,.inl hb,λx c e=>g4 x c (Cl.old x c e).1,λp hp=>absurd (show p∈([]:List (Addr×Obj)) from hp) (by simp)⟩;rcases At.mp (I1.stkSub b z) with q |q
    . exact g1 q
    . exact g2 q
  have loop:=hloop cl _ _ _ _ s.heap.objs.size [] _ _ _ (D s.heap.objs.size) (compPost (Av X.prog X.w) X.A X.xe use Q (.ref s.heap.objs.size) (s.heap.push ob).objs.size) I2 st1 f2 h λfl s' ⟨σ',H',I',fr',q'⟩=>by
    have I3:=zlS I1 f1 I';have hC:FpOk X pins H' (s.heap.push ob).objs.size:=I1.fpOk (Ah _) I'.free;obtain⟨m,hn,_⟩:=I'.loc;have:=hend _ H' s' I3 hC ⟨m,hn⟩ ⟨σ',q'⟩
    cases use <;> exact this
  exact hstart _ _ _ _ loop (T.self _ 0 _ _ _ st1 loop)
end
section
variable {X:Cx}{osc:Scope}{N:List Str}{sc:Scope}{N':List Str}{sel:List (Option Nat)}{pos:Pos}{elt kx vx tg iter:Expr}{ifs:List Expr}{wi:TI}{g:TG}{tt:TT}{te tk tv:TE}
theorem zeZ{it:Addr}{fp:List Addr}{tn:Nat -> Heap -> Prop}{J:It}(T:Turn X.prog X.w X.K tg J fp it tn)(hc:X.calm=true)(hg:InBlk X sc N' λY => PG Y tg g)(ht:InBlk X sc N' λY => PTs Y ifs tt)(he:InBlk X sc N' λY => PE Y elt te) :
  ∀cl C s0 H0 ex p pins s σ H Dn R,Inv (blk X sc cl C N' s0 H0 ex) pins σ H s->tn 0 s.heap->(∀b∈fp,FpOk (blk X sc cl C N' s0 H0 ex) pins H b)->zb8 J g (tIfs tt (zb9 p te)) Dn σ H ->
   (∀fl s',(∃ σ' H',Inv (blk X sc cl C N' s0 H0 ex) pins σ' H' s'/\(∀b∈fp,H' b=none)/\Dn.nx σ' H')->R (.ok fl) s')->BP (Av X.prog X.w) X.A (.compLoop (.ListComp elt [⟨tg,iter,ifs,0⟩] sc pos) 0 (.ref it) (.ref p) (Cf sc cl C X.env)) R s :=
 λcl C s0 H0 ex p pins s σ H Dn R I st f W hR =>
  zdi (X:=blk X sc cl C N' s0 H0 ex) (p:=iter.pos) (inner:=do let _ <- call (.builtin "list.append") [.ref p,<- eval elt (Cf sc cl C X.env)]) rfl rfl rfl (λB {α t Q E s} h w=>by subst h;exact w) hc rfl (hg _ _ _ _ _) (ht _ _ _ _ _) (zjb (he _ _ _ _ _)) I T st f W hR
noncomputable def zc4(wi:TI)(sel:List (Option Nat))(g:TG)(tt:TT)(te:TE):TE:=λσ H Q=>wi σ H λJ H1=>∀p,H1 p=none ->
 zb8 J g (tIfs tt (zb9 p te)) { nx:=λ_ H'=>Q (.ref p) H',rt:=λ_ _=>False } (selSt sel σ) (upd H1 p (.lst []))
theorem Inv.let_go{pins:List (Addr×Obj)}{σ:St}{H:Hp}{s:Ae}{C:Addr}{h':Heap}(I:Inv X pins σ H s)(f:FpOk X pins H C)(hs:CS C s.heap h'):Inv X pins σ H { s with heap:=h' }:=by obtain⟨f0,f1,_,f3,f4,f5⟩:=f;exact I.turned (t':=s.toks) (λb o hb e=>(hs.2 b hb).trans e) f0 f1 f3 f4 f5
theorem zfq {P:AK}{w:A1}{H:Hp}{h:Heap}:ObjOk P w (upd H h.objs.size (.lst [])) (h.push { cls:=.type "list",dict:=none,data:=.seq ([]:List Ad).toArray }) h.objs.size (.lst []) :=
 ⟨AV _,[],_,.nil,AG _ rfl⟩
theorem zaF(B:BlkOk osc N sc N' sel)(hi:PI X tg iter wi)(hg:InBlk X sc N' λY => PG Y tg g)(ht:InBlk X sc N' λY => PTs Y ifs tt)(he:InBlk X sc N' λY => PE Y elt te)
  (ho:X.env.scope=osc:=by rfl) (hN:X.N=N:=by rfl) (hc:X.calm=true:=by rfl) (hs:∀x,Bb iter X.env x=pure x:=by intro _;rfl) :
  PE X (.ListComp elt [⟨tg,iter,ifs,0⟩] sc pos) (zc4 wi sel g tt te):=by
 intro pins s σ H Q I h;obtain⟨cl,Cl⟩:=zgf I.ok B ho;rw[eval_ListComp];refine BN (use:=none) rfl hs Cl.run B.kind B.names (thn (hi pins s σ H _ I h) λv s1 h1=>thn h1 λitv s2 h2=>?_);obtain⟨it,fp,tn,J,H2,e,I2,T,st2,f2,h2⟩:=h2;subst e
 refine Bl (zcE (e:=.ListComp elt [⟨tg,iter,ifs,0⟩] sc pos) (inner:=λ_ _=>pure ()) (D:=λp=>{ nx:=λ_ H'=>Q (.ref p) H',rt:=λ_ _=>False }) (tb:=λp=>zb9 p te) (use:=none) B ho hN hc (λacc env R s a b=>Cy a b)
  (zeZ (iter:=iter) (pos:=pos) T hc hg ht he) I2 T st2 f2 zfq rfl (h2 _ (I2.hok.fresh (Ah _))) (λC H' s' I3 fC hn hq=>?_) s2.toks cl Cl X.xe)
 obtain⟨m,hn⟩:=hn;obtain⟨_,hq⟩:=hq;exact⟨m,hn,λh' hs'=>⟨.ref s2.heap.objs.size,H',I3.let_go fC hs',rfl,hq⟩⟩
noncomputable def zho(wi:TI)(sel:List (Option Nat))(g:TG)(tt:TT)(te:TE)(i:Nat):TS:=λD σ H=>wi σ H λJ H1=>∀p,H1 p=none ->
 zb8 J g (tIfs tt (zb9 p te)) { nx:=λ_ H'=>D.nx (σ.set i (some (.ref p))) H',rt:=λ_ _=>False } (selSt sel σ) (upd H1 p (.lst []))
theorem zhs{i:Nat}{x:Str}{px spos:Pos}(B:BlkOk osc N sc N' sel)(hnd:X.N.Nodup)(hi':X.N[i]? = some x)(hx:Loc X.env.scope x)(hi:PI X tg iter wi)(hg:InBlk X sc N' λY => PG Y tg g)(ht:InBlk X sc N' λY => PTs Y ifs tt)(he:InBlk X sc N' λY => PE Y elt te)
  (hsw:swapsWith (.ListComp elt [⟨tg,iter,ifs,0⟩] sc pos) (some (.Name x px)) spos.line X.env=pure true:=by rfl)
  (ho:X.env.scope=osc:=by rfl) (hN:X.N=N:=by rfl) (hc:X.calm=true:=by rfl) (hs:∀x,Bb iter X.env x=pure x:=by intro _;rfl)
  (hf:X.fn x=true∨X.env.scope.names.lookup x=some .local:=by first |exact .inl rfl |exact .inr rfl |assumption) :
  PS X (.Assign [.Name x px] (.ListComp elt [⟨tg,iter,ifs,0⟩] sc pos) spos) (zho wi sel g tt te i):=by
 intro pins s σ H D I h;obtain⟨cl,Cl⟩:=zgf I.ok B ho;rw[exec_Assign_Name_used _ _ _ _ hsw];refine Ac (Cj (Ac ?_));show Ar _ X.A (do let _ <- comprehension (.ListComp elt [⟨tg,iter,ifs,0⟩] sc pos) sc X.env _ (newList []) false (eval iter X.env) (some (assign (.Name x px) X.env))) _ _ s;refine Ac (thn (BN (use:=some (assign (.Name x px) X.env)) (Q:=λ_ s'=>SP X pins D .next s') rfl hs Cl.run B.kind B.names (thn (hi pins s σ H _ I h) λv s1 h1=>thn h1 λitv s2 h2=>?_)) λ_ s' hq=>Al (Al hq));obtain⟨it,fp,tn,J,H2,e,I2,T,st2,f2,h2⟩:=h2;subst e
 refine Bl (zcE (e:=.ListComp elt [⟨tg,iter,ifs,0⟩] sc pos) (inner:=λ_ _=>pure ()) (D:=λp=>{ nx:=λ_ H'=>D.nx (σ.set i (some (.ref p))) H',rt:=λ_ _=>False }) (tb:=λp=>zb9 p te) (use:=some (assign (.Name x px) X.env)) B ho hN hc (λacc env R s a b=>Cy a b)
  (zeZ (iter:=iter) (pos:=pos) T hc hg ht he) I2 T st2 f2 zfq rfl (h2 _ (I2.hok.fresh (Ah _))) (λC H' s' I3 fC hn hq=>?_) s2.toks cl Cl X.xe)
 obtain⟨m,hn⟩:=hn;obtain⟨_,hq⟩:=hq;show Ar _ X.A (assign (.Name x px) X.env (.ref s2.heap.objs.size)) _ _ _;refine wpAny_assign_Name (zdQ I3 hnd hi' hx (v:=.ref s2.heap.objs.size) rfl (λs4 I4 hch=>?_) hf);obtain⟨a,sb,ha⟩:=hch
 have nC:C≠a:=by
  rcases ha with z |z
  .rw[z];exact fC.2.1
  .exact λq=>fC.2.2.2.2.1 x a z q.symm
 refine⟨m,hn.sameBut sb nC,λh' hs'=>⟨_,H',I4.let_go fC hs',hq⟩⟩
theorem zij{it:Addr}{fp:List Addr}{tn:Nat -> Heap -> Prop}{J:It}(hu:X.A.units + 1 < cLine)(T:Turn X.prog X.w X.K tg J fp it tn)(hc:X.calm=true)(hg:InBlk X sc N' λY => PG Y tg g)(ht:InBlk X sc N' λY => PTs Y ifs tt)(hk:InBlk X sc N' λY => PE Y kx tk)(hv:InBlk X sc N' λY => PE Y vx tv) :
  ∀cl C s0 H0 ex p pins s σ H Dn R,Inv (blk X sc cl C N' s0 H0 ex) pins σ H s->tn 0 s.heap->(∀b∈fp,FpOk (blk X sc cl C N' s0 H0 ex) pins H b)->zb8 J g (tIfs tt (zhb p tk tv)) Dn σ H ->
   (∀fl s',(∃ σ' H',Inv (blk X sc cl C N' s0 H0 ex) pins σ' H' s'/\(∀b∈fp,H' b=none)/\Dn.nx σ' H')->R (.ok fl) s')->BP (Av X.prog X.w) X.A (.compLoop (.DictComp kx vx [⟨tg,iter,ifs,0⟩] sc pos) 0 (.ref it) (.ref p) (Cf sc cl C X.env)) R s :=
 λcl C s0 H0 ex p pins s σ H Dn R I st f W hR =>
  zdi (X:=blk X sc cl C N' s0 H0 ex) (p:=iter.pos) rfl rfl rfl (λB {α t Q E s} h w=>by subst h;exact w) hc rfl (hg _ _ _ _ _) (ht _ _ _ _ _) (zlt (X:=blk X sc cl C N' s0 H0 ex) hu (hk _ _ _ _ _) (hv _ _ _ _ _)) I T st f W hR
noncomputable def zl4(wi:TI)(sel:List (Option Nat))(g:TG)(tt:TT)(tk tv:TE):TE:=λσ H Q=>wi σ H λJ H1=>∀p,H1 p=none ->
 zb8 J g (tIfs tt (zhb p tk tv)) { nx:=λ_ H'=>Q (.ref p) H',rt:=λ_ _=>False } (selSt sel σ) (upd H1 p (.dT []))
theorem zkl(hu:X.A.units + 1 < cLine)(B:BlkOk osc N sc N' sel)(hi:PI X tg iter wi)(hg:InBlk X sc N' λY => PG Y tg g)(ht:InBlk X sc N' λY => PTs Y ifs tt)(hk:InBlk X sc N' λY => PE Y kx tk)(hv:InBlk X sc N' λY => PE Y vx tv)
  (ho:X.env.scope=osc:=by rfl) (hN:X.N=N:=by rfl) (hc:X.calm=true:=by rfl) (hs:∀x,Bb iter X.env x=pure x:=by intro _;rfl) :
  PE X (.DictComp kx vx [⟨tg,iter,ifs,0⟩] sc pos) (zl4 wi sel g tt tk tv):=by
 intro pins s σ H Q I h;obtain⟨cl,Cl⟩:=zgf I.ok B ho;show Ar _ X.A (comprehension (.DictComp kx vx [⟨tg,iter,ifs,0⟩] sc pos) sc X.env _ newDict false (eval iter X.env)) _ _ s;refine BN (use:=none) rfl hs Cl.run B.kind B.names (thn (hi pins s σ H _ I h) λv s1 h1=>thn h1 λitv s2 h2=>?_);obtain⟨it,fp,tn,J,H2,e,I2,T,st2,f2,h2⟩:=h2;subst e
 refine Bl (zcE (e:=.DictComp kx vx [⟨tg,iter,ifs,0⟩] sc pos) (inner:=λ_ _=>pure ()) (D:=λp=>{ nx:=λ_ H'=>Q (.ref p) H',rt:=λ_ _=>False }) (tb:=λp=>zhb p tk tv) (use:=none) B ho hN hc (λacc env R s a b=>codeAny_compStart_dict a b)
  (zij (iter:=iter) (pos:=pos) hu T hc hg ht hk hv) I2 T st2 f2 (zhM s2.heap I2.big) rfl (h2 _ (I2.hok.fresh (Ah _))) (λC H' s' I3 fC hn hq=>?_) s2.toks cl Cl X.xe)
 obtain⟨m,hn⟩:=hn;obtain⟨_,hq⟩:=hq;exact⟨m,hn,λh' hs'=>⟨.ref s2.heap.objs.size,H',I3.let_go fC hs',rfl,hq⟩⟩
end
mutual
inductive RD (K:W.Frag) (H:Hp):V->PyData->Prop where
 |non:RD K H .non .none
 |bl (b:Bool):RD K H (.bl b) (.bool b)
 |int (i:Int):RD K H (.int i) (.int i)
 |str (x:Str):RD K H (.str x) (.str x)
 |lst {a:Addr} {xs:List V} {ds:List PyData}:SqL K H a xs->RDs K H xs ds->RD K H (.ref a) (.list ds)
 |tup {a:Addr} {xs:List V} {ds:List PyData}:SqT K H a xs->RDs K H xs ds->RD K H (.ref a) (.tuple ds)
inductive RDs (K:W.Frag) (H:Hp):List V->List PyData->Prop where
 |nil:RDs K H [] []
 |cons {x:V} {xs:List V} {d:PyData} {ds:List PyData}:RD K H x d->RDs K H xs ds->RDs K H (x::xs) (d::ds)
end
section
variable {X:Cx}{pins:List (Addr×Obj)}{σ:St}{H:Hp}{s:Ae}
mutual
theorem Inv.reads(I:Inv X pins σ H s):∀{v:V}{d:PyData}{u:Ad},RD X.K H v d->RelV v u->∃as,Reads s.heap u d as
 |_,_,_,.non,r=>by cases (show _=CK from r);exact⟨_,.none⟩
 |_,_,_,.bl b,r=>by cases (show _=C9 b from r);exact⟨_,.bool b⟩
 |_,_,_,.int i,r=>by obtain⟨t,rfl⟩:=r;exact⟨_,.int i t⟩
 |_,_,_,.str x,r=>by obtain⟨t,rfl⟩:=r;exact⟨_,.str x t⟩
 |_,_,_,.lst (a:=a) hq hs,r=>by
  cases (show _=AB a from r)
  obtain⟨its,rv,p,hz⟩:=I.list hq;obtain⟨as,ra⟩:=I.readsAll hs rv;obtain⟨o,ho,hc,n,hd⟩:=p.isList;exact⟨_,.list ho hc hd (by simpa using ra)⟩
 |_,_,_,.tup (a:=a) hq hs,r=>by
  cases (show _=AB a from r)
  obtain⟨its,rv,p,hz⟩:=I.tuple hq;obtain⟨as,ra⟩:=I.readsAll hs rv;obtain⟨o,ho,hc,n,hd⟩:=p;exact⟨_,.tuple ho hc hd (by simpa using ra)⟩
theorem Inv.readsAll(I:Inv X pins σ H s):∀{vs:List V}{ds:List PyData}{us:List Ad},RDs X.K H vs ds->Vals vs us->∃as,ReadsAll s.heap us ds as
 |_,_,_,.nil,r=>by cases r;exact⟨_,.nil⟩
 |_,_,_,.cons h t,.cons r rr=>by
  obtain⟨as,h1⟩:=I.reads h r;obtain⟨bs,h2⟩:=I.readsAll t rr;exact⟨_,.cons h1 h2⟩
end
end
theorem RDs.ints{K:W.Frag}{H:Hp}:∀(ns:List Int),RDs K H (ns.map V.int) (ns.map PyData.int)
 |[]=>.nil
 |n::r=>.cons (.int n) (RDs.ints r)
mutual
theorem RD.mono{K:W.Frag}{H H':Hp}(hl:∀a xs,SqL K H a xs->SqL K H' a xs)(ht:∀a xs,SqT K H a xs->SqT K H' a xs):∀{v:V}{d:PyData},RD K H v d->RD K H' v d
 |_,_,.non=>.non
 |_,_,.bl b=>.bl b
 |_,_,.int i=>.int i
 |_,_,.str x=>.str x
 |_,_,.lst h t=>.lst (hl _ _ h) (RDs.mono hl ht t)
 |_,_,.tup h t=>.tup (ht _ _ h) (RDs.mono hl ht t)
theorem RDs.mono{K:W.Frag}{H H':Hp}(hl:∀a xs,SqL K H a xs->SqL K H' a xs)(ht:∀a xs,SqT K H a xs->SqT K H' a xs):∀{v:List V}{d:List PyData},RDs K H v d->RDs K H' v d
 |_,_,.nil=>.nil
 |_,_,.cons h t=>.cons (RD.mono hl ht h) (RDs.mono hl ht t)
end
noncomputable def rEqD(K:W.Frag):R2:=λx y H Q=>∃d e,RD K H x d/\RD K H y e/\Bd d=true/\Bd e=true/\Q (.bl (Dd d e)) H
noncomputable def rNeD(K:W.Frag):R2:=λx y H Q=>∃d e,RD K H x d/\RD K H y e/\Bd d=true/\Bd e=true/\Q (.bl (!PyData.eqv d e)) H
section
variable {X:Cx}
theorem zje(hu:X.A.units+64<cLine):OpR X (Bu .Eq) (rEqD X.K):=by intro pins s σ H x y v u Q I rx ry h;obtain⟨d,e,hd,he,sd,se,q⟩:=h;obtain⟨as,ra⟩:=I.reads hd rx;obtain⟨bs,rb⟩:=I.reads he ry;exact SeqAt.compareEq_shaped ra rb sd se hu ⟨.bl _,H,I,rfl,q⟩
theorem zmd(hu:X.A.units+64<cLine):OpR X (Bu .NotEq) (rNeD X.K):=by intro pins s σ H x y v u Q I rx ry h;obtain⟨d,e,hd,he,sd,se,q⟩:=h;obtain⟨as,ra⟩:=I.reads hd rx;obtain⟨bs,rb⟩:=I.reads he ry;exact SeqAt.compareNe_shaped ra rb sd se hu ⟨.bl _,H,I,rfl,q⟩
theorem zgg{ds:List PyData}(h:∀e∈ds,Bd e=true):BQ ds=true:=by
 induction ds with
 |nil=>rfl
 |cons d r ih=>rw[BQ,SeqAt.canLay_of_shaped (h d Ay),ih λe he=>h e (Ao _ he)];rfl
theorem zed:∀ns ms:List Int,PyData.eqvAll (ns.map PyData.int) (ms.map PyData.int)=decide (ns=ms)
 |[],[]=>rfl
 |[],_::_=>rfl
 |_::_,[]=>rfl
 |n::r,m::t=>by
  show (n == m && PyData.eqvAll (r.map PyData.int) (t.map PyData.int))=_;rw[zed r t]
  by_cases e:n=m
  .subst e;by_cases e2:r=t <;> simp[e2]
  .simp[e]
theorem zdh:∀ns:List Int,C5 (ns.map PyData.int)=0
 |[]=>rfl
 |n::r=>by show max 0 (C5 (r.map PyData.int))=0;rw[zdh r];rfl
theorem zcR:∀ns:List Int,BQ (ns.map PyData.int)=true
 |[]=>rfl
 |n::r=>by show (true && BQ (r.map PyData.int))=true;rw[zcR r];rfl
noncomputable def tI(ns:List Int):PyData:=.tuple (ns.map .int)
theorem zjC(ns ms:List Int):Dd (tI ns) (tI ms)=decide (ns=ms):=zed ns ms
theorem zc8(ns:List Int):Bd (tI ns)=true:=by unfold Bd tI;rw[PyData.canLay0,zcR,PyData.depth,zdh];rfl
end
section
variable {prog:AK}{w:A1}{A:AQ}{E:Ad->Ae->Prop}{s:Ae}
end
section
variable {X:Cx}{pos:Pos}
noncomputable def CDivB(i j:Int):Prop:=0<j/\j.natAbs.log2<9000
theorem zhw:OpR X (binaryOp .FloorDiv) (rI CDivB λi j=>.int (i / j)):=opI λi j _ _ _ _ _ hc q=>by have e:i.fdiv j=i / j:=Int.fdiv_eq_ediv_of_nonneg i (Int.le_of_lt hc.1);rw[<- e]at q;exact floordiv_int (by have:=hc.1;lia) q (.inl (PyProof.noPylong_of_log2 hc.2))
theorem zbz (hh:X.calm=true):CallR X (.builtin "all") (λxs H Q=>∃(p:Addr) (bs:List Bool),xs=[.ref p]/\SqL X.K H p (bs.map V.bl)/\Q (.bl (bs.all id)) H):=by
 intro pins s σ H xs us Q I r h;obtain⟨p,bs,rfl,hq,q⟩:=h;obtain⟨u,rfl,ru⟩:=vals1 r
 cases (show u=AB p from ru)
 obtain⟨its,rv,pl,hz⟩:=I.list hq;have hlp:p<s.heap.objs.size:=by obtain⟨o,ho,_⟩:=pl.isList;exact Ap ho
 have hlen:its.length=bs.length:=by have:=rv.length;simpa using this.symm
 refine call_all_walk (wpAny_pyIter_list pl.isList ?_);refine⟨_,_,_,_,_,_,λi=>bs.getD i true,rfl,Walks.list (A:=X.A.in1) (I.ok.hd hh) s.heap.objs.size p (AC hlp) its.toArray,⟨⟨_,AG _ rfl,rfl,rfl⟩,pl.isList.push _⟩,?_,λh' tk hk=>?_⟩
 .intro i v s1 Q1 E1 hv hQ;have hv':its[i]?=some v:=by simpa using hv
  have hi:i<its.length:=(Ab.mp hv').1;obtain⟨w',hw,rw'⟩:=rv.get (i:=i) (x:=V.bl (bs[i]'(by lia))) (by simp[Aa,show i<bs.length by lia]);rw[hv']at hw
  cases hw
  cases (show v=C9 _ from rw')
  refine Bw ?_
  have e:bs.getD i true=bs[i]'(by lia):=by simp[Ak,show i<bs.length by lia]
  rw[<- e];exact hQ
 .have I1:Inv X pins σ H { s with heap:=h',toks:=tk }:=I.kept λb o e=>hk b o (by simp;exact AC (Ap e)) (Ai _ e)
  refine⟨.bl _,H,I1,rfl,?_⟩
  have e:(As its.toArray.size).all (λi=>bs.getD i true)=bs.all id:=by
   rw[show its.toArray.size=bs.length by simpa using hlen];rw[Ca];simp only[Cr,List.mem_range,id];constructor
   .intro h b hb;obtain⟨i,hi,e⟩:=AM hb;have:=h i hi;simpa[Ak,hi,e]using this
   .intro h i hi;have:=h bs[i] (AU hi);simpa[Ak,hi]using this
  rw[e];exact q
end
section
variable {X:Cx}
theorem zbE:CallR X (.builtin "isinstance") (λxs H Q=>∃x T t b,xs=[x,.ty T]/\TyOf X.K H x t/\W.kitOne X.K t (.type T)=some b/\Q (.bl b) H):=by
 intro pins s σ H xs us Q I r h;obtain⟨x,T,t,b,rfl,ty,e,q⟩:=h;obtain⟨u,w',rfl,ru,rw'⟩:=vals2 r
 cases (show w'=Da T from rw')
 exact zjy I ru ty e λtk=>⟨.bl b,H,I.tok tk,rfl,q⟩
end
end L2
namespace HT
open PySem PyProof.Rows
noncomputable def lexLe:List Int->List Int->Bool
 |[],[]=>true
 |[],_::_=>true
 |_::_,[]=>false
 |x::xs,y::ys=>if x=y then lexLe xs ys else decide (x<=y)
theorem zeV(x y:Int)(xs ys:List Int):lexLe (x::xs) (y::ys)=if x=y then lexLe xs ys else decide (x<=y):=rfl
theorem zfs:lexLe [] []=true:=rfl
theorem zeG(y:Int)(ys:List Int):lexLe [] (y::ys)=true:=rfl
theorem zeH(x:Int)(xs:List Int):lexLe (x::xs) []=false:=rfl
theorem zkd(A:AQ)(s:Ae)(a:Int)(t:Tok)(c:Int)(u:Tok)(prog:AK)(w:A1)(E:Ad -> Ae -> Prop)(Q:Ad -> Ae -> Prop)(h:Q (.bool (decide (a <= c))) s) :
  Ar (Av prog w) A (richCompare .LtE (.int a t) (.int c u)) Q E s :=
 (PyProof.Rows.le_int h:Ar (Av prog w) A (Bu .LtE (.int a t) (.int c u)) Q E s)
section
open PySem.SeqAt
open PySem.AutoSeq1 (wpAny_loadPart')
open PySem.MeetsSeq PySem.MeetsSeq2 PySem.MeetsSeq3
theorem ze5(l b:Addr)(items items2:Array Ad)(n n2:Nat)(dd dd2:Option Addr)(sl sl2:Array (Option Ad))(ns ms:List Int)(hi:BV items.toList ns)(hj:BV items2.toList ms) :
  Meets (Builtin.«tuple.__le__» ⟨[.ref l,.ref b],[]⟩)
   (λ_ R s=>s.heap.get? l=some { cls:=.type "tuple",dict:=dd,data:=.seq items n,slots:=sl }/\s.heap.get? b=some { cls:=.type "tuple",dict:=dd2,data:=.seq items2 n2,slots:=sl2 } /\
    R (.ok (.ret (.bool (lexLe ns ms)))) s) :=
 .of_wp λprog w A R s h=>by
  obtain⟨hp,g,d,tk,os⟩:=s;obtain⟨hl,hb,h⟩:=h;have f2:=AutoSeq1.sub_tuple_tuple;have z1:items.size=ns.length:=by rw[<- hi.length];simp
  have z2:items2.size=ms.length:=by rw[<- hj.length];simp
  wp_walk using BS hl,BS hb,wpAny_forIn_list _ (λrest b s'=>b.1=none/\s'=⟨hp,g,d,tk,os⟩/\∃(vs ws:List Ad) (ns' ms':List Int),rest=vs.zip ws /\
   BV vs ns'/\BV ws ms'/\ns'.length+items2.size=ms'.length+items.size/\R (.ok (.ret (.bool (lexLe ns' ms')))) ⟨hp,g,d,tk,os⟩) _
  case turn =>
   rintro⟨y,x⟩ rest b s' ⟨hb',rfl,vs,ws,ns',ms',hz,hvi,hwi,hlen,hR⟩
   cases hvi with
   |nil=>rw[List.zip_nil_left]at hz;cases hz
   |cons a t hvi' =>
    cases hwi with
    |nil=>rw[List.zip_nil_right]at hz;cases hz
    |cons c u hwi' =>
     rw[B2]at hz;injection hz with hyx hrest;injection hyx with hy hx;subst hy hx;rw[zeV]at hR;simp only[AO]at hlen;obtain⟨e,he,hiff⟩:=zhK A.in1 ⟨hp,g,d,tk,os⟩ a t c u;refine Ac (he prog w _ _ ?_)
     cases e with
     |true =>
      rw[if_pos (hiff.mp rfl)]at hR
      wp_walk
      exact⟨rfl,rfl,_,_,_,_,hrest,hvi',hwi',by lia,hR⟩
     |false =>
      rw[if_neg (λq=>absurd (hiff.mpr q) Aw)]at hR;have hri:=zkd A.in1 ⟨hp,g,d,tk,os⟩ a t c u prog w
      wp_walk using hri
      exact⟨_,rfl,by simpa using hR⟩
  case fin =>
   rintro⟨b1,b2⟩ s' ⟨hb',rfl,vs,ws,ns',ms',hz,hvi,hwi,hlen,hR⟩;simp only at hb';subst hb'
   have hv:lexLe ns' ms'=decide (items.size<=items2.size):=by
    cases hvi with
    |nil =>
     cases hwi with
     |nil =>
      simp only[BR]at hlen;rw[zfs];exact (decide_eq_true (by lia)).symm
     |cons c u hw =>
      simp only[BR,AO]at hlen;rw[zeG];exact (decide_eq_true (by lia)).symm
    |cons a t hv =>
     cases hwi with
     |nil =>
      simp only[BR,AO]at hlen;rw[zeH];exact (decide_eq_false (by lia)).symm
     |cons c u hw =>
      rw[B2]at hz
      cases hz
   rw[hv]at hR
   wp_walk
   exact⟨_,rfl,by simpa[Builtin.Tuple.tupleCompareSizes]using hR⟩
  case h =>
   exact⟨rfl,rfl,items.toList,items2.toList,ns,ms,rfl,hi,hj,by lia,h⟩
end
section
variable {prog:AK}{w:A1}{A:AQ}{E:Ad->Ae->Prop}{s:Ae}
theorem le_tupInts{l b:Addr}{items items2:Array Ad}{ns ms:List Int}{Q:Ad -> Ae -> Prop}(hl:IsTup s.heap l items)(hb:IsTup s.heap b items2)(hi:BV items.toList ns)(hj:BV items2.toList ms)
  (hu:A.units<cLine) (h:Q (.bool (lexLe ns ms)) s):Ar (Av prog w) A (Bu .LtE (.ref l) (.ref b)) Q E s:=by
 obtain⟨⟨cls,dd,data,sl⟩,ho,hc,n,hd⟩:=id hl;obtain⟨⟨cls2,dd2,data2,sl2⟩,ho2,hc2,n2,hd2⟩:=id hb;simp only at hc hd hc2 hd2;subst hc hd hc2 hd2
 exact richCompare_meets_room (op:=.LtE) ⟨_,ho,rfl⟩ ⟨_,ho2,rfl⟩ PySem.F.slot_tuple_le PySem.F.entry_tuple_le (PySem.F.args_tuple_le_2 _ _) (ze5 l b items items2 n n2 dd dd2 sl sl2 ns ms hi hj)
  ⟨ho,ho2,show C9 (lexLe ns ms)≠Value.notImplemented/\Q (.bool (lexLe ns ms)) s from ⟨(λx=>nomatch x),h⟩⟩ hu
end
end HT
namespace L2
open PySem PySem.Spec PyProof.Rows
section
variable {X:Cx}
noncomputable def rLeT(K:W.Frag):R2:=λx y H Q=>∃a b ns ms,x=.ref a/\y=.ref b/\SqT K H a (ns.map V.int)/\SqT K H b (ms.map V.int)/\Q (.bl (HT.lexLe ns ms)) H
theorem zme(hu:X.A.units<cLine):OpR X (Bu .LtE) (rLeT X.K):=by
 intro pins s σ H x y v u Q I rx ry h;obtain⟨a,b,ns,ms,rfl,rfl,ha,hb,q⟩:=h
 cases rx
 cases ry
 obtain⟨its,r1,p1,_⟩:=I.tuple ha;obtain⟨its2,r2,p2,_⟩:=I.tuple hb;have i1:BV its.toArray.toList ns:=zcM r1;have i2:BV its2.toArray.toList ms:=zcM r2;exact HT.le_tupInts p1 p2 i1 i2 hu ⟨.bl (HT.lexLe ns ms),H,I,rfl,q⟩
end
section
variable {X:Cx}
noncomputable def zlk(K:W.Frag):V->List V->Hp->VK->Prop:=λx vs H Q=>∃p xs y d ds j e,x=.ref p/\vs=[y]/\SqL K H p xs/\RD K H y d/\RDs K H xs ds/\Bd d=true/\(∀e∈ds,Bd e=true) /\
 ds[j]?=some e/\Dd e d=true/\(∀m e',m<j->ds[m]?=some e'->Dd e' d=false)/\Q (.int (j:Nat)) H
theorem zjl (hu:X.A.units+65<cLine):MtR X "list.index" (zlk X.K):=by
 intro pins s σ H x vs v us Q I rx rv h;obtain⟨p,xs,y,d,ds,j,e,rfl,rfl,hq,hd,hds,sd,sds,hj,he,hno,q⟩:=h
 cases rx
 obtain⟨u,rfl,ru⟩:=rv.one;obtain⟨its,r,pl,hz⟩:=I.list hq;obtain⟨as,ra⟩:=I.reads hd ru;obtain⟨bs,rb⟩:=I.readsAll hds r;have hlay:=zgg sds;have hmap:=SeqAt.readsAll_map ds _ _ hlay rb;have hlen:its.length=ds.length:=by rw[<- hmap,Af]
 have hj':j<ds.length:=(Ab.mp hj).1
 have rd:∀m (hm:m<its.length),ds[m]?=some (SeqAt.readOf s.heap its[m]):=λm hm=>by rw[<- hmap,Az,Aa hm];rfl
 obtain⟨⟨cls,dd,data,sl⟩,ho,hc,n,hdat⟩:=pl.isList;simp only at hc hdat
 subst hc hdat
 have hsz:xs.length<=sizeLine:=hz;have hl2:its.length=xs.length:=r.length.symm
 refine call_meets PySem.F.slot_list_index ⟨_,ho,rfl⟩ PySem.F.entry_list_index (PySem.F.args_list_index_2 _ _)
  (SeqAt.list_indexAt p its.toArray n dd sl u (λz=>Dd (SeqAt.readOf s.heap z) d) j (by simpa[hlen]using hj') (by have:=sizeLine_eq;lia) ?_ ?_)
  ⟨ho,SeqAt.items_eqAt (vs:=its.toArray) rb ra hlay (SeqAt.canLay_of_shaped sd) (PyProof.Rows.room_in_shaped sd hu),?_⟩
 .have:=rd j (by lia);rw[hj]at this;have e1:=A2 this;show Dd (SeqAt.readOf s.heap its[j]) d=true;rw[<- e1];exact he
 .intro m hm hlt;have hm':m<its.length:=by simpa using hm
  exact hno m _ hlt (rd m hm')
 .exact⟨.int (j:Nat),H,I.tok _,⟨_,rfl⟩,q⟩
end
section
variable {X:Cx}{k:Nat}{f:Addr}{fd:Bs}{ps:List Str}{sp:Sp}{pins:List (Addr×Obj)}{σ:St}
theorem ziZ{H:Hp}{s:Ae}{Q:VK}{us:List Ad}{vs:List V}{E:Ad -> Ae -> Prop}(F:FnOk X.prog X.w X.K X.mg X.base CX0 k f fd ps sp)(hr:Room (k + 1) X.A)(hb:Binds X.K fd ps [])
  (I:Inv X pins σ H s) (r:Vals vs us) (h:sp vs H Q E0):Ar (Av X.prog X.w) X.A.in1 (call (.ref f) us) (EP X pins σ Q) E s:=by
 have hl:(us++[]).length=ps.length:=by rw[Bt,<- r.length];exact F.len _ _ _ _ h
 have hb':=hb s us I.kIn hl;rw[Bt]at hb';refine wpAny_call (codeAny_mono (F.run X.A.in1 X.stack s H ⟨us,[]⟩ us vs Q E0 hr.in1 I.env0.in1 hb' r h) λr s' hq=>?_)
 cases r with
 |error e=>exact Bz hq
 |ok fl =>
  cases fl with
  |ret u=>exact I.after hq
  |next=>exact Bz hq
  |brk=>exact Bz hq
  |cont=>exact Bz hq
theorem Inv.moved{H:Hp}{s:Ae}{b:Addr}{h':Heap}{t':Nat}(I:Inv X pins σ H s)(fb:FpOk X pins H b)(hk:∀c o,c ∉ [b]->s.heap.get? c=some o->h'.get? c=some o):Inv X pins σ H { s with heap:=h',toks:=t' } :=
 I.turned (λc o hc e=>hk c o (λz=>hc (AN.mp z)) e) fb.1 fb.2.1 fb.2.2.2.1 fb.2.2.2.2.1 fb.2.2.2.2.2
theorem FpOk.again{H H':Hp}{b:Addr}(fb:FpOk X pins H b)(hn:H' b=none):FpOk X pins H' b:=⟨hn,fb.2⟩
structure MK (X:Cx) (pins:List (Addr×Obj)) (σ:St) (H:Hp) (s:Ae) (it st l:Addr) (j:Nat) (vb kb:Ad):Prop where
 inv:Inv X pins σ H s
 fi:FpOk X pins H it
 fs:FpOk X pins H st
 ne:st≠it
 iter:s.heap.IsListIter it l j
 hold:∃c,s.heap.get? st=some (Bp "list" #[vb,kb] c)
noncomputable def Least(κ:Nat->List Int)(n i:Nat):Prop:=∀j,j<n->HT.lexLt (κ j) (κ i)=false/\(j<i->HT.lexLt (κ i) (κ j)=true)
end
end L2
namespace HT
theorem lexLt_irrefl:∀a:List Int,lexLt a a=false
 |[]=>rfl
 |x::r=>by rw[lexLt_cons,if_pos rfl];exact lexLt_irrefl r
theorem lexLt_trans:∀{a b c:List Int},lexLt a b=true->lexLt b c=true->lexLt a c=true
 |[],[],_,h,_=>by cases h
 |[],_::_,[],_,h=>by cases h
 |[],_::_,_::_,_,_=>rfl
 |_::_,[],_,h,_=>by cases h
 |_::_,_::_,[],_,h=>by cases h
 |x::a,y::b,z::c,h,g=>by
  rw[lexLt_cons]at h g ⊢
  by_cases e1:x=y
  .subst e1;rw[if_pos rfl]at h
   by_cases e2:x=z
   .subst e2;rw[if_pos rfl]at g ⊢;exact lexLt_trans h g
   .rw[if_neg e2]at g ⊢;exact g
  .rw[if_neg e1]at h;have h':x<y:=by simpa using h
   by_cases e2:y=z
   .subst e2;rw[if_neg e1];exact h
   .rw[if_neg e2]at g;have g':y<z:=by simpa using g
    rw[if_neg (by lia)];exact decide_eq_true (by lia)
theorem lexLt_total:∀{a b:List Int},lexLt a b=false->lexLt b a=false->a=b
 |[],[],_,_=>rfl
 |[],_::_,h,_=>by cases h
 |_::_,[],_,h=>by cases h
 |x::a,y::b,h,g=>by
  rw[lexLt_cons]at h g
  by_cases e:x=y
  .subst e;rw[if_pos rfl]at h g;rw[lexLt_total h g]
  .rw[if_neg e]at h;rw[if_neg (By e)]at g;have h':¬ x<y:=by simpa using h
   have g':¬ y<x:=by simpa using g
   lia
theorem lexLe_eq:∀a b:List Int,lexLe a b=!lexLt b a
 |[],[]=>rfl
 |[],_::_=>rfl
 |_::_,[]=>rfl
 |x::a,y::b=>by
  rw[zeV,lexLt_cons]
  by_cases e:x=y
  .subst e;rw[if_pos rfl,if_pos rfl];exact lexLe_eq a b
  .rw[if_neg e,if_neg (By e)]
   by_cases g:x<=y
   .rw[decide_eq_true g,decide_eq_false (by lia)];rfl
   .rw[decide_eq_false g,decide_eq_true (by lia)];rfl
theorem lexLt_asym{a b:List Int}(h:lexLt a b=true):lexLt b a=false:=by
 cases e:lexLt b a with
 |false=>rfl
 |true=>have:=lexLt_trans h e;rw[lexLt_irrefl]at this;cases this
end HT
namespace L2
open PySem PySem.Spec PyProof.Rows
section
variable {X:Cx}{k:Nat}{f:Addr}{fd:Bs}{ps:List Str}{sp:Sp}{pins:List (Addr×Obj)}{σ:St}{H0:Hp}{Q:VK}{l it st:Addr}{xs:List V}{κ:Nat->List Int}
noncomputable def MKR(X:Cx)(pins:List (Addr×Obj))(σ:St)(Q:VK):Result->Ae->Prop:=λr s'=>match r with
 |.ok (.ret v)=>EP X pins σ Q v s'
 |.ok _=>False
 |.error e=>X.xe e s'
theorem zcK {xs:Array Ad}{c:Nat}:∀v,(Bp "list" xs c).data≠.cell v:=λv h=>by cases h
theorem zd9{h:Heap}{it l:Addr}{j:Nat}(hi:h.IsListIter it l j):∃o,h.get? it=some o/\∀v,o.data≠.cell v:=by obtain⟨o,ho,_,hd⟩:=hi;exact⟨o,ho,λv z=>by rw[hd]at z;cases z⟩
theorem zka{H:Hp}{s:Ae}{Q1:VK}{u:Ad}{x:V}{E:Ad -> Ae -> Prop}{j:Nat}{vb kb:Ad}(F:FnOk X.prog X.w X.K X.mg X.base CX0 k f fd ps sp)(hr:Room (k + 1) X.A)(hb:Binds X.K fd ps [])
    (M:MK X pins σ H s it st l j vb kb) (r:RelV x u) (h:sp [x] H Q1 E0):Ar (Av X.prog X.w) X.A.in1 (call (.ref f) [u]) (λv s'=>∃y H',RelV y v/\Q1 y H'/\MK X pins σ H' s' it st l j vb kb) E s:=by
  obtain⟨c,hc⟩:=M.hold;obtain⟨oi,hoi,ci,di⟩:=id M.iter
  have I1:Inv X (pins ++ zdC [it, st] s.heap) σ H s := M.inv.pinned (λb hb => by
      rcases At.mp hb with rfl |hb
      . exact M.fi
      . rw[AN.mp hb];exact M.fs) (λb hb=>by
      rcases At.mp hb with rfl |hb
      . exact zd9 M.iter
      . rw[AN.mp hb];exact⟨_,hc,zcK⟩)
  refine BG (ziZ F hr hb I1 (.cons r .nil) h) (λv s' hv=>?_) λ_ _ e=>e
  obtain⟨y,H',I2,ry,q⟩:=hv;have p1:=I2.pin (it,oi) (AA _ (AA _ (za0 (by simp) hoi)));have p2:=I2.pin (st,Bp "list" #[vb,kb] c) (AA _ (AA _ (za0 (by simp) hc)));exact⟨y,H',ry,q,I2.unpinned,M.fi.again p1.2.1,M.fs.again p2.2.1,M.ne,⟨oi,p1.1,ci,di⟩,c,p2.1⟩
theorem zlF{H:Hp}{s:Ae}{a b:Addr}{ns ms:List Int}{E:Ad -> Ae -> Prop}{Q1:Ad -> Ae -> Prop}(hu:X.A.units + 1 < cLine)(I:Inv X pins σ H s)(ha:SqT X.K H a (ns.map V.int))(hb:SqT X.K H b (ms.map V.int))(q:Q1 (.bool (HT.lexLt ns ms)) s) :
  Ar (Av X.prog X.w) X.A.in1 (richCompare .Lt (.ref a) (.ref b)) Q1 E s:=by
 obtain⟨its,r1,p1,_⟩:=I.tuple ha;obtain⟨its2,r2,p2,_⟩:=I.tuple hb;exact (HT.lt_tupInts p1 p2 (zcM r1) (zcM r2) hu q:Ar (Av X.prog X.w) X.A.in1 (Bu .Lt (.ref a) (.ref b)) Q1 E s)
theorem MK.set{H:Hp}{s:Ae}{j:Nat}{vb kb v kv:Ad}(M:MK X pins σ H s it st l j vb kb):MK X pins σ H { s with heap:=s.heap.update st (AH λ_=>#[v,kv]) } it st l j v kv:=by obtain⟨c,hc⟩:=M.hold;have sb:=BL s.heap st (AH λ_=>#[v,kv]);obtain⟨oi,hoi,ci,di⟩:=id M.iter;exact⟨M.inv.moved (t':=s.toks) M.fs (λb o hb e=>(sb.2 b λz=>hb (by simp[z])).trans e),M.fi,M.fs,M.ne,⟨oi,(sb.2 it M.ne.symm).trans hoi,ci,di⟩,_,C6 hc λ_=>#[v,kv]⟩
theorem Least.next{n i:Nat}(h:Least κ n i)(e:HT.lexLt (κ n) (κ i)=false)(hi:i<n):Least κ (n+1) i:=λj hj=>by
 by_cases z:j=n
 .subst z;exact⟨e,λq=>absurd q (by lia)⟩
 .exact h j (by lia)
theorem Least.take{n i:Nat}(h:Least κ n i)(e:HT.lexLt (κ n) (κ i)=true)(hi:i<n):Least κ (n+1) n:=λj hj=>by
 by_cases z:j=n
 .subst z;exact⟨HT.lexLt_irrefl _,λq=>absurd q (by lia)⟩
 .have g:=(h j (by lia)).1
  have t:HT.lexLt (κ n) (κ j)=true:=by
   cases q:HT.lexLt (κ i) (κ j) with
   |true=>exact HT.lexLt_trans e q
   |false=>rw[<- HT.lexLt_total q g];exact e
  exact⟨HT.lexLt_asym t,λ_=>t⟩
theorem Room.un1{n:Nat}{A:AQ}(r:Room n A):A.units+1<cLine:=by have:=r.units;lia
theorem Same.seqT{K:W.Frag}{H H':Hp}{a:Addr}{xs:List V}(e:Same H H')(h:SqT K H a xs):SqT K H' a xs:=by
 rcases h with (h |⟨o,h⟩) |h
 .exact .inl (.inl (e _ _ h))
 .exact .inl (.inr ⟨o,e _ _ h⟩)
 .exact .inr h
theorem zjn(hh:X.A.handled=none)(F:FnOk X.prog X.w X.K X.mg X.base CX0 k f fd ps sp)(hr:Room (k + 1) X.A)(hb:Binds X.K fd ps [])
  (turn:∀i x H,xs[i]?=some x->Same H0 H->sp [x] H (λv H'=>Same H H'/\∃a,v=.ref a/\SqT X.K H' a ((κ i).map V.int)) E0)
  (hl:SqL X.K H0 l xs) (hli:l≠it) (hQ:∀i x H',xs[i]?=some x->Least κ xs.length i->Same H0 H'->Q x H') :
  ∀(r j i:Nat) (H:Hp) (s:Ae) (vb:Ad) (xb:V) (b:Addr),xs.length-(j+1)=r->j+1<=xs.length->Same H0 H->MK X pins σ H s it st l (j+1) vb (.ref b)->xs[i]?=some xb->RelV xb vb->SqT X.K H b ((κ i).map V.int)->i<=j->Least κ (j+1) i ->
   BP (Av X.prog X.w) X.A (.builtin "min.loop" ⟨[.ref it,.ref f,.ref st],[]⟩) (MKR X pins σ Q) s:=by
 have nm:(toString "min" ++ toString ".loop" : String) = "min.loop":=by decide
 intro r
 induction r with
 |zero =>
  intro j i H s vb xb b hr0 hj hS M hxb rb kb' hij best;have hend:j+1=xs.length:=by lia
  obtain⟨its,rv,pl,hz⟩:=M.inv.list (hS.seq hl);have hlen:its.length=xs.length:=rv.length.symm;have W:=Walks.list (prog:=X.prog) (w:=X.w) (A:=X.A.in1) hh it l hli its.toArray;obtain⟨c,hc⟩:=M.hold;refine C7 PySem.F.entry_min_loop ?_
  rw[Cg BA _];show Ar _ X.A.in1 (seqItems? (.ref st) >>= _) _ _ _;refine Ac (CM hc rfl ?_);show Ar _ X.A.in1 (tryCatch (pyNext (.ref it)) _ >>= _) _ _ _;refine Ac (CN (W.done _ _ _ ⟨by rw[An,hlen,<- hend];exact M.iter,pl.isList⟩ λh1 tk1 hk1=>?_));have I1:=M.inv.moved (t':=tk1) M.fi hk1;have hc1:=hk1 st _ (by simpa using M.ne) hc;have sb:=BL h1 st (AH λ_=>(#[]:Array Ad));show Ar _ X.A.in1 (updateSeq st (λ_=>#[]) >>= _) _ _ _;refine Ac ?_
  refine Cc hc1 rfl (Ac (wpAny_letGo (Al ?_)));have I2:Inv X pins σ H { s with heap:=h1.update st (AH λ_=>(#[]:Array Ad)),toks:=tk1 }:=I1.moved (s:={ s with heap:=h1,toks:=tk1 }) (t':=tk1) M.fs (λb o hb e=>(sb.2 b λz=>hb (by simp[z])).trans e);exact⟨xb,H,I2,rb,hQ i xb H hxb (by rw[<- hend];exact best) hS⟩
 |succ r ih =>
  intro j i H s vb xb b hr0 hj hS M hxb rb kb' hij best;have hlt:j+1<xs.length:=by lia
  obtain⟨its,rv,pl,hz⟩:=M.inv.list (hS.seq hl);have hlen:its.length=xs.length:=rv.length.symm;have W:=Walks.list (prog:=X.prog) (w:=X.w) (A:=X.A.in1) hh it l hli its.toArray;obtain⟨c,hc⟩:=M.hold;refine C7 PySem.F.entry_min_loop ?_
  rw[Cg BA _];show Ar _ X.A.in1 (seqItems? (.ref st) >>= _) _ _ _;refine Ac (CM hc rfl ?_);show Ar _ X.A.in1 (tryCatch (pyNext (.ref it)) _ >>= _) _ _ _;refine Ac (CN (W.item (j+1) _ _ _ (by rw[An,hlen];exact hlt) ⟨M.iter,pl.isList⟩ λv h1 tk1 hP hst1 hk1=>?_));have hv:its[j+1]?=some v:=by simpa using hP
  obtain⟨x,hx⟩:∃x,xs[j+1]?=some x:=⟨_,Aa hlt⟩;obtain⟨v',hv',rx⟩:=rv.get hx;rw[hv]at hv'
  cases hv'
  have M1:MK X pins σ H { s with heap:=h1,toks:=tk1 } it st l (j+1+1) vb (.ref b):=⟨M.inv.moved (t':=tk1) M.fi hk1,M.fi,M.fs,M.ne,hst1.1,c,hk1 st _ (by simpa using M.ne) hc⟩;show Ar _ X.A.in1 (tryCatch (C1 [v] (call (.ref f) [v])) _ >>= _) _ _ _;refine Ac (CN (A7 (BG (zka F hr hb M1 rx (turn (j+1) x H hx hS) (E:=λ_ _=>False)) (λkv s2 he=>?_) λ_ _ hF=>hF.elim)));obtain⟨y,H2,ry,⟨hS2,a2,ey,ka2⟩,M2⟩:=he;subst ey
  cases (show kv=AB a2 from ry)
  have hS3:=hS.trans hS2;have kb2:SqT X.K H2 b ((κ i).map V.int):=hS2.seqT kb';show Ar _ X.A.in1 (tryCatch (C1 [v,.ref a2] (richCompare .Lt (.ref a2) (.ref b) >>= _)) _ >>= _) _ _ _;refine Ac (CN (A7 (Ac (zlF hr.un1 M2.inv ka2 kb2 ?_))));refine Ac (A7 (Bw ?_));refine Ac (wpAny_letGo (Al ?_));obtain⟨c2,hc2⟩:=M2.hold
  by_cases hbt:HT.lexLt (κ (j+1)) (κ i)=true
  .simp only[hbt,if_true];refine Ac ?_
   refine Cc hc2 rfl (Ac (wpAny_letGo ?_));rw[nm];exact Al ⟨CD BA _,ih (j+1) (j+1) H2 _ v _ a2 (by lia) hlt hS3 M2.set hx rx ka2 (Ah _) (best.take hbt (by lia))⟩
  .have hbf:HT.lexLt (κ (j+1)) (κ i)=false:=by simpa using hbt
   simp only[hbf,BH,if_false];refine Ac (wpAny_letGo ?_);rw[nm];exact Al ⟨CD BA _,ih (j+1) i H2 _ vb _ b (by lia) hlt hS3 M2 hxb rb kb2 (by lia) (best.next hbf (by lia))⟩
end
section
variable {X:Cx}{k:Nat}{f:Addr}{fd:Bs}{ps:List Str}{sp:Sp}{pins:List (Addr×Obj)}{σ:St}{H0:Hp}{Q:VK}{l it st:Addr}{xs:List V}{κ:Nat->List Int}
structure MK0 (X:Cx) (pins:List (Addr×Obj)) (σ:St) (H:Hp) (s:Ae) (it st l:Addr) (j:Nat):Prop where
 inv:Inv X pins σ H s
 fi:FpOk X pins H it
 fs:FpOk X pins H st
 ne:st≠it
 iter:s.heap.IsListIter it l j
 hold:∃c,s.heap.get? st=some (Bp "list" #[] c)
theorem zi0{H:Hp}{s:Ae}{Q1:VK}{u:Ad}{x:V}{E:Ad -> Ae -> Prop}{j:Nat}(F:FnOk X.prog X.w X.K X.mg X.base CX0 k f fd ps sp)(hr:Room (k + 1) X.A)(hb:Binds X.K fd ps [])
    (M:MK0 X pins σ H s it st l j) (r:RelV x u) (h:sp [x] H Q1 E0):Ar (Av X.prog X.w) X.A.in1 (call (.ref f) [u]) (λv s'=>∃y H',RelV y v/\Q1 y H'/\MK0 X pins σ H' s' it st l j) E s:=by
  obtain⟨c,hc⟩:=M.hold;obtain⟨oi,hoi,ci,di⟩:=id M.iter
  have I1:Inv X (pins ++ zdC [it, st] s.heap) σ H s := M.inv.pinned (λb hb => by
      rcases At.mp hb with rfl |hb
      . exact M.fi
      . rw[AN.mp hb];exact M.fs) (λb hb=>by
      rcases At.mp hb with rfl |hb
      . exact zd9 M.iter
      . rw[AN.mp hb];exact⟨_,hc,zcK⟩)
  refine BG (ziZ F hr hb I1 (.cons r .nil) h) (λv s' hv=>?_) λ_ _ e=>e
  obtain⟨y,H',I2,ry,q⟩:=hv;have p1:=I2.pin (it,oi) (AA _ (AA _ (za0 (by simp) hoi)));have p2:=I2.pin (st,Bp "list" #[] c) (AA _ (AA _ (za0 (by simp) hc)));exact⟨y,H',ry,q,I2.unpinned,M.fi.again p1.2.1,M.fs.again p2.2.1,M.ne,⟨oi,p1.1,ci,di⟩,c,p2.1⟩
theorem MK0.set{H:Hp}{s:Ae}{j:Nat}{v kv:Ad}(M:MK0 X pins σ H s it st l j):MK X pins σ H { s with heap:=s.heap.update st (AH λ_=>#[v,kv]) } it st l j v kv:=by obtain⟨c,hc⟩:=M.hold;have sb:=BL s.heap st (AH λ_=>#[v,kv]);obtain⟨oi,hoi,ci,di⟩:=id M.iter;exact⟨M.inv.moved (t':=s.toks) M.fs (λb o hb e=>(sb.2 b λz=>hb (by simp[z])).trans e),M.fi,M.fs,M.ne,⟨oi,(sb.2 it M.ne.symm).trans hoi,ci,di⟩,_,C6 hc λ_=>#[v,kv]⟩
theorem zjO{s:Ae}(hh:X.A.handled=none)(F:FnOk X.prog X.w X.K X.mg X.base CX0 k f fd ps sp)(hr:Room (k + 1) X.A)(hb:Binds X.K fd ps [])
  (turn:∀i x H,xs[i]?=some x->Same H0 H->sp [x] H (λv H'=>Same H H'/\∃a,v=.ref a/\SqT X.K H' a ((κ i).map V.int)) E0)
  (hl:SqL X.K H0 l xs) (hne:0<xs.length) (hQ:∀i x H',xs[i]?=some x->Least κ xs.length i->Same H0 H'->Q x H') (I:Inv X pins σ H0 s) :
  Ar (Av X.prog X.w) X.A (call (.builtin "min") [.ref l] [(AR "key",.ref f)]) (EP X pins σ Q) X.xe s:=by
 have nm:(toString "min" ++ toString ".loop" : String) = "min.loop":=by decide
 obtain⟨its,rv,pl,hz⟩:=I.list hl;have hlen:its.length=xs.length:=rv.length.symm;have hll:l<s.heap.objs.size:=by obtain⟨o,ho,_⟩:=pl.isList;exact Ap ho
 refine kmk_tree PySem.F.kind_min PySem.F.plain_min PySem.F.entry_min (kmk_min_key _ _) ?_
 show Ar _ X.A.in1 (BW "min" ["key","default"] 0 ⟨[],[(AR "key",.ref f)]⟩ >>= _) _ _ s;refine Ac (wpAny_of_eq (show BW "min" ["key","default"] 0 ⟨[],[(AR "key",.ref f)]⟩=pure [some (.ref f),none] from rfl) ?_);refine Ac (Al ?_);refine Ac (wpAny_pyIter_list pl.isList ?_);refine Ac (wpAny_newList ?_ (AV _));rw[nm];refine Al ⟨CD BA _,?_⟩;have keep:∀b o,s.heap.get? b=some o->((s.heap.push { cls:=.type "list_iterator",data:=.fields #[.ref l,.int 0 0] }).push (Bp "list" #[] 0)).get? b=some o:=λb o e=>Ai _ (Ai _ e)
 have gi:((s.heap.push { cls:=.type "list_iterator",data:=.fields #[.ref l,.int 0 0] }).push (Bp "list" #[] 0)).get? s.heap.objs.size=some { cls:=.type "list_iterator",data:=.fields #[.ref l,.int 0 0] }:=Ai _ (AG _ rfl);have hsS:(s.heap.push { cls:=.type "list_iterator",data:=.fields #[.ref l,.int 0 0] }).objs.size=s.heap.objs.size+1:=size_push' ..;have gs:((s.heap.push { cls:=.type "list_iterator",data:=.fields #[.ref l,.int 0 0] }).push (Bp "list" #[] 0)).get? (s.heap.objs.size+1)=some (Bp "list" #[] 0):=by rw[<- hsS];exact AG _ rfl
 rw[hsS];have I1:Inv X pins σ H0 { s with heap:=(s.heap.push { cls:=.type "list_iterator",data:=.fields #[.ref l,.int 0 0] }).push (Bp "list" #[] 0) }:=I.kept (t':=s.toks) keep;have fi:FpOk X pins H0 s.heap.objs.size:=I.fpOk (Ah _) (I.hok.fresh (Ah _));have fs:FpOk X pins H0 (s.heap.objs.size+1):=I.fpOk (Cu _) (I.hok.fresh (Cu _));have M0:MK0 X pins σ H0 _ s.heap.objs.size (s.heap.objs.size+1) l 0:=⟨I1,fi,fs,Nat.ne_of_gt (Nat.lt_succ_self _),⟨_,gi,rfl,rfl⟩,⟨0,gs⟩⟩;have hli:l≠s.heap.objs.size:=AC hll;have W:=Walks.list (prog:=X.prog) (w:=X.w) (A:=X.A.in1) hh s.heap.objs.size l hli its.toArray;refine C7 PySem.F.entry_min_loop ?_
 rw[Cg BA _];show Ar _ X.A.in1 (seqItems? (.ref _) >>= _) _ _ _;refine Ac (CM gs rfl ?_);show Ar _ X.A.in1 (tryCatch (pyNext (.ref s.heap.objs.size)) _ >>= _) _ _ _;obtain⟨its2,rv2,pl2,_⟩:=I1.list hl;refine Ac (CN (W.item 0 _ _ _ (by rw[An,hlen];exact hne) ⟨M0.iter,pl.isList.at λo e=>keep _ _ e⟩ λv h1 tk1 hP hst1 hk1=>?_));have hv:its[0]?=some v:=by simpa using hP
 obtain⟨x,hx⟩:∃x,xs[0]?=some x:=⟨_,Aa hne⟩;obtain⟨v',hv',rx⟩:=rv.get hx;rw[hv]at hv'
 cases hv'
 have M1:MK0 X pins σ H0 { s with heap:=h1,toks:=tk1 } s.heap.objs.size (s.heap.objs.size+1) l 1:=⟨I1.moved (t':=tk1) fi hk1,fi,fs,M0.ne,hst1.1,0,hk1 _ _ (by simp) gs⟩;show Ar _ X.A.in1 (tryCatch (C1 [v] (call (.ref f) [v])) _ >>= _) _ _ _;refine Ac (CN (A7 (BG (zi0 F hr hb M1 rx (turn 0 x H0 hx (Same.refl _)) (E:=λ_ _=>False)) (λkv s2 he=>?_) λ_ _ hF=>hF.elim)));obtain⟨y,H2,ry,⟨hS2,a2,ey,ka2⟩,M2⟩:=he;subst ey
 cases (show kv=AB a2 from ry)
 obtain⟨c2,hc2⟩:=M2.hold;show Ar _ X.A.in1 (updateSeq (s.heap.objs.size+1) (λ_=>#[v,.ref a2]) >>= _) _ _ _;refine Ac ?_
 refine Cc hc2 rfl ?_
 rw[nm];refine Al ⟨CD BA _,?_⟩
 exact codeAny_mono (zjn hh F hr hb turn hl hli hQ _ 0 0 H2 _ v _ a2 rfl hne hS2 M2.set hx rx ka2 (Ah _) (λj hj=>by
  have e:j=0:=by lia
  subst e;exact⟨HT.lexLt_irrefl _,λz=>absurd z (Ch _)⟩)) λr s' hr'=>hr'
end
end L2
namespace RK
open PySem PySem.W PyProof.Rows
variable {n:Nat}{ans:Nat->Nat->Bool}
noncomputable def Leaf(n:Nat)(ans:Nat->Nat->Bool){α:Type}:KasT α->(α->Prop)->Prop
 |.ret a,G=>G a
 |.ask i j k,G=>i<n/\j<n/\Leaf n ans (k (ans i j)) G
theorem zcc{α β:Type}{g:α->KasT β}{G:β->Prop}:∀{t:KasT α},Leaf n ans t (λa=>Leaf n ans (g a) G)->Leaf n ans (t.bind g) G
 |.ret _,h=>h
 |.ask _ _ _,h=>⟨h.1,h.2.1,zcc h.2.2⟩
theorem zcb{α:Type}{G G':α->Prop}(hg:∀a,G a->G' a):∀{t:KasT α},Leaf n ans t G->Leaf n ans t G'
 |.ret _,h=>hg _ h
 |.ask _ _ _,h=>⟨h.1,h.2.1,zcb hg h.2.2⟩
theorem leaf_wp{α : Type}{cmp:Nat -> Nat -> (Bool -> Ae -> Prop) -> Ae -> Prop}{s:Ae}(hc:∀i j (C:Bool -> Ae -> Prop), i < n -> j < n -> C (ans i j) s -> cmp i j C s){G : α -> Prop}{Q : α -> Ae -> Prop}(hq:∀a, G a -> Q a s) :
  ∀{t:KasT α},Leaf n ans t G->t.kasWp cmp Q s
 |.ret _,h=>hq _ h
 |.ask i j _,h=>hc i j _ h.1 h.2.1 (leaf_wp hc hq h.2.2)
noncomputable def Pm(n:Nat)(p:Array Nat):Prop:=p.Perm (List.toArray (As n))
theorem Pm.lt{p:Array Nat}(h:Pm n p)(hn:0<n)(i:Nat):p.getD i 0<n:=by
 by_cases hi:i<p.size
 .have e:p.getD i 0=p[i]:=by simp[Array.getD,hi]
  rw[e];have hm:p[i]∈List.toArray (As n):=h.mem_iff.mp (Array.getElem_mem hi);simpa using hm
 .have e:p.getD i 0=0:=by simp[Array.getD,hi]
  rw[e];exact hn
theorem Pm.rev{p:Array Nat}(h:Pm n p)(i j:Nat):Pm n (kas_rev p i j):=(mirror_perm _ _ _ _).trans h
theorem Pm.bub{p:Array Nat}(h:Pm n p)(i j:Nat):Pm n (bubble p i j):=(bubble_perm _ _ _).trans h
theorem zft{p:Array Nat}(h:Pm n p)(hn:0<n):∀f m,Leaf n ans (kas_asc p f m) λ_=>True
 | 0,_=>trivial
 |f+1,m=>by
  refine⟨h.lt hn _,h.lt hn _,?_⟩;dsimp only;split
  .trivial
  .exact zft h hn f (m+1)
theorem zdg(hn:0<n):∀f (p:Array Nat) m q,Pm n p->Leaf n ans (kas_desc f p m q) λr=>Pm n r.1
 | 0,p,_,_,h=>h
 |f+1,p,m,q,h=>by
  refine⟨h.lt hn _,h.lt hn _,?_⟩;dsimp only;split
  .split
   .exact zdg hn f _ _ _ (h.rev _ _)
   .exact zdg hn f _ _ _ h
  .refine⟨h.lt hn _,h.lt hn _,?_⟩;dsimp only;split
   .exact h
   .exact zdg hn f _ _ _ h
theorem zeW(hn:0<n){p:Array Nat}(h:Pm n p)(m nrem:Nat):Leaf n ans (kas_tail3 m nrem p) λr=>Pm n r.2 :=
 zcc (zcb (λa _=>h.rev 0 m) (zft (h.rev 0 m) hn _ _))
theorem zdf(hn:0<n){p:Array Nat}(h:Pm n p)(m nrem:Nat):Leaf n ans (kas_descPart m nrem p) λr=>Pm n r.2:=by
 refine zcc (zcb (λr hr=>?_) (zdg hn _ _ _ _ h));split
 .exact zeW hn (hr.rev _ _) _ _
 .exact zeW hn hr _ _
theorem zih(hn:0<n){p:Array Nat}(h:Pm n p)(nrem:Nat):Leaf n ans (kas_count nrem p) λr=>Pm n r.2:=by
 refine zcc (zcb (λm _=>?_) (zft h hn _ _));split
 .exact h
 .split
  .refine⟨h.lt hn _,h.lt hn _,?_⟩;dsimp only;split
   .exact h
   .exact zdf hn (h.rev _ _) _ _
  .exact zdf hn h _ _
theorem zdx(hn:0<n){p:Array Nat}(h:Pm n p)(k:Nat):∀f l r,Leaf n ans (kas_place p k f l r) λ_=>True
 | 0,_,_=>trivial
 |f+1,l,r=>by
  unfold kas_place;split
  .trivial
  .refine⟨h.lt hn _,h.lt hn _,?_⟩;dsimp only;split
   .exact zdx hn h k f _ _
   .exact zdx hn h k f _ _
theorem zhD(hn:0<n):∀f (p:Array Nat) k,Pm n p->Leaf n ans (kas_bin f p k) λq=>Pm n q
 | 0,p,_,h=>h
 |f+1,p,k,h=>zcc (zcb (λl _=>zhD hn f _ _ (h.bub _ _)) (zdx hn h k _ _ _))
theorem leaf_sort(hn:0<n):Leaf n ans (kas_sort n) λp=>Pm n p:=by
 refine zcc (zcb (λr hr=>?_) (zih hn (Array.Perm.refl _) n));split
 .exact zhD hn _ _ _ hr
 .exact hr
inductive Col:Ad->Ad->Int->Int->Prop where
 |int (a:Int) (t:Tok) (b:Int) (u:Tok):Col (.int a t) (.int b u) a b
 |bl (p q:Bool):Col (.bool p) (.bool q) (b2i p) (b2i q)
inductive Cols:List Ad->List Ad->List Int->List Int->Prop where
 |nil:Cols [] [] [] []
 |cons {u v:Ad} {us vs:List Ad} {a b:Int} {as bs:List Int}:Col u v a b->Cols us vs as bs->Cols (u::us) (v::vs) (a::as) (b::bs)
section
variable {prog:AK}{w:A1}{A:AQ}{s:Ae}{Q:Bool->Ae->Prop}
theorem zkY{u v:Ad}{a b:Int}(c:Col u v a b){E:Ad->Ae->Prop}(h:Q (decide (a=b)) s):Ar (Av prog w) A (eqBool u v) Q E s:=by
 cases c with
 |int _ t _ u =>
  refine wpAny_eqBool_int ?_
  rw[show (a == b)=decide (a=b) from by rw[Bool.beq_eq_decide_eq]];exact h
 |bl p q =>
  refine SeqAt.EqAt.bool_bool p q prog w E Q ?_
  have e:(p == q)=decide (b2i p=b2i q):=by cases p <;> cases q <;> decide
  rw[e];exact h
theorem zmq{u v:Ad}{a b:Int}(c:Col u v a b){E:Ad->Ae->Prop}(h:Q (decide (a<b)) s):Ar (Av prog w) A (oneLt' false u v) Q E s:=by
 cases c with
 |int _ t _ u=>exact kat_one _ _ (lt_int (show W.BoolBack Q (.bool (decide (a<b))) s from h))
 |bl p q=>exact kat_one _ _ (lt_bool (show W.BoolBack Q (.bool (decide (b2i p<b2i q))) s from h))
theorem zhE{bb:Bool}:∀{us vs:List Ad}{as bs:List Int}(i:Nat),Cols us vs as bs->Q (HT.lexLt as bs) s->KatLex prog w A bb false Q (us.zip vs) (i+1) s
 |_,_,_,_,_,.nil,h=>kat_nil h
 |_,_,_,_,i,.cons (a:=a) (b:=b) (as:=as) (bs:=bs) c r,h=>by
  rw[HT.lexLt_cons]at h;refine kat_cons (zkY c ?_)
  by_cases e:a=b
  .rw[decide_eq_true e];rw[if_pos e]at h;exact kat_yes (zhE (i+1) r h)
  .rw[decide_eq_false e];rw[if_neg e]at h;refine kat_no ?_
   rw[show (bb && (i+1 == 0))=false by simp];exact zmq c h
theorem kat_cols0{us vs:List Ad}{as bs:List Int}{a b:Int}{t u:Tok}(r:Cols us vs as bs)(h:Q (HT.lexLt (a::as) (b::bs)) s):KatLex prog w A true false Q ((Value.int a t::us).zip (Value.int b u::vs)) 0 s:=by
 rw[HT.lexLt_cons]at h;refine kat_cons (zkY (.int a t b u) ?_)
 by_cases e:a=b
 .rw[decide_eq_true e];rw[if_pos e]at h;exact kat_yes (zhE 0 r h)
 .rw[decide_eq_false e];rw[if_neg e]at h;exact kat_no (oneLt_int h)
end
end RK
namespace L2
open PySem PySem.Spec PyProof.Rows
section
variable {X:Cx}{k:Nat}{f:Addr}{fd:Bs}{ps:List Str}{sp:Sp}{pins:List (Addr×Obj)}{σ:St}{H0:Hp}{Q:VK}
theorem Inv.adopt{H:Hp}{s:Ae}{D:Addr}{o:HO}{h':Heap}{t':Nat}(I:Inv X pins σ H s)(fb:FpOk X pins H D)(hk:∀b u, b ≠ D -> s.heap.get? b=some u -> h'.get? b=some u)(heo:∃u, h'.get? D=some u)
  (new:ObjOk X.prog X.w (upd H D o) h' D o):Inv X pins σ (upd H D o) { s with heap:=h',toks:=t' }:=by
 have hn:=fb.1;have nit:∀b u,H b=some u->b≠D:=λb u e z=>by rw[z,hn]at e;cases e
 refine I.step (g':=s.gens) (d':=s.drawn) (ch:=[D]) (λb hb=>?_) (λb u _ _ hc e _=>hk b u (λz=>hc (by simp[z])) e) (λb u _ _ hc e _=>⟨u.slots,hk b u (λz=>hc (by simp[z])) e⟩)
  (λb u hc _ n=>by rw[zam (λz=>hc (by simp[z]))];exact n)
  (λb u hc e=>⟨u,hk b u (λz=>hc (by simp[z])) e⟩) (λb xs e=>by rw[zam (nit _ _ e)];exact e) (λb u xs e=>by rw[zam (nit _ _ e)];exact e) (λb ps e=>⟨#[],by rw[zam (nit _ _ e),e];simp⟩) (λm hm=>?_) (λb u e=>?_) I.bare
 .have e:b=D:=by simpa using hb
  subst e;exact⟨fb.2.2.2.1,fb.2.1,fb.2.2.2.2.1,fb.2.2.2.2.2⟩
 .obtain⟨u,es,ep,ho,r⟩:=hm;exact⟨u,es,ep,hk _ u (By fb.2.1) ho,r⟩
 .by_cases hb:b=D
  .subst hb;rw[zaa]at e;cases e;exact new
  .rw[zam hb]at e;refine (I.hok b u e).stay (λc v hc q=>hk c v ?_ q) (λc q=>by rw[zam (nit _ _ q)];exact q) λc xs q=>by rw[zam (nit _ _ q)];exact q
   rcases hc with z |z
   .rw[z];exact nit b u e
   .exact nit c _ z
theorem zlg{H:Hp}{s:Ae}{Q:VK}{us:List Ad}{vs:List V}{E:Ad -> Ae -> Prop}(F:FnOk X.prog X.w X.K X.mg X.base CX0 k f fd ps sp)(hr:Room (k + 1 + 1) X.A)(hb:Binds X.K fd ps [])
  (I:Inv X pins σ H s) (r:Vals vs us) (h:sp vs H Q E0):Ar (Av X.prog X.w) X.A.in1.in1 (call (.ref f) us) (EP X pins σ Q) E s:=by
 have hl:(us++[]).length=ps.length:=by rw[Bt,<- r.length];exact F.len _ _ _ _ h
 have hb':=hb s us I.kIn hl;rw[Bt]at hb';refine wpAny_call (codeAny_mono (F.run X.A.in1.in1 X.stack s H ⟨us,[]⟩ us vs Q E0 hr.in1.in1 I.env0.in1.in1 hb' r h) λr s' hq=>?_)
 cases r with
 |error e=>exact Bz hq
 |ok fl =>
  cases fl with
  |ret u=>exact I.after hq
  |next=>exact Bz hq
  |brk=>exact Bz hq
  |cont=>exact Bz hq
noncomputable def zhV(X:Cx)(σ:St)(H0:Hp)(f:Addr)(xs:List V)(κV:Nat->List V):Prop:=∀(pins:List (Addr×Obj)) (i:Nat) (x:V) (u:Ad) (H:Hp) (s:Ae),xs[i]?=some x->Same H0 H->Inv X pins σ H s->RelV x u ->
 Ar (Av X.prog X.w) X.A.in1.in1 (call (.ref f) [u]) (EP X pins σ λv H'=>Same H H'/\∃a,v=.ref a/\SqT X.K H' a (κV i)) (λ_ _=>False) s
theorem zmo{xs:List V}{κV:Nat -> List V}(F:FnOk X.prog X.w X.K X.mg X.base CX0 k f fd ps sp)(hr:Room (k + 1 + 1) X.A)(hb:Binds X.K fd ps [])
  (turn:∀i x H,xs[i]?=some x->Same H0 H->sp [x] H (λv H'=>Same H H'/\∃a,v=.ref a/\SqT X.K H' a (κV i)) E0):zhV X σ H0 f xs κV :=
 λ_ i x _ H _ hx hS I ru=>zlg F hr hb I (.cons ru .nil) (turn i x H hx hS)
inductive VCol:V->V->Int->Int->Prop where
 |int (a b:Int):VCol (.int a) (.int b) a b
 |bl (p q:Bool):VCol (.bl p) (.bl q) (b2i p) (b2i q)
inductive VCols:List V->List V->List Int->List Int->Prop where
 |nil:VCols [] [] [] []
 |cons {x y:V} {xs ys:List V} {a b:Int} {as bs:List Int}:VCol x y a b->VCols xs ys as bs->VCols (x::xs) (y::ys) (a::as) (b::bs)
theorem VCols.vals:∀{xs ys:List V}{as bs:List Int}{us vs:List Ad},VCols xs ys as bs->Vals xs us->Vals ys vs->RK.Cols us vs as bs
  |_,_,_,_,_,_,.nil,.nil,.nil=>.nil
  |_, _, _, _, _, _, .cons c r, .cons h t, .cons g q => .cons (by
      cases c with
      |int a b=>obtain⟨t,rfl⟩:=h;obtain⟨u,rfl⟩:=g;exact .int _ _ _ _
      |bl p q=>cases h;cases g;exact .bl _ _) (r.vals t q)
structure SK (X:Cx) (pins:List (Addr×Obj)) (σ:St) (H:Hp) (s:Ae) (D st:Addr) (e:Nat) (κV:Nat->List V) (ks:List Addr):Prop where
 inv:Inv X pins σ H s
 fd:FpOk X pins H D
 fs:FpOk X pins H st
 ne:st≠D
 hd:s.heap.get? D=some (Bp "list" #[] e)
 hs:∃c,s.heap.get? st=some (Bp "list" (ks.map AB).toArray c)
 hk:∀i a,ks[i]?=some a->SqT X.K H a (κV i)
theorem zhH{M:Model}{A:AQ}{E:Ad -> Ae -> Prop}{body:Ad -> PUnit -> Sem (ForInStep PUnit)}{vs:List Ad}(P:Nat -> Ae -> Prop)
  (hb:∀i x s,vs[i]?=some x->P i s->Ar M A (body x ⟨⟩) (λr s'=>r=.yield ⟨⟩/\P (i+1) s') E s):∀(r:List Ad) (i:Nat) (s:Ae),vs.drop i=r->i<=vs.length->P i s ->
   Ar M A (forIn r PUnit.unit body) (λ_ s'=>P vs.length s') E s
 |[],i,s,hr,hi,h=>by
  rw[List.forIn_nil];have:vs.length<=i:=List.drop_eq_nil_iff.mp hr;exact Al (by rw[show vs.length=i by lia];exact h)
 |x::r,i,s,hr,hi,h=>by
  have hx:vs[i]?=some x:=by have:=congrArg (·[0]?) hr;simpa using this
  have hlt:i<vs.length:=(Ab.mp hx).1;have hr':vs.drop (i+1)=r:=by rw[<- List.tail_drop,hr];rfl
  rw[C4];refine Ac (BG (hb i x s hx h) (λq s' hq=>?_) λ_ _ e=>e);obtain⟨rfl,h'⟩:=hq;exact zhH P hb r (i+1) s' hr' hlt h'
end
section
variable {X:Cx}{pins:List (Addr×Obj)}{σ:St}{H:Hp}{s:Ae}{D st:Addr}{e:Nat}{κV:Nat->List V}{ks:List Addr}{E:Ad->Ae->Prop}
noncomputable def zhW(X:Cx)(G:Array Nat->Prop)(ks vs:List Ad)(E:Ad->Ae->Prop)(s:Ae):Prop :=
 Ar (Av X.prog X.w) X.A.in1.in1 (keyKind' ks.toArray) (λκ s0=>s0=s /\
  Ar (Av X.prog X.w) X.A.in1.in1 ((sortRuns').run (SortSt.mk' κ (ks.toArray.zip vs.toArray) #[] 7 none)) (λr s'=>s'=s/\failedOf r.2=none/\∃p:Array Nat,G p/\p.size=vs.length/\arrOf r.2=p.map (W.kas_item (ks.toArray.zip vs.toArray))) E s) E s
theorem zjw{as:List Addr}(I:Inv X pins σ H s):∀{ks:List Addr}{vs:List (List V)}{ns:List Int}, (∀(i:Nat) (a:Addr), ks[i]? = some a -> ∃n r, ns[i]? = some n /\ SqT X.K H a (.int n :: r)) -> ns.length=ks.length ->
  ∃fs:List Ad,W.KatTups s.heap (ks.map AB) fs/\fs.length=ks.length/\∀v∈fs,∃n t,v=Value.int n t
 |[],_,_,_,_=>⟨[],.nil,rfl,λ_ h=>nomatch h⟩
 |a::r,vs,[],_,h=>by cases h
 |a::r,vs,n::ns,hk,h=>by
  obtain⟨m,q,e1,hq⟩:=hk 0 a rfl;obtain⟨fs,t,hl,hi⟩:=zjw (as:=as) (vs:=vs) I (ks:=r) (ns:=ns) (λi b hb=>by simpa using hk (i+1) b (by simpa using hb)) (by simpa using h);obtain⟨its,rv,⟨o,ho,hc,c,hd⟩,_⟩:=I.tuple hq
  cases rv with
  |cons rx rr =>
   obtain⟨t1,rfl⟩:=rx;refine⟨Value.int m t1::fs,.cons ho hc hd (by simp) t,by simp[hl],λv hv=>?_⟩;rcases At.mp hv with rfl |hv
   .exact⟨_,_,rfl⟩
   .exact hi v hv
theorem zmp{vs:List Ad}{κ : Nat -> List Int}(K:SK X pins σ H s D st e κV ks)(hl:ks.length=vs.length)(h2 : 2 <= vs.length)(h64:vs.length < 64)
  (hcol:∀i j,i<ks.length->j<ks.length->∃n m r q rn rm,κV i=.int n::r/\κV j=.int m::q/\VCols r q rn rm/\κ i=n::rn/\κ j=m::rm) :
  zhW X (RK.Pm vs.length) (ks.map AB) vs E s:=by
 unfold zhW
 obtain⟨fs,kt,hfl,hfi⟩:=zjw (as:=[]) (vs:=[]) K.inv (ks:=ks) (ns:=(As ks.length).map λi=>((κ i).headD 0)) (λi a ha=>by
  have hi:i<ks.length:=(Ab.mp ha).1;obtain⟨n,m,r,q,rn,rm,e1,_,_,e2,_⟩:=hcol i i hi hi;refine⟨n,r,?_,?_⟩
  .rw[Az,BB hi,C3,e2];rfl
  .rw[<- e1];exact K.hk i a ha) (by simp)
 refine W.kat_kind (T:=.type "int") kt (by lia) (λv hv=>?_) rfl ⟨rfl,?_⟩
 .obtain⟨n,t,rfl⟩:=hfi v hv;exact .now
 have hl':(ks.map AB).length=vs.length:=by simp[hl]
 refine W.kat_run (G:=λp s'=>s'=s/\RK.Pm vs.length p) (Q:=λst' s'=>s'=s/\failedOf st'=none/\∃p:Array Nat,RK.Pm vs.length p/\p.size=vs.length/\arrOf st'=p.map (W.kas_item ((ks.map AB).toArray.zip vs.toArray))) hl' h2 h64
  (λp st' s' hp ha hf g=>⟨g.1,hf,p,g.2,hp,ha⟩) ?_
 refine RK.leaf_wp (n:=vs.length) (ans:=λi j=>HT.lexLt (κ i) (κ j)) (G:=RK.Pm vs.length) (λi j C hi hj hc=>?_) (λa ha=>⟨rfl,ha⟩) (RK.leaf_sort (by lia));unfold W.kas_ask;obtain⟨n,m,r,q,rn,rm,e1,e2,vc,e3,e4⟩:=hcol i j (by lia) (by lia);have hi':i<ks.length:=by lia
 have hj':j<ks.length:=by lia
 have k1:=K.hk i ks[i] (by simp[hi']);have k2:=K.hk j ks[j] (by simp[hj']);rw[e1]at k1;rw[e2]at k2;rw[show (ks.map AB).getD i CK=AB ks[i] by simp[hi'],show (ks.map AB).getD j CK=AB ks[j] by simp[hj']];obtain⟨its,rv,⟨o,ho,hcl,c,hd⟩,_⟩:=K.inv.tuple k1;obtain⟨its2,rv2,⟨o2,ho2,hcl2,c2,hd2⟩,_⟩:=K.inv.tuple k2;refine W.kat_lt ho hd ho2 hd2 ?_
 cases rv with
 |cons rx rr =>
  cases rv2 with
  |cons rx2 rr2 =>
   obtain⟨t1,rfl⟩:=rx;obtain⟨t2,rfl⟩:=rx2;have cs:=vc.vals rr rr2
   have hlen:∀{us vs:List Ad} {as bs:List Int},RK.Cols us vs as bs->us.length=vs.length:=λc=>by induction c with
    |nil=>rfl
    |cons _ _ ih=>simp[ih]
   simp only[An,AO,hlen cs,Ch,decide_false];refine RK.kat_cols0 cs ?_
   rw[e3,e4]at hc;exact hc
end
section
variable {X:Cx}{k:Nat}{f:Addr}{fd:Bs}{ps:List Str}{sp:Sp}{pins:List (Addr×Obj)}{σ:St}{H0 H:Hp}{s:Ae}{D st l:Addr}{e:Nat}{κV:Nat->List V}{ks:List Addr}{E:Ad->Ae->Prop}{G:Array Nat->Prop}{xs:List V}{vs:List Ad}{Q:VK}
noncomputable def outV(xs:List V)(p:Array Nat):List V:=p.toList.map λi=>xs.getD i .non
theorem ziv{xs:List V}{vs:List Ad}(r:Vals xs vs)(i:Nat)(hi:i<xs.length):RelV (xs.getD i .non) (vs.getD i CK):=by
 have hx:xs[i]?=some xs[i]:=by simp[hi]
 obtain⟨u,hu,ru⟩:=r.get hx;rw[Ak,hx,Ak,hu];exact ru
theorem zg6{xs:List V}{vs:List Ad}(r:Vals xs vs):∀(l:List Nat),(∀i∈l,i<xs.length)->Vals (l.map λi=>xs.getD i .non) (l.map λi=>vs.getD i CK)
 |[],_=>.nil
 |i::t,h=>.cons (ziv r i (h i Ay)) (zg6 r t λj hj=>h j (Ao _ hj))
theorem zgH{p:Array Nat}:(outV xs p).length=p.size:=by unfold outV;simp
theorem zld{P:PySem.Fin -> Ae -> Prop}{so:SortSt}{out:List Ad}{ys:List V}(K:SK X pins σ H s D st e κV ks)(hks:ks.length <= sizeLine)(ho:(arrOf so).map (·.2)=out.toArray)(ry:Vals ys out)(hz:ys.length <= sizeLine)(hf:failedOf so=none)
  (h:∀s',Inv X pins σ (upd H D (.lst ys)) s'->P (.done (.ret .none)) s'):Ar (Av X.prog X.w) X.A.in1.in1 (ksk_tail D false e (.ref st) so) P E s:=by
 obtain⟨c,hc⟩:=K.hs;have hzo:out.length<=sizeLine:=by rw[<- ry.length];exact hz
 have s1:=BL s.heap st (AH λ_=>(#[]:Array Ad));have hd1:(s.heap.update st (AH λ_=>(#[]:Array Ad))).get? D=some (Bp "list" #[] e):=(s1.2 D K.ne.symm).trans K.hd;have s2:=BL (s.heap.update st (AH λ_=>(#[]:Array Ad))) D (AH λ_=>out.toArray);obtain⟨c2,hc2⟩:∃c2,((s.heap.update st (AH λ_=>(#[]:Array Ad))).update D (AH λ_=>out.toArray)).get? D=some (Bp "list" out.toArray c2):=⟨_,C6 hd1 λ_=>out.toArray⟩;unfold ksk_tail
 try dsimp only
 rw[ho];refine Ac (listUpdate_at hc rfl ?_ (by simpa using hks) (AV _));refine Ac (wpAny_letGo ?_);refine Ac (seqEpoch_at hd1 rfl ?_);simp only[BH,if_false];refine Ac (listUpdate_at hd1 rfl ?_ (AV _) (by simp;lia));rw[hf];simp only[bne_self_eq_false,BH,if_false];refine Al (h _ ?_);have I1:Inv X pins σ H { s with heap:=s.heap.update st (AH λ_=>(#[]:Array Ad)) }:=K.inv.moved (t':=s.toks) K.fs (λb o hb e=>(s1.2 b λz=>hb (by simp[z])).trans e);exact I1.adopt (t':=s.toks) K.fd (λb u hb q=>(s2.2 b hb).trans q) ⟨_,hc2⟩ ⟨hz,out,c2,ry,hc2⟩
theorem zl6{P:PySem.Fin -> Ae -> Prop}(K:SK X pins σ H s D st e κV ks)(hl:ks.length=vs.length)(r:Vals xs vs)(hz:xs.length <= sizeLine)(hG:∀p, G p -> ∀i ∈ p.toList, i < xs.length)
  (h0:vs.length<2->G (List.toArray (As vs.length))) (core:2<=vs.length->zhW X G (ks.map AB) vs E s)
  (h:∀p s',G p->p.size=xs.length->Inv X pins σ (upd H D (.lst (outV xs p))) s'->P (.done (.ret .none)) s'):Ar (Av X.prog X.w) X.A.in1.in1 (ksk_end D false vs.toArray e (.ref st) (ks.map AB).toArray) P E s:=by
 have hlx:xs.length=vs.length:=r.length;have hl':(ks.map AB).length=vs.length:=by simp[hl]
 have fin:∀(p:Array Nat) (so:SortSt),G p->p.size=vs.length->arrOf so=p.map (W.kas_item ((ks.map AB).toArray.zip vs.toArray))->failedOf so=none->Ar (Av X.prog X.w) X.A.in1.in1 (ksk_tail D false e (.ref st) so) P E s:=λp so g hp ha hf =>
  zld K (by lia) (W.kat_snds hl' ha) (ys:=outV xs p) (zg6 r _ (hG p g)) (by rw[zgH];lia) hf λs' I'=>h p s' g (by lia) I'
 unfold ksk_end
 try dsimp only
 simp only[BH,if_false]
 by_cases h2:vs.length<2
 .have h2':vs.toArray.size<2:=by simpa using h2
  rw[if_pos h2',if_pos h2'];refine Ac (Al ?_);show Ar (Av X.prog X.w) X.A.in1.in1 (pure ((),SortSt.mk' general' ((ks.map AB).toArray.zip vs.toArray) #[] 7 none) >>= _) P E s;refine Ac (Al ?_)
  try dsimp only
  refine fin (List.toArray (As vs.length)) _ (h0 h2) (by simp) ?_ rfl;have:=W.kas_range ((ks.map AB).toArray.zip vs.toArray);rw[show ((ks.map AB).toArray.zip vs.toArray).size=vs.length by simp[hl]]at this;exact this.symm
 .have h2':¬ vs.toArray.size<2:=by simpa using h2
  rw[if_neg h2',if_neg h2'];refine Ac (BG (core (by lia)) (λκ s0 hk=>?_) λ_ _ z=>z);obtain⟨rfl,hk⟩:=hk;refine Ac (BG hk (λr' s' hr=>?_) λ_ _ z=>z);obtain⟨rfl,hf,p,g,hp,ha⟩:=hr;obtain⟨⟨⟩,so⟩:=r'
  try dsimp only
  exact fin p so g hp ha hf
theorem zle{P:PySem.Fin -> Ae -> Prop}(F:zhV X σ H0 f xs κV)
    (K:SK X pins σ H0 s D st e κV []) (r:Vals xs vs) (hz:xs.length<=sizeLine)
    (h:∀H' s' ks,ks.length=vs.length->Same H0 H'->SK X pins σ H' s' D st e κV ks->Ar (Av X.prog X.w) X.A.in1.in1 (ksk_end D false vs.toArray e (.ref st) (ks.map AB).toArray) P E s') :
    Ar (Av X.prog X.w) X.A.in1.in1 (ksk_rest D (.ref f) false vs.toArray e (.ref st)) P E s:=by
  have hlx:xs.length=vs.length:=r.length;unfold ksk_rest;refine Ac (wpAny_rule ?_);rw[List.forIn_toArray];refine Ac (BG (zhH (vs:=vs) (λi s'=>∃H' ks,ks.length=i/\Same H0 H'/\SK X pins σ H' s' D st e κV ks) (λi x s1 hx hP=>?_) vs 0 s rfl (AV _) ⟨H0,[],rfl,Same.refl _,K⟩) (λ_ s' hd=>?_) λ_ _ z=>z)
  . obtain⟨H1,ks,hkl,hS,K1⟩:=hP;have hi:i<xs.length:=by rw[hlx];exact (Ab.mp hx).1
    have hxx:xs[i]?=some xs[i]:=by simp[hi]
    obtain⟨u,hu,ru⟩:=r.get hxx;rw[hx]at hu
    cases hu
    obtain⟨c,hc⟩:=K1.hs
    have I1:Inv X (pins ++ zdC [D, st] s1.heap) σ H1 s1 := K1.inv.pinned (λb hb => by
        rcases At.mp hb with rfl |hb
        . exact K1.fd
        . rw[AN.mp hb];exact K1.fs) (λb hb=>by
        rcases At.mp hb with rfl |hb
        . exact⟨_,K1.hd,zcK⟩
        . rw[AN.mp hb];exact⟨_,hc,zcK⟩)
    refine Ac (wpAny_attempt (BG (F _ i _ _ H1 _ hxx hS I1 ru) (λv s2 hv=>?_) λ_ _ hF=>hF.elim));obtain⟨y,H2,I2,ry,hS2,a,ey,ka⟩:=hv;subst ey
    cases (show v=AB a from ry)
    have p1:=I2.pin (D,Bp "list" #[] e) (AA _ (AA _ (za0 (by simp) K1.hd)));have p2:=I2.pin (st,Bp "list" (ks.map AB).toArray c) (AA _ (AA _ (za0 (by simp) hc)));have sb:=BL s2.heap st (AH (·.push (AB a)));have ea:(ks.map AB).toArray.push (AB a)=((ks++[a]).map AB).toArray:=by simp
    obtain⟨c2,hc2⟩:∃c2,(s2.heap.update st (AH (·.push (AB a)))).get? st=some (Bp "list" ((ks++[a]).map AB).toArray c2):=⟨_,by rw[<- ea];exact C6 p2.1 (·.push (AB a))⟩
    try dsimp only
    refine Ac (listUpdate_at p2.1 rfl ?_ (by simp;lia) (by simp;lia));refine Al ⟨rfl,H2,ks++[a],by simp[hkl],hS.trans hS2,I2.unpinned.moved (t':=s2.toks) (K1.fs.again p2.2.1) (λb o hb e=>(sb.2 b λz=>hb (by simp[z])).trans e),K1.fd.again p1.2.1,K1.fs.again p2.2.1,K1.ne,(sb.2 D K1.ne.symm).trans p1.1,⟨c2,hc2⟩,λj b hj=>?_⟩;rcases A3 j ks.length with hjl |hjl
    . rw[Am hjl]at hj;exact hS2.seqT (K1.hk j b hj)
    . rw[Au hjl]at hj
      have hj0:j-ks.length=0:=by have:=(Ab.mp hj).1;simp at this;lia
      rw[hj0]at hj
      cases A2 hj
      rw[show j=i by lia];exact ka
  . obtain⟨H',ks,hkl,hS,K'⟩:=hd;obtain⟨c,hc⟩:=K'.hs
    try dsimp only
    refine Ac (listItems_at hc rfl ?_);exact h H' s' ks hkl hS K'
theorem zlc{P:PySem.Fin -> Ae -> Prop}{c0:Nat}(F:zhV X σ H0 f xs κV)
  (I:Inv X pins σ H0 s) (fb:FpOk X pins H0 D) (hd:s.heap.get? D=some (Bp "list" vs.toArray c0)) (r:Vals xs vs) (hz:xs.length<=sizeLine)
  (h:∀e H' s' ks st,ks.length=vs.length->Same H0 H'->SK X pins σ H' s' D st e κV ks->Ar (Av X.prog X.w) X.A.in1.in1 (ksk_end D false vs.toArray e (.ref st) (ks.map AB).toArray) P E s') :
  Ar (Av X.prog X.w) X.A.in1.in1 (ksk_tree D (.ref f) false) P E s:=by
 have hlx:xs.length=vs.length:=r.length;have s1:=BL s.heap D (AH λ_=>(#[]:Array Ad));obtain⟨e1,ho1⟩:∃e1,(s.heap.update D (AH λ_=>(#[]:Array Ad))).get? D=some (Bp "list" #[] e1):=⟨_,C6 hd λ_=>#[]⟩;have hDl:D<s.heap.objs.size:=Ap hd;unfold ksk_tree;refine Ac (listItems_at hd rfl ?_);refine Ac (listUpdate_at hd rfl ?_ (by simp;lia) (AV _));refine Ac (seqEpoch_at ho1 rfl ?_);refine Ac (wpAny_newTuple ?_ (by simp;lia));refine Ac (wpAny_newList ?_ (AV _));refine A7 ?_
 have I1:Inv X pins σ H0 { s with heap:=s.heap.update D (AH λ_=>(#[]:Array Ad)) }:=I.moved (t':=s.toks) fb (λb o hb e=>(s1.2 b λz=>hb (by simp[z])).trans e);have keep:∀b o,(s.heap.update D (AH λ_=>(#[]:Array Ad))).get? b=some o->(((s.heap.update D (AH λ_=>(#[]:Array Ad))).push (Bp "tuple" vs.toArray.toList.toArray 0)).push (Bp "list" #[] 0)).get? b=some o:=λb o q=>Ai _ (Ai _ q)
 have hsz:((s.heap.update D (AH λ_=>(#[]:Array Ad))).push (Bp "tuple" vs.toArray.toList.toArray 0)).objs.size=s.heap.objs.size+1:=by rw[size_push',Heap.size_update]
 have I2:Inv X pins σ H0 { s with heap:=((s.heap.update D (AH λ_=>(#[]:Array Ad))).push (Bp "tuple" vs.toArray.toList.toArray 0)).push (Bp "list" #[] 0) }:=I1.kept (t':=s.toks) keep;show Ar (Av X.prog X.w) X.A.in1.in1 (ksk_rest D (.ref f) false vs.toArray _ (.ref ((s.heap.update D (AH λ_=>(#[]:Array Ad))).push (Bp "tuple" vs.toArray.toList.toArray 0)).objs.size)) P E { s with heap:=((s.heap.update D (AH λ_=>(#[]:Array Ad))).push (Bp "tuple" vs.toArray.toList.toArray 0)).push (Bp "list" #[] 0) };rw[hsz];have hss:(((s.heap.update D (AH λ_=>(#[]:Array Ad))).push (Bp "tuple" vs.toArray.toList.toArray 0)).push (Bp "list" #[] 0)).get? (s.heap.objs.size+1)=some (Bp "list" #[] 0):=by rw[<- hsz];exact AG _ rfl
 exact zle F ⟨I2,fb,I.fpOk (Cu _) (I.hok.fresh (Cu _)),Nat.ne_of_gt (Nat.lt_succ_of_lt hDl),keep _ _ ho1,⟨0,by simpa using hss⟩,λi a ha=>by simp at ha⟩ r hz λH' s' ks a b c=>h _ H' s' ks _ a b c
end
section
variable {X:Cx}{k:Nat}{f:Addr}{fd:Bs}{ps:List Str}{sp:Sp}{pins:List (Addr×Obj)}{σ:St}{H0:Hp}{s:Ae}{l:Addr}{κV:Nat->List V}{G:Array Nat->Prop}{xs:List V}{Q:VK}
theorem zik(F:zhV X σ H0 f xs κV)
  (hl:SqL X.K H0 l xs) (hG:∀p,G p->∀i∈p.toList,i<xs.length) (h0:xs.length<2->G (List.toArray (As xs.length)))
  (core:∀{vs:List Ad} {ks:List Addr} {H':Hp} {s':Ae} {D st:Addr} {e:Nat},Vals xs vs->SK X pins σ H' s' D st e κV ks->ks.length=vs.length->2<=vs.length->zhW X G (ks.map AB) vs X.xe s')
  (hQ:∀p D H',G p->p.size=xs.length->H0 D=none->Same H0 H'->H' D=some (.lst (outV xs p))->Q (.ref D) H') (I:Inv X pins σ H0 s) :
  Ar (Av X.prog X.w) X.A (call (.builtin "sorted") [.ref l] [(AR "key",.ref f)]) (EP X pins σ Q) X.xe s:=by
 obtain⟨vs,r,pl,hz⟩:=I.list hl;have hlx:xs.length=vs.length:=r.length;refine call_function_entry_kw kind_sorted plain_sorted entry_sorted (ksk_s1 _ _) ?_
 unfold Builtin.«sorted»;refine Ac (m:=checkCount "sorted" 1 1 _) (Al ?_);refine Ac (collect_list pl.isList ?_ (by first |lia | (rw[An];lia) | (simp;lia)));refine Ac (wpAny_newList ?_ (by first |lia | (rw[An];lia) | (simp;lia)));have hsz:((s.heap.push (Bp "list" #[] 0)).update s.heap.objs.size (AH (·++vs.toArray))).objs.size=s.heap.objs.size+1:=by rw[Heap.size_update,size_push']
 have hoL:(((s.heap.push (Bp "list" #[] 0)).update s.heap.objs.size (AH (·++vs.toArray))).push (Bp "list" vs.toArray 0)).get? (s.heap.objs.size+1)=some (Bp "list" vs.toArray 0):=by rw[<- hsz];exact AG _ rfl
 have keep:∀b o,s.heap.get? b=some o->(((s.heap.push (Bp "list" #[] 0)).update s.heap.objs.size (AH (·++vs.toArray))).push (Bp "list" vs.toArray 0)).get? b=some o:=λb o q=>by have hlt:b<s.heap.objs.size:=Ap q;rw[Heap.get?_push_ne _ _ _ (by rw[hsz];exact AC (Nat.lt_succ_of_lt hlt)),Heap.get?_update_ne _ _ _ _ (AC hlt),Heap.get?_push_ne _ _ _ (AC hlt)];exact q
 show Ar _ _ _ _ _ { s with heap:=((s.heap.push (Bp "list" #[] 0)).update s.heap.objs.size (AH (·++vs.toArray))).push (Bp "list" vs.toArray 0) };rw[hsz];refine Ac (A7 (wpAny_call_entry_kw slot_list_sort ⟨_,hoL,rfl⟩ entry_list_sort ?body (ksk_l1 _ _)))
 case body =>
  show Ar (Av X.prog X.w) X.A.in1.in1 (Builtin.«list.sort» ⟨[.ref (s.heap.objs.size+1)],[(AR "key",.ref f)]⟩) _ _ _;rw[ksk_t1];have I1:Inv X pins σ H0 { s with heap:=((s.heap.push (Bp "list" #[] 0)).update s.heap.objs.size (AH (·++vs.toArray))).push (Bp "list" vs.toArray 0) }:=I.kept (t':=s.toks) keep;have hDn:H0 (s.heap.objs.size+1)=none:=I.hok.fresh (Cu _);refine zlc F I1 (I.fpOk (Cu _) hDn) hoL r hz λe H' s' ks st hks hS K=>?_
  refine zl6 K hks r hz hG (λh2=>by rw[<- hlx];exact h0 (by lia)) (core r K hks) λp s2 g hp I2=>⟨_,rfl,?_⟩
  refine Al ⟨_,rfl,.ref (s.heap.objs.size+1),_,I2,rfl,hQ p _ _ g hp hDn (λb o q=>?_) zaa⟩;rw[zam (zao q hDn)];exact hS b o q
end
section
variable {X:Cx}{x:Str}{p pos kp kpos:Pos}{e:Expr}{te:TE}{k:Nat}{f:Addr}{fd:Bs}{ps:List Str}{sp:Sp}{fn:Str}
noncomputable def tMinK(K:W.Frag)(te:TE)(sp:Sp):TE:=λσ H Q=>te σ H λv H1=>∃l xs,∃ κ:Nat->List Int,[v]=[V.ref l]/\SqL K H1 l xs/\0<xs.length /\
 (∀i x H2,xs[i]?=some x->Same H1 H2->sp [x] H2 (λv H'=>Same H2 H'/\∃a,v=.ref a/\SqT K H' a ((κ i).map V.int)) E0)/\∀i x H',xs[i]?=some x->Least κ xs.length i->Same H1 H'->Q x H'
theorem zlq (F:FnOk X.prog X.w X.K X.mg X.base CX0 k f fd ps sp) (hr:Room (k + 1) X.A) (hb:Binds X.K fd ps []) (hg:Gl X "min") (hm:X.mg "min" = none) (hgf:Gl X fn) (hmf:X.mg fn=some (.ref f)) (he:PE X e te)
  (hdb:(fn == ("__debug__" : Str))=false:=by decide) (hse:AJ [e] X.env=[(false,eval e X.env)]:=by rfl) (hh:X.calm=true:=by rfl)
  (hall:(CZ pos (BX [⟨some "key",.Name fn kp,kpos⟩] X.env)).all (·.1.isSome)=true:=by rfl) (hkw:(CZ pos (BX [⟨some "key",.Name fn kp,kpos⟩] X.env)).any (·.1.isNone)=false:=by rfl)
  (hks:(CZ pos (BX [⟨some "key",.Name fn kp,kpos⟩] X.env)).filterMap (·.1)=[AR "key"]:=by rfl) :
  PE X (.Call (.Name "min" p) [e] [⟨some "key",.Name fn kp,kpos⟩] pos) (tMinK X.K te sp):=by
 intro pins s σ H Q I h;refine Bh (zbR I hg hm boot_min ?_ (by decide) (by decide))
 refine callWith_kw (thn (zag he zab (hs:=hse) pos pins s σ H (λvs H1=>∃l xs,∃ κ:Nat->List Int,vs=[V.ref l]/\SqL X.K H1 l xs/\0<xs.length /\
  (∀i x H2,xs[i]?=some x->Same H1 H2->sp [x] H2 (λv H'=>Same H2 H'/\∃a,v=.ref a/\SqT X.K H' a ((κ i).map V.int)) E0)/\∀i x H',xs[i]?=some x->Least κ xs.length i->Same H1 H'->Q x H') I ?_) λus s1 ⟨vs,H1,I1,r,q⟩=>?_) (by rw[hse];rfl) (by rw[hse];rfl) hall hkw
 .show te σ H _;exact h
 .obtain⟨l,xs,κ,rfl,hq,hne,turn,hQ⟩:=q;obtain⟨u,rfl,ru⟩:=Vals.one r
  cases (show u=AB l from ru)
  refine thn (zi7 (nm:=some "key") (kpos:=kpos) (zfi (v:=.ref f) hgf hmf rfl hdb) zkM pos pins s1 σ H1 (λzs H2=>zs=[.ref f]/\H2=H1) I1 ⟨rfl,rfl⟩) λws s2 ⟨zs,H2,I2,rz,q2⟩=>?_
  obtain⟨rfl,rfl⟩:=q2;obtain⟨u2,rfl,ru2⟩:=Vals.one rz
  cases (show u2=AB f from ru2)
  rw[hks];exact zjO (I1.ok.hd hh) F hr hb turn hq hne hQ I2
theorem zki{xs:List V}{p:Array Nat}(g:RK.Pm xs.length p):(outV xs p).Perm xs:=by
 have h1:p.toList.Perm (As xs.length):=by have:=Array.perm_iff_toList_perm.mp g;simpa using this
 have h2:((As xs.length).map λi=>xs.getD i V.non)=xs:=by
  apply List.ext_getElem
  .simp
  .intro i h1 h2;simp[show i<xs.length by simpa using h1]
 have h3:=h1.map λi=>xs.getD i V.non
 rw[h2]at h3;exact h3
noncomputable def zl1(K:W.Frag)(te:TE)(sp:Sp):TE:=λσ H Q=>te σ H λv H1=>∃l xs,∃ κV:Nat->List V,∃ κ:Nat->List Int,[v]=[V.ref l]/\SqL K H1 l xs/\xs.length<64 /\
 (∀i x H2,xs[i]?=some x->Same H1 H2->sp [x] H2 (λv H'=>Same H2 H'/\∃a,v=.ref a/\SqT K H' a (κV i)) E0) /\
 (∀i j,i<xs.length->j<xs.length->∃n m r q rn rm,κV i=.int n::r/\κV j=.int m::q/\VCols r q rn rm/\κ i=n::rn/\κ j=m::rm)/\∀ys D H',ys.Perm xs->H1 D=none->Same H1 H'->H' D=some (.lst ys)->Q (.ref D) H'
theorem zkj (F:FnOk X.prog X.w X.K X.mg X.base CX0 k f fd ps sp) (hr:Room (k + 1 + 1) X.A) (hb:Binds X.K fd ps []) (hg:Gl X "sorted") (hm:X.mg "sorted" = none) (hgf:Gl X fn) (hmf:X.mg fn=some (.ref f)) (he:PE X e te)
  (hdb:(fn == ("__debug__" : Str))=false:=by decide) (hse:AJ [e] X.env=[(false,eval e X.env)]:=by rfl) (hh:X.calm=true:=by rfl)
  (hall:(CZ pos (BX [⟨some "key",.Name fn kp,kpos⟩] X.env)).all (·.1.isSome)=true:=by rfl) (hkw:(CZ pos (BX [⟨some "key",.Name fn kp,kpos⟩] X.env)).any (·.1.isNone)=false:=by rfl)
  (hks:(CZ pos (BX [⟨some "key",.Name fn kp,kpos⟩] X.env)).filterMap (·.1)=[AR "key"]:=by rfl) :
  PE X (.Call (.Name "sorted" p) [e] [⟨some "key",.Name fn kp,kpos⟩] pos) (zl1 X.K te sp):=by
 intro pins s σ H Q I h;refine Bh (zbR I hg hm boot_sorted ?_ (by decide) (by decide));refine callWith_kw (thn (zag he zab (hs:=hse) pos pins s σ H (λvs H1=>∃l xs,∃ κV:Nat->List V,∃ κ:Nat->List Int,vs=[V.ref l]/\SqL X.K H1 l xs/\xs.length<64 /\
 (∀i x H2,xs[i]?=some x->Same H1 H2->sp [x] H2 (λv H'=>Same H2 H'/\∃a,v=.ref a/\SqT X.K H' a (κV i)) E0) /\
 (∀i j,i<xs.length->j<xs.length->∃n m r q rn rm,κV i=.int n::r/\κV j=.int m::q/\VCols r q rn rm/\κ i=n::rn/\κ j=m::rm)/\∀ys D H',ys.Perm xs->H1 D=none->Same H1 H'->H' D=some (.lst ys)->Q (.ref D) H') I ?_) λus s1 ⟨vs,H1,I1,r,q⟩=>?_) (by rw[hse];rfl) (by rw[hse];rfl) hall hkw
 .show te σ H _;exact h
 .obtain⟨l,xs,κV,κ,rfl,hq,h64,turn,hcol,hQ⟩:=q;obtain⟨u,rfl,ru⟩:=Vals.one r
  cases (show u=AB l from ru)
  refine thn (zi7 (nm:=some "key") (kpos:=kpos) (zfi (v:=.ref f) hgf hmf rfl hdb) zkM pos pins s1 σ H1 (λzs H2=>zs=[.ref f]/\H2=H1) I1 ⟨rfl,rfl⟩) λws s2 ⟨zs,H2,I2,rz,q2⟩=>?_
  obtain⟨rfl,rfl⟩:=q2;obtain⟨u2,rfl,ru2⟩:=Vals.one rz
  cases (show u2=AB f from ru2)
  rw[hks];refine zik (G:=RK.Pm xs.length) (zmo F hr hb turn) hq (λp hp i hi=>?_) (λ_=>Array.Perm.refl _) (λ{vs ks H' s' D st e} r' K' hks h2=>?_) (λp D H' g hp hD hS hH=>hQ _ D H' (zki g) hD hS hH) I2
  .have:=hp.mem_iff.mp (show i∈p by simpa using hi);simpa using this
  .have hlx:xs.length=vs.length:=r'.length;rw[hlx];exact zmp K' hks h2 (by lia) λi j hi hj=>hcol i j (by lia) (by lia)
end
end L2
namespace TS
open PySem PyProof.Rows
structure LtOk (M:Model) (A:AQ) (E:Ad->Ae->Prop) (s:Ae) (kd:B4) (S:Keyed->Prop) (L:Keyed->Keyed->Bool):Prop where
 lt:∀x y,S x->S y->∀(st:SortSt) (Q:Option Bool->SortSt->Prop),kindOf st=kd->Q (some (L x y)) st->wpS M A E s (lt' x y) Q st
 tr:∀x y z,S x->S y->S z->L y x=false->L z y=false->L z x=false
 as:∀x y,S x->S y->L x y=true->L y x=false
section
variable {M:Model}{A:AQ}{E:Ad->Ae->Prop}{s:Ae}{kd:B4}{S:Keyed->Prop}{L:Keyed->Keyed->Bool}
end
end TS
namespace TS
section
variable {α:Type}{le:α->α->Prop}
structure MI (le:α->α->Prop) (a b out:List α) (ia ib:Nat):Prop where
 ha:ia<=a.length
 hb:ib<=b.length
 perm:(out++a.drop ia++b.drop ib).Perm (a++b)
 sorted:out.Pairwise le
 lea:∀x∈out,∀y∈a.drop ia,le x y
 leb:∀x∈out,∀y∈b.drop ib,le x y
end
end TS
namespace TS
open PySem PyProof.Rows
noncomputable abbrev leOf(L:Keyed->Keyed->Bool):Keyed->Keyed->Prop:=λx y=>L y x=false
section
variable {M:Model}{A:AQ}{E:Ad->Ae->Prop}{s:Ae}{kd:B4}{S:Keyed->Prop}{L:Keyed->Keyed->Bool}
structure Two (S:Keyed->Prop) (L:Keyed->Keyed->Bool) (a b:Array Keyed):Prop where
 sa:a.toList.Pairwise (leOf L)
 sb:b.toList.Pairwise (leOf L)
 Sa:∀x∈a.toList,S x
 Sb:∀x∈b.toList,S x
variable {a b:Array Keyed}{out:Array Keyed}{ia ib:Nat}
end
end TS
set_option maxHeartbeats 8000000
namespace TS
open PySem PyProof.Rows
section
variable {M:Model}{A:AQ}{E:Ad->Ae->Prop}{s:Ae}{kd:B4}{S:Keyed->Prop}{L:Keyed->Keyed->Bool}{a b out:Array Keyed}{ia ib:Nat}
noncomputable abbrev LH:=Option (Array Keyed)×Array Keyed×Nat×Nat×Nat×Nat×Nat
variable {Q:ForInStep LH->SortSt->Prop}{z:SortSt}{N mg ac bc:Nat}{x y:Keyed}
end
section
variable {M:Model}{A:AQ}{E:Ad->Ae->Prop}{s:Ae}{kd:B4}{S:Keyed->Prop}{L:Keyed->Keyed->Bool}{a b:Array Keyed}
end
end TS
set_option maxHeartbeats 8000000
namespace TS
open PySem PyProof.Rows
section
variable {α:Type}{le:α->α->Prop}
structure MJ (le:α->α->Prop) (a b r:List α) (na nb:Nat):Prop where
 ha:na<=a.length
 hb:nb<=b.length
 perm:(a.take na++b.take nb++r).Perm (a++b)
 sorted:r.Pairwise le
 lea:∀x∈a.take na,∀y∈r,le x y
 leb:∀x∈b.take nb,∀y∈r,le x y
end
end TS
set_option maxHeartbeats 8000000
namespace TS
open PySem PyProof.Rows
section
variable {M:Model}{A:AQ}{E:Ad->Ae->Prop}{s:Ae}{kd:B4}{S:Keyed->Prop}{L:Keyed->Keyed->Bool}{a b out:Array Keyed}{na nb:Nat}
end
end TS
set_option maxHeartbeats 8000000
namespace TS
open PySem PyProof.Rows
section
variable {M:Model}{A:AQ}{E:Ad->Ae->Prop}{s:Ae}{kd:B4}{S:Keyed->Prop}{L:Keyed->Keyed->Bool}{a b out:Array Keyed}{na nb:Nat}
end
end TS
set_option maxHeartbeats 8000000
namespace TS
open PySem PyProof.Rows
section
variable {M:Model}{A:AQ}{E:Ad->Ae->Prop}{s:Ae}{kd:B4}{S:Keyed->Prop}{L:Keyed->Keyed->Bool}{a b out:Array Keyed}{na nb:Nat}
noncomputable abbrev RH:=Option (Array Keyed)×Nat×Nat×Array Keyed×Nat×Nat×Nat
variable {Q:ForInStep RH->SortSt->Prop}{z:SortSt}{N mg ac bc:Nat}{x y:Keyed}
end
section
variable {M:Model}{A:AQ}{E:Ad->Ae->Prop}{s:Ae}{kd:B4}{S:Keyed->Prop}{L:Keyed->Keyed->Bool}{a b:Array Keyed}
end
end TS
namespace TS
open PySem PyProof.Rows
section
variable {M:Model}{A:AQ}{E:Ad->Ae->Prop}{s:Ae}{kd:B4}{S:Keyed->Prop}{L:Keyed->Keyed->Bool}
noncomputable def Seg(L:Keyed->Keyed->Bool)(a:Array Keyed)(lo n:Nat):Prop:=∀(i j:Nat) x y,i<=j->j<n->a[lo+i]?=some x->a[lo+j]?=some y->L y x=false
structure SB (kd:B4) (S:Keyed->Prop) (st0 st:SortSt) (lo hi:Nat):Prop where
 kind:kindOf st=kd
 pend:pendingOf st=pendingOf st0
 fail:failedOf st=failedOf st0
 perm:(arrOf st).Perm (arrOf st0)
 out:∀k:Nat,k<lo∨hi<=k->(arrOf st)[k]?=(arrOf st0)[k]?
 all:∀(k:Nat) x,(arrOf st)[k]?=some x->S x
end
end TS
namespace TS
open PySem PyProof.Rows
section
variable {M:Model}{A:AQ}{E:Ad->Ae->Prop}{s:Ae}{kd:B4}{S:Keyed->Prop}{L:Keyed->Keyed->Bool}
end
end TS
set_option maxHeartbeats 8000000
namespace TS
open PySem PyProof.Rows
noncomputable def wr(a:Array Keyed)(o:Nat)(l:List Keyed)(k:Nat):Array Keyed:=(l.zipIdx k).foldl (λa (p:Keyed×Nat)=>a.setIfInBounds (o+p.2) p.1) a
section
variable {M:Model}{A:AQ}{E:Ad->Ae->Prop}{s:Ae}{kd:B4}{S:Keyed->Prop}{L:Keyed->Keyed->Bool}
structure SM (kd:B4) (S:Keyed->Prop) (L:Keyed->Keyed->Bool) (st0 st:SortSt) (pd:Array (Nat×Nat×Nat)) (lo n:Nat):Prop where
 kind:kindOf st=kd
 pend:pendingOf st=pd
 fail:failedOf st=none
 perm:(arrOf st).Perm (arrOf st0)
 out:∀k:Nat,k<lo∨lo+n<=k->(arrOf st)[k]?=(arrOf st0)[k]?
 all:∀(k:Nat) x,(arrOf st)[k]?=some x->S x
 seg:Seg L (arrOf st) lo n
end
end TS
set_option maxHeartbeats 8000000
namespace TS
open PySem PyProof.Rows
noncomputable abbrev Run:=Nat×Nat×Nat
section
variable {M:Model}{A:AQ}{E:Ad->Ae->Prop}{s:Ae}{kd:B4}{S:Keyed->Prop}{L:Keyed->Keyed->Bool}
noncomputable def Runs(L:Keyed->Keyed->Bool)(a:Array Keyed):List Run->Nat->Nat->Prop
 |[],x,y=>x=y
 |r::l,x,y=>r.1=x/\1<=r.2.1/\Seg L a r.1 r.2.1/\Runs L a l (x+r.2.1) y
structure PD (kd:B4) (S:Keyed->Prop) (L:Keyed->Keyed->Bool) (a0:Array Keyed) (st:SortSt) (lo:Nat):Prop where
 kind:kindOf st=kd
 fail:failedOf st=none
 perm:(arrOf st).Perm a0
 all:∀(k:Nat) x,(arrOf st)[k]?=some x->S x
 runs:Runs L (arrOf st) (pendingOf st).toList 0 lo
end
end TS
namespace L2
open PySem PySem.Spec PyProof.Rows
section
variable {X:Cx}{pins:List (Addr×Obj)}{σ:St}{H:Hp}{s:Ae}{D st:Addr}{e:Nat}{κV:Nat->List V}{ks:List Addr}{E:Ad->Ae->Prop}
end
section
variable {X:Cx}{x:Str}{p pos kp kpos:Pos}{e:Expr}{te:TE}{k:Nat}{f:Addr}{fd:Bs}{ps:List Str}{sp:Sp}{fn:Str}
end
section
variable {prog:AK}{w:A1}{A:AQ}{R:Result->Ae->Prop}{s:Ae}
theorem zdM{elt:Expr}{c0:Comprehension}{target iter:Expr}{ifs:List Expr}{rest:List Comprehension}{scope:Scope}{pos:Pos}{it acc:Ad}{env:Env}
  (h0:BP (Av prog w) A (.compLoop (.ListComp elt (c0::⟨target,iter,ifs,0⟩::rest) scope pos) 1 it acc env) R s)
  (h:Ar (Av prog w) A (pyIter it) (λit' s'=>BP (Av prog w) A (.compLoop (.ListComp elt (c0::⟨target,iter,ifs,0⟩::rest) scope pos) 1 it' acc env) R s') (notedBy (Av prog w) A env λx s'=>R (.error x) s') s) :
  BP (Av prog w) A (.compStart (.ListComp elt (c0::⟨target,iter,ifs,0⟩::rest) scope pos) 1 it acc env) R s:=by
 refine codeAny_of_tree ?_
 show Ar _ _ ((compStart (.ListComp elt (c0::⟨target,iter,ifs,0⟩::rest) scope pos) 1 it acc env).onRaise (λx=>do noteFrame x env;standAt theWindowsPlace)) _ _ s;refine wpAny_notedAt ?_
 unfold compStart;show Ar _ _ (ask >>= _) _ _ s;refine Ac (wpAny_askSetting (wpAny_ite ?_));split
 .first
   |exact Al (And.intro rfl h0)
   |exact Ac (Al (Al (And.intro rfl h0)))
 .refine Ac (wpAny_rule ?_);show Ar _ _ (standAt iter.pos >>= _) _ _ s;exact Ac (Cj (Ac (BG h (λit' s' h'=>Al (And.intro rfl h')) λ_ _ z=>z)))
end
section
variable {X:Cx}{osc:Scope}{N:List Str}{sc:Scope}{N':List Str}{sel:List (Option Nat)}{pos:Pos}{elt kx vx tg iter tg2 iter2:Expr}{ifs ifs2:List Expr}{wi wi2:TI}{g g2:TG}{tt tt2:TT}{te tk tv:TE}
noncomputable def tNest(wi2:TI)(g2:TG)(tb:TS):TS:=λD σ H=>wi2 σ H λJ H1=>zb8 J g2 tb { nx:=D.nx,rt:=λ_ _=>False } σ H1
theorem zls{Y:Cx}{p:Addr}(hc:Y.calm=true)(hx:Y.xe=λ_ _ => False)(hi2:PI Y tg2 iter2 wi2)(hg2:PG Y tg2 g2)(ht2:PTs Y ifs2 tt2)(he:PE Y elt te)(hs2:∀x, Bb iter2 Y.env x=pure x) :
  PB Y (do
   let x <- eval iter2 Y.env
   standAt iter2.pos
   let x <- Bb iter2 Y.env x
   let _ <- runOwn (.compStart (.ListComp elt [⟨tg,iter,ifs,0⟩,⟨tg2,iter2,ifs2,0⟩] sc pos) 1 (<- C1 [x] (pyIter x)) (.ref p) Y.env) Y.env) (tNest wi2 g2 (tIfs tt2 (zb9 p te))):=by
 intro pins s σ H D I h;refine Ac (thn (hi2 pins s σ H _ I h) λv s1 h1=>?_);refine Ac (Cj ?_);rw[hs2];refine Ac (Al ?_);refine Ac (A7 (thn h1 λitv s2 h2=>?_));obtain⟨it,fp,tn,J,H2,e,I2,T,st2,f2,h2⟩:=h2;subst e
 have loop:BP (Av Y.prog Y.w) Y.A (.compLoop (.ListComp elt [⟨tg,iter,ifs,0⟩,⟨tg2,iter2,ifs2,0⟩] sc pos) 1 (.ref it) (.ref p) Y.env) (λr s'=>match r with |.ok f=>Ar (Av Y.prog Y.w) Y.A (pure ()) (λ_ s'=>∃ σ' H',Inv Y pins σ' H' s'/\D.nx σ' H') Y.xe s' |.error e=>cameBackBy (Av Y.prog Y.w) Y.A Y.env Y.xe e s') s2 :=
  zdi (X:=Y) (p:=iter2.pos) (inner:=do let _ <- call (.builtin "list.append") [.ref p,<- eval elt Y.env]) rfl rfl rfl (λB {α t Q E s} h w=>by subst h;exact w) hc hx hg2 ht2 (zjb he) I2 T st2 f2 h2 λfl s' ⟨σ',H',I',_,q⟩=>Al ⟨σ',H',I',q⟩
 refine Ac (wpAny_runOwn (zdM loop (T.self _ 0 _ _ _ st2 loop)))
theorem zge{env:Env}{it p:Addr} : compTurn (.ListComp elt [⟨tg, iter, ifs, 0⟩, ⟨tg2, iter2, ifs2, 0⟩] sc pos) 0 (.ref it) (.ref p) env=(do
   standAt iter.pos
   match <- pyNext (.ref it) with
   |none=>pure (.done .next)
   |some v =>
    C2 tg (.ref it) v
    assign tg env v
    let mut ok:=true
    for c in ifs do
     if ok then ok <- isTrue c env (eval c env)
    if ok then
     (do
      let x <- eval iter2 env
      standAt iter2.pos
      let x <- Bb iter2 env x
      let _ <- runOwn (.compStart (.ListComp elt [⟨tg,iter,ifs,0⟩,⟨tg2,iter2,ifs2,0⟩] sc pos) 1 (<- C1 [x] (pyIter x)) (.ref p) env) env)
    again (.compLoop (.ListComp elt [⟨tg,iter,ifs,0⟩,⟨tg2,iter2,ifs2,0⟩] sc pos) 0 (.ref it) (.ref p) env)):=by
 unfold compTurn;simp only[bind_assoc,pure_bind];rfl
theorem zeY{it:Addr}{fp:List Addr}{tn:Nat -> Heap -> Prop}{J:It}(T:Turn X.prog X.w X.K tg J fp it tn)(hc:X.calm=true)(hg:InBlk X sc N' λY => PG Y tg g)(ht:InBlk X sc N' λY => PTs Y ifs tt)
  (hi2:InBlk X sc N' λY=>PI Y tg2 iter2 wi2) (hg2:InBlk X sc N' λY=>PG Y tg2 g2) (ht2:InBlk X sc N' λY=>PTs Y ifs2 tt2) (he:InBlk X sc N' λY=>PE Y elt te) (hs2:∀cl C x,Bb iter2 (Cf sc cl C X.env) x=pure x) :
  ∀cl C s0 H0 ex p pins s σ H Dn R,Inv (blk X sc cl C N' s0 H0 ex) pins σ H s->tn 0 s.heap->(∀b∈fp,FpOk (blk X sc cl C N' s0 H0 ex) pins H b)->zb8 J g (tIfs tt (tNest wi2 g2 (tIfs tt2 (zb9 p te)))) Dn σ H ->
   (∀fl s',(∃ σ' H',Inv (blk X sc cl C N' s0 H0 ex) pins σ' H' s'/\(∀b∈fp,H' b=none)/\Dn.nx σ' H')->R (.ok fl) s')->BP (Av X.prog X.w) X.A (.compLoop (.ListComp elt [⟨tg,iter,ifs,0⟩,⟨tg2,iter2,ifs2,0⟩] sc pos) 0 (.ref it) (.ref p) (Cf sc cl C X.env)) R s :=
 λcl C s0 H0 ex p pins s σ H Dn R I st f W hR =>
  zdi (X:=blk X sc cl C N' s0 H0 ex) (p:=iter.pos) (inner:=do
   let x <- eval iter2 (Cf sc cl C X.env)
   standAt iter2.pos
   let x <- Bb iter2 (Cf sc cl C X.env) x
   let _ <- runOwn (.compStart (.ListComp elt [⟨tg,iter,ifs,0⟩,⟨tg2,iter2,ifs2,0⟩] sc pos) 1 (<- C1 [x] (pyIter x)) (.ref p) (Cf sc cl C X.env)) (Cf sc cl C X.env))
   rfl rfl zge (λB {α t Q E s} h w=>by subst h;exact w) hc rfl (hg _ _ _ _ _) (ht _ _ _ _ _) (zls (Y:=blk X sc cl C N' s0 H0 ex) hc rfl (hi2 _ _ _ _ _) (hg2 _ _ _ _ _) (ht2 _ _ _ _ _) (he _ _ _ _ _) (hs2 cl C)) I T st f W hR
noncomputable def zk9(wi:TI)(sel:List (Option Nat))(g:TG)(tt:TT)(wi2:TI)(g2:TG)(tt2:TT)(te:TE):TE:=λσ H Q=>wi σ H λJ H1=>∀p,H1 p=none ->
 zb8 J g (tIfs tt (tNest wi2 g2 (tIfs tt2 (zb9 p te)))) { nx:=λ_ H'=>Q (.ref p) H',rt:=λ_ _=>False } (selSt sel σ) (upd H1 p (.lst []))
noncomputable def zlf(wi:TI)(sel:List (Option Nat))(g:TG)(tt:TT)(wi2:TI)(g2:TG)(tt2:TT)(te:TE)(i:Nat):TS:=λD σ H=>wi σ H λJ H1=>∀p,H1 p=none ->
 zb8 J g (tIfs tt (tNest wi2 g2 (tIfs tt2 (zb9 p te)))) { nx:=λ_ H'=>D.nx (σ.set i (some (.ref p))) H',rt:=λ_ _=>False } (selSt sel σ) (upd H1 p (.lst []))
theorem zfX(B:BlkOk osc N sc N' sel)(hi:PI X tg iter wi)(hg:InBlk X sc N' λY => PG Y tg g)(ht:InBlk X sc N' λY => PTs Y ifs tt)(hi2:InBlk X sc N' λY => PI Y tg2 iter2 wi2)(hg2:InBlk X sc N' λY => PG Y tg2 g2)(ht2:InBlk X sc N' λY => PTs Y ifs2 tt2)(he:InBlk X sc N' λY => PE Y elt te)(hs2:∀cl C x, Bb iter2 (Cf sc cl C X.env) x=pure x)
  (ho:X.env.scope=osc:=by rfl) (hN:X.N=N:=by rfl) (hc:X.calm=true:=by rfl) (hs:∀x,Bb iter X.env x=pure x:=by intro _;rfl) :
  PE X (.ListComp elt [⟨tg,iter,ifs,0⟩,⟨tg2,iter2,ifs2,0⟩] sc pos) (zk9 wi sel g tt wi2 g2 tt2 te):=by
 intro pins s σ H Q I h;obtain⟨cl,Cl⟩:=zgf I.ok B ho;rw[eval_ListComp];refine BN (use:=none) rfl hs Cl.run B.kind B.names (thn (hi pins s σ H _ I h) λv s1 h1=>thn h1 λitv s2 h2=>?_);obtain⟨it,fp,tn,J,H2,e,I2,T,st2,f2,h2⟩:=h2;subst e
 refine Bl (zcE (e:=.ListComp elt [⟨tg,iter,ifs,0⟩,⟨tg2,iter2,ifs2,0⟩] sc pos) (inner:=λ_ _=>pure ()) (D:=λp=>{ nx:=λ_ H'=>Q (.ref p) H',rt:=λ_ _=>False }) (tb:=λp=>tNest wi2 g2 (tIfs tt2 (zb9 p te))) (use:=none) B ho hN hc (λacc env R s a b=>Cy a b)
  (zeY (iter:=iter) (pos:=pos) T hc hg ht hi2 hg2 ht2 he hs2) I2 T st2 f2 zfq rfl (h2 _ (I2.hok.fresh (Ah _))) (λC H' s' I3 fC hn hq=>?_) s2.toks cl Cl X.xe)
 obtain⟨m,hn⟩:=hn;obtain⟨_,hq⟩:=hq;exact⟨m,hn,λh' hs'=>⟨.ref s2.heap.objs.size,H',I3.let_go fC hs',rfl,hq⟩⟩
theorem zi4{i:Nat}{x:Str}{px spos:Pos}(B:BlkOk osc N sc N' sel)(hnd:X.N.Nodup)(hi':X.N[i]? = some x)(hx:Loc X.env.scope x)(hi:PI X tg iter wi)(hg:InBlk X sc N' λY => PG Y tg g)(ht:InBlk X sc N' λY => PTs Y ifs tt)(hi2:InBlk X sc N' λY => PI Y tg2 iter2 wi2)(hg2:InBlk X sc N' λY => PG Y tg2 g2)(ht2:InBlk X sc N' λY => PTs Y ifs2 tt2)(he:InBlk X sc N' λY => PE Y elt te)(hs2:∀cl C x, Bb iter2 (Cf sc cl C X.env) x=pure x)
  (hsw:swapsWith (.ListComp elt [⟨tg,iter,ifs,0⟩,⟨tg2,iter2,ifs2,0⟩] sc pos) (some (.Name x px)) spos.line X.env=pure true:=by rfl)
  (ho:X.env.scope=osc:=by rfl) (hN:X.N=N:=by rfl) (hc:X.calm=true:=by rfl) (hs:∀x,Bb iter X.env x=pure x:=by intro _;rfl)
  (hf:X.fn x=true∨X.env.scope.names.lookup x=some .local:=by first |exact .inl rfl |exact .inr rfl |assumption) :
  PS X (.Assign [.Name x px] (.ListComp elt [⟨tg,iter,ifs,0⟩,⟨tg2,iter2,ifs2,0⟩] sc pos) spos) (zlf wi sel g tt wi2 g2 tt2 te i):=by
 intro pins s σ H D I h;obtain⟨cl,Cl⟩:=zgf I.ok B ho;rw[exec_Assign_Name_used _ _ _ _ hsw];refine Ac (Cj (Ac ?_));show Ar _ X.A (do let _ <- comprehension (.ListComp elt [⟨tg,iter,ifs,0⟩,⟨tg2,iter2,ifs2,0⟩] sc pos) sc X.env _ (newList []) false (eval iter X.env) (some (assign (.Name x px) X.env))) _ _ s;refine Ac (thn (BN (use:=some (assign (.Name x px) X.env)) (Q:=λ_ s'=>SP X pins D .next s') rfl hs Cl.run B.kind B.names (thn (hi pins s σ H _ I h) λv s1 h1=>thn h1 λitv s2 h2=>?_)) λ_ s' hq=>Al (Al hq));obtain⟨it,fp,tn,J,H2,e,I2,T,st2,f2,h2⟩:=h2;subst e
 refine Bl (zcE (e:=.ListComp elt [⟨tg,iter,ifs,0⟩,⟨tg2,iter2,ifs2,0⟩] sc pos) (inner:=λ_ _=>pure ()) (D:=λp=>{ nx:=λ_ H'=>D.nx (σ.set i (some (.ref p))) H',rt:=λ_ _=>False }) (tb:=λp=>tNest wi2 g2 (tIfs tt2 (zb9 p te))) (use:=some (assign (.Name x px) X.env)) B ho hN hc (λacc env R s a b=>Cy a b)
  (zeY (iter:=iter) (pos:=pos) T hc hg ht hi2 hg2 ht2 he hs2) I2 T st2 f2 zfq rfl (h2 _ (I2.hok.fresh (Ah _))) (λC H' s' I3 fC hn hq=>?_) s2.toks cl Cl X.xe)
 obtain⟨m,hn⟩:=hn;obtain⟨_,hq⟩:=hq;show Ar _ X.A (assign (.Name x px) X.env (.ref s2.heap.objs.size)) _ _ _;refine wpAny_assign_Name (zdQ I3 hnd hi' hx (v:=.ref s2.heap.objs.size) rfl (λs4 I4 hch=>?_) hf);obtain⟨a,sb,ha⟩:=hch
 have nC:C≠a:=by
  rcases ha with z |z
  .rw[z];exact fC.2.1
  .exact λq=>fC.2.2.2.2.1 x a z q.symm
 refine⟨m,hn.sameBut sb nC,λh' hs'=>⟨_,H',I4.let_go fC hs',hq⟩⟩
end
end L2
namespace RP
noncomputable def mv(i:Nat):Int×Int:=([(1,0),(1,1),(0,1),(-1,1),(-1,0),(-1,-1),(0,-1),(1,-1)]:List (Int×Int)).getD i (0,0)
noncomputable abbrev Cell:=Int×Int
noncomputable def go(c:Cell)(i:Nat):Cell:=(c.1+(mv i).1,c.2+(mv i).2)
structure Edge where
 c:Cell
 w:Nat
 deriving DecidableEq
noncomputable def gap(e:Edge):Cell:=go e.c ((2*e.w+6) % 8)
noncomputable def stepB(C:Cell->Bool)(e:Edge):Option Nat :=
 if C (go e.c ((2*e.w+7) % 8))=true then some ((2*e.w+7) % 8) else if C (go e.c (2*e.w))=true then some (2*e.w) else none
noncomputable def slant:Option Nat->Bool
 |none=>false
 |some s=>s % 2 == 1
noncomputable def edgeB(e:Edge):Option Nat->Edge
 |none=>⟨e.c,(e.w+1) % 4⟩
 |some s=>if s % 2=1 then ⟨go e.c s,(e.w+3) % 4⟩ else ⟨go e.c s,e.w⟩
noncomputable def nxt(C:Cell->Bool)(e:Edge):Edge:=edgeB e (stepB C e)
noncomputable def IsE(C:Cell->Bool)(e:Edge):Prop:=e.w<4/\C e.c=true/\C (gap e)=false
noncomputable def prv(C:Cell->Bool)(f:Edge):Edge :=
 if C (go f.c ((2*f.w+5) % 8))=true then ⟨go f.c ((2*f.w+5) % 8),(f.w+1) % 4⟩
 else if C (go f.c ((2*f.w+4) % 8))=true then ⟨go f.c ((2*f.w+4) % 8),f.w⟩ else ⟨f.c,(f.w+3) % 4⟩
theorem way4{w:Nat}(h:w<4):w=0∨w=1∨w=2∨w=3:=by lia
noncomputable def mvAdd(a b d:Nat):Bool:=(mv a).1+(mv b).1 == (mv d).1 && (mv a).2+(mv b).2 == (mv d).2
noncomputable def mvNil(a b:Nat):Bool:=(mv a).1+(mv b).1 == 0 && (mv a).2+(mv b).2 == 0
theorem go_go{c:Cell}{a b d:Nat}(h:mvAdd a b d=true):go (go c a) b=go c d:=by unfold mvAdd at h;simp only[AT,beq_iff_eq]at h;unfold go;exact Prod.ext (by show c.1+(mv a).1+(mv b).1=c.1+(mv d).1;lia) (by show c.2+(mv a).2+(mv b).2=c.2+(mv d).2;lia)
theorem zjB{c:Cell}{a b:Nat}(h:mvNil a b=true):go (go c a) b=c:=by unfold mvNil at h;simp only[AT,beq_iff_eq]at h;unfold go;exact Prod.ext (by show c.1+(mv a).1+(mv b).1=c.1;lia) (by show c.2+(mv a).2+(mv b).2=c.2;lia)
theorem f1:∀w<4,mvAdd ((2*w+7) % 8) ((2*((w+3) % 4)+6) % 8) ((2*w+6) % 8)=true:=by decide
theorem f2:∀w<4,mvAdd (2*w) ((2*w+6) % 8) ((2*w+7) % 8)=true:=by decide
theorem f3:∀w<4,(2*((w+1) % 4)+6) % 8=2*w:=by decide
theorem f4:∀w<4,mvNil ((2*w+7) % 8) ((2*((w+3) % 4)+5) % 8)=true:=by decide
theorem f5:∀w<4,mvAdd (2*w) ((2*w+5) % 8) ((2*w+6) % 8)=true:=by decide
theorem f6:∀w<4,mvNil (2*w) ((2*w+4) % 8)=true:=by decide
theorem f7:∀w<4,(2*((w+1) % 4)+5) % 8=(2*w+7) % 8:=by decide
theorem f8:∀w<4,(2*((w+1) % 4)+4) % 8=(2*w+6) % 8:=by decide
theorem odd7(w:Nat):(2*w+7) % 8 % 2=1:=by lia
theorem zcB{C:Cell -> Bool}{e:Edge}(h:IsE C e) :
  (C (go e.c ((2*e.w+7) % 8))=true/\stepB C e=some ((2*e.w+7) % 8)/\nxt C e=⟨go e.c ((2*e.w+7) % 8),(e.w+3) % 4⟩) ∨
  (C (go e.c ((2*e.w+7) % 8))=false/\C (go e.c (2*e.w))=true/\stepB C e=some (2*e.w)/\nxt C e=⟨go e.c (2*e.w),e.w⟩) ∨
  (C (go e.c ((2*e.w+7) % 8))=false/\C (go e.c (2*e.w))=false/\stepB C e=none/\nxt C e=⟨e.c,(e.w+1) % 4⟩):=by
 unfold nxt stepB
 by_cases h1:C (go e.c ((2*e.w+7) % 8))=true
 .left;rw[if_pos h1];exact⟨h1,rfl,by simp only[edgeB];rw[if_pos (odd7 _)]⟩
 .right;have h1':C (go e.c ((2*e.w+7) % 8))=false:=by simpa using h1
  rw[if_neg h1]
  by_cases h2:C (go e.c (2*e.w))=true
  .left;rw[if_pos h2];exact⟨h1',h2,rfl,by simp only[edgeB];rw[if_neg (by lia)]⟩
  .right;rw[if_neg h2];exact⟨h1',by simpa using h2,rfl,rfl⟩
theorem zkQ{C:Cell->Bool}{e:Edge}(h:IsE C e):IsE C (nxt C e):=by
 obtain⟨hw,hc,hg⟩:=id h;rcases zcB h with⟨h1,_,q⟩ |⟨h1,h2,_,q⟩ |⟨h1,h2,_,q⟩ <;> rw[q]
 .refine⟨Nat.mod_lt _ (by decide),h1,?_⟩;unfold gap;rw[go_go (f1 _ hw)];exact hg
 .refine⟨hw,h2,?_⟩;unfold gap;rw[go_go (f2 _ hw)];exact h1
 .refine⟨Nat.mod_lt _ (by decide),hc,?_⟩;unfold gap;simp only;rw[f3 _ hw];exact h2
theorem zi5{C:Cell->Bool}{e:Edge}(h:IsE C e):prv C (nxt C e)=e:=by
 obtain⟨hw,hc,hg⟩:=id h;unfold gap at hg;rcases zcB h with⟨h1,_,q⟩ |⟨h1,h2,_,q⟩ |⟨h1,h2,_,q⟩ <;> rw[q] <;> unfold prv <;> simp only
 .rw[zjB (f4 _ hw),if_pos hc];rw[show ((e.w+3) % 4+1) % 4=e.w by lia]
 .rw[go_go (f5 _ hw),hg,if_neg (by decide),zjB (f6 _ hw),if_pos hc]
 .rw[f7 _ hw,h1,if_neg (by decide),f8 _ hw,hg,if_neg (by decide)];rw[show ((e.w+1) % 4+3) % 4=e.w by lia]
theorem zgT{C:Cell->Bool}{e f:Edge}(he:IsE C e)(hf:IsE C f)(h:nxt C e=nxt C f):e=f:=by rw[<- zi5 he,<- zi5 hf,h]
noncomputable def Chain(C:Cell->Bool)(b:Edge)(es:List Edge):Prop:=es[0]?=some b/\(∀i e f,es[i]?=some e->es[i+1]?=some f->f=nxt C e)/\(∀e∈es,IsE C e)/\es.Nodup
theorem Chain.start{C:Cell->Bool}{b:Edge}(h:IsE C b):Chain C b [b] :=
 ⟨rfl,λi e f _ h2=>by simp at h2,λe he=>by rw[AN.mp he];exact h,by simp⟩
theorem Chain.more{C:Cell->Bool}{b l:Edge}{es:List Edge}(h:Chain C b (es++[l]))(hn:nxt C l≠b):Chain C b ((es++[l])++[nxt C l]):=by
 obtain⟨h0,hs,hE,hnd⟩:=h;have hl:(es++[l])[es.length]?=some l:=by simp
 have lE:=hE l (by simp);refine⟨?_,λi e f h1 h2=>?_,λe he=>?_,?_⟩
 .rw[Am (by simp)];exact h0
 .rcases A3 (i+1) (es++[l]).length with hi |hi
  .rw[Am (by lia)]at h1;rw[Am hi]at h2;exact hs i e f h1 h2
  .have hi2:=(Ab.mp h2).1;simp at hi2 hi;have hi3:i=es.length:=by lia
   subst hi3;rw[Am (by simp)]at h1;rw[hl]at h1
   cases h1
   rw[Au (by simp)]at h2;simp at h2;exact h2.symm
 .rcases Ba.mp he with he |he
  .exact hE e he
  .rw[AN.mp he];exact zkQ lE
 .rw[List.nodup_append];refine⟨hnd,by simp,λx hx y hy=>?_⟩;rw[AN.mp hy];intro e;subst e;obtain⟨i,hi,ei⟩:=AM hx;rcases Nat.eq_zero_or_pos i with rfl |hp
  .rw[Aa hi,ei]at h0;exact hn (A2 h0)
  .have hi':i-1<(es++[l]).length:=by lia
   have e1:=hs (i-1) ((es++[l])[i-1]) (nxt C l) (Aa hi') (by rw[show i-1+1=i by lia,Aa hi,ei]);have e2:=zgT lE (hE _ (AU hi')) e1;have e3:es.length=i-1:=(List.getElem?_inj (by simp) hnd).mp (by rw[hl,Aa hi',<- e2]);simp at hi;lia
theorem za2{α:Type} [DecidableEq α]:∀{a b:List α},a.Nodup->(∀x∈a,x∈b)->a.length<=b.length
 |[],_,_,_=>AV _
 |x::a,b,hn,hs=>by
  have hx:x∈b:=hs x Ay
  have h1:=za2 (a:=a) (b:=b.erase x) (Cb.mp hn).2 (λy hy=>by refine (List.mem_erase_of_ne ?_).mpr (hs y (Ao _ hy));intro e;subst e;exact (Cb.mp hn).1 hy)
  rw[List.length_erase_of_mem hx]at h1;have:0<b.length:=List.length_pos_of_mem hx;simp only[AO];lia
noncomputable def sides(cs:List Cell):List Edge:=cs.flatMap λc=>(As 4).map λw=>⟨c,w⟩
theorem zbu(cs:List Cell):(sides cs).length=4*cs.length:=by
 unfold sides
 induction cs with
 |nil=>rfl
 |cons c r ih=>rw[List.flatMap_cons,Aj,ih];simp;lia
theorem zde{cs:List Cell}{e:Edge}:e∈sides cs ↔ e.c∈cs/\e.w<4:=by
 unfold sides;rw[List.mem_flatMap];constructor
 .rintro⟨c,hc,h⟩;obtain⟨w,hw,rfl⟩:=AL.mp h;exact⟨hc,Cs.mp hw⟩
 .rintro⟨hc,hw⟩;exact⟨e.c,hc,AL.mpr ⟨e.w,List.mem_range.mpr hw,rfl⟩⟩
noncomputable def isIn(cs:List Cell)(c:Cell):Bool:=decide (c∈cs)
theorem Chain.short{cs:List Cell}{b:Edge}{es:List Edge}(h:Chain (isIn cs) b es):es.length<=4*cs.length:=by rw[<- zbu];exact za2 h.2.2.2 λe he=>zde.mpr ⟨of_decide_eq_true (h.2.2.1 e he).2.1,(h.2.2.1 e he).1⟩
noncomputable def allE(cs:List Cell):List Edge:=(sides cs).filter λe=>!isIn cs (gap e)
theorem zhB{cs:List Cell}{e:Edge}:e∈allE cs ↔ IsE (isIn cs) e:=by
 unfold allE;rw[List.mem_filter,zde];unfold IsE isIn;constructor
 .rintro⟨⟨h1,h2⟩,h3⟩;exact⟨h2,decide_eq_true h1,by simpa using h3⟩
 .rintro⟨h1,h2,h3⟩;exact⟨⟨of_decide_eq_true h2,h1⟩,by simpa using h3⟩
noncomputable def dx(w:Nat):Int:=if w=0 then 1 else if w=2 then -1 else 0
noncomputable def dy(w:Nat):Int:=if w=1 then 1 else if w=3 then -1 else 0
noncomputable def px(e:Edge):Int:=e.c.1+(if e.w=1∨e.w=2 then 1 else 0)
noncomputable def py(e:Edge):Int:=e.c.2+(if e.w=2∨e.w=3 then 1 else 0)
theorem zkO{C:Cell->Bool}{e:Edge}(h:IsE C e):px (nxt C e)=px e+dx e.w/\py (nxt C e)=py e+dy e.w:=by
 have hw:=h.1
 rcases zcB h with⟨_,_,q⟩ |⟨_,_,_,q⟩ |⟨_,_,_,q⟩ <;> rw[q] <;> obtain⟨c,w⟩:=e <;> simp only at hw <;>
  rcases way4 hw with rfl |rfl |rfl |rfl <;> simp[px,py,dx,dy,go,mv] <;> lia
theorem zlY{C:Cell->Bool}{e:Edge}(h:IsE C e):(nxt C e).w=(e.w+3) % 4∨(nxt C e).w=e.w∨(nxt C e).w=(e.w+1) % 4:=by
 rcases zcB h with⟨_,_,q⟩ |⟨_,_,_,q⟩ |⟨_,_,_,q⟩ <;> rw[q]
 .exact .inl rfl
 .exact .inr (.inl rfl)
 .exact .inr (.inr rfl)
noncomputable def Closed(C:Cell->Bool)(b:Edge)(es:List Edge):Prop:=Chain C b es/\∃l,es[es.length-1]?=some l/\nxt C l=b
theorem psum{C:Cell->Bool}{b:Edge}{es:List Edge}(h:Chain C b es):∀i e,es[i]?=some e->px e=px b+((es.take i).map λe=>dx e.w).sum/\py e=py b+((es.take i).map λe=>dy e.w).sum
 | 0,e,he=>by
  have h0:=h.1;rw[he]at h0
  cases h0
  simp
 |i+1,e,he=>by
  have hi:i+1<es.length:=(Ab.mp he).1;have h1:es[i]?=some es[i]:=Aa (by lia)
  obtain⟨a,c⟩:=psum h i _ h1;have hn:=h.2.1 i _ e h1 he;obtain⟨p,q⟩:=zkO (h.2.2.1 _ (AU (show i<es.length by lia)));rw[<- hn]at p q;rw[List.take_succ,h1];simp only[Option.toList_some,Ax,AW,List.map_nil,List.sum_append,Cn,List.sum_nil];lia
theorem Closed.sums{C:Cell->Bool}{b:Edge}{es:List Edge}(h:Closed C b es):(es.map λe=>dx e.w).sum=0/\(es.map λe=>dy e.w).sum=0:=by
 obtain⟨hc,l,hl,hb⟩:=h;have hlt:=(Ab.mp hl).1;obtain⟨a,c⟩:=psum hc _ l hl;have hlm:=(Ab.mp hl).2;obtain⟨p,q⟩:=zkO (hc.2.2.1 l (by rw[<- hlm];exact AU _));rw[hb]at p q
 have e:es=es.take (es.length-1)++[l]:=by have:=List.take_succ (l:=es) (i:=es.length-1);rw[hl,show es.length-1+1=es.length by lia,AX]at this;simpa using this
 have s1:(es.map λe=>dx e.w).sum=((es.take (es.length-1)).map λe=>dx e.w).sum+dx l.w:=by
  conv=>lhs;rw[e]
  simp
 have s2:(es.map λe=>dy e.w).sum=((es.take (es.length-1)).map λe=>dy e.w).sum+dy l.w:=by
  conv=>lhs;rw[e]
  simp
 lia
theorem zh0{l:List Int}(h:∀x∈l,0<=x):0<=l.sum:=by
 induction l with
 |nil=>simp
 |cons a r ih =>
  have:=h a Ay;have:=ih λx hx=>h x (Ao _ hx)
  simp only[Cn];lia
theorem zdO{l:List Int}(h:∀x∈l,0<=x)(hs:l.sum=0):∀x∈l,x=0:=by
 induction l with
 |nil=>intro x hx;cases hx
 |cons a r ih =>
  have h1:=h a Ay;have h2:=zh0 λx hx=>h x (Ao _ hx)
  simp only[Cn]at hs;intro x hx;rcases At.mp hx with rfl |hx
  .lia
  .exact ih (λx hx=>h x (Ao _ hx)) (by lia) x hx
theorem zlB(l:List Int):(l.map λx=>-x).sum=-l.sum:=by
 induction l with
 |nil=>rfl
 |cons a r ih=>simp only[AW,Cn,ih];lia
theorem zjM(l:List Int)(d:Int)(h:∀x∈l,x=d):l.sum=d*l.length:=by
 induction l with
 |nil=>simp
 |cons a r ih =>
  have h1:=h a Ay;have h2:=ih λx hx=>h x (Ao _ hx)
  simp only[Cn,AO,h1,h2];rw[Int.natCast_add,Int.mul_add];lia
theorem Closed.has{C:Cell->Bool}{b:Edge}{es:List Edge}(h:Closed C b es){k:Nat}(hk:k=0∨k=2):∃e∈es,e.w=k:=by
 apply CU
 intro hno;have hno':∀e∈es,e.w≠k:=λe he z=>hno ⟨e,he,z⟩
 obtain⟨s1,s2⟩:=h.sums;obtain⟨hc,_⟩:=h
 have hpos:0<es.length:=by have:=hc.1;exact (Ab.mp this).1
 have z:∀e∈es,dx e.w=0:=by
  rcases hk with rfl |rfl
  .have := zdO (l := (es.map λe => dx e.w).map λx => -x) (λx hx => by obtain⟨y,hy,rfl⟩:=AL.mp hx;obtain⟨e,he,rfl⟩:=AL.mp hy;have:=hno' e he;unfold dx;rw[if_neg this];split <;> decide) (by rw[zlB,s1];rfl)
   intro e he;have:=this (-(dx e.w)) (AL.mpr ⟨_,AL.mpr ⟨e,he,rfl⟩,rfl⟩);lia
  .have := zdO (l := es.map λe => dx e.w) (λx hx => by obtain⟨e,he,rfl⟩:=AL.mp hx;have:=hno' e he;unfold dx;rw[if_neg this];split <;> decide) s1
   intro e he;exact this _ (AL.mpr ⟨e,he,rfl⟩)
 have odd:∀e∈es,e.w=1∨e.w=3:=λe he=>by
  have h4:=(hc.2.2.1 e he).1;have hz:=z e he;rcases way4 h4 with q |q |q |q
  .rw[q]at hz;exact absurd hz (by decide)
  .exact .inl q
  .rw[q]at hz;exact absurd hz (by decide)
  .exact .inr q
 have same:∀(i:Nat) (e:Edge),es[i]?=some e->e.w=b.w:=by
  intro i
  induction i with
  |zero=>intro e he;have:=hc.1;rw[he]at this;cases this;rfl
  |succ i ih =>
   intro e he;have hi:i+1<es.length:=(Ab.mp he).1;have h1:es[i]?=some es[i]:=Aa (by lia)
   have hn:=hc.2.1 i _ e h1 he;have m1:es[i]∈es:=AU _;have m2:e∈es:=Ag he;have w1:=ih _ h1;have o1:=odd _ m1;have o2:=odd _ m2;have:=zlY (hc.2.2.1 _ m1);rw[<- hn]at this;lia
 have all:∀x∈es.map (λe=>dy e.w),x=dy b.w:=λx hx=>by obtain⟨e,he,rfl⟩:=AL.mp hx;obtain⟨i,hi,ei⟩:=AM he;rw[same i e (by rw[Aa hi,ei])]
 have t:=zjM _ _ all;rw[s2,Af]at t
 have ob:b.w=1∨b.w=3:=by have:=hc.1;exact odd b (Ag this)
 have d1:dy b.w=1∨dy b.w=-1:=by rcases ob with q |q <;> rw[q] <;> decide
 rcases d1 with q |q <;> rw[q]at t <;> lia
end RP
namespace L2
open PySem PySem.Spec PyProof.Rows
structure Fn (P:AK) (w:A1) (K:W.Frag) (mg:Str->Option Ad) (base:Heap) (k:Nat) (x:Str) (ps:List Str) (sp:Sp) where
 f:Addr
 fd:Bs
 ok:FnOk P w K mg base CX0 k f fd ps sp
 m:mg x=some (.ref f)
 kp:W.keepIn K (.ref f)=true
 b:Binds K fd ps []
structure Df (K:W.Frag) (mg:Str->Option Ad) (x:Str) (st:Stmt) (ps:List Str) where
 f:Addr
 fd:Bs
 F:Fun K x x st f fd
 m:mg x=some (.ref f)
 b:Binds K fd ps []
noncomputable def Df.fn{P:AK}{w:A1}{K:W.Frag}{mg:Str->Option Ad}{base:Heap}{k:Nat}{x:Str}{st:Stmt}{ps:List Str}{sp:Sp}(d:Df K mg x st ps)(h:FnOk P w K mg base CX0 k d.f d.fd ps sp):Fn P w K mg base k x ps sp :=
 ⟨d.f,d.fd,h,d.m,d.F.kp,d.b⟩
structure Ways (P:AK) (w:A1) (K:W.Frag) (mg:Str->Option Ad):Prop where
 ex:∃(B:Addr) (t1 t2 t3 t4:Tok) (n:Nat),mg "BEGIN_WAYS" = some (.ref B)/\K.lookup B=some ⟨.type "dict",none,.dict #[⟨B5 w.params "rim",.str "rim" t1,.int 0 t2⟩,⟨B5 w.params "hole",.str "hole" t3,.int 2 t4⟩] n,#[]⟩
noncomputable def tWays (ti:TE):TE:=λσ H Q=>ti σ H λy H1=>(y=.str "rim" /\ Q (.int 0) H1)∨(y=.str "hole" /\ Q (.int 2) H1)
theorem zlo {X:Cx}{i:Expr}{ti:TE}{p pos:Pos}(hg:Gl X "BEGIN_WAYS") (hw:Ways X.prog X.w X.K X.mg) (hi:PE X i ti) (hs:NoSl i:=by exact λ_ _=>rfl):PE X (.Subscript (.Name "BEGIN_WAYS" p) i pos) (tWays ti):=by
 intro pins s σ H Q I h;obtain⟨B,t1,t2,t3,t4,n,hm,hl⟩:=hw.ex;refine zla PySem.F.slot_dict_getitem.lookup hs (thn ((zfi (v:=.ref B) hg hm rfl:PE X (.Name "BEGIN_WAYS" p) _) pins s σ H (λv H1=>v=V.ref B/\H1=H) I ⟨rfl,rfl⟩) λu s1 ⟨x,H1,I1,rx,q1⟩=>?_);obtain⟨rfl,rfl⟩:=q1;obtain rfl:u=AB B:=rx;refine thn (hi pins s1 σ H1 _ I1 h) λiv s2 ⟨y,H2,I2,ry,q2⟩=>?_
 have ho:s2.heap.get? B=some _:=I2.kIn B _ hl
 have mo:s2.heap.MapOf (za6 X.prog X.w) B (PySem.findBy (za6 X.prog X.w).is #[⟨B5 X.w.params "rim",.str "rim" t1,.int 0 t2⟩,⟨B5 X.w.params "hole",.str "hole" t3,.int 2 t4⟩]) :=
  ⟨_,_,_,ho,⟨rfl,rfl,rfl⟩,rfl,λe he=>by
   simp only[List.mem_toArray,At,A9,or_false]at he;rcases he with rfl |rfl
   .exact⟨.inr "rim",zcX _ _ _ _,rfl⟩
   .exact⟨.inr "hole",zcX _ _ _ _,rfl⟩,λ_=>rfl⟩
 refine⟨⟨_,ho,rfl⟩,?_⟩;rcases q2 with⟨rfl,q⟩ |⟨rfl,q⟩
 .exact wpAny_getItem_of (kV_is (k:=.inr "rim") ry) mo (v:=.int 0 t2) rfl ⟨.int 0,H2,I2.tok _,⟨_,rfl⟩,q⟩
 .exact wpAny_getItem_of (kV_is (k:=.inr "hole") ry) mo (v:=.int 2 t4) rfl ⟨.int 2,H2,I2.tok _,⟨_,rfl⟩,q⟩
section
variable {X:Cx}{K:W.Frag}
theorem zlI(hK:X.K=K:=by rfl):IxR X (rIxT K):=by subst hK;exact zap
theorem zcn(hK:X.K=K:=by rfl):IxR X (rIxL K):=by subst hK;exact zat
theorem zj8(hK:X.K=K:=by rfl):SlR X (rSlL K):=by subst hK;exact zaP
theorem zfw (hK:X.K=K:=by rfl):CallR X (.builtin "len") (λxs H Q=>∃p ys,xs=[.ref p]/\(SqL K H p ys∨SqT K H p ys)/\Q (.int ys.length) H):=by subst hK;exact zan
theorem zbo{es:List Expr}{k:Nat}{t:TGs}{n:Nat}{pos:Pos}(hc:X.calm=true)(h:PGs X es t)
  (hn:(Db es X.env).length=n:=by rfl) (hst:(Db es X.env).findIdx? (·.1)=none:=by rfl) (hK:X.K=K:=by rfl):PG X (.Tuple es k pos) (gTup K n t):=by
 subst hK;exact zbr hc h hn hst
theorem zht{tg l:Expr}{tl:TE}(hl:PE X l tl)(hK:X.K=K:=by rfl):PI X tg l (iList K tl):=by subst hK;exact zaM hl
end
theorem zjo (a b c d:Ad):argsOk "min" ⟨[a,b,c,d],[]⟩:=by unfold argsOk;kernel_rfl
section
variable {X:Cx}
theorem zjP (hc:X.calm=true):CallR X (.builtin "min") (λxs H Q=>∃i j k l,xs=[.int i,.int j,.int k,.int l]/\∀n,Q (.int n) H):=by
 intro pins s σ H xs us Q I r h;obtain⟨i,j,k,l,rfl,q⟩:=h
 cases r with
 |cons r1 r =>
 cases r with
 |cons r2 r =>
 cases r with
 |cons r3 r =>
 cases r with
 |cons r4 r =>
 cases r with
 |nil =>
 obtain⟨t1,rfl⟩:=r1;obtain⟨t2,rfl⟩:=r2;obtain⟨t3,rfl⟩:=r3;obtain⟨t4,rfl⟩:=r4;have hh:=I.ok.hd hc;have nm:(toString "min" ++ toString ".loop" : String) = "min.loop":=by decide
 refine call_function_tree F.kind_min F.plain_min F.entry_min (zjo _ _ _ _) ?_
 show Ar _ X.A.in1 (BW "min" ["key","default"] 0 ⟨[],[]⟩ >>= _) _ _ s;refine Ac (wpAny_of_eq (show BW "min" ["key","default"] 0 ⟨[],[]⟩=pure [none,none] from rfl) ?_);show Ar _ X.A.in1 (newTuple [.int i t1,.int j t2,.int k t3,.int l t4] >>= _) _ _ s;refine Ac (Bl ?_);have hT:(s.heap.push { cls:=.type "tuple",data:=.seq #[.int i t1,.int j t2,.int k t3,.int l t4] }).IsTuple s.heap.objs.size (intItems #[(i,t1),(j,t2),(k,t3),(l,t4)]):=⟨_,AG _ rfl,rfl,0,by simp[intItems]⟩;refine Ac (wpAny_pyIter_tuple hT ?_);refine Ac (Bl ?_);rw[nm];generalize e1:s.heap.push { cls:=.type "tuple",data:=.seq #[.int i t1,.int j t2,.int k t3,.int l t4] }=h1 at hT;have hs1:h1.objs.size=s.heap.objs.size+1:=by rw[<- e1];exact Heap.size_push ..
 have k1:∀b o,s.heap.get? b=some o->h1.get? b=some o:=λb o e=>by rw[<- e1];exact Ai _ e
 show Ar (Av X.prog X.w) X.A.in1 (again (.builtin "min.loop" ⟨[.ref h1.objs.size,.none,.ref (h1.push _).objs.size],[]⟩)) _ _ { s with heap:=(h1.push _).push _ };have hs2:∀o:Obj,(h1.push o).objs.size=s.heap.objs.size+2:=λo=>by rw[Heap.size_push,hs1]
 have W:=Walks.tuple (prog:=X.prog) (w:=X.w) (A:=X.A.in1) hh h1.objs.size s.heap.objs.size (by rw[hs1];exact AC (Nat.lt_succ_self _)) (intItems #[(i,t1),(j,t2),(k,t3),(l,t4)])
 refine Al ⟨CD F.plain_min_loop _,codeAny_min_loop_first W _ (CmpOf.ints_lt (numAt #[(i,t1),(j,t2),(k,t3),(l,t4)]) (λ_ _=>intItems_at)) _ (λhm=>?_) (by simp[intItems])
  (W.frame _ _ _ ⟨⟨_,AG _ rfl,rfl,rfl⟩,hT.push _⟩ λb _ o e=>Ai _ e) (AG _ rfl) λv h' tk hP hk=>?_⟩
 .rw[hs2]at hm;rcases At.mp hm with z |z
  .rw[hs1]at z;have z':(s.heap.objs.size+2:Nat)=s.heap.objs.size+1:=z;lia
  .have z':(s.heap.objs.size+2:Nat)=s.heap.objs.size:=AN.mp z;lia
 .obtain⟨t,ht⟩:=intItems_at hP;refine⟨.int _,H,I.kept λb o e=>hk b o (λhm=>?_) ?_ (Ai _ (Ai _ (k1 b o e))),⟨t,ht⟩,q _⟩
  .have h1':=Ap e;have z:=AN.mp hm;rw[hs1]at z;subst z;exact absurd h1' (Nat.not_lt_of_le (Cu _))
  .have h1':=Ap e;intro z;rw[hs2]at z;subst z;exact absurd h1' (Nat.not_lt_of_le (A5 _ 2))
noncomputable def rSlTW(K:W.Frag):V->Option Int->Option Int->Hp->VK->Prop:=λx lo hi H Q=>∃a xs,x=.ref a/\SqT K H a xs /\
 ((HT.sIx xs.length 0 lo=0/\HT.sIx xs.length xs.length hi=xs.length)->Q (.ref a) H) /\
 (¬ (HT.sIx xs.length 0 lo=0/\HT.sIx xs.length xs.length hi=xs.length)->∀p,H p=none->Q (.ref p) (upd H p (.tup (cutV xs lo hi))))
end
end L2
namespace HT
open PySem PyProof.Rows
variable {prog:AK}{w:A1}{A:AQ}{E:Ad->Ae->Prop}{s:Ae}
theorem getItem_tuple_all{t sl:Addr}{items:Array Ad}{vl vu:Ad}{lo hi:Option Int}{Q:Ad -> Ae -> Prop}(ht:IsTup s.heap t items)(hs:s.heap.IsSliceOf sl vl vu .none)(pl:IsPart vl lo)(pu:IsPart vu hi)
  (hw:sIx items.size 0 lo=0/\sIx items.size items.size hi=items.size) (h:Q (.ref t) s):Ar (Av prog w) A (getItem (.ref t) (.ref sl)) Q E s:=by
 obtain⟨os,hos,hcs,hds⟩:=id hs;have hTs:s.TypeIs (.ref sl) "slice":=⟨os,hos,hcs⟩;unfold getItem
 try with_reducible refine A7 ?_
 first |refine Ac (Al ?_) |skip
 refine Ac (wpAny_sequenceKey ht.typeIs (by decide) ?_)
 refine Ac (Cq (name:=AR "__getitem__") ht.typeIs Bi
  (wpAny_call_entry Bi ht.typeIs entry_tuple_getitem ?_ (args_tuple_getitem _ _)))
 show Ar _ _ (Builtin.Tuple.tupleItemsOf (.ref t) >>= _) _ _ s;refine Ac (tupleItemsOf_ ht ?_);refine Ac (wpAny_typeOf hTs ?_);rw[if_pos (by decide)];refine Ac (zcr hs pl pu ?_)
 have hyes:(((sIx items.size 0 lo:Nat):Int) == 0 && (1:Int) == 1 && (sIx items.size items.size hi-sIx items.size 0 lo) == items.size)=true:=by rw[hw.1,hw.2];simp
 show Ar _ _ (if (((sIx items.size 0 lo:Nat):Int) == 0 && (1:Int) == 1 && (sIx items.size items.size hi-sIx items.size 0 lo) == items.size)=true then _ else _) _ _ s;rw[if_pos hyes];refine Ac ?_
 unfold Builtin.Tuple.tupleIsExact;refine Ac (wpAny_typeOf ht.typeIs (Al ?_));rw[if_pos (by decide)];exact Ac (wpAny_rule (Al ⟨_,rfl,Al h⟩))
end HT
namespace L2
open PySem PySem.Spec PyProof.Rows
section
variable {X:Cx}{K:W.Frag}
theorem ziT:SlR X (rSlTW X.K):=by
 intro pins s σ H x v vl vu lo hi sl Q I rx hs pl pu h;obtain⟨a,xs,rfl,hx,q1,q2⟩:=h
 by_cases hw:HT.sIx xs.length 0 lo=0/\HT.sIx xs.length xs.length hi=xs.length
 .cases rx
  obtain⟨its,r,ht,hz⟩:=I.tuple hx;have hlen:its.toArray.size=xs.length:=by rw[An];exact r.length.symm
  refine⟨"tuple",_,Bi.lookup,ht.typeIs,?_⟩;exact HT.getItem_tuple_all ht hs pl pu (by rw[hlen];exact hw) ⟨.ref a,H,I,rfl,q1 hw⟩
 .exact zl5 pins s σ H _ v vl vu lo hi sl Q I rx hs pl pu ⟨a,xs,rfl,hx,hw,q2 hw⟩
end
section
variable {prog:AK}{w:A1}{K:Type} [DecidableEq K] {knd:HeapKind prog w K}{A:AQ}{E:Ad->Ae->Prop}{s:Ae}{d a:Addr}{xs:List (K×Addr×Ad)}{k:K}{dflt:Ad}
end
section
variable {X:Cx}{o e f:Expr}{apos cpos:Pos}{td ty tx:TE}
end
structure Two (P:AK) (w:A1) (K:W.Frag) (mg:Str->Option Ad) (nm:Str) (a b:Int):Prop where
 ex:∃(B:Addr) (t1 t2 t3 t4:Tok) (n:Nat),mg nm=some (.ref B)/\K.lookup B=some ⟨.type "dict",none,.dict #[⟨B5 w.params "rim",.str "rim" t1,.int a t2⟩,⟨B5 w.params "hole",.str "hole" t3,.int b t4⟩] n,#[]⟩
section
variable {X:Cx}
theorem Inv.turned2{pins:List (Addr × Obj)}{σ : St}{H:Hp}{s:Ae}{h':Heap}{t':Nat}{e it:Addr}(I:Inv X pins σ H s)(k:∀b o, b ≠ e -> b ≠ it -> s.heap.get? b=some o -> h'.get? b=some o)(fe:FpOk X pins H e)(fi:FpOk X pins H it) :
  Inv X pins σ H { s with heap:=h',toks:=t' }:=by
 obtain⟨f0,f1,f2,f3,f4,f5⟩:=fe;obtain⟨g0,g1,g2,g3,g4,g5⟩:=fi;have nb:∀b u,H b=some u->b≠e/\b≠it:=λb u q=>⟨(λz=>by rw[z,f0]at q;cases q),(λz=>by rw[z,g0]at q;cases q)⟩
 have out:∀b,b ∉ [e,it]->b≠e/\b≠it:=λb hc=>⟨λz=>hc (by simp[z]),λz=>hc (by simp[z])⟩
 refine I.step (g':=s.gens) (d':=s.drawn) (ch:=[e,it]) (λb hb=>?_) (λb o _ _ hc q _=>k b o (out b hc).1 (out b hc).2 q) (λb o _ _ hc q _=>⟨o.slots,k b o (out b hc).1 (out b hc).2 q⟩) (λ_ _ _ _ n=>n)
  (λb o hc q=>⟨o,k b o (out b hc).1 (out b hc).2 q⟩) (λ_ _ q=>q) (λ_ _ _ q=>q) (λb ps q=>⟨#[],by rw[q];simp⟩) (λm hm=>?_) (λb u q=>?_) I.bare
 .rcases At.mp hb with z |z
  .subst z;exact⟨f3,f1,f4,f5⟩
  .have z':b=it:=by simpa using z
   subst z';exact⟨g3,g1,g4,g5⟩
 .obtain⟨o,es,ep,ho,r⟩:=hm;exact⟨o,es,ep,k _ o (By f1) (By g1) ho,r⟩
 .refine (I.hok b u q).stay (λc v hc q'=>?_) (λ_ q=>q) λ_ _ q=>q
  rcases hc with z |z
  .rw[z]at q' ⊢;exact k _ _ (nb b u q).1 (nb b u q).2 q'
  .exact k _ _ (nb c _ z).1 (nb c _ z).2 q'
noncomputable def Ite(K:W.Frag)(a:Addr):It :=
 ⟨λi H=>∃xs x,SqL K H a xs/\xs[i]?=some x,λi H y H'=>∃p x,y=.ref p/\H p=none/\H'=upd H p (.tup [.int i,x])/\∀xs,SqL K H a xs->xs[i]?=some x,λi H=>∃xs,SqL K H a xs/\xs.length<=i⟩
theorem ziy{P:AK}{w:A1}{K:W.Frag}{es:List Expr}{x1:Nat}{pos:Pos}(a e it:Addr)(hne:e≠it):Turn P w K (.Tuple es x1 pos) (Ite K a) [e,it] e (λi h=>∃old,IsEnum h e it ((i:Nat):Int) old/\h.IsListIter it a i) where
 mem:=by simp
 obj:=λi h st b hb=>by
  obtain⟨old,h1,o,h2,c,d⟩:=st;rcases At.mp hb with z |z
  .subst z;exact⟨_,h1,λv q=>nomatch q⟩
  .have z':b=it:=by simpa using z
   subst z';exact⟨o,h2,λv q=>by rw[d]at q;cases q⟩
 keep:=λi h h' ⟨old,h1,h2⟩ k=>⟨old,k e (by simp) _ h1,h2.at λo q=>k it (by simp) o q⟩
 item:=by
  intro X hP hw hK hc i pins s σ H E I hf st hg;subst hP hw hK;obtain⟨old,he,hit⟩:=st;obtain⟨xs,x,hq,hx⟩:=hg;obtain⟨its,rv,p,hz⟩:=I.list hq;obtain⟨u,hu,ru⟩:=rv.get hx;have fe:=hf e (by simp);have fi:=hf it (by simp);refine wpAny_pyNext_enum_item he hit p.isList (x:=u) (by simpa using hu) hne λh1 eo it1 tup sz kk=>⟨_,rfl,?_⟩
  refine wpAny_letOwnedTupleGo_enum (s:={ s with heap:=h1,toks:=s.toks+1 }) eo λh2 he2 sb=>?_
  have heS:e<s.heap.objs.size:=Ap he;have hiS:it<s.heap.objs.size:=by obtain⟨o,q,_⟩:=hit;exact Ap q
  have fr:H s.heap.objs.size=none:=I.hok.fresh (Ah _)
  have I1:Inv X pins σ (upd H s.heap.objs.size (.tup [.int i,x])) { s with heap:=s.heap.push { cls:=.type "tuple",data:=.seq #[.int i s.toks,u] },toks:=s.toks } :=
   I.laid (t':=s.toks) (o:=.tup [.int i,x]) (λb ob q=>Ai _ q) (Ah _) ⟨by show 2<=sizeLine;decide,_,.cons ⟨_,rfl⟩ (.cons ru .nil),IsTup.new _ _⟩
  have up:∀{b:Addr},b<s.heap.objs.size->∀o,upd H s.heap.objs.size o b=H b:=λhb o=>zam (AC hb)
  have fe1:FpOk X pins (upd H s.heap.objs.size (.tup [.int i,x])) e:=⟨by rw[up heS];exact fe.1,fe.2⟩;have fi1:FpOk X pins (upd H s.heap.objs.size (.tup [.int i,x])) it:=⟨by rw[up hiS];exact fi.1,fi.2⟩
  have I2:Inv X pins σ (upd H s.heap.objs.size (.tup [.int i,x])) { s with heap:=h2,toks:=s.toks+1 }:=I1.turned2 (λb o hbe hbi q=>by
   refine (sb.2 b hbe).trans ?_
   show h1.get? b=some o;rcases Heap.get?_push_cases q with⟨z,rfl⟩ |q
   .rw[z];exact tup
   .exact kk b o hbe hbi q) fe1 fi1
  refine⟨.ref s.heap.objs.size,_,I2,rfl,⟨_,x,rfl,fr,rfl,λys hy=>by rw[I.list_inj hy hq];exact hx⟩,⟨u,?_,?_⟩,λb hb=>?_⟩
  .exact he2
  .obtain⟨o,q,c,d⟩:=it1;exact⟨o,(sb.2 it (By hne)).trans q,c,d⟩
  .rcases At.mp hb with z |z
   .subst z;exact fe1.1
   .have z':b=it:=by simpa using z
    subst z';exact fi1.1
 done:=by intro X hP hw hK hc i pins s σ H E I hf st hg;subst hP hw hK;obtain⟨old,he,hit⟩:=st;obtain⟨xs,hq,hx⟩:=hg;obtain⟨its,rv,p,hz⟩:=I.list hq;obtain⟨f0,f1,f2,f3,f4,f5⟩:=hf it (by simp);have hl:=rv.length;exact wpAny_pyNext_enum_end (I.ok.hd hc) he hit p.isList (by simp;lia) λh' eb=>⟨rfl,I.turned (t':=s.toks) (λb o hb e=>eb b o hb e) f0 f1 f3 f4 f5⟩
 self:=λ_ _ _ _ _ ⟨_,he,_⟩ h=>wpAny_pyIter_enum he h
noncomputable def iEnum(K:W.Frag)(t:TA):TI:=λσ H R=>t σ H λvs H1=>∃a,vs=[.ref a]/\(∃xs,SqL K H1 a xs)/\R (Ite K a) H1
theorem zi9 {l:Expr}{t:TA}{es:List Expr}{x1:Nat}{pos pos' p:Pos}(hg:Gl X "enumerate") (hm:X.mg "enumerate" = none) (ha:PA X [l] t)
  (he:AJ [l] X.env=(false,eval l X.env)::AJ [] X.env:=by rfl) (hpl:(Ci pos' (AJ [] X.env)).any (·.1)=false:=by rfl) :
  PI X (.Tuple es x1 pos) (.Call (.Name "enumerate" p) [l] [] pos') (iEnum X.K t):=by
 intro pins s σ H R I h;refine Bh (zbR I hg hm (by rfl) ?_ (by decide) (by decide));refine AS (thn (ha pos' pins s σ H _ I h) λus s1 ⟨vs,H1,I1,r1,q1⟩=>?_) he hpl;obtain⟨a,ex,⟨xs,hq⟩,q⟩:=q1;subst ex;obtain⟨u,rfl,rx⟩:=vals1 r1
 cases rx
 obtain⟨its,rv,pl,hz⟩:=I1.list hq;refine call_enumerate_list pl.isList λh' he hit hsz kp=>?_
 have I2:Inv X pins σ H1 { s1 with heap:=h' }:=I1.kept (t':=s1.toks) kp;refine wpAny_pyIter_enum he ?_
 refine⟨s1.heap.objs.size+1,[s1.heap.objs.size+1,s1.heap.objs.size],_,_,H1,rfl,I2,ziy a _ _ (Nat.succ_ne_self _),⟨_,he,hit⟩,λb hb=>?_,q⟩;rcases At.mp hb with z |z
 .subst z;exact I1.fpOk (Cu _) (I1.hok.fresh (Cu _))
 .have z':b=s1.heap.objs.size:=by simpa using z
  subst z';exact I1.fpOk (Ah _) (I1.hok.fresh (Ah _))
theorem zhG{K:W.Frag}{a:Addr}{xs:List V}{g:TG}{tb:TS}{D:Ends}{σ : St}{H:Hp}(Pv:Nat -> St -> Hp -> Prop)(h0:Pv 0 σ H)(hl:∀i σ H, i <= xs.length -> Pv i σ H -> SqL K H a xs)
  (hs:∀i x σ H p,xs[i]?=some x->Pv i σ H->H p=none->g (.ref p) σ (upd H p (.tup [.int i,x])) λσ2 H2=>tb { D with nx:=Pv (i+1),ct:=Pv (i+1),bk:=D.nx } σ2 H2) (hd:∀ σ H,Pv xs.length σ H->D.nx σ H) :
  ∃W:Nat->Nat->St->Hp->Prop,(∃m,W 0 m σ H)/\∀i m σ H,W i m σ H ->
   ((Ite K a).stop i H/\D.nx σ H)∨((Ite K a).go i H/\∃N:St->Hp->Prop,(∀ σ' H',N σ' H'->∃m',m'<m/\W (i+1) m' σ' H')/\∀x H',(Ite K a).yld i H x H'->g x σ H' λσ2 H2=>tb { D with nx:=N,ct:=N,bk:=D.nx } σ2 H2):=by
 refine⟨λi m σ H=>m=xs.length-i/\i<=xs.length/\Pv i σ H,⟨xs.length,by simp,AV _,h0⟩,?_⟩;rintro i m σ H ⟨rfl,hi,p⟩;have q:=hl i σ H hi p
 by_cases hlt:i<xs.length
 .refine .inr ⟨⟨xs,xs[i],q,by simp[hlt]⟩,Pv (i+1),λσ' H' p'=>⟨xs.length-(i+1),by lia,rfl,hlt,p'⟩,λx H' y=>?_⟩;obtain⟨b,z,rfl,hb,rfl,y⟩:=y;exact hs i z σ H b (y xs q) p hb
 .have e:i=xs.length:=by lia
  subst e;exact .inl ⟨⟨xs,q,Ah _⟩,hd σ H p⟩
end
end L2
namespace HT
open PySem PyProof.Rows PySem.Spec
variable {prog:AK}{w:A1}{A:AQ}{E:Ad->Ae->Prop}{s:Ae}
end HT
namespace L2
open PySem PySem.Spec PyProof.Rows
section
variable {X:Cx}{K:W.Frag}
theorem zef (hh:X.calm=true):CallR X (.builtin "any") (λxs H Q=>∃(p:Addr) (bs:List Bool),xs=[.ref p]/\SqL X.K H p (bs.map V.bl)/\Q (.bl (bs.any id)) H):=by
 intro pins s σ H xs us Q I r h;obtain⟨p,bs,rfl,hq,q⟩:=h;obtain⟨u,rfl,ru⟩:=vals1 r
 cases (show u=AB p from ru)
 obtain⟨its,rv,pl,hz⟩:=I.list hq;have hlp:p<s.heap.objs.size:=by obtain⟨o,ho,_⟩:=pl.isList;exact Ap ho
 have hlen:its.length=bs.length:=by have:=rv.length;simpa using this.symm
 refine call_any_walk (wpAny_pyIter_list pl.isList ?_);refine⟨_,_,_,_,_,_,λi=>bs.getD i false,rfl,Walks.list (A:=X.A.in1) (I.ok.hd hh) s.heap.objs.size p (AC hlp) its.toArray,⟨⟨_,AG _ rfl,rfl,rfl⟩,pl.isList.push _⟩,?_,λh' tk hk=>?_⟩
 .intro i v s1 Q1 E1 hv hQ;have hv':its[i]?=some v:=by simpa using hv
  have hi:i<its.length:=(Ab.mp hv').1;obtain⟨w',hw,rw'⟩:=rv.get (i:=i) (x:=V.bl (bs[i]'(by lia))) (by simp[Aa,show i<bs.length by lia]);rw[hv']at hw
  cases hw
  cases (show v=C9 _ from rw')
  refine Bw ?_
  have e:bs.getD i false=bs[i]'(by lia):=by simp[Ak,show i<bs.length by lia]
  rw[<- e];exact hQ
 .have I1:Inv X pins σ H { s with heap:=h',toks:=tk }:=I.kept λb o e=>hk b o (by simp;exact AC (Ap e)) (Ai _ e)
  refine⟨.bl _,H,I1,rfl,?_⟩
  have e:(As its.toArray.size).any (λi=>bs.getD i false)=bs.any id:=by
   rw[show its.toArray.size=bs.length by simpa using hlen];rw[Ca];simp only[List.any_eq_true,List.mem_range,id];constructor
   .rintro⟨i,hi,h⟩;exact⟨bs[i],AU hi,by simpa[Ak,hi]using h⟩
   .rintro⟨b,hb,h⟩;obtain⟨i,hi,e⟩:=AM hb;exact⟨i,hi,by simpa[Ak,hi,e]using h⟩
  rw[e];exact q
end
end L2
namespace HT
open PySem PyProof.Rows PySem.Spec
end HT
namespace L2
open PySem PySem.Spec PyProof.Rows
section
variable {X:Cx}{K:W.Frag}
end
section
variable {X:Cx}
theorem Inv.turnedL{pins:List (Addr × Obj)}{σ : St}{H:Hp}{s:Ae}{h':Heap}{t':Nat}{fp:List Addr}(I:Inv X pins σ H s)(k:∀b o, b ∉ fp -> s.heap.get? b=some o -> h'.get? b=some o)(hf:∀b ∈ fp, FpOk X pins H b) :
  Inv X pins σ H { s with heap:=h',toks:=t' }:=by
 have nb:∀b u,H b=some u->b ∉ fp:=λb u q z=>by rw[(hf b z).1]at q;cases q
 refine I.step (g':=s.gens) (d':=s.drawn) (ch:=fp) (λb hb=>?_) (λb o _ _ hc q _=>k b o hc q) (λb o _ _ hc q _=>⟨o.slots,k b o hc q⟩) (λ_ _ _ _ n=>n)
  (λb o hc q=>⟨o,k b o hc q⟩) (λ_ _ q=>q) (λ_ _ _ q=>q) (λb ps q=>⟨#[],by rw[q];simp⟩) (λm hm=>?_) (λb u q=>?_) I.bare
 .obtain⟨_,f1,_,f3,f4,f5⟩:=hf b hb;exact⟨f3,f1,f4,f5⟩
 .obtain⟨o,es,ep,ho,r⟩:=hm;exact⟨o,es,ep,k _ o (λz=>(hf _ z).2.1 rfl) ho,r⟩
 .refine (I.hok b u q).stay (λc v hc q'=>?_) (λ_ q=>q) λ_ _ q=>q
  rcases hc with z |z
  .rw[z]at q' ⊢;exact k _ _ (nb b u q) q'
  .exact k _ _ (nb c _ z) q'
noncomputable def Itz(K:W.Frag)(a b:Addr):It :=
 ⟨λi H=>∃xs ys x y,SqL K H a xs/\SqL K H b ys/\xs[i]?=some x/\ys[i]?=some y,
  λi H v H'=>∃p x y,v=.ref p/\H p=none/\H'=upd H p (.tup [x,y])/\(∀xs,SqL K H a xs->xs[i]?=some x)/\∀ys,SqL K H b ys->ys[i]?=some y,
  λi H=>∃xs ys,SqL K H a xs/\SqL K H b ys/\(xs.length<=i∨ys.length<=i)⟩
theorem zj5{P:AK}{w:A1}{K:W.Frag}{es:List Expr}{x1:Nat}{pos:Pos}(a b z TI TO i1 i2:Addr)(D:ZipApart z TI TO i1 i2 a b) :
  Turn P w K (.Tuple es x1 pos) (Itz K a b) [z,TI,TO,i1,i2] z (λi h=>∃u v,IsZip h z TI TO .none/\IsPair h TI (.ref i1) (.ref i2)/\IsPair h TO u v/\h.IsListIter i1 a i/\h.IsListIter i2 b i) where
 mem:=by simp
 obj:=λi h st c hc=>by
  obtain⟨u,v,h1,h2,h3,⟨o4,e4,c4,d4⟩,⟨o5,e5,c5,d5⟩⟩:=st;simp only[At,A9,or_false]at hc;rcases hc with rfl |rfl |rfl |rfl |rfl
  .exact⟨_,h1,λv q=>nomatch q⟩
  .exact⟨_,h2,λv q=>nomatch q⟩
  .exact⟨_,h3,λv q=>nomatch q⟩
  .exact⟨o4,e4,λv q=>by rw[d4]at q;cases q⟩
  .exact⟨o5,e5,λv q=>by rw[d5]at q;cases q⟩
 keep:=λi h h' ⟨u,v,h1,h2,h3,h4,h5⟩ k=>⟨u,v,k z (by simp) _ h1,k TI (by simp) _ h2,k TO (by simp) _ h3,h4.at λo q=>k i1 (by simp) o q,h5.at λo q=>k i2 (by simp) o q⟩
 item:=by
  intro X hP hw hK hc i pins s σ H E I hf st hg;subst hP hw hK;obtain⟨u0,v0,hz,hTI,hTO,h1,h2⟩:=st;obtain⟨xs,ys,x,y,hq1,hq2,hx,hy⟩:=hg;obtain⟨its1,rv1,p1,hz1⟩:=I.list hq1;obtain⟨its2,rv2,p2,hz2⟩:=I.list hq2;obtain⟨u,hu,ru⟩:=rv1.get hx;obtain⟨v,hv,rv⟩:=rv2.get hy;refine wpAny_pyNext_zip_item D hz hTI hTO h1 h2 p1.isList p2.isList (x:=u) (y:=v) (by simpa using hu) (by simpa using hv) λh' z1 t1 l1 l2 pr sz kk=>⟨_,rfl,?_⟩
  refine wpAny_letOwnedTupleGo_zip (s:={ s with heap:=h' }) z1 λh2' z2 sb=>?_
  have lt:∀c o,s.heap.get? c=some o->c<s.heap.objs.size:=λc o q=>Ap q
  have fr:H s.heap.objs.size=none:=I.hok.fresh (Ah _);have szl:z<s.heap.objs.size:=lt _ _ hz
  have I1:Inv X pins σ (upd H s.heap.objs.size (.tup [x,y])) { s with heap:=s.heap.push { cls:=.type "tuple",data:=.seq #[u,v] },toks:=s.toks } :=
   I.laid (t':=s.toks) (o:=.tup [x,y]) (λb ob q=>Ai _ q) (Ah _) ⟨by show 2<=sizeLine;decide,_,.cons ru (.cons rv .nil),IsTup.new _ _⟩
  have fp1:∀c∈[z,TI,TO,i1,i2],FpOk X pins (upd H s.heap.objs.size (.tup [x,y])) c:=λc hc=>by
   have hlt:c<s.heap.objs.size:=by
    simp only[At,A9,or_false]at hc;rcases hc with rfl |rfl |rfl |rfl |rfl
    .exact szl
    .exact lt _ _ hTI
    .exact lt _ _ hTO
    .obtain⟨o,q,_⟩:=h1;exact lt _ _ q
    .obtain⟨o,q,_⟩:=h2;exact lt _ _ q
   have:=hf c hc;exact⟨by rw[zam (AC hlt)];exact this.1,this.2⟩
  have I2:=I1.turnedL (h':=h2') (t':=s.toks) (fp:=[z,TI,TO,i1,i2]) (λc o hc q=>by
   simp only[At,A9,or_false,not_or]at hc;refine (sb.2 c hc.1).trans ?_
   show h'.get? c=some o;rcases Heap.get?_push_cases q with⟨e,rfl⟩ |q
   .rw[e];exact pr
   .exact kk c o hc.1 hc.2.2.1 hc.2.2.2.1 hc.2.2.2.2 q) fp1
  have at2:∀{c:Addr},c≠z->h2'.get? c=h'.get? c:=λhc=>sb.2 _ hc
  refine⟨.ref s.heap.objs.size,_,I2,rfl,⟨_,x,y,rfl,fr,rfl,λzs hy'=>by rw[I.list_inj hy' hq1];exact hx,λzs hy'=>by rw[I.list_inj hy' hq2];exact hy⟩,⟨u,v,z2,?_,?_,?_,?_⟩,λc hc=>(fp1 c hc).1⟩
  .exact (at2 D.TIz).trans (kk TI _ D.TIz D.TITO D.TIi1 D.TIi2 hTI)
  .exact (at2 D.TOz).trans t1
  .exact l1.at λo q=>(at2 D.i1z).trans q
  .exact l2.at λo q=>(at2 D.i2z).trans q
 done:=by
  intro X hP hw hK hc i pins s σ H E I hf st hg;subst hP hw hK;obtain⟨u0,v0,hz,hTI,hTO,h1,h2⟩:=st;obtain⟨xs,ys,hq1,hq2,hend⟩:=hg;obtain⟨its1,rv1,p1,hz1⟩:=I.list hq1;obtain⟨its2,rv2,p2,hz2⟩:=I.list hq2;have e1:=rv1.length;have e2:=rv2.length;refine wpAny_pyNext_zip_end (I.ok.hd hc) D hz hTI hTO h1 h2 p1.isList p2.isList (hend.imp (λq=>by simp;lia) (λq=>by simp;lia)) λh' kk=>⟨rfl,?_⟩
  refine I.turnedL (t':=s.toks) (fp:=[z,TI,TO,i1,i2]) (λc o hc q=>?_) hf;simp only[At,A9,or_false,not_or]at hc;exact kk c o hc.1 hc.2.2.1 hc.2.2.2.1 hc.2.2.2.2 q
 self:=λ_ _ _ _ _ ⟨_,_,hz,_⟩ h=>wpAny_pyIter_zip hz h
noncomputable def iZip(K:W.Frag)(t:TA):TI:=λσ H R=>t σ H λvs H1=>∃a b,vs=[.ref a,.ref b]/\(∃xs,SqL K H1 a xs)/\(∃ys,SqL K H1 b ys)/\R (Itz K a b) H1
theorem zdD {l m:Expr}{t:TA}{es:List Expr}{x1:Nat}{pos pos' p:Pos}(hg:Gl X "zip") (hm:X.mg "zip" = none) (ha:PA X [l, m] t)
  (he:AJ [l,m] X.env=(false,eval l X.env)::AJ [m] X.env:=by rfl) (hpl:(Ci pos' (AJ [m] X.env)).any (·.1)=false:=by rfl) :
  PI X (.Tuple es x1 pos) (.Call (.Name "zip" p) [l,m] [] pos') (iZip X.K t):=by
 intro pins s σ H R I h;refine Bh (zbR I hg hm (by rfl) ?_ (by decide) (by decide));refine AS (thn (ha pos' pins s σ H _ I h) λus s1 ⟨vs,H1,I1,r1,q1⟩=>?_) he hpl;obtain⟨a,b,ex,⟨xs,hq1⟩,⟨ys,hq2⟩,q⟩:=q1;subst ex;obtain⟨u,v,rfl,ru,rv⟩:=vals2 r1
 cases ru
 cases rv
 obtain⟨its1,rv1,p1,hz1⟩:=I1.list hq1;obtain⟨its2,rv2,p2,hz2⟩:=I1.list hq2;have la:a<s1.heap.objs.size:=by obtain⟨o,ho,_⟩:=p1.isList;exact Ap ho
 have lb:b<s1.heap.objs.size:=by obtain⟨o,ho,_⟩:=p2.isList;exact Ap ho
 refine call_zip_2 p1.isList p2.isList λh' hz hTI hTO hi1 hi2 hsz kp=>?_
 have I2:Inv X pins σ H1 { s1 with heap:=h' }:=I1.kept (t':=s1.toks) kp;refine wpAny_pyIter_zip hz ?_
 have ne:∀i j:Nat,i≠j->(s1.heap.objs.size+i:Nat)≠s1.heap.objs.size+j:=λi j h=>by lia
 have na:∀i:Nat,a≠s1.heap.objs.size+i:=λi=>AC (AD la (A5 _ _))
 have nb:∀i:Nat,b≠s1.heap.objs.size+i:=λi=>AC (AD lb (A5 _ _))
 have D:ZipApart (s1.heap.objs.size+4) (s1.heap.objs.size+2) (s1.heap.objs.size+3) s1.heap.objs.size (s1.heap.objs.size+1) a b :=
  ⟨ne 2 4 (by decide),ne 3 4 (by decide),ne 0 4 (by decide),ne 1 4 (by decide),ne 2 3 (by decide),ne 2 0 (by decide),ne 2 1 (by decide),ne 3 0 (by decide),ne 3 1 (by decide),ne 0 1 (by decide),
   na 4,na 3,na 0,na 1,nb 4,nb 3,nb 0,nb 1⟩
 refine⟨s1.heap.objs.size+4,[s1.heap.objs.size+4,s1.heap.objs.size+2,s1.heap.objs.size+3,s1.heap.objs.size,s1.heap.objs.size+1],_,_,H1,rfl,I2,zj5 a b _ _ _ _ _ D,⟨_,_,hz,hTI,hTO,hi1,hi2⟩,λc hc=>?_,q⟩
 have hge:s1.heap.objs.size<=c:=by
  simp only[At,A9,or_false]at hc;rcases hc with rfl |rfl |rfl |rfl |rfl
  .exact A5 _ _
  .exact A5 _ _
  .exact A5 _ _
  .exact Ah _
  .exact A5 _ _
 exact I1.fpOk hge (I1.hok.fresh hge)
theorem zcD{K:W.Frag}{a b:Addr}{xs ys:List V}{g:TG}{tb:TS}{D:Ends}{σ : St}{H:Hp}(Pv:Nat -> St -> Hp -> Prop)(h0:Pv 0 σ H)(hl:∀i σ H, i <= xs.length -> Pv i σ H -> SqL K H a xs /\ SqL K H b ys)(he:xs.length=ys.length)
  (hs:∀i x y σ H p,xs[i]?=some x->ys[i]?=some y->Pv i σ H->H p=none->g (.ref p) σ (upd H p (.tup [x,y])) λσ2 H2=>tb { D with nx:=Pv (i+1),ct:=Pv (i+1),bk:=D.nx } σ2 H2) (hd:∀ σ H,Pv xs.length σ H->D.nx σ H) :
  ∃W:Nat->Nat->St->Hp->Prop,(∃m,W 0 m σ H)/\∀i m σ H,W i m σ H ->
   ((Itz K a b).stop i H/\D.nx σ H)∨((Itz K a b).go i H/\∃N:St->Hp->Prop,(∀ σ' H',N σ' H'->∃m',m'<m/\W (i+1) m' σ' H')/\∀x H',(Itz K a b).yld i H x H'->g x σ H' λσ2 H2=>tb { D with nx:=N,ct:=N,bk:=D.nx } σ2 H2):=by
 refine⟨λi m σ H=>m=xs.length-i/\i<=xs.length/\Pv i σ H,⟨xs.length,by simp,AV _,h0⟩,?_⟩;rintro i m σ H ⟨rfl,hi,p⟩;obtain⟨q1,q2⟩:=hl i σ H hi p
 by_cases hlt:i<xs.length
 .have hlt2:i<ys.length:=by lia
  refine .inr ⟨⟨xs,ys,xs[i],ys[i],q1,q2,by simp[hlt],by simp[hlt2]⟩,Pv (i+1),λσ' H' p'=>⟨xs.length-(i+1),by lia,rfl,hlt,p'⟩,λx H' y=>?_⟩;obtain⟨c,x',y',rfl,hc,rfl,e1,e2⟩:=y;exact hs i x' y' σ H c (e1 xs q1) (e2 ys q2) p hc
 .have e:i=xs.length:=by lia
  subst e;exact .inl ⟨⟨xs,ys,q1,q2,.inl (Ah _)⟩,hd σ H p⟩
end
section
variable {X:Cx}{e es:Expr}{te ts:TE}{pos p2:Pos}
noncomputable def tRevL(K:W.Frag)(te ts:TE):TE:=λσ H Q=>te σ H λx H1=>ts σ H1 λy H2=>y=.int (-1)/\∃a xs,x=.ref a/\SqL K H2 a xs/\∀p,H2 p=none->Q (.ref p) (upd H2 p (.lst xs.reverse))
theorem zlp(he:PE X e te)(hs:PE X es ts):PE X (.Subscript e (.Slice none none (some es) p2) pos) (tRevL X.K te ts):=by
 intro pins s σ H Q I h;refine Subscript_ (thn (he pins s σ H _ I h) λv s1 ⟨x,H1,I1,r1,q1⟩=>?_);refine wpAny_Slice ?_
 rw[evalPart_none,evalPart_some];refine Al (Al ?_);refine thn (hs pins s1 σ H1 _ I1 q1) λvs s3 ⟨y,H3,I3,r3,q3⟩=>?_
 obtain⟨rfl,a,xs,rfl,hx,q⟩:=q3;obtain⟨tk,rfl⟩:=r3
 cases r1
 have I4:Inv X pins σ H3 { s3 with heap:=s3.heap.push { cls:=.type "slice",data:=.fields #[.none,.none,.int (-1) tk] } }:=I3.kept (t':=s3.toks) λb ob q=>Ai _ q
 obtain⟨its,r,ht,hz⟩:=I4.list hx;have hlen:=r.length;show Ar (Av X.prog X.w) X.A (subscriptTail e (.Slice none none (some es) p2) (.ref a) (.ref s3.heap.objs.size)) (EP X pins σ Q) X.xe { s3 with heap:=s3.heap.push { cls:=.type "slice",data:=.fields #[.none,.none,.int (-1) tk] } };refine tail_any (ops:=[.ref a,.ref s3.heap.objs.size]) ht.isList.typeIs slot_list_getitem.lookup (wpAny_getItem_list_slice ht.isList (Heap.IsSliceOf.new ..) .none .none (.int (-1) tk) (by simp) ?_ (by rw[An] <;> lia)) (by with_unfolding_all rfl);rw[W.krv_pick];generalize s3.heap.push { cls:=.type "slice",data:=.fields #[.none,.none,.int (-1) tk] }=h4 at *;refine⟨.ref _,_,I4.laid (t':=s3.toks) (o:=.lst xs.reverse) (λb ob q=>Ai _ q) (Ah _) ?_,rfl,q _ (I4.hok.fresh (Ah _))⟩;exact⟨by rw[List.length_reverse];exact hz,its.reverse,0,r.reverse,AG _ rfl⟩
end
section
variable {X:Cx}
end
section
variable {prog:AK}{w:A1}{A:AQ}{R:Result->Ae->Prop}{I:Addr}{fp wr:List Addr}{n:Nat}{P:Nat->Ad->Prop}{St:Nat->Heap->Prop}{dv:Ad}
end
section
variable {X:Cx}{pins:List (Addr×Obj)}{σ:St}{H0:Hp}{s:Ae}{l:Addr}{Q:VK}
end
section
variable {X:Cx}{p pos kpos kp:Pos}{e:Expr}{te:TE}{d:Int}{kj:Nat}
end
end L2
namespace HT
open PySem PyProof.Rows
variable {prog:AK}{w:A1}{A:AQ}{E:Ad->Ae->Prop}{s:Ae}
end HT
namespace L2
open PySem PySem.Spec PyProof.Rows
section
variable {X:Cx}{e es:Expr}{te ts:TE}{pos p2:Pos}
end
end L2
namespace HT
open PySem PyProof.Rows
section
open PySem.SeqAt
open PySem.AutoSeq1 (wpAny_loadPart')
open PySem.MeetsSeq PySem.MeetsSeq2 PySem.MeetsSeq3
end
section
variable {prog:AK}{w:A1}{A:AQ}{E:Ad->Ae->Prop}{s:Ae}
end
end HT
namespace L2
open PySem PySem.Spec PyProof.Rows
section
variable {X:Cx}{pos:Pos}
end
section
variable {prog:AK}{w:A1}{A:AQ}{E:Ad->Ae->Prop}{s:Ae}{it d:Addr}{i ep:Nat}{es:Array DictEntry}{od:Obj}
end
section
variable {X:Cx}{tg:Expr}
end
section
variable {prog:AK}{w:A1}{K:Type} [DecidableEq K] {knd:HeapKind prog w K}{A:AQ}{E:Ad->Ae->Prop}{s:Ae}{d a:Addr}{xs:List (K×Addr×Ad)}{k:K}
end
section
variable {X:Cx}{o e f:Expr}{apos cpos:Pos}{td ty tx:TE}
end
end L2
namespace RP
end RP
namespace L2
open PySem PySem.Spec PyProof.Rows
section
variable {X:Cx}
end
end L2
namespace HT
open PySem PyProof.Rows
variable {prog:AK}{w:A1}{A:AQ}{E:Ad->Ae->Prop}{s:Ae}
end HT
namespace L2
open PySem PySem.Spec PyProof.Rows
section
variable {X:Cx}{e es:Expr}{te ts:TE}{pos p2:Pos}
end
section
variable {prog:AK}{w:A1}{A:AQ}{E:Ad->Ae->Prop}{s:Ae}
end
section
variable {X:Cx}
end
section
variable {X:Cx}
end
theorem zfI{A:Prop}{D:Heap->Prop}(C:Heap->Prop)(g:(∀h,D h->C h)->A)(h:∀h,D h->C h):A:=g h
noncomputable abbrev zep (h:Heap) (z TI TO T0:Addr) (b:Bool):Prop:=h.get? z=some { cls:=.type "zip",dict:=none,data:=.fields #[rawInt T0,.bool b,.bool false,.ref TI,.ref TO],slots:=#[] }
section
variable {prog:AK}{w:A1}{A:AQ}{E:Ad->Ae->Prop}{s:Ae}
theorem ziu{z TI TO i1 i2 l1 l2 T0:Addr}{b:Bool}{k1 k2:Nat}{xs ys:Array Ad}{x y:Ad}{o0:Obj}{Q:Option Ad -> Ae -> Prop}(D:ZipApart z TI TO i1 i2 l1 l2)(hz:zep s.heap z TI TO T0 b)(hT0:s.heap.get? T0=some o0)(hTI:IsPair s.heap TI (.ref i1) (.ref i2))
  (h1:s.heap.IsListIter i1 l1 k1) (h2:s.heap.IsListIter i2 l2 k2) (hl1:s.heap.IsList l1 xs) (hl2:s.heap.IsList l2 ys) (hx:xs[k1]?=some x) (hy:ys[k2]?=some y)
  (hQ:∀h',zep h' z TI TO T0 true->h'.IsListIter i1 l1 (k1+1)->h'.IsListIter i2 l2 (k2+1)->IsPair h' s.heap.objs.size x y ->
   (∀c o,c≠z->c≠i1->c≠i2->s.heap.get? c=some o->h'.get? c=some o)->Q (some (.ref s.heap.objs.size)) { s with heap:=h' }):Ar (Av prog w) A (pyNext (.ref z)) Q E s:=by
 have hT:s.TypeIs (.ref z) "zip":=⟨_,hz,rfl⟩;unfold pyNext;refine Ac (wpAny_attempt (Cq (name:=AR "__next__") hT CF (wpAny_call_entry CF hT PySem.F.entry_zip_next ?_ (PySem.F.args_zip_next_1 _))));show Ar (Av prog w) A.in1 (field (.ref z) 2 >>= _) _ _ s;refine Ac (BY hz rfl (x:=.bool false) rfl ?_);show Ar (Av prog w) A.in1 (field (.ref z) 3 >>= _) _ _ s;refine Ac (BY hz rfl (x:=.ref TI) rfl (Ac (CM hTI rfl ?_)));show Ar (Av prog w) A.in1 (BD (.ref z) >>= _) _ _ s;unfold BD;refine Ac (Ac (BY hz rfl (x:=rawInt T0) rfl ?_));show Ar (Av prog w) A.in1 (loadIfAlive ((T0:Int).toNat) >>= _) _ _ s;refine Ac (W.kdx_alive (o:=o0) (by simpa using hT0) ?_);simp only[Option.isNone_some,BH,if_false];refine Ac (BY hz rfl (x:=.bool b) rfl ?_);refine zfI (D:=λha=>zep ha z TI TO T0 true/\CS z s.heap ha) ?C (λshare=>?g) ?h
 case g =>
  cases b with
  |false =>
   rw[if_pos (by decide)];refine Ac (wpAny_setField_rec hz (by simp) λha hza sa=>Al ?_);exact share ha ⟨hza,sa⟩
  |true =>
   rw[if_neg (by decide)];refine Al ?_
   exact share s.heap ⟨hz,⟨rfl,λ_ _=>rfl⟩⟩
 case h =>
  rintro ha ⟨hza,sa⟩;rw[if_neg Aw];refine Ac ?_
  rw[<- Array.forIn_toList];simp only[C4,List.forIn_nil];refine Ac (Ac ?_);refine A7 ?_
  show Ar (Av prog w) A.in1 (CV (.ref i1) >>= _) _ _ _;refine Ac (wpAny_nextOf_list_item (h1.extBut sa.extBut D.i1z) (hl1.extBut sa.extBut D.l1z) hx λhb h1b sb=>Al (Al (Ac (Ac (A7 ?_)))));show Ar (Av prog w) A.in1 (CV (.ref i2) >>= _) _ _ _;refine Ac (wpAny_nextOf_list_item ((h2.extBut sa.extBut D.i2z).extBut sb.extBut D.i12.symm) ((hl2.extBut sa.extBut D.l2z).extBut sb.extBut D.l2i1) hy λhc h2c sc=>Al (Al (Al ?_)));refine Ac (wpAny_newTuple ?_ (by show 2<=sizeLine;decide));have sz:hc.objs.size=s.heap.objs.size:=by rw[sc.1,sb.1,sa.1]
  refine Al ⟨.ref hc.objs.size,rfl,Al ?_⟩;have kc:∀c o,c≠z->c≠i1->c≠i2->s.heap.get? c=some o->hc.get? c=some o:=λc o c1 c2 c3 e=>sc.extBut _ _ c3 (sb.extBut _ _ c2 (sa.extBut _ _ c1 e))
  have up:∀{c:Addr} {o u:Obj},hc.get? c=some o->(hc.push u).get? c=some o:=λe=>Ai _ e
  rw[sz];refine hQ (hc.push { cls:=.type "tuple",data:=.seq #[x,y] }) (up (sc.extBut _ _ D.i2z.symm (sb.extBut _ _ D.i1z.symm hza))) ((h1b.extBut sc.extBut D.i12).at λo e=>up e) (h2c.at λo e=>up e) ?_ λc o c1 c2 c3 e=>up (kc c o c1 c2 c3 e)
  show (hc.push _).get? s.heap.objs.size=_;rw[<- sz];exact AG _ rfl
theorem zj2{z TI TO i1 i2 l1 l2 T0:Addr}{b:Bool}{k:Nat}{xs:Array Ad}{o0:Obj}{Q:Option Ad -> Ae -> Prop}(hh:A.handled=none)(D:ZipApart z TI TO i1 i2 l1 l2)(hz:zep s.heap z TI TO T0 b)(hT0:s.heap.get? T0=some o0)(hTI:IsPair s.heap TI (.ref i1) (.ref i2))
  (h1:s.heap.IsListIter i1 l1 k) (hl1:s.heap.IsList l1 xs) (hx:xs[k]?=none)
  (hQ:∀h',(∀c o,c≠z->c≠i1->s.heap.get? c=some o->h'.get? c=some o)->Q none { s with heap:=h' }):Ar (Av prog w) A (pyNext (.ref z)) Q E s:=by
 have hT:s.TypeIs (.ref z) "zip":=⟨_,hz,rfl⟩;unfold pyNext;refine Ac (wpAny_attempt (Cq (name:=AR "__next__") hT CF (wpAny_call_entry CF hT PySem.F.entry_zip_next ?_ (PySem.F.args_zip_next_1 _))));show Ar (Av prog w) A.in1 (field (.ref z) 2 >>= _) _ _ s;refine Ac (BY hz rfl (x:=.bool false) rfl ?_);show Ar (Av prog w) A.in1 (field (.ref z) 3 >>= _) _ _ s;refine Ac (BY hz rfl (x:=.ref TI) rfl (Ac (CM hTI rfl ?_)));show Ar (Av prog w) A.in1 (BD (.ref z) >>= _) _ _ s;unfold BD;refine Ac (Ac (BY hz rfl (x:=rawInt T0) rfl ?_));show Ar (Av prog w) A.in1 (loadIfAlive ((T0:Int).toNat) >>= _) _ _ s;refine Ac (W.kdx_alive (o:=o0) (by simpa using hT0) ?_);simp only[Option.isNone_some,BH,if_false];refine Ac (BY hz rfl (x:=.bool b) rfl ?_);refine zfI (D:=λha=>zep ha z TI TO T0 true/\CS z s.heap ha) ?C (λshare=>?g) ?h
 case g =>
  cases b with
  |false =>
   rw[if_pos (by decide)];refine Ac (wpAny_setField_rec hz (by simp) λha hza sa=>Al ?_);exact share ha ⟨hza,sa⟩
  |true =>
   rw[if_neg (by decide)];refine Al ?_
   exact share s.heap ⟨hz,⟨rfl,λ_ _=>rfl⟩⟩
 case h =>
  rintro ha ⟨hza,sa⟩;rw[if_neg Aw];refine Ac ?_
  rw[<- Array.forIn_toList];simp only[C4,List.forIn_nil];refine Ac (Ac (A7 ?_));show Ar (Av prog w) A.in1 (CV (.ref i1) >>= _) _ _ _;refine Ac (wpAny_nextOf_list_end hh (h1.extBut sa.extBut D.i1z) (hl1.extBut sa.extBut D.l1z) hx λhb e sb ⟨oe,ge,ce⟩=>?_);exact Ac (wpAny_isInstance (b:=true) (T:="StopIteration") ⟨oe,ge,ce⟩ isSubtype_stop (Al (hQ _ λc o c1 c3 q=>sb _ _ c3 (sa.extBut _ _ c1 q))))
theorem zhX:typeLookup (.type "zip") "__len__" = pure none:=by rw[typeLookup_type,builtinLookup_eq_fast];kernel_rfl
theorem zgs:typeLookup (.type "zip") "__length_hint__" = pure none:=by rw[typeLookup_type,builtinLookup_eq_fast];kernel_rfl
theorem zfv{z TI TO:Addr}{Q:Ad -> Ae -> Prop}(hz:IsZip s.heap z TI TO .none)
  (loop:∀h' c,(∀b o,s.heap.get? b=some o->h'.get? b=some o)->h'.get? s.heap.objs.size=some { cls:=.type "list",data:=.seq #[] c }->h'.objs.size=s.heap.objs.size+1 ->
   BP (Av prog w) A.in1 (.builtin "list.extend.loop" ⟨[.ref s.heap.objs.size,.ref z,.none],[]⟩) (wants (λr s₂=>r=.none/\Q (.ref s.heap.objs.size) s₂) E) { s with heap:=h' }) :
  Ar (Av prog w) A (call (.type "list") [.ref z]) Q E s:=by
 refine callType_codes (Q₁:=λobj s₁=>obj=.ref s.heap.objs.size/\s₁={ s with heap:=s.heap.push { cls:=.type "list",data:=.seq #[] } }) PySem.F.called_list (PySem.F.typeCall_list_1 _) PySem.F.entry_list_init (code_list_new _ ⟨rfl,rfl⟩) λobj s₁ h₁=>?_
 obtain⟨rfl,rfl⟩:=h₁;have hS:(s.heap.push { cls:=.type "list",data:=.seq #[] }).get? s.heap.objs.size=some { cls:=.type "list",data:=.seq #[] }:=AG _ rfl;refine⟨⟨_,hS,rfl⟩,PySem.F.args_list_init_2 _ _,?_⟩;have hzs:z≠s.heap.objs.size:=AC (Ap hz);show Ar (Av prog w) A.in1.in1 (do let old <- Builtin.List.listItems (.ref s.heap.objs.size);Builtin.List.listUpdate (.ref s.heap.objs.size) (λ_=>#[]);letGo old.toList.reverse;CJ (.ref s.heap.objs.size) (.ref z) .none) _ _ _;unfold Builtin.List.listItems;refine Ac (Ac (CM hS rfl (Al ?_)));show Ar (Av prog w) A.in1.in1 (updateSeq s.heap.objs.size (λ_=>#[]) >>= λ_=>letGo (#[]:Array Ad).toList.reverse >>= λ_=>CJ (.ref s.heap.objs.size) (.ref z) .none) _ _ _;refine Ac (Cc hS rfl (Ac (wpAny_letGo ?_)));have g2:=B6 (AH (λ_=>(#[]:Array Ad))) hS rfl;have k2:∀c o,s.heap.get? c=some o->((s.heap.push { cls:=.type "list",data:=.seq #[] }).update s.heap.objs.size (AH (λ_=>(#[]:Array Ad)))).get? c=some o:=λc o e=>(BJ _ _ (Nat.ne_of_gt (Ap e))).trans (Ai _ e)
 have z2:=k2 _ _ hz;have w2:((s.heap.push { cls:=.type "list",data:=.seq #[] }).update s.heap.objs.size (AH (λ_=>(#[]:Array Ad)))).objs.size=s.heap.objs.size+1:=by unfold Heap.update;simp
 generalize (s.heap.push { cls:=.type "list",data:=.seq #[] }).update s.heap.objs.size (AH (λ_=>(#[]:Array Ad)))=h2 at g2 k2 z2 w2;unfold CJ;have hT:(Shared.mk h2 s.gens s.drawn s.toks s.os).TypeIs (.ref z) "zip":=⟨_,z2,rfl⟩;refine Ac (wpAny_typeOf hT ?_);have q1:Builtin.List.listSameRef (.ref s.heap.objs.size) (.ref z)=false:=by simp[Builtin.List.listSameRef,By hzs]
 simp only[q1,show (Da "zip" == Da "list")=false by decide,show (Da "zip" == Da "tuple")=false by decide,Bool.or_false,BH,if_false];refine Ac (wpAny_pyIter_zip z2 (Ac (A7 ?_)));unfold Builtin.List.listLengthHint;refine Ac (wpAny_specialOf hT zhX ?_);show Ar (Av prog w) A.in1.in1 (specialOf (AB z) (AR "__length_hint__") >>= _) _ _ _;refine Ac (wpAny_specialOf hT zgs (Al ?_));show Ar (Av prog w) A.in1.in1 (rule "list.extend.makes-room" >>= λ_=>Builtin.List.listTouch (.ref s.heap.objs.size) >>= λ_=>again (.builtin "list.extend.loop" ⟨[.ref s.heap.objs.size,.ref z,.none],[]⟩)) _ _ _;refine Ac (wpAny_rule (Ac ?_));show Ar (Av prog w) A.in1.in1 (updateSeq s.heap.objs.size (·.push .none) >>= λ_=>updateSeq s.heap.objs.size (·.pop)) _ _ _;refine Ac (Cc g2 rfl ?_);have g3:=B6 (AH (·.push CK)) g2 rfl;refine Cc (hz:=by seq_fits) g3 rfl ?_
 have g4:=B6 (AH (·.pop)) g3 rfl;refine Al ⟨CD B8 _,loop _ _ (λc o e=>?_) g4 ?_⟩
 .exact (BJ _ _ (Nat.ne_of_gt (Ap e))).trans ((BJ _ _ (Nat.ne_of_gt (Ap e))).trans (k2 c o e))
 .rw[<- w2];unfold Heap.update;simp
end
noncomputable def Prs(H:Hp)(ts xs ys:List V)(i:Nat):Prop:=ts.length=i/\∀(j:Nat) v,ts[j]?=some v->∃t x y,v=.ref t/\xs[j]?=some x/\ys[j]?=some y/\H t=some (.tup [x,y])
theorem Prs.more{H H':Hp}{ts xs ys:List V}{i:Nat}(h:Prs H ts xs ys i)(k:∀b zs,H b=some (.tup zs)->H' b=some (.tup zs)){t:Addr}{x y:V}(hx:xs[i]?=some x)(hy:ys[i]?=some y)(ht:H' t=some (.tup [x,y])):Prs H' (ts++[.ref t]) xs ys (i+1):=by
 refine⟨by rw[Aj,h.1];rfl,λj v hj=>?_⟩;rcases A3 j ts.length with q |q
 .rw[Am q]at hj;obtain⟨t',x',y',e,h1,h2,h3⟩:=h.2 j v hj;exact⟨t',x',y',e,h1,h2,k _ _ h3⟩
 .rw[Au q]at hj
  have hz:j-ts.length=0:=by have:=(Ab.mp hj).1;simp at this;lia
  rw[hz]at hj
  cases hj
  have:j=i:=by have:=h.1;lia
  subst this;exact⟨t,x,y,rfl,hx,hy,ht⟩
section
variable {X:Cx}{pins:List (Addr×Obj)}{σ:St}
theorem zj1{A:AQ}{R:Result -> Ae -> Prop}{res:Ad}(hh:A.handled=none){z TI TO i1 i2 a b S:Addr}(D:ZipApart z TI TO i1 i2 a b){xs ys:List V}(hlen:xs.length=ys.length)(h1000:xs.length <= 1000)(haS:a ≠ S)(hbS:b ≠ S) :
    ∀(k i:Nat) (s:Ae) (H:Hp) (ts:List V),xs.length-i=k->i<=xs.length->Inv X pins σ H s->(∀c∈[z,TI,TO,i1,i2],FpOk X pins H c)->H S=some (.lst ts)->Prs H ts xs ys i->SqL X.K H a xs->SqL X.K H b ys ->
    ((∃u v,IsZip s.heap z TI TO .none/\IsPair s.heap TO u v)∨∃T0 bb zs,zep s.heap z TI TO T0 bb/\H T0=some (.tup zs))->IsPair s.heap TI (.ref i1) (.ref i2)->(∃o,s.heap.get? TO=some o)->s.heap.IsListIter i1 a i->s.heap.IsListIter i2 b i ->
    (∀s' H' ts',Inv X pins σ H' s'->(∀c o,c≠S->H c=some o->H' c=some o)->H' S=some (.lst ts')->Prs H' ts' xs ys xs.length->R (.ok (.ret res)) s') ->
    BP (Av X.prog X.w) A (.builtin "list.extend.loop" ⟨[.ref S,.ref z,res],[]⟩) R s:=by
  intro k
  induction k with
  |zero =>
    intro i s H ts hk hi I hf hS hp hqa hqb hzs hTI hTOx h1 h2 hR;have hin:i=xs.length:=by lia
    obtain⟨its1,rv1,p1,hz1⟩:=I.list hqa;obtain⟨its2,rv2,p2,hz2⟩:=I.list hqb;have e1:=rv1.length;refine C7 PySem.F.entry_extend_loop ?_
    rw[Cg B8 _];show Ar (Av X.prog X.w) A.in1 (pyNext (.ref z) >>= _) _ _ s
    have fin:∀h',(∀c o,c ∉ [z,TI,TO,i1,i2]->s.heap.get? c=some o->h'.get? c=some o)->R (.ok (.ret res)) { s with heap:=h' }:=λh' kk=>by have I':Inv X pins σ H { s with heap:=h' }:=I.turnedL (t':=s.toks) (fp:=[z,TI,TO,i1,i2]) (λc o hc q=>kk c o hc q) hf;exact hR _ H ts I' (λ_ _ _ q=>q) hS (hin ▸ hp)
    refine Ac ?_
    rcases hzs with⟨u,v,hz,hTO⟩ |⟨T0,bb,zs,hz,hT0⟩
    . refine wpAny_pyNext_zip_end hh D hz hTI hTO h1 h2 p1.isList p2.isList (.inl (by simp;lia)) λh' kk=>Al ?_
      exact fin h' λc o hc q=>by simp only[At,A9,or_false,not_or]at hc;exact kk c o hc.1 hc.2.2.1 hc.2.2.2.1 hc.2.2.2.2 q
    . obtain⟨o0, g0⟩ : ∃o, s.heap.get? T0=some o := by obtain⟨_,its,_,o,e,_⟩:=(show ObjOk X.prog X.w H s.heap T0 (.tup zs) from I.hok T0 _ hT0);exact⟨o,e⟩
      refine zj2 hh D hz g0 hTI h1 p1.isList (by simp;lia) λh' kk=>Al ?_
      exact fin h' λc o hc q=>by
        simp only[At,A9,or_false,not_or]at hc;exact kk c o hc.1 hc.2.2.2.1 q
  |succ k ih =>
    intro i s H ts hk hi I hf hS hp hqa hqb hzs hTI hTOx h1 h2 hR;have hlt:i<xs.length:=by lia
    obtain⟨its1,rv1,p1,hz1⟩:=I.list hqa;obtain⟨its2,rv2,p2,hz2⟩:=I.list hqb;obtain⟨x,hx⟩:∃x,xs[i]?=some x:=⟨_,Aa hlt⟩;obtain⟨y,hy⟩:∃y,ys[i]?=some y:=⟨_,Aa (by lia)⟩;obtain⟨u,hu,ru⟩:=rv1.get hx;obtain⟨v,hv,rv⟩:=rv2.get hy;refine C7 PySem.F.entry_extend_loop ?_
    rw[Cg B8 _];show Ar (Av X.prog X.w) A.in1 (pyNext (.ref z) >>= _) _ _ s;refine Ac ?_
    have fr:H s.heap.objs.size=none:=I.hok.fresh (Ah _);have lt:∀{c o},s.heap.get? c=some o->c<s.heap.objs.size:=λe=>Ap e
    have flt:∀c∈[z,TI,TO,i1,i2],c≠s.heap.objs.size:=λc hc=>by
      simp only[At,A9,or_false]at hc;rcases hc with rfl |rfl |rfl |rfl |rfl
      . rcases hzs with⟨_,_,hz,_⟩ |⟨_,_,_,hz,_⟩
        . exact AC (lt hz)
        . exact AC (lt hz)
      . exact AC (lt hTI)
      . obtain⟨o,q⟩:=hTOx;exact AC (lt q)
      . obtain⟨o,q,_⟩:=h1;exact AC (lt q)
      . obtain⟨o,q,_⟩:=h2;exact AC (lt q)
    have I1:Inv X pins σ (upd H s.heap.objs.size (.tup [x,y])) { s with heap:=s.heap.push { cls:=.type "tuple",data:=.seq #[u,v] },toks:=s.toks } :=
      I.laid (t':=s.toks) (o:=.tup [x,y]) (λb ob q=>Ai _ q) (Ah _) ⟨by show 2<=sizeLine;decide,_,.cons ru (.cons rv .nil),IsTup.new _ _⟩
    have fp1:∀c∈[z,TI,TO,i1,i2],FpOk X pins (upd H s.heap.objs.size (.tup [x,y])) c:=λc hc=>⟨by rw[zam (flt c hc)];exact (hf c hc).1,(hf c hc).2⟩
    have hSn:S≠s.heap.objs.size:=zao hS fr
    have step:∀(h':Heap) (T0:Addr) (bb:Bool) (zs:List V), zep h' z TI TO T0 bb -> upd H s.heap.objs.size (.tup [x, y]) T0=some (.tup zs) -> h'.IsListIter i1 a (i + 1) -> h'.IsListIter i2 b (i + 1) -> IsPair h' TI (.ref i1) (.ref i2) -> (∃o, h'.get? TO=some o) -> IsPair h' s.heap.objs.size u v ->
        (∀c o,c ∉ [z,TI,TO,i1,i2]->s.heap.get? c=some o->h'.get? c=some o) ->
        Ar (Av X.prog X.w) A.in1 (updateSeq S (·.push (.ref s.heap.objs.size)) >>= λ_=>again (.builtin "list.extend.loop" ⟨[.ref S,.ref z,res],[]⟩)) (λfin s'=>match fin with |.done f=>R (.ok f) s' |.again c'=>c'.quiet=true/\BP (Av X.prog X.w) A c' R s') (λe s'=>R (.error e) s') { s with heap:=h' }:=by
      intro h' T0 bb zs z1 hT0 l1 l2 tI' tO' pr kk
      have I2:=I1.turnedL (h':=h') (t':=s.toks) (fp:=[z,TI,TO,i1,i2]) (λc o hc q=>by
        rcases Heap.get?_push_cases q with⟨e,rfl⟩ |q
        . rw[e];exact pr
        . exact kk c o hc q) fp1
      have hS2:upd H s.heap.objs.size (.tup [x,y]) S=some (.lst ts):=by rw[zam hSn];exact hS
      obtain⟨zz,its,n,rel,gS⟩:=(show ObjOk X.prog X.w _ h' S (.lst ts) from I2.hok S _ hS2);have hl:=rel.length;have htl:ts.length=i:=hp.1;refine Ac (Cc gS rfl (Al ⟨CD B8 _,?_⟩) (by simp;lia) (by simp[sizeLine];lia));have hSz:∀c∈[z,TI,TO,i1,i2],c≠S:=λc hc e=>by have:=(hf c hc).1;rw[e,hS]at this;cases this
      have up:∀c o,c≠S->h'.get? c=some o->(h'.update S (AH (·.push (.ref s.heap.objs.size)))).get? c=some o:=λc o hc q=>(BJ _ _ (By hc)).trans q
      have g3:=B6 (AH (·.push (.ref s.heap.objs.size))) gS rfl
      have hsz:(ts++[V.ref s.heap.objs.size]).length<=sizeLine:=by
        rw[Aj];have:(1001:Nat)<=sizeLine:=by decide
        show ts.length+1<=sizeLine;lia
      have I3:Inv X pins σ (upd (upd H s.heap.objs.size (.tup [x,y])) S (.lst (ts++[.ref s.heap.objs.size]))) { s with heap:=h'.update S (AH (·.push (.ref s.heap.objs.size))),toks:=s.toks } :=
        I2.write (x:=S) (e:=S) (t':=s.toks) (by rw[hS2];exact BZ) (.inl rfl) (λc o hc q=>up c o hc q) ⟨_,g3⟩ ⟨hsz,its++[.ref s.heap.objs.size],_,Vals.append rel (.cons (show RelV (V.ref s.heap.objs.size) (AB s.heap.objs.size) from rfl) .nil),by rw[g3,<- List.push_toArray];rfl⟩
      have kS:∀c o,c≠S->H c=some o->upd (upd H s.heap.objs.size (.tup [x,y])) S (.lst (ts++[.ref s.heap.objs.size])) c=some o:=λc o hc q=>by rw[zam hc,zam (zao q fr)];exact q
      have seq:∀{c:Addr} {vs:List V},c≠S->SqL X.K H c vs->SqL X.K (upd (upd H s.heap.objs.size (.tup [x,y])) S (.lst (ts++[.ref s.heap.objs.size]))) c vs:=λhc q=>by
        rcases q with (e |⟨o,e⟩) |q
        . exact .inl (.inl (kS _ _ hc e))
        . exact .inl (.inr ⟨o,kS _ _ hc e⟩)
        . exact .inr q
      have hT0S:T0≠S:=λe=>by rw[e,hS2]at hT0;cases hT0
      refine ih (i+1) _ _ _ (by lia) hlt I3 (λc hc=>⟨?_,(fp1 c hc).2⟩) zaa (hp.more (λb zs q=>kS _ _ (ne_of q hS (λz=>nomatch z)) q) hx hy ?_) (seq haS hqa) (seq hbS hqb) (.inr ⟨T0,bb,zs,up _ _ (hSz z (by simp)) z1,?_⟩) (up _ _ (hSz TI (by simp)) tI') (let ⟨o,q⟩:=tO';⟨o,up _ _ (hSz TO (by simp)) q⟩) (l1.at λo e=>up _ _ (hSz i1 (by simp)) e) (l2.at λo e=>up _ _ (hSz i2 (by simp)) e) λs' H' ts' I' kk' hS' hp'=>?_
      . rw[zam (hSz c hc)];exact (fp1 c hc).1
      . rw[zam (By hSn),zaa]
      . rw[zam hT0S];exact hT0
      . exact hR s' H' ts' I' (λc o hc q=>kk' c o hc (kS c o hc q)) hS' hp'
    rcases hzs with⟨u0,v0,hz,hTO⟩ |⟨T0,bb,zs,hz,hT0⟩
    . refine wpAny_pyNext_zip_item D hz hTI hTO h1 h2 p1.isList p2.isList (x:=u) (y:=v) (by simpa using hu) (by simpa using hv) λh' z1 t1 l1 l2 pr sz kk=>?_
      refine step h' _ false _ z1 zaa l1 l2 (kk TI _ D.TIz D.TITO D.TIi1 D.TIi2 hTI) ⟨_,t1⟩ pr λc o hc q=>?_
      simp only[At,A9,or_false,not_or]at hc;exact kk c o hc.1 hc.2.2.1 hc.2.2.2.1 hc.2.2.2.2 q
    . obtain⟨o0, g0⟩ : ∃o, s.heap.get? T0=some o := by obtain⟨_,its,_,o,e,_⟩:=(show ObjOk X.prog X.w H s.heap T0 (.tup zs) from I.hok T0 _ hT0);exact⟨o,e⟩
      refine ziu D hz g0 hTI h1 h2 p1.isList p2.isList (x:=u) (y:=v) (by simpa using hu) (by simpa using hv) λh' z1 l1 l2 pr kk=>?_
      refine step h' T0 true zs z1 (by rw[zam (zao hT0 fr)];exact hT0) l1 l2 (kk TI _ D.TIz D.TIi1 D.TIi2 hTI) (let ⟨o,q⟩:=hTOx;⟨o,kk TO o D.TOz D.TOi1 D.TOi2 q⟩) pr λc o hc q=>?_
      simp only[At,A9,or_false,not_or]at hc;exact kk c o hc.1 hc.2.2.2.1 hc.2.2.2.2 q
end
noncomputable def zj7(K:W.Frag)(t:TA):TE:=λσ H Q=>t σ H λvs H1=>∃a b xs ys,vs=[.ref a,.ref b]/\SqL K H1 a xs/\SqL K H1 b ys/\xs.length=ys.length/\xs.length<=1000 /\
 ∀S H' ts,H1 S=none->(∀c o,H1 c=some o->H' c=some o)->H' S=some (.lst ts)->Prs H' ts xs ys xs.length->Q (.ref S) H'
section
variable {X:Cx}{l m:Expr}{t:TA}{p p2 pos pos2:Pos}
theorem zh9 (hg:Gl X "list") (hm:X.mg "list" = none) (hg2:Gl X "zip") (hm2:X.mg "zip" = none) (ha:PA X [l, m] t) (hc:X.calm=true := by rfl)
  (he2:AJ [l,m] X.env=(false,eval l X.env)::AJ [m] X.env:=by rfl) (hpl2:(Ci pos2 (AJ [m] X.env)).any (·.1)=false:=by rfl)
  (he:AJ [.Call (.Name "zip" p2) [l,m] [] pos2] X.env=(false,eval (.Call (.Name "zip" p2) [l,m] [] pos2) X.env)::AJ [] X.env:=by rfl) (hpl:(Ci pos (AJ [] X.env)).any (·.1)=false:=by rfl) :
  PE X (.Call (.Name "list" p) [.Call (.Name "zip" p2) [l,m] [] pos2] [] pos) (zj7 X.K t):=by
 intro pins s σ H Q I h;refine Bh (zbR I hg hm (by rfl) ?_ (by decide) (by decide));refine AS ?_ he hpl;rw[he];show Ar _ _ (spliced ((false,eval (.Call (.Name "zip" p2) [l,m] [] pos2) X.env)::Ci pos (AJ [] X.env))) _ _ s;refine Dc ?_
 refine Bh (zbR I hg2 hm2 (by rfl) ?_ (by decide) (by decide));refine AS (thn (ha pos2 pins s σ H _ I h) λus s1 ⟨vs,H1,I1,r1,q1⟩=>?_) he2 hpl2;obtain⟨a,b,xs,ys,ex,hq1,hq2,hlen,h1000,q⟩:=q1;subst ex;obtain⟨u,v,rfl,ru,rv⟩:=vals2 r1
 cases ru
 cases rv
 obtain⟨its1,rv1,p1,hz1⟩:=I1.list hq1;obtain⟨its2,rv2,p2',hz2⟩:=I1.list hq2;have la:a<s1.heap.objs.size:=by obtain⟨o,ho,_⟩:=p1.isList;exact Ap ho
 have lb:b<s1.heap.objs.size:=by obtain⟨o,ho,_⟩:=p2'.isList;exact Ap ho
 refine call_zip_2 p1.isList p2'.isList λh' hz hTI hTO hi1 hi2 hsz kp=>?_
 have I2:Inv X pins σ H1 { s1 with heap:=h' }:=I1.kept (t':=s1.toks) kp;refine Calls.spliced_nil ?_
 refine zfv hz λh3 c k3 g3 w3=>?_
 have ne:∀i j:Nat,i≠j->(s1.heap.objs.size+i:Nat)≠s1.heap.objs.size+j:=λi j h=>by lia
 have na:∀i:Nat,a≠s1.heap.objs.size+i:=λi=>AC (AD la (A5 _ _))
 have nb:∀i:Nat,b≠s1.heap.objs.size+i:=λi=>AC (AD lb (A5 _ _))
 have D:ZipApart (s1.heap.objs.size+4) (s1.heap.objs.size+2) (s1.heap.objs.size+3) s1.heap.objs.size (s1.heap.objs.size+1) a b :=
  ⟨ne 2 4 (by decide),ne 3 4 (by decide),ne 0 4 (by decide),ne 1 4 (by decide),ne 2 3 (by decide),ne 2 0 (by decide),ne 2 1 (by decide),ne 3 0 (by decide),ne 3 1 (by decide),ne 0 1 (by decide),
   na 4,na 3,na 0,na 1,nb 4,nb 3,nb 0,nb 1⟩
 have fS:H1 h'.objs.size=none:=I2.hok.fresh (Ah _);have I3:Inv X pins σ (upd H1 h'.objs.size (.lst [])) { s1 with heap:=h3,toks:=s1.toks }:=I2.laid (t':=s1.toks) (o:=.lst []) k3 (Ah _) ⟨AV _,[],c,.nil,g3⟩;have same:∀c o,H1 c=some o->upd H1 h'.objs.size (.lst []) c=some o:=λc o e=>by rw[zam (zao e fS)];exact e
 have seq:∀{c:Addr} {vs:List V},SqL X.K H1 c vs->SqL X.K (upd H1 h'.objs.size (.lst [])) c vs:=λq=>by
  rcases q with (e |⟨o,e⟩) |q
  .exact .inl (.inl (same _ _ e))
  .exact .inl (.inr ⟨o,same _ _ e⟩)
  .exact .inr q
 have fp:∀c∈[s1.heap.objs.size+4,s1.heap.objs.size+2,s1.heap.objs.size+3,s1.heap.objs.size,s1.heap.objs.size+1],FpOk X pins (upd H1 h'.objs.size (.lst [])) c:=λc hc=>by
  have hge:s1.heap.objs.size<=c/\c<h'.objs.size:=by
   rw[hsz];simp only[At,A9,or_false]at hc;rcases hc with rfl |rfl |rfl |rfl |rfl
   .exact⟨A5 _ _,CW (by decide) _⟩
   .exact⟨A5 _ _,CW (by decide) _⟩
   .exact⟨A5 _ _,CW (by decide) _⟩
   .exact⟨Ah _,Nat.lt_add_of_pos_right (by decide)⟩
   .exact⟨A5 _ _,CW (by decide) _⟩
  have:=I1.fpOk (H':=H1) hge.1 (I1.hok.fresh hge.1);exact⟨by rw[zam (AC hge.2)];exact this.1,this.2⟩
 refine zj1 (A:=X.A.in1) (show X.A.in1.handled=none from I1.ok.hd hc) D hlen h1000 (AC (AD la (by rw[hsz];exact A5 _ _))) (AC (AD lb (by rw[hsz];exact A5 _ _))) xs.length 0 _ _ [] (by simp) (AV _) I3 fp zaa ⟨rfl,λj v hj=>by simp at hj⟩ (seq hq1) (seq hq2)
  (.inl ⟨_,_,k3 _ _ hz,k3 _ _ hTO⟩) (k3 _ _ hTI) ⟨_,k3 _ _ hTO⟩ (hi1.at λo e=>k3 _ _ e) (hi2.at λo e=>k3 _ _ e) λs' H' ts' I' kk' hS' hp'=>?_
 exact⟨rfl,.ref h'.objs.size,H',I',rfl,q _ H' ts' fS (λc o e=>kk' c o (zao e fS) (same c o e)) hS' hp'⟩
end
theorem zg1:∀{xs:List V}{us:List Ad},xs.length=us.length->(∀(i:Nat) x u,xs[i]?=some x->us[i]?=some u->RelV x u)->Vals xs us
 |[],[],_,_=>.nil
 |x::xs,u::us,h,k=>.cons (k 0 x u rfl rfl) (zg1 (by simpa using h) λi y v h1 h2=>k (i+1) y v (by simpa using h1) (by simpa using h2))
 |[],_::_,h,_=>by cases h
 |_::_,[],h,_=>by cases h
noncomputable def zha(t:TA):TE:=λσ H Q=>t σ H λvs H1=>∃n:Nat,vs=[.int n]/\n<=1000/\∀S,H1 S=none->Q (.ref S) (upd H1 S (.lst ((As n).map λi:Nat=>V.int i)))
section
variable {X:Cx}{a:Expr}{t:TA}{p p2 pos pos2:Pos}
theorem zeT (hg:Gl X "list") (hm:X.mg "list" = none) (hg2:Gl X "range") (hm2:X.mg "range" = none) (ha:PA X [a] t) (hc:X.calm=true := by rfl)
  (hs:AJ [a] X.env=[(false,eval a X.env)]:=by rfl)
  (he:AJ [.Call (.Name "range" p2) [a] [] pos2] X.env=(false,eval (.Call (.Name "range" p2) [a] [] pos2) X.env)::AJ [] X.env:=by rfl) (hpl:(Ci pos (AJ [] X.env)).any (·.1)=false:=by rfl) :
  PE X (.Call (.Name "list" p) [.Call (.Name "range" p2) [a] [] pos2] [] pos) (zha t):=by
 intro pins s σ H Q I h;refine Bh (zbR I hg hm (by rfl) ?_ (by decide) (by decide));refine AS ?_ he hpl;rw[he];show Ar _ _ (spliced ((false,eval (.Call (.Name "range" p2) [a] [] pos2) X.env)::Ci pos (AJ [] X.env))) _ _ s;refine Dc ?_
 refine Call_ (zbR I hg2 hm2 boot_range (AS (thn (ha pos2 pins s σ H _ I h) λus s1 ⟨vs,H1,I1,r1,q1⟩=>?_) hs rfl));obtain⟨n,e,hn,q⟩:=q1;subst e
 cases r1 with
 |cons r rr =>
  cases rr
  obtain⟨tt,rfl⟩:=r;refine call_range_1 ?_
  refine Calls.spliced_nil ?_
  have hsz:Dg 0 (n:Int) 1=((n:Nat):Int):=by rw[rangeSize_one];split <;> lia
  refine call_list_range (n:=n) (show X.A.handled=none from I1.ok.hd hc) (IsRange.new ..) (small_one (by lia) (by lia) (by lia) (by lia)) hsz (by lia) λh' tk acc c kp g hacc=>?_
  refine⟨.ref _,_,(I1.kept (t':=tk) (h':=s1.heap.push _) λb o e=>Ai _ e).laid (t':=tk) (o:=.lst ((As n).map λi:Nat=>V.int i)) kp (Ah _) ?_,rfl,q _ ((I1.kept (t':=tk) (h':=s1.heap.push _) λb o e=>Ai _ e).hok.fresh (Ah _))⟩;refine⟨by rw[Af,A4];exact AF hn (by decide),acc.toList,c,zg1 (by simp[hacc.1]) λi x u h1 h2=>?_,by rw[Array.toArray_toList];exact g⟩;obtain⟨t1,rfl⟩:=hacc.2 i u (by simpa using h2)
  have hi:i<n:=by have:=(Ab.mp h1).1;simpa using this
  rw[Az,BB hi]at h1
  cases h1
  exact⟨t1,by simp⟩
end
section
variable {X:Cx}
theorem zjd:OpR X (Bu .IsNot) (λx y H Q=>∃a b,x=.bl a/\y=.bl b/\Q (.bl (!decide (a=b))) H):=by
 intro pins s σ H x y v u Q I rx ry h;obtain⟨a,b,rfl,rfl,q⟩:=h
 cases rx
 cases ry
 refine wpAny_isNot_plain (by rfl) (zaO I q ?_)
 cases a <;> cases b <;> rfl
end
section
variable {X:Cx}{tg:Expr}
end
section
variable {X:Cx}{pos:Pos}{kx vx:Expr}{tk tv:TE}
end
open AutoSeq1 (wpAny_loadPart')
section
variable {prog:AK}{w:A1}{A:AQ}{E:Ad->Ae->Prop}{s:Ae}{d:Addr}{ep:Nat}{es:Array DictEntry}{od:Obj}
end
section
variable {X:Cx}
end
section
variable {X:Cx}{es:List Expr}{te:TE}{t:TA}{pos:Pos}
theorem pa_T{l:List Expr}{k:Nat}(ha:PE X (.Tuple l k pos) te)(hr:PA X es t):PA X (.Tuple l k pos::es) (tCons te t):=zag ha hr (by rfl)
theorem pa_C{c:Const}{k:Nat}(ha:PE X (.Constant c k pos) te)(hr:PA X es t):PA X (.Constant c k pos::es) (tCons te t):=zag ha hr (by rfl)
theorem pa_U{o:UnaryOp}{a:Expr}(ha:PE X (.UnaryOp o a pos) te)(hr:PA X es t):PA X (.UnaryOp o a pos::es) (tCons te t):=zag ha hr (by rfl)
theorem pa_B{a b:Expr}{o:Operator}(ha:PE X (.BinOp a o b pos) te)(hr:PA X es t):PA X (.BinOp a o b pos::es) (tCons te t):=zag ha hr (by rfl)
theorem pa_N{x:Str}(ha:PE X (.Name x pos) te)(hr:PA X es t):PA X (.Name x pos::es) (tCons te t):=zag ha hr (by rfl)
end
noncomputable def tPrs:List (V×V)->TA
 |[]=>tNil
 | (a,b)::r=>tCons (tTup (tCons (tC a) (tCons (tC b) tNil))) (tPrs r)
theorem zmu{i:Nat}{v:V}{σ:St}{H:Hp}{Q:St->Hp->Prop}:gName i v σ H Q=Q (σ.set i (some v)) H:=rfl
theorem zmv{i:Nat}{v:V}{u:TS}{D:Ends}{σ:St}{H:Hp}:tSeq (tAsg (tC v) (gName i)) u D σ H=u D (σ.set i (some v)) H:=rfl
section
variable {X:Cx}{tg:Expr}
end
section
variable {prog:AK}{w:A1}{A:AQ}{R:Result->Ae->Prop}{I:Addr}{fp wr:List Addr}{n:Nat}{P:Nat->Ad->Prop}{St:Nat->Heap->Prop}{dv:Ad}
end
section
variable {X:Cx}{pins:List (Addr×Obj)}{σ:St}{H0:Hp}{s:Ae}{l:Addr}{Q:VK}
end
section
variable {X:Cx}{p pos kpos:Pos}{e ed:Expr}{te td:TE}
end
end L2
namespace TH
open RP
noncomputable abbrev Side:=Cell×Cell
noncomputable def crs(p a b:Cell):Int:=(a.1-p.1)*(b.2-p.2)-(a.2-p.2)*(b.1-p.1)
noncomputable def parts(s:Side)(a b:Cell):Bool:=decide (crs s.1 s.2 a*crs s.1 s.2 b<0)
noncomputable def cross(s t:Side):Bool:=parts s t.1 t.2 && parts t s.1 s.2
theorem cross_comm(s t:Side):cross s t=cross t s:=by unfold cross;rw[Bool.and_comm]
theorem neg_mul_iff(x y:Int):x*y<0 ↔ (x<0/\0<y)∨(0<x/\y<0):=by
 constructor
 .intro h
  by_cases h1:x<0
  .left;refine⟨h1,CU λh2=>?_⟩;have:=Int.mul_nonneg_of_nonpos_of_nonpos (a:=x) (b:=y) (by lia) (by lia);lia
  .by_cases h2:x=0
   .rw[h2,Int.zero_mul]at h;lia
   .right;refine⟨by lia,CU λh3=>?_⟩;have:=CO (a:=x) (b:=y) (by lia) (by lia);lia
 .rintro (⟨h1,h2⟩ |⟨h1,h2⟩)
  .exact Int.mul_neg_of_neg_of_pos h1 h2
  .exact Int.mul_neg_of_pos_of_neg h1 h2
theorem zg9{a q:Int}(h1:-1<=a)(h2:a<=1)(h3:-1<=q)(h4:q<=1):(1<=a*q->(a=1/\q=1)∨(a=-1/\q=-1))/\(a*q<=-1->(a=1/\q=-1)∨(a=-1/\q=1))/\-1<=a*q/\a*q<=1:=by
 have ha:a=-1∨a=0∨a=1:=by lia
 rcases ha with rfl |rfl |rfl <;> lia
theorem zjk{s:Nat}(hs:s<8):-1<=(mv s).1/\(mv s).1<=1/\-1<=(mv s).2/\(mv s).2<=1:=(by decide:∀s<8,-1<=(mv s).1/\(mv s).1<=1/\-1<=(mv s).2/\(mv s).2<=1) s hs
theorem zh1{c d:Cell}{s t:Nat}(hs:s < 8)(ht:t < 8)(h:cross (c, go c s) (d, go d t)=true) :
  ((mv s).1≠0/\(mv s).2≠0)/\((d=(c.1+(mv s).1,c.2)/\go d t=(c.1,c.2+(mv s).2))∨(d=(c.1,c.2+(mv s).2)/\go d t=(c.1+(mv s).1,c.2))):=by
 obtain⟨x,y⟩:=c;obtain⟨u,v⟩:=d;have hs1:=zjk hs;have ht1:=zjk ht;unfold cross parts at h;rw[AT,decide_eq_true_eq,decide_eq_true_eq]at h;obtain⟨h1,h2⟩:=h
 have e1:crs (x,y) (go (x,y) s) (u,v)=(mv s).1*(v-y)-(mv s).2*(u-x):=by unfold crs go;show (x+(mv s).1-x)*(v-y)-(y+(mv s).2-y)*(u-x)=_;rw[show x+(mv s).1-x=(mv s).1 by lia,show y+(mv s).2-y=(mv s).2 by lia]
 have e2:crs (x,y) (go (x,y) s) (go (u,v) t)=(mv s).1*(v-y)-(mv s).2*(u-x)+((mv s).1*(mv t).2-(mv s).2*(mv t).1):=by unfold crs go;show (x+(mv s).1-x)*(v+(mv t).2-y)-(y+(mv s).2-y)*(u+(mv t).1-x)=_;rw[show x+(mv s).1-x=(mv s).1 by lia,show y+(mv s).2-y=(mv s).2 by lia,show v+(mv t).2-y=(v-y)+(mv t).2 by lia,show u+(mv t).1-x=(u-x)+(mv t).1 by lia,Int.mul_add,Int.mul_add];lia
 have e3:crs (u,v) (go (u,v) t) (x,y)=(mv t).1*(y-v)-(mv t).2*(x-u):=by unfold crs go;show (u+(mv t).1-u)*(y-v)-(v+(mv t).2-v)*(x-u)=_;rw[show u+(mv t).1-u=(mv t).1 by lia,show v+(mv t).2-v=(mv t).2 by lia]
 have e4:crs (u,v) (go (u,v) t) (go (x,y) s)=(mv t).1*(y-v)-(mv t).2*(x-u)+((mv t).1*(mv s).2-(mv t).2*(mv s).1):=by unfold crs go;show (u+(mv t).1-u)*(y+(mv s).2-v)-(v+(mv t).2-v)*(x+(mv s).1-u)=_;rw[show u+(mv t).1-u=(mv t).1 by lia,show v+(mv t).2-v=(mv t).2 by lia,show y+(mv s).2-v=(y-v)+(mv s).2 by lia,show x+(mv s).1-u=(x-u)+(mv s).1 by lia,Int.mul_add,Int.mul_add];lia
 simp only at h1 h2;rw[e1,e2,neg_mul_iff]at h1;rw[e3,e4,neg_mul_iff]at h2;have g1:go (u,v) t=(u+(mv t).1,v+(mv t).2):=rfl;rw[g1];generalize (mv s).1=a at *;generalize (mv s).2=b at *;generalize (mv t).1=p at *;generalize (mv t).2=q at *;have u1:=zg9 hs1.1 hs1.2.1 ht1.2.2.1 ht1.2.2.2;have u2:=zg9 hs1.2.2.1 hs1.2.2.2 ht1.1 ht1.2.1;have c1:p*b=b*p:=Int.mul_comm _ _;have c2:q*a=a*q:=Int.mul_comm _ _;simp only[Prod.mk.injEq]
 by_cases k:2<=a*q-b*p
 .have a1:=u1.1 (by lia);have a2:=u2.2.1 (by lia);rcases a1 with⟨rfl,rfl⟩ |⟨rfl,rfl⟩ <;> rcases a2 with⟨rfl,rfl⟩ |⟨rfl,rfl⟩ <;> refine⟨by lia,?_⟩ <;> lia
 .have k2:a*q-b*p<=-2:=by lia
  have a1:=u1.2.1 (by lia);have a2:=u2.1 (by lia);rcases a1 with⟨rfl,rfl⟩ |⟨rfl,rfl⟩ <;> rcases a2 with⟨rfl,rfl⟩ |⟨rfl,rfl⟩ <;> refine⟨by lia,?_⟩ <;> lia
theorem zh2{C:Cell->Bool}{e:Edge}{s:Nat}(h:stepB C e=some s):C (go e.c s)=true:=by
 unfold stepB at h;split at h
 .cases h;assumption
 .split at h
  .cases h;assumption
  .cases h
theorem ziS{C:Cell->Bool}{e:Edge}{s:Nat}(he:IsE C e)(h:stepB C e=some s)(hs:(mv s).1≠0/\(mv s).2≠0):C (e.c.1+(mv s).1,e.c.2)=false∨C (e.c.1,e.c.2+(mv s).2)=false:=by
 obtain⟨hw,_,hg⟩:=he;obtain⟨c,w⟩:=e;simp only at hw;unfold gap at hg;simp only at hg;rcases zcB (C:=C) (e:=⟨c,w⟩) ⟨hw,by assumption,hg⟩ with⟨_,z,_⟩ |⟨_,_,z,_⟩ |⟨_,_,z,_⟩ <;> rw[h]at z
 .cases z
  have hw':w=0∨w=1∨w=2∨w=3:=by lia
  unfold go at hg;rcases hw' with rfl |rfl |rfl |rfl
  .right;simpa[mv]using hg
  .left;simpa[mv]using hg
  .right;simpa[mv]using hg
  .left;simpa[mv]using hg
 .cases z
  have hw':w=0∨w=1∨w=2∨w=3:=by lia
  rcases hw' with rfl |rfl |rfl |rfl <;> simp[mv]at hs
 .cases z
theorem zfE{C:Cell->Bool}{e f:Edge}{s t:Nat}(he:IsE C e)(hf:IsE C f)(h1:stepB C e=some s)(h2:stepB C f=some t)(hs:s<8)(ht:t<8):cross (e.c,go e.c s) (f.c,go f.c t)=false:=by
 cases z:cross (e.c,go e.c s) (f.c,go f.c t) with
 |false=>rfl
 |true =>
  obtain⟨hm,hd⟩:=zh1 hs ht z;have c1:=hf.2.1;have c2:=zh2 h2;rcases ziS he h1 hm with g |g <;> rcases hd with⟨d1,d2⟩ |⟨d1,d2⟩
  .rw[d1,g]at c1;cases c1
  .rw[d2,g]at c2;cases c2
  .rw[d2,g]at c2;cases c2
  .rw[d1,g]at c1;cases c1
end TH
namespace TH
open RP
noncomputable def bhd(ks:List Nat)(n:Nat):List Nat:=ks.drop 1++[n]
noncomputable def hd2(B:List Nat)(n:Nat):Nat:=B.headD n
noncomputable def prs(n:Nat):List Nat->List (Nat×Nat)
 |[]=>[]
 |a::B=>(a,hd2 B n)::prs n B
theorem zgF(n:Nat):∀ks:List Nat,prs n ks=ks.zip (bhd ks n)
 |[]=>rfl
 |[a]=>rfl
 |a::b::B=>by
  have:=zgF n (b::B);show (a,b)::prs n (b::B)=(a,b)::((b::B).zip (bhd (b::B) n));rw[this]
noncomputable def sdO(sp:List Cell)(p:Nat×Nat):Side:=(sp.getD p.1 (0,0),sp.getD (p.2 % sp.length) (0,0))
noncomputable def sds(sp:List Cell)(ks:List Nat):List Side:=(prs sp.length ks).map (sdO sp)
noncomputable def allS:List (List Cell)->List (List Nat)->List Side
 |sp::S,ks::T=>sds sp ks++allS S T
 |_,_=>[]
noncomputable def NoX(L:List Side):Prop:=L.Pairwise λs t=>cross s t=false
noncomputable def Crn(n:Nat)(ks:List Nat):Prop:=ks.Pairwise (·<·)/\ks[0]?=some 0/\∀k∈ks,k<n
theorem Crn.range{n:Nat}(h:0<n):Crn n (As n):=⟨List.pairwise_lt_range,by rw[BB h],λk hk=>Cs.mp hk⟩
end TH
namespace RP
noncomputable def bv(w:Nat):Int:=if w=1∨w=2 then 1 else 0
noncomputable def tt(C:Cell->Bool)(e:Edge):Int:=match stepB C e with
 |none=>1
 |some s=>if s % 2=1 then -1 else 0
noncomputable def eL(w:Nat):Int:=(if w=2∨w=3 then 1 else 0)-(if w=1∨w=2 then 1 else 0)+bv w
noncomputable def cr(x1 y1 x2 y2:Int):Int:=if y1=-1/\y2=0/\0<x2 then 1 else if y1=0/\y2=-1/\0<x1 then -1 else 0
section
variable (U V:Nat->Int)
noncomputable def hH(i j:Nat):Int:=cr (U j-U i) (V j-V i) (U (j+1)-U i) (V (j+1)-V i)
noncomputable def gG(i j:Nat):Int:=cr (U j-U i) (V j-V i) (U j-U (i+1)) (V j-V (i+1))
noncomputable def sE:Nat->Int
 | 0=>0
 |i+1=>sE i+hH U V i (i+1)+gG U V i (i+2)
variable {U V}
variable {n:Nat}
end
noncomputable def crs(x1 y1 x2 y2:Int):Int:=cr x1 y1 (x1+x2) (y1+y2)+cr (x1+x2) (y1+y2) x2 y2
noncomputable def it(C:Cell->Bool)(b:Edge):Nat->Edge
 | 0=>b
 |k+1=>nxt C (it C b k)
noncomputable def wW(C:Cell->Bool)(b:Edge):Nat->Int
 | 0=>b.w
 |k+1=>wW C b k+tt C (it C b k)
noncomputable def th(C:Cell->Bool)(b:Edge)(k:Nat):Int:=2*wW C b k-1+tt C (it C b k)
theorem Closed.head{C:Cell->Bool}{b a:Edge}{r:List Edge}(h:Closed C b (a::r)):a=b:=by have:=h.1.1;simpa using this
theorem Closed.rot1{C:Cell->Bool}{b c:Edge}{r:List Edge}(h:Closed C b (b::r))(hc:(r++[b])[0]?=some c):Closed C c (r++[b]):=by
 obtain⟨⟨h0,hs,hE,hn⟩,l,hl,hb⟩:=id h;refine⟨⟨hc,λi e f h1 h2=>?_,λe he=>hE e (by rcases Ba.mp he with m |m;exact Ao _ m;rw[AN.mp m];exact Ay),?_⟩,?_⟩
 .have hi:=(Ab.mp h2).1;simp only[Aj,AO,BR]at hi;rw[Am (by lia)]at h1;rcases A3 (i+1) r.length with q |q
  .rw[Am q]at h2;exact hs (i+1) e f (by simpa using h1) (by simpa using h2)
  .have e1:i+1=r.length:=by lia
   rw[Au (by lia),e1]at h2;simp at h2;have e2:(b::r).length-1=i+1:=by simp;lia
   rw[e2]at hl;simp only[List.getElem?_cons_succ]at hl;rw[hl]at h1
   cases h1
   rw[hb,h2]
 .rw[List.nodup_append];have:=Cb.mp hn;exact⟨this.2,by simp,λx hx y hy e=>by rw[AN.mp hy]at e;rw[e]at hx;exact this.1 hx⟩
 .refine⟨b,by simp,?_⟩
  cases r with
  |nil =>
   simp at hl hc;subst hc;subst hl;exact hb
  |cons a r =>
   simp at hc;have:=hs 0 b a rfl rfl;rw[<- this,hc]
theorem Closed.rot{C:Cell->Bool}:∀(j:Nat){b e:Edge}{es:List Edge},Closed C b es->es[j]?=some e->Closed C e (es.drop j++es.take j)
 | 0,b,e,es,h,he=>by
  have:=h.1.1;rw[he]at this
  cases this
  simpa using h
 |j+1,b,e,[],h,he=>by simp at he
 |j+1,b,e,a::r,h,he=>by
  have:=h.head;subst this;simp only[List.getElem?_cons_succ]at he;have hj:=(Ab.mp he).1;obtain⟨c,hc⟩:∃c,(r++[a])[0]?=some c:=⟨_,Aa (by simp)⟩;have h1:=h.rot1 hc;have h2:=Closed.rot j h1 (by rw[Am hj];exact he);rw[List.drop_append_of_le_length (by lia),List.take_append_of_le_length (by lia)]at h2;simpa using h2
end RP
namespace L2
open PySem PySem.Spec PyProof.Rows
section
variable {X:Cx}{pins:List (Addr×Obj)}{σ:St}{H:Hp}{s:Ae}
theorem ze1 (hg:X.A.guards=some []) (hu:X.A.units+70<cLine):CallR X (.builtin "repr") (λxs H Q=>∃a d,xs=[.ref a]/\RD X.K H (.ref a) d/\d.showable=true/\Bd d=true/\d.shown.length<=sizeLine/\Q (.str d.shown) H):=by
 intro pins s σ H xs us Q I r h;obtain⟨a,d,rfl,hd,hs,hsh,hz,q⟩:=h;obtain⟨u,rfl,rx⟩:=vals1 r
 cases (show u=AB a from rx)
 obtain⟨as,ra⟩:=I.reads hd rfl;unfold Bd at hsh;rw[AT,decide_eq_true_iff]at hsh;exact repr_of_reads' ra hs (PyData.noDict_hsm (PyData.hasDict_of_canLay d hsh.1)) hg (by have:=hsh.2;lia) (λb o e=>e) (λh' t tk hk=>⟨.str d.shown,H,I.kept hk,⟨t,rfl⟩,q⟩) hz
end
structure BlkC (osc:Scope) (N:List Str) (sc:Scope) (N':List Str) (sel:List (Option Nat)):Prop where
 kind:sc.kind=.function
 nd:(sc.names.map (·.1)).Nodup
 names:∀y∈sc.names,y.2=.local->sc.names.lookup y.1=some .local
 free:∀y∈sc.names,y.2=.free->osc.names.lookup y.1=some .cell∨osc.names.lookup y.1=some .free
 len:sel.length=N'.length
 sel:∀p∈sel.zip N',∀i∈p.1,N[i]?=some p.2/\sc.names.lookup p.2=some .free
section
variable {X:Cx}{osc:Scope}{N:List Str}{sc:Scope}{N':List Str}{sel:List (Option Nat)}{cl:List (Str×Addr)}{pins:List (Addr×Obj)}{σ:St}{H:Hp}{s:Ae}{fp:List Addr}
end
section
variable {X:Cx}{osc:Scope}{N:List Str}{sc:Scope}{N':List Str}{sel:List (Option Nat)}{pos:Pos}{elt tg iter:Expr}{ifs:List Expr}{wi:TI}{g:TG}{tt:TT}{te:TE}
end
open PySem
theorem sC{N P:List Str}{sc:Scope}(a:sc.kind = .function := by rfl)(b:sc.isCoroutine=false := by rfl)(c:sc.isGenerator=false := by rfl)(d:N.Nodup := by decide +kernel)(e:N.take P.length=P := by rfl)
  (f:∀x∈P,sc.names.lookup x=some .local∨sc.names.lookup x=some .cell:=by decide +kernel) (g:∀y∈sc.names,y.2≠.free:=by decide +kernel):FnScope N P sc:=⟨a,b,c,d,e,f,g⟩
section
variable {X:Cx}{k j:Nat}{x:Str}{ps:List Str}{sp:Sp}{e:Expr}{es:List Expr}{t:TA}{te:TE}{p pos pos':Pos}
theorem pC (g:Fn X.prog X.w X.K X.mg X.base k x ps sp) (hr:Room j X.A) (ha:PA X (e :: es) t) (hj:k <= j := by decide) (hg:Gl X x := by rfl) (hdb:(x == ("__debug__" : Str))=false := by decide)
  (he:AJ (e::es) X.env=(false,eval e X.env)::AJ es X.env:=by rfl) (hpl:(Ci pos (AJ es X.env)).any (·.1)=false:=by rfl):PE X (.Call (.Name x p) (e::es) [] pos) (tCall sp [] E0 t) :=
 zlr g.ok (hr.mono hj) hg g.m g.kp g.b .nil pass0 ha hdb he hpl
theorem nG(i:Nat)(hN:X.N.Nodup)(hi:X.N[i]?=some x:=by rfl)(hx:Loc X.env.scope x:=by exact Or.inl rfl)(hf:X.fn x=true∨X.env.scope.names.lookup x=some .local:=by first |exact .inl rfl |exact .inr rfl |assumption):PG X (.Name x pos) (gName i) :=
 zfh hN hi hx hf
theorem sE(i:Nat)(hN:X.N.Nodup)(he:PE X e te)(hi:X.N[i]? = some x := by rfl)(hx:Loc X.env.scope x := by exact Or.inl rfl)(hs:swapsWith e (some (.Name x pos')) pos.line X.env=pure false := by rfl)
  (hf:X.fn x=true∨X.env.scope.names.lookup x=some .local:=by first |exact .inl rfl |exact .inr rfl |assumption):PS X (.Assign [.Name x pos'] e pos) (tAsg te (gName i)) :=
 zda hN hi hx he hs hf
end
theorem bO{osc:Scope}{N:List Str}{sc:Scope}{N':List Str}{sel:List (Option Nat)}(a:sc.kind = .function := by rfl)(b:∀y ∈ sc.names, y.2 ≠ .cell := by decide +kernel)(c:∀y ∈ sc.names, y.2 = .local -> sc.names.lookup y.1=some .local := by decide +kernel)
  (d:∀y∈sc.names,y.2=.free->osc.names.lookup y.1=some .cell∨osc.names.lookup y.1=some .free:=by decide +kernel) (e:sel.length=N'.length:=by rfl) (f:∀p∈sel.zip N',∀i∈p.1,N[i]?=some p.2/\sc.names.lookup p.2=some .free:=by decide +kernel):BlkOk osc N sc N' sel:=⟨a,b,c,d,e,f⟩
section
variable {K:W.Frag}{x qual:Str}{st:Stmt}{f:Addr}{fd:Bs}
theorem Fun.b1{p0:Str}(F:Fun K x qual st f fd)(h:∀(kV doc pm:Ad) (an:Option Addr) (cdv ct a0:Ad),CL (Cw x qual (za1 st) (zaR st) (zae st) .none kV doc pm an cdv ct) ⟨[a0],[]⟩=pure [(p0,a0)]:=by intros;rfl):Binds K fd [p0] [] :=
 F.binds λkV doc pm an cdv ct us hl=>match us,hl with |[a0],_=>h kV doc pm an cdv ct a0
theorem Fun.b2{p0 p1:Str}(F:Fun K x qual st f fd)(h:∀(kV doc pm:Ad) (an:Option Addr) (cdv ct a0 a1:Ad),CL (Cw x qual (za1 st) (zaR st) (zae st) .none kV doc pm an cdv ct) ⟨[a0,a1],[]⟩=pure [(p0,a0),(p1,a1)]:=by intros;rfl):Binds K fd [p0,p1] [] :=
 F.binds λkV doc pm an cdv ct us hl=>match us,hl with |[a0,a1],_=>h kV doc pm an cdv ct a0 a1
theorem Fun.b3{p0 p1 p2:Str}(F:Fun K x qual st f fd)(h:∀(kV doc pm:Ad) (an:Option Addr) (cdv ct a0 a1 a2:Ad),CL (Cw x qual (za1 st) (zaR st) (zae st) .none kV doc pm an cdv ct) ⟨[a0,a1,a2],[]⟩=pure [(p0,a0),(p1,a1),(p2,a2)]:=by intros;rfl):Binds K fd [p0,p1,p2] [] :=
 F.binds λkV doc pm an cdv ct us hl=>match us,hl with |[a0,a1,a2],_=>h kV doc pm an cdv ct a0 a1 a2
theorem Fun.b4{p0 p1 p2 p3:Str}(F:Fun K x qual st f fd)(h:∀(kV doc pm:Ad) (an:Option Addr) (cdv ct a0 a1 a2 a3:Ad),CL (Cw x qual (za1 st) (zaR st) (zae st) .none kV doc pm an cdv ct) ⟨[a0,a1,a2,a3],[]⟩=pure [(p0,a0),(p1,a1),(p2,a2),(p3,a3)]:=by intros;rfl):Binds K fd [p0,p1,p2,p3] [] :=
 F.binds λkV doc pm an cdv ct us hl=>match us,hl with |[a0,a1,a2,a3],_=>h kV doc pm an cdv ct a0 a1 a2 a3
theorem Fun.b6{p0 p1 p2 p3 p4 p5:Str}(F:Fun K x qual st f fd)(h:∀(kV doc pm:Ad) (an:Option Addr) (cdv ct a0 a1 a2 a3 a4 a5:Ad),CL (Cw x qual (za1 st) (zaR st) (zae st) .none kV doc pm an cdv ct) ⟨[a0,a1,a2,a3,a4,a5],[]⟩=pure [(p0,a0),(p1,a1),(p2,a2),(p3,a3),(p4,a4),(p5,a5)]:=by intros;rfl):Binds K fd [p0,p1,p2,p3,p4,p5] [] :=
 F.binds λkV doc pm an cdv ct us hl=>match us,hl with |[a0,a1,a2,a3,a4,a5],_=>h kV doc pm an cdv ct a0 a1 a2 a3 a4 a5
end
noncomputable def DA(K:W.Frag)(x:Str)(st:Stmt):Prop:=∃(f:Addr) (od an:Option Addr) (sl:Array (Option Ad)) (oc kV dc pm cd ct:Ad),Ct K AI x=some (some (.ref f)) /\
 K.lookup f=some ⟨oc,od,.func (Cw x x (za1 st) (zaR st) (zae st) .none kV dc pm an cd ct),sl⟩/\W.codeIn K cd x=true/\W.keepIn K (.ref f)=true
section
variable {K:W.Frag}{mg:Str->Option Ad}{h:Heap}{x:Str}{st:Stmt}
theorem DA.mk{f:Addr}{od an:Option Addr}{sl:Array (Option Ad)}{oc kV dc pm cd ct:Ad}(a:Ct K AI x=some (some (.ref f)))
  (l:K.lookup f=some ⟨oc,od,.func (Cw x x (za1 st) (zaR st) (zae st) .none kV dc pm an cd ct),sl⟩) (c:W.codeIn K cd x=true) (k:W.keepIn K (.ref f)=true):DA K x st :=
 ⟨f,od,an,sl,oc,kV,dc,pm,cd,ct,a,l,c,k⟩
theorem DA.d1{p0:Str}(D:DA K x st)(X:K.In h)(G:h.Ns AI mg)(hb:∀(kV doc pm:Ad) (an:Option Addr) (cdv ct a0:Ad),CL (Cw x x (za1 st) (zaR st) (zae st) .none kV doc pm an cdv ct) ⟨[a0],[]⟩=pure [(p0,a0)]:=by intros;rfl):Nonempty (Df K mg x st [p0]):=by obtain⟨f,od,an,sl,oc,kV,dc,pm,cd,ct,a,l,c,k⟩:=D;exact⟨⟨f,_,zcC l c k,W.mg_of X G a,(zcC l c k).b1 hb⟩⟩
theorem DA.d2{p0 p1:Str}(D:DA K x st)(X:K.In h)(G:h.Ns AI mg)(hb:∀(kV doc pm:Ad) (an:Option Addr) (cdv ct a0 a1:Ad),CL (Cw x x (za1 st) (zaR st) (zae st) .none kV doc pm an cdv ct) ⟨[a0,a1],[]⟩=pure [(p0,a0),(p1,a1)]:=by intros;rfl):Nonempty (Df K mg x st [p0,p1]):=by obtain⟨f,od,an,sl,oc,kV,dc,pm,cd,ct,a,l,c,k⟩:=D;exact⟨⟨f,_,zcC l c k,W.mg_of X G a,(zcC l c k).b2 hb⟩⟩
theorem DA.d3{p0 p1 p2:Str}(D:DA K x st)(X:K.In h)(G:h.Ns AI mg)(hb:∀(kV doc pm:Ad) (an:Option Addr) (cdv ct a0 a1 a2:Ad),CL (Cw x x (za1 st) (zaR st) (zae st) .none kV doc pm an cdv ct) ⟨[a0,a1,a2],[]⟩=pure [(p0,a0),(p1,a1),(p2,a2)]:=by intros;rfl):Nonempty (Df K mg x st [p0,p1,p2]):=by obtain⟨f,od,an,sl,oc,kV,dc,pm,cd,ct,a,l,c,k⟩:=D;exact⟨⟨f,_,zcC l c k,W.mg_of X G a,(zcC l c k).b3 hb⟩⟩
theorem DA.d4{p0 p1 p2 p3:Str}(D:DA K x st)(X:K.In h)(G:h.Ns AI mg)(hb:∀(kV doc pm:Ad) (an:Option Addr) (cdv ct a0 a1 a2 a3:Ad),CL (Cw x x (za1 st) (zaR st) (zae st) .none kV doc pm an cdv ct) ⟨[a0,a1,a2,a3],[]⟩=pure [(p0,a0),(p1,a1),(p2,a2),(p3,a3)]:=by intros;rfl):Nonempty (Df K mg x st [p0,p1,p2,p3]):=by obtain⟨f,od,an,sl,oc,kV,dc,pm,cd,ct,a,l,c,k⟩:=D;exact⟨⟨f,_,zcC l c k,W.mg_of X G a,(zcC l c k).b4 hb⟩⟩
theorem DA.d6{p0 p1 p2 p3 p4 p5:Str}(D:DA K x st)(X:K.In h)(G:h.Ns AI mg)(hb:∀(kV doc pm:Ad) (an:Option Addr) (cdv ct a0 a1 a2 a3 a4 a5:Ad),CL (Cw x x (za1 st) (zaR st) (zae st) .none kV doc pm an cdv ct) ⟨[a0,a1,a2,a3,a4,a5],[]⟩=pure [(p0,a0),(p1,a1),(p2,a2),(p3,a3),(p4,a4),(p5,a5)]:=by intros;rfl):Nonempty (Df K mg x st [p0,p1,p2,p3,p4,p5]):=by obtain⟨f,od,an,sl,oc,kV,dc,pm,cd,ct,a,l,c,k⟩:=D;exact⟨⟨f,_,zcC l c k,W.mg_of X G a,(zcC l c k).b6 hb⟩⟩
end
inductive IsC:Expr->V->Prop where
 |int {n:Int} {k:Nat} {p:Pos}:IsC (.Constant (.int n) k p) (.int n)
 |bl {b:Bool} {k:Nat} {p:Pos}:IsC (.Constant (.bool b) k p) (.bl b)
 |neg {n:Int} {k:Nat} {p q:Pos}:IsC (.UnaryOp .USub (.Constant (.int n) k p) q) (.int (-n))
inductive IsPs:List Expr->List (V×V)->Prop where
 |nil:IsPs [] []
 |cons {a b:Expr} {x y:V} {k:Nat} {p:Pos} {es:List Expr} {l:List (V×V)}:IsC a x->IsC b y->IsPs es l->IsPs (.Tuple [a,b] k p::es) ((x,y)::l)
inductive RetPs:List Stmt->List (V×V)->Prop where
 |mk {es:List Expr} {l:List (V×V)} {p q:Pos}:IsPs es l->RetPs [.Return (some (.List es p)) q] l
section
variable {X:Cx}
theorem zhv{e:Expr}{v:V}(h:IsC e v):PE X e (tC v):=by
 cases h with
 |int=>exact zac
 |bl=>exact pe_bl
 |neg=>exact λpins s σ H Q I q=>(pe_un zct zac) pins s σ H Q I ⟨_,rfl,q⟩
theorem zeO{e:Expr}{v:V}(h:IsC e v)(es:List Expr)(env:Env):AJ (e::es) env=(false,eval e env)::AJ es env:=by cases h <;> rfl
theorem zkm{es:List Expr}{l:List (V×V)}(h:IsPs es l):PA X es (tPrs l):=by
 induction h with
 |nil=>exact zab
 |cons h1 h2 _ ih=>exact pa_T (za8 (zag (zhv h1) (zag (zhv h2) zab (zeO h2 _ _)) (zeO h1 _ _))) ih
end
noncomputable def zgt(t:TA):TE:=λσ H Q=>t σ H λvs H1=>∃m n:Nat,vs=[.int m,.int n]/\m<=n/\n<=1000/\∀S,H1 S=none->Q (.ref S) (upd H1 S (.lst ((As (n-m)).map λi:Nat=>V.int ((m+i:Nat):Int))))
section
variable {X:Cx}{a b:Expr}{t:TA}{p p2 pos pos2:Pos}
theorem zgG (hg:Gl X "list") (hm:X.mg "list" = none) (hg2:Gl X "range") (hm2:X.mg "range" = none) (ha:PA X [a, b] t) (hc:X.calm=true := by rfl)
  (hs:AJ [a,b] X.env=[(false,eval a X.env),(false,eval b X.env)]:=by rfl) (hs2:AJ [b] X.env=[(false,eval b X.env)]:=by rfl)
  (he:AJ [.Call (.Name "range" p2) [a,b] [] pos2] X.env=(false,eval (.Call (.Name "range" p2) [a,b] [] pos2) X.env)::AJ [] X.env:=by rfl) (hpl:(Ci pos (AJ [] X.env)).any (·.1)=false:=by rfl) :
  PE X (.Call (.Name "list" p) [.Call (.Name "range" p2) [a,b] [] pos2] [] pos) (zgt t):=by
 intro pins s σ H Q I h;refine Bh (zbR I hg hm (by rfl) ?_ (by decide) (by decide));refine AS ?_ he hpl;rw[he];show Ar _ _ (spliced ((false,eval (.Call (.Name "range" p2) [a,b] [] pos2) X.env)::Ci pos (AJ [] X.env))) _ _ s;refine Dc ?_
 refine Call_ (zbR I hg2 hm2 boot_range (AS (thn (ha pos2 pins s σ H _ I h) λus s1 ⟨vs,H1,I1,r1,q1⟩=>?_) (by rw[hs,hs2]) (by rw[hs2];rfl)));obtain⟨m,n,e,hmn,hn,q⟩:=q1;subst e
 cases r1 with
 |cons r rr =>
  cases rr with
  |cons r' rr =>
  cases rr
  obtain⟨tt,rfl⟩:=r;obtain⟨tt',rfl⟩:=r';refine call_range_2 ?_
  refine Calls.spliced_nil ?_
  have hsz:Dg (m:Int) (n:Int) 1=((n-m:Nat):Int):=by rw[rangeSize_one];split <;> lia
  refine call_list_range (n:=n-m) (show X.A.handled=none from I1.ok.hd hc) (IsRange.new ..) (small_one (by lia) (by lia) (by lia) (by lia)) hsz (by lia) λh' tk acc c kp g hacc=>?_
  refine⟨.ref _,_,(I1.kept (t':=tk) (h':=s1.heap.push _) λb o e=>Ai _ e).laid (t':=tk) (o:=.lst ((As (n-m)).map λi:Nat=>V.int ((m+i:Nat):Int))) kp (Ah _) ?_,rfl,q _ ((I1.kept (t':=tk) (h':=s1.heap.push _) λb o e=>Ai _ e).hok.fresh (Ah _))⟩;refine⟨by rw[Af,A4];exact AF (AF (Nat.sub_le _ _) hn) (by decide),acc.toList,c,zg1 (by simp[hacc.1]) λi x u h1 h2=>?_,by rw[Array.toArray_toList];exact g⟩;obtain⟨t1,rfl⟩:=hacc.2 i u (by simpa using h2)
  have hi:i<n-m:=by have:=(Ab.mp h1).1;simpa using this
  rw[Az,BB hi]at h1
  cases h1
  exact⟨t1,by simp⟩
end
end L2
namespace RR
open PySem L2
noncomputable def top(i:Nat):Stmt:=PySem.Challenge.pw_rimsteps_k66_thinnings_looked_at.main.body.getD i (.Pass ⟨0,0,0,0⟩)
noncomputable abbrev zcy:Stmt:=top 5
noncomputable abbrev zgp:List Str:=["cell"]
theorem zfc:FnScope zgp ["cell"] (zae zcy):=sC
noncomputable abbrev zcj:Stmt:=top 6
noncomputable abbrev zfC:List Str:=["picture","at"]
theorem zcP:FnScope zfC ["picture"] (zae zcj):=sC
noncomputable abbrev ziY:Stmt:=top 7
noncomputable abbrev zms:List Str:=["x","y","step","right","up"]
theorem zgA:FnScope zms ["x","y","step"] (zae ziY):=sC
noncomputable abbrev zbV:Stmt:=top 8
noncomputable abbrev zdF:List Str:=["picture"]
theorem zfb:FnScope zdF ["picture"] (zae zbV):=sC
noncomputable abbrev zcx:Stmt:=top 10
noncomputable abbrev zgo:List Str:=["edge","x","y","way"]
theorem zbB:FnScope zgo ["edge"] (zae zcx):=sC
noncomputable abbrev zbL:Stmt:=top 11
noncomputable abbrev zc2:List Str:=["picture","table","edges"]
theorem zcu:FnScope zc2 ["picture"] (zae zbL):=sC
noncomputable abbrev zbK:Stmt:=top 12
noncomputable abbrev zej:List Str:=["way"]
theorem zdI:FnScope zej ["way"] (zae zbK):=sC
noncomputable abbrev zcw:Stmt:=top 13
noncomputable abbrev zgm:List Str:=["way"]
theorem zfa:FnScope zgm ["way"] (zae zcw):=sC
noncomputable abbrev zcg:Stmt:=top 14
noncomputable abbrev zfz:List Str:=["table","edge","x","y","way","step"]
theorem zba:FnScope zfz ["table","edge"] (zae zcg):=sC
noncomputable abbrev zdq:Stmt:=top 15
noncomputable abbrev zio:List Str:=["step"]
theorem zgz:FnScope zio ["step"] (zae zdq):=sC
noncomputable abbrev zci:Stmt:=top 16
noncomputable abbrev zfB:List Str:=["edge","step","x","y","way","new_x","new_y"]
theorem zaZ:FnScope zfB ["edge","step"] (zae zci):=sC
noncomputable abbrev zcU:Stmt:=top 19
noncomputable abbrev zg2:List Str:=["table","begin","step","walk","edge"]
theorem zbg:FnScope zg2 ["table","begin"] (zae zcU):=sC
noncomputable abbrev zaU:Stmt:=top 20
noncomputable abbrev zbp:List Str:=["walk","lefts","slants"]
theorem zbe:FnScope zbp ["walk"] (zae zaU):=sC
noncomputable abbrev zbf:Stmt:=top 21
noncomputable abbrev zc1:List Str:=["walk","lefts","slants"]
theorem za9:FnScope zc1 ["walk"] (zae zbf):=sC
noncomputable abbrev zdW:Stmt:=top 22
noncomputable abbrev zjY:List Str:=["walk"]
theorem zh5:FnScope zjY ["walk"] (zae zdW):=sC
noncomputable abbrev zcI:Stmt:=top 23
noncomputable abbrev ze3:List Str:=["walk","sort"]
theorem zgC:FnScope ze3 ["walk","sort"] (zae zcI):=sC
noncomputable abbrev zbF:Stmt:=top 24
noncomputable abbrev zdz:List Str:=["walk","sort","begin","at","row"]
theorem zbH:FnScope zdz ["walk"] (zae zbF):=sC
noncomputable abbrev zch:Stmt:=top 25
noncomputable abbrev zfA:List Str:=["one","sort","x","y","row"]
theorem zbb:FnScope zfA ["one"] (zae zch):=sC
noncomputable abbrev zb0:Stmt:=top 26
noncomputable abbrev zeJ:List Str:=["table","edges","walked","told","begin","walk","edge","step"]
theorem zaS:FnScope zeJ ["table","edges"] (zae zb0):=sC
noncomputable abbrev zfe:Stmt:=top 27
noncomputable abbrev zkA:List Str:=["picture"]
theorem ziW:FnScope zkA ["picture"] (zae zfe):=sC
noncomputable abbrev zdp:Stmt:=top 29
noncomputable abbrev zin:List Str:=["thing"]
theorem zgy:FnScope zin ["thing"] (zae zdp):=sC
noncomputable abbrev zgD:Stmt:=top 31
noncomputable abbrev zlX:List Str:=["start","one","other"]
theorem zj9:FnScope zlX ["start","one","other"] (zae zgD):=sC
noncomputable abbrev zff:Stmt:=top 32
noncomputable abbrev zkB:List Str:=["start","one","other"]
theorem ziX:FnScope zkB ["start","one","other"] (zae zff):=sC
noncomputable abbrev zdr:Stmt:=top 33
noncomputable abbrev ziq:List Str:=["cell","side","bound","start","end"]
theorem zcT:FnScope ziq ["cell","side","bound"] (zae zdr):=sC
noncomputable abbrev zdZ:Stmt:=top 34
noncomputable abbrev zj0:List Str:=["side","one","other","start","end"]
theorem zdn:FnScope zj0 ["side","one","other"] (zae zdZ):=sC
noncomputable abbrev zds:Stmt:=top 35
noncomputable abbrev zir:List Str:=["one","other"]
theorem zgB:FnScope zir ["one","other"] (zae zds):=sC
noncomputable abbrev zdo:Stmt:=top 36
noncomputable abbrev zim:List Str:=["one","sort","x","y","row","spots","step"]
theorem zaX:FnScope zim ["one"] (zae zdo):=sC
noncomputable abbrev zdY:Stmt:=top 37
noncomputable abbrev zjZ:List Str:=["spots","corners"]
theorem zh6:FnScope zjZ ["spots","corners"] (zae zdY):=sC
noncomputable abbrev zbZ:Stmt:=top 38
noncomputable abbrev zeI:List Str:=["spots","start","end"]
theorem zdT:FnScope zeI ["spots","start","end"] (zae zbZ):=sC
noncomputable abbrev za7:Stmt:=top 39
noncomputable abbrev zcd:List Str:=["spots","bound","start","end","side"]
theorem zbU:FnScope zcd ["spots","bound","start","end"] (zae za7):=sC
noncomputable abbrev zc9:Stmt:=top 40
noncomputable abbrev zgn:List Str:=["one","bound","corners","spots"]
theorem zeS:FnScope zgn ["one","bound","corners"] (zae zc9):=sC
noncomputable abbrev zcH:Stmt:=top 41
noncomputable abbrev ze2:List Str:=["one","corners","spots"]
theorem zdS:FnScope ze2 ["one","corners"] (zae zcH):=sC
noncomputable abbrev zck:Stmt:=top 42
noncomputable abbrev zek:List Str:=["some","thinning"]
theorem zfR:FnScope zek ["some","thinning"] (zae zck):=sC
noncomputable abbrev zbn:Stmt:=top 43
noncomputable abbrev zcp:List Str:=["one","thing","rising"]
theorem zcQ:FnScope zcp ["one","thing"] (zae zbn):=sC
noncomputable abbrev zbD:Stmt:=top 44
noncomputable abbrev zdk:List Str:=["some","thing"]
theorem zeq:FnScope zdk ["some","thing"] (zae zbD):=sC
noncomputable abbrev zdX:Stmt:=top 45
noncomputable abbrev zg3:List Str:=["some","bound","thing","sides"]
theorem zhn:FnScope zg3 ["some","bound","thing"] (zae zdX):=sC
noncomputable abbrev zb4:Stmt:=top 47
noncomputable abbrev zeN:List Str:=["_law_script","_law_k"]
theorem zdV:FnScope zeN ["_law_script","_law_k"] (zae zb4):=sC
noncomputable abbrev zcV:Stmt:=top 48
noncomputable abbrev zg4:List Str:=["_law_pen","_law_base","_law_rest","_law_number"]
theorem zbv:FnScope zg4 ["_law_pen","_law_base"] (zae zcV):=sC
noncomputable abbrev zdu:Stmt:=top 49
noncomputable abbrev zit:List Str:=["_law_pen","_law_way"]
theorem zdU:FnScope zit ["_law_pen"] (zae zdu):=sC
noncomputable abbrev zbM:Stmt:=top 50
noncomputable abbrev zel:List Str:=["_law_pen","_law_way","_law_x","_law_y","_law_wide","_law_high"]
theorem zdJ:FnScope zel ["_law_pen","_law_way","_law_x","_law_y","_law_wide","_law_high"] (zae zbM):=sC
noncomputable abbrev zb2:Stmt:=top 51
noncomputable abbrev zeL:List Str:=["_law_pen","_law_most","_law_wide","_law_high","_law_way","_law_dx","_law_dy","_law_found","_law_y","_law_x"]
theorem zaE:FnScope zeL ["_law_pen","_law_most"] (zae zb2):=sC
noncomputable abbrev zaW:Stmt:=top 52
noncomputable abbrev zgr:List Str:=["_law_one","_law_found","_law_step","_law_dx","_law_dy"]
theorem zbk:FnScope zgr ["_law_one"] (zae zaW):=sC
noncomputable abbrev zbN:Stmt:=top 53
noncomputable abbrev zem:List Str:=["_law_cell","_law_one","_law_other","_law_bound","_law_right","_law_up","_law_a","_law_b","_law_long","_law_far_here","_law_x","_law_y"]
theorem zaB:FnScope zem ["_law_cell","_law_one","_law_other","_law_bound"] (zae zbN):=sC
noncomputable abbrev zb3:Stmt:=top 54
noncomputable abbrev zeM:List Str:=["_law_one","_law_bound","_law_corners_here","_law_spots_here","_law_first","_law_behind","_law_spot"]
theorem za4:FnScope zeM ["_law_one","_law_bound","_law_corners_here"] (zae zb3):=sC
noncomputable abbrev zb1:Stmt:=top 55
noncomputable abbrev zeK:List Str:=["_law_one","_law_other","_law_cell","_law_right","_law_up","_law_found"]
theorem zbm:FnScope zeK ["_law_one","_law_other","_law_cell"] (zae zb1):=sC
noncomputable abbrev zbO:Stmt:=top 56
noncomputable abbrev zen:List Str:=["_law_one","_law_other"]
theorem zdK:FnScope zen ["_law_one","_law_other"] (zae zbO):=sC
noncomputable abbrev zbW:Stmt:=top 57
noncomputable abbrev zdG:List Str:=["_law_some","_law_thinning","_law_found","_law_one","_law_corners_here","_law_spots_here"]
theorem zbl:FnScope zdG ["_law_some","_law_thinning"] (zae zbW):=sC
noncomputable abbrev zbw:Stmt:=top 58
noncomputable abbrev zcF:List Str:=["_law_some","_law_bound","_law_thinning","_law_sides_here","_law_at","_law_side"]
theorem zbC:FnScope zcF ["_law_some","_law_bound","_law_thinning"] (zae zbw):=sC
noncomputable abbrev zdt:Stmt:=top 59
noncomputable abbrev zis:List Str:=["_law_pen","_law_most","_law_steps","_law_found","_law_left","_law_one"]
theorem zbJ:FnScope zis ["_law_pen","_law_most","_law_steps"] (zae zdt):=sC
noncomputable abbrev zbt:Stmt:=top 60
noncomputable abbrev zcS:List Str:=["_law_pen","_law_many","_law_often"]
theorem zcv:FnScope zcS ["_law_pen","_law_many"] (zae zbt):=sC
noncomputable abbrev zcl:Stmt:=top 61
noncomputable abbrev zeo:List Str:=["_law_pen","_law_thinning","_law_many","_law_way","_law_at","_law_row","_law_place","_law_odd","_law_some"]
theorem zaT:FnScope zeo ["_law_pen","_law_thinning","_law_many"] (zae zcl):=sC
noncomputable abbrev zcz:Stmt:=top 62
noncomputable abbrev zgq:List Str:=["_law_thing"]
theorem zfd:FnScope zgq ["_law_thing"] (zae zcz):=sC
noncomputable abbrev zbc:Stmt:=top 63
noncomputable abbrev zb7:List Str:=["_law_thing","_law_many","_law_row","_law_size"]
theorem zbI:FnScope zb7 ["_law_thing","_law_many"] (zae zbc):=sC
noncomputable abbrev s_law:Stmt:=top 64
noncomputable abbrev N_law:List Str:=["_law_script","_law_k","_law_pen","_law_some","_law_many","_law_bound","_law_turn","_law_thing","_law_due","_law_kept","_law_found","_law_odd"]
theorem zbT:FnScope N_law ["_law_script"] (zae s_law):=sC
open PySem L2 RP
noncomputable def cellT(c:Cell):List V:=[.int c.1,.int c.2]
noncomputable def edgeT(e:Edge):List V:=[.int e.c.1,.int e.c.2,.int e.w]
noncomputable def sv:Option Nat->V
 |none=>.non
 |some s=>.int s
noncomputable def Tab(H:Hp)(t:Addr)(C:Cell->Bool):Prop:=∃kvs:List (List Key×V),H t=some (.dT kvs)/\∀c:Cell,(valV kvs [CQ c.1,CQ c.2]).isSome=C c
theorem Tab.same{H H':Hp}{t:Addr}{C:Cell->Bool}(h:Tab H t C)(s:Same H H'):Tab H' t C:=let ⟨kvs,e,q⟩:=h;⟨kvs,s _ _ e,q⟩
theorem Same.up{H:Hp}{p:Addr}{o:HO}(h:H p=none):Same H (upd H p o):=λb u e=>by rw[zam (zao e h)];exact e
structure Txt (P:AK) (w:A1) (K:W.Frag) (mg:Str->Option Ad):Prop where
 moves:∃M,mg "MOVES" = some (.ref M)/\∀H,∃ms:List Addr,SqT K H M (ms.map V.ref)/\ms.length=8/\∀(i:Nat) a,ms[i]?=some a->SqT K H a [.int (mv i).1,.int (mv i).2]
 ways:Ways P w K mg
 nany:mg "any" = none
 nenumerate:mg "enumerate" = none
 nrange:mg "range" = none
 nlen:mg "len" = none
 nmin:mg "min" = none
 nmax:mg "max" = none
 nsorted:mg "sorted" = none
 ntuple:mg "tuple" = none
 nint:mg "int" = none
 nbool:mg "bool" = none
 nabs:mg "abs" = none
 nall:mg "all" = none
 nisinstance:mg "isinstance" = none
 nlist:mg "list" = none
 nzip:mg "zip" = none
 nrepr:mg "repr" = none
theorem two:2<=sizeLine:=by decide
theorem three:3<=sizeLine:=by decide
section
variable {P:AK}{w:A1}{K:W.Frag}{mg:Str->Option Ad}{base:Heap}
noncomputable def zgw(K:W.Frag):Sp:=λvs H Q _=>∃(a:Addr) (x y:Int) (r:List V),vs=[.ref a]/\SqT K H a (.int x::.int y::r)/\∀(p:Addr) (H':Hp),H p=none->Same H H'->H' p=some (.tup [.int y,.int x])->Q (.ref p) H'
theorem zfm (d:Df K mg "cell_order" zcy ["cell"]):FnOk P w K mg base CX0 1 d.f d.fd ["cell"] (zgw K):=by
 refine d.F.ok zfc (λvs H Q E h=>?_) (λcdv A outer s H vs Q E hr h=>?_)
 .obtain⟨a,x,y,r,rfl,_⟩:=h;rfl
 .obtain⟨a,x,y,r,rfl,hq,k⟩:=h;refine⟨_,(zaf (zaj (za8 (zag (pe_ix zap (pv 0) zac (λ_ _=>rfl)) (zag (pe_ix zap (pv 0) zac (λ_ _=>rfl)) zab))))),?_⟩;refine⟨_,rfl,a,_,_,_,rfl,rfl,hq,zah (j:=1) rfl,_,rfl,a,_,_,_,rfl,rfl,hq,zah (j:=0) rfl,two,λp hp=>?_⟩;exact k p _ hp (Same.up hp) zaa
noncomputable def zfO:Sp:=λvs H Q _=>∃(c:Cell) (i:Nat),vs=[.int c.1,.int c.2,.int i]/\i<8/\∀(p:Addr) (H':Hp),H p=none->Same H H'->H' p=some (.tup (cellT (go c i)))->Q (.ref p) H'
theorem zlv (T:Txt P w K mg) (d:Df K mg "gone" ziY ["x","y","step"]):FnOk P w K mg base CX0 1 d.f d.fd ["x","y","step"] zfO:=by
 refine d.F.ok zgA (λvs H Q E h=>?_) (λcdv A outer s H vs Q E hr h=>?_)
 .obtain⟨c,i,rfl,_⟩:=h;rfl
 .obtain⟨c,i,rfl,hi,k⟩:=h;obtain⟨M,hM,hms⟩:=T.moves;obtain⟨ms,hq,hl,hm⟩:=hms H
  refine⟨_,(zad (zbX (pe_ix zap (zfi (v:=.ref M) rfl hM rfl) (pv 2) (λ_ _=>rfl)) (zbr (by rfl) (zai (nG 3 zgA.nd) (zai (nG 4 zgA.nd) zaC))))
   (zaf (zaj (za8 (pa_B (pe_op zaK (pv 0) (pv 3)) (pa_B (pe_op zaK (pv 1) (pv 4)) zab)))))),?_⟩
  have hi':i<ms.length:=by lia
  have e1:ms[i]?=some ms[i]:=by simp[hi']
  refine⟨_,rfl,M,_,(i:Int),.ref ms[i],rfl,rfl,hq,zah (by simp[hi']),ms[i],_,rfl,hm i _ e1,rfl,_,_,rfl,_,_,rfl,rfl,?_⟩;refine⟨_,rfl,_,rfl,_,_,rfl,rfl,_,rfl,_,rfl,_,_,rfl,rfl,two,λp hp=>?_⟩;exact k p _ hp (Same.up hp) zaa
noncomputable def zeQ:Sp:=λvs H Q _=>∃w:Nat,vs=[.int w]/\w<4/\Q (.int (2*w:Nat)) H
theorem zdL (d:Df K mg "straight_step" zbK ["way"]):FnOk P w K mg base CX0 1 d.f d.fd ["way"] zeQ:=by
 refine d.F.ok zdI (λvs H Q E h=>?_) (λcdv A outer s H vs Q E hr h=>?_)
 .obtain⟨w,rfl,_⟩:=h;rfl
 .obtain⟨w,rfl,hw,k⟩:=h;refine⟨_,(zaf (zaj (pe_op zaJ zac (pv 0)))),?_⟩;refine⟨_,rfl,_,_,rfl,rfl,.inl ⟨by decide,by decide⟩,?_⟩;have e:(2*(w:Int))=((2*w:Nat):Int):=by lia
  show Q (.int (2*(w:Int))) H;rw[e];exact k
noncomputable def ziF:Sp:=λvs H Q _=>∃w:Nat,vs=[.int w]/\w<4/\Q (.int ((2*w+7) % 8:Nat)) H
theorem zfj (d:Df K mg "slant_step" zcw ["way"]):FnOk P w K mg base CX0 1 d.f d.fd ["way"] ziF:=by
 refine d.F.ok zfa (λvs H Q E h=>?_) (λcdv A outer s H vs Q E hr h=>?_)
 .obtain⟨w,rfl,_⟩:=h;rfl
 .obtain⟨w,rfl,hw,k⟩:=h;refine⟨_,(zaf (zaj (pe_op zbY (pe_op zaK (pe_op zaJ zac (pv 0)) zac) zac))),?_⟩;refine⟨_,rfl,_,_,rfl,rfl,.inl ⟨by decide,by decide⟩,_,_,rfl,rfl,_,_,rfl,rfl,(by show (0:Int)<8;decide),?_⟩;have e:(2*(w:Int)+7) % 8=(((2*w+7) % 8:Nat):Int):=by lia
  show Q (.int ((2*(w:Int)+7) % 8)) H;rw[e];exact k
noncomputable def zdR:Sp:=λvs H Q _=>∃o:Option Nat,vs=[sv o]/\Q (.bl (slant o)) H
theorem zgP (d:Df K mg "is_slant" zdq ["step"]):FnOk P w K mg base CX0 1 d.f d.fd ["step"] zdR:=by
 refine d.F.ok zgz (λvs H Q E h=>?_) (λcdv A outer s H vs Q E hr h=>?_)
 .obtain⟨o,rfl,_⟩:=h;rfl
 .obtain⟨o,rfl,k⟩:=h;refine⟨_,(zaf (zaj (zd3 (zaQ zjc (pv 0) zdE (zaq _)) (zd2 (zaQ op_eq (pe_op zbY (pv 0) zac) zac (zaq _)))))),?_⟩
  cases o with
  |none=>exact⟨_,rfl,rfl,false,rfl,iteF k⟩
  |some n =>
   refine⟨_,rfl,rfl,true,rfl,iteT ⟨_,rfl,_,_,rfl,rfl,(by show (0:Int)<2;decide),rfl,?_⟩⟩
   have e:decide (V.int ((n:Int) % 2)=V.int 1)=slant (some n):=by
    show _=(n % 2 == 1)
    by_cases q:n % 2=1
    .rw[decide_eq_true (by rw[show (n:Int) % 2=1 by lia]),q];rfl
    .rw[decide_eq_false (λz=>by injection z with z;lia)];simp[q]
   rw[<- e]at k;exact k
noncomputable def spGap(K:W.Frag):Sp:=λvs H Q _=>∃(a:Addr) (e:Edge),vs=[.ref a]/\SqT K H a (edgeT e)/\e.w<4/\∀(p:Addr) (H':Hp),H p=none->Same H H'->H' p=some (.tup (cellT (gap e)))->Q (.ref p) H'
theorem zfk (g_gone:Fn P w K mg base 1 "gone" ["x","y","step"] zfO) (d:Df K mg "gap_beside" zcx ["edge"]):FnOk P w K mg base CX0 2 d.f d.fd ["edge"] (spGap K):=by
 refine d.F.ok zbB (λvs H Q E h=>?_) (λcdv A outer s H vs Q E hr h=>?_)
 .obtain⟨a,e,rfl,_⟩:=h;rfl
 .obtain⟨a,e,rfl,hq,hw,k⟩:=h
  refine⟨_,(zad (zbX (pv 0) (zbr (by rfl) (zai (nG 1 zbB.nd) (zai (nG 2 zbB.nd) (zai (nG 3 zbB.nd) zaC)))))
   (zaf (zaj (pC g_gone hr (pa_N (pv 1) (pa_N (pv 2) (pa_B (pe_op zbY (pe_op zaK (pe_op zaJ zac (pv 3)) zac) zac) zab))))))),?_⟩
  refine⟨_,rfl,a,_,rfl,hq,rfl,_,_,rfl,_,_,rfl,_,_,rfl,rfl,?_⟩;have e6:(2*(e.w:Int)+6) % 8=(((2*e.w+6) % 8:Nat):Int):=by lia
  refine⟨_,rfl,_,rfl,_,rfl,_,_,rfl,rfl,.inl ⟨by decide,by decide⟩,_,_,rfl,rfl,_,_,rfl,rfl,(by show (0:Int)<8;decide),e.c,(2*e.w+6) % 8,(by rw[<- e6];rfl),by lia,λp H' hp hS hH=>k p H' hp hS hH⟩
theorem iteN{b:Bool}{A B:Prop}(h:b=false)(q:B):if b=true then A else B:=by subst h;exact iteF q
theorem iteY{b:Bool}{A B:Prop}(h:b=true)(q:A):if b=true then A else B:=by subst h;exact iteT q
theorem zbj{tb:TS}{D:Ends}{σ:St}{H:Hp}(h:tb D σ H):tIfs (λ_ H Q=>Q true H) tb D σ H:=by
 show if true=true then tb D σ H else D.nx σ H
 exact iteT h
theorem gN{j:Nat}{v:V}{σ:St}{H:Hp}{tb:TS}{D:Ends}(h:tb D (σ.set j (some v)) H):gName j v σ H λσ2 H2=>tIfs (λ_ H Q=>Q true H) tb D σ2 H2:=zbj h
noncomputable def LR{α:Type}(K:W.Frag)(H:Hp)(a:Addr)(l:List α)(R:α->V->Hp->Prop):Prop:=∃vs:List V,SqL K H a vs/\vs.length=l.length/\∀(i:Nat) x v,l[i]?=some x->vs[i]?=some v->R x v H
noncomputable def cR(c:Cell)(v:V)(H:Hp):Prop:=∃b,v=.ref b/\H b=some (.tup (cellT c))
noncomputable def eR(e:Edge)(v:V)(H:Hp):Prop:=∃b,v=.ref b/\H b=some (.tup (edgeT e))
noncomputable def wR(q:Edge×Option Nat)(v:V)(H:Hp):Prop:=∃A b,v=.ref A/\H A=some (.tup [.ref b,sv q.2])/\H b=some (.tup (edgeT q.1))
theorem cR.same{c:Cell}{v:V}{H H':Hp}(h:cR c v H)(s:Same H H'):cR c v H':=let ⟨b,e,q⟩:=h;⟨b,e,s _ _ q⟩
theorem eR.same{c:Edge}{v:V}{H H':Hp}(h:eR c v H)(s:Same H H'):eR c v H':=let ⟨b,e,q⟩:=h;⟨b,e,s _ _ q⟩
theorem wR.same{c:Edge×Option Nat}{v:V}{H H':Hp}(h:wR c v H)(s:Same H H'):wR c v H':=let ⟨A,b,e,q,r⟩:=h;⟨A,b,e,s _ _ q,s _ _ r⟩
theorem LR.same{α:Type}{K:W.Frag}{H H':Hp}{a:Addr}{l:List α}{R:α->V->Hp->Prop}(h:LR K H a l R)(s:Same H H')(m:∀x v,R x v H->R x v H'):LR K H' a l R :=
 let ⟨vs,q,n,r⟩:=h;⟨vs,s.seq q,n,λi x v h1 h2=>m x v (r i x v h1 h2)⟩
theorem zby{α:Type}{l:List α}{i:Nat}{x c:α}(h:l[i]?=some x):c∈l.take (i+1) ↔ c∈l.take i∨c=x:=by rw[List.take_succ,h,List.mem_append];exact⟨λz=>z.elim .inl λz=>.inr (AN.mp z),λz=>z.elim .inl λz=>.inr (List.mem_singleton.mpr z)⟩
noncomputable def InOrd(cs:List Cell):Prop:=∀(i:Nat) c d,cs[i]?=some c->cs[i+1]?=some d->HT.lexLt [c.2,c.1] [d.2,d.1]=true
noncomputable def spAsk(K:W.Frag):Sp:=λvs H Q _=>∃(a:Addr) (cs:List Cell),vs=[.ref a]/\LR K H a cs cR/\InOrd cs/\cs.length<=1000/\∀H',Same H H'->Q (.bl true) H'
theorem zeC (T:Txt P w K mg) (g_cell_order:Fn P w K mg base 1 "cell_order" ["cell"] (zgw K)) (d:Df K mg "ask_picture" zcj ["picture"]):FnOk P w K mg base CX0 2 d.f d.fd ["picture"] (spAsk K):=by
 refine d.F.ok zcP (λvs H Q E h=>?_) (λcdv A outer s H vs Q E hr h=>?_)
 .obtain⟨a,cs,rfl,_⟩:=h;rfl
 .obtain⟨a,cs,rfl,⟨ws,hq,hn,hc⟩,ho,hlen,k⟩:=h;have hu0:=hr.units0
  refine⟨_,(zad (zbq AY rfl (zdb (by rfl) T.nrange (pa_C zac (zag (zak zan (by rfl) T.nlen (by rfl) (pa_N (pv 0) zab)) zab))) (nG 1 zcP.nd)
   (zaf (ps_if (zav (zme hu0) (pC g_cell_order hr (zag (pe_ix zat (pv 0) (pv 1) (λ_ _=>rfl)) zab)) (pC g_cell_order hr (zag (pe_ix zat (pv 0) (pe_op zay (pv 1) zac) (λ_ _=>rfl)) zab)) (zaq _))
   (zaf zkg)
   zaw)))
   (zaf (zaj pe_bl))),?_⟩
  refine⟨_,rfl,a,_,rfl,.inl hq,_,_,rfl,⟨by decide,by decide,by lia,by lia⟩,?_⟩;refine zbd (lo:=1) (n:=((ws.length:Int)-1).toNat) (λi σ H2=>∃o,σ=[some (.ref a),o]/\Same H H2) ⟨_,rfl,Same.refl _⟩ ?_ ?_
  .rintro i σ H2 hi ⟨o,rfl,s2⟩;have h1:i+1<ws.length:=by lia
   have v1:ws[i+1]?=some ws[i+1]:=Aa h1;have v0:ws[i]?=some ws[i]:=Aa (by lia)
   have c1:cs[i+1]?=some cs[i+1]:=Aa (by lia)
   have c0:cs[i]?=some cs[i]:=Aa (by lia)
   obtain⟨b1,e1,q1⟩:=hc (i+1) _ _ c1 v1;obtain⟨b0,e0,q0⟩:=hc i _ _ c0 v0;refine⟨_,rfl,_,rfl,a,_,_,_,rfl,rfl,s2.seq hq,(by rw[show (1:Int)+(i:Int)=((i+1:Nat):Int) by lia];exact zah v1),b1,_,_,[],(by rw[e1];rfl),SqT.of (s2 _ _ q1),λp1 H3 hp1 s3 f1=>?_⟩;refine⟨_,rfl,_,rfl,_,_,rfl,rfl,a,_,_,_,rfl,rfl,(s2.trans s3).seq hq,(by rw[show (1:Int)+(i:Int)-1=(i:Int) by lia];exact zah v0),b0,_,_,[],(by rw[e0];rfl),SqT.of ((s2.trans s3) _ _ q0),λp0 H4 hp0 s4 f0=>?_⟩;refine⟨p1,p0,[cs[i+1].2,cs[i+1].1],[cs[i].2,cs[i].1],rfl,rfl,SqT.of (s4 _ _ f1),SqT.of f0,_,rfl,iteN ?_ ?_⟩
   .rw[HT.lexLe_eq,ho i _ _ c0 c1];rfl
   .exact⟨_,rfl,(s2.trans s3).trans s4⟩
  .rintro σ H2 ⟨o,rfl,s2⟩;exact k H2 s2
noncomputable def kC(c:Cell):List Key:=[CQ c.1,CQ c.2]
theorem zkT{c d:Cell}:kC c=kC d ↔ c=d:=by
 constructor
 .intro h;unfold kC at h;injection h with h1 h2;injection h2 with h2 _;exact Prod.ext (Sum.inl.inj h1) (Sum.inl.inj h2)
 .rintro rfl;rfl
noncomputable def zgv(K:W.Frag):Sp:=λvs H Q _=>∃(a:Addr) (cs:List Cell),vs=[.ref a]/\LR K H a cs cR/\cs.length<=1000/\∀t H',H t=none->Same H H'->Tab H' t (isIn cs)->Q (.ref t) H'
theorem zfl (d:Df K mg "cell_table" zbV ["picture"]):FnOk P w K mg base CX0 1 d.f d.fd ["picture"] (zgv K):=by
 refine d.F.ok zfb (λvs H Q E h=>?_) (λcdv A outer s H vs Q E hr h=>?_)
 .obtain⟨a,cs,rfl,_⟩:=h;rfl
 .obtain⟨a,cs,rfl,⟨ws,hq,hn,hc⟩,hlen,k⟩:=h;have hu1:=hu_of hr;have nb0:(["cell"]:List Str).Nodup:=by decide +kernel
  refine⟨_,(zaf (zaj (zkl hu1 (osc:=zae zbV) (N:=zdF) (N':=["cell"]) (sel:=[none]) bO (zaM (pv 0)) (λ_ _ _ _ _=>(nG 0 nb0)) (λ_ _ _ _ _=>zaL) (λ_ _ _ _ _=>(pv 0)) (λ_ _ _ _ _=>pe_bl)))),?_⟩;refine⟨_,rfl,a,rfl,⟨_,hq⟩,λp hp=>?_⟩
  refine zaz (K:=K) (a:=a) (xs:=ws) (λi σ H2=>∃o,σ=[o]/\Same H H2/\∃kvs,H2 p=some (.dT kvs)/\kvs.length<=i/\∀c:Cell,(valV kvs (kC c)).isSome=decide (c∈cs.take i))
   ⟨_,rfl,Same.up hp,[],zaa,Ah _,λc=>by simp[valV]⟩ (λi σ H2 _ ⟨_,_,s2,_⟩=>s2.seq hq) ?_ ?_
  .rintro i v σ H2 hi ⟨o,rfl,s2,kvs,e2,hl,hv⟩;have hil:i<ws.length:=(Ab.mp hi).1;have ci:cs[i]?=some cs[i]:=Aa (by lia)
   obtain⟨b,rfl,q⟩:=hc i _ _ ci hi;refine gN ?_
   refine⟨_,rfl,_,.inr ⟨kvs,kC cs[i],b,e2,rfl,s2 _ _ q,zal (by lia),rfl⟩,_,rfl,λz o e=>?_,_,zaa,?_,λc=>?_⟩
   .rw[zam (zao e hp)];exact s2 z o e
   .exact AF (zbs _ _ _) (by lia)
   .rw[zg7]
    by_cases e:c=cs[i]
    .rw[if_pos (zkT.mpr e),decide_eq_true ((zby ci).mpr (.inr e))];rfl
    .rw[if_neg (λz=>e (zkT.mp z)),hv];exact decide_eq_decide.mpr ⟨λz=>(zby ci).mpr (.inl z),λz=>((zby ci).mp z).resolve_right e⟩
  .rintro σ H2 ⟨o,rfl,s2,kvs,e2,hl,hv⟩;refine k p H2 hp s2 ⟨kvs,e2,λc=>?_⟩;show (valV kvs (kC c)).isSome=isIn cs c;rw[hv,hn,AX];rfl
noncomputable def ziE(K:W.Frag):Sp:=λvs H Q _=>∃(t a:Addr) (C:Cell->Bool) (e:Edge),vs=[.ref t,.ref a]/\Tab H t C/\SqT K H a (edgeT e)/\e.w<4/\∀H',Same H H'->Q (sv (stepB C e)) H'
theorem zes (g_gone:Fn P w K mg base 1 "gone" ["x", "y", "step"] zfO) (g_slant_step:Fn P w K mg base 1 "slant_step" ["way"] ziF) (g_straight_step:Fn P w K mg base 1 "straight_step" ["way"] zeQ)
  (d:Df K mg "step_behind" zcg ["table","edge"]):FnOk P w K mg base CX0 2 d.f d.fd ["table","edge"] (ziE K):=by
 refine d.F.ok zba (λvs H Q E h=>?_) (λcdv A outer s H vs Q E hr h=>?_)
 .obtain⟨t,a,C,e,rfl,_⟩:=h;rfl
 .obtain⟨t,a,C,e,rfl,⟨kvs,ht,hC⟩,hq,hw,k⟩:=h;have hu1:=hu_of hr
  refine⟨_,(zad (zbX (pv 1) (zbr (by rfl) (zai (nG 2 zba.nd) (zai (nG 3 zba.nd) (zai (nG 4 zba.nd) zaC)))))
   (zad (zbq AY rfl (zi8 (za8 (zag (pC g_slant_step hr (pa_N (pv 4) zab)) (zag (pC g_straight_step hr (pa_N (pv 4) zab)) zab)))) (nG 5 zba.nd)
   (zaf (ps_if (zi3 (zmb hu1 (pC g_gone hr (pa_N (pv 2) (pa_N (pv 3) (pa_N (pv 5) zab)))) (pv 0)))
   (zaf (zaj (pv 5)))
   zaw)))
   (zaf (zaj zdE)))),?_⟩
  refine⟨_,rfl,a,_,rfl,hq,rfl,_,_,rfl,_,_,rfl,_,_,rfl,rfl,?_⟩;refine⟨_,rfl,e.w,rfl,hw,_,rfl,e.w,rfl,hw,two,λp hp=>⟨p,rfl,⟨_,SqT.of zaa⟩,?_⟩⟩
  refine zgY (K:=K) (a:=p) (xs:=[.int ((2*e.w+7) % 8:Nat),.int (2*e.w:Nat)]) (λi σ H2=>∃o,σ=[some (.ref t),some (.ref a),some (.int e.c.1),some (.int e.c.2),some (.int e.w),o]/\Same (upd H p (.tup [.int ((2*e.w+7) % 8:Nat),.int (2*e.w:Nat)])) H2/\(1<=i->C (go e.c ((2*e.w+7) % 8))=false)/\(2<=i->C (go e.c (2*e.w))=false))
   ⟨_,rfl,Same.refl _,λh=>absurd h (by decide),λh=>absurd h (by decide)⟩ (λi σ H2 _ ⟨_,_,s2,_⟩=>s2.seqT (SqT.of zaa)) ?_ ?_
  .rintro i v σ H2 hi ⟨o,rfl,s2,n1,n2⟩;have sH:Same H H2:=(Same.up hp).trans s2
   match i,hi with
   | 0,hi =>
    cases hi
    refine⟨_,rfl,_,rfl,_,rfl,e.c,(2*e.w+7) % 8,rfl,by lia,λp1 H3 hp1 s3 f1=>?_⟩;refine⟨_,rfl,t,_,rfl,.inr ⟨kvs,kC (go e.c ((2*e.w+7) % 8)),p1,Rd.of ((sH.trans s3) _ _ ht),rfl,f1,rfl⟩,_,rfl,?_⟩;have hv:=hC (go e.c ((2*e.w+7) % 8));change (valV kvs (kC (go e.c ((2*e.w+7) % 8)))).isSome=_ at hv;rw[hv];refine ite2 (λhy=>?_) (λhn=>?_)
    .refine⟨_,rfl,?_⟩;have:=k H3 (sH.trans s3);unfold stepB at this;rw[if_pos hy]at this;exact this
    .exact⟨_,rfl,s2.trans s3,λ_=>by simpa using hn,λh=>absurd h (by decide)⟩
   | 1,hi =>
    cases hi
    refine⟨_,rfl,_,rfl,_,rfl,e.c,2*e.w,rfl,by lia,λp1 H3 hp1 s3 f1=>?_⟩;refine⟨_,rfl,t,_,rfl,.inr ⟨kvs,kC (go e.c (2*e.w)),p1,Rd.of ((sH.trans s3) _ _ ht),rfl,f1,rfl⟩,_,rfl,?_⟩;have hv:=hC (go e.c (2*e.w));change (valV kvs (kC (go e.c (2*e.w)))).isSome=_ at hv;rw[hv];have h1:=n1 (by decide);refine ite2 (λhy=>?_) (λhn=>?_)
    .refine⟨_,rfl,?_⟩;have:=k H3 (sH.trans s3);unfold stepB at this;rw[h1,if_neg (by decide),if_pos hy]at this;exact this
    .exact⟨_,rfl,s2.trans s3,λ_=>h1,λ_=>by simpa using hn⟩
   |i+2,hi=>simp at hi
  .rintro σ H2 ⟨o,rfl,s2,n1,n2⟩;have:=k H2 ((Same.up hp).trans s2);unfold stepB at this;rw[n1 (by simp),n2 (by simp),if_neg (by decide),if_neg (by decide)]at this;exact this
noncomputable def ziK(K:W.Frag):Sp:=λvs H Q _=>∃(a:Addr) (e:Edge) (o:Option Nat),vs=[.ref a,sv o]/\SqT K H a (edgeT e)/\e.w<4/\(∀s,o=some s->s<8)/\∀(p:Addr) (H':Hp),H p=none->Same H H'->H' p=some (.tup (edgeT (edgeB e o)))->Q (.ref p) H'
theorem zeB (g_gone:Fn P w K mg base 1 "gone" ["x", "y", "step"] zfO) (g_is_slant:Fn P w K mg base 1 "is_slant" ["step"] zdR)
  (d:Df K mg "edge_behind" zci ["edge","step"]):FnOk P w K mg base CX0 2 d.f d.fd ["edge","step"] (ziK K):=by
 refine d.F.ok zaZ (λvs H Q E h=>?_) (λcdv A outer s H vs Q E hr h=>?_)
 .obtain⟨a,e,o,rfl,_⟩:=h;rfl
 .obtain⟨a,e,o,rfl,hq,hw,ho,k⟩:=h
  refine⟨_,(zad (zbX (pv 0) (zbr (by rfl) (zai (nG 2 zaZ.nd) (zai (nG 3 zaZ.nd) (zai (nG 4 zaZ.nd) zaC)))))
   (zad (ps_if (zav zkP (pv 1) zdE (zaq _))
   (zaf (zaj (za8 (pa_N (pv 2) (pa_N (pv 3) (pa_B (pe_op zbY (pe_op zaK (pv 4) zac) zac) zab))))))
   zaw)
   (zad (zbX (pC g_gone hr (pa_N (pv 2) (pa_N (pv 3) (pa_N (pv 1) zab)))) (zbr (by rfl) (zai (nG 5 zaZ.nd) (zai (nG 6 zaZ.nd) zaC))))
   (zad (ps_if (zbA (pC g_is_slant hr (pa_N (pv 1) zab)))
   (zaf (zaj (za8 (pa_N (pv 5) (pa_N (pv 6) (pa_B (pe_op zbY (pe_op zaK (pv 4) zac) zac) zab))))))
   zaw)
   (zaf (zaj (za8 (pa_N (pv 5) (pa_N (pv 6) (pa_N (pv 4) zab)))))))))),?_⟩
  refine⟨_,rfl,a,_,rfl,hq,rfl,_,_,rfl,_,_,rfl,_,_,rfl,rfl,?_⟩
  cases o with
  |none =>
   refine⟨_,rfl,rfl,true,rfl,iteT ?_⟩;refine⟨_,rfl,_,rfl,_,rfl,_,_,rfl,rfl,_,_,rfl,rfl,(by show (0:Int)<4;decide),three,λp hp=>k p _ hp (Same.up hp) ?_⟩;rw[zaa];have e1:((e.w:Int)+1) % 4=(((e.w+1) % 4:Nat):Int):=by lia
   show some (HO.tup [.int e.c.1,.int e.c.2,.int (((e.w:Int)+1) % 4)])=_;rw[e1];rfl
  |some n =>
   refine⟨_,rfl,rfl,false,rfl,iteF ?_⟩;refine⟨_,rfl,_,rfl,_,rfl,e.c,n,rfl,ho n rfl,λp1 H1 hp1 s1 f1=>?_⟩;refine⟨p1,_,rfl,SqT.of f1,rfl,_,_,rfl,_,_,rfl,rfl,?_⟩;refine⟨_,rfl,some n,rfl,_,rfl,?_⟩;refine ite2 (λhs=>?_) (λhs=>?_)
   .refine⟨_,rfl,_,rfl,_,rfl,_,_,rfl,rfl,_,_,rfl,rfl,(by show (0:Int)<4;decide),three,λp hp=>k p _ (s1.free hp) (s1.trans (Same.up hp)) ?_⟩;rw[zaa];have e1:((e.w:Int)+3) % 4=(((e.w+3) % 4:Nat):Int):=by lia
    have hn:n % 2=1:=by simpa[slant]using hs
    show some (HO.tup [.int (go e.c n).1,.int (go e.c n).2,.int (((e.w:Int)+3) % 4)])=_;rw[e1];unfold edgeB;simp only[if_pos hn];rfl
   .refine⟨_,rfl,_,rfl,_,rfl,three,λp hp=>k p _ (s1.free hp) (s1.trans (Same.up hp)) ?_⟩;rw[zaa];have hn:¬ n % 2=1:=by simpa[slant]using hs
    unfold edgeB;simp only[if_neg hn];rfl
noncomputable def KT(H H':Hp):Prop:=∀b xs,H b=some (.tup xs)->H' b=some (.tup xs)
theorem KT.refl(H:Hp):KT H H:=λ_ _ h=>h
theorem KT.trans{H H1 H2:Hp}(a:KT H H1)(b:KT H1 H2):KT H H2:=λc o h=>b c o (a c o h)
theorem KT.of{H H':Hp}(s:Same H H'):KT H H':=λb xs e=>s b _ e
theorem KT.up{H:Hp}{p:Addr}{o:HO}(h:H p=none):KT H (upd H p o):=KT.of (Same.up h)
theorem KT.lst{H:Hp}{p:Addr}{xs:List V}{o:HO}(h:H p=some (.lst xs)):KT H (upd H p o):=λb ys e=>by rw[zam (ne_of e h (λz=>nomatch z))];exact e
theorem cR.kt{c:Cell}{v:V}{H H':Hp}(h:cR c v H)(s:KT H H'):cR c v H':=let ⟨b,e,q⟩:=h;⟨b,e,s _ _ q⟩
theorem eR.kt{c:Edge}{v:V}{H H':Hp}(h:eR c v H)(s:KT H H'):eR c v H':=let ⟨b,e,q⟩:=h;⟨b,e,s _ _ q⟩
theorem wR.kt{c:Edge×Option Nat}{v:V}{H H':Hp}(h:wR c v H)(s:KT H H'):wR c v H':=let ⟨A,b,e,q,r⟩:=h;⟨A,b,e,s _ _ q,s _ _ r⟩
noncomputable def VR{α:Type}(vs:List V)(l:List α)(R:α->V->Hp->Prop)(H:Hp):Prop:=vs.length=l.length/\∀(i:Nat) x v,l[i]?=some x->vs[i]?=some v->R x v H
theorem VR.nil{α:Type}{R:α->V->Hp->Prop}{H:Hp}:VR [] ([]:List α) R H:=⟨rfl,λi x v h=>by simp at h⟩
theorem VR.snoc{α:Type}{vs:List V}{l:List α}{R:α->V->Hp->Prop}{H H':Hp}{x:α}{v:V}(h:VR vs l R H)(m:∀x v,R x v H->R x v H')(hx:R x v H'):VR (vs++[v]) (l++[x]) R H':=by
 refine⟨by simp[h.1],λi y u h1 h2=>?_⟩;rcases A3 i l.length with hi |hi
 .rw[Am hi]at h1;rw[Am (by rw[h.1];exact hi)]at h2;exact m _ _ (h.2 i y u h1 h2)
 .rw[Au hi]at h1;rw[Au (by rw[h.1];exact hi)]at h2
  have hz:i-l.length=0:=by have:=(Ab.mp h1).1;simp at this;lia
  rw[hz]at h1;rw[h.1,hz]at h2
  cases h1;cases h2
  exact hx
theorem VR.mono{α:Type}{vs:List V}{l:List α}{R:α->V->Hp->Prop}{H H':Hp}(h:VR vs l R H)(m:∀x v,R x v H->R x v H'):VR vs l R H':=⟨h.1,λi x v h1 h2=>m _ _ (h.2 i x v h1 h2)⟩
theorem VR.at{α:Type}{vs:List V}{l:List α}{R:α->V->Hp->Prop}{H:Hp}(h:VR vs l R H){i:Nat}{v:V}(hv:vs[i]?=some v):∃x,l[i]?=some x/\R x v H:=by
 have hi:i<l.length:=by rw[<- h.1];exact (Ab.mp hv).1
 exact⟨l[i],Aa hi,h.2 i _ v (Aa hi) hv⟩
theorem zas{H H2:Hp}{p:Addr}{o:HO}(hp:H p=none)(s:Same H H2):Same H (upd H2 p o):=λz u e=>by rw[zam (zao e hp)];exact s z u e
theorem zh4(cs:List Cell)(c:Cell):sides (cs++[c])=sides cs++(As 4).map λw=>⟨c,w⟩:=by unfold sides;simp[List.flatMap_append]
theorem zau{α:Type}{l:List α}{i:Nat}{x:α}(h:l[i]?=some x):l.take (i+1)=l.take i++[x]:=by rw[List.take_succ,h];rfl
theorem zec{α:Type}(p:α->Bool)(l:List α)(x:α):(l++[x]).filter p=l.filter p++(if p x=true then [x] else []):=by rw[List.filter_append];congr 1;simp[List.filter_cons]
noncomputable def zkL(K:W.Frag):Sp:=λvs H Q _=>∃(a:Addr) (cs:List Cell),vs=[.ref a]/\LR K H a cs cR/\cs.length<=120/\∀p H' es,H p=none->Same H H'->H' p=some (.lst es)->VR es (allE cs) eR H'->Q (.ref p) H'
theorem zf5 (T:Txt P w K mg) (g_cell_table:Fn P w K mg base 1 "cell_table" ["picture"] (zgv K)) (g_gap_beside:Fn P w K mg base 2 "gap_beside" ["edge"] (spGap K))
  (d:Df K mg "all_edges" zbL ["picture"]):FnOk P w K mg base CX0 3 d.f d.fd ["picture"] (zkL K):=by
 refine d.F.ok zcu (λvs H Q E h=>?_) (λcdv A outer s H vs Q E hr h=>?_)
 .obtain⟨a,cs,rfl,_⟩:=h;rfl
 .obtain⟨a,cs,rfl,hLR,hlen,k⟩:=h;obtain⟨ws,hq,hn,hc⟩:=id hLR;have hu1:=hu_of hr;have nb0:(["x","y","way"]:List Str).Nodup:=by decide +kernel
  have nb1:(["edge","table"]:List Str).Nodup:=by decide +kernel
  refine⟨_,(zad (zda (i:=1) zcu.nd (by rfl) (Or.inr rfl) (pC g_cell_table hr (pa_N (pv 0) zab)))
   (zad (zi4 (i:=2) (osc:=zae zbL) (N:=zc2) (N':=["x","y","way"]) (sel:=[none,none,none]) bO zcu.nd (by rfl) (Or.inl rfl) (zaM (pv 0)) (λ_ _ _ _ _=>(zbo (K:=K) (n:=2) (by rfl) (zai (nG 0 nb0) (zai (nG 1 nb0) zaC)))) (λ_ _ _ _ _=>zaL) (λ_ _ _ _ _=>(zca (by rfl) T.nrange (pa_C zac zab))) (λ_ _ _ _ _=>(nG 2 nb0)) (λ_ _ _ _ _=>zaL) (λ_ _ _ _ _=>(za8 (pa_N (pv 0) (pa_N (pv 1) (pa_N (pv 2) zab))))) (λ_ _ _=>rfl))
   (zaf (zaj (zaF (osc:=zae zbL) (N:=zc2) (N':=["edge","table"]) (sel:=[none,some 1]) bO (zaM (pv 2)) (λ_ _ _ _ _=>(nG 0 nb1)) (λ_ _ _ _ _=>zdw (zi3 (zfY hu1 (pC g_gap_beside hr (pa_N (pv 0) zab)) (pv 1)))) (λ_ _ _ _ _=>(pv 0))))))),?_⟩
  refine⟨_,rfl,a,cs,rfl,hLR,by lia,λt H1 ht s1 tab=>?_⟩;obtain⟨kvs,et,hC⟩:=tab;refine⟨_,rfl,a,rfl,⟨_,s1.seq hq⟩,λp hp=>?_⟩
  refine zaz (K:=K) (a:=a) (xs:=ws) (λi σ H2=>∃o1 o2 o3,σ=[o1,o2,o3]/\Same H1 H2/\∃es,H2 p=some (.lst es)/\VR es (sides (cs.take i)) eR H2)
   ⟨_,_,_,rfl,Same.up hp,[],zaa,VR.nil⟩ (λi σ H2 _ ⟨_,_,_,_,s2,_⟩=>(s1.trans s2).seq hq) ?_ ?_
  .rintro i v σ H2 hi ⟨o1,o2,o3,rfl,s2,es,e2,hv⟩;have hil:i<ws.length:=(Ab.mp hi).1;have ci:cs[i]?=some cs[i]:=Aa (by lia)
   obtain⟨b,rfl,qb⟩:=hc i _ _ ci hi;refine⟨b,_,rfl,SqT.of ((s1.trans s2) _ _ qb),rfl,_,_,rfl,_,_,rfl,rfl,?_⟩;refine zbj ?_
   refine⟨4,rfl,by decide,by decide,?_⟩
   refine zbd (lo:=0) (n:=4) (λj σ H3=>∃o,σ=[some (.int cs[i].1),some (.int cs[i].2),o]/\Same H1 H3/\∃es,H3 p=some (.lst es)/\VR es (sides (cs.take i)++(As j).map λw=>⟨cs[i],w⟩) eR H3)
    ⟨_,rfl,s2,es,e2,by simpa using hv⟩ ?_ ?_
   .rintro j σ H3 hj ⟨o,rfl,s3,es3,e3,hv3⟩
    have hl3:es3.length<=1000:=by rw[hv3.1,Aj,zbu,Aq,Af,A4];lia
    refine gN ?_
    refine⟨_,rfl,_,rfl,_,rfl,three,λq hq'=>⟨es3,?_,zal hl3,_,rfl,zas hp (s3.trans (Same.up hq')),_,zaa,?_⟩⟩
    .rw[zam (zao e3 hq')];exact e3
    .rw[List.range_succ,Ax,<- CI];have hpq:p≠q:=zao e3 hq';have k2:KT (upd H3 q (.tup [.int cs[i].1,.int cs[i].2,.int (0+(j:Int))])) (upd (upd H3 q (.tup [.int cs[i].1,.int cs[i].2,.int (0+(j:Int))])) p (.lst (es3++[.ref q]))):=KT.lst (xs:=es3) (by rw[zam hpq];exact e3);refine hv3.snoc (λx v hx=>hx.kt ((KT.up hq').trans k2)) ⟨q,rfl,k2 _ _ ?_⟩;rw[zaa];show some (HO.tup [.int cs[i].1,.int cs[i].2,.int (0+(j:Int))])=some (HO.tup [.int cs[i].1,.int cs[i].2,.int (j:Int)]);rw[Int.zero_add]
   .rintro σ H3 ⟨o,rfl,s3,es3,e3,hv3⟩;exact⟨_,_,_,rfl,s3,es3,e3,by rw[zau ci,zh4];exact hv3⟩
  .rintro σ H2 ⟨o1,o2,o3,rfl,s2,es,e2,hv⟩;rw[hn,AX]at hv;have hles:es.length<=1000:=by rw[hv.1,zbu];lia
   refine⟨_,rfl,p,rfl,⟨_,SqL.of e2⟩,λp2 hp2=>?_⟩
   refine zaz (K:=K) (a:=p) (xs:=es) (λi σ H3=>∃o,σ=[o,some (.ref t)]/\Same H2 H3/\∃es3,H3 p2=some (.lst es3)/\VR es3 (((sides cs).take i).filter λe=>!isIn cs (gap e)) eR H3)
    ⟨_,rfl,Same.up hp2,[],zaa,VR.nil⟩ (λi σ H3 _ ⟨_,_,s3,_⟩=>s3.seq (SqL.of e2)) ?_ ?_
   .rintro i v σ H3 hi ⟨o,rfl,s3,es3,e3,hv3⟩;obtain⟨e,he,b,rfl,qb⟩:=hv.at hi;have hw4:e.w<4:=(zde.mp (Ag he)).2
    have hl3:es3.length<=1000:=by have h1:=CG (λe=>!isIn cs (gap e)) ((sides cs).take i);rw[hv3.1];rw[Aq,zbu]at h1;lia
    refine⟨_,rfl,b,e,rfl,SqT.of (s3 _ _ qb),hw4,λp3 H4 hp3 s4 f4=>?_⟩;refine⟨_,rfl,t,_,rfl,.inr ⟨kvs,kC (gap e),p3,Rd.of ((s2.trans (s3.trans s4)) _ _ et),rfl,f4,rfl⟩,_,rfl,?_⟩;have hcv:=hC (gap e);change (valV kvs (kC (gap e))).isSome=_ at hcv;rw[hcv,zau he,zec];refine ite2 (λhy=>?_) (λhn'=>?_)
    .refine⟨_,rfl,es3,s4 _ _ e3,zal hl3,_,rfl,zas hp2 (s3.trans s4),_,zaa,?_⟩;rw[if_pos hy];have k2:KT H4 (upd H4 p2 (.lst (es3++[.ref b]))):=KT.lst (s4 _ _ e3);exact hv3.snoc (λx v hx=>hx.kt ((KT.of s4).trans k2)) ⟨b,rfl,k2 _ _ ((s3.trans s4) _ _ qb)⟩
    .refine⟨_,rfl,s3.trans s4,es3,s4 _ _ e3,?_⟩;rw[if_neg hn',Bt];exact hv3.mono λx v hx=>hx.kt (KT.of s4)
   .rintro σ H3 ⟨o,rfl,s3,es3,e3,hv3⟩;rw[hv.1,AX]at hv3;exact k p2 H3 es3 (s1.free (s2.free hp2)) (s1.trans (s2.trans s3)) e3 hv3
noncomputable def eI(e:Edge):List Int:=[e.c.1,e.c.2,(e.w:Int)]
theorem zhL{e f:Edge}:eI e=eI f ↔ e=f:=by
 constructor
 .intro h;obtain⟨⟨x,y⟩,w⟩:=e;obtain⟨⟨x',y'⟩,w'⟩:=f;unfold eI at h;injection h with h1 h2;injection h2 with h2 h3;injection h3 with h3 _;simp only at h1 h2 h3;have:w=w':=by lia
  subst h1 h2 this;rfl
 .rintro rfl;rfl
theorem zfg{K:W.Frag}{H:Hp}{b:Addr}{e:Edge}(h:H b=some (.tup (edgeT e))):RD K H (.ref b) (tI (eI e)):=.tup (SqT.of h) (RDs.ints (eI e))
theorem zhd{C:Cell->Bool}{e:Edge}(hw:e.w<4):∀s,stepB C e=some s->s<8:=by
 intro s h;unfold stepB at h;split at h
 .cases h;lia
 .split at h
  .cases h;lia
  .cases h
noncomputable def wk(C:Cell->Bool)(es:List Edge):List (Edge×Option Nat):=es.map λe=>(e,stepB C e)
theorem zk4(C:Cell->Bool)(es:List Edge)(e:Edge):wk C (es++[e])=wk C es++[(e,stepB C e)]:=by unfold wk;simp
theorem zdP(C:Cell->Bool)(es:List Edge):(wk C es).length=es.length:=by unfold wk;simp
noncomputable def zjp:Option HO->Nat
 |some (.lst ws)=>ws.length
 |_=>0
noncomputable def zkE(K:W.Frag):Sp:=λvs H Q _=>∃(t a:Addr) (cs:List Cell) (b:Edge),vs=[.ref t,.ref a]/\Tab H t (isIn cs)/\H a=some (.tup (edgeT b))/\IsE (isIn cs) b/\cs.length<=120 /\
 ∀p H' ws es,H p=none->Same H H'->H' p=some (.lst ws)->VR ws (wk (isIn cs) es) wR H'->Closed (isIn cs) b es->Q (.ref p) H'
theorem zfZ (g_step_behind:Fn P w K mg base 2 "step_behind" ["table", "edge"] (ziE K)) (g_edge_behind:Fn P w K mg base 2 "edge_behind" ["edge", "step"] (ziK K))
  (d:Df K mg "walk_from" zcU ["table","begin"]):FnOk P w K mg base CX0 3 d.f d.fd ["table","begin"] (zkE K):=by
 refine d.F.ok zbg (λvs H Q E h=>?_) (λcdv A outer s H vs Q E hr h=>?_)
 .obtain⟨t,a,cs,b,rfl,_⟩:=h;rfl
 .obtain⟨t,a,cs,b,rfl,tab,ha,hb,hlen,k⟩:=h;have hu64:=hr.units
  refine⟨_,(zad (sE 2 zbg.nd (pC g_step_behind hr (pa_N (pv 0) (pa_N (pv 1) zab))))
   (zad (sE 3 zbg.nd (zaA (pa_T (za8 (pa_N (pv 1) (pa_N (pv 2) zab))) zab)))
   (zad (sE 4 zbg.nd (pC g_edge_behind hr (pa_N (pv 1) (pa_N (pv 2) zab))))
   (zad (zkf AY (zav (zmd hu64) (pv 4) (pv 1) (zaq _))
   (zad (sE 2 zbg.nd (pC g_step_behind hr (pa_N (pv 0) (pa_N (pv 4) zab))))
   (zad (zcA (pe_bm Bj BE BF zbP (pv 3) (pa_T (za8 (pa_N (pv 4) (pa_N (pv 2) zab))) zab)))
   (zaf (sE 4 zbg.nd (pC g_edge_behind hr (pa_N (pv 4) (pa_N (pv 2) zab))))))))
   (zaf (zaj (pv 3))))))),?_⟩
  refine⟨_,rfl,_,rfl,t,a,isIn cs,b,rfl,tab,SqT.of ha,hb.1,λH1 s1=>?_⟩;refine⟨_,rfl,_,rfl,two,λq hq=>⟨(by show 1<=sizeLine;decide),λp hp=>?_⟩⟩;have hpq:p≠q:=λz=>by subst z;rw[zaa]at hp;cases hp
  have hp1:H1 p=none:=by rw[zam hpq]at hp;exact hp
  have s2:Same H1 (upd (upd H1 q (.tup [.ref a,sv (stepB (isIn cs) b)])) p (.lst [.ref q])):=zas hp1 (Same.up hq);refine⟨_,rfl,_,rfl,a,b,stepB (isIn cs) b,rfl,SqT.of (s2 _ _ (s1 _ _ ha)),hb.1,zhd hb.1,λr H3 hr3 s3 f3=>?_⟩;have s03:Same H H3:=s1.trans (s2.trans s3);have hp0:H p=none:=s1.free hp1
  refine zj3 (λσ H4=>∃ws es l o re,σ=[some (.ref t),some (.ref a),some o,some (.ref p),some (.ref re)]/\Same H H4/\H4 p=some (.lst ws)/\VR ws (wk (isIn cs) (es++[l])) wR H4/\Chain (isIn cs) b (es++[l])/\H4 re=some (.tup (edgeT (nxt (isIn cs) l))))
   (λ_ H4=>4*cs.length+1-zjp (H4 p)) ?_ ?_ ?_
  .refine⟨[.ref q],[],b,_,r,rfl,s03,s3 _ _ zaa,⟨rfl,λi x v h1 h2=>?_⟩,Chain.start hb,f3⟩
   match i,h1,h2 with
   | 0,h1,h2 =>
    cases h1;cases h2
    refine⟨q,a,rfl,s3 _ _ ?_,s03 _ _ ha⟩;rw[zam (By hpq),zaa]
   |i+1,h1,h2=>simp at h2
  .rintro σ H4 ⟨ws,es,l,o,re,rfl,s4,e4,hv,hch,er⟩;have hw4:(nxt (isIn cs) l).w<4:=(zkQ (hch.2.2.1 l (by simp))).1;refine⟨_,rfl,_,rfl,_,_,zfg er,zfg (s4 _ _ ha),zc8 _,zc8 _,_,rfl,?_⟩;rw[zjC]
   by_cases hne:nxt (isIn cs) l=b
   .rw[decide_eq_true (zhL.mpr hne)];refine iteF ?_
    refine⟨_,rfl,k p H4 ws (es++[l]) hp0 s4 e4 hv ⟨hch,l,?_,hne⟩⟩;simp
   .rw[decide_eq_false (λz=>hne (zhL.mp z))];refine iteT ?_
    have hch2:=hch.more hne;have hsh:=hch2.short;have hl4:ws.length=(es++[l]).length:=by rw[hv.1,zdP]
    have hl5:ws.length+1<=4*cs.length:=by rw[hl4];rw[Aj,Bv]at hsh;exact hsh
    refine⟨_,rfl,_,rfl,t,re,isIn cs,nxt (isIn cs) l,rfl,tab.same s4,SqT.of er,hw4,λH5 s5=>?_⟩;refine⟨_,rfl,.inl ⟨rfl,_,SqL.of (s5 _ _ e4)⟩,_,rfl,_,rfl,two,λq5 hq5=>?_⟩;have e5:=s5 _ _ e4;have hp5:p≠q5:=zao e5 hq5;refine⟨p,ws,_,rfl,rfl,(by rw[zam hp5];exact e5),zal (by lia),?_⟩;have k5:KT H5 (upd (upd H5 q5 (.tup [.ref re,sv (stepB (isIn cs) (nxt (isIn cs) l))])) p (.lst (ws++[.ref q5]))):=(KT.up hq5).trans (KT.lst (xs:=ws) (by rw[zam hp5];exact e5));have e6:upd (upd H5 q5 (.tup [.ref re,sv (stepB (isIn cs) (nxt (isIn cs) l))])) p (.lst (ws++[.ref q5])) re=some (.tup (edgeT (nxt (isIn cs) l))):=k5 _ _ (s5 _ _ er);have s6:Same H (upd (upd H5 q5 (.tup [.ref re,sv (stepB (isIn cs) (nxt (isIn cs) l))])) p (.lst (ws++[.ref q5]))):=zas hp0 ((s4.trans s5).trans (Same.up hq5));refine⟨_,rfl,_,rfl,re,nxt (isIn cs) l,_,rfl,SqT.of e6,hw4,zhd hw4,λr7 H7 hr7 s7 f7=>?_⟩;have e7:=s7 _ _ zaa;refine⟨⟨ws++[.ref q5],es++[l],nxt (isIn cs) l,_,r7,rfl,s6.trans s7,e7,?_,hch2,f7⟩,?_⟩
    .rw[zk4];refine hv.snoc (λx v hx=>hx.kt ((KT.of s5).trans (k5.trans (KT.of s7)))) ⟨q5,re,rfl,s7 _ _ ?_,s7 _ _ e6⟩;rw[zam (By hp5),zaa]
    .show 4*cs.length+1-zjp (H7 p)<4*cs.length+1-zjp (H4 p);rw[e7,e4];show 4*cs.length+1-(ws++[V.ref q5]).length<4*cs.length+1-ws.length;rw[Aj,Bv];lia
  .rintro σ H4 Q1 Q2 hQ ⟨v,h1,v2,h2,dd,ee,r1,r2,x1,x2,kk,h3,q⟩;exact⟨v,h1,v2,h2,dd,ee,r1,r2,x1,x2,kk,h3,hQ _ _ q⟩
noncomputable abbrev Wk:=List (Edge×Option Nat)
noncomputable def nL(W:Wk):Nat:=(W.filter λq=>q.2.isNone).length
noncomputable def nS(W:Wk):Nat:=(W.filter λq=>slant q.2).length
theorem zkD(o:Option Nat):decide (sv o=V.non)=o.isNone:=by cases o <;> simp[sv]
theorem zcZ{α:Type}{p:α->Bool}{l:List α}{i:Nat}{x:α}(h:l[i]?=some x):((l.take (i+1)).filter p)=(l.take i).filter p++(if p x=true then [x] else []):=by rw[zau h,zec]
theorem LR.vr{α:Type}{K:W.Frag}{H:Hp}{a:Addr}{l:List α}{R:α->V->Hp->Prop}(h:LR K H a l R):∃vs,SqL K H a vs/\VR vs l R H:=let ⟨vs,q,n,r⟩:=h;⟨vs,q,n,r⟩
theorem LR.of{α:Type}{K:W.Frag}{H:Hp}{a:Addr}{vs:List V}{l:List α}{R:α->V->Hp->Prop}(e:H a=some (.lst vs))(h:VR vs l R H):LR K H a l R:=⟨vs,SqL.of e,h.1,h.2⟩
noncomputable def ziI(K:W.Frag):Sp:=λvs H Q _=>∃(a:Addr) (W:Wk),vs=[.ref a]/\LR K H a W wR/\W.length<=500/\∀p H',H p=none->Same H H'->H' p=some (.tup [.int (nL W),.int (nS W)])->Q (.ref p) H'
theorem zcW (T:Txt P w K mg) (g_is_slant:Fn P w K mg base 1 "is_slant" ["step"] zdR) (d:Df K mg "lefts_and_slants" zaU ["walk"]):FnOk P w K mg base CX0 2 d.f d.fd ["walk"] (ziI K):=by
 refine d.F.ok zbe (λvs H Q E h=>?_) (λcdv A outer s H vs Q E hr h=>?_)
 .obtain⟨a,W,rfl,_⟩:=h;rfl
 .obtain⟨a,W,rfl,hLR,hlen,k⟩:=h;obtain⟨ws,hq,hv⟩:=hLR.vr;have nb0:(["edge","step"]:List Str).Nodup:=by decide +kernel
  have nb1:(["edge","step"]:List Str).Nodup:=by decide +kernel
  refine⟨_,(zad (sE 1 zbe.nd (zak zan (by rfl) T.nlen (by rfl) (zag (zaF (osc:=zae zaU) (N:=zbp) (N':=["edge","step"]) (sel:=[none,none]) bO (zaM (pv 0)) (λ_ _ _ _ _=>(zbo (K:=K) (n:=2) (by rfl) (zai (nG 0 nb0) (zai (nG 1 nb0) zaC)))) (λ_ _ _ _ _=>zdw (zav zkP (pv 1) zdE (zaq _))) (λ_ _ _ _ _=>(pv 1))) zab)))
   (zad (sE 2 zbe.nd (zak zan (by rfl) T.nlen (by rfl) (zag (zaF (osc:=zae zaU) (N:=zbp) (N':=["edge","step"]) (sel:=[none,none]) bO (zaM (pv 0)) (λ_ _ _ _ _=>(zbo (K:=K) (n:=2) (by rfl) (zai (nG 0 nb1) (zai (nG 1 nb1) zaC)))) (λ_ _ _ _ _=>zdw (zbA (pC g_is_slant hr (pa_N (pv 1) zab)))) (λ_ _ _ _ _=>(pv 1))) zab)))
   (zaf (zaj (za8 (pa_N (pv 1) (pa_N (pv 2) zab))))))),?_⟩
  refine⟨_,rfl,a,rfl,⟨_,hq⟩,λp hp=>?_⟩
  refine zaz (K:=K) (a:=a) (xs:=ws) (λi σ H2=>∃o1 o2,σ=[o1,o2]/\Same H H2/\∃ss:List V,H2 p=some (.lst ss)/\ss.length=((W.take i).filter λq=>q.2.isNone).length)
   ⟨_,_,rfl,Same.up hp,[],zaa,rfl⟩ (λi σ H2 _ ⟨_,_,_,s2,_⟩=>s2.seq hq) ?_ ?_
  .rintro i v σ H2 hi ⟨o1,o2,rfl,s2,ss,e2,hl⟩;obtain⟨⟨e,st⟩,he,B,b,rfl,q1,q2⟩:=hv.at hi
   have hl2:ss.length<=1000:=by have:=CG (λq:Edge×Option Nat=>q.2.isNone) (W.take i);rw[Aq]at this;lia
   refine⟨B,_,rfl,SqT.of (s2 _ _ q1),rfl,_,_,rfl,_,_,rfl,rfl,?_⟩;refine⟨_,rfl,rfl,_,rfl,?_⟩;rw[zkD];rw[zcZ he]at *;refine ite2 (λhy=>?_) (λhn=>?_)
   .refine⟨_,rfl,ss,e2,zal hl2,_,_,rfl,zas hp s2,_,zaa,?_⟩;rw[if_pos hy,Aj,Aj,hl];rfl
   .exact⟨_,_,rfl,s2,ss,e2,by rw[if_neg hn,Bt];exact hl⟩
  .rintro σ H2 ⟨o1,o2,rfl,s2,ss,e2,hl⟩;refine⟨p,_,rfl,.inl (SqL.of e2),?_⟩;refine⟨_,rfl,a,rfl,⟨_,s2.seq hq⟩,λp2 hp2=>?_⟩
   refine zaz (K:=K) (a:=a) (xs:=ws) (λi σ H3=>∃o1 o2,σ=[o1,o2]/\Same H2 H3/\∃s3:List V,H3 p2=some (.lst s3)/\s3.length=((W.take i).filter λq=>slant q.2).length)
    ⟨_,_,rfl,Same.up hp2,[],zaa,rfl⟩ (λi σ H3 _ ⟨_,_,_,s3,_⟩=>(s2.trans s3).seq hq) ?_ ?_
   .rintro i v σ H3 hi ⟨o1,o2,rfl,s3,ss3,e3,hl3⟩;obtain⟨⟨e,st⟩,he,B,b,rfl,q1,q2⟩:=hv.at hi
    have hl2:ss3.length<=1000:=by have:=CG (λq:Edge×Option Nat=>slant q.2) (W.take i);rw[Aq]at this;lia
    refine⟨B,_,rfl,SqT.of ((s2.trans s3) _ _ q1),rfl,_,_,rfl,_,_,rfl,rfl,?_⟩;refine⟨_,rfl,st,rfl,_,rfl,?_⟩;rw[zcZ he]at *;refine ite2 (λhy=>?_) (λhn=>?_)
    .refine⟨_,rfl,ss3,e3,zal hl2,_,_,rfl,zas hp2 s3,_,zaa,?_⟩;rw[if_pos hy,Aj,Aj,hl3];rfl
    .exact⟨_,_,rfl,s3,ss3,e3,by rw[if_neg hn,Bt];exact hl3⟩
   .rintro σ H3 ⟨o1,o2,rfl,s3,ss3,e3,hl3⟩;refine⟨p2,_,rfl,.inl (SqL.of e3),?_⟩;refine⟨_,rfl,_,rfl,two,λp4 hp4=>k p4 _ (s2.free (s3.free hp4)) ((s2.trans s3).trans (Same.up hp4)) ?_⟩;rw[hv.1,AX]at hl hl3;rw[zaa,hl,hl3];rfl
noncomputable def zkJ(K:W.Frag):Sp:=λvs H Q _=>∃(a:Addr) (W:Wk),vs=[.ref a]/\LR K H a W wR/\W.length<=500/\∀H',Same H H'->Q (.int ((nL W:Int)-nS W)) H'
theorem zcO (g_lefts_and_slants:Fn P w K mg base 2 "lefts_and_slants" ["walk"] (ziI K)) (d:Df K mg "lefts_less_slants" zbf ["walk"]):FnOk P w K mg base CX0 3 d.f d.fd ["walk"] (zkJ K):=by
 refine d.F.ok za9 (λvs H Q E h=>?_) (λcdv A outer s H vs Q E hr h=>?_)
 .obtain⟨a,W,rfl,_⟩:=h;rfl
 .obtain⟨a,W,rfl,hLR,hlen,k⟩:=h
  refine⟨_,(zad (zbX (pC g_lefts_and_slants hr (pa_N (pv 0) zab)) (zbr (by rfl) (zai (nG 1 za9.nd) (zai (nG 2 za9.nd) zaC))))
   (zaf (zaj (pe_op zay (pv 1) (pv 2))))),?_⟩
  refine⟨_,rfl,a,W,rfl,hLR,hlen,λp H1 hp s1 f1=>?_⟩;refine⟨p,_,rfl,SqT.of f1,rfl,_,_,rfl,_,_,rfl,rfl,?_⟩;exact⟨_,rfl,_,rfl,_,_,rfl,rfl,k H1 s1⟩
noncomputable def sortS (W:Wk):Str:=if nS W<nL W then "rim" else "hole"
noncomputable def zkH(K:W.Frag):Sp:=λvs H Q _=>∃(a:Addr) (W:Wk),vs=[.ref a]/\LR K H a W wR/\W.length<=500/\∀H',Same H H'->Q (.str (sortS W)) H'
theorem zia (g_lefts_less_slants:Fn P w K mg base 3 "lefts_less_slants" ["walk"] (zkJ K)) (d:Df K mg "sort_of" zdW ["walk"]):FnOk P w K mg base CX0 4 d.f d.fd ["walk"] (zkH K):=by
 refine d.F.ok zh5 (λvs H Q E h=>?_) (λcdv A outer s H vs Q E hr h=>?_)
 .obtain⟨a,W,rfl,_⟩:=h;rfl
 .obtain⟨a,W,rfl,hLR,hlen,k⟩:=h;refine⟨_,(zaf (zaj (zhu (zav op_gt (pC g_lefts_less_slants hr (pa_N (pv 0) zab)) zac (zaq _)) zfW zfW))),?_⟩;refine⟨_,rfl,a,W,rfl,hLR,hlen,λH1 s1=>?_⟩;refine⟨_,_,rfl,rfl,_,rfl,?_⟩;have h1:=k H1 s1;unfold sortS at h1
  by_cases hlt:nS W<nL W
  .rw[if_pos hlt]at h1;exact iteY (decide_eq_true (by lia)) h1
  .rw[if_neg hlt]at h1;exact iteN (decide_eq_false (by lia)) h1
noncomputable def kOf (s:Str):Nat:=if s = "rim" then 0 else 2
noncomputable def zfD(W:Wk)(s:Str)(e:Edge):Prop:=e∈W.map (·.1)/\e.w=kOf s/\∀f∈W.map (·.1),f.w=kOf s->HT.lexLt [f.c.2,f.c.1] [e.c.2,e.c.1]=false
noncomputable def ziP (K:W.Frag):Sp:=λvs H Q _=>∃(a:Addr) (W:Wk) (s:Str),vs=[.ref a,.str s]/\(s = "rim" ∨ s = "hole")/\LR K H a W wR/\W.length<=500/\(∃e∈W.map (·.1),e.w=kOf s) /\
 ∀b e H',Same H H'->H' b=some (.tup (edgeT e))->zfD W s e->Q (.ref b) H'
theorem zgS (T:Txt P w K mg) (g_cell_order:Fn P w K mg base 1 "cell_order" ["cell"] (zgw K)) (d:Df K mg "begin_of" zcI ["walk","sort"]):FnOk P w K mg base CX0 3 d.f d.fd ["walk","sort"] (ziP K):=by
  refine d.F.ok zgC (λvs H Q E h=>?_) (λcdv A outer s H vs Q E hr h=>?_)
  . obtain⟨a,W,s,rfl,_⟩:=h;rfl
  . obtain⟨a,W,so,rfl,hso,hLR,hlen,hex,k⟩:=h;obtain⟨ws,hq,hv⟩:=hLR.vr;have nb0:(["edge","step","sort"]:List Str).Nodup:=by decide +kernel
    refine⟨_,(zaf (zaj (zlq g_cell_order.ok (hr.mono (by decide)) g_cell_order.b (by rfl) T.nmin (by rfl) g_cell_order.m (zaF (osc:=zae zcI) (N:=ze3) (N':=["edge","step","sort"]) (sel:=[none,none,some 1]) bO (zaM (pv 0)) (λ_ _ _ _ _=>(zbo (K:=K) (n:=2) (by rfl) (zai (nG 0 nb0) (zai (nG 1 nb0) zaC)))) (λ_ _ _ _ _=>zdw (zav op_eq (pe_ix (zlI (K:=K)) (pv 0) zac (λ_ _=>rfl)) (zlo (by rfl) T.ways (pv 2)) (zaq _))) (λ_ _ _ _ _=>(pv 0)))))),?_⟩;refine⟨_,rfl,a,rfl,⟨_,hq⟩,λp hp=>?_⟩
    refine zaz (K:=K) (a:=a) (xs:=ws) (λi σ H2=>∃o1 o2,σ=[o1,o2,some (.str so)]/\Same H H2/\∃es:List V,H2 p=some (.lst es)/\VR es (((W.take i).filter λq=>q.1.w == kOf so).map (·.1)) eR H2)
      ⟨_,_,rfl,Same.up hp,[],zaa,VR.nil⟩ (λi σ H2 _ ⟨_,_,_,s2,_⟩=>s2.seq hq) ?_ ?_
    . rintro i v σ H2 hi ⟨o1,o2,rfl,s2,es,e2,hl⟩;obtain⟨⟨e,st⟩,he,B,b,rfl,q1,q2⟩:=hv.at hi
      have hl2:es.length<=1000:=by have:=CG (λq:Edge×Option Nat=>q.1.w == kOf so) (W.take i);rw[hl.1,Af];rw[Aq]at this;lia
      have fin:∀kk:Int, kk=(kOf so:Int) -> (if decide (V.int (e.w:Int)=V.int kk)=true then zb9 p (tVar 0) { nx := λσ H2 => ∃o1 o2, σ = [o1, o2, some (V.str so)] /\ Same H H2 /\ ∃es, H2 p=some (.lst es) /\ VR es (List.map (λx => x.fst) (List.filter (λq => q.1.w == kOf so) (List.take (i + 1) W))) eR H2, rt := λ_ _ => False } [some (.ref b), some (sv st), some (.str so)] H2
          else (∃o1 o2,[some (.ref b),some (sv st),some (V.str so)]=[o1,o2,some (V.str so)]/\Same H H2/\∃es,H2 p=some (.lst es)/\VR es (List.map (λx=>x.fst) (List.filter (λq=>q.1.w == kOf so) (List.take (i+1) W))) eR H2)):=λkk hk=>by
        have hd:decide (V.int (e.w:Int)=V.int kk)=(e.w == kOf so):=by
          subst hk
          by_cases q:e.w=kOf so
          . rw[q];simp
          . rw[decide_eq_false (λz=>q (by injection z with z;lia))];simp[q]
        rw[hd,zcZ he];refine ite2 (λhy=>?_) (λhn=>?_)
        . refine⟨_,rfl,es,e2,zal hl2,_,_,rfl,zas hp s2,_,zaa,?_⟩;rw[if_pos hy,Ax];have k2:KT H2 (upd H2 p (.lst (es++[.ref b]))):=KT.lst e2;exact hl.snoc (λx v hx=>hx.kt k2) ⟨b,rfl,k2 _ _ (s2 _ _ q2)⟩
        . exact⟨_,_,rfl,s2,es,e2,by rw[if_neg hn,Bt];exact hl⟩
      refine⟨B,_,rfl,SqT.of (s2 _ _ q1),rfl,_,_,rfl,_,_,rfl,rfl,?_⟩;rcases hso with z |z
      . have f0:=fin 0 (by rw[z];rfl);exact⟨_,rfl,b,_,_,_,rfl,rfl,SqT.of (s2 _ _ q2),zah (j:=2) rfl,_,rfl,.inl ⟨by rw[z],rfl,_,rfl,f0⟩⟩
      . have f2:=fin 2 (by rw[z];rfl);exact⟨_,rfl,b,_,_,_,rfl,rfl,SqT.of (s2 _ _ q2),zah (j:=2) rfl,_,rfl,.inr ⟨by rw[z],rfl,_,rfl,f2⟩⟩
    . rintro σ H2 ⟨o1,o2,rfl,s2,es,e2,hl⟩;rw[hv.1,AX]at hl;obtain⟨L,hL⟩:∃L,L=((W.filter λq=>q.1.w == kOf so).map (·.1)):=⟨_,rfl⟩;rw[<- hL]at hl
      have memL:∀f,f∈L ↔ f∈W.map (·.1)/\f.w=kOf so:=λf=>by
        rw[hL];constructor
        . intro h;obtain⟨q,hq1,rfl⟩:=AL.mp h;obtain⟨h1,h2⟩:=List.mem_filter.mp hq1;exact⟨AL.mpr ⟨q,h1,rfl⟩,by simpa using h2⟩
        . rintro⟨h1,h2⟩;obtain⟨q,hq1,rfl⟩:=AL.mp h1;exact AL.mpr ⟨q,List.mem_filter.mpr ⟨hq1,by simpa using h2⟩,rfl⟩
      have hpos:0<es.length:=by obtain⟨f,h1,h2⟩:=hex;rw[hl.1];exact List.length_pos_of_mem ((memL f).mpr ⟨h1,h2⟩)
      have kap:∀(i:Nat) e,L[i]?=some e->(λi=>(L[i]?.map λe:Edge=>[e.c.2,e.c.1]).getD []) i=[e.c.2,e.c.1]:=λi e h=>by simp only[h];rfl
      refine⟨p,es,λi=>(L[i]?.map λe:Edge=>[e.c.2,e.c.1]).getD [],rfl,SqL.of e2,hpos,λi x H3 hx s3=>?_,λi x H3 hx hle s3=>?_⟩
      . obtain⟨e,he,b,rfl,q⟩:=hl.at hx;refine⟨b,e.c.1,e.c.2,_,rfl,SqT.of (s3 _ _ q),λp4 H4 hp4 s4 f4=>⟨s4,p4,rfl,SqT.of ?_⟩⟩;rw[kap i e he];exact f4
      . obtain⟨e,he,b,rfl,q⟩:=hl.at hx;have hm:=(memL e).mp (Ag he);refine k b e H3 (s2.trans s3) (s3 _ _ q) ⟨hm.1,hm.2,λf h1 h2=>?_⟩;obtain⟨j,hj,ej⟩:=AM ((memL f).mpr ⟨h1,h2⟩);have hj':L[j]?=some f:=by rw[Aa hj,ej]
        have:=(hle j (by rw[hl.1];exact hj)).1;rw[kap j f hj',kap i e he]at this;exact this
theorem sIx_nat(n d j:Nat):HT.sIx n d (some (j:Int))=min j n:=by show (if (j:Int)<0 then ((j:Int)+(n:Int)).toNat else min (j:Int).toNat n)=min j n;rw[if_neg (by lia),Int.toNat_natCast]
theorem zcN(xs:List V){j:Nat}(h:j<=xs.length):cutV xs (some (j:Int)) none=xs.drop j:=by unfold cutV;rw[sIx_nat,Nat.min_eq_left h];exact A0 (by rw[AE];exact Ah _)
theorem zhN(xs:List V){j:Nat}(h:j<=xs.length):cutV xs none (some (j:Int))=xs.take j:=by unfold cutV;rw[sIx_nat,Nat.min_eq_left h];rfl
theorem VR.rot{α:Type}{vs:List V}{l:List α}{R:α->V->Hp->Prop}{H:Hp}(h:VR vs l R H)(j:Nat):VR (vs.drop j++vs.take j) (l.drop j++l.take j) R H:=by
 refine⟨by simp[h.1],λi x v h1 h2=>?_⟩;have hd:(vs.drop j).length=(l.drop j).length:=by simp[h.1]
 rcases A3 i (l.drop j).length with hi |hi
 .rw[Am hi,Bq]at h1;rw[Am (by lia),Bq]at h2;exact h.2 _ x v h1 h2
 .rw[Au hi]at h1;rw[Au (by lia),hd]at h2;rw[De]at h1 h2;split at h1
  .rw[if_pos (by assumption)]at h2;exact h.2 _ x v h1 h2
  .cases h1
theorem zhI{α:Type} [DecidableEq α]{x:α}:∀{l:List α},x∈l->∃j:Nat,l[j]?=some x/\∀(m:Nat) y,m<j->l[m]?=some y->y≠x
 |[],h=>by cases h
 |a::l,h=>by
  by_cases e:a=x
  .exact⟨0,by rw[e];rfl,λm y hm=>absurd hm (Cd _)⟩
  .obtain⟨j,h1,h2⟩:=zhI ((At.mp h).resolve_left (By e));refine⟨j+1,by simpa using h1,λm y hm hy=>?_⟩
   match m,hm,hy with
   | 0,_,hy=>cases hy;exact e
   |m+1,hm,hy=>exact h2 m y (by lia) (by simpa using hy)
theorem zfV{K:W.Frag}{H:Hp}:∀{vs:List V}{l:List Edge},VR vs l eR H->RDs K H vs (l.map λe=>tI (eI e))
 |[],[],_=>.nil
 |[],_::_,h=>by have:=h.1;cases this
 |_::_,[],h=>by have:=h.1;cases this
 |v::vs,e::l,h=>by
  obtain⟨b,rfl,q⟩:=h.2 0 e v rfl rfl;exact .cons (zfg q) (zfV ⟨by simpa using h.1,λi x u h1 h2=>h.2 (i+1) x u (by simpa using h1) (by simpa using h2)⟩)
structure Rnd where
 so:Str
 x:Int
 y:Int
 row:List Nat
 deriving DecidableEq
noncomputable def rowV(row:List Nat):List V:=row.map λn:Nat=>V.int (n:Int)
noncomputable def rR(r:Rnd)(v:V)(H:Hp):Prop:=∃a b,v=.ref a/\H a=some (.tup [.str r.so,.int r.x,.int r.y,.ref b])/\H b=some (.tup (rowV r.row))
theorem rR.kt{r:Rnd}{v:V}{H H':Hp}(h:rR r v H)(s:KT H H'):rR r v H':=let ⟨a,b,e,q1,q2⟩:=h;⟨a,b,e,s _ _ q1,s _ _ q2⟩
noncomputable def IsRnd(W:Wk)(r:Rnd):Prop:=r.so=sortS W/\∃(j:Nat) (e:Edge),(W.map (·.1))[j]?=some e/\zfD W (sortS W) e/\r.x=e.c.1/\r.y=e.c.2/\r.row=(W.drop j++W.take j).filterMap (·.2)
theorem ze8 (W:Wk):sortS W = "rim" ∨ sortS W = "hole":=by unfold sortS;split <;> simp
noncomputable def zfM(K:W.Frag):Sp:=λvs H Q _=>∃(a:Addr) (W:Wk),vs=[.ref a]/\LR K H a W wR/\W.length<=500/\(∃e∈W.map (·.1),e.w=0)/\(∃e∈W.map (·.1),e.w=2) /\
 ∀v H' r,Same H H'->rR r v H'->IsRnd W r->Q v H'
theorem zgK (T:Txt P w K mg) (g_sort_of:Fn P w K mg base 4 "sort_of" ["walk"] (zkH K)) (g_begin_of:Fn P w K mg base 3 "begin_of" ["walk", "sort"] (ziP K))
  (d:Df K mg "round_of" zbF ["walk"]):FnOk P w K mg base CX0 5 d.f d.fd ["walk"] (zfM K):=by
 refine d.F.ok zbH (λvs H Q E h=>?_) (λcdv A outer s H vs Q E hr h=>?_)
 .obtain⟨a,W,rfl,_⟩:=h;rfl
 .obtain⟨a,W,rfl,hLR,hlen,h0,h2,k⟩:=h;obtain⟨ws,hq,hv⟩:=hLR.vr;have hun:=hr.un;have hu65:(A.deeper (PyProof.Rows.envOfC (AR "round_of") (zae zbF) s.heap.objs.size d.f cdv)).units+65<cLine:=by lia
  have nb0:(["edge","step"]:List Str).Nodup:=by decide +kernel
  have nb1:(["edge","step"]:List Str).Nodup:=by decide +kernel
  refine⟨_,(zad (sE 1 zbH.nd (pC g_sort_of hr (pa_N (pv 0) zab)))
   (zad (sE 2 zbH.nd (pC g_begin_of hr (pa_N (pv 0) (pa_N (pv 1) zab))))
   (zad (sE 3 zbH.nd (pe_bm Bj PySem.F.slot_list_index PySem.F.type_list_index (zjl hu65) (zaF (osc:=zae zbF) (N:=zdz) (N':=["edge","step"]) (sel:=[none,none]) bO (zaM (pv 0)) (λ_ _ _ _ _=>(zbo (K:=K) (n:=2) (by rfl) (zai (nG 0 nb0) (zai (nG 1 nb0) zaC)))) (λ_ _ _ _ _=>zaL) (λ_ _ _ _ _=>(pv 0))) (pa_N (pv 2) zab)))
   (zad (sE 4 zbH.nd (zbx zco (by rfl) T.ntuple (by rfl) (zag (zaF (osc:=zae zbF) (N:=zdz) (N':=["edge","step"]) (sel:=[none,none]) bO (zaM (pe_op za5 (zax zaP (pv 0) (zaI (pv 3)) zaN) (zax zaP (pv 0) zaN (zaI (pv 3))))) (λ_ _ _ _ _=>(zbo (K:=K) (n:=2) (by rfl) (zai (nG 0 nb1) (zai (nG 1 nb1) zaC)))) (λ_ _ _ _ _=>zdw (zav zjc (pv 1) zdE (zaq _))) (λ_ _ _ _ _=>(pv 1))) zab)))
   (zaf (zaj (za8 (pa_N (pv 1) (zag (pe_ix zap (pv 2) zac (λ_ _=>rfl)) (zag (pe_ix zap (pv 2) zac (λ_ _=>rfl)) (pa_N (pv 4) zab))))))))))),?_⟩
  refine⟨_,rfl,a,W,rfl,hLR,hlen,λH1 s1=>?_⟩
  have hex:∃e∈W.map (·.1),e.w=kOf (sortS W):=by
   rcases ze8 W with z |z <;> rw[z]
   .exact h0
   .exact h2
  refine⟨_,rfl,_,rfl,a,W,sortS W,rfl,ze8 W,hLR.same s1 (λx v hx=>hx.same s1),hlen,hex,λb e H2 s2 hb hbg=>?_⟩;have s12:=s1.trans s2;refine⟨_,rfl,a,rfl,⟨_,s12.seq hq⟩,λp hp=>?_⟩
  refine zaz (K:=K) (a:=a) (xs:=ws) (λi σ H3=>∃o1 o2,σ=[o1,o2]/\Same H2 H3/\∃es:List V,H3 p=some (.lst es)/\VR es ((W.take i).map (·.1)) eR H3)
   ⟨_,_,rfl,Same.up hp,[],zaa,VR.nil⟩ (λi σ H3 _ ⟨_,_,_,s3,_⟩=>(s12.trans s3).seq hq) ?_ ?_
  .rintro i v σ H3 hi ⟨o1,o2,rfl,s3,es,e3,hl⟩;obtain⟨⟨f,st⟩,he,B,bb,rfl,q1,q2⟩:=hv.at hi;have hl2:es.length<=1000:=by rw[hl.1,Af,Aq];lia
   refine⟨B,_,rfl,SqT.of ((s12.trans s3) _ _ q1),rfl,_,_,rfl,_,_,rfl,rfl,?_⟩;refine zbj ?_
   refine⟨_,rfl,es,e3,zal hl2,_,_,rfl,zas hp s3,_,zaa,?_⟩;rw[zau he,Ax];have k2:KT H3 (upd H3 p (.lst (es++[.ref bb]))):=KT.lst e3;exact hl.snoc (λx v hx=>hx.kt k2) ⟨bb,rfl,k2 _ _ ((s12.trans s3) _ _ q2)⟩
  .rintro σ H3 ⟨o1,o2,rfl,s3,es,e3,hl⟩;rw[hv.1,AX]at hl;obtain⟨j,hj,hjm⟩:=zhI hbg.1;have hjl:j<W.length:=by have:=(Ab.mp hj).1;simpa using this
   have s13:=s12.trans s3;refine⟨.inl ⟨rfl,_,SqL.of e3⟩,_,rfl,p,es,_,_,_,j,_,rfl,rfl,SqL.of e3,zfg (s3 _ _ hb),zfV hl,zc8 _,(λz hz=>by obtain⟨f,_,rfl⟩:=AL.mp hz;exact zc8 _),(by rw[Az,hj];rfl),(by rw[zjC];exact decide_eq_true rfl),(λm z hm hz=>?_),?_⟩
   .rw[Az]at hz;obtain⟨f,hf,rfl⟩:=Bg.mp hz;rw[zjC];exact decide_eq_false (λq=>hjm m f hm hf (zhL.mp q))
   have hwl:j<=ws.length:=by rw[hv.1];lia
   refine⟨_,rfl,_,rfl,_,rfl,a,ws,rfl,s13.seq hq,λp4 hp4=>?_⟩;rw[zcN ws hwl];have s4:=Same.up (o:=.lst (ws.drop j)) hp4;refine⟨_,rfl,_,rfl,_,rfl,a,ws,rfl,(s13.trans s4).seq hq,λp5 hp5=>?_⟩;rw[zhN ws hwl];have s5:=Same.up (o:=.lst (ws.take j)) hp5;refine⟨p4,p5,_,_,rfl,rfl,s5 _ _ zaa,zaa,Bc (zal (by simp[hv.1];lia)),λp6 hp6=>?_⟩;have s6:=Same.up (o:=.lst (ws.drop j++ws.take j)) hp6;have s16:=s13.trans (s4.trans (s5.trans s6));have e6:upd (upd (upd H3 p4 (.lst (ws.drop j))) p5 (.lst (ws.take j))) p6 (.lst (ws.drop j++ws.take j)) p6=some (.lst (ws.drop j++ws.take j)):=zaa;have b6:=(s4.trans (s5.trans s6)) _ _ (s3 _ _ hb);generalize upd (upd (upd H3 p4 (.lst (ws.drop j))) p5 (.lst (ws.take j))) p6 (.lst (ws.drop j++ws.take j))=H6 at s16 e6 b6 ⊢;have hv6:=hv.rot j;have hWl:(W.drop j++W.take j).length<=500:=by simp;lia
   generalize hW6:W.drop j++W.take j=W6 at hv6 hWl;generalize ws.drop j++ws.take j=ws6 at hv6 e6;refine⟨p6,rfl,⟨_,SqL.of e6⟩,λp7 hp7=>?_⟩
   refine zaz (K:=K) (a:=p6) (xs:=ws6) (λi σ H7=>∃o1 o2,σ=[o1,o2]/\Same H6 H7/\H7 p7=some (.lst (rowV ((W6.take i).filterMap (·.2)))))
    ⟨_,_,rfl,Same.up hp7,zaa⟩ (λi σ H7 _ ⟨_,_,_,s7,_⟩=>s7.seq (SqL.of e6)) ?_ ?_
   .rintro i v σ H7 hi ⟨o1,o2,rfl,s7,e7⟩;obtain⟨⟨f,st⟩,he,B,bb,rfl,q1,q2⟩:=hv6.at hi
    have hl2:(rowV ((W6.take i).filterMap (·.2))).length<=1000:=by unfold rowV;rw[Af];have:=List.length_filterMap_le (λq:Edge×Option Nat=>q.2) (W6.take i);rw[Aq]at this;lia
    refine⟨B,_,rfl,SqT.of ((s16.trans s7) _ _ q1),rfl,_,_,rfl,_,_,rfl,rfl,?_⟩;refine⟨_,rfl,rfl,_,rfl,?_⟩;rw[zkD,zau he,List.filterMap_append]
    cases st with
    |none=>exact iteF ⟨_,_,rfl,s7,by simpa using e7⟩
    |some n =>
     refine iteT ⟨_,rfl,_,e7,zal hl2,_,_,rfl,zas hp7 s7,?_⟩;rw[zaa];simp[rowV,sv]
   .rintro σ H7 ⟨o1,o2,rfl,s7,e7⟩;rw[hv6.1,AX]at e7;refine⟨p7,_,rfl,.inl ⟨SqL.of e7,λp8 hp8=>?_⟩⟩;have s8:=Same.up (o:=.tup (rowV (W6.filterMap (·.2)))) hp8;have b8:=s8 _ _ (s7 _ _ b6);refine⟨_,rfl,_,rfl,b,_,_,_,rfl,rfl,SqT.of b8,zah (j:=0) rfl,_,rfl,b,_,_,_,rfl,rfl,SqT.of b8,zah (j:=1) rfl,_,rfl,(by show 4<=sizeLine;decide),λp9 hp9=>?_⟩;refine k _ _ ⟨sortS W,e.c.1,e.c.2,W6.filterMap (·.2)⟩ ((s16.trans (s7.trans s8)).trans (Same.up hp9)) ⟨p9,p8,rfl,zaa,Same.up hp9 _ _ zaa⟩ ⟨rfl,j,e,hj,hbg,rfl,rfl,?_⟩;rw[<- hW6]
noncomputable def keyV (r:Rnd):List V:=[.int r.y,.int r.x,.bl (decide (V.str r.so=V.str "hole"))]
noncomputable def zdA(K:W.Frag):Sp:=λvs H Q _=>∃(v:V) (r:Rnd),vs=[v]/\rR r v H/\∀p H',H p=none->Same H H'->H' p=some (.tup (keyV r))->Q (.ref p) H'
theorem zet (d:Df K mg "round_order" zch ["one"]):FnOk P w K mg base CX0 1 d.f d.fd ["one"] (zdA K):=by
 refine d.F.ok zbb (λvs H Q E h=>?_) (λcdv A outer s H vs Q E hr h=>?_)
 .obtain⟨v,r,rfl,_⟩:=h;rfl
 .obtain⟨v,r,rfl,⟨a,b,rfl,q1,q2⟩,k⟩:=h
  refine⟨_,(zad (zbX (pv 0) (zbr (by rfl) (zai (nG 1 zbb.nd) (zai (nG 2 zbb.nd) (zai (nG 3 zbb.nd) (zai (nG 4 zbb.nd) zaC))))))
   (zaf (zaj (za8 (pa_N (pv 3) (pa_N (pv 2) (zag (zaQ op_eq (pv 1) zfW (zaq _)) zab))))))),?_⟩
  refine⟨_,rfl,a,_,rfl,SqT.of q1,rfl,_,_,rfl,_,_,rfl,_,_,rfl,_,_,rfl,rfl,?_⟩;refine⟨_,rfl,_,rfl,_,rfl,rfl,three,λp hp=>k p _ hp (Same.up hp) zaa⟩
theorem VR.cons{α:Type}{v:V}{vs:List V}{x:α}{l:List α}{R:α->V->Hp->Prop}{H:Hp}:VR (v::vs) (x::l) R H ↔ R x v H/\VR vs l R H:=by
 constructor
 .intro h;exact⟨h.2 0 x v rfl rfl,by simpa using h.1,λi y u h1 h2=>h.2 (i+1) y u (by simpa using h1) (by simpa using h2)⟩
 .rintro⟨h1,h2⟩;refine⟨by simp[h2.1],λi y u e1 e2=>?_⟩
  match i,e1,e2 with
  | 0,e1,e2=>cases e1;cases e2;exact h1
  |i+1,e1,e2=>exact h2.2 i y u (by simpa using e1) (by simpa using e2)
theorem VR.perm{α:Type}{R:α->V->Hp->Prop}{H:Hp}{ys xs:List V}(p:ys.Perm xs):∀{l:List α},VR xs l R H->∃l':List α,l'.Perm l/\VR ys l' R H:=by
 induction p with
 |nil=>intro l h;exact⟨l,List.Perm.refl _,h⟩
 |cons v _ ih =>
  intro l h
  match l,h with
  |[],h=>exact absurd h.1 (by simp)
  |x::l,h =>
   obtain⟨h1,h2⟩:=VR.cons.mp h;obtain⟨l',p',h'⟩:=ih h2;exact⟨x::l',p'.cons x,VR.cons.mpr ⟨h1,h'⟩⟩
 |swap a b r =>
  intro l h
  match l,h with
  |[],h=>exact absurd h.1 (by simp)
  |[_],h=>exact absurd h.1 (by simp)
  |x::y::l,h =>
   obtain⟨h1,h2⟩:=VR.cons.mp h;obtain⟨h3,h4⟩:=VR.cons.mp h2;exact⟨y::x::l,List.Perm.swap _ _ _,VR.cons.mpr ⟨h3,VR.cons.mpr ⟨h1,h4⟩⟩⟩
 |trans _ _ ih1 ih2 =>
  intro l h;obtain⟨l1,p1,h1⟩:=ih2 h;obtain⟨l2,p2,h2⟩:=ih1 h1;exact⟨l2,p2.trans p1,h2⟩
noncomputable def kE(e:Edge):List Key:=[CQ e.c.1,CQ e.c.2,CQ (e.w:Int)]
theorem zkS{e f:Edge}:kE e=kE f ↔ e=f:=by
 constructor
 .intro h;refine zhL.mp ?_
  unfold kE at h;injection h with h1 h2;injection h2 with h2 h3;injection h3 with h3 _;unfold eI;rw[Sum.inl.inj h1,Sum.inl.inj h2,Sum.inl.inj h3]
 .rintro rfl;rfl
theorem _root_.RP.Closed.back{C:Cell->Bool}{b x:Edge}{es:List Edge}(h:Closed C b es)(hx:IsE C x)(hm:nxt C x∈es):x∈es:=by
 obtain⟨⟨h0,hs,hE,hnd⟩,l,hl,hb⟩:=h;obtain⟨i,hi,ei⟩:=AM hm;have hlm:l∈es:=Ag hl;rcases Nat.eq_zero_or_pos i with rfl |hp
 .rw[Aa hi,ei]at h0;have e:=A2 h0;rw[<- hb]at e;rw[zgT hx (hE l hlm) e];exact hlm
 .have hi':i-1<es.length:=by lia
  have e1:=hs (i-1) es[i-1] (nxt C x) (Aa hi') (by rw[show i-1+1=i by lia,Aa hi,ei]);rw[zgT hx (hE _ (AU hi')) e1];exact AU hi'
theorem _root_.RP.Closed.apart{C:Cell->Bool}{b:Edge}{es done:List Edge}(h:Closed C b es)(hd:∀x,IsE C x->nxt C x∈done->x∈done)(hb:b ∉ done):∀e∈es,e ∉ done:=by
 obtain⟨⟨h0,hs,hE,hnd⟩,_⟩:=h
 have key:∀(i:Nat) e,es[i]?=some e->e ∉ done:=by
  intro i
  induction i with
  |zero=>intro e he;rw[he]at h0;cases h0;exact hb
  |succ i ih =>
   intro e he hm;have hi:i+1<es.length:=(Ab.mp he).1;have h1:es[i]?=some es[i]:=Aa (by lia)
   have hn:=hs i _ e h1 he;rw[hn]at hm;exact ih _ h1 (hd _ (hE _ (AU _)) hm)
 intro e he;obtain⟨i,hi,ei⟩:=AM he;exact key i e (by rw[Aa hi,ei])
structure Part (C:Cell->Bool) (ESS:List (List Edge)) (R:List Rnd):Prop where
 len:R.length=ESS.length
 each:∀(i:Nat) es r,ESS[i]?=some es->R[i]?=some r->(∃b,Closed C b es)/\IsRnd (wk C es) r
 nd:ESS.flatten.Nodup
theorem Part.closed{C:Cell->Bool}{ESS:List (List Edge)}{R:List Rnd}(h:Part C ESS R):∀es∈ESS,∃b,Closed C b es:=λes he=>by
 obtain⟨i,hi,ei⟩:=AM he;have hr:i<R.length:=by rw[h.len];exact hi
 exact (h.each i es R[i] (by rw[Aa hi,ei]) (Aa hr)).1
theorem Part.isE{C:Cell->Bool}{ESS:List (List Edge)}{R:List Rnd}(h:Part C ESS R):∀e∈ESS.flatten,IsE C e:=λe he=>by obtain⟨es,h1,h2⟩:=List.mem_flatten.mp he;obtain⟨b,hc⟩:=h.closed es h1;exact hc.1.2.2.1 e h2
theorem Part.back{C:Cell->Bool}{ESS:List (List Edge)}{R:List Rnd}(h:Part C ESS R):∀x,IsE C x->nxt C x∈ESS.flatten->x∈ESS.flatten:=λx hx hm=>by obtain⟨es,h1,h2⟩:=List.mem_flatten.mp hm;obtain⟨b,hc⟩:=h.closed es h1;exact List.mem_flatten.mpr ⟨es,h1,hc.back hx h2⟩
theorem Part.nil{C:Cell->Bool}:Part C [] []:=⟨rfl,λi es r h=>by simp at h,by simp⟩
theorem Part.snoc{C:Cell->Bool}{ESS:List (List Edge)}{R:List Rnd}{b:Edge}{es:List Edge}{r:Rnd}(h:Part C ESS R)(hc:Closed C b es)(hr:IsRnd (wk C es) r)(hb:b ∉ ESS.flatten):Part C (ESS++[es]) (R++[r]):=by
 refine⟨by simp[h.len],λi fs q h1 h2=>?_,?_⟩
 .rcases A3 i ESS.length with hi |hi
  .rw[Am hi]at h1;rw[Am (by rw[h.len];exact hi)]at h2;exact h.each i fs q h1 h2
  .rw[Au hi]at h1;rw[Au (by rw[h.len];exact hi)]at h2
   have hz:i-ESS.length=0:=by have:=(Ab.mp h1).1;simp at this;lia
   rw[hz]at h1;rw[h.len,hz]at h2
   cases h1;cases h2
   exact⟨⟨b,hc⟩,hr⟩
 .have ap:=hc.apart h.back hb;rw[CY,List.nodup_append];refine⟨h.nd,by simpa using hc.1.2.2.2,λx hx y hy e=>?_⟩;subst e;exact ap x (by simpa using hy) hx
theorem zhC{p:Edge->Bool}:∀(ESS:List (List Edge)),(∀es∈ESS,∃e∈es,p e=true)->ESS.length<=(ESS.flatten.filter p).length
 |[],_=>AV _
 |es::r,h=>by
  have ih:=zhC r λes he=>h es (Ao _ he)
  obtain⟨e,he,hp⟩:=h es Ay;rw[Ce,List.filter_append,Aj,AO];have:0<(es.filter p).length:=List.length_pos_of_mem (List.mem_filter.mpr ⟨he,hp⟩);lia
theorem Part.few{cs:List Cell}{ESS:List (List Edge)}{R:List Rnd}(h:Part (isIn cs) ESS R):R.length<=cs.length:=by
 rw[h.len];refine AF (zhC (p:=λe=>e.w == 0) ESS λes he=>?_) ?_
 .obtain⟨b,hc⟩:=h.closed es he;obtain⟨e,h1,h2⟩:=hc.has (k:=0) (.inl rfl);exact⟨e,h1,by simpa using h2⟩
 .rw[<- Af (f:=λc:Cell=>(⟨c,0⟩:Edge)) (as:=cs)];refine za2 (List.Pairwise.filter _ h.nd) λe he=>?_
  obtain⟨h1,h2⟩:=List.mem_filter.mp he;have hE:=h.isE e h1;refine AL.mpr ⟨e.c,of_decide_eq_true hE.2.1,?_⟩;obtain⟨c,w⟩:=e;simp only at h2 ⊢;have:w=0:=by simpa using h2
  rw[this]
theorem Part.small{cs:List Cell}{ESS:List (List Edge)}{R:List Rnd}(h:Part (isIn cs) ESS R):ESS.flatten.length<=4*cs.length:=by rw[<- zbu];exact za2 h.nd λe he=>zde.mpr ⟨of_decide_eq_true (h.isE e he).2.1,(h.isE e he).1⟩
noncomputable def keyI (r:Rnd):List Int:=[r.y,r.x,PyProof.Rows.b2i (decide (V.str r.so=V.str "hole"))]
noncomputable def Whole(cs:List Cell)(R:List Rnd):Prop:=∃ESS,Part (isIn cs) ESS R/\∀e,e∈ESS.flatten ↔ IsE (isIn cs) e
noncomputable def zhg(K:W.Frag):Sp:=λvs H Q _=>∃(a:Addr) (cs:List Cell),vs=[.ref a]/\LR K H a cs cR/\InOrd cs/\cs.length<=60 /\
 ∀p H' rs R R0,H p=none->Same H H'->H' p=some (.lst rs)->VR rs R rR H'->R.Perm R0->True->Whole cs R0->Q (.ref p) H'
noncomputable def zc6(K:W.Frag):Sp:=λvs H Q _=>∃(t pe:Addr) (cs:List Cell) (es:List V),vs=[.ref t,.ref pe]/\Tab H t (isIn cs)/\H pe=some (.lst es)/\VR es (allE cs) eR H/\cs.length<=60 /\
 ∀p H' rs R R0,H p=none->Same H H'->H' p=some (.lst rs)->VR rs R rR H'->R.Perm R0->True->Whole cs R0->Q (.ref p) H'
theorem zd5(T:Txt P w K mg)
    (g_walk_from:Fn P w K mg base 3 "walk_from" ["table","begin"] (zkE K)) (g_round_of:Fn P w K mg base 5 "round_of" ["walk"] (zfM K)) (g_round_order:Fn P w K mg base 1 "round_order" ["one"] (zdA K))
    (d:Df K mg "rounds_along" zb0 ["table","edges"]):FnOk P w K mg base CX0 6 d.f d.fd ["table","edges"] (zc6 K):=by
  refine d.F.ok zaS (λvs H Q E h=>?_) (λcdv A outer s H2 vs Q E hr h=>?_)
  . obtain⟨t,pe,cs,es,rfl,_⟩:=h;rfl
  . obtain⟨t,pe,cs,es,rfl,tab,epe,hvpe,hlen,k⟩:=h;have hu1:=hu_of hr
    refine⟨_,(zad (sE 2 zaS.nd zkk)
      (zad (sE 3 zaS.nd (zaA zab))
      (zad (zbq AY rfl (zaM (pv 1)) (nG 4 zaS.nd)
      (zaf (ps_if (zi3 (zfY hu1 (pv 4) (pv 2)))
      (zad (sE 5 zaS.nd (pC g_walk_from hr (pa_N (pv 0) (pa_N (pv 4) zab))))
      (zad (zbq AY rfl (zaM (pv 5)) (zbr (by rfl) (zai (nG 6 zaS.nd) (zai (nG 7 zaS.nd) zaC)))
      (zaf (zln hu1 (pv 2) (pv 6) pe_bl rfl)))
      (zaf (zcA (pe_bm Bj BE BF zbP (pv 3) (zag (pC g_round_of hr (pa_N (pv 5) zab)) zab))))))
      zaw)))
      (zaf (zaj (zkj g_round_order.ok (hr.mono (by decide)) g_round_order.b (by rfl) T.nsorted (by rfl) g_round_order.m (pv 3))))))),?_⟩
    refine λdd hdd=>⟨(by show 0<=sizeLine;decide),λp hp=>?_⟩
    have hpd:p≠dd:=λz=>by subst z;rw[zaa]at hp;cases hp
    have s4:Same H2 (upd (upd H2 dd (.dT [])) p (.lst [])):=(Same.up hdd).trans (Same.up hp);have d4:upd (upd H2 dd (.dT [])) p (.lst []) dd=some (.dT []):=by rw[zam (By hpd),zaa]
    have p4:upd (upd H2 dd (.dT [])) p (.lst []) p=some (.lst []):=zaa;have n2:H2 dd=none:=hdd;have n2p:H2 p=none:=by rw[zam hpd]at hp;exact hp
    generalize upd (upd H2 dd (.dT [])) p (.lst [])=H5 at s4 d4 p4;have s15:Same H2 H5:=s4;have e5:=s4 _ _ epe;have hv5:=hvpe.mono λx v hx=>hx.same s4
    refine⟨_,rfl,pe,rfl,⟨_,SqL.of e5⟩,?_⟩;have hped:pe≠dd:=zao epe n2;have hpep:pe≠p:=zao epe n2p
    refine zaz (K := K) (a := pe) (xs := es) (λi σ H6 => ∃o4 o5 o6 o7, σ = [some (.ref t), some (.ref pe), some (.ref dd), some (.ref p), o4, o5, o6, o7] /\ Same H2 H6 /\ H6 pe=some (.lst es) /\ KT H5 H6 /\
        ∃kvs rs ESS R,H6 dd=some (.dT kvs)/\H6 p=some (.lst rs)/\VR rs R rR H6/\Part (isIn cs) ESS R/\(∀e,(valV kvs (kE e)).isSome=decide (e∈ESS.flatten))/\kvs.length<=ESS.flatten.length/\∀e∈(allE cs).take i,e∈ESS.flatten)
      ⟨_,_,_,_,rfl,s15,e5,KT.refl _,[],[],[],[],d4,p4,VR.nil,Part.nil,(λe=>by simp[valV]),Ah _,(λe he=>by simp at he)⟩ (λi σ H6 _ ⟨_,_,_,_,_,_,e6,_⟩=>SqL.of e6) ?_ ?_
    . rintro i v σ H6 hi ⟨o4,o5,o6,o7,rfl,s6,e6,kt6,kvs,rs,ESS,R,d6,p6,hR,hP,hkv,hkl,hall⟩;obtain⟨e,he,b,rfl,qb⟩:=hv5.at hi;have hE:IsE (isIn cs) e:=zhB.mp (Ag he);have qb6:=kt6 _ _ qb;refine⟨_,rfl,_,rfl,dd,_,rfl,.inr ⟨kvs,kE e,b,Rd.of d6,rfl,qb6,rfl⟩,_,rfl,?_⟩;rw[hkv]
      by_cases hin:e∈ESS.flatten
      . rw[decide_eq_true hin];refine iteF ⟨_,_,_,_,rfl,s6,e6,kt6,kvs,rs,ESS,R,d6,p6,hR,hP,hkv,hkl,λf hf=>?_⟩;rcases (zby he).mp hf with z |z
        . exact hall f z
        . rw[z];exact hin
      . rw[decide_eq_false hin];refine iteT ?_
        have tab6:=tab.same s6;refine⟨_,rfl,_,rfl,t,b,cs,e,rfl,tab6,qb6,hE,by lia,λpw H7 ws fs hpw s7 e7 hv7 hcl=>?_⟩;have hfs:fs.length<=4*cs.length:=hcl.1.short;have hap:=hcl.apart hP.back hin;have d7:=s7 _ _ d6;have hdw:dd≠pw:=λz=>by subst z;rw[d6]at hpw;cases hpw
        have hws:ws.length=fs.length:=by rw[hv7.1,zdP]
        refine⟨_,rfl,pw,rfl,⟨_,SqL.of e7⟩,?_⟩
        refine zaz (K := K) (a := pw) (xs := ws) (λj σ H8 => ∃o6 o7, σ = [some (.ref t), some (.ref pe), some (.ref dd), some (.ref p), some (.ref b), some (.ref pw), o6, o7] /\ (∀z o, z ≠ dd -> H7 z=some o -> H8 z=some o) /\
            ∃kv8,H8 dd=some (.dT kv8)/\(∀f,(valV kv8 (kE f)).isSome=decide (f∈ESS.flatten∨f∈fs.take j))/\kv8.length<=ESS.flatten.length+j)
          ⟨_,_,rfl,(λz o _ h=>h),kvs,d7,(λf=>by rw[hkv];simp),by lia⟩ (λj σ H8 _ ⟨_,_,_,k8,_⟩=>SqL.of (k8 _ _ (By hdw) e7)) ?_ ?_
        . rintro j u σ H8 hj ⟨o6,o7,rfl,k8,kv8,d8,hk8,hl8⟩;obtain⟨⟨f,st⟩,hf,B,bb,rfl,q1,q2⟩:=hv7.at hj
          have hf':fs[j]?=some f:=by
            unfold wk at hf;rw[Az]at hf;obtain⟨g,hg,eg⟩:=Bg.mp hf
            cases eg
            exact hg
          have nB:B≠dd:=ne_of q1 d7 (λz=>nomatch z);have nb:bb≠dd:=ne_of q2 d7 (λz=>nomatch z);refine⟨B,_,rfl,SqT.of (k8 _ _ nB q1),rfl,_,_,rfl,_,_,rfl,rfl,?_⟩;have hjl:j<fs.length:=by rw[<- hws];exact (Ab.mp hj).1
          have hsm:=hP.small;refine⟨_,rfl,_,rfl,dd,_,rfl,.inr ⟨kv8,kE f,bb,d8,rfl,k8 _ _ nb q2,zal (by lia),rfl⟩,?_⟩;refine⟨_,_,rfl,(λz o hz h=>by rw[zam hz];exact k8 z o hz h),_,zaa,(λg=>?_),AF (zbs _ _ _) (by lia)⟩;rw[zg7]
          by_cases eg:g=f
          . rw[if_pos (zkS.mpr eg),decide_eq_true (.inr ((zby hf').mpr (.inr eg)))];rfl
          . rw[if_neg (λz=>eg (zkS.mp z)),hk8];refine decide_eq_decide.mpr ⟨λz=>z.imp id λq=>(zby hf').mpr (.inl q),λz=>z.imp id λq=>((zby hf').mp q).resolve_right eg⟩
        . rintro σ H8 ⟨o6,o7,rfl,k8,kv8,d8,hk8,hl8⟩;rw[hws,AX]at hk8;have hdp:p≠dd:=hpd;have p8:=k8 _ _ hdp (s7 _ _ p6);have kt8:KT H7 H8:=λz xs h=>k8 z _ (ne_of h d7 (λq=>nomatch q)) h
          have w8:H8 pw=some (.lst ws):=k8 _ _ (By hdw) e7;have hrl:rs.length<=60:=by rw[hR.1];exact AF hP.few hlen
          have hh:∀kk,kk=0∨kk=2->∃x∈(wk (isIn cs) fs).map (·.1),x.w=kk:=λkk hkk=>by obtain⟨x,h1,h2⟩:=hcl.has hkk;exact⟨x,by unfold wk;rw[Cz];simpa using h1,h2⟩
          refine⟨_,rfl,.inl ⟨rfl,_,SqL.of p8⟩,_,rfl,pw,wk (isIn cs) fs,rfl,LR.of w8 (hv7.mono λx v hx=>hx.kt kt8),(by rw[zdP];lia),hh 0 (.inl rfl),hh 2 (.inr rfl),λvr H9 r s9 hr9 hrn=>?_⟩;have p9:=s9 _ _ p8;refine⟨p,rs,_,rfl,rfl,p9,zal (by lia),?_⟩;have kt9:KT H9 (upd H9 p (.lst (rs++[vr]))):=KT.lst p9;have ktA:KT H6 (upd H9 p (.lst (rs++[vr]))):=(KT.of s7).trans (kt8.trans ((KT.of s9).trans kt9));refine⟨_,_,_,_,rfl,(λz o h=>?_),?_,kt6.trans ktA,kv8,rs++[vr],ESS++[fs],R++[r],?_,zaa,hR.snoc (λx v hx=>hx.kt ktA) (hr9.kt kt9),hP.snoc hcl hrn hin,(λf=>?_),?_,(λf hf=>?_)⟩
          . rw[zam (zao h n2p)];exact s9 _ _ (k8 _ _ (zao h n2) (s7 _ _ (s6 _ _ h)))
          . rw[zam hpep];exact s9 _ _ (k8 _ _ hped (s7 _ _ e6))
          . rw[zam (By hpd)];exact s9 _ _ d8
          . rw[hk8];refine decide_eq_decide.mpr ?_
            rw[CY,List.mem_append];simp
          . rw[CY,Aj,show [fs].flatten=fs by simp];lia
          . rw[CY,List.mem_append];rcases (zby he).mp hf with z |z
            . exact .inl (hall f z)
            . rw[z];refine .inr ?_
              have:=hcl.1.1;simpa using Ag this
    . rintro σ H6 ⟨o4,o5,o6,o7,rfl,s6,e6,kt6,kvs,rs,ESS,R,d6,p6,hR,hP,hkv,hkl,hall⟩;rw[hv5.1,AX]at hall;have hrl:rs.length<=60:=by rw[hR.1];exact AF hP.few hlen
      have ge:∀(i:Nat) r,R[i]?=some r->(λi=>keyV (R.getD i ⟨"",0,0,[]⟩)) i=keyV r:=λi r h=>by simp only[Ak,h,Option.getD_some]
      refine⟨_,rfl,p,rs,λi=>keyV (R.getD i ⟨"",0,0,[]⟩),λi=>keyI (R.getD i ⟨"",0,0,[]⟩),rfl,SqL.of p6,by lia,λi x H7 hx s7=>?_,
        λi j hi hj=>⟨_,_,_,_,_,_,rfl,rfl,.cons (.int _ _) (.cons (.bl _ _) .nil),rfl,rfl⟩,λys D H7 hpm hD s7 f7=>?_⟩
      . obtain⟨r,hr',hx'⟩:=hR.at hx;refine⟨x,r,rfl,hx'.kt (KT.of s7),λq H8 hq s8 f8=>⟨s8,q,rfl,SqT.of ?_⟩⟩;rw[ge i r hr'];exact f8
      . obtain⟨R',pR,vR⟩:=(hR.mono λx v hx=>hx.kt (KT.of s7)).perm hpm;exact k D H7 ys R' R (s6.free hD) (s6.trans s7) f7 vR pR trivial ⟨ESS,hP,λe=>⟨hP.isE e,λh=>hall e (zhB.mpr h)⟩⟩
theorem zjf (T:Txt P w K mg) (g_ask_picture:Fn P w K mg base 2 "ask_picture" ["picture"] (spAsk K)) (g_cell_table:Fn P w K mg base 1 "cell_table" ["picture"] (zgv K)) (g_all_edges:Fn P w K mg base 3 "all_edges" ["picture"] (zkL K))
  (g_rounds_along:Fn P w K mg base 6 "rounds_along" ["table","edges"] (zc6 K))
  (d:Df K mg "rounds" zfe ["picture"]):FnOk P w K mg base CX0 7 d.f d.fd ["picture"] (zhg K):=by
 refine d.F.ok ziW (λvs H Q E h=>?_) (λcdv A outer s H vs Q E hr h=>?_)
 .obtain⟨a,cs,rfl,_⟩:=h;rfl
 .obtain⟨a,cs,rfl,hLR,hord,hlen,k⟩:=h;have hu1:=hu_of hr
  refine⟨_,(zad (zcA (pC g_ask_picture hr (pa_N (pv 0) zab)))
   (zaf (zaj (pC g_rounds_along hr (zag (pC g_cell_table hr (pa_N (pv 0) zab)) (zag (pC g_all_edges hr (pa_N (pv 0) zab)) zab)))))),?_⟩
  refine⟨_,rfl,a,cs,rfl,hLR,hord,by lia,λH1 s1=>?_⟩;have hLR1:=hLR.same s1 λx v hx=>hx.same s1
  refine⟨_,rfl,a,cs,rfl,hLR1,by lia,λt H2 ht s2 tab=>?_⟩;refine⟨_,rfl,a,cs,rfl,hLR1.same s2 (λx v hx=>hx.same s2),by lia,λpe H5 es hpe s5 e5 hv5=>?_⟩;refine⟨t,pe,cs,es,rfl,tab.same s5,e5,hv5,hlen,λp H' rs R R0 hp sp f1 f2 f3 f4 f5=>?_⟩;exact k p H' rs R R0 (s1.free (s2.free (s5.free hp))) (s1.trans (s2.trans (s5.trans sp))) f1 f2 f3 f4 f5
theorem zkb{α:Type}(l:List α)(j:Nat):(l.drop j++l.take j).Perm l:=by have:=List.perm_append_comm (l₁:=l.drop j) (l₂:=l.take j);rw[List.take_append_drop]at this;exact this
theorem zg5{C:Cell->Bool}(es:List Edge):(wk C es).map (·.1)=es:=by unfold wk;rw[Cz];exact List.map_id' _
theorem zh3{C:Cell->Bool}{es fs:List Edge}(p:es.Perm fs):sortS (wk C es)=sortS (wk C fs):=by have q:(wk C es).Perm (wk C fs):=p.map _;unfold sortS nL nS;have a:=(q.filter λq=>q.2.isNone).length_eq;have b:=(q.filter λq=>slant q.2).length_eq;rw[a,b]
noncomputable def begE(r:Rnd):Edge:=⟨(r.x,r.y),kOf r.so⟩
noncomputable abbrev SoOk (r:Rnd):Prop:=r.so = "rim" ∨ r.so = "hole"
noncomputable def Boxed(m:Nat)(cs:List Cell):Prop:=∃(x y:Int) (w h:Nat),w*h<=m/\∀c∈cs,x<=c.1/\c.1<x+w/\y<=c.2/\c.2<y+h
theorem Boxed.near{m:Nat}{cs:List Cell}(h:Boxed m cs){a b:Cell}(ha:a∈cs)(hb:b∈cs):a.1-b.1<=m/\b.1-a.1<=m/\a.2-b.2<=m/\b.2-a.2<=m:=by
 obtain⟨x,y,w,h,hm,k⟩:=h;obtain⟨a1,a2,a3,a4⟩:=k a ha;obtain⟨b1,b2,b3,b4⟩:=k b hb;have hw:1<=w:=by lia
 have hh:1<=h:=by lia
 have w2:w<=w*h:=Nat.le_mul_of_pos_right _ hh;have h2:h<=w*h:=Nat.le_mul_of_pos_left _ hw;refine⟨?_,?_,?_,?_⟩ <;> lia
noncomputable def apart(o:Cell)(k:Int)(c:Cell):Cell:=(o.1+(c.1-o.1)*k,o.2+(c.2-o.2)*k)
noncomputable def zmt(H:Hp)(p:Addr)(t:Int):Prop:=∃c:Int,H p=some (.lst [.int c,.int t])/\0<=t/\t<2 ^ 40
theorem cpow{i j:Int}(h:0<=j/\j<=1000000/\i.natAbs<2 ^ 64):CPow i j:=h
noncomputable def zhk(K:W.Frag):Sp:=λvs H Q _=>∃(a:Addr) (ns:List Int) (k:Nat),vs=[.ref a,.int k]/\SqL K H a (ns.map V.int)/\∀n,Q (.int n) H
theorem zez (T:Txt P w K mg) (d:Df K mg "_law_cell_at" zb4 ["_law_script","_law_k"]):FnOk P w K mg base CX0 1 d.f d.fd ["_law_script","_law_k"] (zhk K):=by
 refine d.F.ok zdV (λvs H Q E h=>?_) (λcdv A outer s H vs Q E hr h=>?_)
 .obtain⟨a,ns,k,rfl,_⟩:=h;rfl
 .obtain⟨a,ns,i,rfl,hq,k⟩:=h
  refine⟨_,(zad (ps_if (zav op_lt (pv 1) (zak zan (by rfl) T.nlen (by rfl) (pa_N (pv 0) zab)) (zaq _))
   (zaf (zaj (pe_ix zat (pv 0) (pv 1) (λ_ _=>rfl))))
   zaw)
   (zaf (zaj zac))),?_⟩
  refine⟨_,rfl,_,rfl,a,_,rfl,.inl hq,_,_,rfl,rfl,_,rfl,?_⟩;refine ite2 (λhy=>?_) (λhn=>k 0)
  have hlt:i<ns.length:=by have:=of_decide_eq_true hy;rw[Af]at this;lia
  exact⟨_,rfl,_,rfl,a,_,_,_,rfl,rfl,hq,zah (v:=.int ns[i]) (by simp[hlt]),k _⟩
noncomputable def zkG:Sp:=λvs H Q _=>∃(p:Addr) (t b:Int),vs=[.ref p,.int b]/\zmt H p t/\0<b/\b.natAbs.log2<9000/\∀(n c:Int),0<=n->n<b->Q (.int n) (upd H p (.lst [.int c,.int (t+1)]))
theorem zgL (T:Txt P w K mg) (d:Df K mg "_law_take" zcV ["_law_pen","_law_base"]):FnOk P w K mg base CX0 1 d.f d.fd ["_law_pen","_law_base"] zkG:=by
 refine d.F.ok zbv (λvs H Q E h=>?_) (λcdv A outer s H vs Q E hr h=>?_)
 .obtain⟨p,t,b,rfl,_⟩:=h;rfl
 .obtain⟨p,t,b,rfl,⟨c,hp,ht0,ht1⟩,hb,hlog,k⟩:=h
  refine⟨_,(zad (zbX (pe_op zaK (pe_ix zat (pv 0) zac (λ_ _=>rfl)) zac) (zkN (pv 0) zac zhl))
   (zad (ps_if (zav op_ge (zak zhS (by rfl) T.nabs (by rfl) (zag (pe_ix zat (pv 0) zac (λ_ _=>rfl)) zab)) (pe_op zeU zac zac) (zaq _))
   (zad (sE 2 zbv.nd (pe_op zay (zak zhS (by rfl) T.nabs (by rfl) (zag (pe_ix zat (pv 0) zac (λ_ _=>rfl)) zab)) (pe_op zeU zac zac)))
   (zad (zbX (pe_op zaK (pe_op zeU zac zac) (pe_op zhw (pv 2) (pv 1))) (zkN (pv 0) zac zhl))
   (zaf (zaj (pe_op zbY (pv 2) (pv 1))))))
   zaw)
   (zad (sE 3 zbv.nd (pe_op zaK (pe_op zaJ (pe_op zbY (pe_ix zat (pv 0) zac (λ_ _=>rfl)) zac) zac) (pe_op zaJ (pe_op zaJ zac (pe_ix zat (pv 0) zac (λ_ _=>rfl))) (pe_ix zat (pv 0) zac (λ_ _=>rfl)))))
   (zad (sE 3 zbv.nd (pe_op zbY (pe_op zaK (pe_op zaK (pv 3) (pe_op zaJ zac (pe_ix zat (pv 0) zac (λ_ _=>rfl)))) zac) zac))
   (zad (sE 3 zbv.nd (pe_op zbY (pe_op zaK (pe_op zaK (pe_op zaJ (pv 3) (pv 3)) (pe_op zaJ zac (pv 3))) (pe_ix zat (pv 0) zac (λ_ _=>rfl))) zac))
   (zaf (zaj (pe_op zbY (pe_op zlu (pv 3) zac) (pv 1))))))))),?_⟩
  refine⟨_,rfl,p,_,_,_,rfl,rfl,SqL.of hp,zah (j:=1) rfl,_,_,rfl,rfl,_,rfl,p,_,_,1,rfl,rfl,hp,rfl,?_⟩;have h1:upd H p (.lst [.int c,.int (t+1)]) p=some (.lst [.int c,.int (t+1)]):=zaa;have hmod:∀z:Int,0<=z % b/\z % b<b:=λz=>⟨Int.emod_nonneg _ (by lia),Int.emod_lt_of_pos _ hb⟩
  refine⟨_,rfl,p,_,_,_,rfl,rfl,SqL.of h1,zah (j:=0) rfl,c,rfl,_,_,rfl,rfl,(by refine cpow ?_;decide),_,_,rfl,rfl,_,rfl,?_⟩;refine ite2 (λ_=>?_) (λ_=>?_)
  .refine⟨_,rfl,p,_,_,_,rfl,rfl,SqL.of h1,zah (j:=0) rfl,c,rfl,_,_,rfl,rfl,(by refine cpow ?_;decide),_,_,rfl,rfl,?_⟩;refine⟨_,_,rfl,rfl,(by refine cpow ?_;decide),_,rfl,_,rfl,_,_,rfl,rfl,⟨hb,hlog⟩,_,_,rfl,rfl,_,rfl,p,_,_,0,rfl,rfl,h1,rfl,?_⟩;refine⟨_,rfl,_,rfl,_,_,rfl,rfl,hb,?_⟩;rw[zk5];exact k _ _ (hmod _).1 (hmod _).2
  .refine⟨_, rfl, p, _, _, _, rfl, rfl, SqL.of h1, zah (j := 0) rfl, _, _, rfl, rfl, (by show (0:Int) < 2147483647; decide), _, _, rfl, rfl, .inr ⟨by decide, by decide⟩,
    _,rfl,p,_,_,_,rfl,rfl,SqL.of h1,zah (j:=1) rfl,_,_,rfl,rfl,.inl ⟨by decide,by decide⟩,_,rfl,p,_,_,_,rfl,rfl,SqL.of h1,zah (j:=1) rfl,_,_,rfl,rfl,.inr ⟨by lia,by lia⟩,_,_,rfl,rfl,?_⟩
   refine⟨_,rfl,_,rfl,p,_,_,_,rfl,rfl,SqL.of h1,zah (j:=1) rfl,_,_,rfl,rfl,.inl ⟨by decide,by decide⟩,_,_,rfl,rfl,_,_,rfl,rfl,_,_,rfl,rfl,(by show (0:Int)<2147483629;decide),?_⟩
   refine⟨_,rfl,_,rfl,_,_,rfl,rfl,.inl ⟨Int.lt_of_lt_of_le (show (-(2 ^ 64):Int)<0 by decide) (Int.emod_nonneg _ (by decide)),Int.lt_trans (Int.emod_lt_of_pos _ (by decide)) (by decide)⟩,_,rfl,_,_,rfl,rfl,.inl ⟨by decide,by decide⟩,_,_,rfl,rfl,
    _,rfl,p,_,_,_,rfl,rfl,SqL.of h1,zah (j:=1) rfl,_,_,rfl,rfl,_,_,rfl,rfl,(by show (0:Int)<2147483587;decide),?_⟩
   refine⟨_,rfl,_,_,rfl,rfl,⟨by decide,by decide⟩,_,rfl,_,_,rfl,rfl,hb,?_⟩;exact k _ _ (hmod _).1 (hmod _).2
noncomputable def HasB(H:Hp)(p:Addr)(n:Nat):Prop:=∃c t:Int,H p=some (.lst [.int c,.int t])/\0<=t/\t+n<2 ^ 40
theorem HasB.le{H:Hp}{p:Addr}{n m:Nat}(h:HasB H p n)(hm:m<=n):HasB H p m:=let ⟨c,t,e,a,b⟩:=h;⟨c,t,e,a,by lia⟩
theorem HasB.same{H H':Hp}{p:Addr}{n:Nat}(h:HasB H p n)(s:Same H H'):HasB H' p n:=let ⟨c,t,e,a,b⟩:=h;⟨c,t,s _ _ e,a,b⟩
noncomputable def But(H H':Hp)(p:Addr):Prop:=∀z o,z≠p->H z=some o->H' z=some o
theorem But.refl(H:Hp)(p:Addr):But H H p:=λ_ _ _ h=>h
theorem But.trans{H H1 H2:Hp}{p:Addr}(a:But H H1 p)(b:But H1 H2 p):But H H2 p:=λz o hz h=>b z o hz (a z o hz h)
theorem But.of{H H1:Hp}{p:Addr}(a:Same H H1):But H H1 p:=λz o _ h=>a z o h
theorem But.free{H H1:Hp}{p q:Addr}{n:Nat}(a:But H H1 p)(h:HasB H p n)(hq:H1 q=none)(hp:HasB H1 p 0):H q=none:=by
 obtain⟨c,t,e,_⟩:=hp;have hne:q≠p:=λz=>by subst z;rw[e]at hq;cases hq
 cases x:H q with
 |none=>rfl
 |some o=>rw[a q o hne x]at hq;cases hq
theorem But.kt{H H1:Hp}{p:Addr}{n:Nat}(a:But H H1 p)(h:HasB H p n):KT H H1:=λb xs e=>by obtain⟨c,t,ep,_⟩:=h;exact a b _ (ne_of e ep (λz=>nomatch z)) e
theorem zj4{A:Prop}{D:Int->Hp->Prop}(C:Int->Hp->Prop)(g:(∀n H1,D n H1->C n H1)->A)(h:∀n H1,D n H1->C n H1):A:=g h
theorem zaD{b:Int}(h0:0<b)(h:b<=1000):b.natAbs.log2<9000:=by refine (Nat.log2_lt (by lia)).mpr (AD (show b.natAbs<2 ^ 10 by lia) (Nat.pow_le_pow_right (by decide) (by decide)))
noncomputable def spTk:Sp:=λvs H Q _=>∃(p:Addr) (n:Nat) (b:Int),vs=[.ref p,.int b]/\HasB H p (n+1)/\0<b/\b.natAbs.log2<9000/\∀(r:Int) (H':Hp),0<=r->r<b->But H H' p->HasB H' p n->Q (.int r) H'
theorem tk_of {f:Addr}{fd:Bs}(h:FnOk P w K mg base CX0 1 f fd ["_law_pen","_law_base"] zkG):FnOk P w K mg base CX0 1 f fd ["_law_pen","_law_base"] spTk:=by
 refine h.imp λvs H Q E h=>?_
 obtain⟨p,n,b,rfl,⟨c,t,e,h0,h1⟩,hb,hl,k⟩:=h;refine⟨p,t,b,rfl,⟨c,e,h0,by lia⟩,hb,hl,λr c' h2 h3=>k r _ h2 h3 (λz o hz h=>by rw[zam hz];exact h) ⟨c',t+1,zaa,by lia,by lia⟩⟩
noncomputable abbrev Tk (P:AK) (w:A1) (K:W.Frag) (mg:Str->Option Ad) (base:Heap):=Fn P w K mg base 1 "_law_take" ["_law_pen","_law_base"] spTk
noncomputable def spFar:Sp:=λvs H Q _=>∃(p:Addr) (n:Nat),vs=[.ref p]/\HasB H p (n+3)/\∀(r:Int) (H':Hp),-(2 ^ 104)<r/\r<2 ^ 104->But H H' p->HasB H' p n->Q (.int r) H'
theorem atI3{a b c:V}{n:Int}(h0:0<=n)(h3:n<3):∃v,atI [a,b,c] n=some v/\(v=a∨v=b∨v=c):=by
 have:n=0∨n=1∨n=2:=by lia
 rcases this with rfl |rfl |rfl
 .exact⟨a,rfl,.inl rfl⟩
 .exact⟨b,rfl,.inr (.inl rfl)⟩
 .exact⟨c,rfl,.inr (.inr rfl)⟩
theorem zib (g__law_take:Tk P w K mg base) (d:Df K mg "_law_far" zdu ["_law_pen"]):FnOk P w K mg base CX0 2 d.f d.fd ["_law_pen"] spFar:=by
 refine d.F.ok zdU (λvs H Q E h=>?_) (λcdv A outer s H vs Q E hr h=>?_)
 .obtain⟨p,n,rfl,_⟩:=h;rfl
 .obtain⟨p,n,rfl,hp,k⟩:=h
  refine⟨_,(zad (sE 1 zdU.nd (pC g__law_take hr (pa_N (pv 0) (pa_C zac zab))))
   (zad (ps_if (zav op_lt (pv 1) zac (zaq _))
   (zaf (zaj (pe_ix zat (zaA (pa_C zac (pa_B (pe_op zay (pC g__law_take hr (pa_N (pv 0) (pa_C zac zab))) zac) (pa_B (pe_op zay (pC g__law_take hr (pa_N (pv 0) (pa_C zac zab))) zac) zab)))) (pv 1) (λ_ _=>rfl))))
   zaw)
   (zaf (zaj (pe_op zaK (pe_op zay (pC g__law_take hr (pa_N (pv 0) (pa_B (pe_op zay (pe_op zaJ zac (pe_op zeU zac zac)) zac) zab))) (pe_op zeU zac zac)) zac))))),?_⟩
  refine⟨_,rfl,p,n+2,4,rfl,hp,by decide,zaD (by decide) (by decide),λr H1 h0 h4 b1 p1=>?_⟩;refine⟨_,rfl,_,_,rfl,rfl,_,rfl,?_⟩;refine ite2 (λhy=>?_) (λhn=>?_)
  .have h3:r<3:=of_decide_eq_true hy;refine⟨_,rfl,p,n+1,41,rfl,p1,by decide,zaD (by decide) (by decide),λr2 H2 x1 x2 b2 p2=>⟨_,_,rfl,rfl,?_⟩⟩;refine⟨_,rfl,p,n,2000001,rfl,p2,by decide,by decide +kernel,λr3 H3 y1 y2 b3 p3=>⟨_,_,rfl,rfl,three,λl hl=>?_⟩⟩;obtain⟨v,hv,hor⟩:=atI3 (a:=.int 0) (b:=.int (r2-20)) (c:=.int (r3-1000000)) h0 h3;refine⟨_,rfl,l,_,_,v,rfl,rfl,SqL.of zaa,hv,?_⟩;have fin:∀z:Int,-(2 ^ 104)<z/\z<2 ^ 104->Q (.int z) (upd H3 l (.lst [.int 0,.int (r2-20),.int (r3-1000000)])):=λz hz=>k z _ hz ((b1.trans (b2.trans b3)).trans (But.of (Same.up hl))) (p3.same (Same.up hl))
   rcases hor with z |z |z <;> rw[z] <;> exact fin _ (by lia)
  .refine⟨_,rfl,_,_,rfl,rfl,(by refine cpow ?_;decide),_,_,rfl,rfl,.inl ⟨by decide,by decide⟩,_,_,rfl,rfl,p,n+1,_,rfl,p1,(by decide),(by decide +kernel),λr2 H2 x1 x2 b2 p2=>?_⟩;refine⟨_,_,rfl,rfl,(by refine cpow ?_;decide),_,_,rfl,rfl,_,_,rfl,rfl,?_⟩;refine k _ _ ?_ (b1.trans b2) (p2.le (by lia))
   have x2':r2<2*10 ^ 30-799:=x2;show -(2 ^ 104)<r2-10 ^ 30+400/\r2-10 ^ 30+400<2 ^ 104;lia
noncomputable def ziD:Sp:=λvs H Q _=>∃(p:Addr) (n:Nat) (way x y wd hg:Int),vs=[.ref p,.int way,.int x,.int y,.int wd,.int hg]/\0<=way/\HasB H p (n+1)/\∀(b:Bool) (H':Hp),But H H' p->HasB H' p n->Q (.bl b) H'
theorem zd6 (T:Txt P w K mg) (g__law_take:Tk P w K mg base) (d:Df K mg "_law_is_there" zbM ["_law_pen", "_law_way", "_law_x", "_law_y", "_law_wide", "_law_high"]) :
  FnOk P w K mg base CX0 2 d.f d.fd ["_law_pen","_law_way","_law_x","_law_y","_law_wide","_law_high"] ziD:=by
 refine d.F.ok zdJ (λvs H Q E h=>?_) (λcdv A outer s H vs Q E hr h=>?_)
 .obtain⟨p,n,way,x,y,wd,hg,rfl,_⟩:=h;rfl
 .obtain⟨p,n,way,x,y,wd,hg,rfl,hw,hp,k⟩:=h
  refine⟨_,(zad (ps_if (zav op_eq (pv 1) zac (zaq _))
   (zaf (zaj pe_bl))
   zaw)
   (zad (ps_if (zav op_lt (pv 1) zac (zaq _))
   (zaf (zaj (zaQ op_lt (pC g__law_take hr (pa_N (pv 0) (zag (pe_ix zat (zaA (pa_C zac (pa_C zac (pa_C zac zab)))) (pe_op zay (pv 1) zac) (λ_ _=>rfl)) zab))) (pe_ix zat (zaA (pa_C zac (pa_C zac (pa_C zac zab)))) (pe_op zay (pv 1) zac) (λ_ _=>rfl)) (zaq _))))
   zaw)
   (zad (ps_if (zav op_eq (pv 1) zac (zaq _))
   (zaf (zaj (zaQ op_eq (pe_op zbY (zak (zjP rfl) (by rfl) T.nmin (by rfl) (pa_N (pv 2) (pa_N (pv 3) (pa_B (pe_op zay (pe_op zay (pv 4) zac) (pv 2)) (pa_B (pe_op zay (pe_op zay (pv 5) zac) (pv 3)) zab))))) zac) zac (zaq _))))
   zaw)
   (zaf (zaj (pe_or (zaQ op_eq (pe_op zbY (pe_op zaK (pv 2) (pv 3)) zac) zac (zaq _)) (zd2 (zaQ op_eq (pC g__law_take hr (pa_N (pv 0) (pa_C zac zab))) zac (zaq _))))))))),?_⟩
  have fin:∀b,Q (.bl b) H:=λb=>k b H (But.refl _ _) (hp.le (by lia))
  refine⟨_,rfl,rfl,_,rfl,?_⟩;refine ite2 (λ_=>fin _) (λhn0=>?_);refine⟨_,rfl,_,_,rfl,rfl,_,rfl,?_⟩;refine ite2 (λhy=>?_) (λ_=>?_)
  .have h4:way<4:=of_decide_eq_true hy;have hne:way≠0:=λz=>hn0 (by rw[z];rfl)
   refine⟨_,rfl,three,λl hl=>?_⟩;obtain⟨v,hv,hor⟩:=atI3 (a:=V.int 2) (b:=V.int 5) (c:=V.int 4) (n:=way-1) (by lia) (by lia)
   obtain⟨bb,rfl,hb0,hb1⟩:∃bb:Int,v=.int bb/\0<bb/\bb<=1000:=by
    rcases hor with z |z |z
    .exact⟨2,z,by decide,by decide⟩
    .exact⟨5,z,by decide,by decide⟩
    .exact⟨4,z,by decide,by decide⟩
   refine⟨_,rfl,_,_,rfl,rfl,l,_,_,_,rfl,rfl,SqL.of zaa,hv,p,n,bb,rfl,hp.same (Same.up hl),hb0,zaD hb0 hb1,λr H1 _ _ b1 p1=>?_⟩;refine⟨three,λl2 hl2=>?_⟩;obtain⟨v2,hv2,hor2⟩:=atI3 (a:=V.int 1) (b:=V.int 4) (c:=V.int 1) (n:=way-1) (by lia) (by lia)
   obtain⟨b2,rfl⟩:∃bb:Int,v2=.int bb:=by
    rcases hor2 with z |z |z
    .exact⟨1,z⟩
    .exact⟨4,z⟩
    .exact⟨1,z⟩
   refine⟨_,rfl,_,_,rfl,rfl,l2,_,_,_,rfl,rfl,SqL.of zaa,hv2,_,_,rfl,rfl,?_⟩;exact k _ _ (((But.of (Same.up hl)).trans b1).trans (But.of (Same.up hl2))) (p1.same (Same.up hl2))
  .refine⟨_,rfl,rfl,_,rfl,?_⟩;refine ite2 (λ_=>?_) (λ_=>?_)
   .refine⟨_,rfl,_,rfl,_,rfl,_,_,rfl,rfl,_,rfl,_,_,rfl,rfl,_,rfl,_,_,rfl,rfl,_,rfl,_,_,rfl,rfl,_,_,_,_,rfl,λz=>⟨_,_,rfl,rfl,(by show (0:Int)<2;decide),rfl,fin _⟩⟩
   .refine⟨_,rfl,_,rfl,_,_,rfl,rfl,_,_,rfl,rfl,(by show (0:Int)<2;decide),rfl,_,rfl,?_⟩;refine ite2 (λ_=>fin _) (λ_=>?_);refine⟨_,rfl,p,n,6,rfl,hp,by decide,zaD (by decide) (by decide),λr H1 _ _ b1 p1=>⟨rfl,k _ _ b1 p1⟩⟩
noncomputable def Bef(cs:List Cell)(x y:Int):Prop:=∀c∈cs,c.2<y∨(c.2=y/\c.1<x)
theorem InOrd.snoc{cs:List Cell}{x y:Int}(h:InOrd cs)(b:Bef cs x y):InOrd (cs++[(x,y)]):=λi c e h1 h2=>by
 have hi:i+1<(cs++[(x,y)]).length:=(Ab.mp h2).1;rw[Aj,Bv]at hi;rw[Am (by lia)]at h1;rcases A3 (i+1) cs.length with hl |hl
 .rw[Am hl]at h2;exact h i c e h1 h2
 .rw[Au hl,show i+1-cs.length=0 by lia]at h2
  cases h2
  have hb:=b c (Ag h1);rw[HT.lexLt_cons];rcases hb with z |⟨z1,z2⟩
  .rw[if_neg (by lia)];exact decide_eq_true z
  .rw[if_pos z1,HT.lexLt_cons,if_neg (by lia)];exact decide_eq_true z2
noncomputable def CellB(c:Cell):Prop:=(-(2 ^ 105)<c.1/\c.1<2 ^ 105)/\-(2 ^ 105)<c.2/\c.2<2 ^ 105
noncomputable def zfN(K:W.Frag):Sp:=λvs H Q _=>∃(p:Addr) (n m:Nat),vs=[.ref p,.int m]/\HasB H p (n+(20+m))/\1<=m/\m<=200 /\
 ∀(a:Addr) (cs:List Cell) (H':Hp),H a=none->But H H' p->HasB H' p n->(∃vs,H' a=some (.lst vs)/\VR vs cs cR H')->InOrd cs->Boxed m cs->cs.length<=m->(∀c∈cs,CellB c)->Q (.ref a) H'
theorem zev (T:Txt P w K mg) (g__law_take:Tk P w K mg base) (g__law_far:Fn P w K mg base 2 "_law_far" ["_law_pen"] spFar)
    (g__law_is_there:Fn P w K mg base 2 "_law_is_there" ["_law_pen","_law_way","_law_x","_law_y","_law_wide","_law_high"] ziD) (d:Df K mg "_law_picture" zb2 ["_law_pen","_law_most"]) :
    FnOk P w K mg base CX0 3 d.f d.fd ["_law_pen","_law_most"] (zfN K):=by
  refine d.F.ok zaE (λvs H Q E h=>?_) (λcdv A outer s H vs Q E hr h=>?_)
  . obtain⟨p,n,m,rfl,_⟩:=h;rfl
  . obtain⟨p,n,m,rfl,hp,hm1,hm,k⟩:=h
    refine⟨_,(zad (sE 2 zaE.nd (pe_op zaK zac (pC g__law_take hr (pa_N (pv 0) (zag (zhu (zav op_gt (pv 1) zac (zaq _)) (pe_ix zat (zaA (pa_C zac (pa_N (pv 1) zab))) (zbx zdj (by rfl) T.nint (by rfl) (zag (zaQ op_eq (pC g__law_take hr (pa_N (pv 0) (pa_C zac zab))) zac (zaq _)) zab)) (λ_ _=>rfl)) (pv 1)) zab)))))
      (zad (sE 3 zaE.nd (pe_op zaK zac (pC g__law_take hr (pa_N (pv 0) (pa_B (pe_op zhw (pv 1) (pv 2)) zab)))))
      (zad (sE 4 zaE.nd (pC g__law_take hr (pa_N (pv 0) (pa_C zac zab))))
      (zad (sE 5 zaE.nd (pC g__law_far hr (pa_N (pv 0) zab)))
      (zad (sE 6 zaE.nd (pC g__law_far hr (pa_N (pv 0) zab)))
      (zad (sE 7 zaE.nd (zaA zab))
      (zad (zbq AY rfl (zca (by rfl) T.nrange (pa_N (pv 3) zab)) (nG 8 zaE.nd)
      (zaf (zbq AY rfl (zca (by rfl) T.nrange (pa_N (pv 2) zab)) (nG 9 zaE.nd)
      (zaf (ps_if (zbA (pC g__law_is_there hr (pa_N (pv 0) (pa_N (pv 4) (pa_N (pv 9) (pa_N (pv 8) (pa_N (pv 2) (pa_N (pv 3) zab))))))))
      (zaf (zcA (pe_bm Bj BE BF zbP (pv 7) (pa_T (za8 (pa_B (pe_op zaK (pv 9) (pv 5)) (pa_B (pe_op zaK (pv 8) (pv 6)) zab))) zab))))
      zaw)))))
      (zaf (zaj (pv 7)))))))))),?_⟩
    refine zj4 (D:=λr H1=>0<=r/\r<m/\But H H1 p/\HasB H1 p (n+(18+m))) ?C (λshare=>?g) ?h
    case g =>
      refine⟨_,rfl,_,rfl,_,_,rfl,rfl,_,rfl,?_⟩;refine ite2 (λhy=>?_) (λhn=>?_)
      . have h12:(12:Int)<m:=of_decide_eq_true hy;refine⟨_,rfl,two,λl hl=>?_⟩;refine⟨_,rfl,p,n+(19+m),4,rfl,(hp.same (Same.up hl)).le (by lia),by decide,zaD (by decide) (by decide),λr H1 _ _ b1 p1=>?_⟩;refine⟨rfl,.inr ⟨_,rfl,?_⟩⟩;obtain⟨c0,t0,e0,_⟩:=hp;have hlp:l≠p:=λz=>by subst z;rw[e0]at hl;cases hl
        have l1:H1 l=some (.lst [.int 12,.int m]):=b1 _ _ hlp zaa
        obtain⟨v,hv,bb,rfl,hb0,hb1⟩:∃v,atI [V.int 12,V.int (m:Int)] (if decide (V.int r=V.int 0)=true then 1 else 0)=some v/\∃bb:Int,v=.int bb/\0<bb/\bb<=m:=by
          by_cases hz:decide (V.int r=V.int 0)=true
          . rw[if_pos hz];exact⟨_,rfl,m,rfl,by lia,by lia⟩
          . rw[if_neg hz];exact⟨_,rfl,12,rfl,by decide,by lia⟩
        refine⟨l,_,_,_,rfl,rfl,SqL.of l1,hv,p,n+(18+m),bb,rfl,p1.le (by lia),hb0,zaD hb0 (by lia),λr2 H2 h0 h2 b2 p2=>?_⟩;exact share r2 H2 ⟨h0,by lia,((But.of (Same.up hl)).trans b1).trans b2,p2⟩
      . refine⟨_,rfl,p,n+(18+m),m,rfl,hp.le (by lia),by lia,zaD (by lia) (by lia),λr2 H2 h0 h2 b2 p2=>?_⟩;exact share r2 H2 ⟨h0,h2,b2,p2⟩
    case h =>
      rintro r H1 ⟨h0,hrm,b1,p1⟩;refine⟨_,_,rfl,rfl,?_⟩;have hwd:0<1+r:=by lia
      obtain⟨W,hW⟩:∃W:Nat,(1+r:Int)=W:=⟨(1+r).toNat,by lia⟩;have hq1:1<=(m:Int) / (1+r):=Int.le_ediv_of_mul_le hwd (by lia);have hq2:(m:Int) / (1+r)<=m:=Int.ediv_le_self _ (by lia);have hq3:(1+r)*((m:Int) / (1+r))<=m:=Int.mul_ediv_self_le (by lia);refine⟨_,rfl,_,rfl,_,rfl,_,_,rfl,rfl,⟨hwd,zaD hwd (by lia)⟩,p,n+(17+m),_,rfl,p1.le (by lia),by lia,zaD (by lia) (by lia),λr2 H2 h20 h2 b2 p2=>⟨_,_,rfl,rfl,?_⟩⟩;obtain⟨G,hG⟩:∃G:Nat,(1+r2:Int)=G:=⟨(1+r2).toNat,by lia⟩
      have hWG:W*G<=m:=by
        have h1:(1+r)*(1+r2)<=(1+r)*((m:Int) / (1+r)):=Int.mul_le_mul_of_nonneg_left (by lia) (by lia);rw[hW,hG]at h1;rw[hW]at hq3
        have h2:((W*G:Nat):Int)<=m:=by rw[Int.natCast_mul];lia
        lia
      refine⟨_,rfl,p,n+(16+m),6,rfl,p2.le (by lia),by decide,zaD (by decide) (by decide),λr3 H3 h30 _ b3 p3=>?_⟩;refine⟨_,rfl,p,n+(13+m),rfl,p3.le (by lia),λdx H4 fx b4 p4=>?_⟩;refine⟨_,rfl,p,n+(10+m),rfl,p4.le (by lia),λdy H5 fy b5 p5=>?_⟩;refine⟨(by show 0<=sizeLine;decide),λq hq=>?_⟩;have b05:But H H5 p:=b1.trans (b2.trans (b3.trans (b4.trans b5)));have hq0:H q=none:=b05.free hp hq (p5.le (by lia))
      have hqp:q≠p:=λz=>by obtain⟨c0,t0,e0,_⟩:=hp;subst z;rw[e0]at hq0;cases hq0
      refine⟨_,rfl,1+r2,rfl,by lia,by lia,?_⟩;have hGn:(1+r2:Int).toNat=G:=by lia
      have hWn:(1+r:Int).toNat=W:=by lia
      rw[hGn]
      refine zbd (lo := 0) (n := G) (λi σ H6 => ∃o8 o9 cs vs, σ = [some (.ref p), some (.int m), some (.int (1 + r)), some (.int (1 + r2)), some (.int r3), some (.int dx), some (.int dy), some (.ref q), o8, o9] /\ But H H6 p /\ HasB H6 p (n + (m-W * i)) /\
          H6 q=some (.lst vs)/\VR vs cs cR H6/\InOrd cs/\(cs.length<=W*i/\(∀c∈cs,dx<=c.1/\c.1<dx+W/\dy<=c.2))/\Bef cs dx (dy+i))
        ⟨_,_,[],[],rfl,b05.trans (But.of (Same.up hq)),(p5.same (Same.up hq)).le (by lia),zaa,VR.nil,(λi c e h=>by simp at h),⟨AV _,λc hc=>by cases hc⟩,(λc hc=>by cases hc)⟩ ?_ ?_
      . rintro i σ H6 hi ⟨o8,o9,cs,vs,rfl,b6,p6,q6,hv,ho,hl,hbf⟩;have hWi:W*i+W<=W*G:=by rw[<- Nat.mul_succ];exact Nat.mul_le_mul_left _ hi
        refine⟨_,rfl,1+r,rfl,by lia,by lia,?_⟩;rw[hWn]
        refine zbd (lo := 0) (n := W) (λj σ H7 => ∃o9 cs vs, σ = [some (.ref p), some (.int m), some (.int (1 + r)), some (.int (1 + r2)), some (.int r3), some (.int dx), some (.int dy), some (.ref q), some (.int (0 + (i:Int))), o9] /\ But H H7 p /\ HasB H7 p (n + (m-(W * i + j))) /\
            H7 q=some (.lst vs)/\VR vs cs cR H7/\InOrd cs/\(cs.length<=W*i+j/\(∀c∈cs,dx<=c.1/\c.1<dx+W/\dy<=c.2))/\Bef cs (dx+j) (dy+i))
          ⟨_,cs,vs,rfl,b6,p6,q6,hv,ho,hl,by simpa using hbf⟩ ?_ ?_
        . rintro j σ H7 hj ⟨o9,cs,vs,rfl,b7,p7,q7,hv,ho,⟨hl,hbox⟩,hbf⟩;refine⟨_,rfl,_,rfl,_,rfl,_,rfl,_,rfl,_,rfl,p,n+(m-(W*i+j+1)),_,_,_,_,_,rfl,h30,p7.le (by lia),λb H8 b8 p8=>⟨_,rfl,?_⟩⟩;have q8:=b8 _ _ hqp q7;have kt8:=b8.kt p7;refine ite2 (λ_=>?_) (λ_=>?_)
          . have hvl:vs.length<=1000:=by rw[hv.1];lia
            refine⟨_,rfl,.inl ⟨rfl,_,SqL.of q8⟩,_,rfl,_,rfl,_,_,rfl,rfl,_,rfl,_,rfl,_,_,rfl,rfl,two,λa ha=>?_⟩;have haq:q≠a:=zao q8 ha;refine⟨q,vs,_,rfl,rfl,(by rw[zam haq];exact q8),zal hvl,?_⟩
            have hap:a≠p:=λz=>by obtain⟨c0,t0,e0,_⟩:=p8;subst z;rw[e0]at ha;cases ha
            obtain⟨nc,hnc⟩:∃nc:Cell,nc=(dx+(j:Int),dy+(i:Int)):=⟨_,rfl⟩
            have hcell:[V.int (0+(j:Int)+dx),V.int (0+(i:Int)+dy)]=cellT nc:=by rw[hnc];unfold cellT;rw[show 0+(j:Int)+dx=dx+j by lia,show 0+(i:Int)+dy=dy+i by lia]
            rw[hcell];have k2:KT (upd H8 a (.tup (cellT nc))) (upd (upd H8 a (.tup (cellT nc))) q (.lst (vs++[.ref a]))):=KT.lst (xs:=vs) (by rw[zam haq];exact q8);refine⟨_,cs++[nc],vs++[.ref a],rfl,(λz o hz h=>?_),?_,zaa,?_,?_,?_,?_⟩
            . rw[zam (zao h hq0)];exact Same.up ha _ _ (b8 _ _ hz (b7 _ _ hz h))
            . obtain⟨c0,t0,e0,h1,h2⟩:=p8;refine⟨c0,t0,?_,h1,by lia⟩;rw[zam (By hqp),zam (By hap)];exact e0
            . exact hv.snoc (λx v hx=>hx.kt (kt8.trans ((KT.up ha).trans k2))) ⟨a,rfl,k2 _ _ zaa⟩
            . rw[hnc];exact ho.snoc hbf
            . refine⟨by rw[Aj,Bv];lia,λc hc=>?_⟩;rcases Ba.mp hc with z |z
              . exact hbox c z
              . rw[AN.mp z,hnc];exact⟨by show dx<=dx+(j:Int);lia,by show dx+(j:Int)<dx+(W:Int);lia,by show dy<=dy+(i:Int);lia⟩
            . intro c hc;rcases Ba.mp hc with z |z
              . rcases hbf c z with y |⟨y1,y2⟩
                . exact .inl y
                . exact .inr ⟨y1,by lia⟩
              . rw[AN.mp z,hnc];exact .inr ⟨rfl,by show dx+(j:Int)<dx+((j+1:Nat):Int);lia⟩
          . refine⟨_,cs,vs,rfl,b7.trans b8,p8.le (by lia),q8,hv.mono λx v hx=>hx.kt kt8,ho,⟨by lia,hbox⟩,λc hc=>?_⟩;rcases hbf c hc with y |⟨y1,y2⟩
            . exact .inl y
            . exact .inr ⟨y1,by lia⟩
        . rintro σ H7 ⟨o9,cs,vs,rfl,b7,p7,q7,hv,ho,⟨hl,hbox⟩,hbf⟩;refine⟨_,_,cs,vs,rfl,b7,?_,q7,hv,ho,⟨by rw[Nat.mul_succ];exact hl,hbox⟩,λc hc=>?_⟩
          . rw[Nat.mul_succ];exact p7
          . rcases hbf c hc with y |⟨y1,y2⟩
            . exact .inl (by lia)
            . exact .inl (by lia)
      . rintro σ H6 ⟨o8,o9,cs,vs,rfl,b6,p6,q6,hv,ho,⟨hl,hbox⟩,hbf⟩
        have hcell:∀c∈cs,dx<=c.1/\c.1<dx+W/\dy<=c.2/\c.2<dy+G:=λc hc=>by
          obtain⟨x1,x2,x3⟩:=hbox c hc;refine⟨x1,x2,x3,?_⟩;rcases hbf c hc with y |⟨y1,y2⟩
          . exact y
          . lia
        refine⟨_,rfl,k q cs H6 hq0 b6 (p6.le (by lia)) ⟨_,q6,hv⟩ ho ⟨dx,dy,W,G,hWG,hcell⟩ (by lia) λc hc=>?_⟩;obtain⟨x1,x2,x3,x4⟩:=hcell c hc;have hW2:W<=200:=by lia
        have hG2:G<=200:=by lia
        unfold CellB;lia
noncomputable def zaH(c:Cell):List Nat->List Cell
 |[]=>[c]
 |s::ss=>c::zaH (go c s) ss
noncomputable def endC(c:Cell)(l:List Nat):Cell:=l.foldl go c
theorem zdm:∀(l:List Nat) (c:Cell) (s:Nat),zaH c (l++[s])=zaH c l++[go (endC c l) s]
 |[],c,s=>rfl
 |x::l,c,s=>by
  show c::zaH (go c x) (l++[s])=(c::zaH (go c x) l)++[go (endC (go c x) l) s];rw[zdm l (go c x) s];rfl
theorem zgb(l:List Nat)(c:Cell)(s:Nat):endC c (l++[s])=go (endC c l) s:=by unfold endC;rw[List.foldl_append];rfl
theorem zbS:∀(l:List Nat) (c:Cell),(zaH c l).length=l.length+1
 |[],_=>rfl
 |x::l,c=>by show (zaH (go c x) l).length+1=_;rw[zbS l];rfl
theorem zeP:∀(l:List Nat) (c:Cell),(zaH c l).getLast?=some (endC c l)
 |[],_=>rfl
 |x::l,c=>by
  show (c::zaH (go c x) l).getLast?=some (endC (go c x) l);rw[List.getLast?_cons,zeP l (go c x)];rfl
theorem mv_bd{s:Nat}(hs:s<8):(-1<=(mv s).1/\(mv s).1<=1)/\-1<=(mv s).2/\(mv s).2<=1:=by
 have:s=0∨s=1∨s=2∨s=3∨s=4∨s=5∨s=6∨s=7:=by lia
 rcases this with rfl |rfl |rfl |rfl |rfl |rfl |rfl |rfl <;> decide
noncomputable def Nr(c0:Cell)(k:Int)(z:Cell):Prop:=(-k<=z.1-c0.1/\z.1-c0.1<=k)/\-k<=z.2-c0.2/\z.2-c0.2<=k
theorem zhe:∀(l:List Nat) (c:Cell),(∀s∈l,s<8)->∀z∈zaH c l,Nr c l.length z
 |[],c,_,z,hz=>by
  have:z=c:=by simpa[zaH]using hz
  subst this;unfold Nr;simp
 |s::l,c,h,z,hz=>by
  rcases At.mp hz with rfl |hz
  .unfold Nr;rw[AO];lia
  .have:=zhe l (go c s) (λt ht=>h t (Ao _ ht)) z hz;have hm:=mv_bd (h s Ay);have e1:(go c s).1=c.1+(mv s).1:=rfl;have e2:(go c s).2=c.2+(mv s).2:=rfl;unfold Nr at this ⊢;rw[e1,e2]at this;rw[AO];lia
noncomputable def Flk(sp:List Cell):Prop:=∃c0,∀z∈sp,Nr c0 500 z
noncomputable def Df1(a b:Cell):Prop:=(-1000<=a.1-b.1/\a.1-b.1<=1000)/\-1000<=a.2-b.2/\a.2-b.2<=1000
theorem Flk.df{sp:List Cell}(h:Flk sp){a b:Cell}(ha:a∈sp)(hb:b∈sp):Df1 a b:=by obtain⟨c0,h⟩:=h;have h1:=h a ha;have h2:=h b hb;unfold Nr at h1 h2;unfold Df1;lia
noncomputable def spo(r:Rnd):List Cell:=zaH (r.x,r.y) r.row.dropLast
theorem zaG(r:Rnd):(spo r).length=r.row.length-1+1:=by unfold spo;rw[zbS,Bn]
theorem ziC{r:Rnd}(h8:∀s∈r.row,s<8)(hl:r.row.length<=480):Flk (spo r):=⟨(r.x,r.y),λz hz=>by have:=zhe _ _ (λs hs=>h8 s (List.dropLast_subset _ hs)) z hz;rw[Bn]at this;unfold Nr at this ⊢;lia⟩
noncomputable def alg(s a b:Cell):Int:=(a.1-s.1)*(b.1-s.1)+(a.2-s.2)*(b.2-s.2)
noncomputable def acr(s a b:Cell):Int:=(a.1-s.1)*(b.2-s.2)-(a.2-s.2)*(b.1-s.1)
noncomputable def clo(c s e:Cell)(B:Int):Bool:=if alg s e c<=0 then decide (alg s c c<=B) else if alg e s c<=0 then decide (alg e c c<=B) else decide (acr s e c ^ 2<=B*alg s e e)
theorem zdd{a b m n:Int}(h1:-m<=a)(h2:a<=m)(h3:-n<=b)(h4:b<=n):-(m*n)<=a*b/\a*b<=m*n:=by
 have hm:0<=m:=by lia
 have hn:0<=n:=by lia
 have k1:(a*b).natAbs<=(m*n).natAbs:=by rw[Int.natAbs_mul,Int.natAbs_mul];exact Nat.mul_le_mul (by lia) (by lia)
 have k2:0<=m*n:=CO hm hn;lia
theorem zkZ{s a b:Cell}(h1:Df1 a s)(h2:Df1 b s):-2000000<=alg s a b/\alg s a b<=2000000:=by unfold alg;have k1:=zdd h1.1.1 h1.1.2 h2.1.1 h2.1.2;have k2:=zdd h1.2.1 h1.2.2 h2.2.1 h2.2.2;lia
theorem zk1{s a b:Cell}(h1:Df1 a s)(h2:Df1 b s):-2000000<=acr s a b/\acr s a b<=2000000:=by unfold acr;have k1:=zdd h1.1.1 h1.1.2 h2.2.1 h2.2.2;have k2:=zdd h1.2.1 h1.2.2 h2.1.1 h2.1.2;lia
noncomputable def lfar(c s e:Cell):Int:=(c.1-s.1)*(e.1-s.1)+(c.2-s.2)*(e.2-s.2)
noncomputable def llong(s e:Cell):Int:=(e.1-s.1)*(e.1-s.1)+(e.2-s.2)*(e.2-s.2)
noncomputable def lx(c s e:Cell):Int:=(c.1-s.1)*llong s e-lfar c s e*(e.1-s.1)
noncomputable def ly(c s e:Cell):Int:=(c.2-s.2)*llong s e-lfar c s e*(e.2-s.2)
theorem zkw(c s e:Cell):lx c s e*lx c s e+ly c s e*ly c s e=llong s e*acr s e c ^ 2:=by
 unfold lx ly lfar llong acr
 grind
theorem zk0(c s e:Cell):acr s e c ^ 2=llong s e*alg s c c-lfar c s e*lfar c s e:=by
 unfold acr llong alg lfar
 grind
theorem zlV(c s e:Cell):alg e c c=alg s c c-2*lfar c s e+llong s e:=by
 unfold alg lfar llong
 grind
theorem zkz(c s e:Cell):alg e s c=llong s e-lfar c s e:=by
 unfold alg lfar llong
 grind
theorem zlU(c s e:Cell):alg s e c=lfar c s e:=by
 unfold alg lfar
 grind
theorem zky(s e:Cell):alg s e e=llong s e:=rfl
theorem zks(s e:Cell):0<=llong s e:=by
 unfold llong
 have h:∀x:Int,0<=x*x:=λx=>by
  rcases Int.le_total 0 x with h |h
  .exact CO h h
  .have:=CO (show 0<=-x by lia) (show 0<=-x by lia)
   rwa [Int.neg_mul_neg]at this
 have:=h (e.1-s.1);have:=h (e.2-s.2);lia
theorem zdO{A B:Int}(h:A+B=0)(ha:0<=A)(hb:0<=B):A=0/\B=0:=by constructor <;> lia
theorem zig{s e:Cell}(h:llong s e=0):e=s:=by
 unfold llong at h
 have hs:∀x:Int,0<=x*x/\(x*x=0->x=0):=λx=>by
  refine⟨?_,λz=>by rcases Int.mul_eq_zero.mp z with q |q <;> exact q⟩;rcases Int.le_total 0 x with h |h
  .exact CO h h
  .have:=CO (show 0<=-x by lia) (show 0<=-x by lia)
   rwa [Int.neg_mul_neg]at this
 have h1:=hs (e.1-s.1);have h2:=hs (e.2-s.2);have z:=zdO h h1.1 h2.1;have z1:=h1.2 z.1;have z2:=h2.2 z.2;exact Prod.ext (by lia) (by lia)
theorem zjs(c s:Cell):lfar c s s=0:=by unfold lfar;grind
theorem zlP{c s e:Cell}{B:Int}(hL:0<llong s e):(lx c s e*lx c s e+ly c s e*ly c s e<=B*llong s e*llong s e) ↔ acr s e c ^ 2<=B*llong s e:=by rw[zkw,Int.mul_comm (B*llong s e) (llong s e)];exact Int.mul_le_mul_left hL
theorem zlQ(c s e:Cell)(B:Int) :
  (if llong s e=0∨lfar c s e<0 then decide (alg s c c<=B) else if llong s e<lfar c s e then decide (alg e c c<=B) else decide (lx c s e*lx c s e+ly c s e*ly c s e<=B*llong s e*llong s e))=clo c s e B:=by
 have hnn:=zks s e;unfold clo;rw[zlU c s e,zkz c s e,zky s e]
 by_cases h0:llong s e=0
 .rw[if_pos (.inl h0)];have:=zig h0;subst this;rw[zjs,if_pos (Int.le_refl _)]
 .have hL:0<llong s e:=by lia
  by_cases h1:lfar c s e<0
  .rw[if_pos (.inr h1),if_pos (by lia)]
  .rw[if_neg (by intro z;rcases z with z |z <;> lia)]
   by_cases h2:llong s e<lfar c s e
   .rw[if_pos h2,if_neg (by lia),if_pos (by lia)]
   .rw[if_neg h2];have hm:=zlP (c:=c) (B:=B) hL;have hm':decide (lx c s e*lx c s e+ly c s e*ly c s e<=B*llong s e*llong s e)=decide (acr s e c ^ 2<=B*llong s e):=decide_eq_decide.mpr hm;rw[hm']
    by_cases h3:lfar c s e<=0
    .rw[if_pos h3];have hz:lfar c s e=0:=by lia
     refine decide_eq_decide.mpr ?_
     rw[zk0 c s e,hz,Int.mul_zero,Int.sub_zero,Int.mul_comm B];exact Int.mul_le_mul_left hL
    .rw[if_neg h3]
     by_cases h4:llong s e-lfar c s e<=0
     .rw[if_pos h4];have hz:lfar c s e=llong s e:=by lia
      refine decide_eq_decide.mpr ?_
      rw[zk0 c s e,zlV c s e,hz,<- Int.mul_sub,Int.mul_comm B];refine (Int.mul_le_mul_left hL).trans ?_
      lia
     .rw[if_neg h4]
noncomputable def ziQ:Sp:=λvs H Q _=>∃(u v t:V) (s a b:Cell),vs=[u,v,t]/\cR s u H/\cR a v H/\cR b t H/\Df1 a s/\Q (.int (alg s a b)) H
noncomputable def ze7:Sp:=λvs H Q _=>∃(u v t:V) (s a b:Cell),vs=[u,v,t]/\cR s u H/\cR a v H/\cR b t H/\Df1 a s/\Q (.int (acr s a b)) H
theorem Df1.m1{a b:Cell}(h:Df1 a b):-(2 ^ 64)<a.1-b.1/\a.1-b.1<2 ^ 64:=by unfold Df1 at h;lia
theorem Df1.m2{a b:Cell}(h:Df1 a b):-(2 ^ 64)<a.2-b.2/\a.2-b.2<2 ^ 64:=by unfold Df1 at h;lia
theorem zko (d:Df K mg "along" zgD ["start","one","other"]):FnOk P w K mg base CX0 1 d.f d.fd ["start","one","other"] ziQ:=by
 refine d.F.ok zj9 (λvs H Q E h=>?_) (λcdv A outer s H vs Q E hr h=>?_)
 .obtain⟨u,v,t,s,a,b,rfl,_⟩:=h;rfl
 .obtain⟨u,v,t,s,a,b,rfl,⟨x,rfl,qx⟩,⟨y,rfl,qy⟩,⟨z,rfl,qz⟩,hd,k⟩:=h;refine⟨_,(zaf (zaj (pe_op zaK (pe_op zaJ (pe_op zay (pe_ix zap (pv 1) zac (λ_ _=>rfl)) (pe_ix zap (pv 0) zac (λ_ _=>rfl))) (pe_op zay (pe_ix zap (pv 2) zac (λ_ _=>rfl)) (pe_ix zap (pv 0) zac (λ_ _=>rfl)))) (pe_op zaJ (pe_op zay (pe_ix zap (pv 1) zac (λ_ _=>rfl)) (pe_ix zap (pv 0) zac (λ_ _=>rfl))) (pe_op zay (pe_ix zap (pv 2) zac (λ_ _=>rfl)) (pe_ix zap (pv 0) zac (λ_ _=>rfl))))))),?_⟩;refine⟨_,rfl,y,_,_,_,rfl,rfl,SqT.of qy,zah (j:=0) rfl,_,rfl,x,_,_,_,rfl,rfl,SqT.of qx,zah (j:=0) rfl,_,_,rfl,rfl,?_⟩;refine⟨_,rfl,z,_,_,_,rfl,rfl,SqT.of qz,zah (j:=0) rfl,_,rfl,x,_,_,_,rfl,rfl,SqT.of qx,zah (j:=0) rfl,_,_,rfl,rfl,_,_,rfl,rfl,.inl hd.m1,?_⟩;refine⟨_,rfl,y,_,_,_,rfl,rfl,SqT.of qy,zah (j:=1) rfl,_,rfl,x,_,_,_,rfl,rfl,SqT.of qx,zah (j:=1) rfl,_,_,rfl,rfl,?_⟩;refine⟨_,rfl,z,_,_,_,rfl,rfl,SqT.of qz,zah (j:=1) rfl,_,rfl,x,_,_,_,rfl,rfl,SqT.of qx,zah (j:=1) rfl,_,_,rfl,rfl,_,_,rfl,rfl,.inl hd.m2,?_⟩;exact⟨_,_,rfl,rfl,k⟩
theorem zjg (d:Df K mg "across" zff ["start","one","other"]):FnOk P w K mg base CX0 1 d.f d.fd ["start","one","other"] ze7:=by
 refine d.F.ok ziX (λvs H Q E h=>?_) (λcdv A outer s H vs Q E hr h=>?_)
 .obtain⟨u,v,t,s,a,b,rfl,_⟩:=h;rfl
 .obtain⟨u,v,t,s,a,b,rfl,⟨x,rfl,qx⟩,⟨y,rfl,qy⟩,⟨z,rfl,qz⟩,hd,k⟩:=h;refine⟨_,(zaf (zaj (pe_op zay (pe_op zaJ (pe_op zay (pe_ix zap (pv 1) zac (λ_ _=>rfl)) (pe_ix zap (pv 0) zac (λ_ _=>rfl))) (pe_op zay (pe_ix zap (pv 2) zac (λ_ _=>rfl)) (pe_ix zap (pv 0) zac (λ_ _=>rfl)))) (pe_op zaJ (pe_op zay (pe_ix zap (pv 1) zac (λ_ _=>rfl)) (pe_ix zap (pv 0) zac (λ_ _=>rfl))) (pe_op zay (pe_ix zap (pv 2) zac (λ_ _=>rfl)) (pe_ix zap (pv 0) zac (λ_ _=>rfl))))))),?_⟩;refine⟨_,rfl,y,_,_,_,rfl,rfl,SqT.of qy,zah (j:=0) rfl,_,rfl,x,_,_,_,rfl,rfl,SqT.of qx,zah (j:=0) rfl,_,_,rfl,rfl,?_⟩;refine⟨_,rfl,z,_,_,_,rfl,rfl,SqT.of qz,zah (j:=1) rfl,_,rfl,x,_,_,_,rfl,rfl,SqT.of qx,zah (j:=1) rfl,_,_,rfl,rfl,_,_,rfl,rfl,.inl hd.m1,?_⟩;refine⟨_,rfl,y,_,_,_,rfl,rfl,SqT.of qy,zah (j:=1) rfl,_,rfl,x,_,_,_,rfl,rfl,SqT.of qx,zah (j:=1) rfl,_,_,rfl,rfl,?_⟩;refine⟨_,rfl,z,_,_,_,rfl,rfl,SqT.of qz,zah (j:=0) rfl,_,rfl,x,_,_,_,rfl,rfl,SqT.of qx,zah (j:=0) rfl,_,_,rfl,rfl,_,_,rfl,rfl,.inl hd.m2,?_⟩;exact⟨_,_,rfl,rfl,k⟩
noncomputable def ziN(K:W.Frag):Sp:=λvs H Q _=>∃(u v t:V) (sd:Addr) (c s e:Cell) (B:Int),vs=[u,.ref sd,.int B]/\H sd=some (.tup [v,t])/\cR c u H/\cR s v H/\cR e t H/\Df1 c s/\Df1 c e/\Df1 e s/\Df1 s e/\0<=B/\B<=1000000/\Q (.bl (clo c s e B)) H
theorem zgQ (g_along:Fn P w K mg base 1 "along" ["start","one","other"] ziQ) (g_across:Fn P w K mg base 1 "across" ["start","one","other"] ze7) (d:Df K mg "is_close" zdr ["cell","side","bound"]):FnOk P w K mg base CX0 2 d.f d.fd ["cell","side","bound"] (ziN K):=by
 refine d.F.ok zcT (λvs H Q E h=>?_) (λcdv A outer s H vs Q E hr h=>?_)
 .obtain⟨u,v,t,sd,c,s,e,B,rfl,_⟩:=h;rfl
 .obtain⟨u,v,t,sd,c,s,e,B,rfl,hsd,hc,hs,he,d1,d2,d3,d4,b0,b1,k⟩:=h
  refine⟨_,(zad (zbX (pv 1) (zbr (by rfl) (zai (nG 3 zcT.nd) (zai (nG 4 zcT.nd) zaC))))
   (zad (ps_if (zav op_le (pC g_along hr (pa_N (pv 3) (pa_N (pv 4) (pa_N (pv 0) zab)))) zac (zaq _))
   (zaf (zaj (zaQ op_le (pC g_along hr (pa_N (pv 3) (pa_N (pv 0) (pa_N (pv 0) zab)))) (pv 2) (zaq _))))
   zaw)
   (zad (ps_if (zav op_le (pC g_along hr (pa_N (pv 4) (pa_N (pv 3) (pa_N (pv 0) zab)))) zac (zaq _))
   (zaf (zaj (zaQ op_le (pC g_along hr (pa_N (pv 4) (pa_N (pv 0) (pa_N (pv 0) zab)))) (pv 2) (zaq _))))
   zaw)
   (zaf (zaj (zaQ op_le (pe_op zeU (pC g_across hr (pa_N (pv 3) (pa_N (pv 4) (pa_N (pv 0) zab)))) zac) (pe_op zaJ (pv 2) (pC g_along hr (pa_N (pv 3) (pa_N (pv 4) (pa_N (pv 4) zab))))) (zaq _))))))),?_⟩
  refine⟨_,rfl,sd,_,rfl,SqT.of hsd,rfl,_,_,rfl,_,_,rfl,rfl,?_⟩;refine⟨_,rfl,_,rfl,_,rfl,v,t,u,s,e,c,rfl,hs,he,hc,d3,_,_,rfl,rfl,_,rfl,ite2 (λhy=>?_) (λhn=>?_)⟩
  .refine⟨_,rfl,_,rfl,_,rfl,v,u,u,s,c,c,rfl,hs,hc,hc,d1,_,rfl,_,_,rfl,rfl,?_⟩;rw[clo,if_pos (of_decide_eq_true hy)]at k;exact k
  .rw[clo,if_neg (λz=>hn (decide_eq_true z))]at k;refine⟨_,rfl,_,rfl,_,rfl,t,v,u,e,s,c,rfl,he,hs,hc,d4,_,_,rfl,rfl,_,rfl,ite2 (λhy=>?_) (λhn2=>?_)⟩
   .refine⟨_,rfl,_,rfl,_,rfl,t,u,u,e,c,c,rfl,he,hc,hc,d2,_,rfl,_,_,rfl,rfl,?_⟩;rw[if_pos (of_decide_eq_true hy)]at k;exact k
   .rw[if_neg (λz=>hn2 (decide_eq_true z))]at k;have hb:=zk1 d3 d1;refine⟨_,rfl,_,rfl,_,rfl,v,t,u,s,e,c,rfl,hs,he,hc,d3,_,_,rfl,rfl,⟨by decide,by decide,by lia⟩,?_⟩;exact⟨_,rfl,_,rfl,_,rfl,_,rfl,v,t,t,s,e,e,rfl,hs,he,he,d3,_,_,rfl,rfl,.inl ⟨by lia,by lia⟩,_,_,rfl,rfl,k⟩
noncomputable def zce(K:W.Frag):Sp:=λvs H Q _=>∃(v:V) (r:Rnd),vs=[v]/\rR r v H/\(∀s∈r.row,s<8)/\r.row.length<=480/\∀p H' us,H p=none->Same H H'->H' p=some (.lst us)->VR us (spo r) cR H'->Q (.ref p) H'
theorem zhO(row:List Nat):cutV (rowV row) none (some (-1))=rowV row.dropLast:=by
 unfold cutV rowV
 have e:∀n:Nat,HT.sIx n n (some (-1))=n-1:=λn=>by unfold HT.sIx;simp;lia
 rw[e,HT.sIx_none,List.drop_zero,Nat.sub_zero,<- List.map_take,Af,CH]
theorem zfH{A:Prop}{D:Addr->Hp->Prop}(C:Addr->Hp->Prop)(g:(∀n H1,D n H1->C n H1)->A)(h:∀n H1,D n H1->C n H1):A:=g h
theorem zgI (g_gone:Fn P w K mg base 1 "gone" ["x","y","step"] zfO) (d:Df K mg "spots_of" zdo ["one"]):FnOk P w K mg base CX0 2 d.f d.fd ["one"] (zce K):=by
 refine d.F.ok zaX (λvs H Q E h=>?_) (λcdv A outer s H vs Q E hr h=>?_)
 .obtain⟨v,r,rfl,_⟩:=h;rfl
 .obtain⟨v,r,rfl,⟨a,b,rfl,q1,q2⟩,h8,hlen,k⟩:=h
  refine⟨_,(zad (zbX (pv 0) (zbr (by rfl) (zai (nG 1 zaX.nd) (zai (nG 2 zaX.nd) (zai (nG 3 zaX.nd) (zai (nG 4 zaX.nd) zaC))))))
   (zad (sE 5 zaX.nd (zaA (pa_T (za8 (pa_N (pv 2) (pa_N (pv 3) zab))) zab)))
   (zad (zbq AY rfl (zi8 (zax ziT (pv 4) zaN (zaI (pe_un zct zac)))) (nG 6 zaX.nd)
   (zad (zbX (pC g_gone hr (pa_N (pv 2) (pa_N (pv 3) (pa_N (pv 6) zab)))) (zbr (by rfl) (zai (nG 2 zaX.nd) (zai (nG 3 zaX.nd) zaC))))
   (zaf (zcA (pe_bm Bj BE BF zbP (pv 5) (pa_T (za8 (pa_N (pv 2) (pa_N (pv 3) zab))) zab))))))
   (zaf (zaj (pv 5)))))),?_⟩
  refine⟨_,rfl,a,_,rfl,SqT.of q1,rfl,_,_,rfl,_,_,rfl,_,_,rfl,_,_,rfl,rfl,?_⟩;refine⟨_,rfl,_,rfl,two,λt1 h1=>?_⟩;have s1:=Same.up (o:=.tup [.int r.x,.int r.y]) h1;have e1:upd H t1 (.tup [.int r.x,.int r.y]) t1=some (.tup [.int r.x,.int r.y]):=zaa;generalize upd H t1 (.tup [.int r.x,.int r.y])=H1 at s1 e1;refine⟨(by show 1<=sizeLine;decide),λl hl=>?_⟩;have s2:=Same.up (o:=.lst [.ref t1]) hl;have e2:upd H1 l (.lst [.ref t1]) l=some (.lst [.ref t1]):=zaa;generalize upd H1 l (.lst [.ref t1])=H2 at s2 e2;have s12:=s1.trans s2;have hl0:H l=none:=s1.free hl;have hv2:VR [V.ref t1] (zaH (r.x,r.y) (r.row.dropLast.take 0)) cR H2:=VR.cons.mpr ⟨⟨t1,rfl,s2 _ _ e1⟩,VR.nil⟩;refine zfH (D:=λb' H3=>Same H2 H3/\H3 b'=some (.tup (rowV r.row.dropLast))) ?C (λmain=>⟨_,rfl,_,rfl,_,rfl,b,_,rfl,SqT.of (s12 _ _ q2),?w1,?w2⟩) ?h
  case w2 =>
   intro hw b' hb';have s3:=Same.up (o:=.tup (cutV (rowV r.row) none (some (-1)))) hb';have e3:upd H2 b' (.tup (cutV (rowV r.row) none (some (-1)))) b'=some (.tup (cutV (rowV r.row) none (some (-1)))):=zaa;generalize upd H2 b' (.tup (cutV (rowV r.row) none (some (-1))))=H3 at s3 e3 ⊢;rw[zhO]at e3;exact main b' H3 ⟨s3,e3⟩
  case w1 =>
   intro hw;refine main b H2 ⟨Same.refl _,?_⟩
   have h0:r.row.dropLast=r.row:=by
    have h2:=hw.2;unfold HT.sIx rowV at h2;simp only[Af]at h2
    have:r.row.length=0:=by rw[if_pos (by decide)]at h2;lia
    rw[List.length_eq_zero_iff.mp this];rfl
   rw[h0];exact s12 _ _ q2
  rintro b' H3 ⟨s3,hb'⟩;refine⟨b',rfl,⟨_,SqT.of hb'⟩,?_⟩
  refine zgY (K:=K) (a:=b') (xs:=rowV r.row.dropLast) (λj σ H4=>∃o6,σ=[some (.ref a),some (.str r.so),some (.int (endC (r.x,r.y) (r.row.dropLast.take j)).1),some (.int (endC (r.x,r.y) (r.row.dropLast.take j)).2),some (.ref b),some (.ref l),o6]/\Same H H4/\KT H3 H4/\∃us,H4 l=some (.lst us)/\VR us (zaH (r.x,r.y) (r.row.dropLast.take j)) cR H4)
   ⟨_,rfl,s12.trans s3,KT.refl _,_,s3 _ _ e2,hv2.mono λx v h=>h.kt (KT.of s3)⟩ (λj σ H4 _ ⟨_,_,_,k4,us,e4,_⟩=>SqT.of (k4 _ _ hb')) ?_ ?_
  .rintro j v σ H4 hj ⟨o6,rfl,s4,k4,us,e4,hv4⟩;unfold rowV at hj;rw[Az]at hj;obtain⟨n,hn,rfl⟩:=Bg.mp hj;have hjl:j<r.row.dropLast.length:=(Ab.mp hn).1;rw[Bn]at hjl;have hul:us.length<=481:=by rw[hv4.1,zbS,Aq,Bn];lia
   refine⟨_,rfl,_,rfl,_,rfl,endC (r.x,r.y) (r.row.dropLast.take j),n,rfl,h8 n (List.dropLast_subset _ (Ag hn)),λt H5 ht s5 e5=>?_⟩;refine⟨t,_,rfl,SqT.of e5,rfl,_,_,rfl,_,_,rfl,rfl,?_⟩;have e45:=s5 _ _ e4;refine⟨_,rfl,.inl ⟨rfl,_,SqL.of e45⟩,_,rfl,_,rfl,two,λt6 h6=>?_⟩;have s6:=Same.up (o:=.tup [.int (go (endC (r.x,r.y) (r.row.dropLast.take j)) n).1,.int (go (endC (r.x,r.y) (r.row.dropLast.take j)) n).2]) h6;have r6:cR (go (endC (r.x,r.y) (r.row.dropLast.take j)) n) (.ref t6) (upd H5 t6 (.tup [.int (go (endC (r.x,r.y) (r.row.dropLast.take j)) n).1,.int (go (endC (r.x,r.y) (r.row.dropLast.take j)) n).2])):=⟨t6,rfl,zaa⟩;generalize upd H5 t6 (.tup [.int (go (endC (r.x,r.y) (r.row.dropLast.take j)) n).1,.int (go (endC (r.x,r.y) (r.row.dropLast.take j)) n).2])=H6 at s6 r6;have e6:=s6 _ _ e45;refine⟨l,us,_,rfl,rfl,e6,zal (by lia),?_⟩;rw[zau hn,zgb,zdm];exact⟨_,rfl,zas hl0 (s4.trans (s5.trans s6)),(k4.trans (KT.of (s5.trans s6))).trans (KT.lst e6),_,zaa,hv4.snoc (λx v h=>(h.kt (KT.of (s5.trans s6))).kt (KT.lst e6)) (r6.kt (KT.lst e6))⟩
  .rintro σ H4 ⟨o6,rfl,s4,k4,us,e4,hv4⟩;rw[show (rowV r.row.dropLast).length=r.row.dropLast.length by unfold rowV;rw[Af],AX]at hv4;exact⟨_,rfl,k l H4 us hl0 s4 e4 hv4⟩
theorem VR.drop{α:Type}{vs:List V}{l:List α}{R:α->V->Hp->Prop}{H:Hp}(h:VR vs l R H)(j:Nat):VR (vs.drop j) (l.drop j) R H:=by refine⟨by rw[AE,AE,h.1],λi x v h1 h2=>?_⟩;rw[Bq]at h1 h2;exact h.2 _ x v h1 h2
theorem VR.take{α:Type}{vs:List V}{l:List α}{R:α->V->Hp->Prop}{H:Hp}(h:VR vs l R H)(j:Nat):VR (vs.take j) (l.take j) R H:=by
 refine⟨by rw[Aq,Aq,h.1],λi x v h1 h2=>?_⟩;rw[De]at h1 h2;split at h1
 .rw[if_pos (by assumption)]at h2;exact h.2 _ x v h1 h2
 .cases h1
noncomputable def pR(p:Nat×Nat)(v:V)(H:Hp):Prop:=∃b,v=.ref b/\H b=some (.tup [.int p.1,.int p.2])
noncomputable def nxs(ks:List Nat)(n:Nat):List Nat:=ks.drop 1++[n]
theorem zbG{ks:List Nat}(h:ks≠[])(n:Nat):(nxs ks n).length=ks.length:=by
 cases ks with
 |nil=>exact absurd rfl h
 |cons a l=>simp[nxs]
noncomputable def Good(ks:List Nat)(n:Nat):Prop:=ks≠[]/\ks.length<=481/\∀(m:Nat) i j,ks[m]?=some i->(nxs ks n)[m]?=some j->i<j/\j<=n
noncomputable def Str1(sp:List Cell)(B:Int)(i j:Nat):Prop:=∀t,i<t->t<j->clo (sp.getD t (0,0)) (sp.getD i (0,0)) (sp.getD (j % sp.length) (0,0)) B=true
noncomputable def Near(sp:List Cell)(B:Int)(ks:List Nat):Prop:=∀(m:Nat) i j,ks[m]?=some i->(nxs ks sp.length)[m]?=some j->Str1 sp B i j
theorem za3{α:Type}{l:List α}{i:Nat}{d:α}(h:i<l.length):l.getD i d∈l:=by unfold List.getD;rw[Aa h];exact AU h
theorem getD_some{α:Type}{l:List α}{i:Nat}{d:α}(h:i<l.length):l[i]?=some (l.getD i d):=by unfold List.getD;rw[Aa h];rfl
theorem zlO{sp:List Cell}{i j:Nat}(hj:j<=sp.length)(f:Cell->Bool):(((sp.drop (i+1)).take (j-(i+1))).map f).all id=true ↔ ∀t,i<t->t<j->f (sp.getD t (0,0))=true:=by
 rw[Cr];constructor
 .intro h t h1 h2;refine h _ (AL.mpr ⟨_,Ag (i:=t-(i+1)) ?_,rfl⟩);rw[De,if_pos (by lia),Bq,show i+1+(t-(i+1))=t by lia];exact getD_some (by lia)
 .intro h b hb;obtain⟨c,hc,rfl⟩:=AL.mp hb;obtain⟨m,hm⟩:=List.getElem?_of_mem hc;rw[De]at hm;split at hm
  .rw[Bq]at hm;have hl:=(Ab.mp hm).1;have:=h (i+1+m) (by lia) (by lia);rw[getD_some (d:=(0,0)) hl]at hm
   cases hm
   exact this
  .cases hm
theorem zlN{us:List V}{i j:Nat}(h1:i+1<=us.length)(h2:j<=us.length):cutV us (some ((i:Int)+1)) (some (j:Int))=(us.drop (i+1)).take (j-(i+1)):=by unfold cutV;rw[show (i:Int)+1=((i+1:Nat):Int) by lia,HT.sIx_nat,HT.sIx_nat,Nat.min_eq_left h1,Nat.min_eq_left h2]
noncomputable def ziJ(K:W.Frag):Sp:=λvs H Q _=>∃(a kc:Addr) (us:List V) (ks:List Nat),vs=[.ref a,.ref kc]/\SqL K H a us/\SqL K H kc (rowV ks)/\ks≠[]/\ks.length<=481 /\
 ∀S H' ts,H S=none->Same H H'->H' S=some (.lst ts)->VR ts (ks.zip (nxs ks us.length)) pR H'->Q (.ref S) H'
theorem zid (T:Txt P w K mg) (d:Df K mg "ends_of" zdY ["spots","corners"]):FnOk P w K mg base CX0 1 d.f d.fd ["spots","corners"] (ziJ K):=by
 refine d.F.ok zh6 (λvs H Q E h=>?_) (λcdv A outer s H vs Q E hr h=>?_)
 .obtain⟨a,kc,us,ks,rfl,_⟩:=h;rfl
 .obtain⟨a,kc,us,ks,rfl,ha,hk,hne,hlen,k⟩:=h;have hpos:0<ks.length:=Bf.mpr hne;have hrl:(rowV ks).length=ks.length:=by unfold rowV;rw[Af]
  refine⟨_,(zaf (zaj (zh9 (by rfl) T.nlist (by rfl) T.nzip (pa_N (pv 1) (pa_B (pe_op za5 (zax zaP (pv 1) (zaI zac) zaN) (zaA (zag (zak zan (by rfl) T.nlen (by rfl) (pa_N (pv 0) zab)) zab))) zab))))),?_⟩;refine⟨_,rfl,_,rfl,_,rfl,kc,_,rfl,hk,λp hp=>?_⟩;have s1:=Same.up (o:=.lst (cutV (rowV ks) (some 1) none)) hp;have e1:upd H p (.lst (cutV (rowV ks) (some 1) none)) p=some (.lst (cutV (rowV ks) (some 1) none)):=zaa;generalize upd H p (.lst (cutV (rowV ks) (some 1) none))=H1 at s1 e1 ⊢;rw[show cutV (rowV ks) (some 1) none=(rowV ks).drop 1 from zcN _ (j:=1) (by rw[hrl];lia)]at e1;refine⟨_,rfl,a,_,rfl,.inl (s1.seq ha),(by show 1<=sizeLine;decide),λl hl=>?_⟩;have s2:=Same.up (o:=.lst [.int us.length]) hl;have e2:upd H1 l (.lst [.int us.length]) l=some (.lst [.int us.length]):=zaa;generalize upd H1 l (.lst [.int us.length])=H2 at s2 e2 ⊢;refine⟨p,l,_,_,rfl,rfl,s2 _ _ e1,e2,Bc (zal (by rw[AE,hrl];simp;lia)),λz hz=>?_⟩;have s3:=Same.up (o:=.lst ((rowV ks).drop 1++[.int us.length])) hz;have e3:upd H2 z (.lst ((rowV ks).drop 1++[.int us.length])) z=some (.lst ((rowV ks).drop 1++[.int us.length])):=zaa;generalize upd H2 z (.lst ((rowV ks).drop 1++[.int us.length]))=H3 at s3 e3 ⊢;have s03:=s1.trans (s2.trans s3)
  have en:(rowV ks).drop 1++[V.int us.length]=rowV (nxs ks us.length):=by unfold rowV nxs;rw[Ax,List.map_drop];rfl
  rw[en]at e3
  have hl2:(rowV ks).length=(rowV (nxs ks us.length)).length:=by unfold rowV;rw[Af,Af,zbG hne]
  refine⟨kc,z,_,_,rfl,s03.seq hk,SqL.of e3,hl2,by rw[hrl];lia,λS H' ts hS hk' e' hp'=>?_⟩;refine k S H' ts (s03.free hS) (s03.trans hk') e' ⟨by rw[hp'.1,C8,hrl,zbG hne,Nat.min_self],λi x v h1 h2=>?_⟩;obtain⟨t,x1,y1,rfl,q1,q2,q3⟩:=hp'.2 i v h2;rw[A6]at h1;unfold rowV at q1 q2;rw[Az,h1.1]at q1;rw[Az,h1.2]at q2
  cases q1
  cases q2
  exact⟨t,rfl,q3⟩
noncomputable def ziH(K:W.Frag):Sp:=λvs H Q _=>∃(a:Addr) (us:List V) (i j:Nat) (u v:V),vs=[.ref a,.int i,.int j]/\SqL K H a us/\us[i]?=some u/\us[j % us.length]?=some v/\0<us.length/\∀p,H p=none->Q (.ref p) (upd H p (.tup [u,v]))
theorem zd4 (T:Txt P w K mg) (d:Df K mg "side_between" zbZ ["spots","start","end"]):FnOk P w K mg base CX0 1 d.f d.fd ["spots","start","end"] (ziH K):=by
 refine d.F.ok zdT (λvs H Q E h=>?_) (λcdv A outer s H vs Q E hr h=>?_)
 .obtain⟨a,us,i,j,u,v,rfl,_⟩:=h;rfl
 .obtain⟨a,us,i,j,u,v,rfl,ha,hi,hj,hpos,k⟩:=h;refine⟨_,(zaf (zaj (za8 (zag (pe_ix zat (pv 0) (pv 1) (λ_ _=>rfl)) (zag (pe_ix zat (pv 0) (pe_op zbY (pv 2) (zak zan (by rfl) T.nlen (by rfl) (pa_N (pv 0) zab))) (λ_ _=>rfl)) zab))))),?_⟩;refine⟨_,rfl,_,rfl,a,_,_,_,rfl,rfl,ha,zah hi,?_⟩;refine⟨_,rfl,_,rfl,_,rfl,a,_,rfl,.inl ha,_,_,rfl,rfl,(by show (0:Int)<us.length;lia),a,_,_,_,rfl,rfl,ha,(by rw[<- Int.natCast_emod];exact zah hj),two,λp hp=>k p hp⟩
noncomputable def zfL(K:W.Frag):Sp:=λvs H Q _=>∃(a:Addr) (us:List V) (sp:List Cell) (B:Int) (i j:Nat),vs=[.ref a,.int B,.int i,.int j]/\SqL K H a us/\VR us sp cR H/\Flk sp/\sp.length<=481/\i<j/\j<=sp.length/\0<=B/\B<=1000000 /\
 ∀b H',Same H H'->(b=true ↔ Str1 sp B i j)->Q (.bl b) H'
theorem zdc (T:Txt P w K mg) (g_side_between:Fn P w K mg base 1 "side_between" ["spots", "start", "end"] (ziH K)) (g_is_close:Fn P w K mg base 2 "is_close" ["cell", "side", "bound"] (ziN K))
  (d:Df K mg "is_stretch_near" za7 ["spots","bound","start","end"]):FnOk P w K mg base CX0 3 d.f d.fd ["spots","bound","start","end"] (zfL K):=by
 refine d.F.ok zbU (λvs H Q E h=>?_) (λcdv A outer s H vs Q E hr h=>?_)
 .obtain⟨a,us,sp,B,i,j,rfl,_⟩:=h;rfl
 .obtain⟨a,us,sp,B,i,j,rfl,ha,hv,hf,hlen,hij,hj,b0,b1,k⟩:=h;have nb0:(["cell","side","bound"]:List Str).Nodup:=by decide +kernel
  refine⟨_,(zad (zda (i:=4) zbU.nd (by rfl) (Or.inr rfl) (pC g_side_between hr (pa_N (pv 0) (pa_N (pv 2) (pa_N (pv 3) zab)))))
   (zaf (zaj (zak (zbz rfl) (by rfl) T.nall (by rfl) (zag (zaF (osc:=zae za7) (N:=zcd) (N':=["cell","side","bound"]) (sel:=[none,some 4,some 1]) bO (zaM (zax zaP (pv 0) (zaI (pe_op zaK (pv 2) zac)) (zaI (pv 3)))) (λ_ _ _ _ _=>(nG 0 nb0)) (λ_ _ _ _ _=>zaL) (λ_ _ _ _ _=>(pC g_is_close hr (pa_N (pv 0) (pa_N (pv 1) (pa_N (pv 2) zab)))))) zab))))),?_⟩
  have hul:=hv.1;have hi:i<sp.length:=by lia
  have hm:j % sp.length<sp.length:=Nat.mod_lt _ (by lia);have hm':j % us.length<us.length:=by rw[hul];exact hm
  obtain⟨u,hu⟩:∃u,us[i]?=some u:=⟨_,Aa (by lia)⟩;obtain⟨v,hw⟩:∃v,us[j % us.length]?=some v:=⟨_,Aa hm'⟩;have hcu:cR (sp.getD i (0,0)) u H:=hv.2 i _ u (getD_some hi) hu;have hcv:cR (sp.getD (j % sp.length) (0,0)) v H:=hv.2 _ _ v (getD_some hm) (by rw[<- hul];exact hw);refine⟨_,rfl,_,rfl,_,rfl,a,us,i,j,u,v,rfl,ha,hu,hw,by lia,λp hp=>?_⟩;have s1:=Same.up (o:=.tup [u,v]) hp;have e1:upd H p (.tup [u,v]) p=some (.tup [u,v]):=zaa;generalize upd H p (.tup [u,v])=H1 at s1 e1 ⊢;refine⟨_,rfl,_,rfl,_,_,rfl,rfl,_,rfl,_,rfl,_,rfl,a,_,rfl,s1.seq ha,λl hl=>?_⟩;have s2:=Same.up (o:=.lst (cutV us (some ((i:Int)+1)) (some (j:Int)))) hl;have e2:upd H1 l (.lst (cutV us (some ((i:Int)+1)) (some (j:Int)))) l=some (.lst (cutV us (some ((i:Int)+1)) (some (j:Int)))):=zaa;generalize upd H1 l (.lst (cutV us (some ((i:Int)+1)) (some (j:Int))))=H2 at s2 e2 ⊢;rw[zlN (by lia) (by lia)]at e2;have hvc:=(hv.drop (i+1)).take (j-(i+1));have hcl:((sp.drop (i+1)).take (j-(i+1))).length<=481:=by rw[Aq,AE];lia
  refine⟨l,rfl,⟨_,SqL.of e2⟩,λg hg=>?_⟩;have s02:=s1.trans s2
  refine zaz (K:=K) (a:=l) (xs:=(us.drop (i+1)).take (j-(i+1))) (λm σ H3=>∃o,σ=[o,some (.ref p),some (.int B)]/\Same H2 H3/\H3 g=some (.lst (((((sp.drop (i+1)).take (j-(i+1))).take m).map λc=>clo c (sp.getD i (0,0)) (sp.getD (j % sp.length) (0,0)) B).map V.bl)))
   ⟨_,rfl,Same.up hg,zaa⟩ (λm σ H3 _ ⟨_,_,s3,_⟩=>SqL.of (s3 _ _ e2)) ?_ ?_
  .rintro m x σ H3 hx ⟨o,rfl,s3,e3⟩;obtain⟨c,hc,hcx⟩:=hvc.at hx;have hcm:c∈sp:=CP (BO (Ag hc));have s03:=s02.trans s3;refine gN ?_
   refine⟨_,rfl,_,rfl,_,rfl,x,u,v,p,c,_,_,B,rfl,(s2.trans s3) _ _ e1,hcx.kt (KT.of s03),hcu.kt (KT.of s03),hcv.kt (KT.of s03),hf.df hcm (za3 hi),hf.df hcm (za3 hm),hf.df (za3 hm) (za3 hi),hf.df (za3 hi) (za3 hm),b0,b1,?_⟩;refine⟨_,e3,zal (by simp;lia),_,rfl,zas hg s3,?_⟩;rw[zaa,zau hc,Ax,Ax];rfl
  .rintro σ H3 ⟨o,rfl,s3,e3⟩;rw[hvc.1,AX]at e3;exact⟨g,_,rfl,SqL.of e3,k _ H3 (s02.trans s3) (zlO hj _)⟩
theorem zfK{r:Rnd}(hl:r.row.length<=480):(spo r).length<=481:=by rw[zaG];lia
noncomputable def zhh(K:W.Frag):Sp:=λvs H Q _=>∃(v:V) (r:Rnd) (B:Int) (kc:Addr) (ks:List Nat),vs=[v,.int B,.ref kc]/\rR r v H/\(∀s∈r.row,s<8)/\r.row.length<=480/\SqL K H kc (rowV ks)/\Good ks (spo r).length/\0<=B/\B<=1000000 /\
 ∀b H',Same H H'->(b=true ↔ Near (spo r) B ks)->Q (.bl b) H'
theorem zic (T:Txt P w K mg) (g_spots_of:Fn P w K mg base 2 "spots_of" ["one"] (zce K)) (g_is_stretch_near:Fn P w K mg base 3 "is_stretch_near" ["spots", "bound", "start", "end"] (zfL K)) (g_ends_of:Fn P w K mg base 1 "ends_of" ["spots", "corners"] (ziJ K))
    (d:Df K mg "is_near" zc9 ["one","bound","corners"]):FnOk P w K mg base CX0 4 d.f d.fd ["one","bound","corners"] (zhh K):=by
  refine d.F.ok zeS (λvs H Q E h=>?_) (λcdv A outer s H vs Q E hr h=>?_)
  . obtain⟨v,r,B,kc,ks,rfl,_⟩:=h;rfl
  . obtain⟨v,r,B,kc,ks,rfl,hv,h8,hlen,hk,hg,b0,b1,k⟩:=h;have nb0:(["start","end","spots","bound"]:List Str).Nodup:=by decide +kernel
    refine⟨_,(zad (zda (i:=3) zeS.nd (by rfl) (Or.inr rfl) (pC g_spots_of hr (pa_N (pv 0) zab)))
      (zaf (zaj (zak (zbz rfl) (by rfl) T.nall (by rfl) (zag (zaF (osc:=zae zc9) (N:=zgn) (N':=["start","end","spots","bound"]) (sel:=[none,none,some 3,some 1]) bO (zaM (pC g_ends_of hr (pa_N (pv 3) (pa_N (pv 2) zab)))) (λ_ _ _ _ _=>(zbo (K:=K) (n:=2) (by rfl) (zai (nG 0 nb0) (zai (nG 1 nb0) zaC)))) (λ_ _ _ _ _=>zaL) (λ_ _ _ _ _=>(pC g_is_stretch_near hr (pa_N (pv 2) (pa_N (pv 3) (pa_N (pv 0) (pa_N (pv 1) zab))))))) zab))))),?_⟩
    refine⟨_,rfl,v,r,rfl,hv,h8,hlen,λa H1 us ha s1 e1 hus=>?_⟩;have hul:=hus.1;refine⟨_,rfl,_,rfl,a,kc,us,ks,rfl,SqL.of e1,s1.seq hk,hg.1,hg.2.1,λS H2 ts hS s2 e2 hts=>?_⟩;rw[hul]at hts;have hnl:=zbG hg.1 (spo r).length;have htl:ts.length=ks.length:=by rw[hts.1,C8,hnl,Nat.min_self]
    refine⟨S,rfl,⟨_,SqL.of e2⟩,λg hg'=>?_⟩
    refine zaz (K := K) (a := S) (xs := ts) (λm σ H3 => ∃o0 o1, σ = [o0, o1, some (.ref a), some (.int B)] /\ Same H2 H3 /\ ∃bs:List Bool, H3 g=some (.lst (bs.map V.bl)) /\ bs.length=m /\
        (bs.all id=true ↔ ∀(q:Nat) i j,q<m->ks[q]?=some i->(nxs ks (spo r).length)[q]?=some j->Str1 (spo r) B i j))
      ⟨_,_,rfl,Same.up hg',[],zaa,rfl,by simp⟩ (λm σ H3 _ ⟨_,_,_,s3,_⟩=>SqL.of (s3 _ _ e2)) ?_ ?_
    . rintro m x σ H3 hx ⟨o0,o1,rfl,s3,bs,e3,hbl,hbs⟩;obtain⟨⟨i,j⟩,hij,bx,rfl,qx⟩:=hts.at hx;rw[A6]at hij;obtain⟨h1,h2⟩:=hij;obtain⟨l1,l2⟩:=hg.2.2 m i j h1 h2;have hml:m<ks.length:=(Ab.mp h1).1;refine⟨bx,_,rfl,SqT.of (s3 _ _ qx),rfl,_,_,rfl,_,_,rfl,rfl,?_⟩;refine zbj ?_
      refine⟨_,rfl,_,rfl,_,rfl,_,rfl,a,us,spo r,B,i,j,rfl,SqL.of ((s2.trans s3) _ _ e1),hus.mono λx v h=>h.kt (KT.of (s2.trans s3)),ziC h8 hlen,zfK hlen,l1,l2,b0,b1,λb H4 s4 hb=>?_⟩;have hg1:=hg.2.1;refine⟨_,s4 _ _ e3,zal (by rw[Af,hbl];lia),_,_,rfl,zas hg' (s3.trans s4),bs++[b],(by rw[zaa,Ax];rfl),(by rw[Aj,hbl];rfl),?_⟩;rw[List.all_append,AT,hbs];constructor
      . rintro⟨q1,q2⟩ q i' j' hq h1' h2';rcases A3 q m with z |z
        . exact q1 q i' j' z h1' h2'
        . have:q=m:=by lia
          subst this;rw[h1]at h1';rw[h2]at h2'
          cases h1'
          cases h2'
          exact hb.mp (by simpa using q2)
      . intro hall;refine⟨λq i' j' hq=>hall q i' j' (by lia),?_⟩;have:=hb.mpr (hall m i j (by lia) h1 h2);simp[this]
    . rintro σ H3 ⟨o0,o1,rfl,s3,bs,e3,hbl,hbs⟩;refine⟨g,bs,rfl,SqL.of e3,k _ H3 (s1.trans (s2.trans s3)) (hbs.trans ⟨λh m i j h1 h2=>?_,λh m i j _ h1 h2=>h m i j h1 h2⟩)⟩;exact h m i j (by rw[htl];exact (Ab.mp h1).1) h1 h2
noncomputable def zhj(K:W.Frag):Sp:=λvs H Q _=>∃(u v t:V) (c s e:Cell) (B:Int),vs=[u,v,t,.int B]/\cR c u H/\cR s v H/\cR e t H/\Df1 c s/\Df1 e s/\Df1 c e/\0<=B/\B<=1000000/\Q (.bl (clo c s e B)) H
theorem zd7 (d:Df K mg "_law_is_close" zbN ["_law_cell","_law_one","_law_other","_law_bound"]):FnOk P w K mg base CX0 1 d.f d.fd ["_law_cell","_law_one","_law_other","_law_bound"] (zhj K):=by
 refine d.F.ok zaB (λvs H Q E h=>?_) (λcdv A outer s H vs Q E hr h=>?_)
 .obtain⟨u,v,t,c,s,e,B,rfl,_⟩:=h;rfl
 .obtain⟨u,v,t,c,s,e,B,rfl,⟨x,rfl,qx⟩,⟨y,rfl,qy⟩,⟨z,rfl,qz⟩,d1,d2,d3,b0,b1,k⟩:=h;rw[<- zlQ]at k
  refine⟨_,(zad (sE 4 zaB.nd (pe_op zay (pe_ix zap (pv 2) zac (λ_ _=>rfl)) (pe_ix zap (pv 1) zac (λ_ _=>rfl))))
   (zad (sE 5 zaB.nd (pe_op zay (pe_ix zap (pv 2) zac (λ_ _=>rfl)) (pe_ix zap (pv 1) zac (λ_ _=>rfl))))
   (zad (sE 6 zaB.nd (pe_op zay (pe_ix zap (pv 0) zac (λ_ _=>rfl)) (pe_ix zap (pv 1) zac (λ_ _=>rfl))))
   (zad (sE 7 zaB.nd (pe_op zay (pe_ix zap (pv 0) zac (λ_ _=>rfl)) (pe_ix zap (pv 1) zac (λ_ _=>rfl))))
   (zad (sE 8 zaB.nd (pe_op zaK (pe_op zaJ (pv 4) (pv 4)) (pe_op zaJ (pv 5) (pv 5))))
   (zad (sE 9 zaB.nd (pe_op zaK (pe_op zaJ (pv 6) (pv 4)) (pe_op zaJ (pv 7) (pv 5))))
   (zad (ps_if (pw_or (zav op_eq (pv 8) zac (zaq _)) (zdB (zav op_lt (pv 9) zac (zaq _)))).pt
   (zaf (zaj (zaQ op_le (pe_op zaK (pe_op zaJ (pv 6) (pv 6)) (pe_op zaJ (pv 7) (pv 7))) (pv 3) (zaq _))))
   zaw)
   (zad (ps_if (zav op_gt (pv 9) (pv 8) (zaq _))
   (zaf (zaj (zaQ op_le (pe_op zaK (pe_op zaJ (pe_op zay (pv 6) (pv 4)) (pe_op zay (pv 6) (pv 4))) (pe_op zaJ (pe_op zay (pv 7) (pv 5)) (pe_op zay (pv 7) (pv 5)))) (pv 3) (zaq _))))
   zaw)
   (zad (sE 10 zaB.nd (pe_op zay (pe_op zaJ (pv 6) (pv 8)) (pe_op zaJ (pv 9) (pv 4))))
   (zad (sE 11 zaB.nd (pe_op zay (pe_op zaJ (pv 7) (pv 8)) (pe_op zaJ (pv 9) (pv 5))))
   (zaf (zaj (zaQ op_le (pe_op zaK (pe_op zaJ (pv 10) (pv 10)) (pe_op zaJ (pv 11) (pv 11))) (pe_op zaJ (pe_op zaJ (pv 3) (pv 8)) (pv 8)) (zaq _)))))))))))))),?_⟩
  refine⟨_,rfl,z,_,_,_,rfl,rfl,SqT.of qz,zah (j:=0) rfl,_,rfl,y,_,_,_,rfl,rfl,SqT.of qy,zah (j:=0) rfl,_,_,rfl,rfl,?_⟩;refine⟨_,rfl,z,_,_,_,rfl,rfl,SqT.of qz,zah (j:=1) rfl,_,rfl,y,_,_,_,rfl,rfl,SqT.of qy,zah (j:=1) rfl,_,_,rfl,rfl,?_⟩;refine⟨_,rfl,x,_,_,_,rfl,rfl,SqT.of qx,zah (j:=0) rfl,_,rfl,y,_,_,_,rfl,rfl,SqT.of qy,zah (j:=0) rfl,_,_,rfl,rfl,?_⟩;refine⟨_,rfl,x,_,_,_,rfl,rfl,SqT.of qx,zah (j:=1) rfl,_,rfl,y,_,_,_,rfl,rfl,SqT.of qy,zah (j:=1) rfl,_,_,rfl,rfl,?_⟩;refine⟨_,rfl,_,rfl,_,_,rfl,rfl,.inl d2.m1,_,rfl,_,rfl,_,_,rfl,rfl,.inl d2.m2,_,_,rfl,rfl,?_⟩;refine⟨_,rfl,_,rfl,_,_,rfl,rfl,.inl d1.m1,_,rfl,_,rfl,_,_,rfl,rfl,.inl d1.m2,_,_,rfl,rfl,?_⟩;have kL:=zkZ d2 d2;have kF:=zkZ d1 d2;change -2000000<=llong s e/\llong s e<=2000000 at kL;change -2000000<=lfar c s e/\lfar c s e<=2000000 at kF;have done1:(llong s e=0∨lfar c s e<0)->Q (.bl (decide ((c.1-s.1)*(c.1-s.1)+(c.2-s.2)*(c.2-s.2)<=B))) H:=λh=>by rw[if_pos h]at k;exact k
  have hL0:∀{b:Bool},b=decide (V.int (llong s e)=V.int 0)->b=true->llong s e=0:=λh hy=>by rw[h]at hy;have:=of_decide_eq_true hy;injection this
  refine⟨_,rfl,rfl,_,rfl,ite2 (λhy=>?_) (λhn=>?_)⟩
  .exact⟨_,rfl,_,rfl,_,_,rfl,rfl,.inl d1.m1,_,rfl,_,rfl,_,_,rfl,rfl,.inl d1.m2,_,_,rfl,rfl,_,rfl,_,_,rfl,rfl,done1 (.inl (hL0 rfl hy))⟩
  have hLn:llong s e≠0:=λz=>hn (decide_eq_true (congrArg V.int z))
  refine⟨_,rfl,_,_,rfl,rfl,_,rfl,ite2 (λhy=>?_) (λhn2=>?_)⟩
  .exact⟨_,rfl,_,rfl,_,_,rfl,rfl,.inl d1.m1,_,rfl,_,rfl,_,_,rfl,rfl,.inl d1.m2,_,_,rfl,rfl,_,rfl,_,_,rfl,rfl,done1 (.inr (of_decide_eq_true hy))⟩
  have hFn:¬ lfar c s e<0:=λz=>hn2 (decide_eq_true z)
  rw[if_neg (λz=>z.elim hLn hFn)]at k;have e1:c.1-s.1-(e.1-s.1)=c.1-e.1:=by lia
  have e2:c.2-s.2-(e.2-s.2)=c.2-e.2:=by lia
  have m1:=d3.m1;have m2:=d3.m2;refine⟨_,rfl,_,rfl,_,_,rfl,rfl,_,rfl,ite2 (λhy=>?_) (λhn3=>?_)⟩
  .refine⟨_,rfl,_,rfl,_,_,rfl,rfl,_,rfl,_,rfl,_,_,rfl,rfl,_,_,rfl,rfl,.inl (by rw[e1];exact m1),_,rfl,_,rfl,_,_,rfl,rfl,_,rfl,_,rfl,_,_,rfl,rfl,_,_,rfl,rfl,.inl (by rw[e2];exact m2),_,_,rfl,rfl,_,rfl,_,_,rfl,rfl,?_⟩;rw[if_pos (show llong s e<lfar c s e from of_decide_eq_true hy)]at k;rw[e1,e2];exact k
  have hGn:¬ llong s e<lfar c s e:=λz=>hn3 (decide_eq_true z)
  rw[if_neg hGn]at k;have p1:=zdd d1.1.1 d1.1.2 kL.1 kL.2;have p2:=zdd kF.1 kF.2 d2.1.1 d2.1.2;have p3:=zdd d1.2.1 d1.2.2 kL.1 kL.2;have p4:=zdd kF.1 kF.2 d2.2.1 d2.2.2;have p5:=zdd (show -1000000<=B by lia) b1 kL.1 kL.2;have kx:-(2 ^ 64)<lx c s e/\lx c s e<2 ^ 64:=by unfold lx;lia
  have ky:-(2 ^ 64)<ly c s e/\ly c s e<2 ^ 64:=by unfold ly;lia
  refine⟨_,rfl,_,rfl,_,_,rfl,rfl,.inl d1.m1,_,rfl,_,rfl,_,_,rfl,rfl,.inr d2.m1,_,_,rfl,rfl,?_⟩;refine⟨_,rfl,_,rfl,_,_,rfl,rfl,.inl d1.m2,_,rfl,_,rfl,_,_,rfl,rfl,.inr d2.m2,_,_,rfl,rfl,?_⟩;exact⟨_,rfl,_,rfl,_,_,rfl,rfl,.inl kx,_,rfl,_,rfl,_,_,rfl,rfl,.inl ky,_,_,rfl,rfl,_,rfl,_,rfl,_,_,rfl,rfl,.inl ⟨by lia,by lia⟩,_,rfl,_,_,rfl,rfl,.inl (show -(2 ^ 64)<B*llong s e/\B*llong s e<2 ^ 64 by lia),_,_,rfl,rfl,k⟩
open PySem L2 RP TH
noncomputable def sideR(s:TH.Side)(v:V)(H:Hp):Prop:=∃A u w,v=.ref A/\H A=some (.tup [u,w])/\cR s.1 u H/\cR s.2 w H
theorem sideR.kt{s:TH.Side}{v:V}{H H':Hp}(h:sideR s v H)(k:KT H H'):sideR s v H':=let ⟨A,u,w,e,h1,h2,h3⟩:=h;⟨A,u,w,e,k _ _ h1,h2.kt k,h3.kt k⟩
noncomputable def Dfs(L:List Cell):Prop:=∀a∈L,∀b∈L,Df1 a b
noncomputable def Dsd(L:List Cell)(s:TH.Side):Prop:=s.1∈L/\s.2∈L
theorem zlz(ks:List Nat)(n:Nat):nxs ks n=bhd ks n:=rfl
noncomputable def zkI:Sp:=λvs H Q _=>∃(v x y:V) (s:TH.Side) (a b:Cell),vs=[v,x,y]/\sideR s v H/\cR a x H/\cR b y H/\Df1 s.2 s.1/\Df1 a s.1/\Df1 b s.1/\Q (.bl (parts s a b)) H
theorem zie (g_across:Fn P w K mg base 1 "across" ["start","one","other"] ze7) (d:Df K mg "do_part" zdZ ["side","one","other"]):FnOk P w K mg base CX0 2 d.f d.fd ["side","one","other"] zkI:=by
 refine d.F.ok zdn (λvs H Q E h=>?_) (λcdv A outer s H vs Q E hr h=>?_)
 .obtain⟨v,x,y,sd,a,b,rfl,_⟩:=h;rfl
 .obtain⟨v,x,y,sd,a,b,rfl,⟨D,u,t,rfl,hD,hu,ht⟩,hx,hy,d1,d2,d3,k⟩:=h
  refine⟨_,(zad (zbX (pv 0) (zbr (by rfl) (zai (nG 3 zdn.nd) (zai (nG 4 zdn.nd) zaC))))
   (zaf (zaj (zaQ op_lt (pe_op zaJ (pC g_across hr (pa_N (pv 3) (pa_N (pv 4) (pa_N (pv 1) zab)))) (pC g_across hr (pa_N (pv 3) (pa_N (pv 4) (pa_N (pv 2) zab))))) zac (zaq _))))),?_⟩
  refine⟨_,rfl,D,_,rfl,SqT.of hD,rfl,_,_,rfl,_,_,rfl,rfl,?_⟩;have b1:=zk1 d1 d2;refine⟨_,rfl,_,rfl,_,rfl,u,t,x,sd.1,sd.2,a,rfl,hu,ht,hx,d1,?_⟩;refine⟨_,rfl,_,rfl,_,rfl,u,t,y,sd.1,sd.2,b,rfl,hu,ht,hy,d1,?_⟩;refine⟨_,_,rfl,rfl,.inl ⟨by lia,by lia⟩,_,_,rfl,rfl,?_⟩;exact k
noncomputable def ziL:Sp:=λvs H Q _=>∃(v u:V) (s t:TH.Side) (L:List Cell),vs=[v,u]/\sideR s v H/\sideR t u H/\Dfs L/\Dsd L s/\Dsd L t/\Q (.bl (TH.cross s t)) H
theorem zgR (g_do_part:Fn P w K mg base 2 "do_part" ["side","one","other"] zkI) (d:Df K mg "do_cross" zds ["one","other"]):FnOk P w K mg base CX0 3 d.f d.fd ["one","other"] ziL:=by
 refine d.F.ok zgB (λvs H Q E h=>?_) (λcdv A outer s H vs Q E hr h=>?_)
 .obtain⟨v,u,sd,t,L,rfl,_⟩:=h;rfl
 .obtain⟨v,u,sd,t,L,rfl,h1,h2,hL,l1,l2,k⟩:=h;refine⟨_,(zaf (zaj (zd3 (pC g_do_part hr (pa_N (pv 0) (zag (pe_ix zap (pv 1) zac (λ_ _=>rfl)) (zag (pe_ix zap (pv 1) zac (λ_ _=>rfl)) zab)))) (zd2 (pC g_do_part hr (pa_N (pv 1) (zag (pe_ix zap (pv 0) zac (λ_ _=>rfl)) (zag (pe_ix zap (pv 0) zac (λ_ _=>rfl)) zab)))))))),?_⟩;obtain⟨D,p,q,rfl,hD,hp,hq⟩:=id h1;obtain⟨F,x,y,rfl,hF,hx,hy⟩:=id h2;refine⟨_,rfl,_,rfl,F,_,_,_,rfl,rfl,SqT.of hF,zah (j:=0) rfl,_,rfl,F,_,_,_,rfl,rfl,SqT.of hF,zah (j:=1) rfl,?_⟩;refine⟨.ref D,x,y,sd,t.1,t.2,rfl,h1,hx,hy,hL _ l1.2 _ l1.1,hL _ l2.1 _ l1.1,hL _ l2.2 _ l1.1,?_⟩;refine⟨_,rfl,?_⟩;unfold TH.cross at k;refine ite2 (λhy=>?_) (λhn=>?_)
  .refine⟨_,rfl,_,rfl,D,_,_,_,rfl,rfl,SqT.of hD,zah (j:=0) rfl,_,rfl,D,_,_,_,rfl,rfl,SqT.of hD,zah (j:=1) rfl,?_⟩;refine⟨.ref F,p,q,t,sd.1,sd.2,rfl,h2,hp,hq,hL _ l2.2 _ l2.1,hL _ l1.1 _ l2.1,hL _ l1.2 _ l2.1,?_⟩;rw[hy,Bm]at k;exact k
  .rw[show parts sd t.1 t.2=false by simpa using hn,BC]at k;exact k
noncomputable def ziG(K:W.Frag):Sp:=λvs H Q _=>∃(v:V) (r:Rnd) (kc:Addr) (ks:List Nat),vs=[v,.ref kc]/\rR r v H/\(∀s∈r.row,s<8)/\r.row.length<=480/\SqL K H kc (rowV ks)/\Good ks (spo r).length /\
 ∀p H' us,H p=none->Same H H'->H' p=some (.lst us)->VR us (sds (spo r) ks) sideR H'->Q (.ref p) H'
theorem zgJ (T:Txt P w K mg) (g_spots_of:Fn P w K mg base 2 "spots_of" ["one"] (zce K)) (g_ends_of:Fn P w K mg base 1 "ends_of" ["spots", "corners"] (ziJ K)) (g_side_between:Fn P w K mg base 1 "side_between" ["spots", "start", "end"] (ziH K))
  (d:Df K mg "sides_of" zcH ["one","corners"]):FnOk P w K mg base CX0 3 d.f d.fd ["one","corners"] (ziG K):=by
 refine d.F.ok zdS (λvs H Q E h=>?_) (λcdv A outer s H vs Q E hr h=>?_)
 .obtain⟨v,r,kc,ks,rfl,_⟩:=h;rfl
 .obtain⟨v,r,kc,ks,rfl,hv,h8,hlen,hk,hg,k⟩:=h;have nb0:(["start","end","spots"]:List Str).Nodup:=by decide +kernel
  refine⟨_,(zad (zda (i:=2) zdS.nd (by rfl) (Or.inr rfl) (pC g_spots_of hr (pa_N (pv 0) zab)))
   (zaf (zaj (zaF (osc:=zae zcH) (N:=ze2) (N':=["start","end","spots"]) (sel:=[none,none,some 2]) bO (zaM (pC g_ends_of hr (pa_N (pv 2) (pa_N (pv 1) zab)))) (λ_ _ _ _ _=>(zbo (K:=K) (n:=2) (by rfl) (zai (nG 0 nb0) (zai (nG 1 nb0) zaC)))) (λ_ _ _ _ _=>zaL) (λ_ _ _ _ _=>(pC g_side_between hr (pa_N (pv 2) (pa_N (pv 0) (pa_N (pv 1) zab))))))))),?_⟩
  refine⟨_,rfl,v,r,rfl,hv,h8,hlen,λa H1 us ha s1 e1 hus=>?_⟩;have hul:=hus.1;refine⟨_,rfl,_,rfl,a,kc,us,ks,rfl,SqL.of e1,s1.seq hk,hg.1,hg.2.1,λS H2 ts hS s2 e2 hts=>?_⟩;rw[hul]at hts;have hnl:=zbG hg.1 (spo r).length;have htl:ts.length=ks.length:=by rw[hts.1,C8,hnl,Nat.min_self]
  have hpz:ks.zip (nxs ks (spo r).length)=prs (spo r).length ks:=by rw[zlz,zgF]
  have hpos:0<(spo r).length:=by rw[zaG];lia
  refine⟨S,rfl,⟨_,SqL.of e2⟩,λg hg'=>?_⟩
  refine zaz (K:=K) (a:=S) (xs:=ts) (λm σ H3=>∃o0 o1,σ=[o0,o1,some (.ref a)]/\Same H2 H3/\∃zs,H3 g=some (.lst zs)/\VR zs (((prs (spo r).length ks).take m).map (sdO (spo r))) sideR H3)
   ⟨_,_,rfl,Same.up hg',[],zaa,VR.nil⟩ (λm σ H3 _ ⟨_,_,_,s3,_⟩=>SqL.of (s3 _ _ e2)) ?_ ?_
  .rintro m x σ H3 hx ⟨o0,o1,rfl,s3,zs,e3,hz⟩;obtain⟨⟨i,j⟩,hij,bx,rfl,qx⟩:=hts.at hx;have hij':=hij;rw[A6]at hij;obtain⟨h1,h2⟩:=hij;obtain⟨l1,l2⟩:=hg.2.2 m i j h1 h2;have hml:m<ks.length:=(Ab.mp h1).1;have hgl:=hg.2.1;have hi:i<us.length:=by lia
   have hj:j % us.length<us.length:=Nat.mod_lt _ (by lia);obtain⟨ci,hci,ri⟩:=hus.at (Aa hi);obtain⟨cj,hcj,rj⟩:=hus.at (Aa hj);refine⟨bx,_,rfl,SqT.of (s3 _ _ qx),rfl,_,_,rfl,_,_,rfl,rfl,?_⟩;refine zbj ?_
   refine⟨_,rfl,_,rfl,_,rfl,a,us,i,j,_,_,rfl,SqL.of ((s2.trans s3) _ _ e1),Aa hi,Aa hj,by lia,λp hp=>?_⟩;have s4:=Same.up (o:=.tup [us[i],us[j % us.length]]) hp;have r4:sideR (ci,cj) (.ref p) (upd H3 p (.tup [us[i],us[j % us.length]])):=⟨p,_,_,rfl,zaa,ri.kt (KT.of ((s2.trans s3).trans s4)),rj.kt (KT.of ((s2.trans s3).trans s4))⟩;generalize upd H3 p (.tup [us[i],us[j % us.length]])=H4 at s4 r4;have e4:=s4 _ _ e3;have hzl:zs.length<=481:=by rw[hz.1,Af,Aq];lia
   refine⟨zs,e4,zal (by lia),_,_,rfl,zas hg' (s3.trans s4),_,zaa,?_⟩;rw[hpz]at hij';rw[zau hij',Ax]
   have eS:sdO (spo r) (i,j)=(ci,cj):=by unfold sdO;simp only;rw[Ak,hci,Ak,<- hul,hcj];rfl
   refine hz.snoc (λx v h=>(h.kt (KT.of s4)).kt (KT.lst e4)) ?_
   rw[eS];exact r4.kt (KT.lst e4)
  .rintro σ H3 ⟨o0,o1,rfl,s3,zs,e3,hz⟩;rw[A0 (by rw[<- hpz,<- hts.1];exact Ah _)]at hz;exact k g H3 zs ((s1.trans s2).free hg') (s1.trans (s2.trans s3)) e3 hz
noncomputable def thR(ks:List Nat)(v:V)(H:Hp):Prop:=∃c,v=.ref c/\H c=some (.lst (rowV ks))
theorem thR.same{ks:List Nat}{v:V}{H H':Hp}(h:thR ks v H)(s:Same H H'):thR ks v H':=let ⟨c,e,h1⟩:=h;⟨c,e,s _ _ h1⟩
structure Thn (R:List Rnd) (TT:List (List Nat)):Prop where
 len:R.length=TT.length
 few:R.length<=120
 row:∀r∈R,(∀s∈r.row,s<8)/\r.row.length<=480
 crn:∀(i:Nat) r ks,R[i]?=some r->TT[i]?=some ks->Good ks (spo r).length
 all:(allS (R.map spo) TT).length<=900
theorem zeh:∀(S:List (List Cell)) (T:List (List Nat)) (i:Nat) (sp:List Cell) (ks:List Nat),S[i]?=some sp->T[i]?=some ks->allS (S.take (i+1)) (T.take (i+1))=allS (S.take i) (T.take i)++sds sp ks
 |[],_,_,_,_,h,_=>by simp at h
 |_::_,[],_,_,_,_,h=>by simp at h
 |sp0::S,ks0::T,0,sp,ks,h1,h2=>by
  simp at h1 h2;subst h1 h2;show sds sp0 ks0++allS [] []=[]++sds sp0 ks0;show sds sp0 ks0++[]=_;simp
 |sp0::S,ks0::T,i+1,sp,ks,h1,h2=>by
  have:=zeh S T i sp ks (by simpa using h1) (by simpa using h2);show sds sp0 ks0++allS (S.take (i+1)) (T.take (i+1))=(sds sp0 ks0++allS (S.take i) (T.take i))++_;rw[this,CI]
theorem zg0:∀(S:List (List Cell)) (T:List (List Nat)) (i:Nat),(allS (S.take i) (T.take i)).length<=(allS S T).length
 |[],_,i=>by cases i <;> exact AV _
 |_::_,[],i=>by cases i <;> exact AV _
 |sp0::S,ks0::T,0=>AV _
 |sp0::S,ks0::T,i+1=>by
  have:=zg0 S T i;show (sds sp0 ks0++allS (S.take i) (T.take i)).length<=(sds sp0 ks0++allS S T).length;rw[Aj,Aj];lia
noncomputable def zcG(K:W.Frag):Sp:=λvs H Q _=>∃(a b:Addr) (rs ts:List V) (R:List Rnd) (TT:List (List Nat)),vs=[.ref a,.ref b]/\H a=some (.lst rs)/\VR rs R rR H/\H b=some (.lst ts)/\VR ts TT thR H/\Thn R TT /\
 ∀p H' us,H p=none->Same H H'->H' p=some (.lst us)->VR us (allS (R.map spo) TT) sideR H'->Q (.ref p) H'
theorem zf4 (T:Txt P w K mg) (g_sides_of:Fn P w K mg base 3 "sides_of" ["one","corners"] (ziG K)) (d:Df K mg "all_sides" zck ["some","thinning"]):FnOk P w K mg base CX0 4 d.f d.fd ["some","thinning"] (zcG K):=by
 refine d.F.ok zfR (λvs H Q E h=>?_) (λcdv A outer s H vs Q E hr h=>?_)
 .obtain⟨a,b,rs,ts,R,TT,rfl,_⟩:=h;rfl
 .obtain⟨a,b,rs,ts,R,TT,rfl,ha,hR,hb,hT,th,k⟩:=h;have nb0:(["one","corners","side"]:List Str).Nodup:=by decide +kernel
  refine⟨_,(zaf (zaj (zfX (osc:=zae zck) (N:=zek) (N':=["one","corners","side"]) (sel:=[none,none,none]) bO (zdD (by rfl) T.nzip (pa_N (pv 0) (pa_N (pv 1) zab))) (λ_ _ _ _ _=>(zbo (K:=K) (n:=2) (by rfl) (zai (nG 0 nb0) (zai (nG 1 nb0) zaC)))) (λ_ _ _ _ _=>zaL) (λ_ _ _ _ _=>(zht (K:=K) (pC g_sides_of hr (pa_N (pv 0) (pa_N (pv 1) zab))))) (λ_ _ _ _ _=>(nG 2 nb0)) (λ_ _ _ _ _=>zaL) (λ_ _ _ _ _=>(pv 2)) (λ_ _ _=>rfl)))),?_⟩;refine⟨_,rfl,_,rfl,a,b,rfl,⟨_,SqL.of ha⟩,⟨_,SqL.of hb⟩,λg hg=>?_⟩;have hle:rs.length=ts.length:=by rw[hR.1,hT.1,th.len]
  refine zcD (K:=K) (a:=a) (b:=b) (xs:=rs) (ys:=ts) (λm σ H3=>∃o0 o1 o2,σ=[o0,o1,o2]/\Same H H3/\∃zs,H3 g=some (.lst zs)/\VR zs (allS ((R.map spo).take m) (TT.take m)) sideR H3)
   ⟨_,_,_,rfl,Same.up hg,[],zaa,VR.nil⟩ (λm σ H3 _ ⟨_,_,_,_,s3,_⟩=>⟨SqL.of (s3 _ _ ha),SqL.of (s3 _ _ hb)⟩) hle ?_ ?_
  .rintro m x y σ H3 t hx hy ⟨o0,o1,o2,rfl,s3,zs,e3,hz⟩ ht;obtain⟨r,hr1,hxr⟩:=hR.at hx;obtain⟨ks,hk1,c,rfl,hc⟩:=hT.at hy;have hgd:=th.crn m r ks hr1 hk1;have hrow:=th.row r (Ag hr1);have hsp:(R.map spo)[m]?=some (spo r):=by rw[Az,hr1];rfl
   have hat:=zeh (R.map spo) TT m _ _ hsp hk1;have hal:=zg0 (R.map spo) TT (m+1);have hal9:=th.all;have s4:=Same.up (o:=.tup [x,.ref c]) ht;have e4t:upd H3 t (.tup [x,.ref c]) t=some (.tup [x,.ref c]):=zaa;generalize upd H3 t (.tup [x,.ref c])=H4 at s4 e4t;have s04:=s3.trans s4;refine⟨t,_,rfl,SqT.of e4t,rfl,_,_,rfl,_,_,rfl,rfl,?_⟩;refine zbj ?_
   refine⟨_,rfl,_,rfl,x,r,c,ks,rfl,hxr.kt (KT.of s04),hrow.1,hrow.2,SqL.of (s04 _ _ hc),hgd,λp H5 us hp s5 e5 hus=>?_⟩;refine⟨p,rfl,⟨_,SqL.of e5⟩,?_⟩;have hpg:g≠p:=λq=>by rw[<- q,s4 _ _ e3]at hp;cases hp
   have e5g:=(s4.trans s5) _ _ e3
   refine zaz (K:=K) (a:=p) (xs:=us) (λq σ H6=>∃o2,σ=[some x,some (.ref c),o2]/\Same H H6/\H6 p=some (.lst us)/\KT H5 H6/\∃zs,H6 g=some (.lst zs)/\VR zs (allS ((R.map spo).take m) (TT.take m)++(sds (spo r) ks).take q) sideR H6)
    ⟨_,rfl,s04.trans s5,e5,KT.refl _,zs,e5g,by rw[List.take_zero,Bt];exact hz.mono λx v h=>h.kt (KT.of (s4.trans s5))⟩ (λq σ H6 _ ⟨_,_,_,e6,_⟩=>SqL.of e6) ?_ ?_
   .rintro q u σ H6 hu ⟨o2,rfl,s6,e6,k6,zs6,e6g,hz6⟩;obtain⟨sd,hsd,hru⟩:=hus.at hu;have hql:q<(sds (spo r) ks).length:=(Ab.mp hsd).1
    have hzl:zs6.length<=900:=by
     have h1:=hz6.1;have h2:=congrArg List.length hat
     rw[Aj]at h1 h2;rw[Aq]at h1;lia
    refine gN ?_
    refine⟨_,rfl,zs6,e6g,zal (by lia),_,rfl,zas hg s6,by rw[zam (By hpg)];exact e6,k6.trans (KT.lst e6g),_,zaa,?_⟩;rw[zau hsd,<- CI];exact hz6.snoc (λx v h=>h.kt (KT.lst e6g)) ((hru.kt k6).kt (KT.lst e6g))
   .rintro σ H6 ⟨o2,rfl,s6,e6,k6,zs6,e6g,hz6⟩;refine⟨_,_,_,rfl,s6,zs6,e6g,?_⟩;rw[hus.1,AX,<- hat]at hz6;exact hz6
  .rintro σ H3 ⟨o0,o1,o2,rfl,s3,zs,e3,hz⟩;rw[A0 (by rw[Af,hR.1];exact Ah _),A0 (by rw[hle,hT.1];exact Ah _)]at hz;exact k g H3 zs hg s3 e3 hz
structure Crnr (R:List Rnd) (TT:List (List Nat)) (B:Int) (L:List Cell) (i s:Nat) (r:Rnd) (A:List Nat) (c:Nat) (Bk:List Nat):Prop where
 th:Thn R TT
 r1:R[i]?=some r
 k1:TT[i]?=some (A++c::s::Bk)
 lt1:∀k∈A,k<c
 lt2:c<s
 lt3:∀k∈Bk,s<k
 up:Bk.Pairwise (·<·)
 b0:0<=B
 b1:B<=1000000
 dL:Dfs L
 sL:∀t∈allS (R.map spo) TT,Dsd L t
 pL:∀t∈spo r,t∈L
theorem zcJ(n:Nat):∀ks:List Nat,(prs n ks).length=ks.length
 |[]=>rfl
 |a::B=>by show (prs n B).length+1=_;rw[zcJ n B];rfl
open Classical in
structure Thb (R:List Rnd) (TT:List (List Nat)) (B:Int) (L:List Cell):Prop where
 th:Thn R TT
 cr:∀(i:Nat) r ks,R[i]?=some r->TT[i]?=some ks->Crn (spo r).length ks
 b0:0<=B
 b1:B<=1000000
 dL:Dfs L
 sL:∀t∈allS (R.map spo) TT,Dsd L t
 pL:∀r∈R,∀t∈spo r,t∈L
open Classical in
noncomputable def sgn(x:Int):Int:=(if decide (0<x)=true then 1 else 0)-(if decide (x<0)=true then 1 else 0)
theorem ziU(x y:Int):decide (sgn x*sgn y=-1)=decide (x*y<0):=by
 have h:∀z:Int,(z<0/\sgn z=-1)∨(z=0/\sgn z=0)∨(0<z/\sgn z=1):=λz=>by
  unfold sgn;rcases Int.lt_trichotomy z 0 with q |q |q
  .left;refine⟨q,?_⟩;rw[if_neg (by simp;lia),if_pos (decide_eq_true q)];rfl
  .right;left;refine⟨q,?_⟩;subst q;rfl
  .right;right;refine⟨q,?_⟩;rw[if_pos (decide_eq_true q),if_neg (by simp;lia)];rfl
 rw[decide_eq_decide,TH.neg_mul_iff];rcases h x with⟨a,e⟩ |⟨a,e⟩ |⟨a,e⟩ <;> rcases h y with⟨b,f⟩ |⟨b,f⟩ |⟨b,f⟩ <;> rw[e,f] <;> lia
theorem zl7(x:Int):-1<=sgn x/\sgn x<=1:=by unfold sgn;split <;> split <;> lia
noncomputable def zhf:Sp:=λvs H Q _=>∃(u v t:V) (s a b:Cell),vs=[u,v,t]/\cR s u H/\cR a v H/\cR b t H/\Df1 a s/\Q (.int (sgn (crs s a b))) H
theorem zeu (T:Txt P w K mg) (d:Df K mg "_law_side_of" zb1 ["_law_one","_law_other","_law_cell"]):FnOk P w K mg base CX0 1 d.f d.fd ["_law_one","_law_other","_law_cell"] zhf:=by
 refine d.F.ok zbm (λvs H Q E h=>?_) (λcdv A outer s H vs Q E hr h=>?_)
 .obtain⟨u,v,t,s,a,b,rfl,_⟩:=h;rfl
 .obtain⟨u,v,t,sc,a,b,rfl,⟨x,rfl,hx⟩,⟨y,rfl,hy⟩,⟨z,rfl,hz⟩,hd,k⟩:=h
  refine⟨_,(zad (sE 3 zbm.nd (pe_op zay (pe_ix zap (pv 1) zac (λ_ _=>rfl)) (pe_ix zap (pv 0) zac (λ_ _=>rfl))))
   (zad (sE 4 zbm.nd (pe_op zay (pe_ix zap (pv 1) zac (λ_ _=>rfl)) (pe_ix zap (pv 0) zac (λ_ _=>rfl))))
   (zad (sE 5 zbm.nd (pe_op zay (pe_op zaJ (pv 3) (pe_op zay (pe_ix zap (pv 2) zac (λ_ _=>rfl)) (pe_ix zap (pv 0) zac (λ_ _=>rfl)))) (pe_op zaJ (pv 4) (pe_op zay (pe_ix zap (pv 2) zac (λ_ _=>rfl)) (pe_ix zap (pv 0) zac (λ_ _=>rfl))))))
   (zaf (zaj (pe_op zay (zbx zdj (by rfl) T.nint (by rfl) (zag (zaQ op_gt (pv 5) zac (zaq _)) zab)) (zbx zdj (by rfl) T.nint (by rfl) (zag (zaQ op_lt (pv 5) zac (zaq _)) zab)))))))),?_⟩
  refine⟨_,rfl,y,_,_,_,rfl,rfl,SqT.of hy,zah (j:=0) rfl,_,rfl,x,_,_,_,rfl,rfl,SqT.of hx,zah (j:=0) rfl,_,_,rfl,rfl,?_⟩;refine⟨_,rfl,y,_,_,_,rfl,rfl,SqT.of hy,zah (j:=1) rfl,_,rfl,x,_,_,_,rfl,rfl,SqT.of hx,zah (j:=1) rfl,_,_,rfl,rfl,?_⟩;refine⟨_,rfl,_,rfl,z,_,_,_,rfl,rfl,SqT.of hz,zah (j:=1) rfl,_,rfl,x,_,_,_,rfl,rfl,SqT.of hx,zah (j:=1) rfl,_,_,rfl,rfl,_,_,rfl,rfl,.inl hd.m1,?_⟩;refine⟨_,rfl,_,rfl,z,_,_,_,rfl,rfl,SqT.of hz,zah (j:=0) rfl,_,rfl,x,_,_,_,rfl,rfl,SqT.of hx,zah (j:=0) rfl,_,_,rfl,rfl,_,_,rfl,rfl,.inl hd.m2,_,_,rfl,rfl,?_⟩;refine⟨_,rfl,_,_,rfl,rfl,.inr ⟨_,rfl,_,rfl,_,_,rfl,rfl,.inr ⟨_,rfl,_,_,rfl,rfl,?_⟩⟩⟩;exact k
noncomputable def zhi:Sp:=λvs H Q _=>∃(v u:V) (s t:TH.Side) (L:List Cell),vs=[v,u]/\sideR s v H/\sideR t u H/\Dfs L/\Dsd L s/\Dsd L t/\Q (.bl (TH.cross s t)) H
theorem zd8 (g__law_side_of:Fn P w K mg base 1 "_law_side_of" ["_law_one","_law_other","_law_cell"] zhf) (d:Df K mg "_law_do_cross" zbO ["_law_one","_law_other"]):FnOk P w K mg base CX0 2 d.f d.fd ["_law_one","_law_other"] zhi:=by
 refine d.F.ok zdK (λvs H Q E h=>?_) (λcdv A outer s H vs Q E hr h=>?_)
 .obtain⟨v,u,sd,t,L,rfl,_⟩:=h;rfl
 .obtain⟨v,u,sd,t,L,rfl,h1,h2,hL,l1,l2,k⟩:=h
  refine⟨_,(zad (ps_if (zav op_ne (pe_op zaJ (pC g__law_side_of hr (zag (pe_ix zap (pv 0) zac (λ_ _=>rfl)) (zag (pe_ix zap (pv 0) zac (λ_ _=>rfl)) (zag (pe_ix zap (pv 1) zac (λ_ _=>rfl)) zab)))) (pC g__law_side_of hr (zag (pe_ix zap (pv 0) zac (λ_ _=>rfl)) (zag (pe_ix zap (pv 0) zac (λ_ _=>rfl)) (zag (pe_ix zap (pv 1) zac (λ_ _=>rfl)) zab))))) (pe_un zct zac) (zaq _))
   (zaf (zaj pe_bl))
   zaw)
   (zaf (zaj (zaQ op_eq (pe_op zaJ (pC g__law_side_of hr (zag (pe_ix zap (pv 1) zac (λ_ _=>rfl)) (zag (pe_ix zap (pv 1) zac (λ_ _=>rfl)) (zag (pe_ix zap (pv 0) zac (λ_ _=>rfl)) zab)))) (pC g__law_side_of hr (zag (pe_ix zap (pv 1) zac (λ_ _=>rfl)) (zag (pe_ix zap (pv 1) zac (λ_ _=>rfl)) (zag (pe_ix zap (pv 0) zac (λ_ _=>rfl)) zab))))) (pe_un zct zac) (zaq _))))),?_⟩
  obtain⟨D,p,q,rfl,hD,hp,hq⟩:=id h1;obtain⟨F,x,y,rfl,hF,hx,hy⟩:=id h2;have bd:=λz=>zl7 z
  refine⟨_,rfl,D,_,_,_,rfl,rfl,SqT.of hD,zah (j:=0) rfl,_,rfl,D,_,_,_,rfl,rfl,SqT.of hD,zah (j:=1) rfl,_,rfl,F,_,_,_,rfl,rfl,SqT.of hF,zah (j:=0) rfl,?_⟩;refine⟨p,q,x,sd.1,sd.2,t.1,rfl,hp,hq,hx,hL _ l1.2 _ l1.1,?_⟩;refine⟨_,rfl,D,_,_,_,rfl,rfl,SqT.of hD,zah (j:=0) rfl,_,rfl,D,_,_,_,rfl,rfl,SqT.of hD,zah (j:=1) rfl,_,rfl,F,_,_,_,rfl,rfl,SqT.of hF,zah (j:=1) rfl,?_⟩;refine⟨p,q,y,sd.1,sd.2,t.2,rfl,hp,hq,hy,hL _ l1.2 _ l1.1,?_⟩;have b1:=bd (crs sd.1 sd.2 t.1);have e1:=ziU (crs sd.1 sd.2 t.1) (crs sd.1 sd.2 t.2);have e2:=ziU (crs t.1 t.2 sd.1) (crs t.1 t.2 sd.2);have vI:∀z:Int,decide (V.int z=V.int (-1))=decide (z=-1):=λz=>by rw[decide_eq_decide];exact⟨λq=>by injection q,λq=>by rw[q]⟩
  unfold TH.cross TH.parts at k;refine⟨_,_,rfl,rfl,.inl ⟨by lia,by lia⟩,_,rfl,rfl,_,rfl,?_⟩
  by_cases hc:crs sd.1 sd.2 t.1*crs sd.1 sd.2 t.2<0
  .rw[decide_eq_true hc]at e1 k;refine iteN (show (!decide (V.int (sgn (crs sd.1 sd.2 t.1)*sgn (crs sd.1 sd.2 t.2))=V.int (-1)))=false by rw[vI,e1];rfl) ?_
   rw[Bm]at k;have b2:=bd (crs t.1 t.2 sd.1);refine⟨_,rfl,F,_,_,_,rfl,rfl,SqT.of hF,zah (j:=0) rfl,_,rfl,F,_,_,_,rfl,rfl,SqT.of hF,zah (j:=1) rfl,_,rfl,D,_,_,_,rfl,rfl,SqT.of hD,zah (j:=0) rfl,?_⟩;refine⟨x,y,p,t.1,t.2,sd.1,rfl,hx,hy,hp,hL _ l2.2 _ l2.1,?_⟩;refine⟨_,rfl,F,_,_,_,rfl,rfl,SqT.of hF,zah (j:=0) rfl,_,rfl,F,_,_,_,rfl,rfl,SqT.of hF,zah (j:=1) rfl,_,rfl,D,_,_,_,rfl,rfl,SqT.of hD,zah (j:=1) rfl,?_⟩;refine⟨x,y,q,t.1,t.2,sd.2,rfl,hx,hy,hq,hL _ l2.2 _ l2.1,?_⟩;refine⟨_,_,rfl,rfl,.inl ⟨by lia,by lia⟩,_,rfl,rfl,?_⟩;show Q (V.bl (decide (V.int (sgn (crs t.1 t.2 sd.1)*sgn (crs t.1 t.2 sd.2))=V.int (-1)))) H;rw[vI,e2];exact k
  .rw[decide_eq_false hc]at e1 k;refine iteY (show (!decide (V.int (sgn (crs sd.1 sd.2 t.1)*sgn (crs sd.1 sd.2 t.2))=V.int (-1)))=true by rw[vI,e1];rfl) ?_
   rw[BC]at k;exact k
end
end RR
set_option maxHeartbeats 4000000
namespace RR
open PySem L2 RP
noncomputable def pvR(q:V×V)(v:V)(H:Hp):Prop:=∃b,v=.ref b/\H b=some (.tup [q.1,q.2])
theorem zfJ:∀(l:List (V×V)){σ:St}{H:Hp}{Q:List V->Hp->Prop},(∀ts H',Same H H'->VR ts l pvR H'->Q ts H')->tPrs l σ H Q
 |[],σ,H,Q,h=>h [] H (Same.refl _) VR.nil
 | (a,b)::r,σ,H,Q,h=>by
  refine⟨two,λp hp=>?_⟩;refine zfJ r λts H' s' v'=>h _ _ ((Same.up hp).trans s') (VR.cons.mpr ⟨⟨p,rfl,s' _ _ zaa⟩,v'⟩)
noncomputable def mvs:List Cell:=[(1,0),(1,1),(0,1),(-1,1),(-1,0),(-1,-1),(0,-1),(1,-1)]
theorem zmh{n:Nat}(h:n<8):mvs[n]?=some (mv n):=(by decide:∀n<8,mvs[n]?=some (mv n)) n h
noncomputable def prsC(l:List Cell):List (V×V):=l.map λq=>(.int q.1,.int q.2)
theorem VR.prsC{ts:List V}{l:List Cell}{H:Hp}(h:VR ts (prsC l) pvR H):VR ts l cR H:=by
 refine⟨h.1.trans (Af ..),λi q v h1 h2=>?_⟩;obtain⟨q',hq,b,rfl,hb'⟩:=h.at h2;have:(RR.prsC l)[i]?=some (.int q.1,.int q.2):=by unfold RR.prsC;rw[Az,h1];rfl
 rw[this]at hq
 cases hq
 exact⟨b,rfl,hb'⟩
noncomputable def getEs:List Stmt->List Expr
 |[_,.For _ _ [.Assign _ (.Subscript (.List es _) _ _) _,_] _ _,_]=>es
 |_=>[]
noncomputable def setEs(es:List Expr):List Stmt->List Stmt
 |[a,.For t i [.Assign tt (.Subscript (.List _ p) ix q) r,b] o u,c]=>[a,.For t i [.Assign tt (.Subscript (.List es p) ix q) r,b] o u,c]
 |l=>l
noncomputable def prs8:List (V×V):=[(.int 1,.int 0),(.int 1,.int 1),(.int 0,.int 1),(.int (-1),.int 1),(.int (-1),.int 0),(.int (-1),.int (-1)),(.int 0,.int (-1)),(.int 1,.int (-1))]
theorem read8{l8:List (V×V)}(hl:prs8=l8){σ:St}{H:Hp}{Q:V->Hp->Prop}(k:∀ts lq H',Same H H'->H' lq=some (.lst ts)->VR ts mvs cR H'->Q (.ref lq) H'):tLst (tPrs l8) σ H Q:=by
 subst hl;show tPrs (prsC mvs) σ H _;refine zfJ _ λts H1 s1 v1=>⟨by rw[v1.1];decide,λp hp=>?_⟩
 refine k ts p _ (s1.trans (Same.up hp)) zaa (VR.prsC (v1.mono λx v h=>?_));obtain⟨b,rfl,hb⟩:=h;exact⟨b,rfl,Same.up hp _ _ hb⟩
theorem VR.last{us:List V}{sp:List Cell}{H:Hp}{c:Cell}(h:VR us sp cR H)(hl:sp.getLast?=some c):∃v,atI us (-1)=some v/\cR c v H:=by
 rw[List.getLast?_eq_getElem?]at hl;have hi:=(Ab.mp hl).1;obtain⟨v,hv⟩:∃v,us[sp.length-1]?=some v:=⟨_,Aa (by rw[h.1];exact hi)⟩;refine⟨v,?_,h.2 _ c _ hl hv⟩;have e:us.getLast?=some v:=by rw[List.getLast?_eq_getElem?,h.1];exact hv
 obtain⟨ys,rfl⟩:=List.getLast?_eq_some_iff.mp e;exact zhT _ _
section
variable {P:AK}{w:A1}{K:W.Frag}{mg:Str->Option Ad}{base:Heap}
theorem zf1 (d:Df K mg "_law_spots" zaW ["_law_one"]):FnOk P w K mg base CX0 1 d.f d.fd ["_law_one"] (zce K):=by
 refine d.F.ok zbk (λvs H Q E h=>?_) (λcdv A outer s H vs Q E hr h=>?_)
 .obtain⟨v,r,rfl,_⟩:=h;rfl
 .obtain⟨v,r,rfl,⟨a,b,rfl,q1,q2⟩,h8,hlen,k⟩:=h;have e:zaR zaW=setEs (getEs (zaR zaW)) (zaR zaW):=by rfl
  have hps:IsPs (getEs (zaR zaW)) prs8:=.cons .int .int (.cons .int .int (.cons .int .int (.cons .neg .int (.cons .neg .int (.cons .neg .neg (.cons .int .neg (.cons .int .neg .nil)))))));rw[e];generalize getEs (zaR zaW)=es at hps ⊢;clear e;generalize hp8:prs8=l8 at hps
  refine⟨_,(zad (sE 1 zbk.nd (zaA (pa_T (za8 (zag (pe_ix zap (pv 0) zac (λ_ _=>rfl)) (zag (pe_ix zap (pv 0) zac (λ_ _=>rfl)) zab))) zab)))
   (zad (zbq AY rfl (zi8 (zax ziT (pe_ix zap (pv 0) zac (λ_ _=>rfl)) zaN (zaI (pe_un zct zac)))) (nG 2 zbk.nd)
   (zad (zbX (pe_ix zat (zaA (zkm hps)) (pv 2) (λ_ _=>rfl)) (zbr (by rfl) (zai (nG 3 zbk.nd) (zai (nG 4 zbk.nd) zaC))))
   (zaf (zcA (pe_bm Bj BE BF zbP (pv 1) (pa_T (za8 (pa_B (pe_op zaK (pe_ix zap (pe_ix zat (pv 1) (pe_un zct zac) (λ_ _=>rfl)) zac (λ_ _=>rfl)) (pv 3)) (pa_B (pe_op zaK (pe_ix zap (pe_ix zat (pv 1) (pe_un zct zac) (λ_ _=>rfl)) zac (λ_ _=>rfl)) (pv 4)) zab))) zab))))))
   (zaf (zaj (pv 1))))),?_⟩
  refine⟨_,rfl,a,_,_,_,rfl,rfl,SqT.of q1,zah (j:=1) rfl,_,rfl,a,_,_,_,rfl,rfl,SqT.of q1,zah (j:=2) rfl,two,λt1 h1=>?_⟩;have s1:=Same.up (o:=.tup [.int r.x,.int r.y]) h1;have e1:upd H t1 (.tup [.int r.x,.int r.y]) t1=some (.tup [.int r.x,.int r.y]):=zaa;generalize upd H t1 (.tup [.int r.x,.int r.y])=H1 at s1 e1;refine⟨(by show 1<=sizeLine;decide),λl hl=>?_⟩;have s2:=Same.up (o:=.lst [.ref t1]) hl;have e2:upd H1 l (.lst [.ref t1]) l=some (.lst [.ref t1]):=zaa;generalize upd H1 l (.lst [.ref t1])=H2 at s2 e2;have s12:=s1.trans s2;have hl0:H l=none:=s1.free hl;have hv2:VR [V.ref t1] (zaH (r.x,r.y) (r.row.dropLast.take 0)) cR H2:=VR.cons.mpr ⟨⟨t1,rfl,s2 _ _ e1⟩,VR.nil⟩;refine zfH (D:=λb' H3=>Same H2 H3/\H3 b'=some (.tup (rowV r.row.dropLast))) ?C (λmain=>⟨_,rfl,a,_,_,_,rfl,rfl,SqT.of (s12 _ _ q1),zah (j:=3) rfl,_,rfl,_,rfl,b,_,rfl,SqT.of (s12 _ _ q2),?w1,?w2⟩) ?h
  case w2 =>
   intro hw b' hb';have s3:=Same.up (o:=.tup (cutV (rowV r.row) none (some (-1)))) hb';have e3:upd H2 b' (.tup (cutV (rowV r.row) none (some (-1)))) b'=some (.tup (cutV (rowV r.row) none (some (-1)))):=zaa;generalize upd H2 b' (.tup (cutV (rowV r.row) none (some (-1))))=H3 at s3 e3 ⊢;rw[zhO]at e3;exact main b' H3 ⟨s3,e3⟩
  case w1 =>
   intro hw;refine main b H2 ⟨Same.refl _,?_⟩
   have h0:r.row.dropLast=r.row:=by
    have h2:=hw.2;unfold HT.sIx rowV at h2;simp only[Af]at h2
    have:r.row.length=0:=by rw[if_pos (by decide)]at h2;lia
    rw[List.length_eq_zero_iff.mp this];rfl
   rw[h0];exact s12 _ _ q2
  rintro b' H3 ⟨s3,hb'⟩;refine⟨b',rfl,⟨_,SqT.of hb'⟩,?_⟩
  refine zgY (K:=K) (a:=b') (xs:=rowV r.row.dropLast) (λj σ H4=>∃o2 o3 o4,σ=[some (.ref a),some (.ref l),o2,o3,o4]/\Same H H4/\KT H3 H4/\∃us,H4 l=some (.lst us)/\VR us (zaH (r.x,r.y) (r.row.dropLast.take j)) cR H4)
   ⟨_,_,_,rfl,s12.trans s3,KT.refl _,_,s3 _ _ e2,hv2.mono λx v h=>h.kt (KT.of s3)⟩ (λj σ H4 _ ⟨_,_,_,_,_,k4,us,e4,_⟩=>SqT.of (k4 _ _ hb')) ?_ ?_
  .rintro j v σ H4 hj ⟨o2,o3,o4,rfl,s4,k4,us,e4,hv4⟩;unfold rowV at hj;rw[Az]at hj;obtain⟨n,hn,rfl⟩:=Bg.mp hj;have hjl:j<r.row.dropLast.length:=(Ab.mp hn).1;rw[Bn]at hjl;have hul:us.length<=481:=by rw[hv4.1,zbS,Aq,Bn];lia
   have hn8:n<8:=h8 n (List.dropLast_subset _ (Ag hn));have hs4:=s4;have ks4:=k4;unfold gName tSeq tAsg tOp;refine read8 hp8 (λts lq G8 sA f8 hq=>?_);obtain⟨vt,hvt⟩:∃v,ts[n]?=some v:=⟨_,Aa (by rw[hq.1];exact hn8)⟩;obtain⟨t,rfl,ft⟩:=hq.2 n (mv n) vt (zmh hn8) hvt;refine⟨_,rfl,lq,_,_,_,rfl,rfl,SqL.of f8,zah hvt,t,_,rfl,SqT.of ft,rfl,_,_,rfl,_,_,rfl,rfl,?_⟩;obtain⟨vl,hvl,tl,rfl,ql⟩:=hv4.last (zeP _ _);have e48:=sA _ _ e4;refine⟨_,rfl,.inl ⟨rfl,_,SqL.of e48⟩,_,rfl,_,rfl,l,_,_,_,rfl,rfl,SqL.of e48,hvl,tl,_,_,_,rfl,rfl,SqT.of (sA _ _ ql),zah (j:=0) rfl,_,rfl,_,_,rfl,rfl,?_⟩;refine⟨_,rfl,_,rfl,l,_,_,_,rfl,rfl,SqL.of e48,hvl,tl,_,_,_,rfl,rfl,SqT.of (sA _ _ ql),zah (j:=1) rfl,_,rfl,_,_,rfl,rfl,two,λt9 h9=>?_⟩;have s9:=Same.up (o:=.tup [.int ((endC (r.x,r.y) (r.row.dropLast.take j)).1+(mv n).1),.int ((endC (r.x,r.y) (r.row.dropLast.take j)).2+(mv n).2)]) h9;have r9:cR (go (endC (r.x,r.y) (r.row.dropLast.take j)) n) (.ref t9) (upd G8 t9 (.tup [.int ((endC (r.x,r.y) (r.row.dropLast.take j)).1+(mv n).1),.int ((endC (r.x,r.y) (r.row.dropLast.take j)).2+(mv n).2)])):=⟨t9,rfl,zaa⟩;generalize upd G8 t9 (.tup [.int ((endC (r.x,r.y) (r.row.dropLast.take j)).1+(mv n).1),.int ((endC (r.x,r.y) (r.row.dropLast.take j)).2+(mv n).2)])=G9 at s9 r9;have e9:=s9 _ _ e48;have sB:=sA.trans s9;refine⟨l,us,_,rfl,rfl,e9,zal (by lia),?_⟩;rw[zau hn,zdm];exact⟨_,_,_,rfl,zas hl0 (hs4.trans sB),(ks4.trans (KT.of sB)).trans (KT.lst e9),_,zaa,hv4.snoc (λx v h=>(h.kt (KT.of sB)).kt (KT.lst e9)) (r9.kt (KT.lst e9))⟩
  .rintro σ H4 ⟨o2,o3,o4,rfl,s4,k4,us,e4,hv4⟩;rw[show (rowV r.row.dropLast).length=r.row.dropLast.length by unfold rowV;rw[Af],AX]at hv4;exact⟨_,rfl,k l H4 us hl0 s4 e4 hv4⟩
theorem zew (T:Txt P w K mg) (g__law_spots:Fn P w K mg base 1 "_law_spots" ["_law_one"] (zce K)) (g__law_is_close:Fn P w K mg base 1 "_law_is_close" ["_law_cell", "_law_one", "_law_other", "_law_bound"] (zhj K))
    (d:Df K mg "_law_is_near" zb3 ["_law_one","_law_bound","_law_corners_here"]):FnOk P w K mg base CX0 2 d.f d.fd ["_law_one","_law_bound","_law_corners_here"] (zhh K):=by
  refine d.F.ok za4 (λvs H Q E h=>?_) (λcdv A outer s H vs Q E hr h=>?_)
  . obtain⟨v,r,B,kc,ks,rfl,_⟩:=h;rfl
  . obtain⟨v,r,B,kc,ks,rfl,hv,h8,hlen,hk,hg,b0,b1,k⟩:=h
    refine⟨_,(zad (sE 3 za4.nd (pC g__law_spots hr (pa_N (pv 0) zab)))
      (zad (zbq AY rfl (zdD (by rfl) T.nzip (pa_N (pv 2) (pa_B (pe_op za5 (zax zaP (pv 2) (zaI zac) zaN) (zaA (zag (zak zan (by rfl) T.nlen (by rfl) (pa_N (pv 3) zab)) zab))) zab))) (zbr (by rfl) (zai (nG 4 za4.nd) (zai (nG 5 za4.nd) zaC)))
      (zaf (zbq AY rfl (zdb (by rfl) T.nrange (pa_B (pe_op zaK (pv 4) zac) (pa_N (pv 5) zab))) (nG 6 za4.nd)
      (zaf (ps_if (zcs (zbA (pC g__law_is_close hr (zag (pe_ix zat (pv 3) (pv 6) (λ_ _=>rfl)) (zag (pe_ix zat (pv 3) (pv 4) (λ_ _=>rfl)) (zag (pe_ix zat (pv 3) (pe_op zbY (pv 5) (zak zan (by rfl) T.nlen (by rfl) (pa_N (pv 3) zab))) (λ_ _=>rfl)) (pa_N (pv 1) zab)))))))
      (zaf (zaj pe_bl))
      zaw)))))
      (zaf (zaj pe_bl)))),?_⟩
    refine⟨_,rfl,v,r,rfl,hv,h8,hlen,λa H1 us ha s1 e1 hus=>?_⟩;have hul:=hus.1;have hne:=hg.1;have hgl:=hg.2.1;have hpos:0<ks.length:=Bf.mpr hne;have hrl:(rowV ks).length=ks.length:=by unfold rowV;rw[Af]
    have hspl:=zfK hlen;have hsp0:0<(spo r).length:=by rw[zaG];lia
    have hfl:=ziC h8 hlen;refine⟨_,rfl,_,rfl,_,rfl,kc,_,rfl,s1.seq hk,λp hp=>?_⟩;have s2:=Same.up (o:=.lst (cutV (rowV ks) (some 1) none)) hp;have e2:upd H1 p (.lst (cutV (rowV ks) (some 1) none)) p=some (.lst (cutV (rowV ks) (some 1) none)):=zaa;generalize upd H1 p (.lst (cutV (rowV ks) (some 1) none))=H2 at s2 e2 ⊢;rw[show cutV (rowV ks) (some 1) none=(rowV ks).drop 1 from zcN _ (j:=1) (by rw[hrl];lia)]at e2;refine⟨_,rfl,a,_,rfl,.inl (SqL.of (s2 _ _ e1)),(by show 1<=sizeLine;decide),λl hl=>?_⟩;have s3:=Same.up (o:=.lst [.int us.length]) hl;have e3:upd H2 l (.lst [.int us.length]) l=some (.lst [.int us.length]):=zaa;generalize upd H2 l (.lst [.int us.length])=H3 at s3 e3 ⊢;refine⟨p,l,_,_,rfl,rfl,s3 _ _ e2,e3,Bc (zal (by rw[AE,hrl];simp;lia)),λz hz=>?_⟩;have s4:=Same.up (o:=.lst ((rowV ks).drop 1++[.int us.length])) hz;have e4:upd H3 z (.lst ((rowV ks).drop 1++[.int us.length])) z=some (.lst ((rowV ks).drop 1++[.int us.length])):=zaa;generalize upd H3 z (.lst ((rowV ks).drop 1++[.int us.length]))=H4 at s4 e4 ⊢;have s14:=s2.trans (s3.trans s4);have s04:=s1.trans s14
    have en:(rowV ks).drop 1++[V.int us.length]=rowV (nxs ks (spo r).length):=by unfold rowV nxs;rw[Ax,List.map_drop,hul];rfl
    rw[en]at e4;have hk4:=s04.seq hk;have e14:=s14 _ _ e1;have hus4:=hus.mono λx v h=>h.kt (KT.of s14)
    refine⟨kc,z,rfl,⟨_,hk4⟩,⟨_,SqL.of e4⟩,?_⟩
    refine zcD (K := K) (a := kc) (b := z) (xs := rowV ks) (ys := rowV (nxs ks (spo r).length)) (λm σ H5 => ∃o4 o5 o6, σ = [some v, some (.int B), some (.ref kc), some (.ref a), o4, o5, o6] /\ Same H4 H5 /\
        ∀(q:Nat) i j,q<m->ks[q]?=some i->(nxs ks (spo r).length)[q]?=some j->Str1 (spo r) B i j)
      ⟨_,_,_,rfl,Same.refl _,λq i j hq=>absurd hq (Cd _)⟩ (λm σ H5 _ ⟨_,_,_,_,s5,_⟩=>⟨s5.seq hk4,SqL.of (s5 _ _ e4)⟩) (by unfold rowV;rw[Af,Af,zbG hne]) ?_ ?_
    . rintro m x y σ H5 tp hx hy ⟨o4,o5,o6,rfl,s5,hall⟩ htp;unfold rowV at hx hy;rw[Az]at hx hy;obtain⟨i,hi,rfl⟩:=Bg.mp hx;obtain⟨j,hj,rfl⟩:=Bg.mp hy;obtain⟨l1,l2⟩:=hg.2.2 m i j hi hj;have s6:=Same.up (o:=.tup [.int i,.int j]) htp;have e6:upd H5 tp (.tup [.int i,.int j]) tp=some (.tup [.int i,.int j]):=zaa;generalize upd H5 tp (.tup [.int i,.int j])=H6 at s6 e6 ⊢;have s46:=s5.trans s6;refine⟨tp,_,rfl,SqT.of e6,rfl,_,_,rfl,_,_,rfl,rfl,?_⟩;refine⟨_,rfl,_,_,rfl,rfl,_,rfl,_,_,rfl,⟨by lia,by lia,by lia,by lia⟩,?_⟩
      refine zbd (lo := (i:Int) + 1) (n := ((j:Int)-((i:Int) + 1)).toNat) (λt σ H7 => ∃o6, σ = [some v, some (.int B), some (.ref kc), some (.ref a), some (.int i), some (.int j), o6] /\ Same H6 H7 /\
          ∀q,i<q->q<i+1+t->clo ((spo r).getD q (0,0)) ((spo r).getD i (0,0)) ((spo r).getD (j % (spo r).length) (0,0)) B=true)
        ⟨_,rfl,Same.refl _,λq h1 h2=>by lia⟩ ?_ ?_
      . rintro t σ H7 ht ⟨o6,rfl,s7,hin⟩;have htl:i+1+t<j:=by lia
        have s47:=s46.trans s7;have hi':i<(spo r).length:=by lia
        have hq':i+1+t<(spo r).length:=by lia
        have hm':j % (spo r).length<(spo r).length:=Nat.mod_lt _ hsp0;have hmu:j % us.length<us.length:=by rw[hul];exact hm'
        obtain⟨u1,hu1⟩:∃u,us[i+1+t]?=some u:=⟨_,Aa (by lia)⟩;obtain⟨u2,hu2⟩:∃u,us[i]?=some u:=⟨_,Aa (by lia)⟩;obtain⟨u3,hu3⟩:∃u,us[j % us.length]?=some u:=⟨_,Aa hmu⟩;have c1:cR ((spo r).getD (i+1+t) (0,0)) u1 H7:=(hus4.2 _ _ u1 (getD_some hq') hu1).kt (KT.of s47);have c2:cR ((spo r).getD i (0,0)) u2 H7:=(hus4.2 _ _ u2 (getD_some hi') hu2).kt (KT.of s47);have c3:cR ((spo r).getD (j % (spo r).length) (0,0)) u3 H7:=(hus4.2 _ _ u3 (getD_some hm') (by rw[<- hul];exact hu3)).kt (KT.of s47);have ha7:=SqL.of (K:=K) (s47 _ _ e14);refine⟨_,rfl,_,rfl,a,_,_,_,rfl,rfl,ha7,(by rw[show (i:Int)+1+(t:Int)=((i+1+t:Nat):Int) by lia];exact zah hu1),?_⟩;refine⟨_,rfl,_,rfl,a,_,_,_,rfl,rfl,ha7,zah hu2,?_⟩;refine⟨_,rfl,_,rfl,_,rfl,a,_,rfl,.inl ha7,_,_,rfl,rfl,(by show (0:Int)<us.length;lia),a,_,_,_,rfl,rfl,ha7,(by rw[<- Int.natCast_emod];exact zah hu3),?_⟩;refine⟨_,rfl,u1,u2,u3,_,_,_,B,rfl,c1,c2,c3,hfl.df (za3 hq') (za3 hi'),hfl.df (za3 hm') (za3 hi'),hfl.df (za3 hq') (za3 hm'),b0,b1,?_⟩;refine⟨_,rfl,?_⟩
        cases hb:clo ((spo r).getD (i+1+t) (0,0)) ((spo r).getD i (0,0)) ((spo r).getD (j % (spo r).length) (0,0)) B with
        |true =>
          refine iteN (by rfl) ?_
          refine⟨_,rfl,s7,λq h1 h2=>?_⟩;rcases A3 q (i+1+t) with z |z
          . exact hin q h1 z
          . have:q=i+1+t:=by lia
            rw[this];exact hb
        |false =>
          refine iteT ?_
          refine k false H7 (s04.trans s47) ⟨(λz=>by cases z),λhN=>?_⟩;have:=hN m i j hi hj (i+1+t) (by lia) htl;rw[hb]at this;exact this
      . rintro σ H7 ⟨o6,rfl,s7,hin⟩;refine⟨_,_,_,rfl,s46.trans s7,λq i' j' hq h1 h2=>?_⟩;rcases A3 q m with z |z
        . exact hall q i' j' z h1 h2
        . have:q=m:=by lia
          subst this;rw[hi]at h1;rw[hj]at h2
          cases h1
          cases h2
          exact λt h1 h2=>hin t h1 (by lia)
    . rintro σ H5 ⟨o4,o5,o6,rfl,s5,hall⟩;refine k true H5 (s04.trans s5) ⟨λ_ m i j h1 h2=>hall m i j ?_ h1 h2,λ_=>rfl⟩;rw[hrl];exact (Ab.mp h1).1
open PySem L2 RP TH
noncomputable def lsf(sp:List Cell)(p:Nat×Nat):TH.Side:=(sp.getD p.1 (0,0),sp.getD p.2 (0,0))
theorem lsd(sp:List Cell):∀ks:List Nat,(∀k∈ks,k<sp.length)->(ks.zip (ks.drop 1++[0])).map (lsf sp)=sds sp ks
 |[],_=>rfl
 |[a],_=>by
  show [lsf sp (a,0)]=[sdO sp (a,sp.length)];unfold lsf sdO;rw[Nat.mod_self]
 |a::b::r,h=>by
  have ih:=lsd sp (b::r) (λk hk=>h k (Ao _ hk));show lsf sp (a,b)::((b::r).zip ((b::r).drop 1++[0])).map (lsf sp)=sdO sp (a,b)::sds sp (b::r);rw[ih]
  congr 1
  unfold lsf sdO;rw[Nat.mod_eq_of_lt (h b (Ao _ Ay))]
theorem Good.lt{ks:List Nat}{n:Nat}(h:Good ks n):∀k∈ks,k<n:=λk hk=>by
 obtain⟨m,hm,e⟩:=AM hk;have h1:ks[m]?=some k:=by rw[Aa hm,e]
 have h2:m<(nxs ks n).length:=by rw[zbG h.1];exact hm
 obtain⟨l1,l2⟩:=h.2.2 m k _ h1 (Aa h2);lia
theorem Good.zer{ks:List Nat}{n:Nat}(h:Good ks n):∀k∈ks.drop 1++[0],k<n:=λk hk=>by
 rcases Ba.mp hk with z |z
 .exact h.lt k (CP z)
 .have:k=0:=by simpa using z
  obtain⟨x,hx⟩:=List.exists_mem_of_ne_nil _ h.1;have:=h.lt x hx;lia
theorem VR.app2{α:Type}{us vs:List V}{l m:List α}{R:α->V->Hp->Prop}{H:Hp}(h1:VR us l R H)(h2:VR vs m R H):VR (us++vs) (l++m) R H:=by
 refine⟨by rw[Aj,Aj,h1.1,h2.1],λi x v e1 e2=>?_⟩;rcases A3 i l.length with hi |hi
 .rw[Am hi]at e1;rw[Am (by rw[h1.1];exact hi)]at e2;exact h1.2 i x v e1 e2
 .rw[Au hi]at e1;rw[Au (by rw[h1.1];exact hi),h1.1]at e2;exact h2.2 _ x v e1 e2
theorem ziR{n:Nat}(h:n<=2000):n<=sizeLine:=AF h (by decide)
theorem zf2 (T:Txt P w K mg) (g__law_spots:Fn P w K mg base 1 "_law_spots" ["_law_one"] (zce K)) (d:Df K mg "_law_sides" zbW ["_law_some","_law_thinning"]):FnOk P w K mg base CX0 2 d.f d.fd ["_law_some","_law_thinning"] (zcG K):=by
 refine d.F.ok zbl (λvs H Q E h=>?_) (λcdv A outer s H vs Q E hr h=>?_)
 .obtain⟨a,b,rs,ts,R,TT,rfl,_⟩:=h;rfl
 .obtain⟨a,b,rs,ts,R,TT,rfl,ha,hR,hb,hT,th,k⟩:=h;have nb0:(["_law_first","_law_behind","_law_spots_here"]:List Str).Nodup:=by decide +kernel
  refine⟨_,(zad (sE 2 zbl.nd (zaA zab))
   (zad (zbq AY rfl (zdD (by rfl) T.nzip (pa_N (pv 0) (pa_N (pv 1) zab))) (zbr (by rfl) (zai (nG 3 zbl.nd) (zai (nG 4 zbl.nd) zaC)))
   (zad (zda (i:=5) zbl.nd (by rfl) (Or.inr rfl) (pC g__law_spots hr (pa_N (pv 3) zab)))
   (zaf (zcA (pe_bm Bj PySem.F.slot_list_extend PySem.F.type_list_extend zjm (pv 2) (zag (zaF (osc:=zae zbW) (N:=zdG) (N':=["_law_first","_law_behind","_law_spots_here"]) (sel:=[none,none,some 5]) bO (zdD (by rfl) T.nzip (pa_N (pv 4) (pa_B (pe_op za5 (zax zaP (pv 4) (zaI zac) zaN) (zaA (pa_C zac zab))) zab))) (λ_ _ _ _ _=>(zbo (K:=K) (n:=2) (by rfl) (zai (nG 0 nb0) (zai (nG 1 nb0) zaC)))) (λ_ _ _ _ _=>zaL) (λ_ _ _ _ _=>(za8 (zag (pe_ix (zcn (K:=K)) (pv 2) (pv 0) (λ_ _=>rfl)) (zag (pe_ix (zcn (K:=K)) (pv 2) (pv 1) (λ_ _=>rfl)) zab))))) zab))))))
   (zaf (zaj (pv 2))))),?_⟩
  refine⟨(by show 0<=sizeLine;decide),λg hg=>?_⟩;have hle:rs.length=ts.length:=by rw[hR.1,hT.1,th.len]
  have s1:=Same.up (o:=.lst []) hg;have e1:upd H g (.lst []) g=some (.lst []):=zaa;generalize upd H g (.lst [])=H1 at s1 e1 ⊢;refine⟨_,rfl,_,rfl,a,b,rfl,⟨_,SqL.of (s1 _ _ ha)⟩,⟨_,SqL.of (s1 _ _ hb)⟩,?_⟩
  refine zcD (K:=K) (a:=a) (b:=b) (xs:=rs) (ys:=ts) (λm σ H3=>∃o3 o4 o5,σ=[some (.ref a),some (.ref b),some (.ref g),o3,o4,o5]/\Same H H3/\∃zs,H3 g=some (.lst zs)/\VR zs (allS ((R.map spo).take m) (TT.take m)) sideR H3)
   ⟨_,_,_,rfl,s1,[],e1,VR.nil⟩ (λm σ H3 _ ⟨_,_,_,_,s3,_⟩=>⟨SqL.of (s3 _ _ ha),SqL.of (s3 _ _ hb)⟩) hle ?_ ?_
  .rintro m x y σ H3 t hx hy ⟨o3,o4,o5,rfl,s3,zs,e3,hz⟩ ht;obtain⟨r,hr1,hxr⟩:=hR.at hx;obtain⟨ks,hk1,c,rfl,hc⟩:=hT.at hy;have hgd:=th.crn m r ks hr1 hk1;have hrow:=th.row r (Ag hr1);have hsp:(R.map spo)[m]?=some (spo r):=by rw[Az,hr1];rfl
   have hat:=zeh (R.map spo) TT m _ _ hsp hk1;have hal:=zg0 (R.map spo) TT (m+1);have hal9:=th.all;have s4:=Same.up (o:=.tup [x,.ref c]) ht;have e4t:upd H3 t (.tup [x,.ref c]) t=some (.tup [x,.ref c]):=zaa;generalize upd H3 t (.tup [x,.ref c])=H4 at s4 e4t;have s04:=s3.trans s4;refine⟨t,_,rfl,SqT.of e4t,rfl,_,_,rfl,_,_,rfl,rfl,?_⟩;refine⟨_,rfl,x,r,rfl,hxr.kt (KT.of s04),hrow.1,hrow.2,λpS H5 us hpS s5 e5 hus=>?_⟩;have hul:=hus.1;have s05:=s04.trans s5;have e5g:=(s4.trans s5) _ _ e3;have hrl:(rowV ks).length=ks.length:=by unfold rowV;rw[Af]
   have hkpos:0<ks.length:=Bf.mpr hgd.1;have hgl:=hgd.2.1;have c5:=s05 _ _ hc;refine⟨_,rfl,.inl ⟨rfl,_,SqL.of e5g⟩,?_⟩;refine⟨_,rfl,_,rfl,_,rfl,c,_,rfl,SqL.of c5,λp hp=>?_⟩;have s6:=Same.up (o:=.lst (cutV (rowV ks) (some 1) none)) hp;have e6:upd H5 p (.lst (cutV (rowV ks) (some 1) none)) p=some (.lst (cutV (rowV ks) (some 1) none)):=zaa;generalize upd H5 p (.lst (cutV (rowV ks) (some 1) none))=H6 at s6 e6 ⊢;rw[show cutV (rowV ks) (some 1) none=(rowV ks).drop 1 from zcN _ (j:=1) (by rw[hrl];lia)]at e6;refine⟨(by show 1<=sizeLine;decide),λl hl=>?_⟩;have s7:=Same.up (o:=.lst [.int 0]) hl;have e7:upd H6 l (.lst [.int 0]) l=some (.lst [.int 0]):=zaa;generalize upd H6 l (.lst [.int 0])=H7 at s7 e7 ⊢;refine⟨p,l,_,_,rfl,rfl,s7 _ _ e6,e7,Bc (zal (by rw[AE,hrl];simp;lia)),λz hz'=>?_⟩;have s8:=Same.up (o:=.lst ((rowV ks).drop 1++[.int 0])) hz';have e8:upd H7 z (.lst ((rowV ks).drop 1++[.int 0])) z=some (.lst ((rowV ks).drop 1++[.int 0])):=zaa;generalize upd H7 z (.lst ((rowV ks).drop 1++[.int 0]))=H8 at s8 e8 ⊢
   have en:(rowV ks).drop 1++[V.int 0]=rowV (ks.drop 1++[0]):=by unfold rowV;rw[Ax,List.map_drop];rfl
   rw[en]at e8;have s58:=s6.trans (s7.trans s8);have s08:=s05.trans s58;have c8:=s58 _ _ c5;have e58:=s58 _ _ e5;have hus8:=hus.mono λx v h=>h.kt (KT.of s58)
   refine⟨c,z,rfl,⟨_,SqL.of c8⟩,⟨_,SqL.of e8⟩,λgq hgq=>?_⟩;have hzl:(ks.drop 1++[0]).length=ks.length:=by rw[Aj,AE];simp;lia
   refine zcD (K:=K) (a:=c) (b:=z) (xs:=rowV ks) (ys:=rowV (ks.drop 1++[0])) (λq σ H9=>∃o0 o1,σ=[o0,o1,some (.ref pS)]/\Same H8 H9/\∃ws,H9 gq=some (.lst ws)/\VR ws (((ks.zip (ks.drop 1++[0])).take q).map (lsf (spo r))) sideR H9)
    ⟨_,_,rfl,Same.up hgq,[],zaa,VR.nil⟩ (λq σ H9 _ ⟨_,_,_,s9,_⟩=>⟨SqL.of (s9 _ _ c8),SqL.of (s9 _ _ e8)⟩) (by unfold rowV;rw[Af,Af,hzl]) ?_ ?_
   .rintro q u v σ H9 t' hu hv ⟨o0,o1,rfl,s9,ws,e9,hw⟩ ht';unfold rowV at hu hv;rw[Az]at hu hv;obtain⟨i,hi,rfl⟩:=Bg.mp hu;obtain⟨j,hj,rfl⟩:=Bg.mp hv;have hil:i<us.length:=by rw[hul];exact hgd.lt i (Ag hi)
    have hjl:j<us.length:=by rw[hul];exact hgd.zer j (Ag hj)
    obtain⟨ci,hci,ri⟩:=hus8.at (Aa hil);obtain⟨cj,hcj,rj⟩:=hus8.at (Aa hjl);have hij:(ks.zip (ks.drop 1++[0]))[q]?=some (i,j):=by rw[A6];exact⟨hi,hj⟩
    have hql:q<ks.length:=(Ab.mp hi).1;have s10:=Same.up (o:=.tup [.int i,.int j]) ht';have e10:upd H9 t' (.tup [.int i,.int j]) t'=some (.tup [.int i,.int j]):=zaa;generalize upd H9 t' (.tup [.int i,.int j])=H10 at s10 e10 ⊢;refine⟨t',_,rfl,SqT.of e10,rfl,_,_,rfl,_,_,rfl,rfl,?_⟩;refine zbj ?_
    have e5':=(s9.trans s10) _ _ e58;refine⟨_,rfl,_,rfl,pS,_,_,_,rfl,rfl,SqL.of e5',zah (Aa hil),_,rfl,_,rfl,pS,_,_,_,rfl,rfl,SqL.of e5',zah (Aa hjl),two,λtp htp=>?_⟩;have s11:=Same.up (o:=.tup [us[i],us[j]]) htp;have r11:sideR (ci,cj) (.ref tp) (upd H10 tp (.tup [us[i],us[j]])):=⟨tp,_,_,rfl,zaa,ri.kt (KT.of ((s9.trans s10).trans s11)),rj.kt (KT.of ((s9.trans s10).trans s11))⟩;generalize upd H10 tp (.tup [us[i],us[j]])=H11 at s11 r11;have e11:=(s10.trans s11) _ _ e9;have hwl:ws.length<=481:=by rw[hw.1,Af,Aq];lia
    refine⟨ws,e11,zal (by lia),_,_,rfl,zas hgq (s9.trans (s10.trans s11)),_,zaa,?_⟩
    have hlf:lsf (spo r) (i,j)=(ci,cj):=by unfold lsf;rw[Ak,hci,Ak,hcj];rfl
    rw[zau hij,Ax,AW,hlf];exact hw.snoc (λx v h=>(h.kt (KT.of (s10.trans s11))).kt (KT.lst e11)) (r11.kt (KT.lst e11))
   .rintro σ H9 ⟨o0,o1,rfl,s9,ws,e9,hw⟩;rw[A0 (by unfold rowV;rw[Af,C8,hzl,Nat.min_self];exact Ah _),lsd _ _ hgd.lt]at hw;have e9g:=(s58.trans s9) _ _ e5g
    have hzs:zs.length<=900:=by
     have h1:=hz.1;have h2:=congrArg List.length hat
     rw[Aj]at h2;lia
    have hws:ws.length<=481:=by rw[hw.1];unfold sds;rw[Af,zcJ];exact hgl
    have s39:=s4.trans (s5.trans (s58.trans s9));refine⟨g,gq,_,_,rfl,rfl,e9g,e9,ziR (by lia),_,_,_,rfl,zas hg (s3.trans s39),_,zaa,?_⟩;rw[hat];exact VR.app2 (hz.mono λx v h=>(h.kt (KT.of s39)).kt (KT.lst e9g)) (hw.mono λx v h=>h.kt (KT.lst e9g))
  .rintro σ H3 ⟨o3,o4,o5,rfl,s3,zs,e3,hz⟩;rw[A0 (by rw[Af,hR.1];exact Ah _),A0 (by rw[hle,hT.1];exact Ah _)]at hz;exact⟨_,rfl,k g H3 zs hg s3 e3 hz⟩
noncomputable def zcq(R:List Rnd)(TT:List (List Nat))(B:Int):Prop:=∀(m:Nat) r ks,R[m]?=some r->TT[m]?=some ks->Near (spo r) B ks
noncomputable def NoXu(L:List TH.Side)(m:Nat):Prop:=∀i j a b,i<m->j<i->L[i]?=some a->L[j]?=some b->TH.cross a b=false
theorem zgU{L:List TH.Side}:NoX L ↔ NoXu L L.length:=by
 unfold NoX NoXu;rw[List.pairwise_iff_getElem];constructor
 .intro h i j a b hi hj ha hb;obtain⟨h1,rfl⟩:=Ab.mp ha;obtain⟨h2,rfl⟩:=Ab.mp hb;rw[TH.cross_comm];exact h j i h2 h1 hj
 .intro h j i h1 h2 hj;rw[TH.cross_comm];exact h i j _ _ h2 hj (Aa h2) (Aa h1)
theorem zhP(us:List V){m:Nat}(h:m<=us.length):cutV us none (some (m:Int))=us.take m:=zhN us h
noncomputable def ze6(K:W.Frag):Sp:=λvs H Q _=>∃(a b:Addr) (rs ts:List V) (R:List Rnd) (TT:List (List Nat)) (B:Int) (L:List Cell),vs=[.ref a,.int B,.ref b]/\H a=some (.lst rs)/\VR rs R rR H/\H b=some (.lst ts)/\VR ts TT thR H/\Thn R TT/\0<=B/\B<=1000000/\Dfs L/\(∀t∈allS (R.map spo) TT,Dsd L t) /\
 ∀bb H',Same H H'->(bb=true ↔ zcq R TT B/\NoX (allS (R.map spo) TT))->Q (.bl bb) H'
theorem zf3 (T:Txt P w K mg) (g__law_is_near:Fn P w K mg base 2 "_law_is_near" ["_law_one", "_law_bound", "_law_corners_here"] (zhh K)) (g__law_sides:Fn P w K mg base 2 "_law_sides" ["_law_some", "_law_thinning"] (zcG K))
    (g__law_do_cross:Fn P w K mg base 2 "_law_do_cross" ["_law_one","_law_other"] zhi) (d:Df K mg "_law_holds" zbw ["_law_some","_law_bound","_law_thinning"]):FnOk P w K mg base CX0 3 d.f d.fd ["_law_some","_law_bound","_law_thinning"] (ze6 K):=by
  refine d.F.ok zbC (λvs H Q E h=>?_) (λcdv A outer s H vs Q E hr h=>?_)
  . obtain⟨a,b,rs,ts,R,TT,B,L,rfl,_⟩:=h;rfl
  . obtain⟨a,b,rs,ts,R,TT,B,L,rfl,ha,hR,hb,hT,th,b0,b1,dL,sL,k⟩:=h;have nb0:(["_law_one","_law_corners_here","_law_bound"]:List Str).Nodup:=by decide +kernel
    have nb1:(["_law_other","_law_side"]:List Str).Nodup:=by decide +kernel
    refine⟨_,(zad (ps_if (zcs (zbA (zak (zbz rfl) (by rfl) T.nall (by rfl) (zag (zaF (osc:=zae zbw) (N:=zcF) (N':=["_law_one","_law_corners_here","_law_bound"]) (sel:=[none,none,some 1]) bO (zdD (by rfl) T.nzip (pa_N (pv 0) (pa_N (pv 2) zab))) (λ_ _ _ _ _=>(zbo (K:=K) (n:=2) (by rfl) (zai (nG 0 nb0) (zai (nG 1 nb0) zaC)))) (λ_ _ _ _ _=>zaL) (λ_ _ _ _ _=>(pC g__law_is_near hr (pa_N (pv 0) (pa_N (pv 2) (pa_N (pv 1) zab)))))) zab))))
      (zaf (zaj pe_bl))
      zaw)
      (zad (sE 3 zbC.nd (pC g__law_sides hr (pa_N (pv 0) (pa_N (pv 2) zab))))
      (zad (zbq AY rfl (zi9 (by rfl) T.nenumerate (pa_N (pv 3) zab)) (zbr (by rfl) (zai (nG 4 zbC.nd) (zai (zfh (i:=5) zbC.nd (by rfl) (Or.inr rfl)) zaC)))
      (zaf (ps_if (zbA (zak (zef rfl) (by rfl) T.nany (by rfl) (zag (zaF (osc:=zae zbw) (N:=zcF) (N':=["_law_other","_law_side"]) (sel:=[none,some 5]) bO (zaM (zax zaP (pv 3) zaN (zaI (pv 4)))) (λ_ _ _ _ _=>(nG 0 nb1)) (λ_ _ _ _ _=>zaL) (λ_ _ _ _ _=>(pC g__law_do_cross hr (pa_N (pv 1) (pa_N (pv 0) zab))))) zab)))
      (zaf (zaj pe_bl))
      zaw)))
      (zaf (zaj pe_bl))))),?_⟩
    have hle:rs.length=ts.length:=by rw[hR.1,hT.1,th.len]
    refine⟨_,rfl,_,rfl,a,b,rfl,⟨_,SqL.of ha⟩,⟨_,SqL.of hb⟩,λg hg=>?_⟩
    refine zcD (K := K) (a := a) (b := b) (xs := rs) (ys := ts) (λm σ H3 => ∃o0 o1, σ = [o0, o1, some (.int B)] /\ Same H H3 /\ ∃bs:List Bool, H3 g=some (.lst (bs.map V.bl)) /\ bs.length=m /\
        (bs.all id=true ↔ ∀(q:Nat) r ks,q<m->R[q]?=some r->TT[q]?=some ks->Near (spo r) B ks))
      ⟨_,_,rfl,Same.up hg,[],zaa,rfl,⟨λ_ q _ _ hq=>absurd hq (Cd _),λ_=>rfl⟩⟩ (λm σ H3 _ ⟨_,_,_,s3,_⟩=>⟨SqL.of (s3 _ _ ha),SqL.of (s3 _ _ hb)⟩) hle ?_ ?_
    . rintro m x y σ H3 t hx hy ⟨o0,o1,rfl,s3,bs,e3,hbl,hbs⟩ ht;obtain⟨r,hr1,hxr⟩:=hR.at hx;obtain⟨ks,hk1,c,rfl,hc⟩:=hT.at hy;have hgd:=th.crn m r ks hr1 hk1;have hrow:=th.row r (Ag hr1);have hml:m<R.length:=(Ab.mp hr1).1;have hfew:=th.few;have s4:=Same.up (o:=.tup [x,.ref c]) ht;have e4t:upd H3 t (.tup [x,.ref c]) t=some (.tup [x,.ref c]):=zaa;generalize upd H3 t (.tup [x,.ref c])=H4 at s4 e4t;have s04:=s3.trans s4;refine⟨t,_,rfl,SqT.of e4t,rfl,_,_,rfl,_,_,rfl,rfl,?_⟩;refine zbj ?_
      refine⟨_,rfl,_,rfl,_,rfl,x,r,B,c,ks,rfl,hxr.kt (KT.of s04),hrow.1,hrow.2,SqL.of (s04 _ _ hc),hgd,b0,b1,λbb H5 s5 hbb=>?_⟩;have e5:=(s4.trans s5) _ _ e3;refine⟨_,e5,zal (by rw[Af,hbl];lia),_,_,rfl,zas hg (s04.trans s5),bs++[bb],(by rw[zaa,Ax];rfl),(by rw[Aj,hbl];rfl),?_⟩;rw[List.all_append,AT,hbs];constructor
      . rintro⟨h1,h2⟩ q r' ks' hq e1 e2;rcases A3 q m with z |z
        . exact h1 q r' ks' z e1 e2
        . have:q=m:=by lia
          subst this;rw[hr1]at e1;rw[hk1]at e2
          cases e1;cases e2
          exact hbb.mp (by simpa using h2)
      . intro hall;refine⟨λq r' ks' hq=>hall q r' ks' (by lia),?_⟩;have:=hbb.mpr (hall m r ks (by lia) hr1 hk1);simpa using this
    . rintro σ H3 ⟨o0,o1,rfl,s3,bs,e3,hbl,hbs⟩;refine⟨g,bs,rfl,SqL.of e3,?_⟩
      have hnr:bs.all id=true ↔ zcq R TT B:=by
        rw[hbs];constructor
        . intro h m r ks h1 h2;exact h m r ks (by rw[hR.1];exact (Ab.mp h1).1) h1 h2
        . intro h q r ks _ h1 h2;exact h q r ks h1 h2
      refine⟨_,rfl,?_⟩;refine ite2 (λhy=>?_) (λhn=>?_)
      . exact k false H3 s3 ⟨λz=>absurd z (by decide),λz=>by rw[hnr.mpr z.1]at hy;exact absurd hy (by decide)⟩
      have hN:zcq R TT B:=hnr.mp (by simpa using hn);refine⟨_,rfl,_,rfl,a,b,rs,ts,R,TT,rfl,s3 _ _ ha,hR.mono (λx v h=>h.kt (KT.of s3)),s3 _ _ hb,hT.mono (λx v h=>h.same s3),th,λpS H4 zs hpS s4 e4 hz=>?_⟩;have s04:=s3.trans s4;have hzl:zs.length<=900:=by rw[hz.1];exact th.all
      refine⟨_,rfl,pS,rfl,⟨_,SqL.of e4⟩,?_⟩
      refine zhG (K:=K) (a:=pS) (xs:=zs) (λm σ H5=>∃o4 o5,σ=[some (.ref a),some (.int B),some (.ref b),some (.ref pS),o4,o5]/\Same H4 H5/\NoXu (allS (R.map spo) TT) m)
        ⟨_,_,rfl,Same.refl _,λi j _ _ hi=>absurd hi (Cd _)⟩ (λm σ H5 _ ⟨_,_,_,s5,_⟩=>SqL.of (s5 _ _ e4)) ?_ ?_
      . rintro m y σ H5 t hy ⟨o4,o5,rfl,s5,hno⟩ ht;obtain⟨sd,hsd,hry⟩:=hz.at hy;have hml:m<zs.length:=(Ab.mp hy).1;have s6:=Same.up (o:=.tup [.int m,y]) ht;have e6t:upd H5 t (.tup [.int m,y]) t=some (.tup [.int m,y]):=zaa;generalize upd H5 t (.tup [.int m,y])=H6 at s6 e6t;refine⟨t,_,rfl,SqT.of e6t,rfl,_,_,rfl,_,_,rfl,rfl,?_⟩;have e46:=(s5.trans s6) _ _ e4;refine⟨_,rfl,_,rfl,_,rfl,pS,_,rfl,SqL.of e46,λp hp=>?_⟩;have s7:=Same.up (o:=.lst (cutV zs none (some (m:Int)))) hp;have e7:upd H6 p (.lst (cutV zs none (some (m:Int)))) p=some (.lst (cutV zs none (some (m:Int)))):=zaa;generalize upd H6 p (.lst (cutV zs none (some (m:Int))))=H7 at s7 e7 ⊢;rw[zhP zs (Bc hml)]at e7;have s47:=s5.trans (s6.trans s7);have hzt:=hz.take m;refine⟨p,rfl,⟨_,SqL.of e7⟩,λgb hgb=>?_⟩
        refine zaz (K:=K) (a:=p) (xs:=zs.take m) (λq σ H8=>∃o,σ=[o,some y]/\Same H7 H8/\H8 gb=some (.lst (((((allS (R.map spo) TT).take m).take q).map (TH.cross sd)).map V.bl)))
          ⟨_,rfl,Same.up hgb,zaa⟩ (λq σ H8 _ ⟨_,_,s8,_⟩=>SqL.of (s8 _ _ e7)) ?_ ?_
        . rintro q u σ H8 hu ⟨o,rfl,s8,e8⟩;obtain⟨sj,hsj,hru⟩:=hzt.at hu;have hql:q<(zs.take m).length:=(Ab.mp hu).1;rw[Aq]at hql;refine gN ?_
          refine⟨_,rfl,_,rfl,y,u,sd,sj,L,rfl,hry.kt (KT.of (s47.trans s8)),hru.kt (KT.of (s47.trans s8)),dL,sL _ (Ag hsd),sL _ (BO (Ag hsj)),?_⟩;refine⟨_,e8,zal (by simp;lia),_,rfl,zas hgb s8,?_⟩;rw[zaa,zau hsj,Ax,Ax];rfl
        . rintro σ H8 ⟨o,rfl,s8,e8⟩;rw[hzt.1,AX]at e8;refine⟨gb,_,rfl,SqL.of e8,?_⟩;have s48:=s47.trans s8
          have hst:NoXu (allS (R.map spo) TT) (m+1) ↔ (((allS (R.map spo) TT).take m).map (TH.cross sd)).any id=false:=by
            rw[List.any_map,List.any_eq_false];constructor
            . intro h x hx;obtain⟨j,hj,e⟩:=AM hx;rw[Aq]at hj
              have e2:(allS (R.map spo) TT)[j]?=some x:=by rw[<- e,List.getElem_take];exact Aa (by lia)
              have:=h m j sd x (by lia) (by lia) hsd e2;simpa using this
            . intro h i j a' b' hi hj e1 e2;rcases A3 i m with z |z
              . exact hno i j a' b' z hj e1 e2
              . have:i=m:=by lia
                subst this;rw[hsd]at e1
                cases e1
                have:=h b' (Ag (i:=j) (by rw[C0 hj];exact e2));simpa using this
          refine⟨_,rfl,?_⟩;refine ite2 (λhy=>?_) (λhn=>?_)
          . refine k false H8 (s04.trans s48) ⟨λz=>absurd z (by decide),λz=>?_⟩;have h1:=zgU.mp z.2;have h2:NoXu (allS (R.map spo) TT) (m+1):=λi j a' b' hi hj e1 e2=>h1 i j a' b' (Ab.mp e1).1 hj e1 e2
            rw[hst.mp h2]at hy;exact absurd hy (by decide)
          . exact⟨_,_,rfl,s48,hst.mpr (by simpa using hn)⟩
      . rintro σ H5 ⟨o4,o5,rfl,s5,hno⟩;rw[hz.1]at hno;exact k true H5 (s04.trans s5) ⟨λ_=>⟨hN,zgU.mpr hno⟩,λ_=>rfl⟩
theorem zhF{ks:List Nat}{n:Nat}(h:Crn n ks)(hl:ks.length<=481):Good ks n:=by
 have hne:ks≠[]:=λz=>by have:=h.2.1;rw[z]at this;cases this
 refine⟨hne,hl,λm i j h1 h2=>?_⟩;have hm:=(Ab.mp h1).1;have hi:=h.2.2 i (Ag h1);unfold nxs at h2;rcases A3 m (ks.drop 1).length with z |z
 .rw[Am z,Bq]at h2;obtain⟨a1,rfl⟩:=Ab.mp h1;obtain⟨a2,rfl⟩:=Ab.mp h2;have:=BM.mp h.1 m (1+m) a1 a2 (by lia);have:=h.2.2 _ (AU a2);lia
 .rw[Au z]at h2;rw[AE]at z h2;have:m-(ks.length-1)=0:=by lia
  rw[this]at h2
  cases h2
  lia
section
variable {R:List Rnd}{TT:List (List Nat)}{B:Int}{L:List Cell}{i s:Nat}{r:Rnd}{A:List Nat}{c:Nat}{Bk:List Nat}
end
theorem IsRnd.walk{C:Cell -> Bool}{b:Edge}{es:List Edge}{r:Rnd}(h:Closed C b es)(k:IsRnd (wk C es) r) :
  ∃es',Closed C (begE r) es'/\es'.Perm es/\r.row=(es'.map (stepB C)).filterMap id/\zfD (wk C es') r.so (begE r)/\r.so=sortS (wk C es')/\IsRnd (wk C es') r:=by
 obtain⟨r0,j,f,rf,⟨rb,rw',rl⟩,rx,ry,rr⟩:=id k;rw[zg5]at rf rb rl
 have ef:begE r=f:=by obtain⟨⟨x,y⟩,w⟩:=f;unfold begE;rw[rx,ry,r0];simp only at rw' ⊢;rw[rw']
 have h1:=h.rot j rf;have pm:=zkb es j;have ss:=zh3 (C:=C) pm
 have hrow:r.row=((es.drop j++es.take j).map (stepB C)).filterMap id:=by rw[rr];unfold wk;rw[<- List.map_drop,<- List.map_take,<- Ax,B3,B3];rfl
 have hb:zfD (wk C (es.drop j++es.take j)) r.so f:=⟨by rw[zg5];exact pm.mem_iff.mpr rb,by rw[rw',r0],λg hg hw=>by rw[zg5]at hg;exact rl g (pm.mem_iff.mp hg) (by rw[hw,r0])⟩
 rw[ef];refine⟨_,h1,pm,hrow,hb,by rw[r0,ss],by rw[r0,ss],0,f,by rw[zg5];exact h1.1.1,by rw[ss,<- r0];exact hb,rx,ry,?_⟩;rw[hrow,List.drop_zero,List.take_zero,Bt];unfold wk;rw[B3,B3];rfl
noncomputable def RndC(cs:List Cell)(r:Rnd):Prop:=SoOk r/\∃es,Closed (isIn cs) (begE r) es/\r.row=es.filterMap (stepB (isIn cs))
theorem Whole.rnd{cs:List Cell}{R R0:List Rnd}(p:R.Perm R0)(h:Whole cs R0):∀r∈R,RndC cs r:=λr hr=>by
 obtain⟨ESS,hP,_⟩:=h;obtain⟨i,hi,ei⟩:=AM (p.mem_iff.mp hr);have hi':i<ESS.length:=by rw[<- hP.len];exact hi
 obtain⟨⟨b,hc⟩,hrn⟩:=hP.each i ESS[i] r (Aa hi') (by rw[Aa hi,ei]);obtain⟨es',k1,k2,k3,_,k5,_⟩:=IsRnd.walk hc hrn;exact⟨(by unfold SoOk;rw[k5];exact ze8 _),es',k1,by rw[k3,B3];rfl⟩
theorem zfp{C:Cell->Bool}{e:Edge}(h:stepB C e=none):(nxt C e).c=e.c:=by unfold nxt;rw[h];rfl
theorem zfo{C:Cell->Bool}{e:Edge}{s:Nat}(h:stepB C e=some s):(nxt C e).c=go e.c s:=by unfold nxt;rw[h];show (if s % 2=1 then (⟨go e.c s,(e.w+3) % 4⟩:Edge) else ⟨go e.c s,e.w⟩).c=go e.c s;split <;> rfl
theorem zgu{C:Cell->Bool}{e:Edge}{s:Nat}(he:e.w<4)(h:stepB C e=some s):s<8:=by
 unfold stepB at h;split at h
 .cases h;lia
 .split at h
  .cases h;lia
  .cases h
inductive Lnk (C:Cell->Bool):Edge->List Edge->Prop where
 |one (e:Edge):Lnk C e []
 |more {e:Edge} {es:List Edge}:Lnk C (nxt C e) es->Lnk C e (nxt C e::es)
theorem zkR{C:Cell->Bool}:∀(es:List Edge) (e:Edge),(∀(i:Nat) f g,(e::es)[i]?=some f->(e::es)[i+1]?=some g->g=nxt C f)->Lnk C e es
 |[],e,_=>.one e
 |f::es,e,h=>by
  obtain rfl:f=nxt C e:=h 0 e f rfl rfl;exact .more (zkR es _ λi a b h1 h2=>h (i+1) a b (by simpa using h1) (by simpa using h2))
theorem Lnk.at{C:Cell->Bool}{e:Edge}{es:List Edge}(h:Lnk C e es):∀m s,((e::es).filterMap (stepB C))[m]?=some s->∃f∈e::es,stepB C f=some s/\f.c=endC e.c (((e::es).filterMap (stepB C)).take m):=by
 induction h with
 |one e =>
  intro m s hm
  cases hs:stepB C e with
  |none=>rw[Co hs]at hm;simp at hm
  |some s0 =>
   rw[Cp hs]at hm ⊢
   cases m with
   |zero=>simp at hm;subst hm;exact⟨e,Ay,hs,rfl⟩
   |succ m=>simp at hm
 |@more e es h ih =>
  intro m s hm
  cases hs:stepB C e with
  |none =>
   rw[Co hs]at hm ⊢;obtain⟨f,hf,h1,h2⟩:=ih m s hm;exact⟨f,Ao _ hf,h1,by rw[h2,zfp hs]⟩
  |some s0 =>
   rw[Cp hs]at hm ⊢
   cases m with
   |zero=>simp at hm;subst hm;exact⟨e,Ay,hs,rfl⟩
   |succ m =>
    obtain⟨f,hf,h1,h2⟩:=ih m s (by simpa using hm);refine⟨f,Ao _ hf,h1,?_⟩;rw[h2,zfo hs];rfl
theorem Lnk.end{C:Cell->Bool}{e:Edge}{es:List Edge}(h:Lnk C e es):endC e.c ((e::es).filterMap (stepB C))=(nxt C ((e::es).getLast (by simp))).c:=by
 induction h with
 |one e =>
  cases hs:stepB C e with
  |none=>rw[Co hs];exact (zfp hs).symm
  |some s0=>rw[Cp hs];exact (zfo hs).symm
 |@more e es h ih =>
  rw[List.getLast_cons (by simp),<- ih]
  cases hs:stepB C e with
  |none=>rw[Co hs,zfp hs]
  |some s0=>rw[Cp hs,zfo hs];rfl
noncomputable def IsStp(cs:List Cell)(t:TH.Side):Prop:=t.1=t.2∨∃(f:Edge) (s:Nat),IsE (isIn cs) f/\stepB (isIn cs) f=some s/\t=(f.c,go f.c s)
theorem zc5(c:Cell):∀(l:List Nat) (m:Nat),m<=l.length->(zaH c l)[m]?=some (endC c (l.take m))
 |l,0,_=>by cases l <;> rfl
 |[],m+1,h=>by simp at h
 |s::l,m+1,h=>by
  show (zaH (go c s) l)[m]?=_;rw[zc5 (go c s) l m (by simpa using h)];rfl
section
variable {cs:List Cell}{r:Rnd}
theorem RndC.facts(h:RndC cs r):isIn cs (r.x,r.y)=true/\endC (r.x,r.y) r.row=(r.x,r.y)/\(∀s∈r.row,s<8)/\∀m s,r.row[m]?=some s->∃f,IsE (isIn cs) f/\stepB (isIn cs) f=some s/\f.c=endC (r.x,r.y) (r.row.take m):=by
 obtain⟨_,es,⟨⟨h0,h1,h2,_⟩,l,hl,hn⟩,hrow⟩:=h
 cases es with
 |nil=>simp at h0
 |cons e es =>
  have eb:e=begE r:=by simpa using h0
  have ec:(r.x,r.y)=e.c:=by rw[eb];rfl
  have lst:(e::es).getLast (by simp)=l:=by rw[List.getLast_eq_getElem];exact (Ab.mp hl).2
  have lk:=zkR es e h1;have iE:∀f∈e::es,IsE (isIn cs) f:=h2;refine⟨by rw[ec];exact (iE e Ay).2.1,?_,λs hs=>?_,λm s hm=>?_⟩
  .rw[hrow,ec,lk.end,lst,hn,eb]
  .rw[hrow]at hs;obtain⟨f,hf,ef⟩:=List.mem_filterMap.mp hs;exact zgu (iE f hf).1 ef
  .rw[hrow]at hm ⊢;obtain⟨f,hf,k1,k2⟩:=lk.at m s hm;exact⟨f,iE f hf,k1,by rw[ec];exact k2⟩
theorem RndC.spot(h:RndC cs r):∀c∈spo r,c∈cs:=λc hc=>by
 obtain⟨f0,_,_,f3⟩:=h.facts;obtain⟨m,hm,e⟩:=AM hc;have hm':=hm;rw[zaG]at hm;have e1:(spo r)[m]?=some c:=by rw[Aa hm',e]
 unfold spo at e1;rw[zc5 _ _ _ (by rw[Bn];lia)]at e1
 cases m with
 |zero =>
  simp[endC]at e1;rw[<- e1];simpa[isIn]using f0
 |succ m =>
  have hl:m+1<r.row.length:=by lia
  obtain⟨f,k1,_,k3⟩:=f3 (m+1) _ (Aa hl)
  have:(r.row.dropLast.take (m+1))=r.row.take (m+1):=by
   rw[CH,List.take_take]
   congr 1
   lia
  rw[this,<- k3]at e1
  cases e1
  simpa[isIn]using k1.2.1
theorem RndC.sides(h:RndC cs r):∀t∈sds (spo r) (As (spo r).length),IsStp cs t:=λt ht=>by
 obtain⟨f0,f1,_,f3⟩:=h.facts;have hn:0<(spo r).length:=by rw[zaG];lia
 rw[<- lsd _ _ (λk hk=>Cs.mp hk)]at ht;obtain⟨⟨i,j⟩,hp,rfl⟩:=AL.mp ht;obtain⟨m,hm,e⟩:=AM hp;have e':((As (spo r).length).zip ((As (spo r).length).drop 1++[0]))[m]?=some (i,j):=by rw[Aa hm,e]
 rw[A6]at e';obtain⟨h1,h2⟩:=e';have hmn:m<(spo r).length:=by have:=(Ab.mp h1).1;rwa [A4]at this
 rw[BB hmn]at h1;have hmi:m=i:=A2 h1;subst hmi;have hmn':=hmn;rw[zaG]at hmn'
 have a1:(spo r).getD m (0,0)=endC (r.x,r.y) (r.row.dropLast.take m):=by rw[Ak];unfold spo;rw[zc5 _ _ _ (by rw[Bn];lia)];rfl
 have z0:(spo r).getD 0 (0,0)=(r.x,r.y):=by rw[Ak];unfold spo;rw[zc5 _ _ 0 (by lia)];rfl
 by_cases hr:r.row=[]
 .have hl1:(spo r).length=1:=by rw[zaG,hr];rfl
  have hm0:m=0:=by lia
  subst hm0;rw[hl1]at h2
  cases h2
  exact .inl rfl
 have hpos:0<r.row.length:=Bf.mpr hr
 have htk:r.row.dropLast.take m=r.row.take m:=by
  rw[CH,List.take_take]
  congr 1
  lia
 have hml:m<r.row.length:=by lia
 obtain⟨f,k1,k2,k3⟩:=f3 m _ (Aa hml);refine .inr ⟨f,_,k1,k2,?_⟩;rw[htk,<- k3]at a1
 have hgo:go f.c r.row[m]=endC (r.x,r.y) (r.row.take (m+1)):=by rw[k3,<- zgb,<- zau (Aa hml)]
 unfold lsf;rw[a1,hgo]
 congr 1
 rcases A3 (m+1) (spo r).length with z |z
 .rw[Am (by rw[AE,A4];lia),Bq,BB (by lia)]at h2;have hj:1+m=j:=A2 h2;subst hj;have z':=z;rw[zaG]at z';show (spo r).getD (1+m) (0,0)=_;rw[Ak,show 1+m=m+1 by lia];unfold spo;rw[zc5 _ _ _ (by rw[Bn];lia)];show endC _ _=_
  congr 1
  rw[CH,List.take_take]
  congr 1
  lia
 .rw[Au (by rw[AE,A4];lia)]at h2;have:m-((As (spo r).length).drop 1).length=0:=by rw[AE,A4];lia
  rw[this]at h2
  cases h2
  rw[zaG]at z;show (spo r).getD 0 (0,0)=_;rw[z0,A0 (by lia),f1]
end
theorem ze0{t u:TH.Side}(h:t.1=t.2):TH.cross t u=false/\TH.cross u t=false:=by
 obtain⟨a,b⟩:=t;simp only at h;subst h;have:∀x,TH.crs a a x=0:=λx=>by unfold TH.crs;simp
 have h1:TH.cross (a,a) u=false:=by unfold TH.cross parts;simp[this]
 exact⟨h1,by rw[TH.cross_comm];exact h1⟩
theorem zlb{cs:List Cell}{L:List TH.Side}(h:∀t∈L,IsStp cs t):NoX L:=by
 unfold NoX;refine List.pairwise_of_forall_mem_list λt ht u hu=>?_
 rcases h t ht with z |⟨f,s,k1,k2,rfl⟩
 .exact (ze0 z).1
 .rcases h u hu with z |⟨f',s',k1',k2',rfl⟩
  .exact (ze0 z).2
  .exact zfE k1 k1' k2 k2' (zgu k1.1 k2) (zgu k1'.1 k2')
noncomputable def allK(R:List Rnd):List (List Nat):=R.map λr=>As (spo r).length
theorem zh7(sp:List Cell)(B:Int):Near sp B (As sp.length):=λm i j h1 h2 t ht1 ht2=>by
 exfalso;have hm:m<sp.length:=by have:=(Ab.mp h1).1;rwa [A4]at this
 rw[BB hm]at h1
 cases h1
 unfold nxs at h2;rcases A3 (m+1) sp.length with z |z
 .rw[Am (by rw[AE,A4];lia),Bq,BB (by lia)]at h2
  cases h2
  lia
 .rw[Au (by rw[AE,A4];lia)]at h2;have:m-((As sp.length).drop 1).length=0:=by rw[AE,A4];lia
  rw[this]at h2
  cases h2
  lia
theorem zjW{R:List Rnd}{i:Nat}{r:Rnd}{ks:List Nat}(h1:R[i]?=some r)(h2:(allK R)[i]?=some ks):ks=As (spo r).length:=by
 unfold allK at h2;rw[Az,h1]at h2
 cases h2;rfl
theorem zfx:∀{R:List Rnd}{t:TH.Side},t∈allS (R.map spo) (allK R)->∃r∈R,t∈sds (spo r) (As (spo r).length)
 |[],t,h=>by cases h
 |r::R,t,h=>by
  rcases Ba.mp (show t∈sds (spo r) (As (spo r).length)++allS (R.map spo) (allK R) from h) with z |z
  .exact⟨r,Ay,z⟩
  .obtain⟨r',h1,h2⟩:=zfx z;exact⟨r',Ao _ h1,h2⟩
theorem zei:∀R:List Rnd,(allS (R.map spo) (allK R)).length<=(R.map (·.row.length)).sum+R.length
 |[]=>AV _
 |r::R=>by
  have ih:=zei R;have hsl:=zaG r;show (sds (spo r) (As (spo r).length)++allS (R.map spo) (allK R)).length<=_;rw[Aj]
  have:(sds (spo r) (As (spo r).length)).length=(spo r).length:=by unfold sds;rw[Af,zcJ,A4]
  rw[this,AW,Cn,AO];lia
theorem zb5:∀{R:List Rnd}{r:Rnd},r∈R->r.row.length<=(R.map (·.row.length)).sum
 |[],_,h=>by cases h
 |q::R,r,h=>by
  rw[AW,Cn];rcases At.mp h with z |z
  .subst z;lia
  .have:=zb5 z;lia
theorem zhm{sp:List Cell}{ks:List Nat}(h:∀k∈ks,k<sp.length):∀t∈sds sp ks,t.1∈sp/\t.2∈sp:=λt ht=>by obtain⟨⟨i,j⟩,hp,rfl⟩:=AL.mp ht;rw[zgF]at hp;have hi:=h i (List.of_mem_zip hp).1;exact⟨za3 hi,za3 (Nat.mod_lt _ (by lia))⟩
structure Drw (R:List Rnd) (TT:List (List Nat)) (B:Int) (L:List Cell):Prop where
 b:Thb R TT B L
 near:zcq R TT B
 nox:NoX (allS (R.map spo) TT)
theorem Drw.start{cs:List Cell}{R:List Rnd}{m st:Nat}{B:Int}(h:∀r∈R,RndC cs r)(hm:m<=60)(hl:R.length<=m)(hs:(R.map (·.row.length)).sum<=st)(hst:st<=200)(hb:Boxed m cs)(b0:0<=B)(b1:B<=1000000):Drw R (allK R) B cs:=by
 have hrow:∀r∈R,r.row.length<=200:=λr hr=>by have:=zb5 hr;lia
 have hcr:∀(i:Nat) r ks,R[i]?=some r->(allK R)[i]?=some ks->Crn (spo r).length ks/\ks.length<=481:=λi r ks h1 h2=>by rw[zjW h1 h2];have h3:=hrow r (Ag h1);have h4:=zaG r;exact⟨Crn.range (by lia),by rw[A4];lia⟩
 have hal:=zei R
 have hends:∀t∈allS (R.map spo) (allK R),Dsd cs t:=λt ht=>by obtain⟨r,hr,h2⟩:=zfx ht;obtain⟨k1,k2⟩:=zhm (λk hk=>Cs.mp hk) t h2;exact⟨(h r hr).spot _ k1,(h r hr).spot _ k2⟩
 refine⟨⟨⟨?_,by lia,λr hr=>⟨(h r hr).facts.2.2.1,by have:=hrow r hr;lia⟩,λi r ks h1 h2=>zhF (hcr i r ks h1 h2).1 (hcr i r ks h1 h2).2,by lia⟩,λi r ks h1 h2=>(hcr i r ks h1 h2).1,b0,b1,?_,hends,λr hr=>(h r hr).spot⟩,?_,?_⟩
 .unfold allK;rw[Af]
 .intro a ha c hc;obtain⟨k1,k2,k3,k4⟩:=hb.near ha hc;unfold Df1;lia
 .intro i r ks h1 h2;rw[zjW h1 h2];exact zh7 _ _
 .refine zlb (cs:=cs) λt ht=>?_
  obtain⟨r,hr,h2⟩:=zfx ht;exact (h r hr).sides t h2
mutual
inductive DD (H:Hp):V->PyData->Prop where
 |non:DD H .non .none
 |bl (b:Bool):DD H (.bl b) (.bool b)
 |int (i:Int):DD H (.int i) (.int i)
 |str (x:Str):DD H (.str x) (.str x)
 |lst {a:Addr} {xs:List V} {ds:List PyData}:H a=some (.lst xs)->DDs H xs ds->DD H (.ref a) (.list ds)
 |tup {a:Addr} {xs:List V} {ds:List PyData}:H a=some (.tup xs)->DDs H xs ds->DD H (.ref a) (.tuple ds)
inductive DDs (H:Hp):List V->List PyData->Prop where
 |nil:DDs H [] []
 |cons {x:V} {xs:List V} {d:PyData} {ds:List PyData}:DD H x d->DDs H xs ds->DDs H (x::xs) (d::ds)
end
mutual
theorem DD.rd{K:W.Frag}{H:Hp}:∀{v:V}{d:PyData},DD H v d->RD K H v d
 |_,_,.non=>.non
 |_,_,.bl b=>.bl b
 |_,_,.int i=>.int i
 |_,_,.str x=>.str x
 |_,_,.lst e h=>.lst (SqL.of e) h.rds
 |_,_,.tup e h=>.tup (SqT.of e) h.rds
theorem DDs.rds{K:W.Frag}{H:Hp}:∀{vs:List V}{ds:List PyData},DDs H vs ds->RDs K H vs ds
 |_,_,.nil=>.nil
 |_,_,.cons h t=>.cons h.rd t.rds
end
mutual
theorem DD.same{H H':Hp}(s:Same H H'):∀{v:V}{d:PyData},DD H v d->DD H' v d
 |_,_,.non=>.non
 |_,_,.bl b=>.bl b
 |_,_,.int i=>.int i
 |_,_,.str x=>.str x
 |_,_,.lst e h=>.lst (s _ _ e) (h.same s)
 |_,_,.tup e h=>.tup (s _ _ e) (h.same s)
theorem DDs.same{H H':Hp}(s:Same H H'):∀{vs:List V}{ds:List PyData},DDs H vs ds->DDs H' vs ds
 |_,_,.nil=>.nil
 |_,_,.cons h t=>.cons (h.same s) (t.same s)
end
theorem DDs.len{H:Hp}:∀{vs:List V}{ds:List PyData},DDs H vs ds->vs.length=ds.length
 |_,_,.nil=>rfl
 |_,_,.cons _ t=>by simp[t.len]
theorem DDs.at{H:Hp}:∀{vs:List V}{ds:List PyData},DDs H vs ds->∀{i:Nat}{v:V},vs[i]?=some v->∃d,ds[i]?=some d/\DD H v d
 |_,_,.nil,i,v,h=>by simp at h
 |_,_,.cons h t,0,v,e=>by simp at e;subst e;exact⟨_,rfl,h⟩
 |_,_,.cons h t,i+1,v,e=>by
  obtain⟨d,h1,h2⟩:=t.at (i:=i) (v:=v) (by simpa using e);exact⟨d,by simpa using h1,h2⟩
theorem DDs.row{H:Hp}:∀(ks:List Nat),DDs H (rowV ks) (ks.map λn:Nat=>PyData.int n)
 |[]=>.nil
 |k::ks=>.cons (.int k) (DDs.row ks)
noncomputable def isI:PyData->Bool
 |.int _=>true
 |_=>false
noncomputable def iv:PyData->Int
 |.int i=>i
 |_=>0
theorem DDs.ints{H:Hp}:∀{vs:List V}{ds:List PyData},DDs H vs ds->ds.all isI=true->vs=(ds.map iv).map V.int
 |_,_,.nil,_=>rfl
 |_,_,.cons h t,k=>by
  rw[List.all_cons,AT]at k;have:=t.ints k.2
  cases h with
  |int i=>rw[this];rfl
  |_=>exact absurd k.1 Aw
noncomputable def riseB(zs:List Int):Bool:=(As (zs.length-1)).all λq=>decide (zs.getD q 0<zs.getD (q+1) 0)
noncomputable def cornI(n:Nat)(zs:List Int):Bool:=riseB zs && (decide (zs.getD 0 0=0) && decide (zs.getD (zs.length-1) 0<n))
noncomputable def cornD(n:Nat):PyData->Bool
 |.list ds=>!ds.isEmpty && (ds.all isI && cornI n (ds.map iv))
 |_=>false
theorem zfT{zs:List Int}:riseB zs=true ↔ zs.Pairwise (·<·):=by
 unfold riseB;rw[Cr];constructor
 .intro h;have step:∀q,q+1<zs.length->zs.getD q 0<zs.getD (q+1) 0:=λq hq=>of_decide_eq_true (h q (List.mem_range.mpr (by lia)))
  rw[List.pairwise_iff_getElem];intro i j hi hj hij
  have key:∀k,i+(k+1)<zs.length->zs.getD i 0<zs.getD (i+(k+1)) 0:=by
   intro k
   induction k with
   |zero=>intro hk;exact step i (by lia)
   |succ k ih =>
    intro hk;have h1:=ih (by lia);have h2:=step (i+(k+1)) (by lia);rw[show i+(k+1)+1=i+(k+1+1) by lia]at h2;lia
  have h3:=key (j-i-1) (by lia);rw[show i+(j-i-1+1)=j by lia,Ak,Aa hi,Ak,Aa hj]at h3;exact h3
 .intro h q hq;have hq':=Cs.mp hq;have h1:q<zs.length:=by lia
  have h2:q+1<zs.length:=by lia
  rw[Ak,Aa h1,Ak,Aa h2];exact decide_eq_true (BM.mp h q (q+1) h1 h2 (by lia))
theorem zgd{n:Nat}{d:PyData}:cornD n d=true ↔ ∃ks:List Nat,d=.list (ks.map λk:Nat=>PyData.int k)/\Crn n ks:=by
 constructor
 .intro h
  cases d with
  |list ds =>
   simp only[cornD,cornI,AT,decide_eq_true_iff,zfT]at h;obtain⟨h1,h2,h3,h4,h5⟩:=h
   have hne:ds≠[]:=by intro z;rw[z]at h1;simp at h1
   have hds:∀ds:List PyData,ds.all isI=true->ds=(ds.map iv).map PyData.int:=by
    intro ds
    induction ds with
    |nil=>intro _;rfl
    |cons d ds ih =>
     intro hh;rw[List.all_cons,AT]at hh
     cases d with
     |int i=>rw[AW,AW,<- ih hh.2];rfl
     |_=>exact absurd hh.1 Aw
   have e:=hds ds h2;generalize ds.map iv=zs at *;have hzne:zs≠[]:=by intro z;rw[z]at e;exact hne e
   have hz0:0<zs.length:=Bf.mpr hzne
   have hnn:∀z∈zs,0<=z/\z<n:=λz hz=>by
    obtain⟨i,hi,ei⟩:=AM hz;have g0:zs.getD 0 0=zs[0]:=by rw[Ak,Aa hz0];rfl
    have gl:zs.getD (zs.length-1) 0=zs[zs.length-1]:=by rw[Ak,Aa (by lia)];rfl
    rw[g0]at h4;rw[gl]at h5;rw[<- ei];constructor
    .rcases Nat.eq_zero_or_pos i with q |q
     .subst q;lia
     .have:=BM.mp h3 0 i hz0 hi q;lia
    .rcases A3 i (zs.length-1) with q |q
     .have:=BM.mp h3 i (zs.length-1) hi (by lia) q;lia
     .have:i=zs.length-1:=by lia
      subst this;exact h5
   refine⟨zs.map Int.toNat,?_,?_,?_,?_⟩
   .rw[e,Cz]
    congr 1
    refine List.map_congr_left λz hz=>?_
    show PyData.int z=PyData.int ((z.toNat:Nat):Int);rw[Int.toNat_of_nonneg (hnn z hz).1]
   .rw[List.pairwise_map];exact h3.imp_of_mem λ{a b} ha hb hab=>by have:=(hnn a ha).1;have:=(hnn b hb).1;lia
   .rw[Az,Aa hz0];have g0:zs.getD 0 0=zs[0]:=by rw[Ak,Aa hz0];rfl
    rw[g0]at h4;rw[h4];rfl
   .intro k hk;obtain⟨z,hz,rfl⟩:=AL.mp hk;have:=hnn z hz;lia
  |_=>cases h
 .rintro⟨ks,rfl,h1,h2,h3⟩;have hk0:0<ks.length:=(Ab.mp h2).1;have e0:ks[0]=0:=by rw[Aa hk0]at h2;exact A2 h2
  simp only[cornD,cornI,AT,decide_eq_true_iff,zfT];have hm:(ks.map λk:Nat=>PyData.int k).map iv=ks.map λk:Nat=>(k:Int):=by rw[Cz];rfl
  rw[hm];refine⟨?_,?_,?_,?_,?_⟩
  .cases ks with
   |nil=>simp at hk0
   |cons _ _=>rfl
  .rw[Cr];intro d hd;obtain⟨k,_,rfl⟩:=AL.mp hd;rfl
  .rw[List.pairwise_map];exact h1.imp λ{a b} hab=>by lia
  .rw[Ak,Az,h2];rfl
  .rw[Ak,Az,Af,Aa (by lia)];have:=h3 _ (AU (show ks.length-1<ks.length by lia));show ((ks[ks.length-1]:Nat):Int)<n;lia
noncomputable def isL:PyData->Bool
 |.list _=>true
 |_=>false
noncomputable def isB:PyData->Bool
 |.bool _=>true
 |_=>false
noncomputable def isIB:PyData->Bool
 |.int _=>true
 |.bool _=>true
 |_=>false
theorem DD.ty {K:W.Frag}{H:Hp}{v:V}{d:PyData}(h:DD H v d):∃t,TyOf K H v t/\W.kitOne K t (.type "list")=some (isL d)/\W.kitOne K t (.type "int")=some (isIB d)/\W.kitOne K t (.type "bool")=some (isB d):=by
 cases h with
 |non=>exact⟨_,.non,rfl,rfl,rfl⟩
 |bl b=>exact⟨_,.bl b,rfl,rfl,rfl⟩
 |int i=>exact⟨_,.int i,rfl,rfl,rfl⟩
 |str x=>exact⟨_,.str x,rfl,rfl,rfl⟩
 |lst e _=>exact⟨_,.lst e,rfl,rfl,rfl⟩
 |tup e _=>exact⟨_,.tup e,rfl,rfl,rfl⟩
theorem zkU(d:PyData):isI d=(isIB d && !isB d):=by cases d <;> rfl
noncomputable def lenOk:PyData->Prop
 |.list ds=>ds.length<=900
 |.tuple ds=>ds.length<=900
 |_=>True
theorem zdy{zs:List Int}{i:Nat}(h:i<zs.length):(zs.map V.int)[i]?=some (.int (zs.getD i 0)):=by rw[Az,Aa h,Ak,Aa h];rfl
theorem zjU{zs:List Int}(h:zs≠[]):atI (zs.map V.int) (-1)=some (.int (zs.getD (zs.length-1) 0)):=by
 have hl:0<zs.length:=Bf.mpr h
 have e:zs.getD (zs.length-1) 0=zs.getLast h:=by rw[Ak,Aa (by lia),List.getLast_eq_getElem];rfl
 have:zs.map V.int=zs.dropLast.map V.int++[.int (zs.getLast h)]:=by rw[<- List.map_singleton (f:=V.int),<- Ax,List.dropLast_concat_getLast]
 rw[e,this];exact zhT _ _
noncomputable def spWhl:Sp:=λvs H Q _=>∃(v:V) (d:PyData),vs=[v]/\DD H v d/\Q (.bl (isI d)) H
theorem zgO (T:Txt P w K mg) (d:Df K mg "is_whole" zdp ["thing"]):FnOk P w K mg base CX0 1 d.f d.fd ["thing"] spWhl:=by
 refine d.F.ok zgy (λvs H Q E h=>?_) (λcdv A outer s H vs Q E hr h=>?_)
 .obtain⟨v,d,rfl,_⟩:=h;rfl
 .obtain⟨v,dt,rfl,hd,k⟩:=h;obtain⟨t,ty,k1,k2,k3⟩:=hd.ty (K:=K);refine⟨_,(zaf (zaj (zd3 (zak zbE (by rfl) T.nisinstance (by rfl) (pa_N (pv 0) (pa_N (zcm (v:=.ty "int") (by rfl) T.nint (by rfl) rfl) zab))) (zd2 (zja (zak zbE (by rfl) T.nisinstance (by rfl) (pa_N (pv 0) (pa_N (zcm (v:=.ty "bool") (by rfl) T.nbool (by rfl) rfl) zab)))))))),?_⟩;refine⟨_,rfl,_,_,_,_,rfl,ty,k2,_,rfl,?_⟩;rw[zkU]at k;refine ite2 (λhy=>?_) (λhn=>?_)
  .rw[hy]at k;exact⟨_,rfl,_,_,_,_,rfl,ty,k3,_,rfl,k⟩
  .have:isIB dt=false:=by simpa using hn
   rw[this]at k;exact k
theorem zf0 (T:Txt P w K mg) (d:Df K mg "_law_whole" zcz ["_law_thing"]):FnOk P w K mg base CX0 1 d.f d.fd ["_law_thing"] spWhl:=by
 refine d.F.ok zfd (λvs H Q E h=>?_) (λcdv A outer s H vs Q E hr h=>?_)
 .obtain⟨v,d,rfl,_⟩:=h;rfl
 .obtain⟨v,dt,rfl,hd,k⟩:=h;obtain⟨t,ty,k1,k2,k3⟩:=hd.ty (K:=K);refine⟨_,(zaf (zaj (zd3 (zak zbE (by rfl) T.nisinstance (by rfl) (pa_N (pv 0) (pa_N (zcm (v:=.ty "int") (by rfl) T.nint (by rfl) rfl) zab))) (zd2 (zja (zak zbE (by rfl) T.nisinstance (by rfl) (pa_N (pv 0) (pa_N (zcm (v:=.ty "bool") (by rfl) T.nbool (by rfl) rfl) zab)))))))),?_⟩;refine⟨_,rfl,_,_,_,_,rfl,ty,k2,_,rfl,?_⟩;rw[zkU]at k;refine ite2 (λhy=>?_) (λhn=>?_)
  .rw[hy]at k;exact⟨_,rfl,_,_,_,_,rfl,ty,k3,_,rfl,k⟩
  .have:isIB dt=false:=by simpa using hn
   rw[this]at k;exact k
noncomputable def ziM(K:W.Frag):Sp:=λvs H Q _=>∃(v:V) (r:Rnd) (u:V) (d:PyData),vs=[v,u]/\rR r v H/\(∀s∈r.row,s<8)/\r.row.length<=480/\DD H u d/\lenOk d/\∀H',Same H H'->Q (.bl (cornD (spo r).length d)) H'
theorem zeD (T:Txt P w K mg) (g_is_whole:Fn P w K mg base 1 "is_whole" ["thing"] spWhl) (g_spots_of:Fn P w K mg base 2 "spots_of" ["one"] (zce K)) (d:Df K mg "are_corners" zbn ["one","thing"]):FnOk P w K mg base CX0 3 d.f d.fd ["one","thing"] (ziM K):=by
 refine d.F.ok zcQ (λvs H Q E h=>?_) (λcdv A outer s H vs Q E hr h=>?_)
 .obtain⟨v,r,u,d,rfl,_⟩:=h;rfl
 .obtain⟨v,r,u,dt,rfl,hv,h8,hlen,hd,hlo,k⟩:=h;have nb0:(["spot"]:List Str).Nodup:=by decide +kernel
  have nb1:(["at","thing"]:List Str).Nodup:=by decide +kernel
  refine⟨_,(zad (ps_if (pw_or (zcs (zbA (zak zbE (by rfl) T.nisinstance (by rfl) (pa_N (pv 1) (pa_N (zcm (v:=.ty "list") (by rfl) T.nlist (by rfl) rfl) zab))))) (pw_or (zcs (zke (pv 1) (λ_=>rfl))) (zdB (zcs (zbA (zak (zbz rfl) (by rfl) T.nall (by rfl) (zag (zaF (osc:=zae zbn) (N:=zcp) (N':=["spot"]) (sel:=[none]) bO (zaM (pv 1)) (λ_ _ _ _ _=>(nG 0 nb0)) (λ_ _ _ _ _=>zaL) (λ_ _ _ _ _=>(pC g_is_whole hr (pa_N (pv 0) zab)))) zab))))))).pt
   (zaf (zaj pe_bl))
   zaw)
   (zad (sE 2 zcQ.nd (zak (zbz rfl) (by rfl) T.nall (by rfl) (zag (zaF (osc:=zae zbn) (N:=zcp) (N':=["at","thing"]) (sel:=[none,some 1]) bO (zdb (by rfl) T.nrange (pa_C zac (zag (zak zan (by rfl) T.nlen (by rfl) (pa_N (pv 1) zab)) zab))) (λ_ _ _ _ _=>(nG 0 nb1)) (λ_ _ _ _ _=>zaL) (λ_ _ _ _ _=>(zaQ op_lt (pe_ix (zcn (K:=K)) (pv 1) (pe_op zay (pv 0) zac) (λ_ _=>rfl)) (pe_ix (zcn (K:=K)) (pv 1) (pv 0) (λ_ _=>rfl)) (zaq _)))) zab)))
   (zaf (zaj (zd3 (pv 2) (zd3 (zaQ op_eq (pe_ix zat (pv 1) zac (λ_ _=>rfl)) zac (zaq _)) (zd2 (zaQ op_lt (pe_ix zat (pv 1) (pe_un zct zac) (λ_ _=>rfl)) (zak zan (by rfl) T.nlen (by rfl) (zag (pC g_spots_of hr (pa_N (pv 0) zab)) zab)) (zaq _))))))))),?_⟩
  obtain⟨t,ty,k1,k2,k3⟩:=hd.ty (K:=K);refine⟨_,rfl,_,_,_,_,rfl,ty,k1,_,rfl,?_⟩;refine ite2 (λhy=>?_) (λhn=>?_)
  .have hf:cornD (spo r).length dt=false := by
    cases dt with
    |list ds=>simp[isL]at hy
    |_=>rfl
   have:=k H (Same.refl _);rw[hf]at this;exact this
  have hl:isL dt=true:=by simpa using hn
  cases hd with
  |@lst c xs ds e hds=>?_
  |_=>exact absurd hl Aw
  have hxl:=hds.len;have hdl:ds.length<=900:=hlo;refine⟨_,rfl,!xs.isEmpty,.inl ⟨_,SqL.of e,rfl⟩,?_⟩;refine ite2 (λhy=>?_) (λhn2=>?_)
  .have hxe:xs = [] := by
    cases xs with
    |nil=>rfl
    |cons _ _=>simp at hy
   subst hxe
   cases hds
   exact k H (Same.refl _)
  have hne:ds≠[]:=by
   intro z;subst z
   cases hds
   exact hn2 rfl
  have hde:ds.isEmpty=false:=by cases ds with |nil=>exact absurd rfl hne |cons _ _=>rfl
  refine⟨_,rfl,c,rfl,⟨_,SqL.of e⟩,λgb hgb=>?_⟩
  refine zaz (K:=K) (a:=c) (xs:=xs) (λj σ H1=>∃o,σ=[o]/\Same H H1/\H1 gb=some (.lst (((ds.take j).map isI).map V.bl)))
   ⟨_,rfl,Same.up hgb,zaa⟩ (λj σ H1 _ ⟨_,_,s1,_⟩=>SqL.of (s1 _ _ e)) ?_ ?_
  .rintro j y σ H1 hj ⟨o,rfl,s1,e1⟩;obtain⟨dq,hdq,hy⟩:=hds.at hj;have hjl:j<xs.length:=(Ab.mp hj).1;refine gN ?_
   refine⟨_,rfl,y,dq,rfl,hy.same s1,_,e1,zal (by simp;lia),_,rfl,zas hgb s1,?_⟩;rw[zaa,zau hdq,Ax,Ax];rfl
  rintro σ H1 ⟨o,rfl,s1,e1⟩;rw[hxl,AX]at e1;refine⟨gb,_,rfl,SqL.of e1,_,rfl,?_⟩;have hall:(ds.map isI).all id=ds.all isI:=by rw[List.all_map];rfl
  rw[hall];refine ite2 (λhy=>?_) (λhn3=>?_)
  .have:ds.all isI=false:=by simpa using hy
   have k':=k H1 s1;simp only[cornD,this,BC,Bool.and_false]at k';exact k'
  have hai:ds.all isI=true:=by simpa using hn3
  have hxz:=hds.ints hai;have hz:=k;simp only[cornD,hai,hde,Bm,Bool.not_false]at hz;have hzl:(ds.map iv).length=ds.length:=Af ..;have hzne:ds.map iv≠[]:=by intro z;exact hne (List.map_eq_nil_iff.mp z)
  generalize ds.map iv=zs at hxz hz hzl hzne;subst hxz;have hz0:0<zs.length:=Bf.mpr hzne;have c1:=s1 _ _ e;refine⟨_,rfl,c,_,rfl,.inl (SqL.of c1),_,_,rfl,⟨by decide,by decide,by lia,by rw[Af];lia⟩,λga hga=>?_⟩;rw[show (((zs.map V.int).length:Int)-1).toNat=zs.length-1 by rw[Af];lia]
  refine zbd (lo:=1) (n:=zs.length-1) (λq σ H2=>∃o,σ=[o,some (.ref c)]/\Same H1 H2/\H2 ga=some (.lst (((As q).map λq=>decide (zs.getD q 0<zs.getD (q+1) 0)).map V.bl)))
   ⟨_,rfl,Same.up hga,zaa⟩ ?_ ?_
  .rintro q σ H2 hq ⟨o,rfl,s2,e2⟩;have c2:=s2 _ _ c1;have a1:=zdy (zs:=zs) (i:=q) (by lia);have a2:=zdy (zs:=zs) (i:=q+1) (by lia);refine gN ?_
   refine⟨_,rfl,_,rfl,_,_,rfl,rfl,c,_,_,_,rfl,rfl,SqL.of c2,(by rw[show ((1:Int)+(q:Int))-1=(q:Int) by lia];exact zah a1),_,rfl,_,rfl,c,_,_,_,rfl,rfl,SqL.of c2,(by rw[show ((1:Int)+(q:Int))=((q+1:Nat):Int) by lia];exact zah a2),_,_,rfl,rfl,_,e2,zal (by simp;lia),_,rfl,zas hga s2,?_⟩;rw[zaa,List.range_succ,Ax,Ax];rfl
  rintro σ H2 ⟨o,rfl,s2,e2⟩;refine⟨ga,_,rfl,SqL.of e2,?_⟩;have hrise:((As (zs.length-1)).map λq=>decide (zs.getD q 0<zs.getD (q+1) 0)).all id=riseB zs:=by rw[List.all_map];rfl
  rw[hrise];have c2:=s2 _ _ c1;have s02:=s1.trans s2;refine⟨_,rfl,_,rfl,?_⟩;refine ite2 (λhy=>?_) (λhn4=>?_)
  .refine⟨_,rfl,c,_,_,_,rfl,rfl,SqL.of c2,zah (j:=0) (zdy hz0),rfl,_,rfl,?_⟩;have hr1:riseB zs=true:=hy;refine ite2 (λhy2=>?_) (λhn5=>?_)
   .have h00:zs.getD 0 0=0:=by have:=of_decide_eq_true hy2;injection this
    refine⟨_,rfl,_,rfl,c,_,_,_,rfl,rfl,SqL.of c2,zjU hzne,?_⟩;refine⟨_,rfl,v,r,rfl,rR.kt hv (KT.of s02),h8,hlen,λpS H3 us hpS s3 e3 hus=>⟨pS,us,rfl,.inl (SqL.of e3),_,_,rfl,rfl,?_⟩⟩;have hul:=hus.1;have k':=hz H3 (s02.trans s3);simp only[cornI,hr1,decide_eq_true h00,Bm]at k';have e9:(λi j:Int=>V.bl (decide (i<j))) (zs.getD (zs.length-1) 0) (us.length:Int)=.bl (decide (zs.getD (zs.length-1) 0<((spo r).length:Int))):=by rw[hul]
    rw[e9];exact k'
   .have h00:zs.getD 0 0≠0:=λz=>hn5 (decide_eq_true (by rw[z]))
    have k':=hz H2 s02;simp only[cornI,hr1,decide_eq_false h00,Bm,BC]at k';exact k'
  .have:riseB zs=false:=by simpa using hn4
   have k':=hz H2 s02;simp only[cornI,this,BC]at k';exact k'
theorem bigT{n:Nat}(h:n<=100000):n<sizeLine:=Nat.lt_of_le_of_lt h (by decide)
noncomputable def zdH(R:List Rnd)(TT:List (List Nat)):Prop:=∀(i:Nat) r ks,R[i]?=some r->TT[i]?=some ks->Crn (spo r).length ks
noncomputable def thD(TT:List (List Nat)):PyData:=.list (TT.map λks=>.list (ks.map λk:Nat=>PyData.int k))
noncomputable def thinD(ns:List Nat):PyData->Bool
 |.list ds=>decide (ds.length=ns.length) && ((ns.zip ds).map λp=>cornD p.1 p.2).all id
 |_=>false
noncomputable def zd1:PyData->Prop
 |.list ds=>ds.length<=900/\∀d∈ds,lenOk d/\Bd d=true
 |_=>True
theorem zc3{R:List Rnd}{d:PyData}:thinD (R.map λr=>(spo r).length) d=true ↔ ∃TT,d=thD TT/\R.length=TT.length/\zdH R TT:=by
 constructor
 .intro h
  cases d with
  |list ds =>
   simp only[thinD,AT,decide_eq_true_iff,Af]at h;obtain⟨h1,h2⟩:=h
   have key:∀(R:List Rnd) (ds:List PyData),ds.length=R.length->(((R.map λr=>(spo r).length).zip ds).map λp=>cornD p.1 p.2).all id=true->∃TT:List (List Nat),ds=TT.map (λks=>.list (ks.map λk:Nat=>PyData.int k))/\R.length=TT.length/\zdH R TT:=by
    intro R
    induction R with
    |nil =>
     intro ds hl _;have:ds=[]:=List.eq_nil_of_length_eq_zero hl;subst this;exact⟨[],rfl,rfl,λi r ks h1 _=>by simp at h1⟩
    |cons r R ih =>
     intro ds hl ha
     cases ds with
     |nil=>simp at hl
     |cons d ds =>
      simp only[AW,B2,List.all_cons,AT]at ha;obtain⟨TT,e1,e2,e3⟩:=ih ds (by simpa using hl) ha.2;obtain⟨ks,e4,e5⟩:=zgd.mp ha.1;refine⟨ks::TT,by rw[AW,e4,e1],by simp[e2],λi r' ks' q1 q2=>?_⟩
      cases i with
      |zero=>simp at q1 q2;subst q1 q2;exact e5
      |succ i=>exact e3 i r' ks' (by simpa using q1) (by simpa using q2)
   obtain⟨TT,e1,e2,e3⟩:=key R ds h1 h2;exact⟨TT,by rw[e1];rfl,e2,e3⟩
  |_=>cases h
 .rintro⟨TT,rfl,h1,h2⟩;simp only[thinD,thD,AT,decide_eq_true_iff,Af];refine⟨h1.symm,?_⟩
  have key:∀(R:List Rnd) (TT:List (List Nat)),R.length=TT.length->zdH R TT->(((R.map λr=>(spo r).length).zip (TT.map λks=>PyData.list (ks.map λk:Nat=>PyData.int k))).map λp=>cornD p.1 p.2).all id=true:=by
   intro R
   induction R with
   |nil=>intro TT _ _;rfl
   |cons r R ih =>
    intro TT hl hc
    cases TT with
    |nil=>simp at hl
    |cons ks TT =>
     simp only[AW,B2,List.all_cons,AT];exact⟨zgd.mpr ⟨ks,rfl,hc 0 r ks rfl rfl⟩,ih TT (by simpa using hl) λi r' ks' q1 q2=>hc (i+1) r' ks' (by simpa using q1) (by simpa using q2)⟩
  exact key R TT h1 h2
theorem DDs.th{H:Hp}:∀{ts:List V}{TT:List (List Nat)},DDs H ts (TT.map λks=>PyData.list (ks.map λk:Nat=>PyData.int k))->VR ts TT thR H
 |[],[],_=>VR.nil
 |[],_::_,h=>by cases h
 |_::_,[],h=>by cases h
 |t::ts,ks::TT,h=>by
  cases h with
  |cons h1 h2 =>
   cases h1 with
   |@lst c xs _ e hx =>
    have:=hx.ints (by rw[Cr];intro d hd;obtain⟨k,_,rfl⟩:=AL.mp hd;rfl);rw[Cz]at this;refine VR.cons.mpr ⟨⟨c,rfl,?_⟩,h2.th⟩;rw[e,this];unfold rowV;rw[Cz];rfl
theorem DD.th{H:Hp}{v:V}{TT:List (List Nat)}(h:DD H v (thD TT)):∃b ts,v=.ref b/\H b=some (.lst ts)/\VR ts TT thR H:=by
 cases h with
 |@lst b ts _ e hx=>exact⟨b,ts,rfl,e,hx.th⟩
theorem zjK{n:Nat}:∀(t:List Nat) (a:Nat),(a::t).Pairwise (·<·)->a<n->(∀k∈t,k<n)->t.length+a<n
 |[],a,_,h,_=>by simpa using h
 |b::t,a,h,ha,hk=>by
  rw[List.pairwise_cons]at h;have:=zjK t b h.2 (hk b Ay) λk hk'=>hk k (Ao _ hk')
  have:=h.1 b Ay;simp only[AO];lia
theorem zkX{n:Nat}{ks:List Nat}(h:Crn n ks):ks.length<=n:=by
 obtain⟨h1,h2,h3⟩:=h
 cases ks with
 |nil=>simp
 |cons a t =>
  have:=zjK t a h1 (h3 a Ay) λk hk=>h3 k (Ao _ hk)
  simp only[AO];lia
theorem zjV:∀{R:List Rnd}{TT:List (List Nat)}{t:TH.Side},t∈allS (R.map spo) TT->∃(i:Nat) (r:Rnd) (ks:List Nat),R[i]?=some r/\TT[i]?=some ks/\t∈sds (spo r) ks
 |[],TT,t,h=>by cases TT <;> cases h
 |r::R,[],t,h=>by cases h
 |r::R,ks::TT,t,h=>by
  rcases Ba.mp (show t∈sds (spo r) ks++allS (R.map spo) TT from h) with z |z
  .exact⟨0,r,ks,rfl,rfl,z⟩
  .obtain⟨i,r',ks',h1,h2,h3⟩:=zjV z;exact⟨i+1,r',ks',by simpa using h1,by simpa using h2,h3⟩
theorem zfy:∀{R:List Rnd}{TT:List (List Nat)},zdH R TT->(allS (R.map spo) TT).length<=(R.map (·.row.length)).sum+R.length
 |[],TT,_=>by cases TT <;> exact AV _
 |r::R,[],_=>AV _
 |r::R,ks::TT,h=>by
  have ih:=zfy (R:=R) (TT:=TT) λi r' ks' h1 h2=>h (i+1) r' ks' (by simpa using h1) (by simpa using h2)
  have h1:=zkX (h 0 r ks rfl rfl);have h2:=zaG r;have h3:(sds (spo r) ks).length=ks.length:=by unfold sds;rw[Af,zcJ]
  show (sds (spo r) ks++allS (R.map spo) TT).length<=_;rw[Aj,AW,Cn,AO,h3];lia
theorem zjL{R:List Rnd}{TT:List (List Nat)}{L:List Cell}(h:zdH R TT)(hs:∀r∈R,∀t∈spo r,t∈L):∀t∈allS (R.map spo) TT,Dsd L t:=λt ht=>by obtain⟨i,r,ks,h1,h2,h3⟩:=zjV ht;obtain⟨k1,k2⟩:=zhm (h i r ks h1 h2).2.2 t h3;exact⟨hs r (Ag h1) _ k1,hs r (Ag h1) _ k2⟩
theorem ziB{T U:List (List Nat)}(h:thD T=thD U):T=U:=by
 unfold thD at h;injection h with h
 have ii:∀{s t:List Nat},(s.map λk:Nat=>PyData.int k)=(t.map λk:Nat=>PyData.int k)->s=t:=by
  intro s
  induction s with
  |nil=>intro t h;cases t with |nil=>rfl |cons _ _=>simp at h
  |cons a s ih =>
   intro t h
   cases t with
   |nil=>simp at h
   |cons b t =>
    simp only[AW,List.cons.injEq]at h;have h1:=h.1;injection h1 with h1;rw[show a=b by lia,ih h.2]
 revert U
 induction T with
 |nil=>intro U h;cases U with |nil=>rfl |cons _ _=>simp at h
 |cons a T ih =>
  intro U h
  cases U with
  |nil=>simp at h
  |cons b U =>
   simp only[AW,List.cons.injEq]at h;have h1:=h.1;injection h1 with h1;rw[ii h1,ih h.2]
structure SmB (R:List Rnd) (L:List Cell):Prop where
 row:∀r∈R,∀s∈r.row,s<8
 len:R.length<=60
 sum:(R.map (·.row.length)).sum<=200
 sp:∀r∈R,∀t∈spo r,t∈L
 dL:Dfs L
theorem SmB.thn{R:List Rnd}{TT:List (List Nat)}{L:List Cell}(hS:SmB R L)(h:zdH R TT)(hl:R.length=TT.length):Thn R TT:=by have h1:=hS.len;have h2:=hS.sum;have h3:=zfy h;refine⟨hl,by lia,λr hr=>⟨hS.row r hr,by have:=zb5 hr;lia⟩,λi r ks e1 e2=>?_,by lia⟩;have h4:=zkX (h i r ks e1 e2);have h5:=zaG r;have h6:=zb5 (Ag e1);exact zhF (h i r ks e1 e2) (by lia)
noncomputable def zkF(K:W.Frag):Sp:=λvs H Q _=>∃(a:Addr) (rs:List V) (R:List Rnd) (L:List Cell) (u:V) (d:PyData),vs=[.ref a,u]/\H a=some (.lst rs)/\VR rs R rR H/\SmB R L/\DD H u d/\zd1 d/\∀H',Same H H'->Q (.bl (thinD (R.map λr=>(spo r).length) d)) H'
theorem zeA (T:Txt P w K mg) (g_are_corners:Fn P w K mg base 3 "are_corners" ["one","thing"] (ziM K)) (d:Df K mg "is_thinning" zbD ["some","thing"]):FnOk P w K mg base CX0 4 d.f d.fd ["some","thing"] (zkF K):=by
 refine d.F.ok zeq (λvs H Q E h=>?_) (λcdv A outer s H vs Q E hr h=>?_)
 .obtain⟨a,rs,R,L,u,d,rfl,_⟩:=h;rfl
 .obtain⟨a,rs,R,L,u,dt,rfl,ha,hR,hS,hd,hlo,k⟩:=h;have nb0:(["one","corners"]:List Str).Nodup:=by decide +kernel
  refine⟨_,(zad (ps_if (pw_or (zcs (zbA (zak zbE (by rfl) T.nisinstance (by rfl) (pa_N (pv 1) (pa_N (zcm (v:=.ty "list") (by rfl) T.nlist (by rfl) rfl) zab))))) (zdB (zav op_ne (zak zan (by rfl) T.nlen (by rfl) (pa_N (pv 1) zab)) (zak zan (by rfl) T.nlen (by rfl) (pa_N (pv 0) zab)) (zaq _)))).pt
   (zaf (zaj pe_bl))
   zaw)
   (zaf (zaj (zak (zbz rfl) (by rfl) T.nall (by rfl) (zag (zaF (osc:=zae zbD) (N:=zdk) (N':=["one","corners"]) (sel:=[none,none]) bO (zdD (by rfl) T.nzip (pa_N (pv 0) (pa_N (pv 1) zab))) (λ_ _ _ _ _=>(zbo (K:=K) (n:=2) (by rfl) (zai (nG 0 nb0) (zai (nG 1 nb0) zaC)))) (λ_ _ _ _ _=>zaL) (λ_ _ _ _ _=>(pC g_are_corners hr (pa_N (pv 0) (pa_N (pv 1) zab))))) zab))))),?_⟩
  obtain⟨t,ty,k1,k2,k3⟩:=hd.ty (K:=K);have hSl:=hS.len;refine⟨_,rfl,_,_,_,_,rfl,ty,k1,_,rfl,?_⟩;refine ite2 (λhy=>?_) (λhn=>?_)
  .have hf:thinD (R.map λr => (spo r).length) dt=false := by
    cases dt with
    |list ds=>simp[isL]at hy
    |_=>rfl
   have:=k H (Same.refl _);rw[hf]at this;exact this
  have hl:isL dt=true:=by simpa using hn
  cases hd with
  |@lst b ts ds e hds=>?_
  |_=>exact absurd hl Aw
  have htl:=hds.len;refine⟨_,rfl,b,_,rfl,.inl (SqL.of e),_,rfl,a,_,rfl,.inl (SqL.of ha),rfl,_,rfl,?_⟩;refine ite2 (λhy=>?_) (λhn2=>?_)
  .have hne:ds.length≠R.length:=λz=>by rw[htl,z,<- hR.1]at hy;simp at hy
   have:=k H (Same.refl _);simp only[thinD,Af,decide_eq_false hne,BC]at this;exact this
  have hle:rs.length=ts.length:=by
   rcases Nat.lt_trichotomy ts.length rs.length with z |z |z
   .exact absurd (by simp;lia) hn2
   .exact z.symm
   .exact absurd (by simp;lia) hn2
  have hdR:ds.length=R.length:=by rw[<- htl,<- hle,hR.1]
  refine⟨_,rfl,_,rfl,a,b,rfl,⟨_,SqL.of ha⟩,⟨_,SqL.of e⟩,λg hg=>?_⟩
  refine zcD (K:=K) (a:=a) (b:=b) (xs:=rs) (ys:=ts) (λm σ H3=>∃o0 o1,σ=[o0,o1]/\Same H H3/\H3 g=some (.lst (((((R.map λr=>(spo r).length).zip ds).take m).map λp=>cornD p.1 p.2).map V.bl)))
   ⟨_,_,rfl,Same.up hg,zaa⟩ (λm σ H3 _ ⟨_,_,_,s3,_⟩=>⟨SqL.of (s3 _ _ ha),SqL.of (s3 _ _ e)⟩) hle ?_ ?_
  .rintro m x y σ H3 t' hx hy ⟨o0,o1,rfl,s3,e3⟩ ht;obtain⟨r,hr1,hxr⟩:=hR.at hx;obtain⟨dq,hdq,hyd⟩:=hds.at hy;have hml:m<R.length:=(Ab.mp hr1).1;have hrm:=Ag hr1;have hrs:=zb5 hrm;have hss:=hS.sum;have s4:=Same.up (o:=.tup [x,y]) ht;have e4t:upd H3 t' (.tup [x,y]) t'=some (.tup [x,y]):=zaa;generalize upd H3 t' (.tup [x,y])=H4 at s4 e4t;have s04:=s3.trans s4;refine⟨t',_,rfl,SqT.of e4t,rfl,_,_,rfl,_,_,rfl,rfl,?_⟩;refine zbj ?_
   refine⟨_,rfl,_,rfl,x,r,y,dq,rfl,rR.kt hxr (KT.of s04),hS.row r hrm,by lia,hyd.same s04,(hlo.2 dq (Ag hdq)).1,λH5 s5=>?_⟩;refine⟨_,(s4.trans s5) _ _ e3,zal (by simp;lia),_,_,rfl,zas hg (s04.trans s5),?_⟩
   have hzp:((R.map λr=>(spo r).length).zip ds)[m]?=some ((spo r).length,dq):=by rw[A6,Az,hr1];exact⟨rfl,hdq⟩
   rw[zaa,zau hzp,Ax,Ax];rfl
  rintro σ H3 ⟨o0,o1,rfl,s3,e3⟩;rw[A0 (by rw[C8,Af,hR.1];lia)]at e3;refine⟨g,_,rfl,SqL.of e3,?_⟩;have:=k H3 s3;simp only[thinD,Af,decide_eq_true hdR,Bm]at this;exact this
noncomputable def zcf(K:W.Frag):Sp:=λvs H Q _=>∃(a:Addr) (rs:List V) (R:List Rnd) (L:List Cell) (B:Int) (u:V) (d:PyData),vs=[.ref a,.int B,u]/\H a=some (.lst rs)/\VR rs R rR H/\SmB R L/\DD H u d/\zd1 d/\0<=B/\B<=1000000 /\
 ∀bb H',Same H H'->(bb=true ↔ ∃TT,d=thD TT/\R.length=TT.length/\zdH R TT/\zcq R TT B/\NoX (allS (R.map spo) TT))->Q (.bl bb) H'
theorem zkn (T:Txt P w K mg) (g_is_thinning:Fn P w K mg base 4 "is_thinning" ["some", "thing"] (zkF K)) (g_is_near:Fn P w K mg base 4 "is_near" ["one", "bound", "corners"] (zhh K)) (g_all_sides:Fn P w K mg base 4 "all_sides" ["some", "thinning"] (zcG K))
    (g_do_cross:Fn P w K mg base 3 "do_cross" ["one","other"] ziL) (d:Df K mg "holds" zdX ["some","bound","thing"]):FnOk P w K mg base CX0 5 d.f d.fd ["some","bound","thing"] (zcf K):=by
  refine d.F.ok zhn (λvs H Q E h=>?_) (λcdv A outer s H vs Q E hr h=>?_)
  . obtain⟨a,rs,R,L,B,u,d,rfl,_⟩:=h;rfl
  . obtain⟨a,rs,R,L,B,u,dt,rfl,ha,hR,hS,hd,hlo,b0,b1,k⟩:=h;have nb0:(["one","corners","bound"]:List Str).Nodup:=by decide +kernel
    have nb1:(["at","side","other","sides"]:List Str).Nodup:=by decide +kernel
    refine⟨_,(zad (ps_if (zcs (zbA (pC g_is_thinning hr (pa_N (pv 0) (pa_N (pv 2) zab)))))
      (zaf (zaj pe_bl))
      zaw)
      (zad (ps_if (zcs (zbA (zak (zbz rfl) (by rfl) T.nall (by rfl) (zag (zaF (osc:=zae zdX) (N:=zg3) (N':=["one","corners","bound"]) (sel:=[none,none,some 1]) bO (zdD (by rfl) T.nzip (pa_N (pv 0) (pa_N (pv 2) zab))) (λ_ _ _ _ _=>(zbo (K:=K) (n:=2) (by rfl) (zai (nG 0 nb0) (zai (nG 1 nb0) zaC)))) (λ_ _ _ _ _=>zaL) (λ_ _ _ _ _=>(pC g_is_near hr (pa_N (pv 0) (pa_N (pv 2) (pa_N (pv 1) zab)))))) zab))))
      (zaf (zaj pe_bl))
      zaw)
      (zad (zda (i:=3) zhn.nd (by rfl) (Or.inr rfl) (pC g_all_sides hr (pa_N (pv 0) (pa_N (pv 2) zab))))
      (zaf (zaj (zja (zak (zef rfl) (by rfl) T.nany (by rfl) (zag (zfX (osc:=zae zdX) (N:=zg3) (N':=["at","side","other","sides"]) (sel:=[none,none,none,some 3]) bO (zi9 (by rfl) T.nenumerate (pa_N (pv 3) zab)) (λ_ _ _ _ _=>(zbo (K:=K) (n:=2) (by rfl) (zai (nG 0 nb1) (zai (nG 1 nb1) zaC)))) (λ_ _ _ _ _=>zaL) (λ_ _ _ _ _=>(zht (K:=K) (zax (zj8 (K:=K)) (pv 3) zaN (zaI (pv 0))))) (λ_ _ _ _ _=>(nG 2 nb1)) (λ_ _ _ _ _=>zaL) (λ_ _ _ _ _=>(pC g_do_cross hr (pa_N (pv 1) (pa_N (pv 2) zab)))) (λ_ _ _=>rfl)) zab)))))))),?_⟩
    refine⟨_,rfl,_,rfl,a,rs,R,L,u,dt,rfl,ha,hR,hS,hd,hlo,λH0 s0=>⟨_,rfl,?_⟩⟩;refine ite2 (λhy=>?_) (λhn=>?_)
    . refine k false H0 s0 ⟨λz=>absurd z (by decide),λ⟨TT,z1,z2,z3,_⟩=>?_⟩;rw[zc3.mpr ⟨TT,z1,z2,z3⟩]at hy;exact absurd hy (by decide)
    obtain⟨TT,rfl,hlT,hcrn⟩:=zc3.mp (show thinD (R.map λr=>(spo r).length) dt=true by simpa using hn);obtain⟨b,ts,rfl,hb,hT⟩:=hd.th;have th:=hS.thn hcrn hlT;have h300:(allS (R.map spo) TT).length<=300:=by have:=zfy hcrn;have:=hS.len;have:=hS.sum;lia
    have dL:=hS.dL;have sL:=zjL hcrn hS.sp
    have k:∀bb H',Same H H'->(bb=true ↔ zcq R TT B/\NoX (allS (R.map spo) TT))->Q (.bl bb) H':=λbb H' s hb'=>k bb H' s (hb'.trans ⟨λz=>⟨TT,rfl,hlT,hcrn,z⟩,λ⟨T',z1,z2,z3,z4⟩=>by have:T'=TT:=ziB z1.symm;rw[this]at z4;exact z4⟩)
    have hle:rs.length=ts.length:=by rw[hR.1,hT.1,th.len]
    refine⟨_,rfl,_,rfl,a,b,rfl,⟨_,SqL.of (s0 _ _ ha)⟩,⟨_,SqL.of (s0 _ _ hb)⟩,λg hg=>?_⟩;have hg0:H g=none:=s0.free hg
    refine zcD (K := K) (a := a) (b := b) (xs := rs) (ys := ts) (λm σ H3 => ∃o0 o1, σ = [o0, o1, some (.int B)] /\ Same H H3 /\ ∃bs:List Bool, H3 g=some (.lst (bs.map V.bl)) /\ bs.length=m /\
        (bs.all id=true ↔ ∀(q:Nat) r ks,q<m->R[q]?=some r->TT[q]?=some ks->Near (spo r) B ks))
      ⟨_,_,rfl,s0.trans (Same.up hg),[],zaa,rfl,⟨λ_ q _ _ hq=>absurd hq (Cd _),λ_=>rfl⟩⟩ (λm σ H3 _ ⟨_,_,_,s3,_⟩=>⟨SqL.of (s3 _ _ ha),SqL.of (s3 _ _ hb)⟩) hle ?_ ?_
    . rintro m x y σ H3 t hx hy ⟨o0,o1,rfl,s3,bs,e3,hbl,hbs⟩ ht;obtain⟨r,hr1,hxr⟩:=hR.at hx;obtain⟨ks,hk1,c,rfl,hc⟩:=hT.at hy;have hgd:=th.crn m r ks hr1 hk1;have hrow:=th.row r (Ag hr1);have hml:m<R.length:=(Ab.mp hr1).1;have hfew:=th.few;have s4:=Same.up (o:=.tup [x,.ref c]) ht;have e4t:upd H3 t (.tup [x,.ref c]) t=some (.tup [x,.ref c]):=zaa;generalize upd H3 t (.tup [x,.ref c])=H4 at s4 e4t;have s04:=s3.trans s4;refine⟨t,_,rfl,SqT.of e4t,rfl,_,_,rfl,_,_,rfl,rfl,?_⟩;refine zbj ?_
      refine⟨_,rfl,_,rfl,_,rfl,x,r,B,c,ks,rfl,hxr.kt (KT.of s04),hrow.1,hrow.2,SqL.of (s04 _ _ hc),hgd,b0,b1,λbb H5 s5 hbb=>?_⟩;have e5:=(s4.trans s5) _ _ e3;refine⟨_,e5,zal (by rw[Af,hbl];lia),_,_,rfl,zas hg0 (s04.trans s5),bs++[bb],(by rw[zaa,Ax];rfl),(by rw[Aj,hbl];rfl),?_⟩;rw[List.all_append,AT,hbs];constructor
      . rintro⟨h1,h2⟩ q r' ks' hq e1 e2;rcases A3 q m with z |z
        . exact h1 q r' ks' z e1 e2
        . have:q=m:=by lia
          subst this;rw[hr1]at e1;rw[hk1]at e2
          cases e1;cases e2
          exact hbb.mp (by simpa using h2)
      . intro hall;refine⟨λq r' ks' hq=>hall q r' ks' (by lia),?_⟩;have:=hbb.mpr (hall m r ks (by lia) hr1 hk1);simpa using this
    . rintro σ H3 ⟨o0,o1,rfl,s3,bs,e3,hbl,hbs⟩;refine⟨g,bs,rfl,SqL.of e3,?_⟩
      have hnr:bs.all id=true ↔ zcq R TT B:=by
        rw[hbs];constructor
        . intro h m r ks h1 h2;exact h m r ks (by rw[hR.1];exact (Ab.mp h1).1) h1 h2
        . intro h q r ks _ h1 h2;exact h q r ks h1 h2
      refine⟨_,rfl,?_⟩;refine ite2 (λhy=>?_) (λhn=>?_)
      . exact k false H3 s3 ⟨λz=>absurd z (by decide),λz=>by rw[hnr.mpr z.1]at hy;exact absurd hy (by decide)⟩
      have hN:zcq R TT B:=hnr.mp (by simpa using hn);refine⟨_,rfl,_,rfl,a,b,rs,ts,R,TT,rfl,s3 _ _ ha,hR.mono (λx v h=>h.kt (KT.of s3)),s3 _ _ hb,hT.mono (λx v h=>h.same s3),th,λpS H4 zs hpS s4 e4 hz=>?_⟩;have s04:=s3.trans s4;have hzl:zs.length<=300:=by rw[hz.1];exact h300
      refine⟨_,rfl,pS,rfl,⟨_,SqL.of e4⟩,λgb hgb=>?_⟩
      refine zhG (K:=K) (a:=pS) (xs:=zs) (λm σ H5=>∃o0 o1 o2,σ=[o0,o1,o2,some (.ref pS)]/\Same H4 H5/\∃bs:List Bool,H5 gb=some (.lst (bs.map V.bl))/\bs.length<=m*300/\(bs.any id=false ↔ NoXu (allS (R.map spo) TT) m))
        ⟨_,_,_,rfl,Same.up hgb,[],zaa,by simp,⟨λ_ i j _ _ hi=>absurd hi (Cd _),λ_=>rfl⟩⟩ (λm σ H5 _ ⟨_,_,_,_,s5,_⟩=>SqL.of (s5 _ _ e4)) ?_ ?_
      . rintro m y σ H5 t hy ⟨o0',o1',o2',rfl,s5,bs,e5,hbl5,hno⟩ ht;obtain⟨sd,hsd,hry⟩:=hz.at hy;have hml:m<zs.length:=(Ab.mp hy).1;have s6:=Same.up (o:=.tup [.int m,y]) ht;have e6t:upd H5 t (.tup [.int m,y]) t=some (.tup [.int m,y]):=zaa;generalize upd H5 t (.tup [.int m,y])=H6 at s6 e6t;have e46:=(s5.trans s6) _ _ e4;refine⟨t,_,rfl,SqT.of e6t,rfl,_,_,rfl,_,_,rfl,rfl,?_⟩;refine zbj ?_
        refine⟨_,rfl,_,rfl,_,rfl,pS,_,rfl,SqL.of e46,λp hp=>⟨p,rfl,⟨_,SqL.of zaa⟩,?_⟩⟩;have s7:=Same.up (o:=.lst (cutV zs none (some (m:Int)))) hp;have e7:upd H6 p (.lst (cutV zs none (some (m:Int)))) p=some (.lst (cutV zs none (some (m:Int)))):=zaa;rw[zhP zs (Bc hml)]at e7 s7 ⊢;generalize upd H6 p (.lst (zs.take m))=H7 at s7 e7 ⊢;have s57:=s6.trans s7;have s47:=s5.trans s57;have e7g:=s57 _ _ e5;have hgp:p≠gb:=λz=>by rw[z,s6 _ _ e5]at hp;cases hp
        have hzt:=hz.take m
        refine zaz (K:=K) (a:=p) (xs:=zs.take m) (λq σ H8=>∃o2,σ=[some (.int m),some y,o2,some (.ref pS)]/\Same H4 H8/\KT H7 H8/\H8 p=some (.lst (zs.take m))/\H8 gb=some (.lst ((bs++(((allS (R.map spo) TT).take m).take q).map (TH.cross sd)).map V.bl)))
          ⟨_,rfl,s47,KT.refl _,e7,by rw[List.take_zero,List.map_nil,Bt];exact e7g⟩ (λq σ H8 _ ⟨_,_,_,_,e8,_⟩=>SqL.of e8) ?_ ?_
        . rintro q u σ H8 hu ⟨o2,rfl,s8,k8,e8p,e8⟩;obtain⟨sj,hsj,hru⟩:=hzt.at hu;have hql:q<(zs.take m).length:=(Ab.mp hu).1;rw[Aq]at hql;have k48:KT H4 H8:=(KT.of s47).trans k8;refine gN ?_
          refine⟨_,rfl,_,rfl,y,u,sd,sj,L,rfl,hry.kt k48,hru.kt k48,dL,sL _ (Ag hsd),sL _ (BO (Ag hsj)),?_⟩
          refine⟨_,e8,bigT (by
            rw[Af,Aj,Af,Aq];have:bs.length<=90000:=AF hbl5 (by have:=Nat.mul_le_mul_right 300 (show m<=300 by lia);lia);lia),_,rfl,zas hgb s8,k8.trans (KT.lst e8),by rw[zam hgp];exact e8p,?_⟩
          rw[zaa,zau hsj];simp only[Ax,AW,List.map_nil,CI]
        . rintro σ H8 ⟨o2,rfl,s8,k8,e8p,e8⟩;rw[hzt.1,AX]at e8;refine⟨_,_,_,rfl,s8,_,e8,?_,?_⟩
          . rw[Aj,Af,Aq,Nat.succ_mul];lia
          . rw[List.any_append,Bool.or_eq_false_iff,hno,List.any_map,List.any_eq_false];constructor
            . rintro⟨h1,h2⟩ i j a' b' hi hj e1 e2;rcases A3 i m with z |z
              . exact h1 i j a' b' z hj e1 e2
              . have:i=m:=by lia
                subst this;rw[hsd]at e1
                cases e1
                have:=h2 b' (Ag (i:=j) (by rw[C0 hj];exact e2));simpa using this
            . intro h;refine⟨λi j a' b' hi hj e1 e2=>h i j a' b' (by lia) hj e1 e2,λx hx=>?_⟩;obtain⟨j,hj,e⟩:=AM hx;rw[Aq]at hj
              have e2:(allS (R.map spo) TT)[j]?=some x:=by rw[<- e,List.getElem_take];exact Aa (by lia)
              have:=h m j sd x (by lia) (by lia) hsd e2;simpa using this
      . rintro σ H5 ⟨o0',o1',o2',rfl,s5,bs,e5,hbl5,hno⟩;rw[hz.1,<- zgU]at hno;refine⟨gb,bs,rfl,SqL.of e5,_,rfl,?_⟩;refine k _ H5 (s04.trans s5) ?_
        rw[Bool.not_eq_true',hno];exact⟨λz=>⟨hN,z⟩,λz=>z.2⟩
theorem zhJ(ds:List PyData):Dd (.list ds) (.list [])=ds.isEmpty:=by cases ds <;> rfl
theorem zj6{ns:List Nat}{ds:List PyData}{m n:Nat}{d:PyData}(h1:ns[m]?=some n)(h2:ds[m]?=some d)(h:cornD n d=false):thinD ns (.list ds)=false:=by
 simp only[thinD];rw[Bool.and_eq_false_iff];refine .inr ?_
 rw[List.all_eq_false];refine⟨false,AL.mpr ⟨(n,d),Ag (i:=m) (by rw[A6];exact⟨h1,h2⟩),h⟩,by decide⟩
theorem ziA{ns:List Nat}{ds:List PyData}(hl:ds.length=ns.length)(h:∀(m n:Nat) (d:PyData),ns[m]?=some n->ds[m]?=some d->cornD n d=true):thinD ns (.list ds)=true:=by
 simp only[thinD];rw[AT];refine⟨decide_eq_true hl,?_⟩;rw[Cr];intro b hb;obtain⟨⟨n,d⟩,hp,rfl⟩:=AL.mp hb;obtain⟨m,hm,e⟩:=AM hp;have e':(ns.zip ds)[m]?=some (n,d):=by rw[Aa hm,e]
 rw[A6]at e';exact h m n d e'.1 e'.2
noncomputable def zgx(K:W.Frag):Sp:=λvs H Q _=>∃(u:V) (d:PyData) (bm:Addr) (ns:List Nat),vs=[u,.ref bm]/\DD H u d/\zd1 d/\H bm=some (.lst (rowV ns))/\ns.length<=60/\(∀n∈ns,n<=1000)/\∀H',Same H H'->Q (.bl (thinD ns d)) H'
theorem zex (T:Txt P w K mg) (g__law_whole:Fn P w K mg base 1 "_law_whole" ["_law_thing"] spWhl) (d:Df K mg "_law_is_form" zbc ["_law_thing","_law_many"]):FnOk P w K mg base CX0 2 d.f d.fd ["_law_thing","_law_many"] (zgx K):=by
 refine d.F.ok zbI (λvs H Q E h=>?_) (λcdv A outer s H vs Q E hr h=>?_)
 .obtain⟨u,d,bm,ns,rfl,_⟩:=h;rfl
 .obtain⟨u,dt,bm,ns,rfl,hd,hlo,hbm,hn60,hn1,k⟩:=h;have hu64:=hr.units;have nb0:(["_law_spot"]:List Str).Nodup:=by decide +kernel
  have nb1:(["_law_at","_law_row"]:List Str).Nodup:=by decide +kernel
  refine⟨_,(zad (ps_if (pw_or (zcs (zbA (zak zbE (by rfl) T.nisinstance (by rfl) (pa_N (pv 0) (pa_N (zcm (v:=.ty "list") (by rfl) T.nlist (by rfl) rfl) zab))))) (zdB (zav op_ne (zak zan (by rfl) T.nlen (by rfl) (pa_N (pv 0) zab)) (zak zan (by rfl) T.nlen (by rfl) (pa_N (pv 1) zab)) (zaq _)))).pt
   (zaf (zaj pe_bl))
   zaw)
   (zad (zbq AY rfl (zdD (by rfl) T.nzip (pa_N (pv 0) (pa_N (pv 1) zab))) (zbr (by rfl) (zai (zfh (i:=2) zbI.nd (by rfl) (Or.inr rfl)) (zai (nG 3 zbI.nd) zaC)))
   (zad (ps_if (pw_or (zcs (zbA (zak zbE (by rfl) T.nisinstance (by rfl) (pa_N (pv 2) (pa_N (zcm (v:=.ty "list") (by rfl) T.nlist (by rfl) rfl) zab))))) (pw_or (zav (zje hu64) (pv 2) (zaA zab) (zaq _)) (zdB (zcs (zbA (zak (zbz rfl) (by rfl) T.nall (by rfl) (zag (zaF (osc:=zae zbc) (N:=zb7) (N':=["_law_spot"]) (sel:=[none]) bO (zaM (pv 2)) (λ_ _ _ _ _=>(nG 0 nb0)) (λ_ _ _ _ _=>zaL) (λ_ _ _ _ _=>(pC g__law_whole hr (pa_N (pv 0) zab)))) zab))))))).pt
   (zaf (zaj pe_bl))
   zaw)
   (zaf (ps_if (pw_or (zav op_ne (pe_ix zat (pv 2) zac (λ_ _=>rfl)) zac (zaq _)) (pw_or (zav op_ge (pe_ix zat (pv 2) (pe_un zct zac) (λ_ _=>rfl)) (pv 3) (zaq _)) (zdB (zbA (zak (zef rfl) (by rfl) T.nany (by rfl) (zag (zaF (osc:=zae zbc) (N:=zb7) (N':=["_law_at","_law_row"]) (sel:=[none,some 2]) bO (zca (by rfl) T.nrange (pa_B (pe_op zay (zak zan (by rfl) T.nlen (by rfl) (pa_N (pv 2) zab)) zac) zab)) (λ_ _ _ _ _=>(nG 0 nb1)) (λ_ _ _ _ _=>zaL) (λ_ _ _ _ _=>(zaQ op_ge (pe_ix (zcn (K:=K)) (pv 1) (pv 0) (λ_ _=>rfl)) (pe_ix (zcn (K:=K)) (pv 1) (pe_op zaK (pv 0) zac) (λ_ _=>rfl)) (zaq _)))) zab)))))).pt
   (zaf (zaj pe_bl))
   zaw))))
   (zaf (zaj pe_bl)))),?_⟩
  obtain⟨t,ty,k1,k2,k3⟩:=hd.ty (K:=K);have hnl:(rowV ns).length=ns.length:=by unfold rowV;rw[Af]
  refine⟨_,rfl,_,_,_,_,rfl,ty,k1,_,rfl,?_⟩;refine ite2 (λhy=>?_) (λhn=>?_)
  .have hf:thinD ns dt=false := by
    cases dt with
    |list ds=>simp[isL]at hy
    |_=>rfl
   have:=k H (Same.refl _);rw[hf]at this;exact this
  have hl:isL dt=true:=by simpa using hn
  cases hd with
  |@lst b ts ds e hds=>?_
  |_=>exact absurd hl Aw
  have htl:=hds.len;refine⟨_,rfl,b,_,rfl,.inl (SqL.of e),_,rfl,bm,_,rfl,.inl (SqL.of hbm),rfl,_,rfl,?_⟩;refine ite2 (λhy=>?_) (λhn2=>?_)
  .have hne:ds.length≠ns.length:=λz=>by rw[htl,z,hnl]at hy;simp at hy
   have:=k H (Same.refl _);simp only[thinD,decide_eq_false hne,BC]at this;exact this
  have hle:ts.length=(rowV ns).length:=by
   rcases Nat.lt_trichotomy ts.length (rowV ns).length with z |z |z
   .exact absurd (by simp;lia) hn2
   .exact z
   .exact absurd (by simp;lia) hn2
  have hdn:ds.length=ns.length:=by rw[<- htl,hle,hnl]
  refine⟨_,rfl,_,rfl,b,bm,rfl,⟨_,SqL.of e⟩,⟨_,SqL.of hbm⟩,?_⟩
  refine zcD (K:=K) (a:=b) (b:=bm) (xs:=ts) (ys:=rowV ns) (λm σ H3=>∃o2 o3,σ=[some (.ref b),some (.ref bm),o2,o3]/\Same H H3/\∀(m' n:Nat) (d:PyData),m'<m->ns[m']?=some n->ds[m']?=some d->cornD n d=true)
   ⟨_,_,rfl,Same.refl _,λm' n d h=>absurd h (Cd _)⟩ (λm σ H3 _ ⟨_,_,_,s3,_⟩=>⟨SqL.of (s3 _ _ e),SqL.of (s3 _ _ hbm)⟩) hle ?_ ?_
  .rintro m x y σ H3 t' hx hy ⟨o2,o3,rfl,s3,hgood⟩ ht;obtain⟨dq,hdq,hxd⟩:=hds.at hx;unfold rowV at hy;rw[Az]at hy;obtain⟨n,hnm,rfl⟩:=Bg.mp hy;have hlq:=hlo.2 dq (Ag hdq);have hnb:=hn1 n (Ag hnm);have s4:=Same.up (o:=.tup [x,.int n]) ht;have e4t:upd H3 t' (.tup [x,.int n]) t'=some (.tup [x,.int n]):=zaa;generalize upd H3 t' (.tup [x,.int n])=H4 at s4 e4t;have s04:=s3.trans s4;have hx4:=hxd.same s04;obtain⟨t2,ty2,k12,k22,k32⟩:=hx4.ty (K:=K)
   have no:cornD n dq=false->∀H',Same H H'->Q (.bl false) H':=λhc H' s'=>by have:=k H' s';rw[zj6 hnm hdq hc]at this;exact this
   refine⟨t',_,rfl,SqT.of e4t,rfl,_,_,rfl,_,_,rfl,rfl,?_⟩;refine⟨_,rfl,_,_,_,_,rfl,ty2,k12,_,rfl,?_⟩;refine ite2 (λhy=>?_) (λhn3=>?_)
   .refine no ?_ H4 s04
    cases dq with
    |list ds=>simp[isL]at hy
    |_=>rfl
   have hl2:isL dq=true:=by simpa using hn3
   cases dq with
   |list es=>?_
   |_=>exact absurd hl2 Aw
   obtain⟨c,xs,rfl,ec,hes⟩:∃c xs,x=.ref c/\H4 c=some (.lst xs)/\DDs H4 xs es:=by
    cases hx4 with
    |@lst c xs _ e' h'=>exact⟨c,xs,rfl,e',h'⟩
   have hel:es.length<=900:=hlq.1;have hxl:=hes.len;refine⟨_,rfl,(by show 0<=sizeLine;decide),λl0 hl0=>?_⟩;have s5:=Same.up (o:=.lst []) hl0;have e5:upd H4 l0 (.lst []) l0=some (.lst []):=zaa;generalize upd H4 l0 (.lst [])=H5 at s5 e5 ⊢;have s05:=s04.trans s5;have hes5:=hes.same s5;have ec5:=s5 _ _ ec;refine⟨.list es,.list [],.lst (SqL.of ec5) hes5.rds,.lst (SqL.of e5) .nil,hlq.2,rfl,_,rfl,?_⟩;rw[zhJ];refine ite2 (λhy=>?_) (λhn4=>?_)
   .refine no ?_ H5 s05;have:es=[]:=List.isEmpty_iff.mp hy;subst this;rfl
   have hne:es≠[]:=λz=>hn4 (by rw[z];rfl)
   have hee:es.isEmpty=false:=by cases es with |nil=>exact absurd rfl hne |cons _ _=>rfl
   refine⟨_,rfl,c,rfl,⟨_,SqL.of ec5⟩,λgb hgb=>?_⟩
   refine zaz (K:=K) (a:=c) (xs:=xs) (λj σ H6=>∃o,σ=[o]/\Same H5 H6/\H6 gb=some (.lst (((es.take j).map isI).map V.bl)))
    ⟨_,rfl,Same.up hgb,zaa⟩ (λj σ H6 _ ⟨_,_,s6,_⟩=>SqL.of (s6 _ _ ec5)) ?_ ?_
   .rintro j y' σ H6 hj ⟨o,rfl,s6,e6⟩;obtain⟨dj,hdj,hyj⟩:=hes5.at hj;have hjl:j<xs.length:=(Ab.mp hj).1;refine gN ?_
    refine⟨_,rfl,y',dj,rfl,hyj.same s6,_,e6,zal (by simp;lia),_,rfl,zas hgb s6,?_⟩;rw[zaa,zau hdj,Ax,Ax];rfl
   rintro σ H6 ⟨o,rfl,s6,e6⟩;rw[hxl,AX]at e6;refine⟨gb,_,rfl,SqL.of e6,_,rfl,?_⟩;have hall:(es.map isI).all id=es.all isI:=by rw[List.all_map];rfl
   rw[hall];have s06:=s05.trans s6;refine ite2 (λhy=>?_) (λhn5=>?_)
   .refine no ?_ H6 s06;have:es.all isI=false:=by simpa using hy
    simp only[cornD,this,BC,Bool.and_false]
   have hai:es.all isI=true:=by simpa using hn5
   have hxz:=hes5.ints hai;have hcI:cornD n (.list es)=cornI n (es.map iv):=by simp only[cornD,hai,hee,Bm,Bool.not_false]
   have hzl:(es.map iv).length=es.length:=Af ..;have hzne:es.map iv≠[]:=by intro z;exact hne (List.map_eq_nil_iff.mp z)
   rw[hcI]at no;generalize es.map iv=zs at hxz hzl hzne no hcI;subst hxz;have hz0:0<zs.length:=Bf.mpr hzne;have c6:=s6 _ _ ec5;refine⟨_,rfl,c,_,_,_,rfl,rfl,SqL.of c6,zah (j:=0) (zdy hz0),rfl,_,rfl,?_⟩;refine ite2 (λhy=>?_) (λhn6=>?_)
   .refine no ?_ H6 s06;have h00:zs.getD 0 0≠0:=λz=>by rw[z]at hy;simp at hy
    simp only[cornI,decide_eq_false h00,BC,Bool.and_false]
   have h00:zs.getD 0 0=0:=by
    have:decide (V.int (zs.getD 0 0)=V.int 0)=true:=by simpa using hn6
    have:=of_decide_eq_true this;injection this
   refine⟨_,rfl,_,rfl,c,_,_,_,rfl,rfl,SqL.of c6,zjU hzne,_,rfl,_,_,rfl,rfl,_,rfl,?_⟩;refine ite2 (λhy=>?_) (λhn7=>?_)
   .refine no ?_ H6 s06;have h99:¬ zs.getD (zs.length-1) 0<(n:Int):=by have:=of_decide_eq_true hy;lia
    simp only[cornI,decide_eq_false h99,Bool.and_false]
   have h99:zs.getD (zs.length-1) 0<(n:Int):=by
    by_cases z:zs.getD (zs.length-1) 0<(n:Int)
    .exact z
    .exact absurd (decide_eq_true (by lia)) hn7
   refine⟨_,rfl,c,_,rfl,.inl (SqL.of c6),_,_,rfl,rfl,_,rfl,by lia,by rw[Af];lia,λga hga=>?_⟩;show zb8 (Itr 0 (((zs.map V.int).length:Int)-1).toNat) _ _ _ _ _;rw[show (((zs.map V.int).length:Int)-1).toNat=zs.length-1 by rw[Af];lia]
   refine zbd (lo:=0) (n:=zs.length-1) (λq σ H7=>∃o,σ=[o,some (.ref c)]/\Same H6 H7/\H7 ga=some (.lst (((As q).map λq=>decide (zs.getD (q+1) 0<=zs.getD q 0)).map V.bl)))
    ⟨_,rfl,Same.up hga,zaa⟩ ?_ ?_
   .rintro q σ H7 hq ⟨o,rfl,s7,e7⟩;have c7:=s7 _ _ c6;have a1:=zdy (zs:=zs) (i:=q) (by lia);have a2:=zdy (zs:=zs) (i:=q+1) (by lia);refine gN ?_
    refine⟨_,rfl,_,rfl,c,_,_,_,rfl,rfl,SqL.of c7,(by rw[show ((0:Int)+(q:Int))=(q:Int) by lia];exact zah a1),_,rfl,_,rfl,_,_,rfl,rfl,c,_,_,_,rfl,rfl,SqL.of c7,(by rw[show ((0:Int)+(q:Int))+1=((q+1:Nat):Int) by lia];exact zah a2),_,_,rfl,rfl,_,e7,zal (by simp;lia),_,rfl,zas hga s7,?_⟩;rw[zaa,List.range_succ,Ax,Ax];rfl
   rintro σ H7 ⟨o,rfl,s7,e7⟩;refine⟨ga,_,rfl,SqL.of e7,_,rfl,?_⟩;have s07:=s06.trans s7
   have hany:((As (zs.length-1)).map λq=>decide (zs.getD (q+1) 0<=zs.getD q 0)).any id=!riseB zs:=by
    rw[List.any_map];unfold riseB;rw[List.not_all_eq_any_not]
    congr 1
    funext q
    show decide (zs.getD (q+1) 0<=zs.getD q 0)=!decide (zs.getD q 0<zs.getD (q+1) 0)
    by_cases z:zs.getD q 0<zs.getD (q+1) 0
    .rw[decide_eq_true z,decide_eq_false (by lia)];rfl
    .rw[decide_eq_false z,decide_eq_true (by lia)];rfl
   rw[hany];refine ite2 (λhy=>?_) (λhn8=>?_)
   .refine no ?_ H7 s07;have:riseB zs=false:=by simpa using hy
    simp only[cornI,this,BC]
   have hri:riseB zs=true:=by simpa using hn8
   have hyes:cornI n zs=true:=by simp only[cornI,hri,decide_eq_true h00,decide_eq_true h99,Bm]
   refine⟨_,_,rfl,s07,λm' n' d' hm' q1 q2=>?_⟩;rcases A3 m' m with z |z
   .exact hgood m' n' d' z q1 q2
   .have:m'=m:=by lia
    subst this;rw[hnm]at q1;rw[hdq]at q2
    cases q1
    cases q2
    rw[hcI];exact hyes
  .rintro σ H3 ⟨o2,o3,rfl,s3,hgood⟩;have:=k H3 s3;rw[ziA hdn λm n d h1 h2=>hgood m n d (by rw[htl,hdn];exact (Ab.mp h1).1) h1 h2]at this;exact this
theorem Good.of{ks:List Nat}{n:Nat}(hne:ks≠[])(hl:ks.length<=481)(hp:ks.Pairwise (·<·))(hn:∀k∈ks,k<n):Good ks n:=by
 refine⟨hne,hl,λm i j h1 h2=>?_⟩;have hi:=(Ab.mp h1).1;unfold nxs at h2;rcases A3 (m+1) ks.length with z |z
 .rw[Am (by rw[AE];lia),Bq]at h2;have hj:=Ab.mp h2;have hi2:=Ab.mp h1;obtain⟨l1,e1⟩:=hj;obtain⟨l2,e2⟩:=hi2;have:=BM.mp hp m (1+m) l2 l1 (by lia);rw[e1,e2]at this;exact⟨this,Bc (hn j (Ag h2))⟩
 .rw[Au (by rw[AE];lia)]at h2
  have:m-(ks.drop 1).length=0:=by have:=(Ab.mp h2).1;simp at this;rw[AE];lia
  rw[this]at h2
  cases h2
  exact⟨hn i (Ag h1),Ah _⟩
theorem five:5<=sizeLine:=by decide
theorem atI5{n:Int}(h0:0<=n)(h5:n<5):∃b:Int,atI [V.int 2,.int 6,.int 20,.int 2,.int 3] n=some (.int b)/\0<b/\b<=1000:=by
 have:n=0∨n=1∨n=2∨n=3∨n=4:=by lia
 rcases this with rfl |rfl |rfl |rfl |rfl
 .exact⟨2,rfl,by decide,by decide⟩
 .exact⟨6,rfl,by decide,by decide⟩
 .exact⟨20,rfl,by decide,by decide⟩
 .exact⟨2,rfl,by decide,by decide⟩
 .exact⟨3,rfl,by decide,by decide⟩
noncomputable def zc7(K:W.Frag):Sp:=λvs H Q _=>∃(p:Addr) (c n:Nat),vs=[.ref p,.int n]/\HasB H p (c+500)/\1<=n/\n<=481 /\
 ∀(l:Addr) (ks:List Nat) (H':Hp),H l=none->But H H' p->HasB H' p c->H' l=some (.lst (rowV ks))->Good ks n->Q (.ref l) H'
theorem zey (T:Txt P w K mg) (g__law_take:Tk P w K mg base) (d:Df K mg "_law_corners" zbt ["_law_pen","_law_many"]):FnOk P w K mg base CX0 2 d.f d.fd ["_law_pen","_law_many"] (zc7 K):=by
 refine d.F.ok zcv (λvs H Q E h=>?_) (λcdv A outer s H vs Q E hr h=>?_)
 .obtain⟨p,c,n,rfl,_⟩:=h;rfl
 .obtain⟨p,c,n,rfl,hp,hn1,hn,k⟩:=h;have nb0:(["_law_spot","_law_pen","_law_often"]:List Str).Nodup:=by decide +kernel
  refine⟨_,(zad (zda (i:=2) zcv.nd (by rfl) (Or.inr rfl) (pC g__law_take hr (pa_N (pv 0) (pa_C zac zab))))
   (zaf (zaj (pe_op za5 (zaA (pa_C zac zab)) (zaF (osc:=zae zbt) (N:=zcS) (N':=["_law_spot","_law_pen","_law_often"]) (sel:=[none,some 0,some 2]) bO (zdb (by rfl) T.nrange (pa_C zac (pa_N (pv 1) zab))) (λ_ _ _ _ _=>(nG 0 nb0)) (λ_ _ _ _ _=>zdw (zav op_eq (pC g__law_take hr (pa_N (pv 1) (zag (pe_ix (zcn (K:=K)) (zaA (pa_C zac (pa_C zac (pa_C zac (pa_C zac (pa_C zac zab)))))) (pv 2) (λ_ _=>rfl)) zab))) (zbx zdj (by rfl) T.nint (by rfl) (zag (zaQ op_gt (pv 2) zac (zaq _)) zab)) (zaq _))) (λ_ _ _ _ _=>(pv 0))))))),?_⟩
  refine⟨_,rfl,p,c+499,5,rfl,hp,by decide,zaD (by decide) (by decide),λr H1 r0 r5 b1 p1=>?_⟩;refine⟨(by show 1<=sizeLine;decide),λl0 hl0=>?_⟩;have b2:But H (upd H1 l0 (.lst [.int 0])) p:=b1.trans (But.of (Same.up hl0));have p2:HasB (upd H1 l0 (.lst [.int 0])) p (c+499):=p1.same (Same.up hl0);have e2:upd H1 l0 (.lst [.int 0]) l0=some (.lst [.int 0]):=zaa;generalize upd H1 l0 (.lst [.int 0])=H2 at b2 p2 e2;refine⟨_,rfl,_,_,rfl,⟨by decide,by decide,by lia,by lia⟩,λg hg=>?_⟩
  have hgp:g≠p:=λz=>by obtain⟨c0,t0,e0,_⟩:=p2;subst z;rw[e0]at hg;cases hg
  have hl0p:l0≠p:=λz=>by obtain⟨c0,t0,e0,_⟩:=p1;subst z;rw[e0]at hl0;cases hl0
  have hg0:H g=none:=b2.free hp hg (p2.le (by lia));obtain⟨bb,hbb,bb0,bb1⟩:=atI5 r0 r5
  refine zbd (lo:=1) (n:=((n:Int)-1).toNat) (λi σ H3=>∃o,σ=[o,some (.ref p),some (.int r)]/\But H2 H3 p/\HasB H3 p (c+499-i)/\∃zs:List Nat,H3 g=some (.lst (rowV zs))/\zs.length<=i/\zs.Pairwise (·<·)/\∀q∈zs,1<=q/\q<1+i)
   ⟨_,rfl,But.of (Same.up hg),p2.same (Same.up hg),[],zaa,Ah _,List.Pairwise.nil,λq hq=>by cases hq⟩ ?_ ?_
  .rintro i σ H3 hi ⟨o,rfl,b3,p3,zs,e3,hzl,hzp,hzb⟩;refine⟨_,rfl,five,λl hl=>?_⟩;have s4:=Same.up (o:=.lst [.int 2,.int 6,.int 20,.int 2,.int 3]) hl;have e4:upd H3 l (.lst [.int 2,.int 6,.int 20,.int 2,.int 3]) l=some (.lst [.int 2,.int 6,.int 20,.int 2,.int 3]):=zaa;generalize upd H3 l (.lst [.int 2,.int 6,.int 20,.int 2,.int 3])=H4 at s4 e4 ⊢;refine⟨_,rfl,l,_,_,_,rfl,rfl,SqL.of e4,hbb,p,c+499-i-1,bb,rfl,(p3.same s4).le (by lia),bb0,zaD bb0 bb1,λx H5 x0 xb b5 p5=>?_⟩;refine⟨_,rfl,_,_,rfl,rfl,.inr ⟨_,rfl,rfl,_,rfl,?_⟩⟩;have b35:But H2 H5 p:=b3.trans ((But.of s4).trans b5);have e5:H5 g=some (.lst (rowV zs)):=b5 _ _ hgp (s4 _ _ e3);refine ite2 (λ_=>?_) (λ_=>?_)
   .refine⟨_,rfl,_,e5,zal (by unfold rowV;rw[Af];lia),?_⟩;refine⟨_,rfl,λz o hz h=>?_,?_,zs++[1+i],?_,?_,?_,?_⟩
    .rw[zam (zao h hg)];exact b35 _ _ hz h
    .obtain⟨c0,t0,e0,h1,h2⟩:=p5;exact⟨c0,t0,by rw[zam (By hgp)];exact e0,h1,by lia⟩
    .rw[zaa];unfold rowV;rw[Ax];show some (HO.lst (_++[V.int (1+(i:Int))]))=some (HO.lst (_++[V.int ((1+i:Nat):Int)]));rw[show ((1+i:Nat):Int)=1+(i:Int) by lia]
    .rw[Aj];simp;lia
    .refine List.pairwise_append.mpr ⟨hzp,List.pairwise_singleton _ _,λa ha b hb=>?_⟩;have:=hzb a ha;rw[AN.mp hb];lia
    .intro q hq;rcases Ba.mp hq with z |z
     .have:=hzb q z;lia
     .rw[AN.mp z];lia
   .exact⟨_,rfl,b35,p5.le (by lia),zs,e5,by lia,hzp,λq hq=>by have:=hzb q hq;lia⟩
  .rintro σ H3 ⟨o,rfl,b3,p3,zs,e3,hzl,hzp,hzb⟩;have hz':(rowV zs).length=zs.length:=by unfold rowV;rw[Af]
   refine⟨l0,g,_,_,rfl,rfl,b3 _ _ hl0p e2,e3,Bc (zal (by rw[hz'];simp;lia)),λz hz=>?_⟩;have hz0:H z=none:=(b2.trans b3).free hp hz (p3.le (by lia));refine k z (0::zs) _ hz0 ((b2.trans b3).trans (But.of (Same.up hz))) ((p3.same (Same.up hz)).le (by lia)) ?_ (Good.of (by simp) (by simp;lia) (List.pairwise_cons.mpr ⟨λq hq=>by have:=hzb q hq;lia,hzp⟩) ?_)
   .rw[zaa];rfl
   .intro q hq;rcases At.mp hq with rfl |hq
    .lia
    .have:=hzb q hq;lia
structure Nc (d:PyData) (w k:Nat):Prop where
 ls:d.leavesShort 120=true
 sh:d.showable=true
 cl:d.canLay0=true
 dp:d.depth<=k
 wt:d.weight<=w
theorem Nc.le{d:PyData}{w w' k k':Nat}(h:Nc d w k)(hw:w<=w')(hk:k<=k'):Nc d w' k':=⟨h.ls,h.sh,h.cl,AF h.dp hk,AF h.wt hw⟩
structure Ncs (ds:List PyData) (w k:Nat):Prop where
 ls:PyData.leavesShortAll 120 ds=true
 sh:PyData.showableAll ds=true
 cl:BQ ds=true
 dp:C5 ds<=k
 wt:PyData.weightAll ds<=w
theorem Ncs.of{k w:Nat}:∀{ds:List PyData},(∀d∈ds,Nc d w k)->Ncs ds (ds.length*(w+1)) k
 |[],_=>⟨rfl,rfl,rfl,AV _,AV _⟩
 |d::ds,h=>by
  have h1:=h d Ay;have h2:=Ncs.of (ds:=ds) λx hx=>h x (Ao _ hx)
  refine⟨?_,?_,?_,?_,?_⟩
  .simp only[PyData.leavesShortAll,h1.ls,h2.ls,Bm]
  .simp only[PyData.showableAll,h1.sh,h2.sh,Bm]
  .simp only[BQ,h1.cl,h2.cl,Bm]
  .have:=h1.dp;have:=h2.dp;simp only[C5];lia
  .have:=h1.wt;have:=h2.wt;simp only[PyData.weightAll,AO,Nat.succ_mul];lia
theorem Ncs.list{ds:List PyData}{w k:Nat}(h:Ncs ds w k):Nc (.list ds) (w+1) (k+1):=by
 refine⟨?_,?_,?_,?_,?_⟩
 .simp only[PyData.leavesShort,h.ls]
 .simp only[PyData.showable,h.sh]
 .simp only[PyData.canLay0,h.cl]
 .have:=h.dp;simp only[PyData.depth];lia
 .have:=h.wt;simp only[PyData.weight];lia
theorem Ncs.tuple{ds:List PyData}{w k:Nat}(h:Ncs ds w k):Nc (.tuple ds) (w+1) (k+1):=by
 refine⟨?_,?_,?_,?_,?_⟩
 .simp only[PyData.leavesShort,h.ls]
 .simp only[PyData.showable,h.sh]
 .simp only[PyData.canLay0,h.cl]
 .have:=h.dp;simp only[PyData.depth];lia
 .have:=h.wt;simp only[PyData.weight];lia
theorem zjj{i:Int}{m:Nat}(h:i.natAbs.log2<m)(hm:m<=110):Nc (.int i) m 0:=by
 refine⟨?_,?_,rfl,Ah _,?_⟩
 .simp only[PyData.leavesShort,decide_eq_true_eq];have h1:=int_text_length_le (a:=i) (k:=110) (by decide) (by lia);have h2:(AR (toString i)).length=(toString i).length:=ofString_length _;show (AR (toString i)).length<=120;lia
 .simp only[PyData.showable];exact decide_eq_true (by lia)
 .simp only[PyData.weight];split <;> lia
theorem zf6{n:Nat}(h:n<=1000):Nc (.int (n:Int)) 10 0:=zjj (by
 show (n:Int).natAbs.log2<10
 by_cases z:n=0
 .subst z;decide
 .exact (Nat.log2_lt (by simpa using z)).mpr (by simp;lia)) (by decide)
theorem zhz(ks:List Nat)(h:∀k∈ks,k<=1000):∀d∈ks.map (λk:Nat=>PyData.int k),Nc d 10 1:=λd hd=>by obtain⟨k,hk,rfl⟩:=AL.mp hd;exact (zf6 (h k hk)).le (Ah _) (by decide)
theorem zji:Nc .none 10 1:=⟨rfl,rfl,rfl,by decide,by decide⟩
theorem zea(b:Bool):Nc (.bool b) 10 1:=⟨rfl,rfl,rfl,by simp[PyData.depth],by simp[PyData.weight]⟩
theorem Nc.shaped{d:PyData}{w k:Nat}(h:Nc d w k)(hk:k<=64):Bd d=true:=by unfold Bd;rw[h.cl,Bm];exact decide_eq_true (AF h.dp hk)
section
variable {K:W.Frag}{σ:St}{H:Hp}{Q:VK}{i:Nat}{c:Addr}{xs:List V}
theorem cat3{tj tx ty:TE}{m m':Nat}{x:V}(hi : σ[i]? = some (some (.ref c)))(hc:H c=some (.lst xs))(hl:xs.length <= 900)(hm:m <= xs.length)(hm':m' <= xs.length)
  (htj:∀(H1:Hp) (Q1:VK),Same H H1->Q1 (.int (m:Int)) H1->tj σ H1 Q1) (htx:∀(H1:Hp) (Q1:VK),Same H H1->Q1 x H1->tx σ H1 Q1) (hty:∀(H1:Hp) (Q1:VK),Same H H1->Q1 (.int (m':Int)) H1->ty σ H1 Q1)
  (k:∀p H',H p=none->Same H H'->H' p=some (.lst (xs.take m++[x]++xs.drop m'))->Q (.ref p) H') :
  tOp rCat (tOp rCat (tSl (rSlL K) (tVar i) zar (tPart tj)) (tLst (tCons tx tNil))) (tSl (rSlL K) (tVar i) (tPart ty) zar) σ H Q:=by
 refine⟨_,hi,htj H _ (Same.refl _) ⟨_,rfl,c,_,rfl,SqL.of hc,λp1 hp1=>?_⟩⟩;have s1:=Same.up (o:=.lst (cutV xs none (some (m:Int)))) hp1;have e1:upd H p1 (.lst (cutV xs none (some (m:Int)))) p1=some (.lst (cutV xs none (some (m:Int)))):=zaa;generalize upd H p1 (.lst (cutV xs none (some (m:Int))))=H1 at s1 e1 ⊢;rw[zhN _ hm]at e1;refine htx H1 _ s1 ⟨(by show 1<=sizeLine;decide),λp2 hp2=>?_⟩;have s2:=Same.up (o:=.lst [x]) hp2;have e2:upd H1 p2 (.lst [x]) p2=some (.lst [x]):=zaa;generalize upd H1 p2 (.lst [x])=H2 at s2 e2 ⊢;refine⟨p1,p2,_,_,rfl,rfl,s2 _ _ e1,e2,Bc (bigT (by rw[Aq];simp;lia)),λp3 hp3=>?_⟩;have s3:=Same.up (o:=.lst (xs.take m++[x])) hp3;have e3:upd H2 p3 (.lst (xs.take m++[x])) p3=some (.lst (xs.take m++[x])):=zaa;generalize upd H2 p3 (.lst (xs.take m++[x]))=H3 at s3 e3 ⊢;have s03:=s1.trans (s2.trans s3);refine⟨_,hi,hty H3 _ s03 ⟨_,rfl,c,_,rfl,SqL.of (s03 _ _ hc),λp4 hp4=>?_⟩⟩;have s4:=Same.up (o:=.lst (cutV xs (some (m':Int)) none)) hp4;have e4:upd H3 p4 (.lst (cutV xs (some (m':Int)) none)) p4=some (.lst (cutV xs (some (m':Int)) none)):=zaa;generalize upd H3 p4 (.lst (cutV xs (some (m':Int)) none))=H4 at s4 e4 ⊢;rw[zcN _ hm']at e4;refine⟨p3,p4,_,_,rfl,rfl,s4 _ _ e3,e4,Bc (bigT (by rw[Aj,Aq,AE];simp;lia)),λp5 hp5=>?_⟩;exact k p5 _ ((s03.trans s4).free hp5) ((s03.trans s4).trans (Same.up hp5)) zaa
theorem cat2{tj ty:TE}{m m':Nat}(hi : σ[i]? = some (some (.ref c)))(hc:H c=some (.lst xs))(hl:xs.length <= 900)(hm:m <= xs.length)(hm':m' <= xs.length)
  (htj:∀(H1:Hp) (Q1:VK),Same H H1->Q1 (.int (m:Int)) H1->tj σ H1 Q1) (hty:∀(H1:Hp) (Q1:VK),Same H H1->Q1 (.int (m':Int)) H1->ty σ H1 Q1)
  (k:∀p H',H p=none->Same H H'->H' p=some (.lst (xs.take m++xs.drop m'))->Q (.ref p) H') :
  tOp rCat (tSl (rSlL K) (tVar i) zar (tPart tj)) (tSl (rSlL K) (tVar i) (tPart ty) zar) σ H Q:=by
 refine⟨_,hi,htj H _ (Same.refl _) ⟨_,rfl,c,_,rfl,SqL.of hc,λp1 hp1=>?_⟩⟩;have s1:=Same.up (o:=.lst (cutV xs none (some (m:Int)))) hp1;have e1:upd H p1 (.lst (cutV xs none (some (m:Int)))) p1=some (.lst (cutV xs none (some (m:Int)))):=zaa;generalize upd H p1 (.lst (cutV xs none (some (m:Int))))=H1 at s1 e1 ⊢;rw[zhN _ hm]at e1;refine⟨_,hi,hty H1 _ s1 ⟨_,rfl,c,_,rfl,SqL.of (s1 _ _ hc),λp4 hp4=>?_⟩⟩;have s4:=Same.up (o:=.lst (cutV xs (some (m':Int)) none)) hp4;have e4:upd H1 p4 (.lst (cutV xs (some (m':Int)) none)) p4=some (.lst (cutV xs (some (m':Int)) none)):=zaa;generalize upd H1 p4 (.lst (cutV xs (some (m':Int)) none))=H4 at s4 e4 ⊢;rw[zcN _ hm']at e4;refine⟨p1,p4,_,_,rfl,rfl,s4 _ _ e1,e4,Bc (bigT (by rw[Aq,AE];lia)),λp5 hp5=>?_⟩;exact k p5 _ ((s1.trans s4).free hp5) ((s1.trans s4).trans (Same.up hp5)) zaa
end
theorem zgW{α:Type}{l:List α}{m m':Nat}{x:α}{P:α->Prop}(h:∀y∈l,P y)(hx:P x):∀y∈l.take m++[x]++l.drop m',P y:=λy hy=>by
 rcases Ba.mp hy with z |z
 .rcases Ba.mp z with q |q
  .exact h y (BO q)
  .have:y=x:=by simpa using q
   rw[this];exact hx
 .exact h y (CP z)
theorem zhA{α:Type}{l:List α}{m m':Nat}{P:α->Prop}(h:∀y∈l,P y):∀y∈l.take m++l.drop m',P y:=λy hy=>by
 rcases Ba.mp hy with z |z
 .exact h y (BO z)
 .exact h y (CP z)
structure RowT (H:Hp) (v:V):Prop where
 ex:∃d,DD H v d/\lenOk d/\Nc d 1000 2
theorem zhq{H:Hp}{p:Addr}{xs:List V}{ds:List PyData}(e:H p=some (.lst xs))(h:DDs H xs ds)(hl:ds.length<=60)(hn:∀d∈ds,Nc d 10 1):RowT H (.ref p):=by have h1:=Ncs.of hn;exact⟨.list ds,.lst e h,AF hl (by decide),h1.list.le (by lia) (by decide)⟩
theorem zi1{H:Hp}{p:Addr}{xs:List V}{ds:List PyData}(e:H p=some (.tup xs))(h:DDs H xs ds)(hl:ds.length<=60)(hn:∀d∈ds,Nc d 10 1):RowT H (.ref p):=by have h1:=Ncs.of hn;exact⟨.tuple ds,.tup e h,AF hl (by decide),h1.tuple.le (by lia) (by decide)⟩
theorem RowT.same{H H':Hp}{v:V}(h:RowT H v)(s:Same H H'):RowT H' v:=let ⟨d,h1,h2,h3⟩:=h.ex;⟨d,h1.same s,h2,h3⟩
theorem zhp{H:Hp}:∀{xs:List V},(∀v∈xs,RowT H v)->∃ds,DDs H xs ds/\∀d∈ds,lenOk d/\Nc d 1000 2
 |[],_=>⟨[],.nil,λd hd=>nomatch hd⟩
 |x::xs,h=>by
  obtain⟨d,h1,h2,h3⟩:=(h x Ay).ex;obtain⟨ds,h4,h5⟩:=zhp (xs:=xs) λv hv=>h v (Ao _ hv)
  refine⟨d::ds,.cons h1 h4,λe he=>?_⟩;rcases At.mp he with z |z
  .rw[z];exact⟨h2,h3⟩
  .exact h5 e z
structure ThgT (H:Hp) (v:V) (d:PyData):Prop where
 dd:DD H v d
 ro:zd1 d
 nc:Nc d 80000 3
theorem zdl{H:Hp}{u:Addr}{xs:List V}(e:H u=some (.lst xs))(hl:xs.length<=63)(h:∀v∈xs,RowT H v):∃d,ThgT H (.ref u) d:=by
 obtain⟨ds,h1,h2⟩:=zhp h;have hlen:=h1.len;have h3:=Ncs.of λd hd=>(h2 d hd).2
 exact⟨.list ds,.lst e h1,⟨by lia,λd hd=>⟨(h2 d hd).1,(h2 d hd).2.shaped (by decide)⟩⟩,h3.list.le (by lia) (by decide)⟩
noncomputable def thP(p:Addr)(ks:List Nat)(v:V)(H:Hp):Prop:=∃c,v=.ref c/\c≠p/\H c=some (.lst (rowV ks))
theorem zgE{H:Hp}{c:Addr}{ks:List Nat}(e:H c=some (.lst (rowV ks)))(hl:ks.length<=60)(hk:∀k∈ks,k<=1000):RowT H (.ref c) :=
 zhq e (DDs.row ks) (by rw[Af];exact hl) (zhz ks hk)
noncomputable def Odd(H:Hp)(v:V):Prop:=∃d,DD H v d/\Nc d 10 1
theorem Odd.same{H H':Hp}{v:V}(h:Odd H v)(s:Same H H'):Odd H' v:=let ⟨d,h1,h2⟩:=h;⟨d,h1.same s,h2⟩
theorem zfn{H:Hp}{n:Nat}(h:n<=1000):Odd H (.int (n:Int)):=⟨_,.int _,(zf6 h).le (Ah _) (by decide)⟩
theorem odds{H:Hp}:∀{xs:List V},(∀v∈xs,Odd H v)->∃ds,DDs H xs ds/\∀d∈ds,Nc d 10 1
 |[],_=>⟨[],.nil,λd hd=>nomatch hd⟩
 |x::xs,h=>by
  obtain⟨d,h1,h2⟩:=h x Ay;obtain⟨ds,h4,h5⟩:=odds (xs:=xs) λv hv=>h v (Ao _ hv)
  refine⟨d::ds,.cons h1 h4,λe he=>?_⟩;rcases At.mp he with z |z
  .rw[z];exact h2
  .exact h5 e z
theorem zfS{H:Hp}{p:Addr}{xs:List V}(e:H p=some (.lst xs))(hl:xs.length<=60)(h:∀v∈xs,Odd H v):RowT H (.ref p):=by obtain⟨ds,h1,h2⟩:=odds h;exact zhq e h1 (by rw[<- h1.len];exact hl) h2
theorem zlh{H:Hp}{p:Addr}{xs:List V}(e:H p=some (.tup xs))(hl:xs.length<=60)(h:∀v∈xs,Odd H v):RowT H (.ref p):=by obtain⟨ds,h1,h2⟩:=odds h;exact zi1 e h1 (by rw[<- h1.len];exact hl) h2
theorem zly{H:Hp}{ks:List Nat}(h:∀k∈ks,k<=1000):∀v∈rowV ks,Odd H v:=λv hv=>by unfold rowV at hv;obtain⟨k,hk,rfl⟩:=AL.mp hv;exact zfn (h k hk)
theorem zaV(ks:List Nat):(rowV ks).length=ks.length:=by unfold rowV;rw[Af]
noncomputable def TMk(σ:St)(H0:Hp)(t:TE):Prop:=∀(H1:Hp) (Q1:VK),Same H0 H1->(∀v H2,Same H1 H2->RowT H2 v->Q1 v H2)->t σ H1 Q1
noncomputable def TMks(σ:St)(H0:Hp)(ts:TA)(n:Nat):Prop:=∀(H1:Hp) (Q1:List V->Hp->Prop),Same H0 H1->(∀vs H2,Same H1 H2->vs.length=n->(∀v∈vs,RowT H2 v)->Q1 vs H2)->ts σ H1 Q1
theorem TMks.nil{σ:St}{H0:Hp}:TMks σ H0 tNil 0:=λH1 Q1 s k=>k [] H1 (Same.refl _) rfl λv hv=>nomatch hv
theorem TMks.cons{σ:St}{H0:Hp}{t:TE}{ts:TA}{n:Nat}(h:TMk σ H0 t)(h':TMks σ H0 ts n):TMks σ H0 (tCons t ts) (n+1):=λH1 Q1 s k =>
 h H1 _ s λv H2 s2 hv=>h' H2 _ (s.trans s2) λvs H3 s3 hn hvs=>k (v::vs) H3 (s2.trans s3) (by rw[AO,hn]) λx hx=>by
  rcases At.mp hx with z |z
  .rw[z];exact hv.same s3
  .exact hvs x z
theorem TMks.lst{σ : St}{H0:Hp}{ts:TA}{n:Nat}(h:TMks σ H0 ts n)(hn:n <= 50){H1:Hp}{Q1:VK}(s:Same H0 H1)
  (k:∀p vs H2,H1 p=none->Same H1 H2->H2 p=some (.lst vs)->vs.length=n->(∀v∈vs,RowT H2 v)->Q1 (.ref p) H2):tLst ts σ H1 Q1:=by
 refine h H1 _ s λvs H2 s2 hl hv=>⟨Bc (bigT (by lia)),λp hp=>?_⟩
 have s3:=Same.up (o:=.lst vs) hp;exact k p vs _ (s2.free hp) (s2.trans s3) zaa hl λv hv'=>(hv v hv').same s3
section
variable {K:W.Frag}
structure Bx (σ:St) (H:Hp) (ks ns:List Nat) (m a n:Nat) (odd:V) (c bm:Addr):Prop where
 s5:σ[5]?=some (some (.ref c))
 s6:σ[6]?=some (some (.int (m:Int)))
 s7:σ[7]?=some (some odd)
 s2:σ[2]?=some (some (.ref bm))
 s4:σ[4]?=some (some (.int (a:Int)))
 c:H c=some (.lst (rowV ks))
 bm:H bm=some (.lst (rowV ns))
 od:Odd H odd
 at':ns[a]?=some n
 n1:1<=n
 n2:n<=900
 m1:m<ks.length
 l1:ks.length<=50
 l2:∀k∈ks,k<=900
theorem Bx.same{σ:St}{H H':Hp}{ks ns:List Nat}{m a n:Nat}{odd:V}{c bm:Addr}(b:Bx σ H ks ns m a n odd c bm)(s:Same H H'):Bx σ H' ks ns m a n odd c bm :=
 ⟨b.s5,b.s6,b.s7,b.s2,b.s4,s _ _ b.c,s _ _ b.bm,b.od.same s,b.at',b.n1,b.n2,b.m1,b.l1,b.l2⟩
variable {σ:St}{H:Hp}{ks ns:List Nat}{m a n:Nat}{odd:V}{c bm:Addr}
theorem Bx.odds(b:Bx σ H ks ns m a n odd c bm){H':Hp}:∀v∈rowV ks,Odd H' v:=zly λk hk=>AF (b.l2 k hk) (by decide)
theorem zgZ{xs:List V}{x:V}{m m':Nat}(h:m<=m'):(xs.take m++[x]++xs.drop m').length<=xs.length+1:=by rw[Aj,Aj,Aq,AE,Bv];lia
theorem zjJ{xs:List V}{m m':Nat}(h:m<=m'):(xs.take m++xs.drop m').length<=xs.length:=by rw[Aj,Aq,AE];lia
noncomputable abbrev tAdd1(t:TE):TE:=tOp (rI0 λi j=>V.int (i+j)) t (tC (V.int 1))
theorem Bx.mk3(b:Bx σ H ks ns m a n odd c bm){tj tx ty:TE}{m':Nat}{x:V}(hm:m <= m')(hm':m' <= ks.length)
  (htj:∀(H1:Hp) (Q1:VK),Same H H1->Q1 (.int (m:Int)) H1->tj σ H1 Q1) (htx:∀(H1:Hp) (Q1:VK),Same H H1->Q1 x H1->tx σ H1 Q1) (hty:∀(H1:Hp) (Q1:VK),Same H H1->Q1 (.int (m':Int)) H1->ty σ H1 Q1) (hx:Odd H x) :
  TMk σ H (tOp rCat (tOp rCat (tSl (rSlL K) (tVar 5) zar (tPart tj)) (tLst (tCons tx tNil))) (tSl (rSlL K) (tVar 5) (tPart ty) zar)):=λH1 Q1 s k=>by
 have hl:=zaV ks;have:=b.m1;have:=b.l1;refine cat3 (x:=x) (m:=m) (m':=m') b.s5 (s _ _ b.c) (by lia) (by lia) (by lia) (λH2 Q2 s2=>htj H2 Q2 (s.trans s2)) (λH2 Q2 s2=>htx H2 Q2 (s.trans s2)) (λH2 Q2 s2=>hty H2 Q2 (s.trans s2)) λp H' _ s' e=>?_
 exact k _ _ s' (zfS e (AF (zgZ hm) (by lia)) (zgW b.odds (hx.same (s.trans s'))))
theorem Bx.mk2(b:Bx σ H ks ns m a n odd c bm){tj ty:TE}{m':Nat}(hm:m <= m')(hm':m' <= ks.length)
  (htj:∀(H1:Hp) (Q1:VK),Same H H1->Q1 (.int (m:Int)) H1->tj σ H1 Q1) (hty:∀(H1:Hp) (Q1:VK),Same H H1->Q1 (.int (m':Int)) H1->ty σ H1 Q1) :
  TMk σ H (tOp rCat (tSl (rSlL K) (tVar 5) zar (tPart tj)) (tSl (rSlL K) (tVar 5) (tPart ty) zar)):=λH1 Q1 s k=>by
 have hl:=zaV ks;have:=b.m1;have:=b.l1;refine cat2 (m:=m) (m':=m') b.s5 (s _ _ b.c) (by lia) (by lia) (by lia) (λH2 Q2 s2=>htj H2 Q2 (s.trans s2)) (λH2 Q2 s2=>hty H2 Q2 (s.trans s2)) λp H' _ s' e=>?_
 exact k _ _ s' (zfS e (AF (zjJ hm) (by lia)) (zhA b.odds))
theorem Bx.p0(b:Bx σ H ks ns m a n odd c bm)(H1:Hp)(Q1:VK)(s:Same H H1)(q:Q1 (.int (m:Int)) H1):tVar 6 σ H1 Q1:=⟨_,b.s6,q⟩
theorem Bx.p1(b:Bx σ H ks ns m a n odd c bm)(H1:Hp)(Q1:VK)(s:Same H H1)(q:Q1 (.int ((m+1:Nat):Int)) H1):tAdd1 (tVar 6) σ H1 Q1:=⟨_,b.s6,_,_,rfl,rfl,q⟩
theorem Bx.some1(b:Bx σ H ks ns m a n odd c bm){H1:Hp}{Q1:VK}(s:Same H H1)(k:∀p vs H2, H1 p=none -> Same H1 H2 -> H2 p=some (.lst vs) -> vs.length=3 -> (∀v ∈ vs, RowT H2 v) -> Q1 (.ref p) H2) :
  tLst (tCons (tOp rCat (tOp rCat (tSl (rSlL K) (tVar 5) zar (tPart (tVar 6))) (tLst (tCons (tVar 7) tNil))) (tSl (rSlL K) (tVar 5) (tPart (tVar 6)) zar)) (tCons (tOp rCat (tOp rCat (tSl (rSlL K) (tVar 5) zar (tPart (tVar 6))) (tLst (tCons (tVar 7) tNil))) (tSl (rSlL K) (tVar 5) (tPart (tAdd1 (tVar 6))) zar)) (tCons (tOp rCat (tSl (rSlL K) (tVar 5) zar (tPart (tVar 6))) (tSl (rSlL K) (tVar 5) (tPart (tAdd1 (tVar 6))) zar)) tNil))) σ H1 Q1:=by
 have:=b.m1;have h1:∀(H1:Hp) (Q1:VK),Same H H1->Q1 odd H1->tVar 7 σ H1 Q1:=λH1 Q1 _ q=>⟨_,b.s7,q⟩
 exact (TMks.cons (b.mk3 (Ah m) (by lia) b.p0 h1 b.p0 b.od) (.cons (b.mk3 (by lia) b.m1 b.p0 h1 b.p1 b.od) (.cons (b.mk2 (by lia) b.m1 b.p0 b.p1) .nil))).lst (by decide) s k
end
section
variable {K:W.Frag}{σ:St}{H:Hp}{ks ns:List Nat}{m a n:Nat}{odd:V}{c bm:Addr}
theorem zhR{ts:TA}{k' j:Nat}{f:Addr}{fs:List V}(h:TMks σ H ts k')(hk:k' <= 20)(h8 : σ[8]? = some (some (.ref f)))(hf:H f=some (.lst fs))(hl:fs.length=j)(hj:j <= 20)(hr:∀v ∈ fs, RowT H v){Q1:VK}
  (k:∀p vs H2,Same H H2->H2 p=some (.lst vs)->vs.length=j+k'->(∀v∈vs,RowT H2 v)->Q1 (.ref p) H2):tOp rCat (tVar 8) (tLst ts) σ H Q1:=by
 refine⟨_,h8,h.lst (by lia) (Same.refl _) λp vs H2 hp s2 e2 hl2 hr2=>⟨f,p,_,_,rfl,rfl,s2 _ _ hf,e2,Bc (bigT (by lia)),λq hq=>?_⟩⟩;have s3:=Same.up (o:=.lst (fs++vs)) hq;refine k q (fs++vs) _ (s2.trans s3) zaa (by rw[Aj,hl,hl2]) λv hv=>?_
 rcases Ba.mp hv with z |z
 .exact (hr v z).same (s2.trans s3)
 .exact (hr2 v z).same s3
theorem Bx.rev(b:Bx σ H ks ns m a n odd c bm):TMk σ H (tRevL K (tVar 5) (tUn (rU λi=>V.int (-i)) (tC (V.int 1)))):=λH1 Q1 s k=>by refine⟨_,b.s5,_,rfl,rfl,c,_,rfl,SqL.of (s _ _ b.c),λp hp=>?_⟩;refine k _ _ (Same.up hp) (zfS zaa (by rw[List.length_reverse,zaV];have:=b.l1;lia) λv hv=>b.odds v (List.mem_reverse.mp hv))
theorem Bx.tup(b:Bx σ H ks ns m a n odd c bm):TMk σ H (tCB (λxs H_1 Q=>∃p ys,xs=[V.ref p]/\((SqL K H_1 p ys/\∀(l:Addr),H_1 l=none->Q (V.ref l) (upd H_1 l (HO.tup ys)))∨SqT K H_1 p ys/\Q (V.ref p) H_1)) (tCons (tVar 5) tNil)):=λH1 Q1 s k=>by refine⟨_,b.s5,c,_,rfl,.inl ⟨SqL.of (s _ _ b.c),λp hp=>?_⟩⟩;refine k _ _ (Same.up hp) (zlh zaa (by rw[zaV];have:=b.l1;lia) λv hv=>b.odds v hv)
theorem zdv{l:List Nat}{i x:Nat}(h:l[i]?=some x):(rowV l)[i]?=some (.int (x:Int)):=by unfold rowV;rw[Az,h];rfl
theorem Bx.big(b:Bx σ H ks ns m a n odd c bm)(H1:Hp)(Q1:VK)(s:Same H H1)(q:Q1 (.int (n:Int)) H1):tOp (rIxL K) (tVar 2) (tVar 4) σ H1 Q1 :=
 ⟨_,b.s2,_,b.s4,bm,_,_,_,rfl,rfl,SqL.of (s _ _ b.bm),zah (zdv b.at'),q⟩
theorem Bx.big1(b:Bx σ H ks ns m a n odd c bm)(H1:Hp)(Q1:VK)(s:Same H H1)(q:Q1 (.int ((n-1:Nat):Int)) H1):tOp (rI0 λi j=>V.int (i-j)) (tOp (rIxL K) (tVar 2) (tVar 4)) (tC (V.int 1)) σ H1 Q1:=by refine b.big H1 _ s ⟨_,_,rfl,rfl,?_⟩;have:=b.n1;show Q1 (V.int ((n:Int)-1)) H1;rw[show ((n:Int)-1)=((n-1:Nat):Int) by lia];exact q
theorem Bx.one(b:Bx σ H ks ns m a n odd c bm):∃x:Nat,x<=900/\∀(H1:Hp) (Q1:VK),Same H H1->Q1 (.int (x:Int)) H1->tOp (rIxL K) (tVar 5) (tVar 6) σ H1 Q1 :=
 ⟨ks[m]'b.m1,b.l2 _ (AU _),λH1 Q1 s q=>⟨_,b.s5,_,b.s6,c,_,_,_,rfl,rfl,SqL.of (s _ _ b.c),zah (zdv (Aa b.m1)),q⟩⟩
theorem Bx.plus(b:Bx σ H ks ns m a n odd c bm):TMk σ H (tOp rCat (tVar 5) (tLst (tCons (tOp (rIxL K) (tVar 2) (tVar 4)) tNil))):=λH1 Q1 s k=>by
 refine⟨_,b.s5,b.big H1 _ s ⟨(by show 1<=sizeLine;decide),λp1 hp1=>?_⟩⟩;have s1:=Same.up (o:=.lst [V.int (n:Int)]) hp1;have e1:upd H1 p1 (.lst [V.int (n:Int)]) p1=some (.lst [V.int (n:Int)]):=zaa;generalize upd H1 p1 (.lst [V.int (n:Int)])=H2 at s1 e1 ⊢;have hl:=zaV ks;have:=b.l1;refine⟨c,p1,_,_,rfl,rfl,(s.trans s1) _ _ b.c,e1,Bc (bigT (by simp;lia)),λp hp=>?_⟩;refine k _ _ (s1.trans (Same.up hp)) (zfS zaa (by simp;lia) λv hv=>?_);rcases Ba.mp hv with z |z
 .exact b.odds v z
 .have:v=.int (n:Int):=by simpa using z
  rw[this];exact zfn (AF b.n2 (by decide))
theorem zmj:TMk σ H (tLst tNil):=λH1 Q1 s k=>⟨(by show 0<=sizeLine;decide),λp hp=>k _ _ (Same.up hp) (zfS zaa (by simp) λv hv=>nomatch hv)⟩
theorem zmi:TMk σ H (tC V.non):=λH1 Q1 s k=>k _ _ (Same.refl _) ⟨_,.non,trivial,zji.le (by decide) (by decide)⟩
theorem Bx.len(b:Bx σ H ks ns m a n odd c bm):TMk σ H (tCB (λxs H_1 Q=>∃p ys,xs=[V.ref p]/\(SqL K H_1 p ys∨SqT K H_1 p ys)/\Q (V.int ↑ys.length) H_1) (tCons (tVar 5) tNil)):=λH1 Q1 s k=>by refine⟨_,b.s5,c,_,rfl,.inl (SqL.of (s _ _ b.c)),?_⟩;have:=b.l1;exact k _ _ (Same.refl _) ⟨_,.int _,trivial,(zf6 (by rw[zaV];lia)).le (by decide) (by decide)⟩
theorem Bx.comp(b:Bx σ H ks ns m a n odd c bm):TMk σ H (zc4 (iList K (tVar 5)) [none] (gName 0) (λx H Q=>Q true H) (tAdd1 (tVar 0))):=λH1 Q1 s k=>by
 refine⟨_,b.s5,c,rfl,⟨_,SqL.of (s _ _ b.c)⟩,λg hg=>?_⟩
 refine zaz (K:=K) (a:=c) (xs:=rowV ks) (λj σ H2=>∃o,σ=[o]/\Same H1 H2/\H2 g=some (.lst (rowV ((ks.take j).map (·+1)))))
  ⟨_,rfl,Same.up hg,zaa⟩ (λj σ H2 _ ⟨_,_,s2,_⟩=>SqL.of ((s.trans s2) _ _ b.c)) ?_ ?_
 .rintro j u σ H2 hj ⟨o,rfl,s2,e2⟩;have hjl:=(Ab.mp hj).1;rw[zaV]at hjl;have hu:=zdv (Aa hjl);rw[hj]at hu
  cases hu
  have:=b.l1;refine⟨_,rfl,_,_,rfl,rfl,_,e2,zal (by rw[zaV,Af,Aq];lia),⟨_,rfl,zas hg s2,?_⟩⟩;rw[zaa,zau (Aa hjl)];unfold rowV;rw[Ax,Ax];rfl
 .rintro σ H2 ⟨o,rfl,s2,e2⟩;have:=b.l1;refine k _ _ s2 (zgE e2 (by rw[Af,Aq];lia) λx hx=>?_);obtain⟨y,hy,rfl⟩:=AL.mp hx;have:=b.l2 y (BO hy);lia
theorem Bx.some2(b:Bx σ H ks ns m a n odd c bm){f:Addr}{fs:List V}(h8 : σ[8]? = some (some (.ref f)))(hf:H f=some (.lst fs))(hl:fs.length=3)(hr:∀v ∈ fs, RowT H v){Q1:VK}
  (k:∀p vs H2,Same H H2->H2 p=some (.lst vs)->vs.length=8->(∀v∈vs,RowT H2 v)->Q1 (.ref p) H2) :
  tOp rCat (tVar 8) (tLst (tCons (tOp rCat (tOp rCat (tSl (rSlL K) (tVar 5) zar (tPart (tVar 6))) (tLst (tCons (tOp (rIxL K) (tVar 5) (tVar 6)) tNil))) (tSl (rSlL K) (tVar 5) (tPart (tVar 6)) zar)) (tCons (tRevL K (tVar 5) (tUn (rU λi=>V.int (-i)) (tC (V.int 1)))) (tCons (tCB (λxs H_1 Q=>∃p ys,xs=[V.ref p]/\((SqL K H_1 p ys/\∀(l:Addr),H_1 l=none->Q (V.ref l) (upd H_1 l (HO.tup ys)))∨SqT K H_1 p ys/\Q (V.ref p) H_1)) (tCons (tVar 5) tNil)) (tCons (tOp rCat (tVar 5) (tLst (tCons (tOp (rIxL K) (tVar 2) (tVar 4)) tNil))) (tCons (tLst tNil) tNil)))))) σ H Q1:=by
 have:=b.m1;obtain⟨x,hx,h1⟩:=b.one (K:=K);exact zhR (.cons (b.mk3 (Ah m) (by lia) b.p0 h1 b.p0 (zfn (by lia))) (.cons b.rev (.cons b.tup (.cons b.plus (.cons zmj .nil))))) (by decide) h8 hf hl (by decide) hr k
theorem Bx.some3(b:Bx σ H ks ns m a n odd c bm){f:Addr}{fs:List V}(h8 : σ[8]? = some (some (.ref f)))(hf:H f=some (.lst fs))(hl:fs.length=8)(hr:∀v ∈ fs, RowT H v){Q1:VK}
  (k:∀p vs H2,Same H H2->H2 p=some (.lst vs)->vs.length=12->(∀v∈vs,RowT H2 v)->Q1 (.ref p) H2) :
  tOp rCat (tVar 8) (tLst (tCons (tOp rCat (tOp rCat (tSl (rSlL K) (tVar 5) zar (tPart (tVar 6))) (tLst (tCons (tOp (rI0 λi j=>V.int (i-j)) (tOp (rIxL K) (tVar 2) (tVar 4)) (tC (V.int 1))) tNil))) (tSl (rSlL K) (tVar 5) (tPart (tVar 6)) zar)) (tCons (zc4 (iList K (tVar 5)) [none] (gName 0) (λx H Q=>Q true H) (tAdd1 (tVar 0))) (tCons (tC V.non) (tCons (tCB (λxs H_1 Q=>∃p ys,xs=[V.ref p]/\(SqL K H_1 p ys∨SqT K H_1 p ys)/\Q (V.int ↑ys.length) H_1) (tCons (tVar 5) tNil)) tNil))))) σ H Q1:=by
 have:=b.m1;have:=b.n2;exact zhR (.cons (b.mk3 (Ah m) (by lia) b.p0 b.big1 b.p0 (zfn (by lia))) (.cons b.comp (.cons zmi (.cons b.len .nil)))) (by decide) h8 hf hl (by decide) hr k
theorem zkp{sp:Addr}{c0:Nat}(h0 : σ[0]? = some (some (.ref sp)))(hp:HasB H sp (c0 + 1)){Q1:VK}(k:∀v H', But H H' sp -> HasB H' sp c0 -> Odd H' v -> Q1 v H') :
  tOp (rIxL K) (tLst (tCons (tC (V.bl true)) (tCons (tC (V.str (AR "0"))) (tCons (tC V.non) (tCons (tTup (tCons (tC (V.int 0)) tNil)) (tCons (tLst (tCons (tC (V.int 0)) tNil)) (tCons (tUn (rU λi=>V.int (-i)) (tC (V.int 1))) (tCons (tC (V.bl false)) (tCons (tC (V.bl false)) tNil))))))))) (tCall spTk [] E0 (tCons (tVar 0) (tCons (tC (V.int 8)) tNil))) σ H Q1:=by
 refine⟨(by show 1<=sizeLine;decide),λt1 ht1=>?_⟩;have s1:=Same.up (o:=.tup [V.int 0]) ht1;have e1:upd H t1 (.tup [V.int 0]) t1=some (.tup [V.int 0]):=zaa;generalize upd H t1 (.tup [V.int 0])=H1 at s1 e1 ⊢;refine⟨(by show 1<=sizeLine;decide),λt2 ht2=>?_⟩;have s2:=Same.up (o:=.lst [V.int 0]) ht2;have e2:upd H1 t2 (.lst [V.int 0]) t2=some (.lst [V.int 0]):=zaa;generalize upd H1 t2 (.lst [V.int 0])=H2 at s2 e2 ⊢;refine⟨_,rfl,(by show 8<=sizeLine;decide),λt3 ht3=>?_⟩;have s3:=Same.up (o:=.lst [V.bl true,V.str (AR "0"),V.non,V.ref t1,V.ref t2,V.int (-1),V.bl false,V.bl false]) ht3;have e3:upd H2 t3 (.lst [V.bl true,V.str (AR "0"),V.non,V.ref t1,V.ref t2,V.int (-1),V.bl false,V.bl false]) t3=some (.lst [V.bl true,V.str (AR "0"),V.non,V.ref t1,V.ref t2,V.int (-1),V.bl false,V.bl false]):=zaa;refine⟨_,h0,?_⟩
 have hf:∀{t:Addr},H t=none->t≠sp:=λht z=>by obtain⟨c1,q1,z1,_⟩:=hp;rw[z,z1]at ht;cases ht
 have n1:=hf ht1;have n2:=hf (s1.free ht2);have n3:=hf ((s1.trans s2).free ht3);refine⟨sp,c0,8,rfl,hp.same ((s1.trans s2).trans s3),by decide,zaD (by decide) (by decide),λr H4 r0 r1 b4 p4=>?_⟩;have b04:But H H4 sp:=λz o hz h=>b4 _ _ hz (((s1.trans s2).trans s3) _ _ h)
 have q1:=b4 _ _ n1 ((s2.trans s3) _ _ e1);have q2:=b4 _ _ n2 (s3 _ _ e2);have q3:=b4 _ _ n3 e3;have nz:Nc (.int 0) 10 1:=(zf6 (n:=0) (by decide)).le (Ah _) (by decide);have fin:∀v,atI [V.bl true,V.str (AR "0"),V.non,V.ref t1,V.ref t2,V.int (-1),V.bl false,V.bl false] r=some v->Odd H4 v->rIxL K (V.ref t3) (V.int r) H4 Q1:=λv hv ho=>⟨t3,_,_,v,rfl,rfl,SqL.of (K:=K) q3,hv,k v H4 b04 p4 ho⟩
 have hc:r=0∨r=1∨r=2∨r=3∨r=4∨r=5∨r=6∨r=7:=by lia
 have n0:DDs H4 [V.int 0] [.int 0]:=.cons (.int 0) .nil;have ncs:Ncs [PyData.int 0] 4 0:=⟨by decide +kernel,by decide +kernel,rfl,by decide,by decide +kernel⟩;rcases hc with rfl |rfl |rfl |rfl |rfl |rfl |rfl |rfl
 .exact fin _ rfl ⟨_,.bl true,zea _⟩
 .exact fin _ rfl ⟨_,.str _,⟨by decide +kernel,by decide +kernel,by decide +kernel,by decide +kernel,by decide +kernel⟩⟩
 .exact fin _ rfl ⟨_,.non,zji⟩
 .exact fin _ rfl ⟨_,.tup q1 n0,ncs.tuple.le (by decide) (by decide)⟩
 .exact fin _ rfl ⟨_,.lst q2 n0,ncs.list.le (by decide) (by decide)⟩
 .exact fin _ rfl ⟨_,.int (-1),⟨by decide +kernel,by decide +kernel,rfl,by decide +kernel,by decide +kernel⟩⟩
 .exact fin _ rfl ⟨_,.bl false,zea _⟩
 .exact fin _ rfl ⟨_,.bl false,zea _⟩
end
section
variable {K:W.Frag}{σ:St}{H:Hp}{bt:Addr}{ts:List V}{at':Nat}
theorem zlj{f:Addr}{fs:List V}{way:Nat}(h1 : σ[1]? = some (some (.ref bt)))(h4 : σ[4]? = some (some (.int (at':Int))))(h3 : σ[3]? = some (some (.int (way:Int))))(h8 : σ[8]? = some (some (.ref f)))
  (ht:H bt=some (.lst ts)) (hl:ts.length<=60) (ha:at'<ts.length) (hr:∀v∈ts,RowT H v) (hf:H f=some (.lst fs)) (hw:way<fs.length) (hfr:∀v∈fs,RowT H v) {Q1:VK}
  (k:∀p vs H2,Same H H2->H2 p=some (.lst vs)->vs.length<=63->(∀v∈vs,RowT H2 v)->Q1 (.ref p) H2) :
  tOp rCat (tOp rCat (tSl (rSlL K) (tVar 1) zar (tPart (tVar 4))) (tLst (tCons (tOp (rIxL K) (tVar 8) (tVar 3)) tNil))) (tSl (rSlL K) (tVar 1) (tPart (tAdd1 (tVar 4))) zar) σ H Q1:=by
 refine cat3 (x:=fs[way]) (m:=at') (m':=at'+1) h1 ht (by lia) (by lia) (by lia) (λH1 Q1 _ q=>⟨_,h4,q⟩) (λH1 Q1 s q=>⟨_,h8,_,h3,f,_,_,_,rfl,rfl,SqL.of (s _ _ hf),zah (Aa hw),q⟩) (λH1 Q1 _ q=>⟨_,h4,_,_,rfl,rfl,q⟩) λp H' _ s e=>?_
 exact k p _ H' s e (AF (zgZ (by lia)) (by lia)) λv hv=>(zgW (P:=λv=>RowT H v) hr (hfr _ (AU hw)) v hv).same s
theorem zli{l:Addr}{way:Nat}(h1 : σ[1]? = some (some (.ref bt)))(h4 : σ[4]? = some (some (.int (at':Int))))(h3 : σ[3]? = some (some (.int (way:Int))))(h5 : σ[5]? = some (some (.ref l)))
  (ht:H bt=some (.lst ts)) (hl:ts.length<=60) (ha:at'<ts.length) (hr:∀v∈ts,RowT H v) (hlr:RowT H (.ref l)) (hw:12<=way) (hw2:way<14) {Q1:VK}
  (k:∀p vs H2,Same H H2->H2 p=some (.lst vs)->vs.length<=63->(∀v∈vs,RowT H2 v)->Q1 (.ref p) H2) :
  tOp (rIxL K) (tLst (tCons (tOp rCat (tSl (rSlL K) (tVar 1) zar (tPart (tVar 4))) (tSl (rSlL K) (tVar 1) (tPart (tAdd1 (tVar 4))) zar)) (tCons (tOp rCat (tOp rCat (tSl (rSlL K) (tVar 1) zar (tPart (tVar 4))) (tLst (tCons (tVar 5) tNil))) (tSl (rSlL K) (tVar 1) (tPart (tVar 4)) zar)) tNil))) (tOp (rI0 λi j=>V.int (i-j)) (tVar 3) (tC (V.int 12))) σ H Q1:=by
 refine cat2 (m:=at') (m':=at'+1) h1 ht (by lia) (by lia) (by lia) (λH1 Q1 _ q=>⟨_,h4,q⟩) (λH1 Q1 _ q=>⟨_,h4,_,_,rfl,rfl,q⟩) λp H' hp s e=>?_
 refine cat3 (x:=.ref l) (m:=at') (m':=at') h1 (s _ _ ht) (by lia) (by lia) (by lia) (λH1 Q1 _ q=>⟨_,h4,q⟩) (λH1 Q1 s q=>⟨_,h5,q⟩) (λH1 Q1 _ q=>⟨_,h4,q⟩) λp2 H2 hp2 s2 e2=>?_
 refine⟨(by show 2<=sizeLine;decide),λp3 hp3=>?_⟩;have s3:=Same.up (o:=.lst [V.ref p,V.ref p2]) hp3;have e3:upd H2 p3 (.lst [V.ref p,V.ref p2]) p3=some (.lst [V.ref p,V.ref p2]):=zaa;generalize upd H2 p3 (.lst [V.ref p,V.ref p2])=H3 at s3 e3 ⊢;refine⟨_,h3,_,_,rfl,rfl,?_⟩;have hc:way=12∨way=13:=by lia
 rcases hc with rfl |rfl
 .exact⟨p3,_,_,_,rfl,rfl,SqL.of e3,zah (j:=0) rfl,k p _ H3 (s.trans (s2.trans s3)) ((s2.trans s3) _ _ e) (AF (zjJ (by lia)) (by lia)) λv hv=>(zhA (P:=λv=>RowT H v) hr v hv).same (s.trans (s2.trans s3))⟩
 .exact⟨p3,_,_,_,rfl,rfl,SqL.of e3,zah (j:=1) rfl,k p2 _ H3 (s.trans (s2.trans s3)) (s3 _ _ e2) (AF (zgZ (by lia)) (by lia)) λv hv=>(zgW (P:=λv=>RowT H v) hr hlr v hv).same (s.trans (s2.trans s3))⟩
theorem zeg{te:TE}{i:Nat}{rest:TS}{σ:St}{H:Hp}{κ:Ends}(h:te σ H (λv H1=>rest κ (σ.set i (some v)) H1)):tSeq (tAsg te (gName i)) rest κ σ H:=h
theorem zjS{p bt bm l:Addr}{wy m nn:Nat}{odd:V}{ks ns:List Nat}{κ : Ends}{σ : St}(hσ : σ = [some (.ref p), some (.ref bt), some (.ref bm), some (.int (wy:Int)), some (.int (at':Int)), some (.ref l), some (.int (m:Int)), some odd, none])(bx:Bx [some (.ref p), some (.ref bt), some (.ref bm), some (.int (wy:Int)), some (.int (at':Int)), some (.ref l), some (.int (m:Int)), some odd, none] H ks ns m at' nn odd l bm)
  (ht:H bt=some (.lst ts)) (hl:ts.length<=60) (hat:at'<ts.length) (hr:∀v∈ts,RowT H v) (hw:wy<14)
  (k:∀q vs H2,Same H H2->H2 q=some (.lst vs)->vs.length<=63->(∀v∈vs,RowT H2 v)->κ.rt (.ref q) H2) :
  tSeq (tAsg (tLst (tCons (tOp rCat (tOp rCat (tSl (rSlL K) (tVar 5) zar (tPart (tVar 6))) (tLst (tCons (tVar 7) tNil))) (tSl (rSlL K) (tVar 5) (tPart (tVar 6)) zar)) (tCons (tOp rCat (tOp rCat (tSl (rSlL K) (tVar 5) zar (tPart (tVar 6))) (tLst (tCons (tVar 7) tNil))) (tSl (rSlL K) (tVar 5) (tPart (tOp (rI0 λi j=>V.int (i+j)) (tVar 6) (tC (V.int 1)))) zar)) (tCons (tOp rCat (tSl (rSlL K) (tVar 5) zar (tPart (tVar 6))) (tSl (rSlL K) (tVar 5) (tPart (tOp (rI0 λi j=>V.int (i+j)) (tVar 6) (tC (V.int 1)))) zar)) tNil)))) (gName 8)) (tSeq (tAsg (tOp rCat (tVar 8) (tLst (tCons (tOp rCat (tOp rCat (tSl (rSlL K) (tVar 5) zar (tPart (tVar 6))) (tLst (tCons (tOp (rIxL K) (tVar 5) (tVar 6)) tNil))) (tSl (rSlL K) (tVar 5) (tPart (tVar 6)) zar)) (tCons (tRevL K (tVar 5) (tUn (rU λi=>V.int (-i)) (tC (V.int 1)))) (tCons (tCB (λxs H_1 Q=>∃p ys,xs=[V.ref p]/\((SqL K H_1 p ys/\∀(l:Addr),H_1 l=none->Q (V.ref l) (upd H_1 l (HO.tup ys)))∨SqT K H_1 p ys/\Q (V.ref p) H_1)) (tCons (tVar 5) tNil)) (tCons (tOp rCat (tVar 5) (tLst (tCons (tOp (rIxL K) (tVar 2) (tVar 4)) tNil))) (tCons (tLst tNil) tNil))))))) (gName 8)) (tSeq (tAsg (tOp rCat (tVar 8) (tLst (tCons (tOp rCat (tOp rCat (tSl (rSlL K) (tVar 5) zar (tPart (tVar 6))) (tLst (tCons (tOp (rI0 λi j=>V.int (i-j)) (tOp (rIxL K) (tVar 2) (tVar 4)) (tC (V.int 1))) tNil))) (tSl (rSlL K) (tVar 5) (tPart (tVar 6)) zar)) (tCons (zc4 (iList K (tVar 5)) [none] (gName 0) (λx H Q=>Q true H) (tOp (rI0 λi j=>V.int (i+j)) (tVar 0) (tC (V.int 1)))) (tCons (tC V.non) (tCons (tCB (λxs H_1 Q=>∃p ys,xs=[V.ref p]/\(SqL K H_1 p ys∨SqT K H_1 p ys)/\Q (V.int ↑ys.length) H_1) (tCons (tVar 5) tNil)) tNil)))))) (gName 8)) (tSeq (tIfS (tTest (tOp (rI0 λi j=>V.bl (decide (i<j))) (tVar 3) (tC (V.int 12)))) (tRet (tOp rCat (tOp rCat (tSl (rSlL K) (tVar 1) zar (tPart (tVar 4))) (tLst (tCons (tOp (rIxL K) (tVar 8) (tVar 3)) tNil))) (tSl (rSlL K) (tVar 1) (tPart (tOp (rI0 λi j=>V.int (i+j)) (tVar 4) (tC (V.int 1)))) zar))) tNext) (tRet (tOp (rIxL K) (tLst (tCons (tOp rCat (tSl (rSlL K) (tVar 1) zar (tPart (tVar 4))) (tSl (rSlL K) (tVar 1) (tPart (tOp (rI0 λi j=>V.int (i+j)) (tVar 4) (tC (V.int 1)))) zar)) (tCons (tOp rCat (tOp rCat (tSl (rSlL K) (tVar 1) zar (tPart (tVar 4))) (tLst (tCons (tVar 5) tNil))) (tSl (rSlL K) (tVar 1) (tPart (tVar 4)) zar)) tNil))) (tOp (rI0 λi j=>V.int (i-j)) (tVar 3) (tC (V.int 12)))))))) κ σ H:=by
 subst hσ;refine zeg (bx.some1 (Same.refl _) λf1 fs1 H7 hf1 s7 ef1 hfl1 hfr1=>zeg ?_)
 have bx1:Bx [some (.ref p),some (.ref bt),some (.ref bm),some (.int (wy:Int)),some (.int (at':Int)),some (.ref l),some (.int (m:Int)),some odd,some (.ref f1)] H7 ks ns m at' nn odd l bm :=
  let b:=bx.same s7;⟨rfl,rfl,rfl,rfl,rfl,b.c,b.bm,b.od,b.at',b.n1,b.n2,b.m1,b.l1,b.l2⟩
 refine bx1.some2 rfl ef1 hfl1 hfr1 λf2 fs2 H8 s8 ef2 hfl2 hfr2=>zeg ?_
 have bx2:Bx [some (.ref p),some (.ref bt),some (.ref bm),some (.int (wy:Int)),some (.int (at':Int)),some (.ref l),some (.int (m:Int)),some odd,some (.ref f2)] H8 ks ns m at' nn odd l bm :=
  let b:=bx1.same s8;⟨rfl,rfl,rfl,rfl,rfl,b.c,b.bm,b.od,b.at',b.n1,b.n2,b.m1,b.l1,b.l2⟩
 refine bx2.some3 rfl ef2 hfl2 hfr2 λf3 fs3 H9 s9 ef3 hfl3 hfr3=>?_
 have s69:=s7.trans (s8.trans s9);have done2:∀(q:Addr) (vs:List V) (Hb:Hp),Same H9 Hb->Hb q=some (.lst vs)->vs.length<=63->(∀v∈vs,RowT Hb v)->κ.rt (.ref q) Hb:=λq vs Hb s e hl hv=>k q vs Hb (s69.trans s) e hl hv
 have hr9:∀v∈ts,RowT H9 v:=λv hv=>(hr v hv).same s69
 refine⟨_,rfl,_,_,rfl,rfl,_,rfl,?_⟩;refine ite2 (λhy=>?_) (λhn3=>?_)
 .have:(wy:Int)<12:=of_decide_eq_true hy;exact zlj rfl rfl rfl rfl (s69 _ _ ht) hl hat hr9 ef3 (by lia) hfr3 done2
 .have:¬ (wy:Int)<12:=λz=>hn3 (decide_eq_true z)
  have hl1:=bx.l1;exact zli rfl rfl rfl rfl (s69 _ _ ht) hl hat hr9 (zgE (s69 _ _ bx.c) (by lia) λk hk=>by have:=bx.l2 k hk;lia) (by lia) hw done2
end
structure Bnt (TT:List (List Nat)) (ns:List Nat):Prop where
 len:TT.length=ns.length
 few:ns.length<=60
 row:∀ks∈TT,ks≠[]/\ks.length<=50/\∀k∈ks,k<=900
 siz:∀n∈ns,1<=n/\n<=900
noncomputable def ziO(K:W.Frag):Sp:=λvs H Q _=>∃(p bt bm:Addr) (n:Nat) (ts:List V) (TT:List (List Nat)) (ns:List Nat),vs=[.ref p,.ref bt,.ref bm]/\HasB H p (n+10)/\bt≠p/\bm≠p/\H bt=some (.lst ts)/\VR ts TT (thP p) H/\H bm=some (.lst (rowV ns))/\Bnt TT ns /\
 ∀u H' d,But H H' p->HasB H' p n->ThgT H' u d->Q u H'
theorem zgN (T:Txt P w K mg) (g__law_take:Tk P w K mg base) (d:Df K mg "_law_bent" zcl ["_law_pen","_law_thinning","_law_many"]):FnOk P w K mg base CX0 2 d.f d.fd ["_law_pen","_law_thinning","_law_many"] (ziO K):=by
 refine d.F.ok zaT (λvs H Q E h=>?_) (λcdv A outer s H vs Q E hr h=>?_)
 .obtain⟨p,bt,bm,n,ts,TT,ns,rfl,_⟩:=h;rfl
 .obtain⟨p,bt,bm,n,ts,TT,ns,rfl,hp,hbt,hbm,ht,hT,hm,hB,k⟩:=h;have hu64:=hr.units;have nb0:(["_law_spot"]:List Str).Nodup:=by decide +kernel
  refine⟨_,(zad (sE 3 zaT.nd (pC g__law_take hr (pa_N (pv 0) (pa_C zac zab))))
   (zad (ps_if (pw_or (zav (zje hu64) (pv 1) (zaA zab) (zaq _)) (zdB (zav op_gt (pv 3) zac (zaq _)))).pt
   (zaf (zaj (pv 1)))
   zaw)
   (zad (sE 4 zaT.nd (pC g__law_take hr (pa_N (pv 0) (zag (zak zan (by rfl) T.nlen (by rfl) (pa_N (pv 1) zab)) zab))))
   (zad (sE 5 zaT.nd (zbx zgh (by rfl) T.nlist (by rfl) (zag (pe_ix zat (pv 1) (pv 4) (λ_ _=>rfl)) zab)))
   (zad (sE 6 zaT.nd (pC g__law_take hr (pa_N (pv 0) (zag (zak zan (by rfl) T.nlen (by rfl) (pa_N (pv 5) zab)) zab))))
   (zad (sE 7 zaT.nd (pe_ix zat (zaA (pa_C pe_bl (pa_C zfW (pa_C zdE (pa_T (za8 (pa_C zac zab)) (zag (zaA (pa_C zac zab)) (pa_U (pe_un zct zac) (pa_C pe_bl (pa_C pe_bl zab))))))))) (pC g__law_take hr (pa_N (pv 0) (pa_C zac zab))) (λ_ _=>rfl)))
   (zad (sE 8 zaT.nd (zaA (pa_B (pe_op za5 (pe_op za5 (zax zaP (pv 5) zaN (zaI (pv 6))) (zaA (pa_N (pv 7) zab))) (zax zaP (pv 5) (zaI (pv 6)) zaN)) (pa_B (pe_op za5 (pe_op za5 (zax zaP (pv 5) zaN (zaI (pv 6))) (zaA (pa_N (pv 7) zab))) (zax zaP (pv 5) (zaI (pe_op zaK (pv 6) zac)) zaN)) (pa_B (pe_op za5 (zax zaP (pv 5) zaN (zaI (pv 6))) (zax zaP (pv 5) (zaI (pe_op zaK (pv 6) zac)) zaN)) zab)))))
   (zad (sE 8 zaT.nd (pe_op za5 (pv 8) (zaA (pa_B (pe_op za5 (pe_op za5 (zax zaP (pv 5) zaN (zaI (pv 6))) (zaA (zag (pe_ix zat (pv 5) (pv 6) (λ_ _=>rfl)) zab))) (zax zaP (pv 5) (zaI (pv 6)) zaN)) (zag (zlp (pv 5) (pe_un zct zac)) (zag (zbx zco (by rfl) T.ntuple (by rfl) (pa_N (pv 5) zab)) (pa_B (pe_op za5 (pv 5) (zaA (zag (pe_ix zat (pv 2) (pv 4) (λ_ _=>rfl)) zab))) (zag (zaA zab) zab))))))))
   (zad (sE 8 zaT.nd (pe_op za5 (pv 8) (zaA (pa_B (pe_op za5 (pe_op za5 (zax zaP (pv 5) zaN (zaI (pv 6))) (zaA (pa_B (pe_op zay (pe_ix zat (pv 2) (pv 4) (λ_ _=>rfl)) zac) zab))) (zax zaP (pv 5) (zaI (pv 6)) zaN)) (zag (zaF (osc:=zae zcl) (N:=zeo) (N':=["_law_spot"]) (sel:=[none]) bO (zaM (pv 5)) (λ_ _ _ _ _=>(nG 0 nb0)) (λ_ _ _ _ _=>zaL) (λ_ _ _ _ _=>(pe_op zaK (pv 0) zac))) (pa_C zdE (zag (zak zan (by rfl) T.nlen (by rfl) (pa_N (pv 5) zab)) zab)))))))
   (zad (ps_if (zav op_lt (pv 3) zac (zaq _))
   (zaf (zaj (pe_op za5 (pe_op za5 (zax zaP (pv 1) zaN (zaI (pv 4))) (zaA (zag (pe_ix zat (pv 8) (pv 3) (λ_ _=>rfl)) zab))) (zax zaP (pv 1) (zaI (pe_op zaK (pv 4) zac)) zaN))))
   zaw)
   (zaf (zaj (pe_ix zat (zaA (pa_B (pe_op za5 (zax zaP (pv 1) zaN (zaI (pv 4))) (zax zaP (pv 1) (zaI (pe_op zaK (pv 4) zac)) zaN)) (pa_B (pe_op za5 (pe_op za5 (zax zaP (pv 1) zaN (zaI (pv 4))) (zaA (pa_N (pv 5) zab))) (zax zaP (pv 1) (zaI (pv 4)) zaN)) zab))) (pe_op zay (pv 3) zac) (λ_ _=>rfl)))))))))))))),?_⟩
  have hlen:=hB.len;have hfew:=hB.few;have htl:=hT.1;refine⟨_,rfl,p,n+9,20,rfl,hp,by decide,zaD (by decide) (by decide),λway H1 w0 w1 b1 p1=>?_⟩;have mvT:∀{Ha:Hp},But H Ha p->VR ts TT (thP p) Ha:=λb=>⟨hT.1,λi x v h1 h2=>let ⟨c,e,n',q⟩:=hT.2 i x v h1 h2;⟨c,e,n',b _ _ n' q⟩⟩
  have rows:∀{Ha:Hp},But H Ha p->∀v∈ts,RowT Ha v:=λb v hv=>by obtain⟨i,hi,e⟩:=AM hv;obtain⟨ks,hk,c,e',_,q⟩:=(mvT b).at (Aa hi);rw[e]at e';subst e';have hr:=hB.row ks (Ag hk);exact zgE q (by lia) λk hk=>by have:=hr.2.2 k hk;lia
  have e1:=b1 _ _ hbt ht
  have done:∀{Ha:Hp},But H Ha p->HasB Ha p n->Ha bt=some (.lst ts)->Q (.ref bt) Ha:=λb hb e=>by obtain⟨d,hd⟩:=zdl e (by lia) (rows b);exact k _ _ d b hb hd
  obtain⟨d1,hd1⟩:=zdl e1 (by lia) (rows b1);refine⟨_,rfl,(by show 0<=sizeLine;decide),λl0 hl0=>?_⟩;have s2:=Same.up (o:=.lst []) hl0;have e2:upd H1 l0 (.lst []) l0=some (.lst []):=zaa;generalize upd H1 l0 (.lst [])=H2 at s2 e2 ⊢;have b2:But H H2 p:=λz o hz h=>s2 _ _ (b1 z o hz h)
  have p2:=p1.same s2
  obtain⟨ds,hds⟩:∃ds,d1=.list ds/\ds.length=ts.length:=by
   have:=hd1.dd
   cases this with
   |@lst a xs ds e h =>
    rw[e1]at e
    cases e
    exact⟨ds,rfl,h.len.symm⟩
   |tup e h=>rw[e1]at e;cases e
  obtain⟨rfl,hdl⟩:=hds;refine⟨.list ds,.list [],(hd1.dd.same s2).rd,.lst (SqL.of e2) .nil,hd1.nc.shaped (by decide),rfl,_,rfl,?_⟩;rw[zhJ];have ret1:tRet (tVar 1) { nx:=λ_ _=>False,rt:=Q } [some (.ref p),some (.ref bt),some (.ref bm),some (.int way),none,none,none,none,none] H2:=⟨_,rfl,done b2 (p2.le (by lia)) (s2 _ _ e1)⟩;refine ite2 (λhy=>?_) (λhn=>?_)
  .exact ret1
  have htne:ts≠[]:=λz=>by have:ds=[]:=List.eq_nil_of_length_eq_zero (by rw[hdl,z];rfl);exact hn (by rw[this];rfl)
  have hts0:0<ts.length:=Bf.mpr htne;refine⟨_,rfl,_,_,rfl,rfl,_,rfl,?_⟩;refine ite2 (λhy=>?_) (λhn2=>?_)
  .exact⟨_,rfl,done b2 (p2.le (by lia)) (s2 _ _ e1)⟩
  have hway:way<14:=by
   by_cases z:(13:Int)<way
   .exact absurd (decide_eq_true z) hn2
   .lia
  obtain⟨wy,rfl⟩:=Di w0;refine⟨_,rfl,_,rfl,bt,_,rfl,.inl (SqL.of (s2 _ _ e1)),p,n+8,ts.length,rfl,p2.le (by lia),by lia,zaD (by lia) (by lia),λai H3 a0 a1 b3 p3=>?_⟩;obtain⟨at',rfl⟩:=Di a0;have b03:=b2.trans b3;have e3:=b3 _ _ hbt (s2 _ _ e1);have hat:at'<ts.length:=by lia
  obtain⟨ks,hk1,c,hcv,hcp,hc3⟩:=(mvT b03).at (Aa hat);have hks:=hB.row ks (Ag hk1);have htat:ts[at']?=some (.ref c):=by rw[Aa hat,hcv]
  refine⟨_,rfl,_,rfl,bt,_,_,_,rfl,rfl,SqL.of e3,zah htat,c,_,rfl,.inl (SqL.of hc3),λl hl=>?_⟩;have s4:=Same.up (o:=.lst (rowV ks)) hl;have e4:upd H3 l (.lst (rowV ks)) l=some (.lst (rowV ks)):=zaa;generalize upd H3 l (.lst (rowV ks))=H4 at s4 e4 ⊢;have p4:=p3.same s4
  have hlp:l≠p:=λz=>by obtain⟨c1,q1,z1,_⟩:=p3;rw[z,z1]at hl;cases hl
  have hkl:=zaV ks;have hk0:0<ks.length:=Bf.mpr hks.1;refine⟨_,rfl,_,rfl,l,_,rfl,.inl (SqL.of e4),p,n+7,ks.length,?_,p4.le (by lia),by lia,zaD (by lia) (by lia),λmi H5 m0 m1 b5 p5=>?_⟩
  .rw[hkl];rfl
  obtain⟨m,rfl⟩:=Di m0;refine zkp (c0:=n+6) rfl (p5.le (by lia)) λodd H6 b6 p6 hodd=>?_
  have b46:=b5.trans b6;have b06:But H H6 p:=λz o hz h=>b46 _ _ hz (s4 _ _ (b03 z o hz h))
  have hna:∃nn,ns[at']?=some nn:=⟨_,Aa (by lia)⟩;obtain⟨nn,hnn⟩:=hna;have hsz:=hB.siz nn (Ag hnn)
  have bx:Bx [some (.ref p),some (.ref bt),some (.ref bm),some (.int (wy:Int)),some (.int (at':Int)),some (.ref l),some (.int (m:Int)),some odd,none] H6 ks ns m at' nn odd l bm :=
   ⟨rfl,rfl,rfl,rfl,rfl,b46 _ _ hlp e4,b06 _ _ hbm hm,hodd,hnn,hsz.1,hsz.2,by lia,hks.2.1,hks.2.2⟩
  exact zjS rfl bx (b06 _ _ hbt ht) (by lia) hat (rows b06) (by lia) λq vs Hb s e hl hv=>by obtain⟨d,hd⟩:=zdl e hl hv;exact k _ _ d (λz o hz h=>s _ _ (b06 z o hz h)) ((p6.same s).le (by lia)) hd
noncomputable def zkK(K:W.Frag):Sp:=λvs H Q _=>∃(p:Addr) (n m st:Nat),vs=[.ref p,.int m,.int st]/\HasB H p (n+(20+m))/\1<=m/\m<=60/\st<=200 /\
 ∀(g:Addr) (cs:List Cell) (R:List Rnd) (us:List V) (H':Hp),H g=none->But H H' p->HasB H' p n->H' g=some (.lst us)->VR us R rR H'->(∀r∈R,RndC cs r)->R.length<=m->(R.map (·.row.length)).sum<=st->Boxed m cs->(∀c∈cs,CellB c)->Q (.ref g) H'
theorem zgM (T:Txt P w K mg) (g_rounds:Fn P w K mg base 7 "rounds" ["picture"] (zhg K)) (g__law_picture:Fn P w K mg base 3 "_law_picture" ["_law_pen", "_law_most"] (zfN K))
  (d:Df K mg "_law_few" zdt ["_law_pen","_law_most","_law_steps"]):FnOk P w K mg base CX0 8 d.f d.fd ["_law_pen","_law_most","_law_steps"] (zkK K):=by
 refine d.F.ok zbJ (λvs H Q E h=>?_) (λcdv A outer s H vs Q E hr h=>?_)
 .obtain⟨p,n,m,st,rfl,_⟩:=h;rfl
 .obtain⟨p,n,m,st,rfl,hp,hm1,hm2,hst,k⟩:=h
  refine⟨_,(zad (sE 3 zbJ.nd (zaA zab))
   (zad (sE 4 zbJ.nd (pv 2))
   (zad (zbq AY rfl (zaM (pC g_rounds hr (zag (pC g__law_picture hr (pa_N (pv 0) (pa_N (pv 1) zab))) zab))) (nG 5 zbJ.nd)
   (zaf (ps_if (zav op_le (zak zan (by rfl) T.nlen (by rfl) (zag (pe_ix zap (pv 5) zac (λ_ _=>rfl)) zab)) (pv 4) (zaq _))
   (zad (zcA (pe_bm Bj BE BF zbP (pv 3) (pa_N (pv 5) zab)))
   (zaf (sE 4 zbJ.nd (pe_op zay (pv 4) (zak zan (by rfl) T.nlen (by rfl) (zag (pe_ix zap (pv 5) zac (λ_ _=>rfl)) zab))))))
   zaw)))
   (zaf (zaj (pv 3)))))),?_⟩
  refine⟨(by show 0<=sizeLine;decide),λg hg=>?_⟩;have s1:=Same.up (o:=.lst []) hg;have e1:upd H g (.lst []) g=some (.lst []):=zaa;generalize upd H g (.lst [])=H1 at s1 e1 ⊢
  have hgp:g≠p:=λz=>by obtain⟨c0,t0,e0,_⟩:=hp;subst z;rw[e0]at hg;cases hg
  refine⟨_,rfl,?_⟩;refine⟨_,rfl,_,rfl,p,n,m,rfl,hp.same s1,hm1,by lia,λap cs H5 hap b5 p5 hLR hord hbox hcl hcB=>?_⟩;refine⟨ap,cs,rfl,(let ⟨vs,h1,h2⟩:=hLR;⟨vs,SqL.of h1,h2⟩),hord,by lia,λpr H8 rv R R0 hpr s8 e8 hvr hpm _ hwh=>?_⟩;have hrc:=Whole.rnd hpm hwh
  have hRl:R.length<=m:=by obtain⟨ESS,hP,_⟩:=hwh;rw[hpm.length_eq];have:=hP.few;lia
  have e8g:H8 g=some (.lst []):=s8 _ _ (b5 _ _ hgp e1);have b18:But H1 H8 p:=λz o hz h=>s8 _ _ (b5 z o hz h)
  have p8:HasB H8 p n:=p5.same s8;refine⟨pr,rfl,⟨_,SqL.of e8⟩,?_⟩
  have hprg:pr≠g:=λz=>by have:=b5 _ _ hgp e1;rw[<- z,hpr]at this;cases this
  refine zaz (K:=K) (a:=pr) (xs:=rv) (λj σ H9=>∃(left:Nat) (o5:Option V) (R':List Rnd) (us:List V),σ=[some (.ref p),some (.int m),some (.int st),some (.ref g),some (.int left),o5]/\But H8 H9 g/\KT H8 H9/\H9 g=some (.lst us)/\VR us R' rR H9/\R'.Sublist (R.take j)/\(R'.map (·.row.length)).sum+left=st)
   ⟨st,_,[],[],rfl,But.refl _ _,KT.refl _,e8g,VR.nil,List.nil_sublist _,by simp⟩ (λj σ H9 _ ⟨_,_,_,_,_,b9,_⟩=>SqL.of (b9 _ _ hprg e8)) ?_ ?_
  .rintro j v σ H9 hj ⟨left,o5,R',us,rfl,b9,k9,e9,hv9,hsub,hsum⟩;obtain⟨r,hr',q,rw',rfl,q1,q2⟩:=hvr.at hj;have hjl:j<R.length:=(Ab.mp hr').1;unfold gName;refine⟨_,rfl,q,_,_,_,rfl,rfl,SqT.of (k9 _ _ q1),zah (j:=3) rfl,rw',_,rfl,.inr (SqT.of (k9 _ _ q2)),?_⟩;have hrl:(rowV r.row).length=r.row.length:=by unfold rowV;rw[Af]
   refine⟨_,rfl,_,_,rfl,rfl,_,rfl,?_⟩;have hsn:R'.Sublist (R.take (j+1)):=by rw[zau hr'];exact hsub.trans (List.sublist_append_left _ _)
   have hR'l:R'.length<=m:=by have:=hsub.length_le;rw[Aq]at this;lia
   have hus:us.length<=60:=by rw[hv9.1];lia
   refine ite2 (λhy=>?_) (λhn=>?_)
   .have hle:r.row.length<=left:=by have:=of_decide_eq_true hy;lia
    have hqg:q≠g:=λz=>by have h1:=k9 _ _ q1;rw[z,e9]at h1;cases h1
    have hrg:rw'≠g:=λz=>by have h1:=k9 _ _ q2;rw[z,e9]at h1;cases h1
    refine⟨_,rfl,.inl ⟨rfl,_,SqL.of e9⟩,_,rfl,g,us,_,rfl,rfl,e9,zal (by lia),?_⟩;have kL:=KT.lst (o:=.lst (us++[V.ref q])) e9;have eL:upd H9 g (.lst (us++[V.ref q])) g=some (.lst (us++[V.ref q])):=zaa;have bL:But H9 (upd H9 g (.lst (us++[V.ref q]))) g:=λz o hz h=>by rw[zam hz];exact h
    generalize upd H9 g (.lst (us++[V.ref q]))=H10 at kL eL bL;have kA:=k9.trans kL;refine⟨_,rfl,_,rfl,q,_,_,_,rfl,rfl,SqT.of (kA _ _ q1),zah (j:=3) rfl,rw',_,rfl,.inr (SqT.of (kA _ _ q2)),_,_,rfl,rfl,?_⟩;refine⟨left-r.row.length,some (.ref q),R'++[r],us++[.ref q],?_,b9.trans bL,kA,eL,?_,?_,?_⟩
    .show [some (V.ref p),some (V.int m),some (V.int st),some (V.ref g),some (V.int ((left:Int)-((rowV r.row).length:Int))),some (V.ref q)]=_;rw[show (left:Int)-((rowV r.row).length:Int)=((left-r.row.length:Nat):Int) by rw[hrl];lia]
    .exact hv9.snoc (λx v h=>rR.kt h kL) ⟨q,rw',rfl,kA _ _ q1,kA _ _ q2⟩
    .rw[zau hr'];exact List.Sublist.append hsub (List.Sublist.refl _)
    .rw[Ax,List.sum_append];simp;lia
   .exact⟨left,_,R',us,rfl,b9,k9,e9,hv9,hsn,hsum⟩
  .rintro σ H9 ⟨left,o5,R',us,rfl,b9,k9,e9,hv9,hsub,hsum⟩;have hsub':R'.Sublist R:=hsub.trans (List.take_sublist _ _);refine⟨_,rfl,k g cs R' us H9 hg (λz o hz h=>?_) ?_ e9 hv9 (λr hr=>hrc r (hsub'.subset hr)) (AF hsub'.length_le hRl) (by lia) hbox hcB⟩
   .exact b9 _ _ (λzz=>by rw[zz,hg]at h;cases h) (b18 z o hz (s1 _ _ h))
   .obtain⟨c0,t0,e0,q0⟩:=p8;exact⟨c0,t0,b9 _ _ (By hgp) e0,q0⟩
noncomputable def rdD(r:Rnd):PyData:=.tuple [.str r.so,.int r.x,.int r.y,.tuple (r.row.map λk:Nat=>PyData.int k)]
theorem dds_R{H:Hp}:∀{us:List V}{R:List Rnd},VR us R rR H->DDs H us (R.map rdD)
 |[],[],_=>.nil
 |[],_::_,h=>by have:=h.1;cases this
 |_::_,[],h=>by have:=h.1;cases this
 |v::vs,r::R,h=>by
  obtain⟨⟨a,b,rfl,q1,q2⟩,h2⟩:=VR.cons.mp h;exact .cons (.tup q1 (.cons (.str _) (.cons (.int _) (.cons (.int _) (.cons (.tup q2 (DDs.row _)) .nil))))) (dds_R h2)
theorem Ncs.nil{k:Nat}:Ncs [] 0 k:=⟨rfl,rfl,rfl,AV _,AV _⟩
theorem Ncs.cons{d:PyData}{ds:List PyData}{w w' k:Nat}(h1:Nc d w k)(h2:Ncs ds w' k):Ncs (d::ds) (w+w'+1) k:=by
 refine⟨?_,?_,?_,?_,?_⟩
 .simp only[PyData.leavesShortAll,h1.ls,h2.ls,Bm]
 .simp only[PyData.showableAll,h1.sh,h2.sh,Bm]
 .simp only[BQ,h1.cl,h2.cl,Bm]
 .have:=h1.dp;have:=h2.dp;simp only[C5];lia
 .have:=h1.wt;have:=h2.wt;simp only[PyData.weightAll];lia
theorem Nc.shown2{d:PyData}{w k:Nat}(h:Nc d w k)(hw:w<=137000):d.shown.length<=sizeLine:=by have h1:=PyData.shown_le 120 (by decide) d h.ls;have h2:=h.wt;have h3:(120+2)*d.weight<=(120+2)*137000:=Nat.mul_le_mul_left _ (AF h2 hw);have h4:sizeLine=2 ^ 24:=rfl;lia
theorem zjr{i:Int}(h1:-(2 ^ 105)<i)(h2:i<2 ^ 105):i.natAbs.log2<106:=by
 by_cases z:i.natAbs=0
 .rw[z];decide
 .exact AD ((Nat.log2_lt z).mpr (show i.natAbs<2 ^ 105 by lia)) (by decide)
theorem nc_so {x:Str}(h:x = "rim" ∨ x = "hole"):Nc (.str x) 10 1:=by rcases h with rfl |rfl <;> exact⟨by decide +kernel,by decide +kernel,by decide +kernel,by decide +kernel,by decide +kernel⟩
theorem nc_rd{cs:List Cell}{r:Rnd}(h:RndC cs r)(hB:∀c∈cs,CellB c)(hl:r.row.length<=40):Nc (rdD r) 700 3:=by
 obtain⟨f0,_,f2,_⟩:=h.facts;have hc:(r.x,r.y)∈cs:=by simpa[isIn]using f0
 obtain⟨⟨b1,b2⟩,b3,b4⟩:=hB _ hc;have hrow:=(Ncs.of (zhz r.row λk hk=>by have:=f2 k hk;lia)).tuple;rw[Af]at hrow;have h1:Nc (.int r.x) 106 2:=(zjj (zjr b1 b2) (by decide)).le (Ah _) (by decide);have h2:Nc (.int r.y) 106 2:=(zjj (zjr b3 b4) (by decide)).le (Ah _) (by decide);have h3:Nc (.str r.so) 10 2:=(nc_so h.1).le (Ah _) (by decide);exact ((Ncs.cons h3 (.cons h1 (.cons h2 (.cons hrow .nil)))).tuple).le (by lia) (by decide)
theorem zlC{cs:List Cell}{R:List Rnd}(h:∀r∈R,RndC cs r)(hB:∀c∈cs,CellB c)(hl:R.length<=40)(hs:(R.map (·.row.length)).sum<=40):Nc (.list (R.map rdD)) 30000 4:=by
 have h1:Ncs (R.map rdD) ((R.map rdD).length*(700+1)) 3:=Ncs.of λd hd=>by obtain⟨r,hr,rfl⟩:=AL.mp hd;exact nc_rd (h r hr) hB (by have:=zb5 hr;lia)
 rw[Af]at h1;exact h1.list.le (by lia) (by decide)
noncomputable def pairD(d:PyData)(R:List Rnd):PyData:=.list [d,.list (R.map rdD)]
theorem zlD{d:PyData}{cs:List Cell}{R:List Rnd}(hd:Nc d 80000 3)(h:∀r∈R,RndC cs r)(hB:∀c∈cs,CellB c)(hl:R.length<=40)(hs:(R.map (·.row.length)).sum<=40):Nc (pairD d R) 120000 5 :=
 (Ncs.cons (hd.le (Ah _) (by decide)) (.cons (zlC h hB hl hs) .nil)).list.le (by decide) (by decide)
theorem zgX{ks:List Nat}{n:Nat}(h:Good ks n):∀(m:Nat) (hm:m<ks.length),m<=ks[m]/\ks[m]<n
 |m,hm=>by
  have hn:(nxs ks n).length=ks.length:=by unfold nxs;rw[Aj,AE,Bv];lia
  have h1:=h.2.2 m _ _ (Aa hm) (Aa (by lia));refine⟨?_,by lia⟩
  cases m with
  |zero=>lia
  |succ m =>
   have ih:=(zgX h m (by lia)).1
   have h2:=h.2.2 m _ ks[m+1] (Aa (by lia)) (by
    unfold nxs;rw[Am (by rw[AE];lia),Bq,show 1+m=m+1 by lia];exact Aa hm)
   lia
theorem zlL{ks:List Nat}{n:Nat}(h:Good ks n):∀k∈ks,k<n:=λk hk=>by obtain⟨i,hi,rfl⟩:=AM hk;exact (zgX h i hi).2
theorem zkv{ks:List Nat}{n:Nat}(h:Good ks n):ks.length<=n:=by have h0:0<ks.length:=Bf.mpr h.1;have:=zgX h (ks.length-1) (by lia);lia
noncomputable def YesD(R:List Rnd)(B:Int)(d:PyData):Prop:=∃TT,d=thD TT/\R.length=TT.length/\zdH R TT/\zcq R TT B/\NoX (allS (R.map spo) TT)
theorem zlA{R:List Rnd}{B:Int}{ds:List PyData}(h:ds.length≠R.length):¬ YesD R B (.list ds):=λ⟨TT,e,hl,_⟩=>by
 unfold thD at e;injection e with e
 apply h
 rw[e,Af,hl]
noncomputable def oddD(x:PyData)(r:Rnd):PyData:=.list (x::(As ((spo r).length-1)).map λi:Nat=>PyData.int ((1+i:Nat):Int))
theorem zmg{R:List Rnd}{B:Int}{x:PyData}(hx:∀k:Nat,x≠.int (k:Int))(hR:R≠[]):¬ YesD R B (.list (R.map (oddD x))):=λ⟨TT,e,hl,hc,_⟩=>by
 cases R with
 |nil=>exact hR rfl
 |cons r R =>
  cases TT with
  |nil=>simp at hl
  |cons ks TT =>
   have h0:=hc 0 r ks rfl rfl
   cases ks with
   |nil=>have:=h0.2.1;simp at this
   |cons k ks =>
    unfold thD oddD at e;simp only[AW,PyData.list.injEq,List.cons.injEq]at e;exact hx k e.1.1
theorem zk2{B:Int}:YesD [] B (.list []):=⟨[],rfl,rfl,(λi r ks h _=>by simp at h),(λi r ks h _=>by simp at h),List.Pairwise.nil⟩
theorem zk3{cs:List Cell}{R:List Rnd}{B:Int}(h:∀r∈R,RndC cs r)(hl:R.length<=40)(hs:(R.map (·.row.length)).sum<=40)(hb:Boxed 40 cs)(b0:0<=B)(b1:B<=1000000):YesD R B (thD (allK R)):=by have hD:=Drw.start (m:=40) (st:=40) h (by decide) hl hs (by decide) hb b0 b1;exact⟨allK R,rfl,hD.b.th.len,hD.b.cr,hD.near,hD.nox⟩
theorem zfP{cs:List Cell}{R:List Rnd}(h:∀r∈R,RndC cs r)(hl:R.length<=40)(hs:(R.map (·.row.length)).sum<=40)(hb:Boxed 40 cs):SmB R cs:=by have hD:=Drw.start (m:=40) (st:=40) (B:=0) h (by decide) hl hs (by decide) hb (by decide) (by decide);exact⟨λr hr=>(h r hr).facts.2.2.1,by lia,by lia,λr hr=>(h r hr).spot,hD.b.dL⟩
noncomputable def lens(R:List Rnd):List Nat:=R.map λr=>(spo r).length
theorem zcL(R:List Rnd):(lens R).length=R.length:=by unfold lens;rw[Af]
theorem zcY{R:List Rnd}(hs:(R.map (·.row.length)).sum<=40):∀n∈lens R,1<=n/\n<=41:=λn hn=>by unfold lens at hn;obtain⟨r,hr,rfl⟩:=AL.mp hn;have h1:=zb5 hr;have h2:=zaG r;lia
structure Sts (R:List Rnd) (cs:List Cell) (B:Int):Prop where
 rc:∀r∈R,RndC cs r
 len:R.length<=40
 sum:(R.map (·.row.length)).sum<=40
 box:Boxed 40 cs
 cb:∀c∈cs,CellB c
 b0:0<=B
 b1:B<=1000000
structure Lw (H:Hp) (p g bm:Addr) (us:List V) (R:List Rnd):Prop where
 gp:g≠p
 mp:bm≠p
 g:H g=some (.lst us)
 v:VR us R rR H
 m:H bm=some (.lst (rowV (lens R)))
 pen:∃c t,H p=some (.lst [.int c,.int t])
theorem rR.but{r:Rnd}{v:V}{H H':Hp}{p:Addr}(h:rR r v H)(b:But H H' p)(hp:∃c t,H p=some (.lst [.int c,.int t])):rR r v H':=by obtain⟨a,b',e,q1,q2⟩:=h;obtain⟨c,t,hc⟩:=hp;exact⟨a,b',e,b _ _ (λz=>by rw[z,hc]at q1;cases q1) q1,b _ _ (λz=>by rw[z,hc]at q2;cases q2) q2⟩
theorem Lw.same{H H':Hp}{p g bm:Addr}{us:List V}{R:List Rnd}(h:Lw H p g bm us R)(s:Same H H'):Lw H' p g bm us R :=
 ⟨h.gp,h.mp,s _ _ h.g,h.v.mono λx v q=>rR.kt q (KT.of s),s _ _ h.m,let ⟨c,t,e⟩:=h.pen;⟨c,t,s _ _ e⟩⟩
theorem Lw.but{H H':Hp}{p g bm:Addr}{us:List V}{R:List Rnd}(h:Lw H p g bm us R)(b:But H H' p){n:Nat}(hp:HasB H' p n):Lw H' p g bm us R :=
 ⟨h.gp,h.mp,b _ _ h.gp h.g,h.v.mono λx v q=>q.but b h.pen,b _ _ h.mp h.m,let ⟨c,t,e,_⟩:=hp;⟨c,t,e⟩⟩
noncomputable def thP2(p q:Addr)(ks:List Nat)(v:V)(H:Hp):Prop:=∃c,v=.ref c/\c≠p/\c≠q/\H c=some (.lst (rowV ks))
section
variable {K:W.Frag}{R:List Rnd}{cs:List Cell}{B:Int}{H:Hp}{p g bm a:Addr}{us:List V}
theorem zgc{σ : St}{Q:VK}{n:Nat}(S:Sts R cs B)(L:Lw H p g bm us R)(hp:HasB H p (n + 20000))(h4 : σ[4]? = some (some (.ref bm)))(h2 : σ[2]? = some (some (.ref p)))
  (k:∀l ts TT H',But H H' p->HasB H' p n->l≠p->H' l=some (.lst ts)->VR ts TT (thP p) H'->Bnt TT (lens R)->Q (.ref l) H') :
  zc4 (iList K (tVar 4)) [none,some 2] (gName 0) (λx H Q=>Q true H) (tCall (zc7 K) [] E0 (tCons (tVar 1) (tCons (tVar 0) tNil))) σ H Q:=by
 have hll:=zcL R;have hl40:=S.len
 have hlp:∀{t:Addr} {Ha:Hp} {c:Nat},HasB Ha p c->Ha t=none->t≠p:=λh ht z=>by obtain⟨c1,q1,z1,_⟩:=h;rw[z,z1]at ht;cases ht
 refine⟨_,h4,bm,rfl,⟨_,SqL.of L.m⟩,λq hq=>?_⟩;have hqp:=hlp hp hq
 refine zaz (K:=K) (a:=bm) (xs:=rowV (lens R)) (λj σ H2=>∃o ts TT,σ=[o,some (.ref p)]/\But H H2 p/\HasB H2 p (n+(40-j)*500)/\H2 q=some (.lst ts)/\VR ts TT (thP2 p q) H2/\TT.length=j/\∀(m:Nat) ks s,TT[m]?=some ks->(lens R)[m]?=some s->Good ks s)
  ?_ (λj σ H2 _ ⟨_,_,_,_,b2,_⟩=>SqL.of (b2 _ _ L.mp L.m)) ?_ ?_
 .refine⟨none,[],[],by simp[selSt,h2],But.of (Same.up hq),(hp.same (Same.up hq)).le (by lia),zaa,VR.nil,rfl,λm ks s h _=>by simp at h⟩
 .rintro j u σ H2 hj ⟨o,ts,TT,rfl,b2,p2,e2,hT,hTl,hG⟩;have hjl:=(Ab.mp hj).1;rw[zaV]at hjl;have hu:=zdv (Aa hjl);rw[hj]at hu
  cases hu
  have hn:=zcY S.sum _ (AU hjl);have hj40:(40-j)*500=(40-(j+1))*500+500:=by lia
  refine gN ?_
  refine⟨_,rfl,_,rfl,p,n+(40-(j+1))*500,_,rfl,p2.le (by lia),hn.1,by lia,λl ks H3 hl b3 p3 e3 hg=>?_⟩;have hlq:l≠q:=λz=>by rw[z,e2]at hl;cases hl
  have hlP:=hlp p2 hl;have e3q:=b3 _ _ hqp e2;refine⟨ts,e3q,zal (by rw[hT.1,hTl];lia),_,ts++[.ref l],TT++[ks],rfl,?_,?_,zaa,?_,by rw[Aj,hTl];rfl,?_⟩
  .intro z o hz h;rw[zam (λe=>by rw[e,hq]at h;cases h)];exact b3 _ _ hz (b2 _ _ hz h)
  .obtain⟨c0,t0,e0,r0⟩:=p3;exact⟨c0,t0,by rw[zam (By hqp)];exact e0,r0⟩
  .refine VR.snoc hT (λx v ⟨c,e,n1,n2,h⟩=>⟨c,e,n1,n2,by rw[zam n2];exact b3 _ _ n1 h⟩) ⟨l,rfl,hlP,hlq,by rw[zam hlq];exact e3⟩
  .intro m ks' s h1 h2;rcases A3 m TT.length with z |z
   .rw[Am z]at h1;exact hG m ks' s h1 h2
   .have hm:m=j := by have:=(Ab.mp h1).1;rw[Aj,Bv]at this;lia
    subst hm;rw[<- hTl,Au (Ah _),Nat.sub_self]at h1
    cases h1
    rw[Aa hjl]at h2
    cases h2
    exact hg
 .rintro σ H2 ⟨o,ts,TT,rfl,b2,p2,e2,hT,hTl,hG⟩;rw[zaV]at hTl;refine k q ts TT H2 b2 (p2.le (by lia)) hqp e2 ⟨hT.1,λi x v h1 h2=>let ⟨c,e,n1,_,h⟩:=hT.2 i x v h1 h2;⟨c,e,n1,h⟩⟩ ⟨hTl,by lia,λks hks=>?_,λs hs=>?_⟩
  .obtain⟨m,hm,e⟩:=AM hks;have hml:m<(lens R).length:=by lia
   have h1:=hG m ks _ (by rw[Aa hm,e]) (Aa hml);have h2:=zcY S.sum _ (AU hml);have h3:=zkv h1;exact⟨h1.1,by lia,λk hk=>by have:=zlL h1 k hk;lia⟩
  .have:=zcY S.sum s hs;lia
noncomputable abbrev tRepr(K:W.Frag)(t:TA):TE:=tCB (λxs H_1 Q=>∃a d_1,xs=[V.ref a]/\RD K H_1 (V.ref a) d_1/\d_1.showable=true/\Bd d_1=true/\d_1.shown.length<=sizeLine/\Q (V.str d_1.shown) H_1) t
theorem zk7{r:R2}{t1 t2:TE}{σ:St}{H:Hp}{Q:Bool->Hp->Prop}(h:t1 σ H λx H1=>t2 σ H1 λy H2=>r x y H2 λv H3=>∃k,v=.bl k/\Q k H3):tTest (tOp r t1 t2) σ H Q:=h
theorem zfU{σ : St}{Q:VK}{u:V}{d:PyData}(S:Sts R cs B)(L:Lw H p g bm us R)(hd:ThgT H u d)(h7 : σ[7]? = some (some u))(h3 : σ[3]? = some (some (.ref g)))(k:∀H', Same H H' -> Q (.str (pairD d R).shown) H') :
  tRepr K (tCons (tLst (tCons (tVar 7) (tCons (tVar 3) tNil))) tNil) σ H Q:=by
 refine⟨_,h7,_,h3,two,λq hq=>?_⟩;have s1:=Same.up (o:=.lst [u,V.ref g]) hq;have e1:upd H q (.lst [u,V.ref g]) q=some (.lst [u,V.ref g]):=zaa;generalize upd H q (.lst [u,V.ref g])=H1 at s1 e1 ⊢;have L1:=L.same s1;have nc:=zlD hd.nc S.rc S.cb S.len S.sum;have dd:DD H1 (.ref q) (pairD d R):=.lst e1 (.cons (hd.dd.same s1) (.cons (.lst L1.g (dds_R L1.v)) .nil));exact⟨q,pairD d R,rfl,dd.rd,nc.sh,nc.shaped (by decide),nc.shown2 (by decide),k H1 s1⟩
theorem ThgT.same{H H':Hp}{v:V}{d:PyData}(h:ThgT H v d)(s:Same H H'):ThgT H' v d:=⟨h.dd.same s,h.ro,h.nc⟩
theorem ziw{D:Ends}{i:Int}{u:V}{d:PyData}{bd:Bool}{o6 o9 o10 o11:Option V}(S:Sts R cs B)(L:Lw H p g bm us R)(hd:ThgT H u d)(hbd:bd=true ↔ YesD R B d)
  (k:∀o7 o8 o9 o10 H',Same H H'->D.nx [some (.ref a),some (.int i),some (.ref p),some (.ref g),some (.ref bm),some (.int B),o6,o7,o8,o9,o10,o11] H') :
  tSeq (tAsg (tCB (λxs H_1 Q=>∃a d_1,xs=[V.ref a]/\RD K H_1 (V.ref a) d_1/\d_1.showable=true/\Bd d_1=true/\d_1.shown.length<=sizeLine/\Q (V.str d_1.shown) H_1) (tCons (tLst (tCons (tVar 7) (tCons (tVar 3) tNil))) tNil)) (gName 9)) (tSeq (tAsg (tCall (zcf K) [] E0 (tCons (tVar 3) (tCons (tVar 5) (tCons (tVar 7) tNil)))) (gName 10)) (tIfS (tOr (tNot (tB (tCB (λxs H_1 Q=>∃x T t b,xs=[x,V.ty T]/\TyOf K H_1 x t/\W.kitOne K t (Da T)=some b/\Q (V.bl b) H_1) (tCons (tVar 10) (tCons (tC (V.ty "bool")) tNil))))) (tOr (tTest (tOp rNe (tVar 10) (tVar 8))) (tTest (tOp rNe (tCB (λxs H_1 Q=>∃a d_1,xs=[V.ref a]/\RD K H_1 (V.ref a) d_1/\d_1.showable=true/\Bd d_1=true/\d_1.shown.length<=sizeLine/\Q (V.str d_1.shown) H_1) (tCons (tLst (tCons (tVar 7) (tCons (tVar 3) tNil))) tNil)) (tVar 9))))) (tRet (tC (V.bl false))) tNext)) D [some (.ref a),some (.int i),some (.ref p),some (.ref g),some (.ref bm),some (.int B),o6,some u,some (.bl bd),o9,o10,o11] H:=by
 refine zeg (zfU S L hd rfl rfl λH1 s1=>zeg ?_);have L1:=L.same s1;refine⟨_,rfl,_,rfl,_,rfl,g,us,R,cs,B,u,d,rfl,L1.g,L1.v,zfP S.rc S.len S.sum S.box,hd.dd.same s1,hd.ro,S.b0,S.b1,λbb H2 s2 hbb=>?_⟩
 have hbe:bb=bd:=by rw[Ca];exact hbb.trans hbd.symm
 subst hbe;have L2:=L1.same s2;have s02:=s1.trans s2;refine⟨_,rfl,_,_,_,true,rfl,TyOf.bl _,rfl,_,rfl,?_⟩;refine ite2 (λhy=>absurd hy (by decide)) (λ_=>?_);refine⟨_,rfl,_,rfl,by cases bb <;> rfl,_,rfl,?_⟩;refine ite2 (λhy=>by simp at hy) (λ_=>?_);refine zk7 (zfU (K:=K) S L2 (hd.same s02) rfl rfl λH3 s3=>⟨_,rfl,rfl,_,rfl,?_⟩);refine ite2 (λhy=>by simp at hy) (λ_=>?_);exact k _ _ _ _ H3 (s02.trans s3)
theorem zk6{D:Ends}{n:Nat}{i:Int}{o6 o7 o8 o9 o10 o11:Option V}(S:Sts R cs B)(L:Lw H p g bm us R)(hp:HasB H p (n + 21000))
  (k:∀o7 o8 o9 o10 H',But H H' p->HasB H' p n->D.nx [some (.ref a),some (.int i),some (.ref p),some (.ref g),some (.ref bm),some (.int B),o6,o7,o8,o9,o10,o11] H') :
  tSeq (tAsg (tCall (ziO K) [] E0 (tCons (tVar 2) (tCons (zc4 (iList K (tVar 4)) [none,some 2] (gName 0) (λx H Q=>Q true H) (tCall (zc7 K) [] E0 (tCons (tVar 1) (tCons (tVar 0) tNil)))) (tCons (tVar 4) tNil)))) (gName 7)) (tSeq (tAsg (tAndV (tCall (zgx K) [] E0 (tCons (tVar 7) (tCons (tVar 4) tNil))) (tCall (ze6 K) [] E0 (tCons (tVar 3) (tCons (tVar 5) (tCons (tVar 7) tNil))))) (gName 8)) (tSeq (tAsg (tCB (λxs H_1 Q=>∃a d_1,xs=[V.ref a]/\RD K H_1 (V.ref a) d_1/\d_1.showable=true/\Bd d_1=true/\d_1.shown.length<=sizeLine/\Q (V.str d_1.shown) H_1) (tCons (tLst (tCons (tVar 7) (tCons (tVar 3) tNil))) tNil)) (gName 9)) (tSeq (tAsg (tCall (zcf K) [] E0 (tCons (tVar 3) (tCons (tVar 5) (tCons (tVar 7) tNil)))) (gName 10)) (tIfS (tOr (tNot (tB (tCB (λxs H_1 Q=>∃x T t b,xs=[x,V.ty T]/\TyOf K H_1 x t/\W.kitOne K t (Da T)=some b/\Q (V.bl b) H_1) (tCons (tVar 10) (tCons (tC (V.ty "bool")) tNil))))) (tOr (tTest (tOp rNe (tVar 10) (tVar 8))) (tTest (tOp rNe (tCB (λxs H_1 Q=>∃a d_1,xs=[V.ref a]/\RD K H_1 (V.ref a) d_1/\d_1.showable=true/\Bd d_1=true/\d_1.shown.length<=sizeLine/\Q (V.str d_1.shown) H_1) (tCons (tLst (tCons (tVar 7) (tCons (tVar 3) tNil))) tNil)) (tVar 9))))) (tRet (tC (V.bl false))) tNext)))) D [some (.ref a),some (.int i),some (.ref p),some (.ref g),some (.ref bm),some (.int B),o6,o7,o8,o9,o10,o11] H:=by
 refine⟨_,rfl,zgc (n:=n+1000) S L (hp.le (by lia)) rfl rfl λl ts TT H1 b1 p1 hlp e1 hT hB=>?_⟩;have L1:=L.but b1 p1;refine⟨_,rfl,p,l,bm,n+900,ts,TT,lens R,rfl,p1.le (by lia),hlp,L1.mp,e1,hT,L1.m,hB,λu H2 d b2 p2 hd=>?_⟩;have L2:=L1.but b2 p2;have b02:=b1.trans b2;refine⟨_,rfl,_,rfl,u,d,bm,lens R,rfl,hd.dd,hd.ro,L2.m,by rw[zcL];have:=S.len;lia,λn hn=>by have:=zcY S.sum n hn;lia,λH3 s3=>⟨_,rfl,?_⟩⟩;have L3:=L2.same s3;have fin:∀bd H4,Same H3 H4->(bd=true ↔ YesD R B d)->_:=λbd H4 s4 hbd=>ziw (K:=K) (D:=D) (a:=a) (i:=i) (o6:=o6) (o9:=o9) (o10:=o10) (o11:=o11) (bd:=bd) S (L3.same s4) (hd.same (s3.trans s4)) hbd λo7 o8 o9 o10 H5 s5=>k o7 o8 o9 o10 H5 (λz o hz h=>(s3.trans (s4.trans s5)) _ _ (b02 z o hz h)) ((p2.same (s3.trans (s4.trans s5))).le (by lia))
 refine ite2 (λhy=>?_) (λhn=>?_)
 .obtain⟨TT,rfl,h1,h2⟩:=zc3.mp hy;obtain⟨b,ts',rfl,e3,hT3⟩:=(hd.dd.same s3).th;have sm:=zfP S.rc S.len S.sum S.box;refine⟨_,rfl,_,rfl,_,rfl,g,b,us,ts',R,TT,B,cs,rfl,L3.g,L3.v,e3,hT3,sm.thn h2 h1,S.b0,S.b1,sm.dL,zjL h2 sm.sp,λbb H4 s4 hbb=>?_⟩;refine fin bb H4 s4 (hbb.trans ⟨λ⟨q1,q2⟩=>⟨TT,rfl,h1,h2,q1,q2⟩,λ⟨TT',e,_,_,q1,q2⟩=>?_⟩);rw[<- ziB e]at q1 q2;exact⟨q1,q2⟩
 .have hf:thinD (lens R) d=false:=Bool.eq_false_iff.mpr hn;exact fin false H3 (Same.refl _) ⟨λh=>(by cases h),λ⟨TT,e,h1,h2,_⟩=>absurd (zc3.mpr ⟨TT,e,h1,h2⟩) hn⟩
theorem zhU{σ : St}{Q:VK}(S:Sts R cs B)(L:Lw H p g bm us R)(h4 : σ[4]? = some (some (.ref bm)))(k:∀l ts H', Same H H' -> H l=none -> H' l=some (.lst ts) -> VR ts (allK R) thR H' -> Q (.ref l) H') :
  zc4 (iList K (tVar 4)) [none] (gName 0) (λx H Q=>Q true H) (zha (tCons (tVar 0) tNil)) σ H Q:=by
 have hll:=zcL R;have hl40:=S.len;refine⟨_,h4,bm,rfl,⟨_,SqL.of L.m⟩,λq hq=>?_⟩
 refine zaz (K:=K) (a:=bm) (xs:=rowV (lens R)) (λj σ H2=>∃o ts,σ=[o]/\Same H H2/\H2 q=some (.lst ts)/\VR ts ((allK R).take j) (λks v H=>∃c,v=.ref c/\c≠q/\H c=some (.lst (rowV ks))) H2)
  ⟨none,[],rfl,Same.up hq,zaa,VR.nil⟩ (λj σ H2 _ ⟨_,_,_,s2,_⟩=>SqL.of (s2 _ _ L.m)) ?_ ?_
 .rintro j u σ H2 hj ⟨o,ts,rfl,s2,e2,hT⟩;have hjl:=(Ab.mp hj).1;rw[zaV]at hjl;have hu:=zdv (Aa hjl);rw[hj]at hu
  cases hu
  have hn:=zcY S.sum _ (AU hjl)
  have hak:(allK R)[j]?=some (As (lens R)[j]):=by
   have hjR:j<R.length:=by lia
   have e0:(lens R)[j]=(spo R[j]).length:=List.getElem_map _;rw[e0];unfold allK;rw[Az,Aa hjR];rfl
  refine gN ?_
  refine⟨_,rfl,_,rfl,by lia,λl hl=>?_⟩;have hlq:l≠q:=λz=>by rw[z,e2]at hl;cases hl
  have s3:=Same.up (o:=.lst ((As (lens R)[j]).map λi:Nat=>V.int i)) hl;have e3:upd H2 l (.lst ((As (lens R)[j]).map λi:Nat=>V.int i)) l=some (.lst ((As (lens R)[j]).map λi:Nat=>V.int i)):=zaa;generalize upd H2 l (.lst ((As (lens R)[j]).map λi:Nat=>V.int i))=H3 at s3 e3 ⊢;have hTl:=hT.1;rw[Aq]at hTl;refine⟨ts,s3 _ _ e2,zal (by lia),_,ts++[.ref l],rfl,zas hq (s2.trans s3),zaa,?_⟩;rw[zau hak];exact VR.snoc hT (λx v ⟨c,e,n1,h⟩=>⟨c,e,n1,by rw[zam n1];exact s3 _ _ h⟩) ⟨l,rfl,hlq,by rw[zam hlq];exact e3⟩
 .rintro σ H2 ⟨o,ts,rfl,s2,e2,hT⟩;rw[A0 (by unfold allK;rw[Af,zaV];lia)]at hT;exact k q ts H2 s2 hq e2 ⟨hT.1,λi x v h1 h2=>let ⟨c,e,_,h⟩:=hT.2 i x v h1 h2;⟨c,e,h⟩⟩
theorem zjG{H:Hp}:∀{ts:List V}{TT:List (List Nat)},VR ts TT thR H->DDs H ts (TT.map λks=>PyData.list (ks.map λk:Nat=>PyData.int k))
 |[],[],_=>.nil
 |[],_::_,h=>by have:=h.1;cases this
 |_::_,[],h=>by have:=h.1;cases this
 |v::vs,r::R,h=>by
  obtain⟨⟨a,rfl,q⟩,h2⟩:=VR.cons.mp h;exact .cons (.lst q (DDs.row _)) (zjG h2)
theorem zkx{R:List Rnd}(hs:(R.map (·.row.length)).sum<=40){ks:List Nat}(h:ks∈allK R):ks.length<=41/\∀k∈ks,k<=41:=by unfold allK at h;obtain⟨r,hr,rfl⟩:=AL.mp h;have h1:=zb5 hr;have h2:=zaG r;exact⟨by rw[A4];lia,λk hk=>by have:=Cs.mp hk;lia⟩
theorem zmr(S:Sts R cs B):∀d∈(allK R).map (λks=>PyData.list (ks.map λk:Nat=>PyData.int k)),lenOk d/\Nc d 1000 2:=λd hd=>by obtain⟨ks,hk,rfl⟩:=AL.mp hd;obtain⟨h1,h2⟩:=zkx S.sum hk;have h3:=Ncs.of (zhz ks λk hk=>by have:=h2 k hk;lia);rw[Af]at h3;exact⟨by show (ks.map λk:Nat=>PyData.int k).length<=_;rw[Af];exact AF h1 (by decide),h3.list.le (by lia) (by decide)⟩
theorem zd0{ds:List PyData}(hl:ds.length<=60)(h:∀d∈ds,lenOk d/\Nc d 1000 2):zd1 (.list ds):=⟨by lia,λd hd=>⟨(h d hd).1,(h d hd).2.shaped (by decide)⟩⟩
theorem zlH{D:Ends}{i:Int}{o6 o7 o8 o9 o10 o11:Option V}(S:Sts R cs B)(L:Lw H p g bm us R)
  (k:∀H',Same H H'->D.nx [some (.ref a),some (.int i),some (.ref p),some (.ref g),some (.ref bm),some (.int B),o6,o7,o8,o9,o10,o11] H') :
  tIfS (tTest (tOp (λx y H Q=>∃a b,x=V.bl a/\y=V.bl b/\Q (V.bl !decide (a=b)) H) (tCall (zcf K) [] E0 (tCons (tVar 3) (tCons (tVar 5) (tCons (zc4 (iList K (tVar 4)) [none] (gName 0) (λx H Q=>Q true H) (zha (tCons (tVar 0) tNil))) tNil)))) (tC (V.bl true)))) (tRet (tC (V.bl false))) tNext D [some (.ref a),some (.int i),some (.ref p),some (.ref g),some (.ref bm),some (.int B),o6,o7,o8,o9,o10,o11] H:=by
 refine⟨_,rfl,_,rfl,zhU S L rfl λl ts H1 s1 hl e1 hT=>?_⟩;have L1:=L.same s1;have hlen:((allK R).map (λks=>PyData.list (ks.map λk:Nat=>PyData.int k))).length<=60:=by unfold allK;rw[Af,Af];have:=S.len;lia
 refine⟨g,us,R,cs,B,.ref l,thD (allK R),rfl,L1.g,L1.v,zfP S.rc S.len S.sum S.box,.lst e1 (zjG hT),zd0 hlen (zmr S),S.b0,S.b1,λbb H2 s2 hbb=>?_⟩;have hb:bb=true:=hbb.mpr (zk3 S.rc S.len S.sum S.box S.b0 S.b1);subst hb;refine⟨_,_,rfl,rfl,_,rfl,?_⟩;refine ite2 (λhy=>absurd hy (by decide)) (λ_=>?_);exact k H2 (s1.trans s2)
end
section
variable {K:W.Frag}{R:List Rnd}{cs:List Cell}{B:Int}{H:Hp}{p g bm a:Addr}{us:List V}
theorem zlR{r:List V->Hp->VK->Prop}{t:TE}{ts:TA}{σ:St}{H:Hp}{Q:List V->Hp->Prop}(h:t σ H λx H1=>r [x] H1 λy H2=>ts σ H2 λxs H3=>Q (y::xs) H3):tCons (tCB r (tCons t tNil)) ts σ H Q:=h
theorem seq_c{v:V}{i:Nat}{t u:TS}{D:Ends}{σ:St}{H:Hp}(h:t { D with nx:=u D } (σ.set i (some v)) H):gName i v σ H λσ2 H2=>tSeq t u D σ2 H2:=h
theorem zjH{H:Hp}{c:Addr}(e:H c=some (.lst [])):∀n,DDs H (AZ n [V.ref c]).flatten (AZ n (PyData.list []))
 | 0=>.nil
 |n+1=>by
  rw[BK,BK,Ce];exact .cons (.lst e .nil) (zjH e n)
theorem ziz{D:Ends}{i:Int}{o6 o7 o8 o9 o10 o11:Option V}(S:Sts R cs B)(L:Lw H p g bm us R)
  (k:∀o7 H',Same H H'->D.nx [some (.ref a),some (.int i),some (.ref p),some (.ref g),some (.ref bm),some (.int B),o6,o7,o8,o9,o10,o11] H') :
  tFor (iList K (tLst (tCons (tC V.non) (tCons (tC (V.int 5)) (tCons (tC (V.str (AR "0"))) (tCons (tTup tNil) (tCons (tCB (λxs H_1 Q=>∃p ys,xs=[V.ref p]/\((SqL K H_1 p ys/\∀(l:Addr),H_1 l=none->Q (V.ref l) (upd H_1 l (HO.tup ys)))∨SqT K H_1 p ys/\Q (V.ref p) H_1)) (tCons (zc4 (iList K (tVar 4)) [none] (gName 0) (λx H Q=>Q true H) (zha (tCons (tVar 0) tNil))) tNil)) (tCons (tOp rRep (tLst (tCons (tLst tNil) tNil)) (tOp (rI0 λi j=>V.int (i+j)) (tCB (λxs H_1 Q=>∃p ys,xs=[V.ref p]/\(SqL K H_1 p ys∨SqT K H_1 p ys)/\Q (V.int ↑ys.length) H_1) (tCons (tVar 4) tNil)) (tC (V.int 1)))) tNil)))))))) (gName 7) (tIfS (tTest (tOp (λx y H Q=>∃a b,x=V.bl a/\y=V.bl b/\Q (V.bl !decide (a=b)) H) (tCall (zcf K) [] E0 (tCons (tVar 3) (tCons (tVar 5) (tCons (tVar 7) tNil)))) (tC (V.bl false)))) (tRet (tC (V.bl false))) tNext) D [some (.ref a),some (.int i),some (.ref p),some (.ref g),some (.ref bm),some (.int B),o6,o7,o8,o9,o10,o11] H:=by
 refine⟨(by show 0<=sizeLine;decide),λt1 ht1=>?_⟩;have s1:=Same.up (o:=.tup []) ht1;have e1:upd H t1 (.tup []) t1=some (.tup []):=zaa;generalize upd H t1 (.tup [])=H1 at s1 e1 ⊢;refine zlR (zhU S (L.same s1) rfl λl2 ts H2 s2 hl2 e2 hT=>?_);refine⟨l2,_,rfl,.inl ⟨SqL.of e2,λt3 ht3=>?_⟩⟩;have s3:=Same.up (o:=.tup ts) ht3;have e3:upd H2 t3 (.tup ts) t3=some (.tup ts):=zaa;generalize upd H2 t3 (.tup ts)=H3 at s3 e3 ⊢;refine⟨(by show 0<=sizeLine;decide),λl4 hl4=>?_⟩;have s4:=Same.up (o:=.lst []) hl4;have e4:upd H3 l4 (.lst []) l4=some (.lst []):=zaa;generalize upd H3 l4 (.lst [])=H4 at s4 e4 ⊢;refine⟨(by show 1<=sizeLine;decide),λl5 hl5=>?_⟩;have s5:=Same.up (o:=.lst [V.ref l4]) hl5;have e5:upd H4 l5 (.lst [V.ref l4]) l5=some (.lst [V.ref l4]):=zaa;generalize upd H4 l5 (.lst [V.ref l4])=H5 at s5 e5 ⊢;have s05:=s1.trans (s2.trans (s3.trans (s4.trans s5)));have L5:=L.same s05;have hll:=zcL R;have hl40:=S.len;have hrl:=zaV (lens R);refine⟨_,rfl,bm,_,rfl,.inl (SqL.of L5.m),_,_,rfl,rfl,l5,(R.length:Int)+1,_,rfl,by rw[hrl,hll],e5,by lia,by lia,?_,λl6 hl6=>?_⟩
 .have:((R.length:Int)+1).toNat=R.length+1:=by lia
  rw[this];exact Bc (bigT (by simp;lia))
 have hk:((R.length:Int)+1).toNat=R.length+1:=by lia
 rw[hk];have s6:=Same.up (o:=.lst (AZ (R.length+1) [V.ref l4]).flatten) hl6;have e6:upd H5 l6 (.lst (AZ (R.length+1) [V.ref l4]).flatten) l6=some (.lst (AZ (R.length+1) [V.ref l4]).flatten):=zaa;generalize upd H5 l6 (.lst (AZ (R.length+1) [V.ref l4]).flatten)=H6 at s6 e6 ⊢;refine⟨(by show 6<=sizeLine;decide),λl7 hl7=>?_⟩;have s7:=Same.up (o:=.lst [V.non,V.int 5,V.str (AR "0"),V.ref t1,V.ref t3,V.ref l6]) hl7;have e7:upd H6 l7 (.lst [V.non,V.int 5,V.str (AR "0"),V.ref t1,V.ref t3,V.ref l6]) l7=some (.lst [V.non,V.int 5,V.str (AR "0"),V.ref t1,V.ref t3,V.ref l6]):=zaa;generalize upd H6 l7 (.lst [V.non,V.int 5,V.str (AR "0"),V.ref t1,V.ref t3,V.ref l6])=H7 at s7 e7 ⊢;have L7:=L5.same (s6.trans s7)
 have all:∀v∈[V.non,V.int 5,V.str (AR "0"),V.ref t1,V.ref t3,V.ref l6],∃d,DD H7 v d/\zd1 d/\¬ YesD R B d:=λv hv=>by
  simp only[At,A9,or_false]at hv;rcases hv with rfl |rfl |rfl |rfl |rfl |rfl
  .exact⟨_,.non,trivial,λ⟨TT,e,_⟩=>by unfold thD at e;cases e⟩
  .exact⟨_,.int _,trivial,λ⟨TT,e,_⟩=>by unfold thD at e;cases e⟩
  .exact⟨_,.str _,trivial,λ⟨TT,e,_⟩=>by unfold thD at e;cases e⟩
  .exact⟨_,.tup ((s2.trans (s3.trans (s4.trans (s5.trans (s6.trans s7))))) _ _ e1) .nil,trivial,λ⟨TT,e,_⟩=>by unfold thD at e;cases e⟩
  .exact⟨_,.tup ((s4.trans (s5.trans (s6.trans s7))) _ _ e3) ((zjG hT).same (s3.trans (s4.trans (s5.trans (s6.trans s7))))),trivial,λ⟨TT,e,_⟩=>by unfold thD at e;cases e⟩
  .refine⟨.list (AZ (R.length+1) (.list [])),.lst (s7 _ _ e6) (zjH ((s5.trans (s6.trans s7)) _ _ e4) _),zd0 (by rw[List.length_replicate];lia) λd hd=>?_,zlA (by rw[List.length_replicate];lia)⟩;rw[List.eq_of_mem_replicate hd];exact⟨AV _,(Ncs.nil (k:=1)).list.le (by decide) (by decide)⟩
 refine⟨l7,rfl,⟨_,SqL.of e7⟩,?_⟩;refine zaz (K:=K) (a:=l7) (xs:=[V.non,V.int 5,V.str (AR "0"),V.ref t1,V.ref t3,V.ref l6]) (λj σ H8=>∃o7,σ=[some (.ref a),some (.int i),some (.ref p),some (.ref g),some (.ref bm),some (.int B),o6,o7,o8,o9,o10,o11]/\Same H7 H8) ⟨_,rfl,Same.refl _⟩ (λj σ H8 _ ⟨_,_,s8⟩=>SqL.of (s8 _ _ e7)) ?_ ?_
 .rintro j v σ H8 hj ⟨o7,rfl,s8⟩;obtain⟨d,h1,h2,h3⟩:=all v (Ag hj);have L8:=L7.same s8;refine⟨_,rfl,_,rfl,_,rfl,g,us,R,cs,B,v,d,rfl,L8.g,L8.v,zfP S.rc S.len S.sum S.box,h1.same s8,h2,S.b0,S.b1,λbb H9 s9 hbb=>?_⟩;have hb:bb=false:=Bool.eq_false_iff.mpr λh=>h3 (hbb.mp h)
  subst hb;refine⟨_,_,rfl,rfl,_,rfl,?_⟩;refine ite2 (λhy=>absurd hy (by decide)) (λ_=>?_);exact⟨_,rfl,s8.trans s9⟩
 .rintro σ H8 ⟨o7,rfl,s8⟩;exact k _ H8 (s05.trans (s6.trans (s7.trans s8)))
theorem zkq{D:Ends}{σ : St}{x:V}{xd:PyData}(S:Sts R cs B)(L:Lw H p g bm us R)(hx:∀H, DD H x xd)(h4 : σ[4]? = some (some (.ref bm)))(h11 : σ[11]? = some (some x))(k:∀l ts H', Same H H' -> H' l=some (.lst ts) -> DDs H' ts (R.map (oddD xd)) -> D.nx (σ.set 7 (some (.ref l))) H') :
  zho (iList K (tVar 4)) [none,some 11] (gName 0) (λx H Q=>Q true H) (tOp rCat (tLst (tCons (tVar 1) tNil)) (zgt (tCons (tC (V.int 1)) (tCons (tVar 0) tNil)))) 7 D σ H:=by
 have hll:=zcL R;have hl40:=S.len;refine⟨_,h4,bm,rfl,⟨_,SqL.of L.m⟩,λq hq=>?_⟩
 refine zaz (K:=K) (a:=bm) (xs:=rowV (lens R)) (λj σ H2=>∃o ts,σ=[o,some x]/\Same H H2/\H2 q=some (.lst ts)/\VR ts (R.take j) (λr v H=>∃c xs,v=.ref c/\c≠q/\H c=some (.lst (x::xs))/\xs=(As ((spo r).length-1)).map λi:Nat=>V.int ((1+i:Nat):Int)) H2)
  ⟨none,[],by simp[selSt,h11],Same.up hq,zaa,VR.nil⟩ (λj σ H2 _ ⟨_,_,_,s2,_⟩=>SqL.of (s2 _ _ L.m)) ?_ ?_
 .rintro j u σ H2 hj ⟨o,ts,rfl,s2,e2,hT⟩;have hjl:=(Ab.mp hj).1;rw[zaV]at hjl;have hu:=zdv (Aa hjl);rw[hj]at hu
  cases hu
  have hn:=zcY S.sum _ (AU hjl);have hjR:j<R.length:=by lia
  have e0:(lens R)[j]=(spo R[j]).length:=List.getElem_map _;refine gN ?_
  refine⟨_,rfl,(by show 1<=sizeLine;decide),λl1 hl1=>?_⟩;have s3:=Same.up (o:=.lst [x]) hl1;have e3:upd H2 l1 (.lst [x]) l1=some (.lst [x]):=zaa;generalize upd H2 l1 (.lst [x])=H3 at s3 e3 ⊢;refine⟨_,rfl,1,(lens R)[j],rfl,hn.1,by lia,λl2 hl2=>?_⟩;have s4:=Same.up (o:=.lst ((As ((lens R)[j] - 1)).map λi:Nat=>V.int ((1+i:Nat):Int))) hl2;have e4:upd H3 l2 (.lst ((As ((lens R)[j] - 1)).map λi:Nat=>V.int ((1+i:Nat):Int))) l2=some (.lst ((As ((lens R)[j] - 1)).map λi:Nat=>V.int ((1+i:Nat):Int))):=zaa;generalize upd H3 l2 (.lst ((As ((lens R)[j] - 1)).map λi:Nat=>V.int ((1+i:Nat):Int)))=H4 at s4 e4 ⊢;refine⟨l1,l2,_,_,rfl,rfl,s4 _ _ e3,e4,Bc (bigT (by simp;lia)),λl3 hl3=>?_⟩;have s5:=Same.up (o:=.lst ([x]++(As ((lens R)[j] - 1)).map λi:Nat=>V.int ((1+i:Nat):Int))) hl3;have e5:upd H4 l3 (.lst ([x]++(As ((lens R)[j] - 1)).map λi:Nat=>V.int ((1+i:Nat):Int))) l3=some (.lst ([x]++(As ((lens R)[j] - 1)).map λi:Nat=>V.int ((1+i:Nat):Int))):=zaa;generalize upd H4 l3 (.lst ([x]++(As ((lens R)[j] - 1)).map λi:Nat=>V.int ((1+i:Nat):Int)))=H5 at s5 e5 ⊢;have s25:=s3.trans (s4.trans s5);have hlq:l3≠q:=λz=>by rw[z,(s3.trans s4) _ _ e2]at hl3;cases hl3
  have hTl:=hT.1;rw[Aq]at hTl;refine⟨ts,s25 _ _ e2,zal (by lia),_,ts++[.ref l3],rfl,zas hq (s2.trans s25),zaa,?_⟩;rw[zau (Aa hjR)];exact VR.snoc hT (λx v ⟨c,xs,e,n1,h,h'⟩=>⟨c,xs,e,n1,by rw[zam n1];exact s25 _ _ h,h'⟩) ⟨l3,_,rfl,hlq,by rw[zam hlq];exact e5,by rw[e0];rfl⟩
 .rintro σ H2 ⟨o,ts,rfl,s2,e2,hT⟩;rw[A0 (by rw[zaV];lia)]at hT;refine k q ts H2 s2 e2 ?_
  have key:∀(ts:List V) (R:List Rnd),VR ts R (λr v H=>∃c xs,v=.ref c/\c≠q/\H c=some (.lst (x::xs))/\xs=(As ((spo r).length-1)).map λi:Nat=>V.int ((1+i:Nat):Int)) H2->DDs H2 ts (R.map (oddD xd)):=by
   intro ts
   induction ts with
   |nil=>intro R h;cases R with |nil=>exact .nil |cons _ _=>have:=h.1;cases this
   |cons v ts ih =>
    intro R h
    cases R with
    |nil=>have:=h.1;cases this
    |cons r R =>
     obtain⟨⟨c,xs,rfl,_,q1,rfl⟩,h2⟩:=VR.cons.mp h;refine .cons (.lst q1 (.cons (hx _) ?_)) (ih R h2);have:=DDs.row (H:=H2) ((As ((spo r).length-1)).map λi=>1+i);unfold rowV at this;rw[Cz,Cz]at this;exact this
  exact key ts R hT
theorem zlx{D:Ends}{i:Int}{o6 o7 o8 o9 o10 o11:Option V}(S:Sts R cs B)(L:Lw H p g bm us R)
  (k:∀o7 o11 H',Same H H'->D.nx [some (.ref a),some (.int i),some (.ref p),some (.ref g),some (.ref bm),some (.int B),o6,o7,o8,o9,o10,o11] H') :
  tFor (iList K (tLst (tCons (tC (V.bl false)) (tCons (tOp (rI0 λi j=>V.int (i-j)) (tC (V.int 0)) (tC (V.int 1))) (tCons (tC (V.bl true)) tNil))))) (gName 11) (tSeq (zho (iList K (tVar 4)) [none,some 11] (gName 0) (λx H Q=>Q true H) (tOp rCat (tLst (tCons (tVar 1) tNil)) (zgt (tCons (tC (V.int 1)) (tCons (tVar 0) tNil)))) 7) (tIfS (tTest (tOp rNe (tCall (zcf K) [] E0 (tCons (tVar 3) (tCons (tVar 5) (tCons (tVar 7) tNil)))) (tOp (rEqD K) (tVar 4) (tLst tNil)))) (tRet (tC (V.bl false))) tNext)) D [some (.ref a),some (.int i),some (.ref p),some (.ref g),some (.ref bm),some (.int B),o6,o7,o8,o9,o10,o11] H:=by
 refine⟨_,_,rfl,rfl,(by show 3<=sizeLine;decide),λl1 hl1=>?_⟩;have s1:=Same.up (o:=.lst [V.bl false,V.int (-1),V.bl true]) hl1;have e1:upd H l1 (.lst [V.bl false,V.int (-1),V.bl true]) l1=some (.lst [V.bl false,V.int (-1),V.bl true]):=zaa
 have all:∀v∈[V.bl false,V.int (-1),V.bl true],∃xd,(∀H,DD H v xd)/\(∀k:Nat,xd≠.int (k:Int))/\Nc xd 10 1:=λv hv=>by
  simp only[At,A9,or_false]at hv;rcases hv with rfl |rfl |rfl
  .exact⟨_,λH=>.bl false,(λk h=>by cases h),zea _⟩
  .exact⟨_,λH=>.int (-1),(λk h=>by injection h;lia),⟨by decide +kernel,by decide +kernel,rfl,by decide +kernel,by decide +kernel⟩⟩
  .exact⟨_,λH=>.bl true,(λk h=>by cases h),zea _⟩
 refine⟨l1,rfl,⟨_,SqL.of e1⟩,?_⟩;refine zaz (K:=K) (a:=l1) (xs:=[V.bl false,V.int (-1),V.bl true]) (λj σ H8=>∃o7 o11,σ=[some (.ref a),some (.int i),some (.ref p),some (.ref g),some (.ref bm),some (.int B),o6,o7,o8,o9,o10,o11]/\Same (upd H l1 (.lst [V.bl false,V.int (-1),V.bl true])) H8) ⟨_,_,rfl,Same.refl _⟩ (λj σ H8 _ ⟨_,_,_,s8⟩=>SqL.of (s8 _ _ e1)) ?_ ?_
 .rintro j v σ H8 hj ⟨o7,o11,rfl,s8⟩;obtain⟨xd,hx,hk,hnc⟩:=all v (Ag hj);have L8:=L.same (s1.trans s8);refine seq_c (zkq (K:=K) S L8 hx rfl rfl λl ts H9 s9 e9 hds=>?_);have L9:=L8.same s9
  have hro:zd1 (.list (R.map (oddD xd))):=zd0 (by rw[Af];have:=S.len;lia) λd hd=>by
   obtain⟨r,hr,rfl⟩:=AL.mp hd;have h1:=zb5 hr;have h2:=zaG r;have h3:=S.sum
   have h4:∀d∈xd::(As ((spo r).length-1)).map (λi:Nat=>PyData.int ((1+i:Nat):Int)),Nc d 10 1:=λd hd=>by
    rcases At.mp hd with z |z
    .rw[z];exact hnc
    .obtain⟨m,hm,rfl⟩:=AL.mp z;have:=Cs.mp hm;exact (zf6 (by lia)).le (Ah _) (by decide)
   have h5:=(Ncs.of h4).list;have h6:(xd::(As ((spo r).length-1)).map (λi:Nat=>PyData.int ((1+i:Nat):Int))).length<=60:=by rw[AO,Af,A4];lia
   exact⟨AF h6 (by decide),h5.le (by lia) (by decide)⟩
  refine⟨_,rfl,_,rfl,_,rfl,g,us,R,cs,B,.ref l,.list (R.map (oddD xd)),rfl,L9.g,L9.v,zfP S.rc S.len S.sum S.box,.lst e9 hds,hro,S.b0,S.b1,λbb H10 s10 hbb=>?_⟩;have L10:=L9.same s10;refine⟨_,rfl,(by show 0<=sizeLine;decide),λl2 hl2=>?_⟩;have s11:=Same.up (o:=.lst []) hl2;have e11:upd H10 l2 (.lst []) l2=some (.lst []):=zaa;generalize upd H10 l2 (.lst [])=H11 at s11 e11 ⊢;refine⟨.list ((lens R).map λn:Nat=>PyData.int n),.list [],.lst (SqL.of (L10.same s11).m) (DDs.row _).rds,.lst (SqL.of e11) .nil,?_,rfl,?_⟩
  .exact ((Ncs.of (zhz (lens R) λn hn=>by have:=zcY S.sum n hn;lia)).list).shaped (by decide)
  have hbe:bb=Dd (.list ((lens R).map λn:Nat=>PyData.int n)) (.list []):=by
   by_cases hR:R=[]
   .subst hR;exact hbb.mpr zk2
   .have h1:bb=false:=Bool.eq_false_iff.mpr λh=>zmg hk hR (hbb.mp h)
    rw[h1]
    cases R with
    |nil=>exact absurd rfl hR
    |cons r R=>rfl
  rw[<- hbe];refine⟨by cases bb <;> rfl,_,rfl,?_⟩;refine ite2 (λhy=>by simp at hy) (λ_=>?_);exact⟨_,_,rfl,s8.trans (s9.trans (s10.trans s11))⟩
 .rintro σ H8 ⟨o7,o11,rfl,s8⟩;exact k _ _ H8 (s1.trans s8)
end
theorem zkr:(1000001:Int).natAbs.log2<9000:=(Nat.log2_lt (by decide)).mpr (AD (show (1000001:Int).natAbs<2 ^ 20 by decide) (Nat.pow_le_pow_right (by decide) (by decide)))
theorem zi2{l:List Nat}{n:Nat}:rowV (l++[n])=rowV l++[.int (n:Int)]:=by unfold rowV;rw[Ax];rfl
section
variable {K:W.Frag}{R:List Rnd}{cs:List Cell}{H:Hp}{g:Addr}{us:List V}
theorem zlE{D:Ends}{σ : St}(hrc:∀r ∈ R, RndC cs r)(hl:R.length <= 40)(hs:(R.map (·.row.length)).sum <= 40)(hg:H g=some (.lst us))(hv:VR us R rR H)(h3 : σ[3]? = some (some (.ref g)))
  (k:∀bm H',Same H H'->H bm=none->H' bm=some (.lst (rowV (lens R)))->D.nx (σ.set 4 (some (.ref bm))) H') :
  zho (iList K (tVar 3)) [none] (gName 0) (λx H Q=>Q true H) (tCB (λxs H_1 Q=>∃p ys,xs=[V.ref p]/\(SqL K H_1 p ys∨SqT K H_1 p ys)/\Q (V.int ↑ys.length) H_1) (tCons (tCall (zce K) [] E0 (tCons (tVar 0) tNil)) tNil)) 4 D σ H:=by
 have hll:=zcL R;refine⟨_,h3,g,rfl,⟨_,SqL.of hg⟩,λq hq=>?_⟩;refine zaz (K:=K) (a:=g) (xs:=us) (λj σ H2=>∃o,σ=[o]/\Same H H2/\H2 q=some (.lst (rowV ((lens R).take j)))) ⟨none,rfl,Same.up hq,zaa⟩ (λj σ H2 _ ⟨_,_,s2,_⟩=>SqL.of (s2 _ _ hg)) ?_ ?_
 .rintro j u σ H2 hj ⟨o,rfl,s2,e2⟩;have hjl:=(Ab.mp hj).1;have hul:=hv.1;have hjR:j<R.length:=by lia
  have hr:=hv.2 j R[j] u (Aa hjR) hj;have hm:R[j]∈R:=AU hjR;have hlr:=zb5 hm;refine gN ?_
  refine⟨_,rfl,u,R[j],rfl,rR.kt hr (KT.of s2),(hrc _ hm).facts.2.2.1,by lia,λl H3 vs hl3 s3 e3 hv3=>?_⟩;refine⟨l,vs,rfl,.inl (SqL.of e3),rowV ((lens R).take j),s3 _ _ e2,zal (by rw[zaV,Aq];lia),_,rfl,zas hq (s2.trans s3),?_⟩
  have hL:(lens R)[j]?=some vs.length:=by unfold lens;rw[Az,Aa hjR,hv3.1];rfl
  rw[zau hL,zi2];exact zaa
 .rintro σ H2 ⟨o,rfl,s2,e2⟩;rw[A0 (by have:=hv.1;lia)]at e2;exact k q H2 s2 hq e2
end
noncomputable def spLaw(K:W.Frag):Sp:=λvs H Q _=>∃(a:Addr) (ns:List Int),vs=[.ref a]/\SqL K H a (ns.map V.int)/\ns.length<=63/\∀H',Q (.bl true) H'
theorem zmf (T:Txt P w K mg) (g__law_cell_at:Fn P w K mg base 1 "_law_cell_at" ["_law_script", "_law_k"] (zhk K)) (g__law_take:Tk P w K mg base) (g__law_few:Fn P w K mg base 8 "_law_few" ["_law_pen", "_law_most", "_law_steps"] (zkK K))
  (g__law_spots:Fn P w K mg base 1 "_law_spots" ["_law_one"] (zce K)) (g__law_corners:Fn P w K mg base 2 "_law_corners" ["_law_pen","_law_many"] (zc7 K)) (g__law_bent:Fn P w K mg base 2 "_law_bent" ["_law_pen","_law_thinning","_law_many"] (ziO K))
  (g__law_is_form:Fn P w K mg base 2 "_law_is_form" ["_law_thing","_law_many"] (zgx K)) (g__law_holds:Fn P w K mg base 3 "_law_holds" ["_law_some","_law_bound","_law_thinning"] (ze6 K)) (g_holds:Fn P w K mg base 5 "holds" ["some","bound","thing"] (zcf K))
  (d:Df K mg "law" s_law ["_law_script"]):FnOk P w K mg base CX0 9 d.f d.fd ["_law_script"] (spLaw K):=by
 refine d.F.ok zbT (λvs H Q E h=>?_) (λcdv A outer s H vs Q E hr h=>?_)
 .obtain⟨a,ns,rfl,_⟩:=h;rfl
 .obtain⟨a,ns,rfl,hS,hlen,k⟩:=h;have hu64:=hr.units;have hgd:=hr.gd;have hu70:(A.deeper (PyProof.Rows.envOfC (AR "law") (zae s_law) s.heap.objs.size d.f cdv)).units+70<cLine:=by have:=hr.un;lia
  have nb0:(["_law_one"]:List Str).Nodup:=by decide +kernel
  have nb1:(["_law_size","_law_pen"]:List Str).Nodup:=by decide +kernel
  have nb2:(["_law_size"]:List Str).Nodup:=by decide +kernel
  have nb3:(["_law_size","_law_odd"]:List Str).Nodup:=by decide +kernel
  have nb4:(["_law_size"]:List Str).Nodup:=by decide +kernel
  refine⟨_,(zad (zbq AY rfl (zca (by rfl) T.nrange (zag (zak (zjR rfl) (by rfl) T.nmax (by rfl) (pa_C zac (zag (zak (zjQ rfl) (by rfl) T.nmin (by rfl) (pa_C zac (zag (zak zan (by rfl) T.nlen (by rfl) (pa_N (pv 0) zab)) zab))) zab))) zab)) (nG 1 zbT.nd)
   (zad (zda (i:=2) zbT.nd (by rfl) (Or.inr rfl) (zaA (zag (pC g__law_cell_at hr (pa_N (pv 0) (pa_N (pv 1) zab))) (pa_C zac zab))))
   (zad (sE 3 zbT.nd (pC g__law_few hr (pa_N (pv 2) (pa_C zac (pa_C zac zab)))))
   (zad (zhs (i:=4) (osc:=zae s_law) (N:=N_law) (N':=["_law_one"]) (sel:=[none]) bO zbT.nd (by rfl) (Or.inl rfl) (zaM (pv 3)) (λ_ _ _ _ _=>(nG 0 nb0)) (λ_ _ _ _ _=>zaL) (λ_ _ _ _ _=>(zak (zfw (K:=K)) (by rfl) T.nlen (by rfl) (zag (pC g__law_spots hr (pa_N (pv 0) zab)) zab))))
   (zad (sE 5 zbT.nd (pe_ix zat (zaA (pa_C zac (zag (pC g__law_take hr (pa_N (pv 2) (pa_C zac zab))) (zag (pC g__law_take hr (pa_N (pv 2) (pa_C zac zab))) (zag (pC g__law_take hr (pa_N (pv 2) (pa_C zac zab))) zab))))) (pC g__law_take hr (pa_N (pv 2) (pa_C zac zab))) (λ_ _=>rfl)))
   (zad (zbq AY rfl (zca (by rfl) T.nrange (pa_C zac zab)) (nG 6 zbT.nd)
   (zad (sE 7 zbT.nd (pC g__law_bent hr (pa_N (pv 2) (zag (zaF (osc:=zae s_law) (N:=N_law) (N':=["_law_size","_law_pen"]) (sel:=[none,some 2]) bO (zaM (pv 4)) (λ_ _ _ _ _=>(nG 0 nb1)) (λ_ _ _ _ _=>zaL) (λ_ _ _ _ _=>(pC g__law_corners hr (pa_N (pv 1) (pa_N (pv 0) zab))))) (pa_N (pv 4) zab)))))
   (zad (sE 8 zbT.nd (zd3 (pC g__law_is_form hr (pa_N (pv 7) (pa_N (pv 4) zab))) (zd2 (pC g__law_holds hr (pa_N (pv 3) (pa_N (pv 5) (pa_N (pv 7) zab)))))))
   (zad (sE 9 zbT.nd (zak (ze1 hgd hu70) (by rfl) T.nrepr (by rfl) (zag (zaA (pa_N (pv 7) (pa_N (pv 3) zab))) zab)))
   (zad (sE 10 zbT.nd (pC g_holds hr (pa_N (pv 3) (pa_N (pv 5) (pa_N (pv 7) zab)))))
   (zaf (ps_if (pw_or (zcs (zbA (zak zbE (by rfl) T.nisinstance (by rfl) (pa_N (pv 10) (pa_N (zcm (v:=.ty "bool") (by rfl) T.nbool (by rfl) rfl) zab))))) (pw_or (zav op_ne (pv 10) (pv 8) (zaq _)) (zdB (zav op_ne (zak (ze1 hgd hu70) (by rfl) T.nrepr (by rfl) (zag (zaA (pa_N (pv 7) (pa_N (pv 3) zab))) zab)) (pv 9) (zaq _))))).pt
   (zaf (zaj pe_bl))
   zaw)))))))
   (zad (zbq AY rfl (zaM (zaA (pa_C zdE (pa_C zac (pa_C zfW (pa_T (za8 zab) (zag (zbx zco (by rfl) T.ntuple (by rfl) (zag (zaF (osc:=zae s_law) (N:=N_law) (N':=["_law_size"]) (sel:=[none]) bO (zaM (pv 4)) (λ_ _ _ _ _=>(nG 0 nb2)) (λ_ _ _ _ _=>zaL) (λ_ _ _ _ _=>(zeT (by rfl) T.nlist (by rfl) T.nrange (pa_N (pv 0) zab)))) zab)) (pa_B (pe_op zmc (zaA (zag (zaA zab) zab)) (pe_op zaK (zak zan (by rfl) T.nlen (by rfl) (pa_N (pv 4) zab)) zac)) zab)))))))) (nG 7 zbT.nd)
   (zaf (ps_if (zav zjd (pC g_holds hr (pa_N (pv 3) (pa_N (pv 5) (pa_N (pv 7) zab)))) pe_bl (zaq _))
   (zaf (zaj pe_bl))
   zaw)))
   (zad (zbq AY rfl (zaM (zaA (pa_C pe_bl (pa_B (pe_op zay zac zac) (pa_C pe_bl zab))))) (zfh (i:=11) zbT.nd (by rfl) (Or.inr rfl))
   (zad (zhs (i:=7) (osc:=zae s_law) (N:=N_law) (N':=["_law_size","_law_odd"]) (sel:=[none,some 11]) bO zbT.nd (by rfl) (Or.inl rfl) (zaM (pv 4)) (λ_ _ _ _ _=>(nG 0 nb3)) (λ_ _ _ _ _=>zaL) (λ_ _ _ _ _=>(pe_op za5 (zaA (pa_N (pv 1) zab)) (zgG (by rfl) T.nlist (by rfl) T.nrange (pa_C zac (pa_N (pv 0) zab))))))
   (zaf (ps_if (zav op_ne (pC g_holds hr (pa_N (pv 3) (pa_N (pv 5) (pa_N (pv 7) zab)))) (zaQ (zje hu64) (pv 4) (zaA zab) (zaq _)) (zaq _))
   (zaf (zaj pe_bl))
   zaw))))
   (zaf (ps_if (zav zjd (pC g_holds hr (pa_N (pv 3) (pa_N (pv 5) (zag (zaF (osc:=zae s_law) (N:=N_law) (N':=["_law_size"]) (sel:=[none]) bO (zaM (pv 4)) (λ_ _ _ _ _=>(nG 0 nb4)) (λ_ _ _ _ _=>zaL) (λ_ _ _ _ _=>(zeT (by rfl) T.nlist (by rfl) T.nrange (pa_N (pv 0) zab)))) zab)))) pe_bl (zaq _))
   (zaf (zaj pe_bl))
   zaw))))))))))
   (zaf (zaj pe_bl))),?_⟩
  refine⟨_,rfl,a,_,rfl,.inl hS,_,_,rfl,_,_,rfl,_,rfl,?_,?_,?_⟩
  .split <;> lia
  .split
   .split <;> lia
   .decide
  refine zbd (lo:=0) (λi σ H5=>∃o1 o2 o3 o4 o5 o6 o7 o8 o9 o10 o11,σ=[some (.ref a),o1,o2,o3,o4,o5,o6,o7,o8,o9,o10,o11]/\Same H H5) ⟨_,_,_,_,_,_,_,_,_,_,_,rfl,Same.refl _⟩ ?_ ?_
  .rintro i σ H5 hi ⟨o1,o2,o3,o4,o5,o6,o7,o8,o9,o10,o11,rfl,s5⟩;refine⟨_,rfl,_,rfl,a,ns,i,(by rw[show ((0:Int)+(i:Int))=(i:Int) by lia];rfl),s5.seq hS,λc=>⟨two,λp hp=>?_⟩⟩;have hp0:H p=none:=s5.free hp;have sp:Same H (upd H5 p (.lst [.int c,.int 0])):=s5.trans (Same.up hp);have pen0:HasB (upd H5 p (.lst [.int c,.int 0])) p 200000:=⟨c,0,zaa,by decide,by decide⟩;generalize upd H5 p (.lst [.int c,.int 0])=H6 at sp pen0;refine⟨_,rfl,p,150000,40,40,rfl,pen0.le (by lia),by decide,by decide,by decide,λg cs R us H8 hg b8 p8 e8 hv8 hrc hRl hsum hbox hcb=>?_⟩;have s08:Same H H8:=λz o h=>b8 z o (zao h hp0) (sp z o h)
   have hgp:g≠p:=λz=>by obtain⟨c0,t0,e0,_⟩:=pen0;rw[z,e0]at hg;cases hg
   refine seq_c (zlE (K:=K) hrc hRl hsum e8 hv8 rfl λbm H9 s9 hbm e9=>?_)
   have hmp:bm≠p:=λz=>by obtain⟨c0,t0,e0,_⟩:=p8;rw[z,e0]at hbm;cases hbm
   have p9:=p8.same s9;refine⟨_,rfl,p,149999,5,rfl,p9.le (by lia),by decide,zaD (by decide) (by decide),λr1 H10 r10 r11 b10 p10=>?_⟩;refine⟨_,rfl,p,149998,60,rfl,p10.le (by lia),by decide,zaD (by decide) (by decide),λr2 H11 r20 r21 b11 p11=>?_⟩;refine⟨_,rfl,p,149997,1000001,rfl,p11.le (by lia),by decide,zkr,λr3 H12 r30 r31 b12 p12=>?_⟩;refine⟨(by show 4<=sizeLine;decide),λl4 hl4=>?_⟩;have s13:=Same.up (o:=.lst [.int 0,.int r1,.int r2,.int r3]) hl4;have e13:upd H12 l4 (.lst [.int 0,.int r1,.int r2,.int r3]) l4=some (.lst [.int 0,.int r1,.int r2,.int r3]):=zaa;generalize upd H12 l4 (.lst [.int 0,.int r1,.int r2,.int r3])=H13 at s13 e13 ⊢
   have hl4p:l4≠p:=λz=>by obtain⟨c0,t0,e0,_⟩:=p12;rw[z,e0]at hl4;cases hl4
   refine⟨_,rfl,p,149996,4,rfl,(p12.same s13).le (by lia),by decide,zaD (by decide) (by decide),λq H14 q0 q1 b14 p14=>?_⟩
   obtain⟨B,hB,B0,B1⟩:∃B:Int,atI [V.int 0,V.int r1,V.int r2,V.int r3] q=some (.int B)/\0<=B/\B<=1000000:=by
    have:q=0∨q=1∨q=2∨q=3:=by lia
    rcases this with rfl |rfl |rfl |rfl
    .exact⟨0,rfl,by lia,by lia⟩
    .exact⟨r1,rfl,by lia,by lia⟩
    .exact⟨r2,rfl,by lia,by lia⟩
    .exact⟨r3,rfl,by lia,by lia⟩
   refine⟨l4,_,_,_,rfl,rfl,SqL.of (b14 _ _ hl4p e13),hB,?_⟩;have b914:But H9 H14 p:=λz o hz h=>b14 _ _ hz (s13 _ _ (b12 _ _ hz (b11 _ _ hz (b10 _ _ hz h))))
   have S:Sts R cs B:=⟨hrc,hRl,hsum,hbox,hcb,B0,B1⟩;have L9:Lw H9 p g bm us R:=⟨hgp,hmp,s9 _ _ e8,hv8.mono (λx v h=>rR.kt h (KT.of s9)),e9,let ⟨c,t,e,_⟩:=p9;⟨c,t,e⟩⟩;have L14:=L9.but b914 p14;have s14:Same H H14:=λz o h=>b914 _ _ (zao h hp0) (s9 _ _ (s08 _ _ h))
   have hp14:H p=none:=hp0;clear b914 L9 b14 b12 b11 b10 s13 e13 hB p12 p11 p10;refine⟨3,rfl,by decide,by decide,?_⟩;refine zbd (lo:=0) (λj σ H2=>∃o6 o7 o8 o9 o10 o11,σ=[some (.ref a),some (.int (0+(i:Int))),some (.ref p),some (.ref g),some (.ref bm),some (.int B),o6,o7,o8,o9,o10,o11]/\But H14 H2 p/\HasB H2 p (80000+(3-j)*21000)) ⟨_,_,_,_,_,_,rfl,(λz o _ h=>h),p14.le (by lia)⟩ ?_ ?_
   .rintro j σ H2 hj ⟨o6,o7,o8,o9,o10,o11,rfl,b2,p2⟩;have hj3:j<3:=hj;have e3:(3-j)*21000=(3-(j+1))*21000+21000:=by lia
    refine zk6 (K:=K) (n:=80000+(3-(j+1))*21000) S (L14.but b2 p2) (p2.le (by lia)) λo7 o8 o9 o10 H3 b3 p3=>?_
    exact⟨_,_,_,_,_,_,rfl,b2.trans b3,p3⟩
   .rintro σ H2 ⟨o6,o7,o8,o9,o10,o11,rfl,b2,p2⟩;have L2:=L14.but b2 p2;refine ziz (K:=K) S L2 λo7 H3 s3=>?_
    refine zlx (K:=K) S (L2.same s3) λo7 o11 H4 s4=>?_
    refine zlH (K:=K) S ((L2.same s3).same s4) λH5 s5=>?_
    exact⟨_,_,_,_,_,_,_,_,_,_,_,rfl,λz o h=>(s3.trans (s4.trans s5)) _ _ (b2 _ _ (zao h hp0) (s14 _ _ h))⟩
  .rintro σ H5 ⟨o1,o2,o3,o4,o5,o6,o7,o8,o9,o10,o11,rfl,s5⟩;exact k H5
end
theorem all_mk {l:W.OpenLaw}{w:A1}{K:W.Frag}{h:Heap}{mg:Str -> Option Ad}{fa:Addr}(X:K.In h) (G:h.Ns AI mg) (hfa:mg "law" = some (.ref fa)){fx53:Addr}{od53 an53:Option Addr}{sl53:Array (Option Ad)}{oc53 kV53 dc53 pm53 ct53 cd53:Ad}
  (h0:DA K "cell_order" zcy)
  (h1:DA K "ask_picture" zcj)
  (h2:DA K "gone" ziY)
  (h3:DA K "cell_table" zbV)
  (h4:DA K "gap_beside" zcx)
  (h5:DA K "all_edges" zbL)
  (h6:DA K "straight_step" zbK)
  (h7:DA K "slant_step" zcw)
  (h8:DA K "step_behind" zcg)
  (h9:DA K "is_slant" zdq)
  (h10:DA K "edge_behind" zci)
  (h11:DA K "walk_from" zcU)
  (h12:DA K "lefts_and_slants" zaU)
  (h13:DA K "lefts_less_slants" zbf)
  (h14:DA K "sort_of" zdW)
  (h15:DA K "begin_of" zcI)
  (h16:DA K "round_of" zbF)
  (h17:DA K "round_order" zch)
  (h18:DA K "rounds_along" zb0)
  (h19:DA K "rounds" zfe)
  (h20:DA K "is_whole" zdp)
  (h21:DA K "along" zgD)
  (h22:DA K "across" zff)
  (h23:DA K "is_close" zdr)
  (h24:DA K "do_part" zdZ)
  (h25:DA K "do_cross" zds)
  (h26:DA K "spots_of" zdo)
  (h27:DA K "ends_of" zdY)
  (h28:DA K "side_between" zbZ)
  (h29:DA K "is_stretch_near" za7)
  (h30:DA K "is_near" zc9)
  (h31:DA K "sides_of" zcH)
  (h32:DA K "all_sides" zck)
  (h33:DA K "are_corners" zbn)
  (h34:DA K "is_thinning" zbD)
  (h35:DA K "holds" zdX)
  (h36:DA K "_law_cell_at" zb4)
  (h37:DA K "_law_take" zcV)
  (h38:DA K "_law_far" zdu)
  (h39:DA K "_law_is_there" zbM)
  (h40:DA K "_law_picture" zb2)
  (h41:DA K "_law_spots" zaW)
  (h42:DA K "_law_is_close" zbN)
  (h43:DA K "_law_is_near" zb3)
  (h44:DA K "_law_side_of" zb1)
  (h45:DA K "_law_do_cross" zbO)
  (h46:DA K "_law_sides" zbW)
  (h47:DA K "_law_holds" zbw)
  (h48:DA K "_law_few" zdt)
  (h49:DA K "_law_corners" zbt)
  (h50:DA K "_law_bent" zcl)
  (h51:DA K "_law_whole" zcz)
  (h52:DA K "_law_is_form" zbc)
  (a53:Ct K AI "law" = some (some (.ref fx53))) (l53:K.lookup fx53=some ⟨oc53,od53,.func (Cw "law" "law" (za1 s_law) (zaR s_law) (zae s_law) .none kV53 dc53 pm53 an53 cd53 ct53),sl53⟩) (c53:W.codeIn K cd53 "law" = true) (k53:W.keepIn K (.ref fx53)=true)
  {M m0 m1 m2 m3 m4 m5 m6 m7:Addr}{odM:Option Addr}{nM:Nat}{slM:Array (Option Ad)}
  (aM:Ct K AI "MOVES" = some (some (.ref M))) (lM:K.lookup M=some ⟨.type "tuple",odM,.seq #[.ref m0,.ref m1,.ref m2,.ref m3,.ref m4,.ref m5,.ref m6,.ref m7] nM,slM⟩)
  {odm0:Option Addr}{nm0:Nat}{slm0:Array (Option Ad)}{tm0 um0:Tok} (x0:K.lookup m0=some ⟨.type "tuple",odm0,.seq #[.int (1) tm0,.int (0) um0] nm0,slm0⟩)
  {odm1:Option Addr}{nm1:Nat}{slm1:Array (Option Ad)}{tm1 um1:Tok} (x1:K.lookup m1=some ⟨.type "tuple",odm1,.seq #[.int (1) tm1,.int (1) um1] nm1,slm1⟩)
  {odm2:Option Addr}{nm2:Nat}{slm2:Array (Option Ad)}{tm2 um2:Tok} (x2:K.lookup m2=some ⟨.type "tuple",odm2,.seq #[.int (0) tm2,.int (1) um2] nm2,slm2⟩)
  {odm3:Option Addr}{nm3:Nat}{slm3:Array (Option Ad)}{tm3 um3:Tok} (x3:K.lookup m3=some ⟨.type "tuple",odm3,.seq #[.int (-1) tm3,.int (1) um3] nm3,slm3⟩)
  {odm4:Option Addr}{nm4:Nat}{slm4:Array (Option Ad)}{tm4 um4:Tok} (x4:K.lookup m4=some ⟨.type "tuple",odm4,.seq #[.int (-1) tm4,.int (0) um4] nm4,slm4⟩)
  {odm5:Option Addr}{nm5:Nat}{slm5:Array (Option Ad)}{tm5 um5:Tok} (x5:K.lookup m5=some ⟨.type "tuple",odm5,.seq #[.int (-1) tm5,.int (-1) um5] nm5,slm5⟩)
  {odm6:Option Addr}{nm6:Nat}{slm6:Array (Option Ad)}{tm6 um6:Tok} (x6:K.lookup m6=some ⟨.type "tuple",odm6,.seq #[.int (0) tm6,.int (-1) um6] nm6,slm6⟩)
  {odm7:Option Addr}{nm7:Nat}{slm7:Array (Option Ad)}{tm7 um7:Tok} (x7:K.lookup m7=some ⟨.type "tuple",odm7,.seq #[.int (1) tm7,.int (-1) um7] nm7,slm7⟩)
  {B:Addr}{t1 t2 t3 t4:Tok}{nB:Nat} (aB:Ct K AI "BEGIN_WAYS" = some (some (.ref B))) (lB:K.lookup B=some ⟨.type "dict",none,.dict #[⟨B5 w.params "rim",.str "rim" t1,.int 0 t2⟩,⟨B5 w.params "hole",.str "hole" t3,.int 2 t4⟩] nB,#[]⟩)
  (z_any:Ct K AI "any" = some none)
  (z_enumerate:Ct K AI "enumerate" = some none)
  (z_range:Ct K AI "range" = some none)
  (z_len:Ct K AI "len" = some none)
  (z_min:Ct K AI "min" = some none)
  (z_max:Ct K AI "max" = some none)
  (z_sorted:Ct K AI "sorted" = some none)
  (z_tuple:Ct K AI "tuple" = some none)
  (z_int:Ct K AI "int" = some none)
  (z_bool:Ct K AI "bool" = some none)
  (z_abs:Ct K AI "abs" = some none)
  (z_all:Ct K AI "all" = some none)
  (z_isinstance:Ct K AI "isinstance" = some none)
  (z_list:Ct K AI "list" = some none)
  (z_zip:Ct K AI "zip" = some none)
  (z_repr:Ct K AI "repr" = some none) :
  ∃fd:Bs,(∀(s:Ae) (v:Ad),BindsTo s fd ⟨[v],[]⟩ [("_law_script",v)])/\∀base:Heap,K.In base->base.Ns AI mg->FnOk l.prog w K mg base CX0 9 fa fd ["_law_script"] (spLaw K):=by
 have e:=hfa.symm.trans (W.mg_of X G a53)
 cases e
 have moves:∃M,mg "MOVES" = some (.ref M)/\∀H,∃ms:List Addr,SqT K H M (ms.map V.ref)/\ms.length=8/\∀(i:Nat) a,ms[i]?=some a->SqT K H a [.int (mv i).1,.int (mv i).2]:=by
  refine⟨M,W.mg_of X G aM,λH=>⟨[m0,m1,m2,m3,m4,m5,m6,m7],.inr ⟨_,_,_,lM,rfl,rfl,(by show 8<=sizeLine;decide),.cons rfl (.cons rfl (.cons rfl (.cons rfl (.cons rfl (.cons rfl (.cons rfl (.cons rfl .nil)))))))⟩,rfl,λi a e=>?_⟩⟩
  match i,e with
  | 0,e=>cases e;exact .inr ⟨_,_,_,x0,rfl,rfl,(by show 2<=sizeLine;decide),.cons ⟨_,rfl⟩ (.cons ⟨_,rfl⟩ .nil)⟩
  | 1,e=>cases e;exact .inr ⟨_,_,_,x1,rfl,rfl,(by show 2<=sizeLine;decide),.cons ⟨_,rfl⟩ (.cons ⟨_,rfl⟩ .nil)⟩
  | 2,e=>cases e;exact .inr ⟨_,_,_,x2,rfl,rfl,(by show 2<=sizeLine;decide),.cons ⟨_,rfl⟩ (.cons ⟨_,rfl⟩ .nil)⟩
  | 3,e=>cases e;exact .inr ⟨_,_,_,x3,rfl,rfl,(by show 2<=sizeLine;decide),.cons ⟨_,rfl⟩ (.cons ⟨_,rfl⟩ .nil)⟩
  | 4,e=>cases e;exact .inr ⟨_,_,_,x4,rfl,rfl,(by show 2<=sizeLine;decide),.cons ⟨_,rfl⟩ (.cons ⟨_,rfl⟩ .nil)⟩
  | 5,e=>cases e;exact .inr ⟨_,_,_,x5,rfl,rfl,(by show 2<=sizeLine;decide),.cons ⟨_,rfl⟩ (.cons ⟨_,rfl⟩ .nil)⟩
  | 6,e=>cases e;exact .inr ⟨_,_,_,x6,rfl,rfl,(by show 2<=sizeLine;decide),.cons ⟨_,rfl⟩ (.cons ⟨_,rfl⟩ .nil)⟩
  | 7,e=>cases e;exact .inr ⟨_,_,_,x7,rfl,rfl,(by show 2<=sizeLine;decide),.cons ⟨_,rfl⟩ (.cons ⟨_,rfl⟩ .nil)⟩
  |i+8,e=>exact absurd (Ab.mp e).1 (by simp)
 have ways:Ways l.prog w K mg:=⟨⟨B,t1,t2,t3,t4,nB,W.mg_of X G aB,lB⟩⟩;have T:Txt l.prog w K mg:={ moves:=moves,ways:=ways,nany:=Br X G z_any,nenumerate:=Br X G z_enumerate,nrange:=Br X G z_range,nlen:=Br X G z_len,nmin:=Br X G z_min,nmax:=Br X G z_max,nsorted:=Br X G z_sorted,ntuple:=Br X G z_tuple,nint:=Br X G z_int,nbool:=Br X G z_bool,nabs:=Br X G z_abs,nall:=Br X G z_all,nisinstance:=Br X G z_isinstance,nlist:=Br X G z_list,nzip:=Br X G z_zip,nrepr:=Br X G z_repr };obtain⟨d'0⟩:=h0.d1 X G (p0:="cell");obtain⟨d'1⟩:=h1.d1 X G (p0:="picture");obtain⟨d'2⟩:=h2.d3 X G (p0:="x") (p1:="y") (p2:="step");obtain⟨d'3⟩:=h3.d1 X G (p0:="picture");obtain⟨d'4⟩:=h4.d1 X G (p0:="edge");obtain⟨d'5⟩:=h5.d1 X G (p0:="picture");obtain⟨d'6⟩:=h6.d1 X G (p0:="way");obtain⟨d'7⟩:=h7.d1 X G (p0:="way");obtain⟨d'8⟩:=h8.d2 X G (p0:="table") (p1:="edge");obtain⟨d'9⟩:=h9.d1 X G (p0:="step");obtain⟨d'a⟩:=h10.d2 X G (p0:="edge") (p1:="step");obtain⟨d'b⟩:=h11.d2 X G (p0:="table") (p1:="begin");obtain⟨d'c⟩:=h12.d1 X G (p0:="walk");obtain⟨d'd⟩:=h13.d1 X G (p0:="walk");obtain⟨d'e⟩:=h14.d1 X G (p0:="walk");obtain⟨d'f⟩:=h15.d2 X G (p0:="walk") (p1:="sort");obtain⟨d'10⟩:=h16.d1 X G (p0:="walk");obtain⟨d'11⟩:=h17.d1 X G (p0:="one");obtain⟨d'12⟩:=h18.d2 X G (p0:="table") (p1:="edges");obtain⟨d'13⟩:=h19.d1 X G (p0:="picture");obtain⟨d'14⟩:=h20.d1 X G (p0:="thing");obtain⟨d'15⟩:=h21.d3 X G (p0:="start") (p1:="one") (p2:="other");obtain⟨d'16⟩:=h22.d3 X G (p0:="start") (p1:="one") (p2:="other");obtain⟨d'17⟩:=h23.d3 X G (p0:="cell") (p1:="side") (p2:="bound");obtain⟨d'18⟩:=h24.d3 X G (p0:="side") (p1:="one") (p2:="other");obtain⟨d'19⟩:=h25.d2 X G (p0:="one") (p1:="other");obtain⟨d'1a⟩:=h26.d1 X G (p0:="one");obtain⟨d'1b⟩:=h27.d2 X G (p0:="spots") (p1:="corners");obtain⟨d'1c⟩:=h28.d3 X G (p0:="spots") (p1:="start") (p2:="end");obtain⟨d'1d⟩:=h29.d4 X G (p0:="spots") (p1:="bound") (p2:="start") (p3:="end");obtain⟨d'1e⟩:=h30.d3 X G (p0:="one") (p1:="bound") (p2:="corners");obtain⟨d'1f⟩:=h31.d2 X G (p0:="one") (p1:="corners");obtain⟨d'20⟩:=h32.d2 X G (p0:="some") (p1:="thinning");obtain⟨d'21⟩:=h33.d2 X G (p0:="one") (p1:="thing");obtain⟨d'22⟩:=h34.d2 X G (p0:="some") (p1:="thing");obtain⟨d'23⟩:=h35.d3 X G (p0:="some") (p1:="bound") (p2:="thing");obtain⟨d'24⟩:=h36.d2 X G (p0:="_law_script") (p1:="_law_k");obtain⟨d'25⟩:=h37.d2 X G (p0:="_law_pen") (p1:="_law_base");obtain⟨d'26⟩:=h38.d1 X G (p0:="_law_pen");obtain⟨d'27⟩:=h39.d6 X G (p0:="_law_pen") (p1:="_law_way") (p2:="_law_x") (p3:="_law_y") (p4:="_law_wide") (p5:="_law_high");obtain⟨d'28⟩:=h40.d2 X G (p0:="_law_pen") (p1:="_law_most");obtain⟨d'29⟩:=h41.d1 X G (p0:="_law_one");obtain⟨d'2a⟩:=h42.d4 X G (p0:="_law_cell") (p1:="_law_one") (p2:="_law_other") (p3:="_law_bound");obtain⟨d'2b⟩:=h43.d3 X G (p0:="_law_one") (p1:="_law_bound") (p2:="_law_corners_here");obtain⟨d'2c⟩:=h44.d3 X G (p0:="_law_one") (p1:="_law_other") (p2:="_law_cell");obtain⟨d'2d⟩:=h45.d2 X G (p0:="_law_one") (p1:="_law_other");obtain⟨d'2e⟩:=h46.d2 X G (p0:="_law_some") (p1:="_law_thinning");obtain⟨d'2f⟩:=h47.d3 X G (p0:="_law_some") (p1:="_law_bound") (p2:="_law_thinning");obtain⟨d'30⟩:=h48.d3 X G (p0:="_law_pen") (p1:="_law_most") (p2:="_law_steps");obtain⟨d'31⟩:=h49.d2 X G (p0:="_law_pen") (p1:="_law_many");obtain⟨d'32⟩:=h50.d3 X G (p0:="_law_pen") (p1:="_law_thinning") (p2:="_law_many");obtain⟨d'33⟩:=h51.d1 X G (p0:="_law_thing");obtain⟨d'34⟩:=h52.d2 X G (p0:="_law_thing") (p1:="_law_many");have F53:=zcC (st:=s_law) l53 c53 k53;have b53:=F53.b1 (p0:="_law_script");refine⟨Cw "law" "law" (za1 s_law) (zaR s_law) (zae s_law) .none kV53 dc53 pm53 an53 cd53 ct53,λs v=>.of_eq rfl,λbase _ _=>?_⟩;have fn:∀{k:Nat}{x:Str}{s:Stmt}{ps:List Str}{sp:Sp} (d:Df K mg x s ps),FnOk l.prog w K mg base CX0 k d.f d.fd ps sp->Fn l.prog w K mg base k x ps sp:=λd h=>d.fn h
 have g'35:=fn d'0 (zfm d'0);have g'36:=fn d'2 (zlv T d'2);have g'37:=fn d'6 (zdL d'6);have g'38:=fn d'7 (zfj d'7);have g'39:=fn d'9 (zgP d'9);have g'3a:=fn d'4 (zfk g'36 d'4);have g'3b:=fn d'1 (zeC T g'35 d'1);have g'3c:=fn d'3 (zfl d'3);have g'3d:=fn d'8 (zes g'36 g'38 g'37 d'8);have g'3e:=fn d'a (zeB g'36 g'39 d'a);have g'3f:=fn d'5 (zf5 T g'3c g'3a d'5);have g'40:=fn d'b (zfZ g'3d g'3e d'b);have g'41:=fn d'c (zcW T g'39 d'c);have g'42:=fn d'd (zcO g'41 d'd);have g'43:=fn d'e (zia g'42 d'e);have g'44:=fn d'f (zgS T g'35 d'f);have g'45:=fn d'10 (zgK T g'43 g'44 d'10);have g'46:=fn d'11 (zet d'11);have g'47:=fn d'12 (zd5 T g'40 g'45 g'46 d'12);have g'48:=fn d'13 (zjf T g'3b g'3c g'3f g'47 d'13);have g'49:=fn d'15 (zko d'15);have g'4a:=fn d'16 (zjg d'16);have g'4b:=fn d'17 (zgQ g'49 g'4a d'17);have g'4c:=fn d'1a (zgI g'36 d'1a);have g'4d:=fn d'1b (zid T d'1b);have g'4e:=fn d'1c (zd4 T d'1c);have g'4f:=fn d'1d (zdc T g'4e g'4b d'1d);have g'50:=fn d'1e (zic T g'4c g'4f g'4d d'1e);have g'51:=fn d'18 (zie g'4a d'18);have g'52:=fn d'19 (zgR g'51 d'19);have g'53:=fn d'1f (zgJ T g'4c g'4d g'4e d'1f);have g'54:=fn d'20 (zf4 T g'53 d'20);have g'55:=fn d'14 (zgO T d'14);have g'56:=fn d'21 (zeD T g'55 g'4c d'21);have g'57:=fn d'22 (zeA T g'56 d'22);have g'58:=fn d'23 (zkn T g'57 g'50 g'54 g'52 d'23);have g'59:=fn d'24 (zez T d'24);have g'5a:=fn d'25 (tk_of (zgL T d'25));have g'5b:=fn d'26 (zib g'5a d'26);have g'5c:=fn d'27 (zd6 T g'5a d'27);have g'5d:=fn d'28 (zev T g'5a g'5b g'5c d'28);have g'5e:=fn d'29 (zf1 d'29);have g'5f:=fn d'2a (zd7 d'2a);have g'60:=fn d'2b (zew T g'5e g'5f d'2b);have g'61:=fn d'2c (zeu T d'2c);have g'62:=fn d'2d (zd8 g'61 d'2d);have g'63:=fn d'2e (zf2 T g'5e d'2e);have g'64:=fn d'2f (zf3 T g'60 g'63 g'62 d'2f);have g'65:=fn d'30 (zgM T g'48 g'5d d'30);have g'66:=fn d'31 (zey T g'5a d'31);have g'67:=fn d'32 (zgN T g'5a d'32);have g'68:=fn d'33 (zf0 T d'33);have g'69:=fn d'34 (zex T g'68 d'34);exact zmf T g'59 g'5a g'65 g'5e g'66 g'67 g'69 g'64 g'58 ⟨_,_,F53,W.mg_of X G a53,b53⟩
theorem walk{l:W.OpenLaw}{q:AK}{loose:List Str}{XP:(Str -> Option Ad) -> Heap -> Prop}{YP:A1 -> Heap -> Prop}{d:DefRec}{K:Params -> W.Frag}(hn:l.most=some 63)(hdf:d.params.defaults = [])
  (hY:∀(w:A1) (h:Heap),YP w h->(K w.params).In h)
  (F:∀(w:A1) (mg:Str->Option Ad) (fa:Addr) (h:Heap),(K w.params).In h->h.Ns AI mg->mg d.name=some (.ref fa) ->
   ∃fd:Bs,(∀(s:Ae) (u:Ad),BindsTo s fd ⟨[u],[]⟩ [("_law_script",u)])/\∀base:Heap,(K w.params).In base->base.Ns AI mg->FnOk l.prog w (K w.params) mg base CX0 9 fa fd ["_law_script"] (spLaw (K w.params))) :
  W.WalkO q loose XP YP l.row.toRowW d [] (λf vs=>PySem.call f vs) :=
 L2.walk_of (n:=63) (k:=9) (x:="_law_script") (CX:=λ_=>CX0) (sp:=λw=>spLaw (K w.params)) hn (by decide) hdf ⟨rfl,by decide,by decide,rfl⟩ hY F (λ_ _ a ns hl _ hS=>⟨a,ns,rfl,hS,hl,λ_=>rfl⟩) λ_ _ _ _ _ z=>z
end RR
namespace PySem.W.Fast
noncomputable def tw5167959532299683387:=()
noncomputable def tw8360663991326261802:=()
noncomputable def tw11072325829258730361:=()
noncomputable def tw2941780388756955948:=()
noncomputable def tw2033592900140972374:=()
noncomputable def tw7315445894743595203:=()
noncomputable def tw3894191838531224613:=()
noncomputable def tw10662415670544337825:=()
noncomputable def tw17371585827400123096:=()
noncomputable def tw1232723014756546772:=()
noncomputable def tw13754053606681651632:=()
noncomputable def tw4555959646604708031:=()
noncomputable def tw8295173263801696715:=()
noncomputable def tw17921026167403735576:=()
noncomputable def tw7077956869078297410:=()
noncomputable def tw12358086241444591839:=()
noncomputable def tw14265217844749223171:=()
noncomputable def tw18172712716401574536:=()
noncomputable def tw74092724757026455:=()
noncomputable def tw3065224327048919351:=()
noncomputable def tw8598455230283474418:=()
noncomputable def tw2756517927146463522:=()
noncomputable def tw11351721968262367455:=()
noncomputable def tw16053718386807836454:=()
noncomputable def tw18345023598964165383:=()
noncomputable def tw18293351776344982168:=()
noncomputable def tw2642314133432472687:=()
noncomputable def tw11342913790005432669:=()
noncomputable def tw18178964802268672950:=()
noncomputable def tw249291613603616014:=()
noncomputable def tw15822661960225441606:=()
noncomputable def tw6752840780107694030:=()
noncomputable def tw15694233310713075792:=()
noncomputable def tw11538745876975509163:=()
noncomputable def tw5440959090301287362:=()
noncomputable def tw429754045533340811:=()
noncomputable def tw13699383434712285509:=()
noncomputable def tw11560829754023410163:=()
noncomputable def tw1418423542919918039:=()
noncomputable def tw5748085053027680126:=()
noncomputable def tw2701075614527311194:=()
noncomputable def tw5583405963960361913:=()
noncomputable def tw8811370481577697792:=()
noncomputable def tw11433851084637804440:=()
noncomputable def tw8361300832434692128:=()
noncomputable def tw17568370682764835309:=()
noncomputable def tw13257376420534116682:=()
noncomputable def tw12205820170713277513:=()
noncomputable def tw1983662864844140950:=()
noncomputable def tw6403146728949277448:=()
noncomputable def tw10515682189838460531:=()
noncomputable def tw14717810498049103704:=()
noncomputable def tw14544150227443808941:=()
noncomputable def tw1948720838120820629:=()
noncomputable def tw17309672721139013111:=()
noncomputable def tw212645082399902906:=()
noncomputable def tw11480844876021016216:=()
noncomputable def tw17373407329465776042:=()
noncomputable def tw4490168537646544659:=()
noncomputable def tw11267878619282443586:=()
noncomputable def tw13926314175105734769:=()
noncomputable def tw18131761814260374606:=()
noncomputable def tw2975742563471648961:=()
noncomputable def tw13728599757105071993:=()
noncomputable def tw5724659824000126061:=()
noncomputable def tw1161044536997147622:=()
noncomputable def tw7972461682723848408:=()
noncomputable def tw15968427530503681942:=()
noncomputable def tw7865701908655727163:=()
noncomputable def tw11548480575688858011:=()
noncomputable def tw12583139320150975627:=()
noncomputable def tw468027688120088970:=()
noncomputable def tw16556726584433078754:=()
noncomputable def tw17144935374319356059:=()
noncomputable def tw8184822896705391204:=()
noncomputable def tw2834691838366120888:=()
noncomputable def tw17240932008997666182:=()
noncomputable def tw5818108022199367139:=()
noncomputable def tw3289076229249267554:=()
noncomputable def tw14846657006489081819:=()
noncomputable def tw16732619880298137044:=()
noncomputable def tw12354378449985082482:=()
noncomputable def tw1772225149925062443:=()
noncomputable def tw13669687640834494251:=()
noncomputable def tw7300636056895450688:=()
noncomputable def tw5998848377374673468:=()
noncomputable def tw17247253553828025386:=()
noncomputable def tw10355765173905597994:=()
noncomputable def tw5871761154127098552:=()
noncomputable def tw17043691881989930483:=()
noncomputable def tw2619477371242177588:=()
noncomputable def tw13647444821834166432:=()
noncomputable def tw16086968625117642695:=()
noncomputable def tw13010291646162622633:=()
noncomputable def tw2664917178536197220:=()
noncomputable def tw5560698757665566930:=()
noncomputable def tw2034782265338417756:=()
noncomputable def tw2272978053876412500:=()
noncomputable def tw17936512678517136023:=()
noncomputable def tw13456004340071636133:=()
noncomputable def tw12492723610840749123:=()
noncomputable def tw17398730422340135273:=()
noncomputable def tw16573184863565586845:=()
noncomputable def tw5757971827599075799:=()
noncomputable def tw8339965395460167531:=()
noncomputable def tw2913651439284862371:=()
noncomputable def tw6112920046603751046:=()
noncomputable def tw16637649446904135645:=()
noncomputable def tw15340094278068277396:=()
noncomputable def tw12739866579007291698:=()
noncomputable def tw9423923557134088991:=()
noncomputable def tw13727710632040757773:=()
noncomputable def tw17490302425823027204:=()
noncomputable def tw16679854018107194397:=()
noncomputable def tw9898200945270547013:=()
noncomputable def tw10903008478248433609:=()
noncomputable def tw13772892819714213488:=()
noncomputable def tw12408765091206188056:=()
noncomputable def tw7704904292663840274:=()
noncomputable def tw12325356884919089951:=()
noncomputable def tw1504335143323165613:=()
noncomputable def tw16590544448240517686:=()
noncomputable def tw4023213435206605611:=()
noncomputable def tw14047486377913740470:=()
noncomputable def tw13970227531998862362:=()
noncomputable def tw17776775578012781732:=()
noncomputable def tw892104116709305103:=()
noncomputable def tw8447864873760601353:=()
noncomputable def tw14355675651618619992:=()
noncomputable def tw1867488980199314958:=()
noncomputable def tw12289479246999041857:=()
noncomputable def tw9292148557530773278:=()
noncomputable def tw1996763358861132867:=()
noncomputable def tw9995584887505130354:=()
noncomputable def tw13231441032566841147:=()
noncomputable def tw10891612440511899445:=()
noncomputable def tw12811902876402012249:=()
noncomputable def tw3134542739459091750:=()
noncomputable def tw15006767804400770930:=()
noncomputable def tw3840898137218046384:=()
noncomputable def tw9493091796237852689:=()
noncomputable def tw14185607469228747516:=()
noncomputable def tw3708160402057214704:=()
noncomputable def tw6776783247237664184:=()
noncomputable def tw17433265910843480904:=()
noncomputable def tw4560047411083634074:=()
noncomputable def tw3176822779693095212:=()
noncomputable def tw12668770108702263424:=()
noncomputable def tw3579690043057944099:=()
noncomputable def tw603936224527150973:=()
noncomputable def tw6907394556799690522:=()
noncomputable def tw6754108590440459723:=()
noncomputable def tw16621260442485631651:=()
noncomputable def tw15981847943401129056:=()
noncomputable def tw878048948469119716:=()
noncomputable def tw8050519542779282111:=()
noncomputable def tw4197083118499386247:=()
noncomputable def tw9488838181624946011:=()
noncomputable def tw12491095197132058746:=()
noncomputable def tw17604818924475562926:=()
noncomputable def tw2537936608347129346:=()
noncomputable def tw14314179218858528352:=()
noncomputable def tw8122458883110897322:=()
noncomputable def tw14768603089370209599:=()
noncomputable def tw13488927225175578393:=()
noncomputable def tw4561471666869521233:=()
noncomputable def tw18270361015854763749:=()
noncomputable def tw5374085771176121077:=()
noncomputable def tw1627165405685608177:=()
noncomputable def tw11729494422599088092:=()
noncomputable def tw2310786887137191338:=()
noncomputable def tw17027341146961601972:=()
noncomputable def tw3256632460115984857:=()
noncomputable def tw6048005498278709593:=()
noncomputable def tw13850638702405141116:=()
noncomputable def tw9540723863394070800:=()
noncomputable def tw8406794968892276779:=()
noncomputable def tw11725158333651771051:=()
noncomputable def tw12737839945842525924:=()
noncomputable def tw18115294328202045734:=()
noncomputable def tw12879696655751642893:=()
noncomputable def tw18133620790732339315:=()
noncomputable def tw10607012276590224066:=()
noncomputable def tw2447574164879334506:=()
noncomputable def tw9191801060010416733:=()
noncomputable def tw18086943317744893453:=()
noncomputable def tw9170083081575142758:=()
noncomputable def tw8765517399531817572:=()
noncomputable def tw8545836990983633577:=()
noncomputable def tw14266406241110799797:=()
noncomputable def tw17769190254764897522:=()
noncomputable def tw1964449790400214313:=()
noncomputable def tw3280375393558378755:=()
noncomputable def tw10039300172537891128:=()
noncomputable def tw2501634718818709781:=()
noncomputable def tw654158986415042449:=()
noncomputable def tw11908616015665116630:=()
noncomputable def tw2937491761584846305:=()
noncomputable def tw10754670679933578946:=()
noncomputable def tw4374803952890549346:=()
noncomputable def tw2461441633405848918:=()
noncomputable def tw9460308451273309360:=()
noncomputable def tw16526121462839077609:=()
noncomputable def tw15109155282574002859:=()
noncomputable def tw9414345071801104861:=()
noncomputable def tw16776641064842087668:=()
noncomputable def tw17514015298928087262:=()
noncomputable def tw5761124886804299379:=()
noncomputable def tw3263310049120697978:=()
noncomputable def tw5203470768933691164:=()
noncomputable def tw3368816156973767172:=()
noncomputable def tw2153720929719341846:=()
noncomputable def tw17493110188446359016:=()
noncomputable def tw1040021978762289094:=()
noncomputable def tw1337629046575906459:=()
noncomputable def tw7903098399924166166:=()
noncomputable def tw17802878085403525010:=()
noncomputable def tw16103393942540811317:=()
noncomputable def tw446536602839140152:=()
noncomputable def tw10335837412170794474:=()
noncomputable def tw7743806345697347959:=()
noncomputable def tw587144422139493255:=()
noncomputable def tw17963116075571685117:=()
noncomputable def tw16298348666084428834:=()
noncomputable def tw1372840144490978583:=()
noncomputable def tw2813294194367569856:=()
noncomputable def tw14787391246644703665:=()
noncomputable def tw3029924307326927952:=()
noncomputable def tw15980161507621271906:=()
noncomputable def tw15184174635009046789:=()
noncomputable def tw8934045610051053742:=()
noncomputable def tw3916989537037320073:=()
noncomputable def tw6925029181967446646:=()
noncomputable def tw5597628607380094236:=()
noncomputable def tw4256683464102238731:=()
noncomputable def tw11994516368108126803:=()
noncomputable def tw4016867748505576804:=()
noncomputable def tw17181250378622840410:=()
noncomputable def tw1938048556378658910:=()
noncomputable def tw13843290093923503659:=()
noncomputable def tw4822473302324325662:=()
noncomputable def tw10516904373422911209:=()
noncomputable def tw16762214791428926243:=()
noncomputable def tw13251457906953530202:=()
noncomputable def tw1957683977707602276:=()
noncomputable def tw3581744922144644240:=()
noncomputable def tw11983355270383798982:=()
noncomputable def tw5504133170718193387:=()
noncomputable def tw11002331142297748917:=()
noncomputable def tw6338033260881059712:=()
noncomputable def tw8435544132885061722:=()
noncomputable def tw17774107481368111244:=()
noncomputable def tw7475048793296551559:=()
noncomputable def tw9243308109205047514:=()
noncomputable def tw9345740794160440886:=()
noncomputable def tw15824055331608927822:=()
noncomputable def tw2182928773776229006:=()
noncomputable def tw16969424483266322061:=()
noncomputable def tw2193106679423752830:=()
noncomputable def tw1931878973490913232:=()
noncomputable def tw11513622862809210871:=()
noncomputable def tw8405609904762745223:=()
noncomputable def tw11568791644205250177:=()
noncomputable def tw18082417123082682273:=()
end PySem.W.Fast
open PySem PySem.W PyProof.Rows
set_option maxRecDepth 100000 in
set_option maxHeartbeats 0 in
theorem PySem.Challenge.cw_rimsteps_k66_thinnings_looked_at_holds : PySem.Challenge.rw_rimsteps_k66_thinnings_looked_at.Holds := by
 w_on;o_law;k_head;(case hw=>w_witness2)
 k_fill
 refine RR.walk (l:=PySem.Challenge.rw_rimsteps_k66_thinnings_looked_at) rfl rfl (λw h Y=>W.kIn_of Y) ?F
 case F =>
  intro w mg fa h KX G hmg
  refine' RR.all_mk KX G hmg (.mk ?a0 ?l0 ?c0 ?k0) (.mk ?a1 ?l1 ?c1 ?k1) (.mk ?a2 ?l2 ?c2 ?k2) (.mk ?a3 ?l3 ?c3 ?k3) (.mk ?a4 ?l4 ?c4 ?k4) (.mk ?a5 ?l5 ?c5 ?k5) (.mk ?a6 ?l6 ?c6 ?k6) (.mk ?a7 ?l7 ?c7 ?k7) (.mk ?a8 ?l8 ?c8 ?k8) (.mk ?a9 ?l9 ?c9 ?k9) (.mk ?a10 ?l10 ?c10 ?k10) (.mk ?a11 ?l11 ?c11 ?k11) (.mk ?a12 ?l12 ?c12 ?k12) (.mk ?a13 ?l13 ?c13 ?k13) (.mk ?a14 ?l14 ?c14 ?k14) (.mk ?a15 ?l15 ?c15 ?k15) (.mk ?a16 ?l16 ?c16 ?k16) (.mk ?a17 ?l17 ?c17 ?k17) (.mk ?a18 ?l18 ?c18 ?k18) (.mk ?a19 ?l19 ?c19 ?k19) (.mk ?a20 ?l20 ?c20 ?k20) (.mk ?a21 ?l21 ?c21 ?k21) (.mk ?a22 ?l22 ?c22 ?k22) (.mk ?a23 ?l23 ?c23 ?k23) (.mk ?a24 ?l24 ?c24 ?k24) (.mk ?a25 ?l25 ?c25 ?k25) (.mk ?a26 ?l26 ?c26 ?k26) (.mk ?a27 ?l27 ?c27 ?k27) (.mk ?a28 ?l28 ?c28 ?k28) (.mk ?a29 ?l29 ?c29 ?k29) (.mk ?a30 ?l30 ?c30 ?k30) (.mk ?a31 ?l31 ?c31 ?k31) (.mk ?a32 ?l32 ?c32 ?k32) (.mk ?a33 ?l33 ?c33 ?k33) (.mk ?a34 ?l34 ?c34 ?k34) (.mk ?a35 ?l35 ?c35 ?k35) (.mk ?a36 ?l36 ?c36 ?k36) (.mk ?a37 ?l37 ?c37 ?k37) (.mk ?a38 ?l38 ?c38 ?k38) (.mk ?a39 ?l39 ?c39 ?k39) (.mk ?a40 ?l40 ?c40 ?k40) (.mk ?a41 ?l41 ?c41 ?k41) (.mk ?a42 ?l42 ?c42 ?k42) (.mk ?a43 ?l43 ?c43 ?k43) (.mk ?a44 ?l44 ?c44 ?k44) (.mk ?a45 ?l45 ?c45 ?k45) (.mk ?a46 ?l46 ?c46 ?k46) (.mk ?a47 ?l47 ?c47 ?k47) (.mk ?a48 ?l48 ?c48 ?k48) (.mk ?a49 ?l49 ?c49 ?k49) (.mk ?a50 ?l50 ?c50 ?k50) (.mk ?a51 ?l51 ?c51 ?k51) (.mk ?a52 ?l52 ?c52 ?k52) ?a53 ?l53 ?c53 ?k53 ?aM ?lM ?x0 ?x1 ?x2 ?x3 ?x4 ?x5 ?x6 ?x7 ?aB ?lB ?z_any ?z_enumerate ?z_range ?z_len ?z_min ?z_max ?z_sorted ?z_tuple ?z_int ?z_bool ?z_abs ?z_all ?z_isinstance ?z_list ?z_zip ?z_repr
  (case a0=>k_is)
  (case l0=>k_is)
  (case c0=>k_is)
  (case k0=>k_is)
  (case a1=>k_is)
  (case l1=>k_is)
  (case c1=>k_is)
  (case k1=>k_is)
  (case a2=>k_is)
  (case l2=>k_is)
  (case c2=>k_is)
  (case k2=>k_is)
  (case a3=>k_is)
  (case l3=>k_is)
  (case c3=>k_is)
  (case k3=>k_is)
  (case a4=>k_is)
  (case l4=>k_is)
  (case c4=>k_is)
  (case k4=>k_is)
  (case a5=>k_is)
  (case l5=>k_is)
  (case c5=>k_is)
  (case k5=>k_is)
  (case a6=>k_is)
  (case l6=>k_is)
  (case c6=>k_is)
  (case k6=>k_is)
  (case a7=>k_is)
  (case l7=>k_is)
  (case c7=>k_is)
  (case k7=>k_is)
  (case a8=>k_is)
  (case l8=>k_is)
  (case c8=>k_is)
  (case k8=>k_is)
  (case a9=>k_is)
  (case l9=>k_is)
  (case c9=>k_is)
  (case k9=>k_is)
  (case a10=>k_is)
  (case l10=>k_is)
  (case c10=>k_is)
  (case k10=>k_is)
  (case a11=>k_is)
  (case l11=>k_is)
  (case c11=>k_is)
  (case k11=>k_is)
  (case a12=>k_is)
  (case l12=>k_is)
  (case c12=>k_is)
  (case k12=>k_is)
  (case a13=>k_is)
  (case l13=>k_is)
  (case c13=>k_is)
  (case k13=>k_is)
  (case a14=>k_is)
  (case l14=>k_is)
  (case c14=>k_is)
  (case k14=>k_is)
  (case a15=>k_is)
  (case l15=>k_is)
  (case c15=>k_is)
  (case k15=>k_is)
  (case a16=>k_is)
  (case l16=>k_is)
  (case c16=>k_is)
  (case k16=>k_is)
  (case a17=>k_is)
  (case l17=>k_is)
  (case c17=>k_is)
  (case k17=>k_is)
  (case a18=>k_is)
  (case l18=>k_is)
  (case c18=>k_is)
  (case k18=>k_is)
  (case a19=>k_is)
  (case l19=>k_is)
  (case c19=>k_is)
  (case k19=>k_is)
  (case a20=>k_is)
  (case l20=>k_is)
  (case c20=>k_is)
  (case k20=>k_is)
  (case a21=>k_is)
  (case l21=>k_is)
  (case c21=>k_is)
  (case k21=>k_is)
  (case a22=>k_is)
  (case l22=>k_is)
  (case c22=>k_is)
  (case k22=>k_is)
  (case a23=>k_is)
  (case l23=>k_is)
  (case c23=>k_is)
  (case k23=>k_is)
  (case a24=>k_is)
  (case l24=>k_is)
  (case c24=>k_is)
  (case k24=>k_is)
  (case a25=>k_is)
  (case l25=>k_is)
  (case c25=>k_is)
  (case k25=>k_is)
  (case a26=>k_is)
  (case l26=>k_is)
  (case c26=>k_is)
  (case k26=>k_is)
  (case a27=>k_is)
  (case l27=>k_is)
  (case c27=>k_is)
  (case k27=>k_is)
  (case a28=>k_is)
  (case l28=>k_is)
  (case c28=>k_is)
  (case k28=>k_is)
  (case a29=>k_is)
  (case l29=>k_is)
  (case c29=>k_is)
  (case k29=>k_is)
  (case a30=>k_is)
  (case l30=>k_is)
  (case c30=>k_is)
  (case k30=>k_is)
  (case a31=>k_is)
  (case l31=>k_is)
  (case c31=>k_is)
  (case k31=>k_is)
  (case a32=>k_is)
  (case l32=>k_is)
  (case c32=>k_is)
  (case k32=>k_is)
  (case a33=>k_is)
  (case l33=>k_is)
  (case c33=>k_is)
  (case k33=>k_is)
  (case a34=>k_is)
  (case l34=>k_is)
  (case c34=>k_is)
  (case k34=>k_is)
  (case a35=>k_is)
  (case l35=>k_is)
  (case c35=>k_is)
  (case k35=>k_is)
  (case a36=>k_is)
  (case l36=>k_is)
  (case c36=>k_is)
  (case k36=>k_is)
  (case a37=>k_is)
  (case l37=>k_is)
  (case c37=>k_is)
  (case k37=>k_is)
  (case a38=>k_is)
  (case l38=>k_is)
  (case c38=>k_is)
  (case k38=>k_is)
  (case a39=>k_is)
  (case l39=>k_is)
  (case c39=>k_is)
  (case k39=>k_is)
  (case a40=>k_is)
  (case l40=>k_is)
  (case c40=>k_is)
  (case k40=>k_is)
  (case a41=>k_is)
  (case l41=>k_is)
  (case c41=>k_is)
  (case k41=>k_is)
  (case a42=>k_is)
  (case l42=>k_is)
  (case c42=>k_is)
  (case k42=>k_is)
  (case a43=>k_is)
  (case l43=>k_is)
  (case c43=>k_is)
  (case k43=>k_is)
  (case a44=>k_is)
  (case l44=>k_is)
  (case c44=>k_is)
  (case k44=>k_is)
  (case a45=>k_is)
  (case l45=>k_is)
  (case c45=>k_is)
  (case k45=>k_is)
  (case a46=>k_is)
  (case l46=>k_is)
  (case c46=>k_is)
  (case k46=>k_is)
  (case a47=>k_is)
  (case l47=>k_is)
  (case c47=>k_is)
  (case k47=>k_is)
  (case a48=>k_is)
  (case l48=>k_is)
  (case c48=>k_is)
  (case k48=>k_is)
  (case a49=>k_is)
  (case l49=>k_is)
  (case c49=>k_is)
  (case k49=>k_is)
  (case a50=>k_is)
  (case l50=>k_is)
  (case c50=>k_is)
  (case k50=>k_is)
  (case a51=>k_is)
  (case l51=>k_is)
  (case c51=>k_is)
  (case k51=>k_is)
  (case a52=>k_is)
  (case l52=>k_is)
  (case c52=>k_is)
  (case k52=>k_is)
  (case a53=>k_is)
  (case l53=>k_is)
  (case c53=>k_is)
  (case k53=>k_is)
  (case aM=>k_is)
  (case lM=>k_is)
  (case x0=>k_is)
  (case x1=>k_is)
  (case x2=>k_is)
  (case x3=>k_is)
  (case x4=>k_is)
  (case x5=>k_is)
  (case x6=>k_is)
  (case x7=>k_is)
  (case aB=>k_is)
  (case lB=>k_is)
  (case z_any=>k_is)
  (case z_enumerate=>k_is)
  (case z_range=>k_is)
  (case z_len=>k_is)
  (case z_min=>k_is)
  (case z_max=>k_is)
  (case z_sorted=>k_is)
  (case z_tuple=>k_is)
  (case z_int=>k_is)
  (case z_bool=>k_is)
  (case z_abs=>k_is)
  (case z_all=>k_is)
  (case z_isinstance=>k_is)
  (case z_list=>k_is)
  (case z_zip=>k_is)
  (case z_repr=>k_is)

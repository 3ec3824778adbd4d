import PyProof.Rows.All
import Wide.All
import OpenK.AllK
import Wide.FinOn
import Lean
import PyProof.EqAt
import PyProof.EqKinds
import PyProof.TupleCall
import PySem.Challenge.RW_rimsteps_k70_whole_thinned_rounds
set_option Elab.async false
set_option linter.all false
set_option maxRecDepth 100000
open List renaming getElem?_eq_getElem → Aa,getElem?_eq_some_iff → Ab,length_map → Af,mem_of_getElem? → Ah,mem_cons_of_mem → Ak,length_append → Al,getD_eq_getElem?_getD → Am,mem_cons → Ao,getElem?_map → Ap,mem_cons_self → Aq,getElem?_append_left → As,mem_append_right → Au,length_take → Av,map_append → Ax,getElem_of_mem → Ay,size_toArray → Az,getElem?_append_right → AD,range → AE,mem_map → AF,take_of_length_le → AJ,mem_singleton → AN,length_cons → AQ,lookup_cons → AR,length_drop → AS,pairwise_cons → AU,take_length → AW,append_nil → AX,mem_append → A2,getElem?_zip_eq_some → A4,length_range → A6,getElem_mem → A7,map_cons → Ba,not_mem_nil → Bh,length_filter_le → Bo,filter_cons_of_neg → Bp,append_assoc → Bs,length_dropLast → Bt,filter_append → BC,getElem?_drop → BD,pairwise_iff_getElem → BE,getElem?_range → BG,filter_cons_of_pos → BS,eq_nil_of_length_eq_zero → B3,length_nil → B4,getElem?_set_self → B5,filterMap_map → Cc,length_singleton → Cg,drop_eq_getElem_cons → Cj,nodup_cons → Cn,mem_append_left → Cp,getElem?_set_ne → Cq,map_nil → Cr,flatMap_cons → Cv,sum_cons → CA,filterMap_cons_none → CB,filterMap_cons_some → CC,length_pos_iff → CD,replicate → CI,length_pos_of_mem → CO,map_map → CP,find?_cons → CS,dropLast_eq_take → CW,nodup_append → CZ,all_eq_true → Da,flatMap_append → Dg,flatten_append → Dh,filter_eq_self → Di,eq_of_mem_replicate → Dj,mem_filter → Dk,of_mem_zip → Dm,forIn_cons → Dp,zip_cons_cons → Dt,getElem?_take → Dv,length_eq_zero_iff → Dx,mem_range → Dy
open PySem renaming wpAny_bind → Ac,Value → Ad,Shared → Ae,wpAny_pure → Aj,wpAny → Ar,model → Aw,Program → AH,mainGlobals → AI,starEach → AK,Around → AL,World → AZ,wpAny_holding → A9,foldedSetIterable → Bc,Spec → Bg,wpAny_newObj_type → Bi,wpAny_Call_Name_kw → Bj,wpAny_truthy_bool → Br,FuncData → Bu,cellsFrom → Bv,compareOp → By,mem_of_lookup → BF,wpAny_comprehension_free → BJ,wpAny_loadPart' → BN,wpAny_updateSeq → BO,wpAny_mono → BP,keywordEach → BQ,plainId_quiet → BV,codeAny → BY,compEnvC → BZ,wpAny_tryCatch → B2,codeAny_compStart_list → B7,wpAny_field → B8,NameKind → Cb,wpAny_seqItems → Cd,wpAny_passesOwn → Ck,codeAny_builtin → Co,wpAny_letGo → Cs,wpAny_standAt → Cw,bindArgs → CF,backToKw → CH,wpAny_callSpecial?_slot → CJ,sysModules → CL,backTo → CN,wpAny_pyIter_list → CY,holding → C8,letOwnedTupleGo → Dl,assignEach → Ds,sliceBounds → Dw
open PySem.Heap renaming get?_push_of_some → Ag,lt_size → An,get?_push_size → AC,get?_update_other → Bb,get?_update_self → BH,SameBut → C7
open Nat renaming le_refl → Ai,ne_of_lt → At,lt_of_lt_of_le → AB,zero_le → AV,lt_or_ge → A1,le_trans → A8,le_add_right → Bd,lt_irrefl → BI,mod_eq_of_lt → B9,le_succ → Ct,lt_succ_of_lt → Cu,le_of_lt → CM,not_lt_zero → CT,mod_lt → C3,pow_le_pow_right → C4,add_lt_add_left → De,eq_zero_or_pos → Du
open PySem.Value renaming ref → AA,none → C1,int → C6,bool → Dr
open PySem.Obj renaming mapSeq → AG
open Bool renaming false_ne_true → AM,false_eq_true → BB,and_eq_true → BX,eq_iff_iff → Cm
open Option.some renaming inj → AO
open Option renaming map_eq_some_iff → AT,map_some → Do
open PySem.F renaming plain_min_loop → AY,plainAttrs_list → Bz,slot_list_append → BL,type_list_append → BM,plain_extend_loop → Ci,slot_zip_next → CV
open PySem.PassesOwn renaming never → A3
open PyProof.Rows renaming callWith_type1 → A5,seqObj → Bm,slot_tuple_getitem → Bn,IntsAre → B6,SortKind → Ce,get?_update_seq → Dq
open PySem.NameKind renaming free → Be,cell → Bl
open PySem.Str renaming ofString → Bf
open Ne renaming symm → Bq
open PySem.Builtin.Builtins renaming bindParams → Bw
open PySem.W renaming mg_none_of → Bx,fnOf → Cy,nsIn → CQ,kia_one → CU
open False renaming elim → BA
open PySem.Builtin.SmallTypes renaming ownedTupleIsFree → BK,nextOf → Dd
open PySem.Around renaming under_plainId → BR
open Lean renaming maxHeartbeats → BU
open PySem.Heap.SameBut renaming update → BW
open True renaming intro → Ca
open PySem.PyData renaming keyHash → Cf,int → C2
open PySem.Builtin.Slice renaming slicePlaces → Ch,sliceAdjust → Db
open PySem.Builtin.Tuple renaming tupleExact → Cz
open Int renaming mul_nonneg → CK
open PySem.Builtin.List renaming listExtendWith → C0
open Sum renaming inl → C5
open PySem.SeqAt renaming shaped → C9
open Classical renaming byContradiction → Dc
namespace L2
open PySem PySem.Spec PyProof.Rows
noncomputable abbrev Key:=Sum Int Str
noncomputable def keyIs:Key->Ad->Bool
 |.inl k,v=>Value.isInt k v
 |.inr x,v=>Value.isStrOf x v
noncomputable def keyH(w:AZ):Key->Int
 |.inl k=>hashInt k
 |.inr x=>hashStr w x
theorem zaR:∀{k:Key}{v:Ad},keyIs k v=true->(∃i t,k=C5 i/\v=C6 i t)∨(∃x t,k=Sum.inr x/\v=Value.str x t)
 |.inl i,v,h=>by
  obtain⟨t,e⟩:=Value.isInt_shape (k:=i) (v:=v) h;exact .inl ⟨i,t,rfl,e⟩
 |.inr x,v,h=>by
  obtain⟨t,e⟩:=Value.isStrOf_shape (x:=x) (v:=v) h;exact .inr ⟨x,t,rfl,e⟩
theorem zjj(i:Int)(t:Tok):keyIs (.inl i) (.int i t)=true:=by simp[keyIs,Value.isInt]
theorem zji(x:Str)(t:Tok):keyIs (.inr x) (.str x t)=true:=by simp[keyIs,Value.isStrOf]
theorem zmn(a b:Int):decide ((C5 a:Key)=C5 b)=(a == b):=by
 by_cases e:a=b
 .subst e;simp
 .have h:¬ (C5 a:Key)=C5 b:=λq=>e (Sum.inl.inj q)
  rw[decide_eq_false h];exact (beq_eq_false_iff_ne.mpr e).symm
theorem zmk(a b:Str):decide ((Sum.inr a:Key)=Sum.inr b)=decide (a=b):=by
 by_cases e:a=b
 .subst e;simp
 .have h:¬ (Sum.inr a:Key)=Sum.inr b:=λq=>e (Sum.inr.inj q)
  rw[decide_eq_false h,decide_eq_false e]
theorem zmm(a:Int)(b:Str):decide ((C5 a:Key)=Sum.inr b)=false:=decide_eq_false (λq=>nomatch q)
theorem zml(a:Str)(b:Int):decide ((Sum.inr a:Key)=C5 b)=false:=decide_eq_false (λq=>nomatch q)
noncomputable def zaX(prog:AH)(w:AZ):PySem.KeyKind prog w Key where
 is:=keyIs
 hash:=keyH w
 inj:=λv a b ha hb=>by
  rcases zaR ha with⟨i,t,rfl,rfl⟩ |⟨x,t,rfl,rfl⟩
  .rcases zaR hb with⟨j,u,rfl,e⟩ |⟨y,u,rfl,e⟩
   .injection e with e1 _;rw[e1]
   .exact nomatch e
  .rcases zaR hb with⟨j,u,rfl,e⟩ |⟨y,u,rfl,e⟩
   .exact nomatch e
   .injection e with e1 _;rw[e1]
 byValue:=λk v h=>by rcases zaR h with⟨i,t,rfl,rfl⟩ |⟨x,t,rfl,rfl⟩ <;> rfl
 pyHash:=λhv h=>by
  rcases zaR hv with⟨i,t,rfl,rfl⟩ |⟨x,t,rfl,rfl⟩
  .exact wpAny_pyHash_int h
  .exact wpAny_pyHash_str h
 eqBool:=λhu hv h=>by
  rcases zaR hu with⟨i,t,rfl,rfl⟩ |⟨x,t,rfl,rfl⟩
  .rcases zaR hv with⟨j,u,rfl,rfl⟩ |⟨y,u,rfl,rfl⟩
   .rw[zmn]at h;exact wpAny_eqBool_int h
   .rw[zmm]at h;exact SeqAt.EqAt.int_str i t y u _ _ _ _ h
  .rcases zaR hv with⟨j,u,rfl,rfl⟩ |⟨y,u,rfl,rfl⟩
   .rw[zml]at h;exact SeqAt.EqAt.str_int x t j u _ _ _ _ h
   .rw[zmk]at h;exact wpAny_eqBool_str h
 «strs»:=λk x t v h=>by
  rcases zaR h with⟨i,u,rfl,e⟩ |⟨y,u,rfl,e⟩
  .exact nomatch e
  .injection e with e1 _;subst e1
   cases v <;> rfl
theorem zgM(prog:AH)(w:AZ)(i:Int)(t:Tok):(zaX prog w).is (.inl i) (.int i t)=true:=zjj i t
theorem zcG(prog:AH)(w:AZ)(x:Str)(t:Tok):(zaX prog w).is (.inr x) (.str x t)=true:=zji x t
inductive V where
 |non |bl (b:Bool) |int (i:Int) |str (x:Str) |byt (b:Array UInt8) |flt (b:UInt64) |ref (a:Addr) |ty (n:String)
 deriving DecidableEq
noncomputable def RelV:V->Ad->Prop
 |.non,u=>u=C1
 |.bl b,u=>u=Dr b
 |.int i,u=>∃t,u=C6 i t
 |.str x,u=>∃t,u=Value.str x t
 |.byt b,u=>∃t,u=Value.bytes b t
 |.flt b,u=>∃t,u=Value.float b t
 |.ref a,u=>u=AA a
 |.ty n,u=>u=Value.type n
noncomputable abbrev Vals:List V->List Ad->Prop:=Paired RelV
theorem Vals.length{xs:List V}{us:List Ad}(r:Vals xs us):xs.length=us.length:=Paired.length r
theorem Vals.get:∀{xs:List V}{us:List Ad}{i:Nat}{x:V},Vals xs us->xs[i]?=some x->∃u,us[i]?=some u/\RelV x u
 |_,_,_,_,.nil,e=>by simp at e
 |_,_,0,_,.cons r _,e=>by simp at e;subst e;exact⟨_,rfl,r⟩
 |_,_,i+1,x,.cons _ t,e=>by
  obtain⟨u,h1,h2⟩:=Vals.get (i:=i) (x:=x) t (by simpa using e);exact⟨u,by simpa using h1,h2⟩
theorem Vals.set{x:V}{u:Ad}(r:RelV x u):∀{xs:List V}{us:List Ad}(i:Nat),Vals xs us->Vals (xs.set i x) (us.set i u)
 |_,_,_,.nil=>.nil
 |_,_,0,.cons _ t=>.cons r t
 |_,_,i+1,.cons q t=>.cons q (Vals.set r i t)
theorem Vals.append:∀{xs ys:List V}{us ws:List Ad},Vals xs us->Vals ys ws->Vals (xs++ys) (us++ws)
 |_,_,_,_,.nil,s=>s
 |_,_,_,_,.cons r t,s=>.cons r (Vals.append t s)
theorem Vals.take:∀{xs:List V}{us:List Ad}(n:Nat),Vals xs us->Vals (xs.take n) (us.take n)
 |_,_,0,_=>.nil
 |_,_,_+1,.nil=>.nil
 |_,_,n+1,.cons r t=>.cons r (Vals.take n t)
theorem Vals.drop:∀{xs:List V}{us:List Ad}(n:Nat),Vals xs us->Vals (xs.drop n) (us.drop n)
 |_,_,0,r=>r
 |_,_,_+1,.nil=>.nil
 |_,_,n+1,.cons _ t=>Vals.drop n t
noncomputable def RelO:Option V->Option Ad->Prop
 |some v,some u=>RelV v u
 |none,none=>True
 |_,_=>False
noncomputable def KV{κ:Type}:List (κ×V)->List (κ×Ad)->Prop:=Paired λ(p:κ×V) (q:κ×Ad)=>p.1=q.1/\RelV p.2 q.2
noncomputable def kV:Key->V
 |.inl i=>.int i
 |.inr x=>.str x
inductive HO where
 /-- a list -/
 |lst (xs:List V)
 /-- a tuple (never changes) -/
 |tup (xs:List V)
 /-- a dict whose keys are ints and texts;one whose keys are tuples of ints and texts (the empty one is both) -/
 |dK (kvs:List (Key×V)) |dT (kvs:List (List Key×V))
 /-- a set of ints: its members,its size -/
 |set (S:Int->Bool) (n:Nat)
 /-- an instance of the class at C,its dict at dx,its attributes -/
 |ins (C dx:Addr) (fs:List (Str×V))
 /-- the dict of the instance at x -/
 |own (x:Addr)
 /-- the dict of an exception -/
 |xd (fs:List (Str×V))
 /-- a bound method,f of x -/
 |met (f x:Addr)
 /-- a range object lo,lo+1,.. below hi -/
 |rng (lo hi:Int)
 /-- a thing that is known to the object (the script;a dict while a loop walks it): read,never written while it is so -/
 |frz (o:Obj) (u:HO)
 /-- a code object's table -/
 |tbl (ps:Array Ad)
 /-- any other thing,by what is true of its one object (a def of one's own: SetO a S n:=HO.ext λh=>..) -/
 |ext (φ:Heap->Prop)
noncomputable abbrev Hp:=Addr->Option HO
noncomputable def upd(H:Hp)(a:Addr)(o:HO):Hp:=λb=>if b=a then some o else H b
theorem zaa{H:Hp}{a:Addr}{o:HO}:upd H a o a=some o:=by unfold upd;rw[if_pos rfl]
theorem zal{H:Hp}{a b:Addr}{o:HO}(h:b≠a):upd H a o b=H b:=by unfold upd;rw[if_neg h]
theorem zkZ{H:Hp}{a:Addr}{o u:HO}:upd (upd H a o) a u=upd H a u:=by
 funext b;unfold upd;split <;> rfl
theorem ne_of{H:Hp}{a b:Addr}{o u:HO}(h:H a=some o)(h':H b=some u)(d:o≠u):a≠b:=by intro e;subst e;rw[h]at h';exact d (AO h')
theorem zao{H:Hp}{a b:Addr}{o:HO}(h:H a=some o)(h':H b=none):a≠b:=by intro e;subst e;rw[h]at h';cases h'
section
variable (P:AH) (w:AZ)
noncomputable def ObjOk(H:Hp)(h:Heap)(a:Addr):HO->Prop
  |.lst xs=>xs.length<=sizeLine/\∃(its:List Ad) (n:Nat),Vals xs its/\h.get? a=some { cls:=.type "list",data:=.seq its.toArray n }
  |.tup xs=>xs.length<=sizeLine/\∃its:List Ad,Vals xs its/\IsTup h a its.toArray
  |.dK kvs=>kvs.length<=sizeLine/\(a == CL)=false/\∃vs,KV kvs vs/\h.DictOf (zaX P w) a vs
  |.dT kvs => kvs.length <= sizeLine /\ (a == CL)=false /\ ∃xs:List (List Key × Addr × Ad),
      Paired (λ(p:List Key×V) (q:List Key×Addr×Ad)=>p.1=q.1/\H q.2.1=some (.tup (p.1.map kV))/\RelV p.2 q.2.2) kvs xs /\
      ∃o es ep,h.get? a=some o/\o.ExactDict/\o.data=.dict es ep/\es.toList=xs.map (entryOfKey (tupleKind (zaX P w)))/\(xs.map (·.1)).Nodup
  |.set S n=>h.SetOf (intKind P w) a S n
  |.ins C dx fs => H dx=some (.own a) /\ fs.length <= 1000 /\ dx ≠ a /\ h.get? a=some (W.instObj C dx) /\
      ∃mA,h.Ns1 dx mA/\(∀f,RelO (fs.lookup f) (mA f))/\PySem.Within mA (fs.map (·.1))
  |.own _=>∃o,h.get? a=some o
  |.xd fs=>∃mA,h.Ns1 a mA/\∀f,RelO (fs.lookup f) (mA f)
  |.rng lo hi=>∃t u v,h.get? a=some { cls:=.type "range",data:=.fields #[.int lo t,.int hi u,.int 1 v] }
  |.frz o u=>h.get? a=some o/\ObjOk H h a u
  |.tbl ps=>h.get? a=some { cls:=.none,data:=.fields ps }
  |.met f x=>h.get? a=some (W.methodObj (.ref f) (.ref x))
  |.ext φ=>φ h/\(∃o,h.get? a=some o)/\∀h1 h2:Heap,φ h1->(∀o,h1.get? a=some o->h2.get? a=some o)->φ h2
noncomputable def HOk(H:Hp)(h:Heap):Prop:=∀a o,H a=some o->ObjOk P w H h a o
end
section
variable {P:AH}{w:AZ}{H H':Hp}{h h':Heap}{a:Addr}{o:HO}
theorem ObjOk.lt(x:ObjOk P w H h a o):a<h.objs.size:=by
 cases o with
 |lst xs=>obtain⟨_,_,_,_,e⟩:=x;exact An e
 |tup xs=>obtain⟨_,_,_,p⟩:=x;exact p.lt
 |dK kvs=>obtain⟨_,_,_,_,o,_,_,e,_⟩:=x;exact An e
 |dT kvs=>obtain⟨_,_,_,_,o,_,_,e,_⟩:=x;exact An e
 |set S n=>obtain⟨o,_,_,_,e,_⟩:=x;exact An e
 |ins C dx fs=>obtain⟨_,_,_,e,_⟩:=x;exact An e
 |own y=>obtain⟨_,e⟩:=x;exact An e
 |xd fs=>obtain⟨_,⟨_,_,_,e,_⟩,_⟩:=x;exact An e
 |rng lo hi=>obtain⟨_,_,_,e⟩:=x;exact An e
 |frz ob u=>obtain⟨e,_⟩:=x;exact An e
 |tbl ps=>exact An (show h.get? a=some _ from x)
 |met f y=>exact An (show h.get? a=some _ from x)
 |ext φ=>obtain⟨_,⟨_,e⟩,_⟩:=x;exact An e
theorem Paired.mapP{α β:Type}{F G:α->β->Prop}:∀{l₁:List α}{l₂:List β},Paired F l₁ l₂->(∀a b,F a b->G a b)->Paired G l₁ l₂
 |_,_,.nil,_=>.nil
 |_,_,.cons r t,f=>.cons (f _ _ r) (Paired.mapP t f)
theorem ObjOk.stay(x:ObjOk P w H h a o)(k:∀b u, (b=a ∨ H b=some (.own a)) -> h.get? b=some u -> h'.get? b=some u)
  (ho:∀b,H b=some (.own a)->H' b=some (.own a)) (ht:∀b xs,H b=some (.tup xs)->H' b=some (.tup xs)):ObjOk P w H' h' a o:=by
 induction o with
 |lst xs=>obtain⟨z,its,n,r,e⟩:=x;exact⟨z,its,n,r,k _ _ (.inl rfl) e⟩
 |tup xs=>obtain⟨z,its,r,ob,e,c⟩:=x;exact⟨z,its,r,ob,k _ _ (.inl rfl) e,c⟩
 |dK kvs=>obtain⟨z,y,vs,r,ob,es,ep,e,c⟩:=x;exact⟨z,y,vs,r,ob,es,ep,k _ _ (.inl rfl) e,c⟩
 |dT kvs =>
  obtain⟨z,y,xs,r,ob,es,ep,e,c⟩:=x;exact⟨z,y,xs,Paired.mapP r λp q z=>⟨z.1,ht _ _ z.2.1,z.2.2⟩,ob,es,ep,k _ _ (.inl rfl) e,c⟩
 |set S n=>obtain⟨ob,es,ep,t,e,c⟩:=x;exact⟨ob,es,ep,t,k _ _ (.inl rfl) e,c⟩
 |ins C dx fs =>
  obtain⟨d,z,ne,e,mA,⟨od,es,ep,e2,c⟩,r⟩:=x;exact⟨ho _ d,z,ne,k _ _ (.inl rfl) e,mA,⟨od,es,ep,k _ _ (.inr d) e2,c⟩,r⟩
 |own y=>obtain⟨ob,e⟩:=x;exact⟨ob,k _ _ (.inl rfl) e⟩
 |xd fs=>obtain⟨mA,⟨od,es,ep,e,c⟩,r⟩:=x;exact⟨mA,⟨od,es,ep,k _ _ (.inl rfl) e,c⟩,r⟩
 |rng lo hi=>obtain⟨t,u,v,e⟩:=x;exact⟨t,u,v,k _ _ (.inl rfl) e⟩
 |frz ob u ih=>obtain⟨e,q⟩:=x;exact⟨k _ _ (.inl rfl) e,ih q⟩
 |tbl ps =>
  have e:h.get? a=some { cls:=.none,data:=.fields ps }:=x;show h'.get? a=some { cls:=.none,data:=.fields ps };exact k a _ (.inl rfl) e
 |met f y =>
  have e:h.get? a=some (W.methodObj (.ref f) (.ref y)):=x;show h'.get? a=some (W.methodObj (.ref f) (.ref y));exact k a _ (.inl rfl) e
 |ext φ=>obtain⟨p,⟨o,e⟩,st⟩:=x;exact⟨st _ _ p λo q=>k _ _ (.inl rfl) q,⟨o,k _ _ (.inl rfl) e⟩,st⟩
theorem HOk.lt(x:HOk P w H h)(e:H a=some o):a<h.objs.size:=(x a o e).lt
theorem HOk.fresh(x:HOk P w H h)(e:h.objs.size<=a):H a=none:=by
 cases q:H a with
 |none=>rfl
 |some u=>exact absurd (AB (x.lt q) e) (BI _)
theorem HOk.kept(x:HOk P w H h)(k:∀b u,h.get? b=some u->h'.get? b=some u):HOk P w H h':=λa o e =>
 (x a o e).stay (λb u _ q=>k b u q) (λ_ q=>q) λ_ _ q=>q
theorem HOk.laid(x:HOk P w H h)(k:∀b u,h.get? b=some u->h'.get? b=some u)(hp:h.objs.size<=a)(new:ObjOk P w (upd H a o) h' a o):HOk P w (upd H a o) h':=λb u e=>by
 have hn:=x.fresh hp
 by_cases hb:b=a
 .subst hb;rw[zaa]at e;cases e;exact new
 .rw[zal hb]at e;exact (x b u e).stay (λc v _ q=>k c v q) (λc q=>by rw[zal (zao q hn)];exact q) λc xs q=>by rw[zal (zao q hn)];exact q
end
noncomputable def Rd(H:Hp)(a:Addr)(u:HO):Prop:=H a=some u∨∃o,H a=some (.frz o u)
theorem Rd.of{H:Hp}{a:Addr}{u:HO}(h:H a=some u):Rd H a u:=.inl h
theorem Rd.ok{P:AH}{w:AZ}{H:Hp}{h:Heap}{a:Addr}{u:HO}(r:Rd H a u)(x:HOk P w H h):ObjOk P w H h a u:=by
 rcases r with r |⟨o,r⟩
 .exact x a u r
 .obtain⟨_,q⟩:=x a _ r;exact q
noncomputable def Mut:Option HO->Prop
 |some (.lst _)=>True
 |some (.dK _)=>True
 |some (.dT _)=>True
 |some (.set _ _)=>True
 |some (.ins _ _ _)=>True
 |some (.ext _)=>True
 |_=>False
section
variable {P:AH}{w:AZ}{H:Hp}{h h':Heap}{x e:Addr}{o':HO}
theorem HOk.write(ok:HOk P w H h)(mu:Mut (H x))(he:e=x ∨ H e=some (.own x))(k:∀b u, b ≠ e -> h.get? b=some u -> h'.get? b=some u)(heo:∃u, h'.get? e=some u)
  (new:ObjOk P w (upd H x o') h' x o'):HOk P w (upd H x o') h':=λb u q=>by
 have nown:∀c y,H c=some (.own y)->c≠x:=λc y r z=>by subst z;rw[r]at mu;exact mu
 have ntup:∀c xs,H c=some (.tup xs)->c≠x:=λc xs r z=>by subst z;rw[r]at mu;exact mu
 by_cases hb:b=x
 .subst hb;rw[zaa]at q;cases q;exact new
 .rw[zal hb]at q
  by_cases hbe:b=e
  .have q':H b=some (.own x) := by
    rcases he with z |z
    .exact absurd (hbe.trans z) hb
    .rw[hbe];exact z
   rw[q]at q';cases q';obtain⟨v,hv⟩:=heo;exact⟨v,by rw[hbe];exact hv⟩
  .refine (ok b u q).stay (λc v hc r=>k c v ?_ r) (λc r=>by rw[zal (nown c b r)];exact r) λc xs r=>by rw[zal (ntup c xs r)];exact r
   rcases hc with rfl |hc
   .exact hbe
   .rintro rfl;rcases he with z |z
    .exact nown c b hc z
    .rw[hc]at z;cases z;exact hb rfl
end
structure Un (fs ex:List Addr) (H H':Hp) (h h':Heap):Prop where
 keep:∀b o,h.get? b=some o->H b=none->b ∉ fs->b ∉ ex->h'.get? b=some o
 slot:∀b o,h.get? b=some o->H b=none->b∈fs->b ∉ ex->∃sl,h'.get? b=some { o with slots:=sl }
 free:∀b o,h.get? b=some o->H b=none->b ∉ ex->H' b=none
 there:∀b o,h.get? b=some o->b ∉ ex->∃o',h'.get? b=some o'
 tups:∀b xs,H b=some (.tup xs)->H' b=some (.tup xs)
 frzs:∀b o u,H b=some (.frz o u)->H' b=some (.frz o u)
 tbls:∀b ps,H b=some (.tbl ps)->∃more,H' b=some (.tbl (ps++more))
section
variable {fs fs' ex ex':List Addr}{H H1 H2:Hp}{h h1 h2 h':Heap}{a x e:Addr}{o:HO}
theorem Un.any(u:Un fs ex H H1 h h1){b:Addr}{ob:Obj}(q:h.get? b=some ob)(n:H b=none)(hx:b ∉ ex):∃sl,h1.get? b=some { ob with slots:=sl }:=by
 by_cases hb:b∈fs
 .exact u.slot b ob q n hb hx
 .exact⟨ob.slots,u.keep b ob q n hb hx⟩
theorem Un.kept(k:∀b u,h.get? b=some u->h'.get? b=some u):Un fs ex H H h h' :=
 ⟨λb ob q _ _ _=>k b ob q,λb ob q _ _ _=>⟨ob.slots,k b ob q⟩,λ_ _ _ n _=>n,λb ob q _=>⟨ob,k b ob q⟩,λ_ _ q=>q,λ_ _ _ q=>q,λ_ ps q=>⟨#[],by rw[q];simp⟩⟩
theorem Un.refl:Un fs ex H H h h:=Un.kept λ_ _ q=>q
theorem Un.laid(k:∀b u,h.get? b=some u->h'.get? b=some u)(hp:h.objs.size<=a)(hn:H a=none):Un fs ex H (upd H a o) h h' where
 keep:=λb u q _ _ _=>k b u q
 slot:=λb u q _ _ _=>⟨u.slots,k b u q⟩
 free:=λb u q n _=>by rw[zal (At (AB (An q) hp))];exact n
 there:=λb u q _=>⟨u,k b u q⟩
 tups:=λb xs q=>by rw[zal (zao q hn)];exact q
 frzs:=λb u xs q=>by rw[zal (zao q hn)];exact q
 tbls:=λb ps q=>⟨#[],by rw[zal (zao q hn),q];simp⟩
theorem Un.write(mu:Mut (H x))(he:e=x∨H e=some (.own x))(k:∀b u,b≠e->h.get? b=some u->h'.get? b=some u)(heo:∃u,h'.get? e=some u):Un fs ex H (upd H x o) h h':=by
 have hx:∀b,H b=none->b≠x:=λb n z=>by subst z;rw[n]at mu;exact mu
 have hb:∀b,H b=none->b≠e:=λb n z=>by
  subst z;rcases he with r |r
  .exact hx b n r
  .rw[n]at r;cases r
 have hm:∀b u,H b=some u->¬ Mut (some u)->b≠x:=λb u q nm z=>by subst z;rw[q]at mu;exact nm mu
 refine⟨λb u q n _ _=>k b u (hb b n) q,λb u q n _ _=>⟨u.slots,k b u (hb b n) q⟩,λb u q n _=>by rw[zal (hx b n)];exact n,λb u q _=>?_,
  λb xs q=>by rw[zal (hm b _ q λz=>z)];exact q,λb u xs q=>by rw[zal (hm b _ q λz=>z)];exact q,λb ps q=>⟨#[],by rw[zal (hm b _ q λz=>z),q];simp⟩⟩
 by_cases hbe:b=e
 .subst hbe;exact heo
 .exact⟨u,k b u hbe q⟩
end
noncomputable def trk(h:Heap)(H:Hp):List Addr:=(AE h.objs.size).filter λa=>(H a).isSome
noncomputable def hidT(h:Heap)(H:Hp):Heap:=W.hideAll h (trk h H)
theorem zjo(h:Heap)(H:Hp):(hidT h H).objs.size=h.objs.size:=W.hideAll_size _ _
theorem zkm{h:Heap}{H:Hp}{b:Addr}{o:Obj}(e:h.get? b=some o)(n:H b=none):(hidT h H).get? b=some o :=
 W.hideAll_get _ e λhm=>by have q:(H b).isSome=true:=(Dk.mp hm).2;rw[n]at q;simp at q
theorem zlq{h:Heap}{H:Hp}{b:Addr}{o:Obj}(e:(hidT h H).get? b=some o):h.get? b=some o/\H b=none:=by
 have e':h.get? b=some o:=W.of_hideAll (trk h H) e;refine⟨e',?_⟩
 cases q:H b with
 |none=>rfl
 |some x =>
  have hm:b∈trk h H:=List.mem_filter.mpr ⟨List.mem_range.mpr (An e'),by simp[q]⟩;have z:(hidT h H).get? b=none:=W.hideAll_none (trk h H) hm;rw[z]at e;cases e
noncomputable def zlR(g h:Heap)(L:Addr):List (Addr×Obj):=(AE h.objs.size).filterMap λa=>if a=L∨(g.get? a).isSome=true then none else (h.get? a).map λo=>(a,o)
noncomputable def rest(g h:Heap)(L d:Addr):List (Addr×Obj):=(zlR g h L).filter λp=>decide (p.1≠d)
structure Mod (K:W.Frag) (mg:Str->Option Ad) (base:Heap):Prop where
 kin:K.In base
 glob:base.Ns AI mg
 blt:∃mb,base.Ns builtinsNs mb/\∀x:Str,x ≠ "__name__" -> mb x=bootBuiltins x
 nolimit:base.NoLimit
structure Cx where
 prog:AH
 w:AZ
 K:W.Frag
 mg:Str->Option Ad
 base:Heap
 A:AL
 N:List Str
 s₀:Ae
 H₀:Hp
 env:Env
 outer:List Env
 stack:List Env
 ex:List Addr
 fn:Str->Bool
 calm:Bool
 pn:List (Addr×Obj)
 xe:Ad->Ae->Prop
noncomputable def frs(l:List Env):List Addr:=l.filterMap (·.frame)
noncomputable abbrev Cx.fs(X:Cx):List Addr:=frs X.outer
noncomputable def Vis(sc:Scope)(x:Str):Prop:=sc.names.lookup x=some .local∨sc.names.lookup x=some .cell∨sc.names.lookup x=some .free
noncomputable def Loc(sc:Scope)(x:Str):Prop:=sc.names.lookup x=some .local∨sc.names.lookup x=some .cell
noncomputable def Look(env:Env)(h:Heap)(m:Str->Option Ad)(x:Str)(u:Ad):Prop :=
 (env.kindOf x=some .local/\m x=some u)∨((env.kindOf x=some .cell∨env.kindOf x=some .free)/\∃c,env.cells.lookup x=some c/\h.IsCell c (some u))
structure Cx.Ok (X:Cx):Prop where
 mod:Mod X.K X.mg X.base
 kind:X.env.scope.kind=.function
 glob:X.env.globals=AI
 blt:X.env.builtins=builtinsNs
 above:X.s₀.heap.objs.size<=X.env.locals
 inj:∀x y c,X.env.cells.lookup x=some c->X.env.cells.lookup y=some c->x=y
 has:∀x,(X.env.kindOf x=some .cell∨X.env.kindOf x=some .free)->∃c,X.env.cells.lookup x=some c
 cab:∀x c,X.fn x=true->X.env.cells.lookup x=some c->X.s₀.heap.objs.size<=c
 hd:X.calm=true->X.A.handled=none
 frames:X.A.frames=some X.stack
 stk:X.stack=X.outer∨(X.stack=X.env::X.outer/\X.env.frame=some X.env.locals)
 exf:∀b∈X.ex,b≠X.env.locals/\∀x c,X.env.cells.lookup x=some c->c≠b
 bs:∀b o,X.base.get? b=some o->X.s₀.heap.get? b=some o/\X.H₀ b=none
 bsz:X.base.objs.size<=X.s₀.heap.objs.size
 noex:∀b o,X.base.get? b=some o->b ∉ X.ex
 exfs:∀b∈X.ex,b ∉ X.fs
 funs:X.s₀.heap.FunFrames X.base X.outer
 frf:∀b∈X.fs,X.H₀ b=none
structure Inv (X:Cx) (pins:List (Addr×Obj)) (σ:List (Option V)) (H:Hp) (s:Ae):Prop where
 ok:X.Ok
 os:s.os=X.s₀.os
 bare:AllBare s.gens
 base:Un X.fs X.ex X.H₀ H X.s₀.heap s.heap
 loc:∃m,s.heap.Ns X.env.locals m/\∀(i:Nat) (x:Str) (v:V),X.N[i]?=some x->σ[i]?=some (some v)->Vis X.env.scope x->∃u,RelV v u/\Look X.env s.heap m x u
 cell:∀x c,X.env.cells.lookup x=some c->∃v,s.heap.IsCell c v
 free:H X.env.locals=none
 freeC:∀x c,X.env.cells.lookup x=some c->H c=none
 pin:∀p∈X.pn++pins,s.heap.get? p.1=some p.2/\H p.1=none/\p.1≠X.env.locals/\p.1 ∉ X.fs/\∀v,p.2.data≠.cell v
 hok:HOk X.prog X.w H s.heap
 len:σ.length=X.N.length
section
variable {X:Cx}{pins:List (Addr×Obj)}{σ:List (Option V)}{H H':Hp}{s:Ae}{h':Heap}
theorem Cx.Ok.nofr(ok:X.Ok){b:Addr}{o:Obj}(e:X.base.get? b=some o):b ∉ X.fs:=λhb=>by have:=(ok.funs.mem hb).1;rw[e]at this;cases this
theorem Inv.bs(I:Inv X pins σ H s):∀b o,X.base.get? b=some o->s.heap.get? b=some o/\H b=none:=λb o e =>
 ⟨I.base.keep b o (I.ok.bs b o e).1 (I.ok.bs b o e).2 (I.ok.nofr e) (I.ok.noex b o e),I.base.free b o (I.ok.bs b o e).1 (I.ok.bs b o e).2 (I.ok.noex b o e)⟩
theorem Inv.bk(I:Inv X pins σ H s):∀b o,X.base.get? b=some o->s.heap.get? b=some o:=λb o e=>(I.bs b o e).1
theorem Inv.mod(I:Inv X pins σ H s):Mod X.K X.mg X.base:=I.ok.mod
theorem Inv.kIn(I:Inv X pins σ H s):X.K.In s.heap:=I.ok.mod.kin.keeps I.bk
theorem Inv.lt(I:Inv X pins σ H s):X.env.locals<s.heap.objs.size:=let ⟨_,hn,_⟩:=I.loc;hn.lt
theorem Inv.sz(I:Inv X pins σ H s):X.s₀.heap.objs.size<=s.heap.objs.size:=A8 I.ok.above (CM I.lt)
theorem Inv.nofs(I:Inv X pins σ H s){a:Addr}(h:s.heap.objs.size<=a):a ∉ X.fs:=λhb=>by obtain⟨_,o,ho,_⟩:=I.ok.funs.mem hb;exact absurd (AB (An ho) (A8 I.sz h)) (BI _)
theorem Inv.cne(I:Inv X pins σ H s):∀x c,X.env.cells.lookup x=some c->c≠X.env.locals:=λx c e z=>by obtain⟨v,o,ho,hd⟩:=I.cell x c e;obtain⟨m,⟨o',es,ep,ho',hd',_⟩,_⟩:=I.loc;rw[z,ho']at ho;cases ho;rw[hd']at hd;cases hd
theorem Inv.funs(I:Inv X pins σ H s):s.heap.FunFrames X.base X.outer:=by
 have all:∀(l:List Env),(∀b∈frs l,b∈X.fs)->X.s₀.heap.FunFrames X.base l->s.heap.FunFrames X.base l:=by
  intro l
  induction l with
  |nil=>intro _ _;trivial
  |cons env r ih =>
   intro hs hl;obtain⟨hk,⟨L,o,hf,hn,ho,hd⟩,hr⟩:=hl;have hL:L∈X.fs:=hs L (by unfold frs;rw[List.filterMap_cons,hf];exact Aq);obtain⟨sl,e⟩:=I.base.slot L o ho (I.ok.frf L hL) hL λz=>I.ok.exfs L z hL
   exact⟨hk,⟨L,_,hf,hn,e,hd⟩,ih (λb hb=>hs b (by unfold frs;rw[List.filterMap_cons,hf];exact Ak _ hb)) hr⟩
 exact all X.outer (λ_ hb=>hb) I.ok.funs
theorem Inv.stack(I:Inv X pins σ H s):s.heap.FunFrames X.base X.stack:=by
 rcases I.ok.stk with e |⟨e,hf⟩
 .rw[e];exact I.funs
 .rw[e];obtain⟨m,hn,_⟩:=I.loc;refine .cons (by rw[I.ok.kind];decide) hf hn ?_ I.funs;exact Heap.get?_none_of_le (A8 I.ok.bsz I.ok.above)
theorem Inv.stkSub(I:Inv X pins σ H s):∀b∈frs X.stack,b∈X.env.locals::X.fs:=λb hb=>by
 rcases I.ok.stk with e |⟨e,hf⟩
 .rw[e]at hb;exact Ak _ hb
 .rw[e]at hb;unfold frs at hb;rw[List.filterMap_cons,hf]at hb;exact hb
theorem Inv.stkFree(I:Inv X pins σ H s):∀b∈frs X.stack,H b=none:=λb hb=>by
 rcases Ao.mp (I.stkSub b hb) with e |hb
 .rw[e];exact I.free
 .obtain⟨_,o,ho,_⟩:=I.ok.funs.mem hb;exact I.base.free b o ho (I.ok.frf b hb) λz=>I.ok.exfs b z hb
theorem Inv.step{g':Array GenState}{t':Nat}{d':Drawn}{ch:List Addr}(I:Inv X pins σ H s)
  (hch:∀b∈ch,(b∈X.ex∨X.s₀.heap.objs.size<=b)/\b≠X.env.locals/\(∀x c,X.env.cells.lookup x=some c->c≠b)/\∀p∈X.pn++pins,p.1≠b)
  (keep:∀b o,b≠X.env.locals->b ∉ X.fs->b ∉ ch->s.heap.get? b=some o->H b=none->h'.get? b=some o)
  (slot:∀b o,b≠X.env.locals->b∈X.fs->b ∉ ch->s.heap.get? b=some o->H b=none->∃sl,h'.get? b=some { o with slots:=sl }) (free:∀b o,b ∉ ch->s.heap.get? b=some o->H b=none->H' b=none)
  (there:∀b o,b ∉ ch->s.heap.get? b=some o->∃o',h'.get? b=some o')
  (tups:∀b xs,H b=some (.tup xs)->H' b=some (.tup xs)) (frzs:∀b o u,H b=some (.frz o u)->H' b=some (.frz o u)) (tbls:∀b ps,H b=some (.tbl ps)->∃more,H' b=some (.tbl (ps++more)))
  (ns:∀m,s.heap.Ns X.env.locals m->h'.Ns X.env.locals m) (hok:HOk X.prog X.w H' h') (hg:AllBare g') :
  Inv X pins σ H' { s with heap:=h',gens:=g',drawn:=d',toks:=t' }:=by
 have neL:∀b o,X.s₀.heap.get? b=some o->b≠X.env.locals:=λb o e=>At (AB (An e) I.ok.above)
 have neC:∀b o,X.s₀.heap.get? b=some o->b ∉ X.ex->b ∉ ch:=λb o e hx hb=>by
  rcases (hch b hb).1 with z |z
  .exact hx z
  .exact absurd (AB (An e) z) (BI _)
 have cellK:∀x c,X.env.cells.lookup x=some c->∀v,s.heap.IsCell c v->h'.IsCell c v:=λx c e v ⟨o,ho,hd⟩=>by
  have nch:c ∉ ch:=λz=>(hch c z).2.2.1 x c e rfl
  by_cases hc:c∈X.fs
  .obtain⟨sl,q⟩:=slot c o (I.cne x c e) hc nch ho (I.freeC x c e);exact⟨_,q,hd⟩
  .exact⟨o,keep c o (I.cne x c e) hc nch ho (I.freeC x c e),hd⟩
 refine⟨I.ok,I.os,hg,⟨λb o e n hb hx=>?_,λb o e n hb hx=>?_,λb o e n hx=>?_,λb o e hx=>?_,λb xs e=>tups b xs (I.base.tups b xs e),λb o xs e=>frzs b o xs (I.base.frzs b o xs e),λb ps e=>?_⟩,?_,λx c e=>?_,?_,λx c e=>?_,λp hp=>?_,hok,I.len⟩
 .exact keep b o (neL b o e) hb (neC b o e hx) (I.base.keep b o e n hb hx) (I.base.free b o e n hx)
 .obtain⟨sl,e1⟩:=I.base.slot b o e n hb hx;obtain⟨sl',e2⟩:=slot b _ (neL b o e) hb (neC b o e hx) e1 (I.base.free b o e n hx);exact⟨sl',e2⟩
 .obtain⟨o',e1⟩:=I.base.there b o e hx;exact free b o' (neC b o e hx) e1 (I.base.free b o e n hx)
 .obtain⟨o',e1⟩:=I.base.there b o e hx;exact there b o' (neC b o e hx) e1
 .obtain⟨m1,e1⟩:=I.base.tbls b ps e;obtain⟨m2,e2⟩:=tbls b _ e1;exact⟨m1++m2,by rw[e2,Array.append_assoc]⟩
 .obtain⟨m,hn,hl⟩:=I.loc;refine⟨m,ns m hn,λi x v e1 e2 e3=>?_⟩;obtain⟨u,r,l⟩:=hl i x v e1 e2 e3;refine⟨u,r,?_⟩;rcases l with l |⟨k,c,e,z⟩
  .exact .inl l
  .exact .inr ⟨k,c,e,cellK x c e _ z⟩
 .obtain⟨v,z⟩:=I.cell x c e;exact⟨v,cellK x c e v z⟩
 .obtain⟨m,⟨o,_,_,ho,_⟩,_⟩:=I.loc;exact free _ o (λz=>(hch _ z).2.1 rfl) ho I.free
 .obtain⟨v,o,ho,hd⟩:=I.cell x c e;exact free c o (λz=>(hch c z).2.2.1 x c e rfl) ho (I.freeC x c e)
 .obtain⟨e,n,ne,nf,d⟩:=I.pin p hp;have nch:p.1 ∉ ch:=λz=>(hch p.1 z).2.2.2 p hp rfl
  exact⟨keep p.1 p.2 ne nf nch e n,free p.1 p.2 nch e n,ne,nf,d⟩
theorem Inv.un{t':Nat}(I:Inv X pins σ H s)(u:Un X.fs [] H H' s.heap h')(hok:HOk X.prog X.w H' h'):Inv X pins σ H' { s with heap:=h',toks:=t' }:=by
 obtain⟨m,⟨o,es,ep,ho,r⟩,_⟩:=id I.loc;obtain⟨sl,hL⟩:=u.any ho I.free (by simp)
 exact I.step (g':=s.gens) (d':=s.drawn) (ch:=[]) (λ_ z=>nomatch z) (λb o _ hb _ e n=>u.keep b o e n hb (by simp)) (λb o _ hb _ e n=>u.slot b o e n hb (by simp)) (λb o _ e n=>u.free b o e n (by simp)) (λb o _ e=>u.there b o e (by simp)) u.tups u.frzs u.tbls (λm' hm=>by obtain⟨o',es',ep',ho',r'⟩:=hm;rw[ho]at ho';cases ho';exact⟨_,es',ep',hL,r'⟩) hok I.bare
theorem Inv.call{g':Array GenState}{t':Nat}{d':Drawn}{ch:List Addr}(I:Inv X pins σ H s)(u:Un (frs X.stack) ch H H' s.heap h')(hok:HOk X.prog X.w H' h')(hg:AllBare g')
  (hch:∀b∈ch,(b∈X.ex∨X.s₀.heap.objs.size<=b)/\b≠X.env.locals/\(∀x c,X.env.cells.lookup x=some c->c≠b)/\∀p∈X.pn++pins,p.1≠b) :
  Inv X pins σ H' { s with heap:=h',gens:=g',drawn:=d',toks:=t' }:=by
 obtain⟨m,⟨o,es,ep,ho,r⟩,_⟩:=id I.loc;obtain⟨sl,hL⟩:=u.any ho I.free λz=>(hch _ z).2.1 rfl
 exact I.step (ch:=ch) hch (λb o hL hb hc e n=>u.keep b o e n (λz=>(Ao.mp (I.stkSub b z)).elim hL hb) hc) (λb o _ _ hc e n=>u.any e n hc) (λb o hc e n=>u.free b o e n hc) (λb o hc e=>u.there b o e hc) u.tups u.frzs u.tbls (λm' hm=>by obtain⟨o',es',ep',ho',r'⟩:=hm;rw[ho]at ho';cases ho';exact⟨_,es',ep',hL,r'⟩) hok hg
theorem Inv.turned{t':Nat}{it:Addr}(I:Inv X pins σ H s)(k:∀b o, b ≠ it -> s.heap.get? b=some o -> h'.get? b=some o)(hn:H it=none)(hL:it ≠ X.env.locals)
  (h1:it∈X.ex∨X.s₀.heap.objs.size<=it) (h2:∀x c,X.env.cells.lookup x=some c->c≠it) (h3:∀p∈X.pn++pins,p.1≠it):Inv X pins σ H { s with heap:=h',toks:=t' }:=by
 have nit:∀b u,H b=some u->b≠it:=λb u e z=>by rw[z,hn]at e;cases e
 refine I.step (g':=s.gens) (d':=s.drawn) (ch:=[it]) (λb hb=>?_) (λb o _ _ hc e _=>k b o (λz=>hc (by simp[z])) e) (λb o _ _ hc e _=>⟨o.slots,k b o (λz=>hc (by simp[z])) e⟩) (λ_ _ _ _ n=>n)
  (λb o hc e=>⟨o,k b o (λz=>hc (by simp[z])) e⟩) (λ_ _ e=>e) (λ_ _ _ e=>e) (λb ps e=>⟨#[],by rw[e];simp⟩) (λm hm=>?_) (λb u e=>?_) I.bare
 .have e:b=it:=by simpa using hb
  subst e;exact⟨h1,hL,h2,h3⟩
 .obtain⟨o,es,ep,ho,r⟩:=hm;exact⟨o,es,ep,k _ o (Bq hL) ho,r⟩
 .refine (I.hok b u e).stay (λc v hc q=>k c v ?_ q) (λ_ q=>q) λ_ _ q=>q
  rcases hc with z |z
  .rw[z];exact nit b u e
  .exact nit c _ z
theorem Inv.tok(I:Inv X pins σ H s)(t:Nat):Inv X pins σ H { s with toks:=t }:=I.un (h':=s.heap) (t':=t) Un.refl I.hok
theorem Inv.kept{t':Nat}(I:Inv X pins σ H s)(k:∀b u,s.heap.get? b=some u->h'.get? b=some u):Inv X pins σ H { s with heap:=h',toks:=t' }:=I.un (Un.kept k) (I.hok.kept k)
theorem Inv.laid{a:Addr}{o:HO}{t':Nat}(I:Inv X pins σ H s)(k:∀b u, s.heap.get? b=some u -> h'.get? b=some u)(hp:s.heap.objs.size <= a)(new:ObjOk X.prog X.w (upd H a o) h' a o) :
  Inv X pins σ (upd H a o) { s with heap:=h',toks:=t' }:=I.un (Un.laid k hp (I.hok.fresh hp)) (I.hok.laid k hp new)
theorem Inv.write{x e:Addr}{o:HO}{t':Nat}(I:Inv X pins σ H s)(mu:Mut (H x))(he:e=x ∨ H e=some (.own x))(k:∀b u, b ≠ e -> s.heap.get? b=some u -> h'.get? b=some u)(heo:∃u, h'.get? e=some u)
  (new:ObjOk X.prog X.w (upd H x o) h' x o):Inv X pins σ (upd H x o) { s with heap:=h',toks:=t' }:=I.un (Un.write mu he k heo) (I.hok.write mu he k heo new)
theorem Inv.pins_of{pins':List (Addr×Obj)}(I:Inv X pins σ H s)(h:∀p∈pins',s.heap.get? p.1=some p.2/\H p.1=none/\p.1≠X.env.locals/\p.1 ∉ X.fs/\∀v,p.2.data≠.cell v):Inv X pins' σ H s :=
 ⟨I.ok,I.os,I.bare,I.base,I.loc,I.cell,I.free,I.freeC,λp hp=>(A2.mp hp).elim (λz=>I.pin p (Cp _ z)) (h p),I.hok,I.len⟩
theorem zhk{N:List Str}(hN:N.Nodup){i j:Nat}{x:Str}(a:N[i]?=some x)(b:N[j]?=some x):i=j:=by obtain⟨h1,e1⟩:=Ab.mp a;obtain⟨h2,e2⟩:=Ab.mp b;exact (List.getElem_inj hN).mp (e1.trans e2.symm)
theorem zdC{M:Model}{A:AL}{E:Ad -> Ae -> Prop}{i:Nat}{x:Str}{v:V}{u:Ad}{Q:Unit -> Ae -> Prop}(I:Inv X pins σ H s)(hN:X.N.Nodup)(hi:X.N[i]? = some x)(hx:Loc X.env.scope x)(r:RelV v u)
  (h:∀s',Inv X pins (σ.set i (some v)) H s'->(∃a,C7 a s.heap s'.heap/\(a=X.env.locals∨X.env.cells.lookup x=some a))->Q () s') (hf:X.fn x=true∨X.env.scope.names.lookup x=some .local:=by first |exact .inl rfl |exact .inr rfl |assumption):Ar M A (storeName X.env x u) Q E s:=by
 obtain⟨m,hn,hl⟩:=id I.loc;have hcls:(X.env.scope.kind == .class || (X.env.scope.kind == .module && X.env.locals != X.env.globals))=false:=by rw[I.ok.kind];rfl
 have hiσ:i<σ.length:=by rw[I.len];exact (Ab.mp hi).1
 have cne:=I.cne
 have tracked:∀{a:Addr} {h':Heap},(∃o,s.heap.get? a=some o/\H a=none)->C7 a s.heap h'->HOk X.prog X.w H h':=λ{a h'} ha hs b ob e=>by
  obtain⟨_,_,hfree⟩:=ha;refine (I.hok b ob e).stay (λc w' hc q=>(hs.2 c ?_).trans q) (λ_ q=>q) λ_ _ q=>q
  rintro rfl;rcases hc with rfl |hc
  .rw[hfree]at e;cases e
  .rw[hfree]at hc;cases hc
 rcases hx with hk |hk
 .refine wpAny_storeName_local hk hn (λh' hn' hs=>?_) hcls;obtain⟨oL,_,_,hoL,_⟩:=id hn;refine h _ ⟨I.ok,I.os,I.bare,⟨λb o e n hb hx=>?_,λb o e n hb hx=>?_,I.base.free,λb o e hx=>?_,I.base.tups,I.base.frzs,I.base.tbls⟩,⟨_,hn',λj y v' e1 e2 e3=>?_⟩,λy c e=>?_,I.free,I.freeC,λp hp=>?_,tracked ⟨oL,hoL,I.free⟩ hs,by simpa using I.len⟩ ⟨_,hs,.inl rfl⟩
  .exact (hs.2 b (At (AB (An e) I.ok.above))).trans (I.base.keep b o e n hb hx)
  .obtain⟨sl,e1⟩:=I.base.slot b o e n hb hx;exact⟨sl,(hs.2 b (At (AB (An e) I.ok.above))).trans e1⟩
  .obtain⟨o',e1⟩:=I.base.there b o e hx;exact⟨o',(hs.2 b (At (AB (An e) I.ok.above))).trans e1⟩
  .by_cases hj:j=i
   .subst hj;rw[hi]at e1;cases e1;rw[B5 hiσ]at e2
    cases e2
    exact⟨u,r,.inl ⟨hk,by simp⟩⟩
   .rw[Cq (Bq hj)]at e2;obtain⟨u',r',q⟩:=hl j y v' e1 e2 e3;refine⟨u',r',?_⟩;rcases q with⟨k,e⟩ |⟨k,c,e,z⟩
    .refine .inl ⟨k,?_⟩;have:y≠x:=λe=>hj (zhk hN e1 (e ▸ hi))
     simp[this,e]
    .exact .inr ⟨k,c,e,z.sameBut hs (cne y c e)⟩
  .obtain⟨w',z⟩:=I.cell y c e;exact⟨w',z.sameBut hs (cne y c e)⟩
  .obtain⟨e,n,ne,nf,d⟩:=I.pin p hp;exact⟨(hs.2 p.1 ne).trans e,n,ne,nf,d⟩
 .have hfn:X.fn x=true := by
   rcases hf with z |z
   .exact z
   .rw[z]at hk;cases hk
  obtain⟨c,hc⟩:=I.ok.has x (.inl hk);obtain⟨w',z⟩:=I.cell x c hc;refine wpAny_storeName_cell I.ok.kind hk hc z (λh' hc' hs=>?_);obtain⟨oc,hoc,hocd⟩:=id z;refine h { s with heap:=h' } ⟨I.ok,I.os,I.bare,⟨λb o e n hb hx=>?_,λb o e n hb hx=>?_,I.base.free,λb o e hx=>?_,I.base.tups,I.base.frzs,I.base.tbls⟩,⟨m,hn.sameBut hs (Bq (cne x c hc)),λj y v' e1 e2 e3=>?_⟩,λy c' e=>?_,I.free,I.freeC,λp hp=>?_,tracked ⟨oc,hoc,I.freeC x c hc⟩ hs,by simpa using I.len⟩ ⟨c,hs,.inr hc⟩
  .exact (hs.2 b (At (AB (An e) (I.ok.cab x c hfn hc)))).trans (I.base.keep b o e n hb hx)
  .obtain⟨sl,e1⟩:=I.base.slot b o e n hb hx;exact⟨sl,(hs.2 b (At (AB (An e) (I.ok.cab x c hfn hc)))).trans e1⟩
  .obtain⟨o',e1⟩:=I.base.there b o e hx;exact⟨o',(hs.2 b (At (AB (An e) (I.ok.cab x c hfn hc)))).trans e1⟩
  .by_cases hj:j=i
   .subst hj;rw[hi]at e1;cases e1;rw[B5 hiσ]at e2
    cases e2
    exact⟨u,r,.inr ⟨.inl hk,c,hc,hc'⟩⟩
   .rw[Cq (Bq hj)]at e2;obtain⟨u',r',q⟩:=hl j y v' e1 e2 e3;refine⟨u',r',?_⟩;rcases q with q |⟨k,c',e,z'⟩
    .exact .inl q
    .refine .inr ⟨k,c',e,z'.sameBut hs ?_⟩;rintro rfl;exact hj (zhk hN e1 (I.ok.inj _ _ _ e hc ▸ hi))
  .by_cases hcc:c'=c
   .subst hcc;exact⟨_,hc'⟩
   .obtain⟨w2,z2⟩:=I.cell y c' e;exact⟨w2,z2.sameBut hs hcc⟩
  .obtain⟨e,n,ne,nf,d⟩:=I.pin p hp;refine⟨(hs.2 p.1 ?_).trans e,n,ne,nf,d⟩;intro q;rw[q,hoc]at e;have q':oc=p.2:=AO e;exact d w' (by rw[<- q'];exact hocd)
theorem zgY{M:Model}{A:AL}{E:Ad -> Ae -> Prop}{i:Nat}{x:Str}{v:V}{u:Ad}{Q:Unit -> Ae -> Prop}(I:Inv X pins σ H s)(hN:X.N.Nodup)(hi:X.N[i]? = some x)(hx:Loc X.env.scope x)(r:RelV v u)
  (h:∀s',Inv X pins (σ.set i (some v)) H s'->Q () s') (hf:X.fn x=true∨X.env.scope.names.lookup x=some .local:=by first |exact .inl rfl |exact .inr rfl |assumption):Ar M A (storeName X.env x u) Q E s :=
 zdC I hN hi hx r (λs' I' _=>h s' I') hf
theorem Inv.call'{s':Ae}{ch:List Addr}(I:Inv X pins σ H s)(ho:s'.os=s.os)(u:Un (frs X.stack) ch H H' s.heap s'.heap)(hok:HOk X.prog X.w H' s'.heap)(hg:AllBare s'.gens)
  (hch:∀b∈ch,(b∈X.ex∨X.s₀.heap.objs.size<=b)/\b≠X.env.locals/\(∀x c,X.env.cells.lookup x=some c->c≠b)/\∀p∈X.pn++pins,p.1≠b):Inv X pins σ H' s':=by
 obtain⟨h',g',d',t',o'⟩:=s';have e:o'=s.os:=ho;subst e;exact I.call (g':=g') (t':=t') (d':=d') u hok hg hch
end
noncomputable abbrev XK:=Ad->Option Addr->Hp->Prop
noncomputable abbrev St:=List (Option V)
noncomputable abbrev VK:=V->Hp->Prop
noncomputable abbrev TE:=St->Hp->VK->Prop
noncomputable abbrev TT:=St->Hp->(Bool->Hp->Prop)->Prop
noncomputable abbrev TA:=St->Hp->(List V->Hp->Prop)->Prop
structure Ends where
 nx:St->Hp->Prop
 rt:VK
 bk:St->Hp->Prop:=λ_ _=>False
 ct:St->Hp->Prop:=λ_ _=>False
noncomputable abbrev TS:=Ends->St->Hp->Prop
noncomputable def EP(X:Cx)(pins:List (Addr×Obj))(σ:St)(Q:VK)(u:Ad)(s':Ae):Prop:=∃v H',Inv X pins σ H' s'/\RelV v u/\Q v H'
noncomputable def TP(X:Cx)(pins:List (Addr×Obj))(σ:St)(Q:Bool->Hp->Prop)(b:Bool)(s':Ae):Prop:=∃H',Inv X pins σ H' s'/\Q b H'
noncomputable def AP(X:Cx)(pins:List (Addr×Obj))(σ:St)(Q:List V->Hp->Prop)(us:List Ad)(s':Ae):Prop:=∃vs H',Inv X pins σ H' s'/\Vals vs us/\Q vs H'
noncomputable def SP(X:Cx)(pins:List (Addr×Obj))(D:Ends)(f:Flow)(s':Ae):Prop :=
 match f with
 |.next=>∃ σ' H',Inv X pins σ' H' s'/\D.nx σ' H'
 |.brk=>∃ σ' H',Inv X pins σ' H' s'/\D.bk σ' H'
 |.cont=>∃ σ' H',Inv X pins σ' H' s'/\D.ct σ' H'
 |.ret u=>∃v σ' H',Inv X pins σ' H' s'/\RelV v u/\D.rt v H'
noncomputable def PE(X:Cx)(e:Expr)(t:TE):Prop :=
 ∀(pins:List (Addr×Obj)) (s:Ae) (σ:St) (H:Hp) (Q:VK),Inv X pins σ H s->t σ H Q->Ar (Aw X.prog X.w) X.A (eval e X.env) (EP X pins σ Q) X.xe s
noncomputable def PT(X:Cx)(e:Expr)(t:TT):Prop :=
 ∀(pins:List (Addr×Obj)) (s:Ae) (σ:St) (H:Hp) (Q:Bool->Hp->Prop),Inv X pins σ H s->t σ H Q->Ar (Aw X.prog X.w) X.A (isTrue e X.env (eval e X.env)) (TP X pins σ Q) X.xe s
noncomputable def PW(X:Cx)(e:Expr)(t:TT):Prop :=
 ∀(whole:Sem Ad) (pins:List (Addr×Obj)) (s:Ae) (σ:St) (H:Hp) (Q:Bool->Hp->Prop),Inv X pins σ H s->t σ H Q->Ar (Aw X.prog X.w) X.A (isTrue e X.env whole) (TP X pins σ Q) X.xe s
theorem PW.pt{X:Cx}{e:Expr}{t:TT}(h:PW X e t):PT X e t:=h _
noncomputable def PA(X:Cx)(es:List Expr)(t:TA):Prop :=
 ∀(pos:Pos) (pins:List (Addr×Obj)) (s:Ae) (σ:St) (H:Hp) (Q:List V->Hp->Prop),Inv X pins σ H s->t σ H Q->Ar (Aw X.prog X.w) X.A (spliced (CN pos (AK es X.env))) (AP X pins σ Q) X.xe s
noncomputable def PS(X:Cx)(st:Stmt)(t:TS):Prop :=
 ∀(pins:List (Addr×Obj)) (s:Ae) (σ:St) (H:Hp) (D:Ends),Inv X pins σ H s->t D σ H->Ar (Aw X.prog X.w) X.A (exec st X.env) (SP X pins D) X.xe s
noncomputable def PSs(X:Cx)(st:List Stmt)(t:TS):Prop :=
 ∀(pins:List (Addr×Obj)) (s:Ae) (σ:St) (H:Hp) (D:Ends),Inv X pins σ H s->t D σ H->Ar (Aw X.prog X.w) X.A (execs st X.env) (SP X pins D) X.xe s
theorem thn{α:Type}{t:Sem α}{Q Q':α->Ae->Prop}{M:Model}{A:AL}{E:Ad->Ae->Prop}{s:Ae}(h:Ar M A t Q E s)(hQ:∀a s,Q a s->Q' a s):Ar M A t Q' E s:=BP h hQ λ_ _ x=>x
section
variable {X:Cx}
noncomputable def tVar(i:Nat):TE:=λσ H Q=>∃v,σ[i]?=some (some v)/\Q v H
noncomputable def tC(v:V):TE:=λ_ H Q=>Q v H
theorem zmd {i:Nat}{x:Str}{pos:Pos}(hN:X.N[i]?=some x) (hv:Vis X.env.scope x) (hd:(x == ("__debug__" : Str))=false:=by decide) (hcd:(x == ("__classdict__" : Str))=false:=by decide):PE X (.Name x pos) (tVar i):=by
 intro pins s σ H Q I h;obtain⟨v,e,h⟩:=h;obtain⟨m,hn,hl⟩:=I.loc;obtain⟨u,r,l⟩:=hl i x v hN e hv;have fin:EP X pins σ Q u s:=⟨v,H,I,r,h⟩;rcases l with⟨hk,hm⟩ |⟨hk,c,hc,hcell⟩
 .exact wpAny_Name (wpAny_loadName_local I.ok.kind hk hn hm fin) hd
 .rcases hk with hk |hk
  .exact wpAny_Name (wpAny_loadName_cell I.ok.kind hk hc hcell fin) hd
  .exact wpAny_Name (wpAny_loadName_free I.ok.kind hk hc hcell fin hcd) hd
theorem zae{i j pos}:PE X (.Constant (.int i) j pos) (tC (.int i)):=λ_ _ _ H _ I h=>wpAny_Constant_int ⟨.int i,H,I.tok _,⟨_,rfl⟩,h⟩
theorem pe_bl{b j pos}:PE X (.Constant (.bool b) j pos) (tC (.bl b)):=λ_ _ _ H _ I h=>Constant_bool ⟨.bl b,H,I,rfl,h⟩
theorem zfL{j pos}:PE X (.Constant .none j pos) (tC .non):=λ_ _ _ H _ I h=>Constant_none ⟨.non,H,I,rfl,h⟩
theorem ziQ{x j pos}:PE X (.Constant (.str x) j pos) (tC (.str x)):=λ_ _ _ H _ I h=>Calls.Constant_str ⟨.str x,H,I.tok _,⟨_,rfl⟩,h⟩
noncomputable def Gl(X:Cx)(x:Str):Prop:=X.env.kindOf x=some .globalImplicit
theorem zjh{E:Ad -> Ae -> Prop}{pins:List (Addr × Obj)}{s:Ae}{σ : St}{H:Hp}{x:Str}{u:Ad}{pos:Pos}{Q:Ad -> Ae -> Prop}(I:Inv X pins σ H s)(hg:Gl X x)(hm:X.mg x=some u)(h:Q u s)
  (hd:(x == ("__debug__" : Str))=false:=by decide):Ar (Aw X.prog X.w) X.A (eval (.Name x pos) X.env) Q E s :=
 Calls.Name_function_global I.ok.kind hg (Calls.loadGlobal_global (by rw[I.ok.glob];exact I.mod.glob.keeps I.bk) hm h) hd
theorem zbO{E:Ad -> Ae -> Prop}{pins:List (Addr × Obj)}{s:Ae}{σ : St}{H:Hp}{x:Str}{u:Ad}{pos:Pos}{Q:Ad -> Ae -> Prop}(I:Inv X pins σ H s)(hg:Gl X x)(hm:X.mg x=none)(hv:bootBuiltins x=some u)(h:Q u s)
  (hn:x ≠ "__name__":=by decide) (hd:(x == ("__debug__" : Str))=false:=by decide):Ar (Aw X.prog X.w) X.A (eval (.Name x pos) X.env) Q E s:=by
 obtain⟨mb,h1,h2⟩:=I.mod.blt;exact Calls.Name_function_global I.ok.kind hg (Calls.loadGlobal_builtin (by rw[I.ok.glob];exact I.mod.glob.keeps I.bk) hm (by rw[I.ok.blt];exact h1.keeps I.bk) ((h2 x hn).trans hv) h) hd
theorem ze2 {x:Str}{v:V}{u:Ad}{pos:Pos}(hg:Gl X x) (hm:X.mg x=some u) (r:RelV v u) (hd:(x == ("__debug__" : Str))=false:=by decide):PE X (.Name x pos) (tC v) :=
 λ_ _ _ H _ I h=>zjh I hg hm ⟨v,H,I,r,h⟩ hd
theorem ze3 {x:Str}{v:V}{u:Ad}{pos:Pos}(hg:Gl X x) (hm:X.mg x=none) (hv:bootBuiltins x=some u) (r:RelV v u) (hn:x ≠ "__name__":=by decide) (hd:(x == ("__debug__" : Str))=false:=by decide):PE X (.Name x pos) (tC v) :=
 λ_ _ _ H _ I h=>zbO I hg hm hv ⟨v,H,I,r,h⟩ hn hd
variable {a b:Expr}{ta tb:TE}{pos:Pos}
noncomputable def PC(X:Cx)(op:CmpOp)(a b:Expr)(t:TE):Prop :=
 ∀(pins:List (Addr×Obj)) (s:Ae) (σ:St) (H:Hp) (Q:VK),Inv X pins σ H s->t σ H Q ->
  Ar (Aw X.prog X.w) X.A (eval a X.env) (λv s₁=>Ar (Aw X.prog X.w) X.A (eval b X.env) (λu s₂=>Ar (Aw X.prog X.w) X.A (By op v u) (EP X pins σ Q) X.xe s₂) X.xe s₁) X.xe s
noncomputable def tB(t:TE):TT:=λσ H Q=>t σ H λx H1=>∃c,x=.bl c/\Q c H1
theorem ziJ{op:CmpOp}{t:TE}(h:PC X op a b t)(h1:behindInMarks op b=false:=by first |exact nobehind _ (by decide) (by decide) |rfl):PT X (.Compare a [op] [b] pos) (tB t):=by
 intro pins s σ H Q I hw;refine wpAny_isTrue_Compare1 (thn (h pins s σ H _ I hw) λv s1 h1=>thn h1 λu s2 h2=>thn h2 λc s3 ⟨x,H1,I1,r1,q1⟩=>?_) h1;obtain⟨d,rfl,q⟩:=q1
 cases r1
 exact Br ⟨H1,I1,q⟩
theorem zbj{e:Expr}{t:TE}(h:PE X e t)(he:∀whole,isTrue e X.env whole=(do let v <- whole;standAt e.pos;C8 [v] (truthy v)):=by intro _;rfl):PT X e (tB t):=by
 intro pins s σ H Q I hw;refine isTrue_plain (thn (h pins s σ H _ I hw) λv s1 ⟨x,H1,I1,r1,q1⟩=>?_) (he _);obtain⟨d,rfl,q⟩:=q1
 cases r1
 exact Br ⟨H1,I1,q⟩
variable {tA tB':TT}{rest:List Expr}
noncomputable def tAnd(t u:TT):TT:=λσ H Q=>t σ H λc H1=>if c=true then u σ H1 Q else Q false H1
noncomputable def tOr(t u:TT):TT:=λσ H Q=>t σ H λc H1=>if c=true then Q true H1 else u σ H1 Q
noncomputable def tNot(t:TT):TT:=λσ H Q=>t σ H λc H1=>Q (!c) H1
theorem zld(ha:PT X a tA):PW X (.BoolOp .And [a] pos) tA:=by
 intro wh pins s σ H Q I h;refine isTrue_and (thn (ha pins s σ H Q I h) λc s1 e=>?_)
 cases c with
 |true=>exact isTrue_and_nil e
 |false=>exact e
theorem zhd(ha:PT X a tA):PW X (.BoolOp .Or [a] pos) tA:=by
 intro wh pins s σ H Q I h;refine isTrue_or (thn (ha pins s σ H Q I h) λc s1 e=>?_)
 cases c with
 |false=>exact isTrue_or_nil e
 |true=>exact e
theorem zmc(ha:PT X a tA)(hb:PW X (.BoolOp .And (b::rest) pos) tB'):PW X (.BoolOp .And (a::b::rest) pos) (tAnd tA tB'):=by
 intro wh pins s σ H Q I h;refine isTrue_and (thn (ha pins s σ H _ I h) λc s1 ⟨H1,I1,q1⟩=>?_)
 cases c with
 |true=>exact hb wh pins s1 σ H1 Q I1 q1
 |false=>exact⟨H1,I1,q1⟩
theorem pw_or(ha:PT X a tA)(hb:PW X (.BoolOp .Or (b::rest) pos) tB'):PW X (.BoolOp .Or (a::b::rest) pos) (tOr tA tB'):=by
 intro wh pins s σ H Q I h;refine isTrue_or (thn (ha pins s σ H _ I h) λc s1 ⟨H1,I1,q1⟩=>?_)
 cases c with
 |true=>exact⟨H1,I1,q1⟩
 |false=>exact hb wh pins s1 σ H1 Q I1 q1
theorem zce(ha:PT X a tA):PT X (.UnaryOp .Not a pos) (tNot tA):=by intro pins s σ H Q I h;exact isTrue_not (ha pins s σ H (λc H1=>Q (!c) H1) I h)
noncomputable def tAndV(ta tb:TE):TE:=λσ H Q=>ta σ H λx H1=>∃c,x=.bl c/\if c=true then tb σ H1 Q else Q (.bl false) H1
noncomputable def tOrV(ta tb:TE):TE:=λσ H Q=>ta σ H λx H1=>∃c,x=.bl c/\if c=true then Q (.bl true) H1 else tb σ H1 Q
noncomputable def tNotV(ta:TE):TE:=λσ H Q=>ta σ H λx H1=>∃c,x=.bl c/\Q (.bl (!c)) H1
theorem zfK{op}{t:TE}(h:PE X a t):PE X (.BoolOp op [a] pos) t:=λpins s σ H Q I hw=>BoolOp_one (h pins s σ H Q I hw)
theorem zfN(ha:PE X a ta)(hb:PE X (.BoolOp .And (b::rest) pos) tb):PE X (.BoolOp .And (a::b::rest) pos) (tAndV ta tb):=by
 intro pins s σ H Q I h;refine BoolOp_and (thn (ha pins s σ H _ I h) λv s1 ⟨x,H1,I1,r1,q1⟩=>?_);obtain⟨c,rfl,q1⟩:=q1
 cases r1
 refine Br ?_
 cases c with
 |true=>exact hb pins s1 σ H1 Q I1 q1
 |false=>exact⟨.bl false,H1,I1,rfl,q1⟩
theorem pe_or(ha:PE X a ta)(hb:PE X (.BoolOp .Or (b::rest) pos) tb):PE X (.BoolOp .Or (a::b::rest) pos) (tOrV ta tb):=by
 intro pins s σ H Q I h;refine BoolOp_or (thn (ha pins s σ H _ I h) λv s1 ⟨x,H1,I1,r1,q1⟩=>?_);obtain⟨c,rfl,q1⟩:=q1
 cases r1
 refine Br ?_
 cases c with
 |false=>exact hb pins s1 σ H1 Q I1 q1
 |true=>exact⟨.bl true,H1,I1,rfl,q1⟩
theorem ziR(ha:PE X a ta):PE X (.UnaryOp .Not a pos) (tNotV ta):=by
 intro pins s σ H Q I h;refine UnaryOp_ (thn (ha pins s σ H _ I h) λv s1 ⟨x,H1,I1,r1,q1⟩=>?_);obtain⟨c,rfl,q1⟩:=q1
 cases r1
 exact not_of (Br ⟨.bl (!c),H1,I1,rfl,q1⟩)
noncomputable def tIf(t:TT)(ta tb:TE):TE:=λσ H Q=>t σ H λc H1=>if c=true then ta σ H1 Q else tb σ H1 Q
theorem zhh{c:Expr}(hc:PT X c tA)(ha:PE X a ta)(hb:PE X b tb):PE X (.IfExp c a b pos) (tIf tA ta tb):=by
 intro pins s σ H Q I h;refine wpAny_IfExp (thn (hc pins s σ H _ I h) λd s1 ⟨H1,I1,q1⟩=>?_)
 cases d with
 |true=>exact ha pins s1 σ H1 Q I1 q1
 |false=>exact hb pins s1 σ H1 Q I1 q1
end
noncomputable def SqL(K:W.Frag)(H:Hp)(a:Addr)(xs:List V):Prop :=
 Rd H a (.lst xs) ∨
  ∃(o:Obj) (its:Array Ad) (n:Nat),K.lookup a=some o/\o.cls=.type "list" /\ o.dict=none/\o.data=.seq its n/\its.size<=sizeLine/\Vals xs its.toList
noncomputable def SqT(K:W.Frag)(H:Hp)(a:Addr)(xs:List V):Prop :=
 Rd H a (.tup xs) ∨
  ∃(o:Obj) (its:Array Ad) (n:Nat),K.lookup a=some o/\o.cls=.type "tuple" /\ o.data=.seq its n/\its.size<=sizeLine/\Vals xs its.toList
noncomputable def absV:Ad->Option V
 |.none=>some .non
 |.bool b=>some (.bl b)
 |.int i _=>some (.int i)
 |.str x _=>some (.str x)
 |.bytes b _=>some (.byt b)
 |.float b _=>some (.flt b)
 |.ref a=>some (.ref a)
 |.type n=>some (.ty n)
 |_=>none
theorem RelV.abs{x:V}{u:Ad}(r:RelV x u):absV u=some x:=by
 cases x with
 |non=>cases r;rfl
 |bl _=>cases r;rfl
 |int _=>obtain⟨t,rfl⟩:=r;rfl
 |str _=>obtain⟨t,rfl⟩:=r;rfl
 |byt _=>obtain⟨t,rfl⟩:=r;rfl
 |flt _=>obtain⟨t,rfl⟩:=r;rfl
 |ref _=>cases r;rfl
 |ty _=>cases r;rfl
theorem RelV.inj{x y:V}{u:Ad}(r:RelV x u)(q:RelV y u):x=y:=AO (r.abs.symm.trans q.abs)
theorem Vals.inj:∀{xs ys:List V}{us:List Ad},Vals xs us->Vals ys us->xs=ys
 |_,_,_,.nil,.nil=>rfl
 |_,_,_,.cons r t,.cons r' t'=>by rw[r.inj r',Vals.inj t t']
section
variable {X:Cx}{pins:List (Addr×Obj)}{σ:St}{H:Hp}{s:Ae}{a:Addr}{xs ys:List V}
theorem SqL.of{K:W.Frag}(h:H a=some (.lst xs)):SqL K H a xs:=.inl (.inl h)
theorem SqT.of{K:W.Frag}(h:H a=some (.tup xs)):SqT K H a xs:=.inl (.inl h)
theorem Inv.list(I:Inv X pins σ H s)(h:SqL X.K H a xs):∃its:List Ad,Vals xs its/\PlainL s.heap a its.toArray/\xs.length<=sizeLine:=by
 rcases h with h |⟨o,its,n,hk,hc,hd,hs,hz,r⟩
 .obtain⟨z,its,n,r,e⟩:=h.ok I.hok;exact⟨its,r,⟨_,n,e,rfl,rfl,rfl⟩,z⟩
 .refine⟨its.toList,r,⟨o,n,I.kIn a o hk,hc,hd,by simpa using hs⟩,?_⟩;have e:=r.length;simp only[Array.length_toList]at e;lia
theorem Inv.tuple(I:Inv X pins σ H s)(h:SqT X.K H a xs):∃its:List Ad,Vals xs its/\IsTup s.heap a its.toArray/\xs.length<=sizeLine:=by
 rcases h with h |⟨o,its,n,hk,hc,hs,hz,r⟩
 .obtain⟨z,its,r,p⟩:=h.ok I.hok;exact⟨its,r,p,z⟩
 .refine⟨its.toList,r,⟨o,I.kIn a o hk,hc,n,by simpa using hs⟩,?_⟩;have e:=r.length;simp only[Array.length_toList]at e;lia
theorem Inv.list_inj(I:Inv X pins σ H s)(h:SqL X.K H a xs)(h':SqL X.K H a ys):xs=ys:=by
 obtain⟨its,r,⟨o,n,e,_,_,d⟩,_⟩:=I.list h;obtain⟨its',r',⟨o',n',e',_,_,d'⟩,_⟩:=I.list h';rw[e]at e';cases e';rw[d]at d';injection d' with d1 _;have:its=its':=by simpa using congrArg Array.toList d1
 subst this;exact r.inj r'
theorem Inv.tuple_inj(I:Inv X pins σ H s)(h:SqT X.K H a xs)(h':SqT X.K H a ys):xs=ys:=by
 obtain⟨its,r,⟨o,e,_,n,d⟩,_⟩:=I.tuple h;obtain⟨its',r',⟨o',e',_,n',d'⟩,_⟩:=I.tuple h';rw[e]at e';cases e';rw[d]at d';injection d' with d1 _;have:its=its':=by simpa using congrArg Array.toList d1
 subst this;exact r.inj r'
end
noncomputable abbrev Cx.wish(X:Cx)(E:Ad->Ae->Prop):Cx:={ X with xe:=E }
noncomputable abbrev Cx.nox(X:Cx):Cx:=X.wish λ_ _=>False
theorem Cx.Ok.wish{X:Cx}(ok:X.Ok)(E:Ad->Ae->Prop):(X.wish E).Ok :=
 ⟨ok.mod,ok.kind,ok.glob,ok.blt,ok.above,ok.inj,ok.has,ok.cab,ok.hd,ok.frames,ok.stk,ok.exf,ok.bs,ok.bsz,ok.noex,ok.exfs,ok.funs,ok.frf⟩
theorem Cx.Ok.unwish{X:Cx}{E:Ad->Ae->Prop}(ok:(X.wish E).Ok):X.Ok :=
 ⟨ok.mod,ok.kind,ok.glob,ok.blt,ok.above,ok.inj,ok.has,ok.cab,ok.hd,ok.frames,ok.stk,ok.exf,ok.bs,ok.bsz,ok.noex,ok.exfs,ok.funs,ok.frf⟩
section
variable {X:Cx}{pins:List (Addr×Obj)}{σ:St}{H:Hp}{s:Ae}{E:Ad->Ae->Prop}
theorem Inv.wish(I:Inv X pins σ H s)(E:Ad->Ae->Prop):Inv (X.wish E) pins σ H s:=⟨I.ok.wish E,I.os,I.bare,I.base,I.loc,I.cell,I.free,I.freeC,I.pin,I.hok,I.len⟩
theorem Inv.unwish(I:Inv (X.wish E) pins σ H s):Inv X pins σ H s:=⟨I.ok.unwish,I.os,I.bare,I.base,I.loc,I.cell,I.free,I.freeC,I.pin,I.hok,I.len⟩
theorem SP.unwish{D:Ends}{f:Flow}{s':Ae}(h:SP (X.wish E) pins D f s'):SP X pins D f s':=by
 cases f with
 |next=>obtain⟨σ',H',I,q⟩:=h;exact⟨σ',H',I.unwish,q⟩
 |brk=>obtain⟨σ',H',I,q⟩:=h;exact⟨σ',H',I.unwish,q⟩
 |cont=>obtain⟨σ',H',I,q⟩:=h;exact⟨σ',H',I.unwish,q⟩
 |ret u=>obtain⟨v,σ',H',I,r,q⟩:=h;exact⟨v,σ',H',I.unwish,r,q⟩
theorem PSs.nox{st:List Stmt}{t:TS}(h:PSs X.nox st t):PSs X st t:=λpins s σ H D I hw =>
 BP (h pins s σ H D (I.wish _) hw) (λ_ _ q=>q.unwish) λ_ _ z=>BA z
end
section
variable {X:Cx}{st:Stmt}{rest:List Stmt}{t u:TS}{e:Expr}{te:TE}{pos:Pos}
noncomputable def tNext:TS:=λD σ H=>D.nx σ H
noncomputable def tSeq(t u:TS):TS:=λD σ H=>t { D with nx:=u D } σ H
theorem zaA:PSs X [] tNext:=λ_ _ σ H _ I h=>wpAny_execs_nil ⟨σ,H,I,h⟩
theorem zac(h1:PS X st t)(h2:PSs X rest u):PSs X (st::rest) (tSeq t u):=by
 intro pins s σ H D I h;refine wpAny_execs_cons (thn (h1 pins s σ H { D with nx:=u D } I h) λf s1 q=>?_)
 cases f with
 |next =>
  obtain⟨σ',H',I',q⟩:=q;exact h2 pins s1 σ' H' D I' q
 |ret v=>exact q
 |brk=>exact q
 |cont=>exact q
theorem zaf(h1:PS X st t):PSs X [st] t:=by
 intro pins s σ H D I h;refine wpAny_execs_cons (thn (h1 pins s σ H D I h) λf s1 q=>?_)
 cases f with
 |next=>exact wpAny_execs_nil q
 |ret v=>exact q
 |brk=>exact q
 |cont=>exact q
theorem Inv.quiet{pins:List (Addr×Obj)}{σ:St}{H:Hp}{s:Ae}(I:Inv X pins σ H s):interactive X.env=false:=by simp[interactive,I.ok.kind]
noncomputable def tDrop(te:TE):TS:=λD σ H=>te σ H λ_ H1=>D.nx σ H1
theorem zcD(he:PE X e te)(hs:swapsWith e none pos.line X.env=pure false:=by rfl):PS X (.Expr e pos) (tDrop te):=by intro pins s σ H D I h;exact wpAny_Expr_any (thn (he pins s σ H _ I h) λv s1 ⟨x,H1,I1,r1,q1⟩=>⟨σ,H1,I1,q1⟩) I.quiet hs
noncomputable def tRet(te:TE):TS:=λD σ H=>te σ H D.rt
theorem zak(he:PE X e te):PS X (.Return (some e) pos) (tRet te):=by intro pins s σ H D I h;exact wpAny_Return_some (thn (he pins s σ H _ I h) λv s1 ⟨x,H1,I1,r1,q1⟩=>⟨x,σ,H1,I1,r1,q1⟩)
noncomputable def tIfS(c:TT)(t u:TS):TS:=λD σ H=>c σ H λb H1=>if b=true then t D σ H1 else u D σ H1
theorem ps_if{c:Expr}{a b:List Stmt}{tc:TT}(hc:PT X c tc)(ha:PSs X a t)(hb:PSs X b u):PS X (.If c a b pos) (tIfS tc t u):=by
 intro pins s σ H D I h;refine wpAny_If (thn (hc pins s σ H _ I h) λd s1 ⟨H1,I1,q1⟩=>?_)
 cases d with
 |true=>exact ha pins s1 σ H1 D I1 q1
 |false=>exact hb pins s1 σ H1 D I1 q1
noncomputable def zl2:TS:=λ_ _ _=>False
theorem zj5:PS X st zl2:=λ_ _ _ _ _ _ h=>h.elim
end
noncomputable abbrev TG:=V->St->Hp->(St->Hp->Prop)->Prop
noncomputable abbrev TGs:=List V->St->Hp->(St->Hp->Prop)->Prop
noncomputable def PG(X:Cx)(target:Expr)(t:TG):Prop :=
 ∀(pins:List (Addr×Obj)) (s:Ae) (σ:St) (H:Hp) (v:V) (u:Ad) (Q:St->Hp->Prop),Inv X pins σ H s->RelV v u->t v σ H Q ->
  Ar (Aw X.prog X.w) X.A (assign target X.env u) (λ_ s'=>∃ σ' H',Inv X pins σ' H' s'/\Q σ' H') X.xe s
noncomputable def PGs(X:Cx)(ts:List Expr)(t:TGs):Prop :=
 ∀(pins:List (Addr×Obj)) (s:Ae) (σ:St) (H:Hp) (vs:List V) (us:List Ad) (Q:St->Hp->Prop),Inv X pins σ H s->Vals vs us->t vs σ H Q ->
  Ar (Aw X.prog X.w) X.A (assignInOrder ((Ds ts X.env).map (·.2)) us) (λ_ s'=>∃ σ' H',Inv X pins σ' H' s'/\Q σ' H') X.xe s
noncomputable abbrev TSet:=V->V->V->Hp->(Hp->Prop)->Prop
noncomputable def PSet(X:Cx)(t:TSet):Prop :=
 ∀(pins:List (Addr×Obj)) (s:Ae) (σ:St) (H:Hp) (o i v:V) (ov iv u:Ad) (Q:Hp->Prop),Inv X pins σ H s->RelV o ov->RelV i iv->RelV v u->t o i v H Q ->
  Ar (Aw X.prog X.w) X.A (setItem ov iv u) (λ_ s'=>∃H',Inv X pins σ H' s'/\Q H') X.xe s
section
variable {X:Cx}{pos:Pos}
noncomputable def gName(i:Nat):TG:=λv σ H Q=>Q (σ.set i (some v)) H
theorem ziP{i:Nat}{x:Str}(hN:X.N.Nodup)(hi:X.N[i]?=some x)(hx:Loc X.env.scope x)(hf:X.fn x=true∨X.env.scope.names.lookup x=some .local:=by first |exact .inl rfl |exact .inr rfl |assumption):PG X (.Name x pos) (gName i):=by intro pins s σ H v u Q I r h;exact wpAny_assign_Name (zgY I hN hi hx r (λs' I'=>⟨_,H,I',h⟩) hf)
noncomputable def gNil:TGs:=λvs σ H Q=>vs=[]/\Q σ H
noncomputable def gCons(t:TG)(u:TGs):TGs:=λvs σ H Q=>∃v r,vs=v::r/\t v σ H λσ' H'=>u r σ' H' Q
theorem zaw:PGs X [] gNil:=by
 intro pins s σ H vs us Q I r h;obtain⟨e,h⟩:=h;subst e
 cases r
 exact assignInOrder_nil ⟨σ,H,I,h⟩
theorem zag{e:Expr}{es:List Expr}{t:TG}{u:TGs}(h1:PG X e t)(h2:PGs X es u)
  (hs:(Ds (e::es) X.env).map (·.2)=assign e X.env::(Ds es X.env).map (·.2):=by rfl):PGs X (e::es) (gCons t u):=by
 intro pins s σ H vs us Q I r h;obtain⟨v,vr,e1,h⟩:=h;subst e1
 cases r with
 |cons r rr =>
  rw[hs];refine assignInOrder_cons (thn (h1 pins s σ H _ _ _ I r h) λ_ s1 ⟨σ1,H1,I1,q1⟩=>?_);exact h2 pins s1 σ1 H1 _ _ Q I1 rr q1
noncomputable def gTup(K:W.Frag)(n:Nat)(t:TGs):TG:=λv σ H Q=>∃a xs,v=.ref a/\SqT K H a xs/\xs.length=n/\t xs σ H Q
theorem zbk{es:List Expr}{k:Nat}{t:TGs}{n:Nat}(hc:X.calm=true)(h:PGs X es t)
  (hn:(Ds es X.env).length=n:=by rfl) (hst:(Ds es X.env).findIdx? (·.1)=none:=by rfl):PG X (.Tuple es k pos) (gTup X.K n t):=by
 intro pins s σ H v u Q I r hw;obtain⟨a,xs,e1,hq,hl,hw⟩:=hw;subst e1
 cases r
 obtain⟨its,rv,ht,hz⟩:=I.tuple hq;refine assign_Tuple_tuple (I.ok.hd hc) ht (by simp[hn,<- hl,rv.length]) hst λh' hx=>?_
 have I1:Inv X pins σ H { s with heap:=h' }:=I.kept (t':=s.toks) λb o e=>hx b o (At (An e)) e
 exact h pins _ σ H xs _ Q I1 (by simpa using rv) hw
noncomputable def gSub(to ti:TE)(t:TSet):TG:=λv σ H Q=>to σ H λo H1=>ti σ H1 λi H2=>t o i v H2 λH3=>Q σ H3
theorem zkH{o i:Expr}{to ti:TE}{t:TSet}(ho:PE X o to)(hi:PE X i ti)(hs:PSet X t)
  (ha:∀v,assign (.Subscript o i pos) X.env v=(do
   let ov <- C8 [v] (eval o X.env)
   let iv <- C8 [v,ov] (eval i X.env)
   standAt pos
   C8 [v,ov,iv] (setItem ov iv v)
   release [v,ov,iv] []):=by intro _;rfl):PG X (.Subscript o i pos) (gSub to ti t):=by
 intro pins s σ H v u Q I r h;rw[ha];refine Ac (A9 (thn (ho pins s σ H _ I h) λov s1 ⟨x,H1,I1,r1,q1⟩=>?_));refine Ac (A9 (thn (hi pins s1 σ H1 _ I1 q1) λiv s2 ⟨y,H2,I2,r2,q2⟩=>?_));refine Ac (Cw (Ac (A9 (thn (hs pins s2 σ H2 x y v ov iv u _ I2 r1 r2 r q2) λ_ s3 ⟨H3,I3,q3⟩=>?_))));exact wpAny_release ⟨σ,H3,I3,q3⟩
noncomputable def tAsg(te:TE)(g:TG):TS:=λD σ H=>te σ H λx H1=>g x σ H1 D.nx
theorem zbw{tg e:Expr}{te:TE}{g:TG}(he:PE X e te)(hg:PG X tg g)(hs:swapsWithSole [tg] e pos.line X.env=pure false := by rfl)(hw:swappedStores [tg] e X.env=pure none := by rfl)
  (h1:(Ds [tg] X.env).map (·.2)=[assign tg X.env]:=by rfl):PS X (.Assign [tg] e pos) (tAsg te g):=by
 intro pins s σ H D I h;refine wpAny_Assign_stores (thn (he pins s σ H _ I h) λv s1 ⟨x,H1,I1,r1,q1⟩=>?_) hs hw;rw[h1];exact thn (hg pins s1 σ H1 x v _ I1 r1 q1) λ_ s2 q=>q
theorem zcQ{i:Nat}{x:Str}{e:Expr}{te:TE}{pos':Pos}(hN:X.N.Nodup)(hi:X.N[i]? = some x)(hx:Loc X.env.scope x)(he:PE X e te)(hs:swapsWith e (some (.Name x pos')) pos.line X.env=pure false := by rfl)(hf:X.fn x=true ∨ X.env.scope.names.lookup x=some .local := by first |exact .inl rfl |exact .inr rfl |assumption) :
  PS X (.Assign [.Name x pos'] e pos) (tAsg te (gName i)):=by
 intro pins s σ H D I h;refine wpAny_Assign_Name (thn (he pins s σ H _ I h) λv s1 ⟨y,H1,I1,r1,q1⟩=>?_) hs;exact zgY I1 hN hi hx r1 (λs2 I2=>⟨_,H1,I2,q1⟩) hf
end
section
variable {X:Cx}{pos:Pos}
noncomputable def zkv(c:TT)(tb:TS):TS:=λD σ H=>∃W:Nat->St->Hp->Prop,(∃m,W m σ H)/\∀m σ H,W m σ H ->
 c σ H λb H1=>if b=true then ∃N:St->Hp->Prop,(∀ σ' H',N σ' H'->∃m',m'<m/\W m' σ' H')/\tb { D with nx:=N,ct:=N,bk:=D.nx } σ H1 else D.nx σ H1
theorem ze0{c:Expr}{body:List Stmt}{tc:TT}{tb:TS}(hp:PassesOwn (Aw X.prog X.w) X.A X.env X.xe)(hc:PT X c tc)(hb:PSs X body tb):PS X (.While c body [] pos) (zkv tc tb):=by
 intro pins s σ H D I h;obtain⟨W,⟨m0,w0⟩,turn⟩:=h;refine wpAny_While (codeAny_whileLoop (λn s'=>∃ σ' H',Inv X pins σ' H' s'/\W n σ' H') ?_ m0 ⟨σ,H,I,w0⟩);rintro n s1 ⟨σ1,H1,I1,w1⟩;refine Ck hp (thn (hc pins s1 σ1 H1 _ I1 (turn n σ1 H1 w1)) λb s2 ⟨H2,I2,q2⟩=>?_)
 cases b with
 |true =>
  obtain⟨N,hN,q2⟩:=q2;rw[if_pos rfl];refine Ck hp (thn (hb pins s2 σ1 H2 _ I2 q2) λf s3 q3=>?_)
  cases f with
  |next =>
   obtain⟨σ3,H3,I3,n3⟩:=q3;obtain⟨m',hm,w3⟩:=hN σ3 H3 n3;exact⟨m',hm,σ3,H3,I3,w3⟩
  |cont =>
   obtain⟨σ3,H3,I3,n3⟩:=q3;obtain⟨m',hm,w3⟩:=hN σ3 H3 n3;exact⟨m',hm,σ3,H3,I3,w3⟩
  |brk=>exact q3
  |ret v=>exact q3
 |false =>
  rw[if_neg AM];exact wpAny_execs_nil ⟨σ1,H2,I2,q2⟩
end
structure It where
 go:Nat->Hp->Prop
 yld:Nat->Hp->V->Hp->Prop
 stop:Nat->Hp->Prop
noncomputable def FpOk(X:Cx)(pins:List (Addr×Obj))(H:Hp)(b:Addr):Prop :=
 H b=none/\b≠X.env.locals/\b ∉ X.fs/\(b∈X.ex∨X.s₀.heap.objs.size<=b)/\(∀x c,X.env.cells.lookup x=some c->c≠b)/\∀p∈X.pn++pins,p.1≠b
theorem Inv.fpOk{X:Cx}{pins:List (Addr×Obj)}{σ:St}{H H':Hp}{s:Ae}{b:Addr}(I:Inv X pins σ H s)(hb:s.heap.objs.size<=b)(hn:H' b=none):FpOk X pins H' b:=by
 refine⟨hn,Nat.ne_of_gt (AB I.lt hb),I.nofs hb,.inr (A8 I.sz hb),λx c e z=>?_,λp hp z=>?_⟩
 .obtain⟨v,q⟩:=I.cell x c e;exact absurd (AB q.lt (by rw[z];exact hb)) (BI _)
 .exact absurd (AB (An (I.pin p hp).1) (by rw[z];exact hb)) (BI _)
structure Turn (P:AH) (w:AZ) (K:W.Frag) (tg:Expr) (J:It) (fp:List Addr) (it:Addr) (tn:Nat->Heap->Prop):Prop where
 mem:it∈fp
 obj:∀i h,tn i h->∀b∈fp,∃o,h.get? b=some o/\∀v,o.data≠.cell v
 keep:∀i h h',tn i h->(∀b∈fp,∀o,h.get? b=some o->h'.get? b=some o)->tn i h'
 item:∀(X:Cx),X.prog=P->X.w=w->X.K=K->X.calm=true->∀(i:Nat) (pins:List (Addr×Obj)) (s:Ae) (σ:St) (H:Hp) (E:Ad->Ae->Prop),Inv X pins σ H s->(∀b∈fp,FpOk X pins H b)->tn i s.heap->J.go i H ->
  Ar (Aw P w) X.A (pyNext (.ref it)) (λr s1=>∃u,r=some u /\
   Ar (Aw P w) X.A (Dl tg (.ref it) u) (λ_ s2=>∃x H',Inv X pins σ H' s2/\RelV x u/\J.yld i H x H'/\tn (i+1) s2.heap/\∀b∈fp,H' b=none) E s1) E s
 done:∀(X:Cx),X.prog=P->X.w=w->X.K=K->X.calm=true->∀(i:Nat) (pins:List (Addr×Obj)) (s:Ae) (σ:St) (H:Hp) (E:Ad->Ae->Prop),Inv X pins σ H s->(∀b∈fp,FpOk X pins H b)->tn i s.heap->J.stop i H ->
  Ar (Aw P w) X.A (pyNext (.ref it)) (λr s1=>r=none/\Inv X pins σ H s1) E s
 self:∀(A:AL) (i:Nat) (s:Ae) (Q:Ad->Ae->Prop) (E:Ad->Ae->Prop),tn i s.heap->Q (.ref it) s->Ar (Aw P w) A (pyIter (.ref it)) Q E s
noncomputable abbrev TI:=St->Hp->(It->Hp->Prop)->Prop
noncomputable def PIE(X:Cx)(pins:List (Addr×Obj))(σ:St)(tg:Expr)(R:It->Hp->Prop)(itv:Ad)(s2:Ae):Prop :=
 ∃(it:Addr) (fp:List Addr) (tn:Nat->Heap->Prop) (J:It) (H':Hp),itv=.ref it/\Inv X pins σ H' s2/\Turn X.prog X.w X.K tg J fp it tn/\tn 0 s2.heap/\(∀b∈fp,FpOk X pins H' b)/\R J H'
noncomputable def PI(X:Cx)(tg iter:Expr)(wi:TI):Prop :=
 ∀(pins:List (Addr×Obj)) (s:Ae) (σ:St) (H:Hp) (R:It->Hp->Prop),Inv X pins σ H s->wi σ H R ->
  Ar (Aw X.prog X.w) X.A (eval iter X.env) (λv s1=>Ar (Aw X.prog X.w) X.A (pyIter v) (PIE X pins σ tg R) X.xe s1) X.xe s
theorem go_of {M : Model}{A : AL}{E : Ad → Ae → Prop}{s : Ae}{tg : Expr}{it : Addr}{u : Ad}{o : Obj}{n : String}{vs : Array Ad}{Q : Unit → Ae → Prop}(ho : s.heap.get? it = some o) (hc : o.cls = .type n) (hd : o.data = .fields vs)
    (hn:["enumerate","zip","dict_itemiterator","dict_reverseitemiterator","odict_iterator","itertools.zip_longest","itertools.pairwise"].contains n=false) (hQ:Q () s):Ar M A (Dl tg (.ref it) u) Q E s:=by
  unfold Dl
  cases tg <;> first
    | exact Aj hQ
    | (cases u <;> first
        | exact Aj hQ
        | (refine Ac (wpAny_load ho ?_)
           rw[hc,hd]
           show Ar M A (if (["enumerate","zip","dict_itemiterator","dict_reverseitemiterator","odict_iterator","itertools.zip_longest","itertools.pairwise"].contains n && vs[0]? == some (rawInt _))=true then _ else _) Q E s
           rw[if_neg (by intro h;rw[hn,Bool.false_and] at h;cases h)]
           exact Aj hQ))
noncomputable def Itl(K:W.Frag)(a:Addr):It :=
 ⟨λi H=>∃xs x,SqL K H a xs/\xs[i]?=some x,λi H x H'=>H'=H/\∀xs,SqL K H a xs->xs[i]?=some x,λi H=>∃xs,SqL K H a xs/\xs.length<=i⟩
noncomputable def Itt(K:W.Frag)(a:Addr):It :=
 ⟨λi H=>∃xs x,SqT K H a xs/\xs[i]?=some x,λi H x H'=>H'=H/\∀xs,SqT K H a xs->xs[i]?=some x,λi H=>∃xs,SqT K H a xs/\xs.length<=i⟩
noncomputable def Itr(lo:Int)(n:Nat):It:=⟨λi _=>i<n,λi H x H'=>H'=H/\x=.int (lo+i),λi _=>n<=i⟩
theorem zik{P:AH}{w:AZ}{K:W.Frag}{tg:Expr}(a it:Addr):Turn P w K tg (Itl K a) [it] it (λi h=>h.IsListIter it a i) where
 mem:=by simp
 obj:=λi h st b hb=>by
  have e:b=it:=by simpa using hb
  subst e;obtain⟨o,e,c,d⟩:=st;exact⟨o,e,λv z=>by rw[d]at z;cases z⟩
 keep:=λi h h' st k=>st.at λo e=>k it (by simp) o e
 item:=by
  intro X hP hw hK hc i pins s σ H E I hf st hg;subst hP hw hK;obtain⟨xs,x,hq,hx⟩:=hg;obtain⟨its,rv,p,hz⟩:=I.list hq;obtain⟨u,hu,ru⟩:=rv.get hx;obtain⟨f0,f1,f2,f3,f4,f5⟩:=hf it (by simp);refine wpAny_pyNext_list_item st p.isList (x:=u) (by simpa using hu) λh' st' sb=>?_
  have I1:Inv X pins σ H { s with heap:=h' }:=I.turned (t':=s.toks) (λb o hb e=>(sb.2 b hb).trans e) f0 f1 f3 f4 f5;obtain⟨o,e,c,d⟩:=id st';exact⟨u,rfl,go_of (s:={ s with heap:=h' }) e c d (by decide) ⟨x,H,I1,ru,⟨rfl,λys hy=>by rw[I.list_inj hy hq];exact hx⟩,st',λb hb=>(hf b hb).1⟩⟩
 done:=by intro X hP hw hK hc i pins s σ H E I hf st hg;subst hP hw hK;obtain⟨xs,hq,hx⟩:=hg;obtain⟨its,rv,p,hz⟩:=I.list hq;obtain⟨f0,f1,f2,f3,f4,f5⟩:=hf it (by simp);have hl:=rv.length;exact wpAny_pyNext_list_end (I.ok.hd hc) st p.isList (by simp;lia) λh' eb=>⟨rfl,I.turned (t':=s.toks) (λb o hb e=>eb b o hb e) f0 f1 f3 f4 f5⟩
 self:=λ_ _ _ _ _ st h=>wpAny_pyIter_listiter st h
theorem zhL{P:AH}{w:AZ}{K:W.Frag}{tg:Expr}(a it:Addr):Turn P w K tg (Itt K a) [it] it (λi h=>h.IsTupleIter it a i) where
 mem:=by simp
 obj:=λi h st b hb=>by
  have e:b=it:=by simpa using hb
  subst e;obtain⟨o,e,c,d⟩:=st;exact⟨o,e,λv z=>by rw[d]at z;cases z⟩
 keep:=λi h h' st k=>st.at λo e=>k it (by simp) o e
 item:=by
  intro X hP hw hK hc i pins s σ H E I hf st hg;subst hP hw hK;obtain⟨xs,x,hq,hx⟩:=hg;obtain⟨its,rv,p,hz⟩:=I.tuple hq;obtain⟨u,hu,ru⟩:=rv.get hx;obtain⟨f0,f1,f2,f3,f4,f5⟩:=hf it (by simp);refine wpAny_pyNext_tuple_item st (show s.heap.IsTuple a its.toArray from p) (x:=u) (by simpa using hu) λh' st' sb=>?_
  have I1:Inv X pins σ H { s with heap:=h' }:=I.turned (t':=s.toks) (λb o hb e=>(sb.2 b hb).trans e) f0 f1 f3 f4 f5;obtain⟨o,e,c,d⟩:=id st';exact⟨u,rfl,go_of (s:={ s with heap:=h' }) e c d (by decide) ⟨x,H,I1,ru,⟨rfl,λys hy=>by rw[I.tuple_inj hy hq];exact hx⟩,st',λb hb=>(hf b hb).1⟩⟩
 done:=by intro X hP hw hK hc i pins s σ H E I hf st hg;subst hP hw hK;obtain⟨xs,hq,hx⟩:=hg;obtain⟨its,rv,p,hz⟩:=I.tuple hq;obtain⟨f0,f1,f2,f3,f4,f5⟩:=hf it (by simp);have hl:=rv.length;exact wpAny_pyNext_tuple_end (I.ok.hd hc) st (show s.heap.IsTuple a its.toArray from p) (by simp;lia) λh' eb=>⟨rfl,I.turned (t':=s.toks) (λb o hb e=>eb b o hb e) f0 f1 f3 f4 f5⟩
 self:=λ_ _ _ _ _ st h=>wpAny_pyIter_tupleiter st h
theorem zhM{P:AH}{w:AZ}{K:W.Frag}{tg:Expr}(it:Addr)(lo:Int)(n:Nat):Turn P w K tg (Itr lo n) [it] it (λi h=>IsRangeIter h it (lo+(i:Nat)*1) ((n:Int)-(i:Nat)) 1) where
 mem:=by simp
 obj:=λi h st b hb=>by
  have e:b=it:=by simpa using hb
  subst e
  exact⟨_,st,λv z=>by
   have z':Data.fields _=Data.cell v:=z
   cases z'⟩
 keep:=λi h h' st k=>k it (by simp) _ st
 item:=by
  intro X hP hw hK hc i pins s σ H E I hf st hg;subst hP hw hK;obtain⟨f0,f1,f2,f3,f4,f5⟩:=hf it (by simp);have W:=Walks.range (prog:=X.prog) (w:=X.w) (I.ok.hd hc) it lo 1 n;refine W.item i s _ _ hg st λv h' tk hv st' kk=>?_
  obtain⟨t,rfl⟩:=hv;have I1:Inv X pins σ H { s with heap:=h',toks:=tk }:=I.turned (λb o hb e=>kk b o (by simpa using hb) e) f0 f1 f3 f4 f5;refine⟨_,rfl,go_of (s:={ s with heap:=h',toks:=tk }) (n:="range_iterator") st' rfl rfl (by decide) ⟨.int (lo+i),H,I1,⟨t,?_⟩,⟨rfl,rfl⟩,st',λb hb=>(hf b hb).1⟩⟩;rw[Int.mul_one]
 done:=by intro X hP hw hK hc i pins s σ H E I hf st hg;subst hP hw hK;obtain⟨f0,f1,f2,f3,f4,f5⟩:=hf it (by simp);exact wpAny_pyNext_range_end (I.ok.hd hc) st (by have:n<=i:=hg;lia) λh' eb=>⟨rfl,I.turned (t':=s.toks) (λb o hb e=>eb b o hb e) f0 f1 f3 f4 f5⟩
 self:=λ_ _ _ _ _ st h=>wpAny_pyIter_rangeiter st h
section
variable {X:Cx}{tg:Expr}
noncomputable def iList(K:W.Frag)(tl:TE):TI:=λσ H R=>tl σ H λx H1=>∃a,x=.ref a/\(∃xs,SqL K H1 a xs)/\R (Itl K a) H1
noncomputable def iTup(K:W.Frag)(tl:TE):TI:=λσ H R=>tl σ H λx H1=>∃a,x=.ref a/\(∃xs,SqT K H1 a xs)/\R (Itt K a) H1
theorem zaB{l:Expr}{tl:TE}(hl:PE X l tl):PI X tg l (iList X.K tl):=by
 intro pins s σ H R I h;refine thn (hl pins s σ H _ I h) λv s1 ⟨x,H1,I1,r1,q1⟩=>?_
 obtain⟨a,e,⟨xs,hq⟩,q⟩:=q1;subst e
 cases r1
 obtain⟨its,rv,p,hz⟩:=I1.list hq;refine CY p.isList ?_
 refine⟨s1.heap.objs.size,[s1.heap.objs.size],_,_,H1,rfl,I1.kept (t':=s1.toks) λb o e=>Ag _ e,zik a _,⟨_,AC _ rfl,rfl,rfl⟩,λb hb=>?_,q⟩;have e:b=s1.heap.objs.size:=by simpa using hb
 subst e;exact I1.fpOk (Ai _) (I1.hok.fresh (Ai _))
theorem ziO{l:Expr}{tl:TE}(hl:PE X l tl):PI X tg l (iTup X.K tl):=by
 intro pins s σ H R I h;refine thn (hl pins s σ H _ I h) λv s1 ⟨x,H1,I1,r1,q1⟩=>?_
 obtain⟨a,e,⟨xs,hq⟩,q⟩:=q1;subst e
 cases r1
 obtain⟨its,rv,p,hz⟩:=I1.tuple hq;refine wpAny_pyIter_tuple (show s1.heap.IsTuple a its.toArray from p) ?_
 refine⟨s1.heap.objs.size,[s1.heap.objs.size],_,_,H1,rfl,I1.kept (t':=s1.toks) λb o e=>Ag _ e,zhL a _,⟨_,AC _ rfl,rfl,rfl⟩,λb hb=>?_,q⟩;have e:b=s1.heap.objs.size:=by simpa using hb
 subst e;exact I1.fpOk (Ai _) (I1.hok.fresh (Ai _))
theorem zhc{pins:List (Addr × Obj)}{σ : St}{H:Hp}{s:Ae}{R:It -> Hp -> Prop}{E:Ad -> Ae -> Prop}{lo hi:Int}{t u v:Tok}{tk:Nat}(I:Inv X pins σ H s)(h1 : -(2 ^ 62) <= lo)(h2:lo < 2 ^ 62)(h3 : -(2 ^ 62) <= hi)(h4:hi < 2 ^ 62)
  (q:R (Itr lo (hi-lo).toNat) H):Ar (Aw X.prog X.w) X.A (pyIter (.ref s.heap.objs.size)) (PIE X pins σ tg R) E { s with heap:=s.heap.push { cls:=.type "range",data:=.fields #[.int lo t,.int hi u,.int 1 v] },toks:=tk }:=by
 refine wpAny_pyIter_range (IsRange.new ..) (small_one h1 h2 h3 h4) ?_
 have I1:Inv X pins σ H { s with heap:=s.heap.push { cls:=.type "range",data:=.fields #[.int lo t,.int hi u,.int 1 v] },toks:=tk }:=I.kept λb o e=>Ag _ e
 refine⟨(s.heap.push { cls:=.type "range",data:=.fields #[.int lo t,.int hi u,.int 1 v] }).objs.size,[(s.heap.push { cls:=.type "range",data:=.fields #[.int lo t,.int hi u,.int 1 v] }).objs.size],_,_,H,rfl,
  I1.kept (t':=tk) λb o e=>Ag _ e,zhM _ lo (hi-lo).toNat,?_,λb hb=>?_,q⟩
 .have e1:lo+((0:Nat):Int)*1=lo:=by simp
  have e2:(((hi-lo).toNat:Nat):Int)-((0:Nat):Int)=Builtin.Range.rangeSize lo hi 1:=by rw[rangeSize_one];split <;> lia
  show IsRangeIter _ _ (lo+((0:Nat):Int)*1) ((((hi-lo).toNat:Nat):Int)-((0:Nat):Int)) 1;rw[e1,e2];exact AC _ rfl
 .have e:b=(s.heap.push { cls:=.type "range",data:=.fields #[.int lo t,.int hi u,.int 1 v] }).objs.size:=by simpa using hb
  subst e;exact I1.fpOk (Ai _) (I1.hok.fresh (Ai _))
noncomputable def iRng1(ta:TA):TI:=λσ H R=>ta σ H λvs H1=>∃j:Int,vs=[.int j]/\-(2 ^ 62)<=j/\j<2 ^ 62/\R (Itr 0 j.toNat) H1
noncomputable def iRng2(ta:TA):TI:=λσ H R=>ta σ H λvs H1=>∃i j:Int,vs=[.int i,.int j]/\(-(2 ^ 62)<=i/\i<2 ^ 62/\-(2 ^ 62)<=j/\j<2 ^ 62)/\R (Itr i (j-i).toNat) H1
theorem zcl {a:Expr}{ta:TA}{p pos:Pos}(hg:Gl X "range") (hm:X.mg "range" = none) (ha:PA X [a] ta) (hs:AK [a] X.env=[(false,eval a X.env)]:=by rfl):PI X tg (.Call (.Name "range" p) [a] [] pos) (iRng1 ta):=by
 intro pins s σ H R I h;refine Call_ (zbO I hg hm boot_range (A5 (thn (ha pos pins s σ H _ I h) λus s1 ⟨vs,H1,I1,r1,q1⟩=>?_) hs rfl));obtain⟨j,e,q1,q2,q⟩:=q1;subst e
 cases r1 with
 |cons r rr =>
  cases rr
  obtain⟨t,rfl⟩:=r;exact call_range_1 (zhc I1 (by lia) (by lia) q1 q2 (by simpa using q))
theorem zdS {a b:Expr}{ta:TA}{p pos:Pos}(hg:Gl X "range") (hm:X.mg "range" = none) (ha:PA X [a, b] ta) (hs:AK [a, b] X.env = [(false, eval a X.env), (false, eval b X.env)] := by rfl) (hs2:AK [b] X.env = [(false, eval b X.env)] := by rfl) :
  PI X tg (.Call (.Name "range" p) [a,b] [] pos) (iRng2 ta):=by
 intro pins s σ H R I h;refine Call_ (zbO I hg hm boot_range (A5 (thn (ha pos pins s σ H _ I h) λus s1 ⟨vs,H1,I1,r1,q1⟩=>?_) (by rw[hs,hs2]) (by rw[hs2];rfl)));obtain⟨i,j,e,⟨q1,q2,q3,q4⟩,q⟩:=q1;subst e
 cases r1 with
 |cons r rr =>
  cases rr with
  |cons r' rr =>
   cases rr
   obtain⟨t,rfl⟩:=r;obtain⟨t',rfl⟩:=r';exact call_range_2 (zhc I1 q1 q2 q3 q4 q)
noncomputable def tFor(wi:TI)(g:TG)(tb:TS):TS:=λD σ H=>wi σ H λJ H1=>∃W:Nat->Nat->St->Hp->Prop,(∃m,W 0 m σ H1)/\∀i m σ H,W i m σ H ->
 (J.stop i H/\D.nx σ H)∨(J.go i H/\∃N:St->Hp->Prop,(∀ σ' H',N σ' H'->∃m',m'<m/\W (i+1) m' σ' H')/\∀x H',J.yld i H x H'->g x σ H' λσ2 H2=>tb { D with nx:=N,ct:=N,bk:=D.nx } σ2 H2)
noncomputable def zdj(fp:List Addr)(h:Heap):List (Addr×Obj):=fp.filterMap λb=>(h.get? b).map λo=>(b,o)
theorem zaU{fp:List Addr}{h:Heap}{b:Addr}{o:Obj}(hb:b∈fp)(e:h.get? b=some o):(b,o)∈zdj fp h:=List.mem_filterMap.mpr ⟨b,hb,by rw[e];rfl⟩
theorem ziZ{fp:List Addr}{h:Heap}{p:Addr×Obj}(hp:p∈zdj fp h):p.1∈fp/\h.get? p.1=some p.2:=by
 obtain⟨b,hb,e⟩:=List.mem_filterMap.mp hp
 cases q:h.get? b with
 |none=>rw[q]at e;cases e
 |some o =>
  rw[q]at e;have e':(b,o)=p:=AO e;subst e';exact⟨hb,q⟩
theorem Inv.pinned{pins:List (Addr×Obj)}{σ:St}{H:Hp}{s:Ae}{fp:List Addr}(I:Inv X pins σ H s)(hf:∀b∈fp,FpOk X pins H b)(ho:∀b∈fp,∃o,s.heap.get? b=some o/\∀v,o.data≠.cell v):Inv X (pins++zdj fp s.heap) σ H s :=
 I.pins_of λp hp=>(A2.mp hp).elim (λz=>I.pin p (Au _ z)) λz=>by obtain⟨hb,e⟩:=ziZ z;obtain⟨f0,f1,f2,_⟩:=hf p.1 hb;obtain⟨o,e',d⟩:=ho p.1 hb;rw[e]at e';cases e';exact⟨e,f0,f1,f2,d⟩
theorem Inv.unpinned{pins pl:List (Addr×Obj)}{σ:St}{H:Hp}{s:Ae}(I:Inv X (pins++pl) σ H s):Inv X pins σ H s:=I.pins_of λp hp=>I.pin p (Au _ (Cp _ hp))
theorem zbI{iter:Expr}{body:List Stmt}{wi:TI}{g:TG}{tb:TS}{pos:Pos}(hp:PassesOwn (Aw X.prog X.w) X.A X.env X.xe)(hc:X.calm=true)(hi:PI X tg iter wi)(hg:PG X tg g)(hb:PSs X body tb)
  (hs:∀x,Bc iter X.env x=pure x:=by intro _;rfl):PS X (.For tg iter body [] pos) (tFor wi g tb):=by
 intro pins s σ H D I h;refine wpAny_For (thn (hi pins s σ H _ I h) λv s1 h1=>thn h1 λitv s2 h2=>?_) hs;obtain⟨it,fp,tn,J,H2,e,I2,T,st2,f2,W,⟨m0,w0⟩,turn⟩:=h2;subst e;have stat:∀{H':Hp},(∀b∈fp,H' b=none)->∀b∈fp,FpOk X pins H' b:=λhn b hb=>⟨hn b hb,(f2 b hb).2⟩
 refine codeAny_forLoop_any (λn s'=>∃i σ' H',Inv X pins σ' H' s'/\tn i s'.heap/\(∀b∈fp,H' b=none)/\W i n σ' H') ?_ m0 ⟨0,σ,H2,I2,st2,λb hb=>(f2 b hb).1,w0⟩;rintro n s3 ⟨i,σ3,H3,I3,st3,fr3,w3⟩;rcases turn i n σ3 H3 w3 with⟨stop,qn⟩ |⟨go,N,hN,step⟩
 .refine Ck hp (thn (T.done X rfl rfl rfl hc i pins s3 σ3 H3 X.xe I3 (stat fr3) st3 stop) λr s4 ⟨hr,I4⟩=>?_);subst hr;exact wpAny_execs_nil ⟨σ3,H3,I4,qn⟩
 .refine Ck hp (thn (T.item X rfl rfl rfl hc i pins s3 σ3 H3 X.xe I3 (stat fr3) st3 go) λr s4 ⟨u,hr,h4⟩=>?_);subst hr;refine Ck hp (thn h4 λ_ s5 ⟨x,H5,I5,r5,y5,st5,fr5⟩=>?_);have I5':=I5.pinned (stat fr5) (T.obj _ _ st5);refine Ck hp (thn (hg _ s5 σ3 H5 x u _ I5' r5 (step x H5 y5)) λ_ s6 ⟨σ6,H6,I6,q6⟩=>?_);refine Ck hp (thn (hb _ s6 σ6 H6 _ I6 q6) λf s7 q7=>?_)
  have again:∀{σ7:St} {H7:Hp},Inv X (pins++zdj fp s5.heap) σ7 H7 s7->N σ7 H7->∃m,m<n/\∃i σ' H',Inv X pins σ' H' s7/\tn i s7.heap/\(∀b∈fp,H' b=none)/\W i m σ' H':=λ{σ7 H7} I7 n7=>by obtain⟨m',hm,w7⟩:=hN σ7 H7 n7;refine⟨m',hm,i+1,σ7,H7,I7.unpinned,T.keep _ _ _ st5 λb hb o e=>(I7.pin (b,o) (Au _ (Au _ (zaU hb e)))).1,λb hb=>?_,w7⟩;obtain⟨o,e,d⟩:=T.obj _ _ st5 b hb;exact (I7.pin (b,o) (Au _ (Au _ (zaU hb e)))).2.1
  cases f with
  |next=>obtain⟨σ7,H7,I7,n7⟩:=q7;exact again I7 n7
  |cont=>obtain⟨σ7,H7,I7,n7⟩:=q7;exact again I7 n7
  |brk=>obtain⟨σ7,H7,I7,q7⟩:=q7;exact⟨σ7,H7,I7.unpinned,q7⟩
  |ret v=>obtain⟨x7,σ7,H7,I7,r7,q7⟩:=q7;exact⟨x7,σ7,H7,I7.unpinned,r7,q7⟩
end
theorem zar{K:W.Frag}{a:Addr}{xs:List V}{g:TG}{tb:TS}{D:Ends}{σ : St}{H:Hp}(Pv:Nat -> St -> Hp -> Prop)(h0:Pv 0 σ H)(hl:∀i σ H, i <= xs.length -> Pv i σ H -> SqL K H a xs)
  (hs:∀i x σ H,xs[i]?=some x->Pv i σ H->g x σ H λσ2 H2=>tb { D with nx:=Pv (i+1),ct:=Pv (i+1),bk:=D.nx } σ2 H2) (hd:∀ σ H,Pv xs.length σ H->D.nx σ H) :
  ∃W:Nat->Nat->St->Hp->Prop,(∃m,W 0 m σ H)/\∀i m σ H,W i m σ H ->
   ((Itl K a).stop i H/\D.nx σ H)∨((Itl K a).go i H/\∃N:St->Hp->Prop,(∀ σ' H',N σ' H'->∃m',m'<m/\W (i+1) m' σ' H')/\∀x H',(Itl K a).yld i H x H'->g x σ H' λσ2 H2=>tb { D with nx:=N,ct:=N,bk:=D.nx } σ2 H2):=by
 refine⟨λi m σ H=>m=xs.length-i/\i<=xs.length/\Pv i σ H,⟨xs.length,by simp,AV _,h0⟩,?_⟩;rintro i m σ H ⟨rfl,hi,p⟩;have q:=hl i σ H hi p
 by_cases hlt:i<xs.length
 .refine .inr ⟨⟨xs,xs[i],q,by simp[hlt]⟩,Pv (i+1),λσ' H' p'=>⟨xs.length-(i+1),by lia,rfl,hlt,p'⟩,λx H' y=>?_⟩;obtain⟨e,y⟩:=y;subst e;exact hs i x σ _ (y xs q) p
 .have e:i=xs.length:=by lia
  subst e;exact .inl ⟨⟨xs,q,Ai _⟩,hd σ H p⟩
theorem zgN{K:W.Frag}{a:Addr}{xs:List V}{g:TG}{tb:TS}{D:Ends}{σ : St}{H:Hp}(Pv:Nat -> St -> Hp -> Prop)(h0:Pv 0 σ H)(hl:∀i σ H, i <= xs.length -> Pv i σ H -> SqT K H a xs)
  (hs:∀i x σ H,xs[i]?=some x->Pv i σ H->g x σ H λσ2 H2=>tb { D with nx:=Pv (i+1),ct:=Pv (i+1),bk:=D.nx } σ2 H2) (hd:∀ σ H,Pv xs.length σ H->D.nx σ H) :
  ∃W:Nat->Nat->St->Hp->Prop,(∃m,W 0 m σ H)/\∀i m σ H,W i m σ H ->
   ((Itt K a).stop i H/\D.nx σ H)∨((Itt K a).go i H/\∃N:St->Hp->Prop,(∀ σ' H',N σ' H'->∃m',m'<m/\W (i+1) m' σ' H')/\∀x H',(Itt K a).yld i H x H'->g x σ H' λσ2 H2=>tb { D with nx:=N,ct:=N,bk:=D.nx } σ2 H2):=by
 refine⟨λi m σ H=>m=xs.length-i/\i<=xs.length/\Pv i σ H,⟨xs.length,by simp,AV _,h0⟩,?_⟩;rintro i m σ H ⟨rfl,hi,p⟩;have q:=hl i σ H hi p
 by_cases hlt:i<xs.length
 .refine .inr ⟨⟨xs,xs[i],q,by simp[hlt]⟩,Pv (i+1),λσ' H' p'=>⟨xs.length-(i+1),by lia,rfl,hlt,p'⟩,λx H' y=>?_⟩;obtain⟨e,y⟩:=y;subst e;exact hs i x σ _ (y xs q) p
 .have e:i=xs.length:=by lia
  subst e;exact .inl ⟨⟨xs,q,Ai _⟩,hd σ H p⟩
theorem zbv{lo:Int}{n:Nat}{g:TG}{tb:TS}{D:Ends}{σ : St}{H:Hp}(Pv:Nat -> St -> Hp -> Prop)(h0:Pv 0 σ H)
  (hs:∀i σ H,i<n->Pv i σ H->g (.int (lo+i)) σ H λσ2 H2=>tb { D with nx:=Pv (i+1),ct:=Pv (i+1),bk:=D.nx } σ2 H2) (hd:∀ σ H,Pv n σ H->D.nx σ H) :
  ∃W:Nat->Nat->St->Hp->Prop,(∃m,W 0 m σ H)/\∀i m σ H,W i m σ H ->
   ((Itr lo n).stop i H/\D.nx σ H)∨((Itr lo n).go i H/\∃N:St->Hp->Prop,(∀ σ' H',N σ' H'->∃m',m'<m/\W (i+1) m' σ' H')/\∀x H',(Itr lo n).yld i H x H'->g x σ H' λσ2 H2=>tb { D with nx:=N,ct:=N,bk:=D.nx } σ2 H2):=by
 refine⟨λi m σ H=>m=n-i/\i<=n/\Pv i σ H,⟨n,by simp,AV _,h0⟩,?_⟩;rintro i m σ H ⟨rfl,hi,p⟩
 by_cases hlt:i<n
 .refine .inr ⟨hlt,Pv (i+1),λσ' H' p'=>⟨n-(i+1),by lia,rfl,hlt,p'⟩,λx H' y=>?_⟩;obtain⟨e,y⟩:=y;subst e y;exact hs i σ _ hlt p
 .have e:i=n:=by lia
  subst e;exact .inl ⟨Ai _,hd σ H p⟩
theorem zjV{c:TT}{tb:TS}{D:Ends}{σ : St}{H:Hp}(Pv:St -> Hp -> Prop)(μ : St -> Hp -> Nat)(h0:Pv σ H)
  (hs:∀ σ H,Pv σ H->c σ H λb H1=>if b=true then tb { D with nx:=λσ' H'=>Pv σ' H'/\μ σ' H'<μ σ H,ct:=λσ' H'=>Pv σ' H'/\μ σ' H'<μ σ H,bk:=D.nx } σ H1 else D.nx σ H1)
  (mono:∀ σ H Q Q',(∀b H1,Q b H1->Q' b H1)->c σ H Q->c σ H Q'):zkv c tb D σ H:=by
 refine⟨λm σ H=>m=μ σ H/\Pv σ H,⟨_,rfl,h0⟩,?_⟩;rintro m σ H ⟨rfl,p⟩;refine mono σ H _ _ (λb H1 q=>?_) (hs σ H p)
 cases b with
 |true=>exact⟨_,λσ' H' ⟨p',l⟩=>⟨_,l,rfl,p'⟩,q⟩
 |false=>exact q
noncomputable abbrev R2:=V->V->Hp->VK->Prop
noncomputable def OpR(X:Cx)(f:Ad->Ad->Sem Ad)(r:R2):Prop :=
 ∀(pins:List (Addr×Obj)) (s:Ae) (σ:St) (H:Hp) (x y:V) (v u:Ad) (Q:VK),Inv X pins σ H s->RelV x v->RelV y u->r x y H Q ->
  Ar (Aw X.prog X.w) X.A (f v u) (EP X pins σ Q) X.xe s
noncomputable def UnR(X:Cx)(f:Ad->Sem Ad)(r:V->Hp->VK->Prop):Prop :=
 ∀(pins:List (Addr×Obj)) (s:Ae) (σ:St) (H:Hp) (x:V) (v:Ad) (Q:VK),Inv X pins σ H s->RelV x v->r x H Q ->
  Ar (Aw X.prog X.w) X.A (f v) (EP X pins σ Q) X.xe s
noncomputable def CallR(X:Cx)(f:Ad)(r:List V->Hp->VK->Prop):Prop :=
 ∀(pins:List (Addr×Obj)) (s:Ae) (σ:St) (H:Hp) (xs:List V) (us:List Ad) (Q:VK),Inv X pins σ H s->Vals xs us->r xs H Q ->
  Ar (Aw X.prog X.w) X.A (call f us) (EP X pins σ Q) X.xe s
noncomputable def TruR(X:Cx)(r:V->Hp->(Bool->Hp->Prop)->Prop):Prop :=
 ∀(pins:List (Addr×Obj)) (s:Ae) (σ:St) (H:Hp) (x:V) (v:Ad) (Q:Bool->Hp->Prop),Inv X pins σ H s->RelV x v->r x H Q ->
  Ar (Aw X.prog X.w) X.A (truthy v) (TP X pins σ Q) X.xe s
noncomputable def tOp(r:R2)(ta tb:TE):TE:=λσ H Q=>ta σ H λx H1=>tb σ H1 λy H2=>r x y H2 Q
noncomputable def tUn(r:V->Hp->VK->Prop)(ta:TE):TE:=λσ H Q=>ta σ H λx H1=>r x H1 Q
noncomputable def rI(C:Int->Int->Prop)(g:Int->Int->V):R2:=λx y H Q=>∃i j,x=.int i/\y=.int j/\C i j/\Q (g i j) H
noncomputable def rI0(g:Int->Int->V):R2:=λx y H Q=>∃i j,x=.int i/\y=.int j/\Q (g i j) H
noncomputable def rU(g:Int->V):V->Hp->VK->Prop:=λx H Q=>∃i,x=.int i/\Q (g i) H
section
variable {X:Cx}{a b c:Expr}{ta tb tc:TE}{pos:Pos}
theorem binT(ha:PE X a ta)(hb:PE X b tb){pins:List (Addr × Obj)}{s:Ae}{σ : St}{H:Hp}{R:V -> V -> Hp -> Prop}(I:Inv X pins σ H s)
  (h:ta σ H λx H1=>tb σ H1 λy H2=>R x y H2) {Q:Ad->Ae->Prop} {f:Ad->Ad->Sem Ad}
  (hf:∀v u s2 x y H2,Inv X pins σ H2 s2->RelV x v->RelV y u->R x y H2->Ar (Aw X.prog X.w) X.A (f v u) Q X.xe s2) :
  Ar (Aw X.prog X.w) X.A (eval a X.env) (λv s₁=>Ar (Aw X.prog X.w) X.A (eval b X.env) (λu s₂=>Ar (Aw X.prog X.w) X.A (f v u) Q X.xe s₂) X.xe s₁) X.xe s:=by
 refine thn (ha pins s σ H _ I h) λv s1 ⟨x,H1,I1,r1,q1⟩=>?_
 refine thn (hb pins s1 σ H1 _ I1 q1) λu s2 ⟨y,H2,I2,r2,q2⟩=>?_
 exact hf v u s2 x y H2 I2 r1 r2 q2
theorem pe_op{op:Operator}{r:R2}(ho:OpR X (binaryOp op) r)(ha:PE X a ta)(hb:PE X b tb):PE X (.BinOp a op b pos) (tOp r ta tb):=by intro pins s σ H Q I h;exact wpAny_BinOp (binT ha hb I h λv u s2 x y H2 I2 rx ry q=>ho pins s2 σ H2 x y v u Q I2 rx ry q)
theorem pe_un{op:UnaryOp}{r:V->Hp->VK->Prop}(ho:UnR X (unaryOp op) r)(ha:PE X a ta):PE X (.UnaryOp op a pos) (tUn r ta):=by intro pins s σ H Q I h;exact UnaryOp_ (thn (ha pins s σ H _ I h) λv s1 ⟨x,H1,I1,r1,q1⟩=>ho pins s1 σ H1 x v Q I1 r1 q1)
theorem opI{f:Ad -> Ad -> Sem Ad}{C:Int -> Int -> Prop}{g:Int -> Int -> Int}
  (rule:∀(i j:Int) (t u:Tok) (s:Ae) (Q:Ad->Ae->Prop) (E:Ad->Ae->Prop),C i j->Q (.int (g i j) s.toks) { s with toks:=s.toks+1 }->Ar (Aw X.prog X.w) X.A (f (.int i t) (.int j u)) Q E s) :
  OpR X f (rI C λi j=>.int (g i j)):=by
 intro pins s σ H x y v u Q I rx ry h;obtain⟨i,j,rfl,rfl,hc,q⟩:=h;obtain⟨t,rfl⟩:=rx;obtain⟨t',rfl⟩:=ry;exact rule i j t t' s _ _ hc ⟨.int (g i j),H,I.tok _,⟨_,rfl⟩,q⟩
theorem opI0{f:Ad -> Ad -> Sem Ad}{g:Int -> Int -> Int}
  (rule:∀(i j:Int) (t u:Tok) (s:Ae) (Q:Ad->Ae->Prop) (E:Ad->Ae->Prop),Q (.int (g i j) s.toks) { s with toks:=s.toks+1 }->Ar (Aw X.prog X.w) X.A (f (.int i t) (.int j u)) Q E s) :
  OpR X f (rI0 λi j=>.int (g i j)):=by
 intro pins s σ H x y v u Q I rx ry h;obtain⟨i,j,rfl,rfl,q⟩:=h;obtain⟨t,rfl⟩:=rx;obtain⟨t',rfl⟩:=ry;exact rule i j t t' s _ _ ⟨.int (g i j),H,I.tok _,⟨_,rfl⟩,q⟩
theorem opB0{f:Ad -> Ad -> Sem Ad}{g:Int -> Int -> Bool}
  (rule:∀(i j:Int) (t u:Tok) (s:Ae) (Q:Ad->Ae->Prop) (E:Ad->Ae->Prop),Q (.bool (g i j)) s->Ar (Aw X.prog X.w) X.A (f (.int i t) (.int j u)) Q E s) :
  OpR X f (rI0 λi j=>.bl (g i j)):=by
 intro pins s σ H x y v u Q I rx ry h;obtain⟨i,j,rfl,rfl,q⟩:=h;obtain⟨t,rfl⟩:=rx;obtain⟨t',rfl⟩:=ry;exact rule i j t t' s _ _ ⟨.bl (g i j),H,I,rfl,q⟩
noncomputable def CDiv(i j:Int):Prop:=0<j/\j<1073741824
noncomputable def CPow(i j:Int):Prop:=0<=j/\j<=1000000/\i.natAbs<2 ^ 64
noncomputable def CMul(i j:Int):Prop:=(-(2 ^ 64)<i/\i<2 ^ 64)∨(-(2 ^ 64)<j/\j<2 ^ 64)
theorem CMul.ok{i j:Int}(h:CMul i j):IntMulOk i j:=by
 rcases h with⟨h1,h2⟩ |⟨h1,h2⟩
 .exact .of_left (intBits_le_64 h1 h2)
 .exact .of_right (intBits_le_64 h1 h2)
theorem zaL:OpR X (binaryOp .Add) (rI0 λi j=>.int (i+j)):=opI0 λ_ _ _ _ _ _ _ q=>add_int q
theorem zaI:OpR X (binaryOp .Sub) (rI0 λi j=>.int (i-j)):=opI0 λ_ _ _ _ _ _ _ q=>sub_int q
theorem zbl:OpR X (binaryOp .Mult) (rI CMul λi j=>.int (i*j)):=opI λ_ _ _ _ _ _ _ hc q=>mul_int q hc.ok
theorem zlm:OpR X (binaryOp .FloorDiv) (rI CDiv λi j=>.int (i / j)):=opI λi j _ _ _ _ _ hc q=>by have h1:(0:Int)<j:=hc.1;have h2:j<1073741824:=hc.2;exact floordiv_int (by lia) (by rw[Int.fdiv_eq_ediv_of_nonneg i (by lia)];exact q) (.inl (PyProof.noPylong_small (by lia)))
theorem zbN:OpR X (binaryOp .Mod) (rI (λ_ j=>0<j) λi j=>.int (i % j)):=opI λi j _ _ _ _ _ hc q=>by have h1:(0:Int)<j:=hc;exact mod_int' (by lia) (by rw[Int.fmod_eq_emod_of_nonneg i (by lia)];exact q)
theorem zey:OpR X (binaryOp .Pow) (rI CPow λi j=>.int (i ^ j.toNat)):=opI λ_ _ _ _ _ _ _ hc q=>pow_int_small hc.1 hc.2.1 hc.2.2 q
theorem unI{f:Ad -> Sem Ad}{g:Int -> Int}
  (rule:∀(i:Int) (t:Tok) (s:Ae) (Q:Ad->Ae->Prop) (E:Ad->Ae->Prop),Q (.int (g i) s.toks) { s with toks:=s.toks+1 }->Ar (Aw X.prog X.w) X.A (f (.int i t)) Q E s) :
  UnR X f (rU λi=>.int (g i)):=by
 intro pins s σ H x v Q I rx h;obtain⟨i,rfl,q⟩:=h;obtain⟨t,rfl⟩:=rx;exact rule i t s _ _ ⟨.int (g i),H,I.tok _,⟨_,rfl⟩,q⟩
theorem zdA:UnR X (unaryOp .USub) (rU λi=>.int (-i)):=unI λ_ _ _ _ _ q=>neg_int q
end
noncomputable def scal:V->V->Bool
 |.non,.non=>true |.non,.int _=>true |.int _,.non=>true |.non,.bl _=>true |.bl _,.non=>true |.non,.str _=>true |.str _,.non=>true
 |.int _,.int _=>true |.bl _,.bl _=>true |.str _,.str _=>true |.byt _,.byt _=>true
 |.int _,.str _=>true |.str _,.int _=>true |.bl _,.str _=>true |.str _,.bl _=>true
 |_,_=>false
noncomputable def rEq:R2:=λx y H Q=>scal x y=true/\Q (.bl (decide (x=y))) H
noncomputable def rNe:R2:=λx y H Q=>scal x y=true/\Q (.bl (!decide (x=y))) H
theorem zjs{i j:Int}:decide (V.int i=V.int j)=(i == j):=by rw[Cm];simp
theorem zkS{i j:Bool}:decide (V.bl i=V.bl j)=(i == j):=by rw[Cm];simp
theorem zjr{i j:Str}:decide (V.str i=V.str j)=(i == j):=by rw[Cm];simp
theorem zjt{i j:Array UInt8}:decide (V.byt i=V.byt j)=(i.toList == j.toList):=by
 rw[Cm]
 cases i
 cases j
 simp
section
variable {X:Cx}{a b c:Expr}{ta tb tc:TE}{pos:Pos}
theorem zaG{pins:List (Addr×Obj)}{σ:St}{H:Hp}{s:Ae}{Q:VK}{k k':Bool}(I:Inv X pins σ H s)(q:Q (.bl k) H)(e:k=k'):EP X pins σ Q (.bool k') s:=by subst e;exact⟨.bl k,H,I,rfl,q⟩
theorem op_eq:OpR X (By .Eq) rEq:=by
 intro pins s σ H x y v u Q I rx ry h;obtain⟨hs,q⟩:=h
 cases x with
 |non =>
  cases rx
  cases y with
  |non=>cases ry;exact PySem.EqNone.eq_none_none (zaG I q (by simp))
  |bl j=>cases ry;exact PySem.EqNone.eq_none_bool (zaG I q (by simp))
  |int j=>obtain⟨t',rfl⟩:=ry;exact PySem.EqNone.eq_none_int (zaG I q (by simp))
  |str j=>obtain⟨t',rfl⟩:=ry;exact PySem.EqNone.eq_none_str (zaG I q (by simp))
  |_=>exact absurd (show false=true from hs) AM
 |bl i =>
  cases rx
  cases y with
  |non=>cases ry;exact PySem.EqNone.eq_bool_none (zaG I q (by simp))
  |bl j=>cases ry;exact eq_bool (zaG I q zkS)
  |str j=>obtain⟨t',rfl⟩:=ry;exact PySem.EqMixed.eq_bool_str (zaG I q (by simp))
  |_=>exact absurd (show false=true from hs) AM
 |int i =>
  obtain⟨t,rfl⟩:=rx
  cases y with
  |non=>cases ry;exact PySem.EqNone.eq_int_none (zaG I q (by simp))
  |int j=>obtain⟨t',rfl⟩:=ry;exact eq_int (zaG I q zjs)
  |str j=>obtain⟨t',rfl⟩:=ry;exact PySem.EqMixed.eq_int_str (zaG I q (by simp))
  |_=>exact absurd (show false=true from hs) AM
 |str i =>
  obtain⟨t,rfl⟩:=rx
  cases y with
  |non=>cases ry;exact PySem.EqNone.eq_str_none (zaG I q (by simp))
  |bl j=>cases ry;exact PySem.EqMixed.eq_str_bool (zaG I q (by simp))
  |int j=>obtain⟨t',rfl⟩:=ry;exact PySem.EqMixed.eq_str_int (zaG I q (by simp))
  |str j=>obtain⟨t',rfl⟩:=ry;exact eq_str (zaG I q zjr)
  |_=>exact absurd (show false=true from hs) AM
 |byt i =>
  obtain⟨t,rfl⟩:=rx
  cases y with
  |byt j=>obtain⟨t',rfl⟩:=ry;exact W.eq_bytes (zaG I q zjt)
  |_=>exact absurd (show false=true from hs) AM
 |_=>cases y <;> exact absurd (show false=true from hs) AM
theorem op_ne:OpR X (By .NotEq) rNe:=by
 intro pins s σ H x y v u Q I rx ry h;obtain⟨hs,q⟩:=h
 cases x with
 |non =>
  cases rx
  cases y with
  |non=>cases ry;exact PySem.EqNone.ne_none_none (zaG I q (by simp))
  |bl j=>cases ry;exact PySem.EqNone.ne_none_bool (zaG I q (by simp))
  |int j=>obtain⟨t',rfl⟩:=ry;exact PySem.EqNone.ne_none_int (zaG I q (by simp))
  |str j=>obtain⟨t',rfl⟩:=ry;exact PySem.EqNone.ne_none_str (zaG I q (by simp))
  |_=>exact absurd (show false=true from hs) AM
 |bl i =>
  cases rx
  cases y with
  |non=>cases ry;exact PySem.EqNone.ne_bool_none (zaG I q (by simp))
  |bl j=>cases ry;exact ne_bool (zaG I q (congrArg not zkS))
  |str j=>obtain⟨t',rfl⟩:=ry;exact PySem.EqMixed.ne_bool_str (zaG I q (by simp))
  |_=>exact absurd (show false=true from hs) AM
 |int i =>
  obtain⟨t,rfl⟩:=rx
  cases y with
  |non=>cases ry;exact PySem.EqNone.ne_int_none (zaG I q (by simp))
  |int j=>obtain⟨t',rfl⟩:=ry;exact ne_int (zaG I q (congrArg not zjs))
  |str j=>obtain⟨t',rfl⟩:=ry;exact PySem.EqMixed.ne_int_str (zaG I q (by simp))
  |_=>exact absurd (show false=true from hs) AM
 |str i =>
  obtain⟨t,rfl⟩:=rx
  cases y with
  |non=>cases ry;exact PySem.EqNone.ne_str_none (zaG I q (by simp))
  |bl j=>cases ry;exact PySem.EqMixed.ne_str_bool (zaG I q (by simp))
  |int j=>obtain⟨t',rfl⟩:=ry;exact PySem.EqMixed.ne_str_int (zaG I q (by simp))
  |str j=>obtain⟨t',rfl⟩:=ry;exact ne_str (zaG I q (congrArg not zjr))
  |_=>exact absurd (show false=true from hs) AM
 |byt i =>
  obtain⟨t,rfl⟩:=rx
  cases y with
  |byt j=>obtain⟨t',rfl⟩:=ry;exact W.ne_bytes (zaG I q (congrArg not zjt))
  |_=>exact absurd (show false=true from hs) AM
 |_=>cases y <;> exact absurd (show false=true from hs) AM
theorem op_lt:OpR X (By .Lt) (rI0 λi j=>.bl (decide (i<j))):=opB0 λ_ _ _ _ _ _ _ q=>lt_int q
theorem op_le:OpR X (By .LtE) (rI0 λi j=>.bl (decide (i<=j))):=opB0 λ_ _ _ _ _ _ _ q=>le_int q
theorem op_gt:OpR X (By .Gt) (rI0 λi j=>.bl (decide (j<i))):=opB0 λ_ _ _ _ _ _ _ q=>gt_int q
theorem op_ge:OpR X (By .GtE) (rI0 λi j=>.bl (decide (j<=i))):=opB0 λ_ _ _ _ _ _ _ q=>ge_int q
theorem zkJ:OpR X (By .Is) (λx y H Q=>y=.non/\Q (.bl (decide (x=.non))) H):=by
 intro pins s σ H x y v u Q I rx ry h;obtain⟨rfl,q⟩:=h
 cases ry
 refine is_none_gen (zaG I q ?_)
 cases x <;> first
  | (cases rx;rfl)
  | (obtain⟨t,rfl⟩:=rx;rfl)
theorem ziT:OpR X (By .IsNot) (λx y H Q=>y=.non/\Q (.bl (!decide (x=.non))) H):=by
 intro pins s σ H x y v u Q I rx ry h;obtain⟨rfl,q⟩:=h
 cases ry
 refine isnot_none_gen (zaG I q ?_)
 cases x <;> first
  | (cases rx;rfl)
  | (obtain⟨t,rfl⟩:=rx;rfl)
theorem zax(b:Expr){op:CmpOp}(h:op≠.In:=by decide)(h2:op≠.NotIn:=by decide):behindInMarks op b=false:=by
 have e1:(op == CmpOp.In)=false:=by cases op <;> first |rfl |exact absurd rfl h
 have e2:(op == CmpOp.NotIn)=false:=by cases op <;> first |rfl |exact absurd rfl h2
 cases b <;> simp[behindInMarks,e1,e2]
theorem za2{op:CmpOp}{r:R2}(ho:OpR X (By op) r)(ha:PE X a ta)(hb:PE X b tb)(hm:behindInMarks op b=false):PE X (.Compare a [op] [b] pos) (tOp r ta tb):=by intro pins s σ H Q I h;exact wpAny_Compare1 (binT ha hb I h λv u s2 x y H2 I2 rx ry q=>ho pins s2 σ H2 x y v u Q I2 rx ry q) hm
noncomputable def tTest(t:TE):TT:=λσ H Q=>t σ H λx H'=>∃k,x=.bl k/\Q k H'
theorem zaD{op:CmpOp}{r:R2}(ho:OpR X (By op) r)(ha:PE X a ta)(hb:PE X b tb)(hm:behindInMarks op b=false):PT X (.Compare a [op] [b] pos) (tTest (tOp r ta tb)):=by
 intro pins s σ H Q I h
 refine wpAny_isTrue_Compare1 (thn (ha pins s σ H _ I h) λv s1 ⟨x,H1,I1,r1,q1⟩=>thn (hb pins s1 σ H1 _ I1 q1) λu s2 ⟨y,H2,I2,r2,q2⟩ =>
  thn (ho pins s2 σ H2 x y v u _ I2 r1 r2 q2) λc s3 ⟨z,H3,I3,r3,k,e,q3⟩=>?_) hm
 subst e
 cases r3
 exact Br ⟨H3,I3,q3⟩
noncomputable def TruV(K:W.Frag)(x:V)(H:Hp)(k:Bool):Prop :=
 match x with
 |.non=>k=false
 |.bl b=>k=b
 |.int i=>k=(i != 0)
 |.str y=>y.length<=sizeLine/\k=((y.length:Int) != 0)
 |.byt y=>y.size<=sizeLine/\k=((y.size:Int) != 0)
 |.ref p=>(∃xs,SqL K H p xs/\k=!xs.isEmpty)∨(∃xs,SqT K H p xs/\k=!xs.isEmpty)∨∃kvs,H p=some (.dK kvs)/\k=!kvs.isEmpty
 |_=>False
theorem zh7{κ:Type}{kvs:List (κ×V)}{vs:List (κ×Ad)}(r:KV kvs vs):(!vs.isEmpty)=!kvs.isEmpty:=by
 cases r <;> rfl
theorem zeC{xs:List V}{its:List Ad}(r:Vals xs its):(!its.toArray.isEmpty)=!xs.isEmpty:=by
 cases r <;> simp
theorem zfW:(sizeLine:Nat)<2 ^ 63:=by rw[sizeLine_eq];decide
theorem zlZ:TruR X (λx H Q=>∃k,TruV X.K x H k/\Q k H):=by
 intro pins s σ H x v Q I rx h;obtain⟨k,e,q⟩:=h;have hl:=zfW;have hs:sizeLine=16777216:=sizeLine_eq
 cases x with
 |non =>
  cases rx
  have e':k=false:=e;subst e';exact truthy_none ⟨H,I,q⟩
 |bl b =>
  cases rx
  have e':k=b:=e;subst e';exact Br ⟨H,I,q⟩
 |int i =>
  obtain⟨t,rfl⟩:=rx;have e':k=(i != 0):=e;subst e';exact PySem.P.truthy_int ⟨H,I,q⟩
 |str y =>
  obtain⟨t,rfl⟩:=rx;obtain⟨hy,e'⟩:y.length<=sizeLine/\k=((y.length:Int) != 0):=e;subst e';exact PySem.P.truthy_str (by lia) ⟨H,I.tok _,q⟩
 |byt y =>
  obtain⟨t,rfl⟩:=rx;obtain⟨hy,e'⟩:y.size<=sizeLine/\k=((y.size:Int) != 0):=e;subst e';exact W.truthy_bytes (by lia) ⟨H,I.tok _,q⟩
 |ref p =>
  cases rx
  have e':(∃xs,SqL X.K H p xs/\k=!xs.isEmpty)∨(∃xs,SqT X.K H p xs/\k=!xs.isEmpty)∨∃kvs,H p=some (.dK kvs)/\k=!kvs.isEmpty:=e;rcases e' with⟨xs,hx,e'⟩ |⟨xs,hx,e'⟩ |⟨kvs,hx,e'⟩
  .subst e';obtain⟨its,r,pl,hz⟩:=I.list hx;have hlen:=r.length;exact wpAny_truthy_list pl.isList (by simp only[Az];lia) ⟨H,I.tok _,by rw[zeC r];exact q⟩
  .subst e';obtain⟨its,r,pl,hz⟩:=I.tuple hx;have hlen:=r.length;exact truthy_tuple pl (by simp only[Az];lia) ⟨H,I.tok _,by rw[zeC r];exact q⟩
  .subst e';obtain⟨hz,hS,vs,r,m⟩:kvs.length<=sizeLine/\(p == CL)=false/\∃vs,KV kvs vs/\s.heap.DictOf (zaX X.prog X.w) p vs:=I.hok p _ hx;have hlen:kvs.length=vs.length:=Paired.length r;exact wpAny_truthy_dict hS m (by lia) ⟨H,I.tok _,by rw[zh7 r];exact q⟩
 |_=>exact (show False from e).elim
theorem zhe(ha:PE X a ta)(he:∀whole, isTrue a X.env whole=(do let v <- whole; standAt a.pos; C8 [v] (truthy v))) :
  PT X a (λσ H Q=>ta σ H λx H'=>∃k,TruV X.K x H' k/\Q k H'):=by
 intro pins s σ H Q I h;exact isTrue_plain (thn (ha pins s σ H _ I h) λv s1 ⟨x,H1,I1,r1,q1⟩=>zlZ pins s1 σ H1 x v Q I1 r1 q1) (he _)
theorem vals1{x:V}{us:List Ad}(r:Vals [x] us):∃u,us=[u]/\RelV x u:=by
 cases r with
 |cons r1 r2=>cases r2;exact⟨_,rfl,r1⟩
theorem vals2{x y:V}{us:List Ad}(r:Vals [x,y] us):∃u w',us=[u,w']/\RelV x u/\RelV y w':=by
 cases r with
 |cons r1 r2 =>
  cases r2 with
  |cons r3 r4=>cases r4;exact⟨_,_,rfl,r1,r3⟩
theorem zhD:CallR X (.builtin "abs") (λxs H Q=>∃i,xs=[.int i]/\Q (.int (if i<0 then -i else i)) H):=by intro pins s σ H xs us Q I r h;obtain⟨i,rfl,q⟩:=h;obtain⟨u,rfl,t,rfl⟩:=vals1 r;exact call_abs_int λu tk=>⟨.int (if i<0 then -i else i),H,I.tok _,⟨_,rfl⟩,q⟩
theorem zjH (hc:X.calm=true):CallR X (.builtin "max") (λxs H Q=>∃i j,xs=[.int i,.int j]/\Q (.int (if j > i then j else i)) H):=by
 intro pins s σ H xs us Q I r h;obtain⟨i,j,rfl,q⟩:=h;obtain⟨u,w',rfl,⟨t,rfl⟩,⟨t',rfl⟩⟩:=vals2 r;refine max_two_ints (I.ok.hd hc) λh' tk k=>⟨_,H,I.kept k,?_,q⟩
 by_cases hj:j > i
 .rw[if_pos hj,if_pos hj];exact⟨_,rfl⟩
 .rw[if_neg hj,if_neg hj];exact⟨_,rfl⟩
theorem zjF (hc:X.calm=true):CallR X (.builtin "min") (λxs H Q=>∃i j,xs=[.int i,.int j]/\Q (.int (if j<i then j else i)) H):=by
 intro pins s σ H xs us Q I r h;obtain⟨i,j,rfl,q⟩:=h;obtain⟨u,w',rfl,⟨t,rfl⟩,⟨t',rfl⟩⟩:=vals2 r;refine min_two_ints (I.ok.hd hc) λh' tk k=>⟨_,H,I.kept k,?_,q⟩
 by_cases hj:j<i
 .rw[if_pos hj,if_pos hj];exact⟨_,rfl⟩
 .rw[if_neg hj,if_neg hj];exact⟨_,rfl⟩
theorem zf4:CallR X (.type "int") (λxs H Q=>(∃i,xs=[.int i]/\Q (.int i) H)∨∃k,xs=[.bl k]/\Q (.int (if k then 1 else 0)) H):=by
 intro pins s σ H xs us Q I r h;rcases h with⟨i,rfl,q⟩ |⟨k,rfl,q⟩
 .obtain⟨u,rfl,t,rfl⟩:=vals1 r;exact call_int_int ⟨.int i,H,I,⟨_,rfl⟩,q⟩
 .obtain⟨u,rfl,r1⟩:=vals1 r
  cases r1
  exact call_int_bool ⟨.int (if k then 1 else 0),H,I.tok _,⟨_,rfl⟩,q⟩
end
structure ObjM (h:Heap) (x dx C:Addr) (mA:Str->Option Ad):Prop where
 obj:h.get? x=some (W.instObj C dx)
 ns:h.Ns1 dx mA
 ne:dx≠x
theorem zjg{h:Heap}{dx:Addr}{mA:Str->Option Ad}(n:h.Ns1 dx mA):∃od,h.get? dx=some od/\∀name,W.lookIn name od=some (mA name):=by
 obtain⟨o,es,ep,ho,hd,hk,_,hm⟩:=n;refine⟨o,ho,λname=>?_⟩;have e:=hm name;unfold nsFind findBy at e;rw[<- Array.find?_toList]at e;unfold W.lookIn;rw[hd];dsimp only;split
 .rename_i y q
  rw[q]at e;exact congrArg some e
 .rename_i q
  rw[q]at e
  have a:es.toList.any (·.refKey)=false:=by rw[List.any_eq_false];intro y hy;obtain⟨z,t,hkey⟩:=hk y (Array.mem_toList_iff.mp hy);simp[DictEntry.refKey,hkey]
  have a':¬ es.toList.any (·.refKey)=true:=by rw[a];exact AM
  rw[if_neg a'];exact congrArg some e
theorem ObjM.look{h:Heap}{x dx C:Addr}{mA:Str->Option Ad}(I:ObjM h x dx C mA):∃od,W.InstAt h x (W.instObj C dx) C (some od)/\∀name,W.lookIn name od=some (mA name) :=
 let ⟨od,ho,hl⟩:=zjg I.ns
 ⟨od,⟨I.obj,rfl,rfl,ho⟩,hl⟩
section
variable {prog:AH}{w:AZ}{A:AL}{E:Ad->Ae->Prop}{s:Ae}{K:W.Frag}{x dx C f:Addr}{mA:Str->Option Ad}{name:Str}{v:Ad}
end
section
variable {P:AH}{w:AZ}{H H':Hp}{h h':Heap}{a C dx:Addr}{fs fs':List (Str×V)}
theorem zlC(hok:HOk P w H h)(e:H a=some (.ins C dx fs)):∃mA,ObjM h a dx C mA/\(∀f,RelO (fs.lookup f) (mA f))/\PySem.Within mA (fs.map (·.1))/\fs.length<=1000/\H dx=some (.own a):=by obtain⟨d,z,ne,ob,mA,n,r,q⟩:=(show ObjOk P w H h a (.ins C dx fs) from hok a _ e);exact⟨mA,⟨ob,n,ne⟩,r,q,z,d⟩
end
structure Cls (K:W.Frag) (C:Addr):Prop where
 pg:W.plainGet K C Str.empty=true
 hd:W.hasDictIn K C=true
 po:W.plainOver K C=true
 sa:W.findIn K (.ref C) "__setattr__" = some (some (.builtin "object.__setattr__"))
theorem Cls.get{K:W.Frag}{C:Addr}(c:Cls K C)(f:Str):W.plainGet K C f=true:=c.pg
structure Con (K:W.Frag) (C:Addr) (f:Str) (v:V) (u:Ad):Prop where
 at_:W.findIn K (.ref C) f=some (some u)
 rel:RelV v u
 get:W.specialIn K u "__get__" = some none
 cp:W.copiedNames.contains f=false
structure Meth (K:W.Frag) (C:Addr) (m:Str) (f:Addr):Prop where
 at_:W.findIn K (.ref C) m=some (some (.ref f))
 fn:W.isFn K (.ref f)=true
 kp:W.keepIn K (.ref f)=true
section
variable {X:Cx}{pins:List (Addr×Obj)}{σ:St}{H:Hp}{s:Ae}{a C dx:Addr}{fs:List (Str×V)}{f:Str}{v:V}{A:AL}{E:Ad->Ae->Prop}
end
section
variable {X:Cx}{o e value:Expr}{f:Str}{pos pos' tpos:Pos}{ta tv:TE}
end
section
variable {X:Cx}{pins:List (Addr×Obj)}{σ:St}{H:Hp}{s:Ae}{A:AL}{E:Ad->Ae->Prop}{Q:Ad->Ae->Prop}{c:Ad}{b:Bool}
inductive TyOf (K:W.Frag) (H:Hp):V->Ad->Prop where
  |non:TyOf K H .non (.type "NoneType")
  |bl (x:Bool):TyOf K H (.bl x) (.type "bool")
  |int (i:Int):TyOf K H (.int i) (.type "int")
  |str (x:Str):TyOf K H (.str x) (.type "str")
  |flt (x:UInt64):TyOf K H (.flt x) (.type "float")
  |lst {a:Addr} {xs:List V} (e:H a=some (.lst xs)):TyOf K H (.ref a) (.type "list")
  |frz {a:Addr} {o:Obj} {xs:List V} (e:H a=some (.frz o (.lst xs))):TyOf K H (.ref a) (.type "list")
  |tup {a:Addr} {xs:List V} (e:H a=some (.tup xs)):TyOf K H (.ref a) (.type "tuple")
  |dK {a:Addr} {kvs:List (Key×V)} (e:H a=some (.dK kvs)):TyOf K H (.ref a) (.type "dict")
  |dT {a:Addr} {kvs:List (List Key×V)} (e:H a=some (.dT kvs)):TyOf K H (.ref a) (.type "dict")
  |ins {a C dx:Addr} {fs:List (Str × V)} (e:H a=some (.ins C dx fs)) (cl:Cls K C) (ha:W.findIn K (.ref C) "__class__" = some (some (.builtin "object.__class__")))
      (hn:W.specialIn K (.builtin "object.__class__") "__get__" = some (some (.builtin "getset_descriptor.__get__"))) (htk:W.takesIn K (.builtin "object.__class__")=some true)
      (hm:W.mroIn K C (.type "object")=some true):TyOf K H (.ref a) (.ref C)
theorem zjm{x:V}{u t:Ad}(I:Inv X pins σ H s)(rx:RelV x u)(ty:TyOf X.K H x t)(e:W.kitOne X.K t c=some b)(h:∀tk, Q (.bool b) { s with toks := tk }) :
  Ar (Aw X.prog X.w) A (call (.builtin "isinstance") [u,c]) Q E s:=by
 cases ty with
 |non=>cases (show u=C1 from rx);exact CU W.kitx_none I.kIn Ca e (λz=>nomatch z) h
 |bl y=>cases (show u=Dr y from rx);exact CU W.kitx_bool I.kIn Ca e (λz=>nomatch z) h
 |int i=>obtain⟨t,q⟩:=(show ∃t,u=C6 i t from rx);cases q;exact CU W.kitx_int I.kIn Ca e (λz=>nomatch z) h
 |str y=>obtain⟨t,q⟩:=(show ∃t,u=Value.str y t from rx);cases q;exact CU W.kitx_str I.kIn Ca e (λz=>nomatch z) h
 |flt y=>obtain⟨t,q⟩:=(show ∃t,u=Value.float y t from rx);cases q;exact CU W.kitx_float I.kIn Ca e (λz=>nomatch z) h
 |@lst a xs ea =>
  cases (show u=AA a from rx)
  obtain⟨_,_,n,_,h1⟩:=(show ObjOk X.prog X.w H s.heap a (.lst xs) from I.hok a _ ea);exact CU W.kitx_list I.kIn ⟨_,h1,rfl⟩ e (λz=>nomatch z) h
 |@frz a ob xs ea =>
  cases (show u=AA a from rx)
  obtain⟨_,_,_,n,_,h1⟩:=(show ObjOk X.prog X.w H s.heap a (.frz ob (.lst xs)) from I.hok a _ ea);exact CU W.kitx_list I.kIn ⟨_,h1,rfl⟩ e (λz=>nomatch z) h
 |@tup a xs ea =>
  cases (show u=AA a from rx)
  obtain⟨_,_,_,p⟩:=(show ObjOk X.prog X.w H s.heap a (.tup xs) from I.hok a _ ea);obtain⟨o,h1,h2,_⟩:=p;exact CU W.kitx_tuple I.kIn ⟨o,h1,h2⟩ e (λz=>nomatch z) h
 |@dK a kvs ea =>
  cases (show u=AA a from rx)
  obtain⟨_,_,vs,_,p⟩:=(show ObjOk X.prog X.w H s.heap a (.dK kvs) from I.hok a _ ea);obtain⟨o,es,ep,h1,h2,_⟩:=p;exact CU W.kitx_dict I.kIn ⟨o,h1,h2.1⟩ e (λz=>nomatch z) h
 |@dT a kvs ea =>
  cases (show u=AA a from rx)
  obtain⟨_,_,xs,_,o,es,ep,h1,h2,_⟩:=(show ObjOk X.prog X.w H s.heap a (.dT kvs) from I.hok a _ ea);exact CU W.kitx_dict I.kIn ⟨o,h1,h2.1⟩ e (λz=>nomatch z) h
 |@ins a C dx fs ea cl ha hn htk hm =>
  cases (show u=AA a from rx)
  obtain⟨mA,O,_⟩:=zlC I.hok ea;obtain⟨od,J,_⟩:=O.look;exact CU (W.kitx_own (cl.get _) cl.hd ha hn htk hm) I.kIn J e (λz=>nomatch z) h
end
structure Room (k:Nat) (A:AL):Prop where
 hd:A.handled=none
 dp:A.depth+3*k+5<recursionLimit
 un:A.units+16*k+200<cLine
theorem Room.mono{j k:Nat}{A:AL}(r:Room k A)(h:j<=k):Room j A:=⟨r.hd,by have:=r.dp;lia,by have:=r.un;lia⟩
theorem Room.deeper{k:Nat}{A:AL}(r:Room (k+1) A)(env:Env):Room k (A.deeper env) :=
 ⟨r.hd,by have:=r.dp;show A.depth+1+3*k+5<_;lia,by have:=r.un;show A.units+3+16*k+200<_;lia⟩
theorem Room.in1{k:Nat}{A:AL}(r:Room (k+1) A):Room k A.in1 :=
 ⟨r.hd,by have:=r.dp;show A.depth+3*k+5<_;lia,by have:=r.un;show A.units+1+16*k+200<_;lia⟩
theorem Room.depth{k:Nat}{A:AL}(r:Room k A):A.depth<recursionLimit:=by have:=r.dp;lia
theorem Room.units{k:Nat}{A:AL}(r:Room k A):A.units+64<cLine:=by have:=r.un;lia
theorem Room.units0{k:Nat}{A:AL}(r:Room k A):A.units<cLine:=by have:=r.un;lia
noncomputable def tNil:TA:=λ_ H Q=>Q [] H
noncomputable def tCons(ta:TE)(tr:TA):TA:=λσ H Q=>ta σ H λx H1=>tr σ H1 λxs H2=>Q (x::xs) H2
section
variable {X:Cx}{e:Expr}{es:List Expr}{te:TE}{t:TA}{pos:Pos}
theorem zab:PA X [] tNil:=λ_ _ _ _ H Q I h=>Calls.spliced_nil ⟨[],H,I,.nil,h⟩
theorem zah(ha:PE X e te)(hr:PA X es t)(hs:AK (e::es) X.env=(false,eval e X.env)::AK es X.env:=by rfl):PA X (e::es) (tCons te t):=by intro pos pins s σ H Q I h;rw[hs];show Ar _ _ (spliced ((false,eval e X.env)::CN pos (AK es X.env))) _ _ s;refine Calls.spliced_cons (thn (ha pins s σ H _ I h) λu s1 ⟨x,H1,I1,r1,q1⟩=>?_);exact thn (hr pos pins s1 σ H1 _ I1 q1) λus s2 ⟨xs,H2,I2,r2,q2⟩=>⟨x::xs,H2,I2,.cons r1 r2,q2⟩
noncomputable def tTup(t:TA):TE:=λσ H Q=>t σ H λxs H1=>xs.length<=sizeLine/\∀p,H1 p=none->Q (.ref p) (upd H1 p (.tup xs))
noncomputable def tLst(t:TA):TE:=λσ H Q=>t σ H λxs H1=>xs.length<=sizeLine/\∀p,H1 p=none->Q (.ref p) (upd H1 p (.lst xs))
theorem zaV{x1}(h:PA X es t):PE X (.Tuple es x1 pos) (tTup t):=by intro pins s σ H Q I hq;refine wpAny_Tuple_spliced (thn (h pos pins s σ H _ I hq) λus s1 ⟨xs,H1,I1,r,z,q⟩=>⟨by rw[<- r.length];exact z,?_⟩);have hf:H1 s1.heap.objs.size=none:=I1.hok.fresh (Ai _);refine⟨.ref s1.heap.objs.size,upd H1 s1.heap.objs.size (.tup xs),I1.laid (t':=s1.toks) (λb u e=>Ag _ e) (Ai _) ?_,rfl,q _ hf⟩;exact⟨z,us,r,⟨_,AC _ rfl,rfl,_,rfl⟩⟩
theorem za0(h:PA X es t):PE X (.List es pos) (tLst t):=by intro pins s σ H Q I hq;refine wpAny_List_spliced (thn (h pos pins s σ H _ I hq) λus s1 ⟨xs,H1,I1,r,z,q⟩=>⟨by rw[<- r.length];exact z,?_⟩);have hf:H1 s1.heap.objs.size=none:=I1.hok.fresh (Ai _);refine⟨.ref s1.heap.objs.size,upd H1 s1.heap.objs.size (.lst xs),I1.laid (t':=s1.toks) (λb u e=>Ag _ e) (Ai _) ?_,rfl,q _ hf⟩;exact⟨z,us,0,r,AC _ rfl⟩
end
noncomputable abbrev Sp:=List V->Hp->VK->XK->Prop
noncomputable abbrev CXT:=List Env->Hp->Ae->XK->Ad->Ae->Prop
structure Env0 (P:AH) (w:AZ) (K:W.Frag) (mg:Str->Option Ad) (base:Heap) (A:AL) (outer:List Env) (s:Ae) (H:Hp):Prop where
 frames:A.frames=some outer
 mod:Mod K mg base
 bs:∀b o,base.get? b=some o->s.heap.get? b=some o/\H b=none
 bsz:base.objs.size<=s.heap.objs.size
 funs:s.heap.FunFrames base outer
 frf:∀b∈frs outer,H b=none
 hok:HOk P w H s.heap
 bare:AllBare s.gens
noncomputable def CE(outer:List Env)(P:AH)(w:AZ)(H:Hp)(s:Ae)(Q:VK)(u:Ad)(s':Ae):Prop :=
 ∃v H',s'.os=s.os/\AllBare s'.gens/\Un (frs outer) [] H H' s.heap s'.heap/\HOk P w H' s'.heap/\RelV v u/\Q v H'
noncomputable def CR(CX:CXT)(outer:List Env)(P:AH)(w:AZ)(H:Hp)(s:Ae)(Q:VK)(E:XK)(r:Result)(s':Ae):Prop :=
 match r with
 |.ok (.ret u)=>CE outer P w H s Q u s'
 |.ok _=>False
 |.error e=>CX outer H s E e s'
structure FnOk (P:AH) (w:AZ) (K:W.Frag) (mg:Str->Option Ad) (base:Heap) (CX:CXT) (k:Nat) (f:Addr) (fd:Bu) (ps:List Str) (sp:Sp):Prop where
 len:∀vs H Q E,sp vs H Q E->vs.length=ps.length
 run:∀(A:AL) (outer:List Env) (s:Ae) (H:Hp) (args:Args) (us:List Ad) (vs:List V) (Q:VK) (E:XK),Room k A->Env0 P w K mg base A outer s H->BindsTo s fd args (ps.zip us)->Vals vs us->sp vs H Q E ->
  BY (Aw P w) A (.call (.ref f) args) (CR CX outer P w H s Q E) s
theorem FnOk.imp{P:AH}{w:AZ}{K:W.Frag}{mg:Str -> Option Ad}{base:Heap}{CX:CXT}{k:Nat}{f:Addr}{fd:Bu}{ps:List Str}{sp sp':Sp}(F:FnOk P w K mg base CX k f fd ps sp)
  (h:∀vs H Q E,sp' vs H Q E->sp vs H Q E):FnOk P w K mg base CX k f fd ps sp' :=
 ⟨λvs H Q E q=>F.len vs H Q E (h _ _ _ _ q),λA outer s H args us vs Q E hr he hb hv hs=>F.run A outer s H args us vs Q E hr he hb hv (h _ _ _ _ hs)⟩
theorem Env0.in1{P:AH}{w:AZ}{K:W.Frag}{mg:Str -> Option Ad}{base:Heap}{A:AL}{outer:List Env}{s:Ae}{H:Hp}(e:Env0 P w K mg base A outer s H) :
  Env0 P w K mg base A.in1 outer s H:=⟨e.frames,e.mod,e.bs,e.bsz,e.funs,e.frf,e.hok,e.bare⟩
section
variable {X:Cx}{pins:List (Addr×Obj)}{σ:St}{H:Hp}{s s':Ae}
theorem Inv.env0(I:Inv X pins σ H s):Env0 X.prog X.w X.K X.mg X.base X.A X.stack s H :=
 ⟨I.ok.frames,I.ok.mod,I.bs,A8 I.ok.bsz I.sz,I.stack,I.stkFree,I.hok,I.bare⟩
theorem Inv.after{Q:VK}{u:Ad}(I:Inv X pins σ H s)(h:CE X.stack X.prog X.w H s Q u s'):EP X pins σ Q u s':=by obtain⟨v,H',os,bare,un,hok,r,q⟩:=h;obtain⟨hh,g,d,t,os'⟩:=s';obtain rfl:os'=s.os:=os;exact⟨v,H',I.call (h':=hh) (g':=g) (d':=d) (t':=t) (ch:=[]) un hok bare (λb z=>absurd z (by simp)),r,q⟩
end
noncomputable def tCall(sp:Sp)(dvs:List V)(E:XK)(t:TA):TE:=λσ H Q=>t σ H λvs H1=>sp (vs++dvs) H1 Q E
noncomputable def Binds(K:W.Frag)(fd:Bu)(ps:List Str)(ds:List Ad):Prop :=
 ∀(s:Ae) (us:List Ad),K.In s.heap->(us++ds).length=ps.length->BindsTo s fd ⟨us,[]⟩ (ps.zip (us++ds))
theorem Binds.all{K:W.Frag}{fd:Bu}{ps:List Str}(h:∀us:List Ad,us.length=ps.length->CF fd ⟨us,[]⟩=pure (ps.zip us)):Binds K fd ps []:=λs us _ hl=>by rw[AX]at hl ⊢;exact .of_eq (h us hl)
noncomputable def zjO(CX:CXT)(X:Cx)(E:XK):Prop:=∀(pins:List (Addr×Obj)) (σ:St) (H:Hp) (s:Ae) (e:Ad) (s':Ae),Inv X pins σ H s->CX X.stack H s E e s'->X.xe e s'
section
variable {X:Cx}{CX:CXT}{k:Nat}{f C:Addr}{fd:Bu}{ps:List Str}{sp:Sp}{dvs:List V}{ds:List Ad}{E:XK}{x m:Str}{p pos apos:Pos}{e o:Expr}{es:List Expr}{ta:TE}{t:TA}
theorem zmb{pins:List (Addr × Obj)}{σ : St}{H:Hp}{s:Ae}{Q:VK}{us:List Ad}{vs:List V}(F:FnOk X.prog X.w X.K X.mg X.base CX k f fd ps sp)(hr:Room k X.A)(hb:Binds X.K fd ps ds)(hd:Vals dvs ds)(hx:zjO CX X E)
  (I:Inv X pins σ H s) (r:Vals vs us) (h:sp (vs++dvs) H Q E):Ar (Aw X.prog X.w) X.A (call (.ref f) us) (EP X pins σ Q) X.xe s:=by
 have r2:Vals (vs++dvs) (us++ds):=r.append hd;have hl:(us++ds).length=ps.length:=by rw[<- r2.length];exact F.len _ _ _ _ h
 refine wpAny_call (codeAny_mono (F.run X.A X.stack s H ⟨us,[]⟩ (us++ds) (vs++dvs) Q E hr I.env0 (hb s us I.kIn hl) r2 h) λr s' hq=>?_)
 cases r with
 |error e=>exact hx pins σ H s e s' I hq
 |ok fl =>
  cases fl with
  |ret u=>exact I.after hq
  |next=>exact BA hq
  |brk=>exact BA hq
  |cont=>exact BA hq
theorem zli(F:FnOk X.prog X.w X.K X.mg X.base CX k f fd ps sp)(hr:Room k X.A)(hg:Gl X x)(hm:X.mg x=some (.ref f))(hk:W.keepIn X.K (.ref f)=true)(hb:Binds X.K fd ps ds)(hd:Vals dvs ds)(hx:zjO CX X E)
  (ha:PA X (e::es) t) (hdb:(x == ("__debug__" : Str))=false:=by decide) (he:AK (e::es) X.env=(false,eval e X.env)::AK es X.env:=by rfl) (hpl:(CN pos (AK es X.env)).any (·.1)=false:=by rfl) :
  PE X (.Call (.Name x p) (e::es) [] pos) (tCall sp dvs E t):=by
 intro pins s σ H Q I h;refine Bj (zjh I hg hm ?_ hdb);refine W.callWith_K (h₀:=X.base) I.ok.mod.kin hk (thn (ha pos pins s σ H _ I h) λus s1 ⟨vs,H1,I1,r,q⟩=>⟨I1.kIn,?_⟩) he hpl;exact zmb F hr hb hd hx I1 r q
structure Mk (K:W.Frag) (C f:Addr):Prop where
 makes:W.makesIn K C=true
 init:W.findIn K (.ref C) "__init__" = some (some (.ref f))
 fn:W.isFn K (.ref f)=true
 kp:W.keepIn K (.ref C)=true
end
noncomputable def PK(X:Cx)(kws:List Keyword)(t:TA):Prop :=
 ∀(pos:Pos) (pins:List (Addr×Obj)) (s:Ae) (σ:St) (H:Hp) (Q:List V->Hp->Prop),Inv X pins σ H s->t σ H Q->Ar (Aw X.prog X.w) X.A (evalAll ((CH pos (BQ kws X.env)).map (·.2))) (AP X pins σ Q) X.xe s
section
variable {X:Cx}{CX:CXT}{k:Nat}{f C:Addr}{fd:Bu}{ps ks:List Str}{sp:Sp}{E:XK}{x m:Str}{p pos apos kpos:Pos}{e o:Expr}{es:List Expr}{kws:List Keyword}{te ta:TE}{t tk:TA}{nm:Option Str}
theorem ziN:PK X [] tNil:=λ_ _ _ _ H Q I h=>wpAny_evalAll_nil ⟨[],H,I,.nil,h⟩
theorem zgw(ha:PE X e te)(hr:PK X kws t):PK X (⟨nm,e,kpos⟩::kws) (tCons te t):=by intro pos pins s σ H Q I h;show Ar _ _ (evalAll ((do let v <- eval e X.env;standAt pos;pure v)::(CH pos (BQ kws X.env)).map (·.2))) _ _ s;refine wpAny_evalAll_cons (Ac (thn (ha pins s σ H _ I h) λu s1 ⟨x,H1,I1,r1,q1⟩=>Ac (Cw (Aj ?_))));exact thn (hr pos pins s1 σ H1 _ I1 q1) λus s2 ⟨xs,H2,I2,r2,q2⟩=>⟨x::xs,H2,I2,.cons r1 r2,q2⟩
structure KBinds (K:W.Frag) (fd:Bu) (ps ks:List Str) (g:List Ad->List Ad->List Ad) (gV:List V->List V->List V):Prop where
 to:∀(s:Ae) (us ws:List Ad),K.In s.heap->(g us ws).length=ps.length->BindsTo s fd ⟨us,ks.zip ws⟩ (ps.zip (g us ws))
 rel:∀{vs:List V} {us:List Ad} {zs:List V} {ws:List Ad},Vals vs us->Vals zs ws->Vals (gV vs zs) (g us ws)
variable {g:List Ad->List Ad->List Ad}{gV:List V->List V->List V}
end
structure FnScope (N P:List Str) (sc:Scope):Prop where
 kind:sc.kind=.function
 co:sc.isCoroutine=false
 gen:sc.isGenerator=false
 nd:N.Nodup
 pre:N.take P.length=P
 par:∀x∈P,sc.names.lookup x=some .local∨sc.names.lookup x=some .cell
 nofree:∀y∈sc.names,y.2≠.free
theorem zf6{kindOf:Str->Option Cb}{x:Str}:∀{binds:List (Str×Ad)}{m:Str->Option Ad},(∀v,(x,v) ∉ binds)->bindL kindOf binds m x=m x
 |[],_,_=>rfl
 | (n,v)::r,m,h=>by
  unfold bindL;rw[zf6 λw hw=>h w (Ak _ hw)];split
  .have:x≠n:=by rintro rfl;exact h v Aq
   simp[this]
  .rfl
theorem zf8{kindOf:Str->Option Cb}{x:Str}:∀{binds:List (Str×Ad)}{m:Str->Option Ad},(∀v,(x,v) ∉ binds)->bindC kindOf binds m x=m x
 |[],_,_=>rfl
 | (n,v)::r,m,h=>by
  unfold bindC;rw[zf8 λw hw=>h w (Ak _ hw)];split
  .rfl
  .have:x≠n:=by rintro rfl;exact h v Aq
   simp[this]
theorem zf7{kindOf:Str -> Option Cb}{x:Str}{v:Ad} : ∀{P:List Str}{vs:List Ad}{i:Nat}{m:Str -> Option Ad}, P.Nodup -> P[i]? = some x -> vs[i]? = some v -> kindOf x=some .local ->
  bindL kindOf (P.zip vs) m x=some v
 |[],_,_,_,_,h,_,_=>by simp at h
 |_::_,[],_,_,_,_,h,_=>by simp at h
 |p::P,w::vs,0,m,nd,h1,h2,hk=>by
  simp at h1 h2;subst h1;subst h2;show bindL kindOf ((p,w)::P.zip vs) m p=_;unfold bindL;rw[zf6 λv hv=>(Cn.mp nd).1 (Dm hv).1,if_pos hk];simp
 |p::P,w::vs,i+1,m,nd,h1,h2,hk=>by
  show bindL kindOf ((p,w)::P.zip vs) m x=_;unfold bindL;exact zf7 (i:=i) (Cn.mp nd).2 (by simpa using h1) (by simpa using h2) hk
theorem zf9{kindOf:Str -> Option Cb}{x:Str}{v:Ad} : ∀{P:List Str}{vs:List Ad}{i:Nat}{m:Str -> Option Ad}, P.Nodup -> P[i]? = some x -> vs[i]? = some v -> kindOf x ≠ some .local ->
  bindC kindOf (P.zip vs) m x=some v
 |[],_,_,_,_,h,_,_=>by simp at h
 |_::_,[],_,_,_,_,h,_=>by simp at h
 |p::P,w::vs,0,m,nd,h1,h2,hk=>by
  simp at h1 h2;subst h1;subst h2;show bindC kindOf ((p,w)::P.zip vs) m p=_;unfold bindC;rw[zf8 λv hv=>(Cn.mp nd).1 (Dm hv).1,if_neg hk];simp
 |p::P,w::vs,i+1,m,nd,h1,h2,hk=>by
  show bindC kindOf ((p,w)::P.zip vs) m x=_;unfold bindC;exact zf9 (i:=i) (Cn.mp nd).2 (by simpa using h1) (by simpa using h2) hk
noncomputable def start(N:List Str)(vs:List V):St:=vs.map some++CI (N.length-vs.length) none
noncomputable def cxOf(CX:CXT)(P:AH)(w:AZ)(K:W.Frag)(mg:Str->Option Ad)(base:Heap)(N:List Str)(qual:Str)(scope:Scope)(f:Addr)(cd:Ad)(A:AL)(outer:List Env)(s:Ae)(H:Hp)(E:XK):Cx where
 prog:=P
 w:=w
 K:=K
 mg:=mg
 base:=base
 A:=A.deeper (envOfC qual scope s.heap.objs.size f cd)
 N:=N
 s₀:=s
 H₀:=H
 env:=envOfC qual scope s.heap.objs.size f cd
 outer:=outer
 stack:=envOfC qual scope s.heap.objs.size f cd::outer
 ex:=[]
 calm:=true
 fn:=λ_=>true
 pn:=[]
 xe:=λe s'=>Ar (Aw P w) (A.deeper (envOfC qual scope s.heap.objs.size f cd)) (leaving (envOfC qual scope s.heap.objs.size f cd) e) (λ_ s''=>CX outer H s E e s'') (λe' s''=>CX outer H s E e' s'') s'
theorem zhC{sc:Scope}{n:Nat}{x:Str}(h:sc.names.lookup x=some .cell):∃c,(Bv n sc.names []).lookup x=some c:=by have q:=W.cellsFrom_some sc.names n [] (.inl h);exact Option.isSome_iff_exists.mp q
theorem zjn{CX:CXT}{P:AH}{w:AZ}{K:W.Frag}{mg:Str -> Option Ad}{base:Heap}{N ps:List Str}{qual:Str}{scope:Scope}{f:Addr}{cd:Ad}{A:AL}{outer:List Env}{s s1:Ae}{H:Hp}{E:XK}{us:List Ad}{vs:List V}
  (S:FnScope N ps scope) (hd:A.handled=none) (e0:Env0 P w K mg base A outer s H) (hl:vs.length=ps.length) (r:Vals vs us)
  (x:InCallC s s.heap.objs.size (bindL (envOfC qual scope s.heap.objs.size f cd).kindOf (ps.zip us) λ_=>none) (Bv (s.heap.objs.size+1) scope.names []) (bindC (envOfC qual scope s.heap.objs.size f cd).kindOf (ps.zip us) λ_=>none) s1) :
  Inv (cxOf CX P w K mg base N qual scope f cd A outer s H E) [] (start N vs) H s1:=by
 have hpl:ps.length<=N.length:=by have:=congrArg List.length S.pre;rw[Av]at this;lia
 obtain⟨h1,tk,rfl,hk⟩:=x.done;have noA:∀b:Addr,b ∉ (cxOf CX P w K mg base N qual scope f cd A outer s H E).ex:=λb z=>absurd (show b∈([]:List Addr) from z) (by simp)
 refine⟨⟨e0.mod,S.kind,rfl,rfl,Ai _,λy z c h1 h2=>?_,λy hy=>?_,λy c _ h=>?_,λ_=>hd,Around.frames_deeper e0.frames,.inr ⟨rfl,rfl⟩,λb z=>absurd z (noA b),e0.bs,e0.bsz,λb _ _=>noA b,λb z=>absurd z (noA b),e0.funs,e0.frf⟩,
  rfl,e0.bare,Un.kept hk,⟨_,x.toInCall.ns,λi y v h1 h2 h3=>?_⟩,λy c h=>⟨_,x.cell y c h⟩,e0.hok.fresh (Ai _),λy c h=>?_,λp hp=>absurd (show p∈([]:List (Addr×Obj)) from hp) (by simp),e0.hok.kept hk,?_⟩
 .exact name_of_addr x.apart (BF h1) (BF h2)
 .have hy:scope.names.lookup y=some .cell∨scope.names.lookup y=some .free:=hy;rcases hy with hy |hy
  .exact zhC hy
  .exact absurd rfl (S.nofree _ (BF hy))
 .exact CM (x.above y c (BF h))
 .have hi:i < vs.length := by
   unfold start at h2
   by_cases hi:i<vs.length
   .exact hi
   .rw[AD (by simpa using hi)]at h2;rw[List.getElem?_replicate]at h2;split at h2 <;> cases h2
  have ha:vs[i]?=some v:=by
   unfold start at h2;rw[As (by simpa using hi),Ap]at h2
   cases e:vs[i]? with
   |none=>rw[e]at h2;cases h2
   |some a=>rw[e]at h2;cases h2;rfl
  obtain⟨u,hu,rv⟩:=r.get ha
  have hp:ps[i]?=some y:=by rw[<- S.pre,List.getElem?_take_of_lt (by lia)];exact h1
  have ndP:ps.Nodup:=by rw[<- S.pre];exact S.nd.sublist (List.take_sublist _ _)
  refine⟨u,rv,?_⟩;rcases S.par y (Ah hp) with k |k
  .exact .inl ⟨k,zf7 ndP hp hu k⟩
  .obtain⟨c,e⟩:=zhC (n:=s.heap.objs.size+1) k;refine .inr ⟨.inl k,c,e,?_⟩;have q:=x.cell y c e;rw[zf9 ndP hp hu (by show scope.names.lookup y≠_;rw[k];decide)]at q;exact q
 .exact e0.hok.fresh (CM (x.above y c (BF h)))
 .unfold start;show _=N.length;rw[Al,Af,List.length_replicate];lia
theorem fn_of{CX:CXT}{P:AH}{w:AZ}{K:W.Frag}{mg:Str -> Option Ad}{base:Heap}{k:Nat}{f:Addr}{name qual:Str}{params:Arguments}{body:List Stmt}{scope:Scope}{dV kV doc pm cdv ct oc:Ad}{an od:Option Addr}
  {osl:Array (Option Ad)} {N ps:List Str} {sp:Sp} (lk:K.lookup f=some ⟨oc,od,.func (Cy name qual params body scope dV kV doc pm an cdv ct),osl⟩) (hcd:W.codeIn K cdv qual=true) (S:FnScope N ps scope)
  (len:∀vs H Q E,sp vs H Q E->vs.length=ps.length)
  (hbody:∀(A:AL) (outer:List Env) (s:Ae) (H:Hp) (vs:List V) (Q:VK) (E:XK),Room k (A.deeper (envOfC qual scope s.heap.objs.size f cdv))->sp vs H Q E ->
   ∃t,PSs (cxOf CX P w K mg base N qual scope f cdv A outer s H E) body t/\t { nx:=λ_ H'=>Q .non H',rt:=Q } (start N vs) H) :
  FnOk P w K mg base CX (k+1) f (Cy name qual params body scope dV kV doc pm an cdv ct) ps sp:=by
 refine⟨len,λA outer s H args us vs Q E hr e0 hb r hsp=>?_⟩;have hl:=len _ _ _ _ hsp;have KX:K.In s.heap:=e0.mod.kin.keeps λb o e=>(e0.bs b o e).1
 have lim:s.heap.NoLimit:=e0.mod.nolimit.keeps λb o e=>(e0.bs b o e).1
 have hkind:∀y∈ps.zip us,scope.names.lookup y.1=some .local∨(scope.names.lookup y.1=some .cell/\((Bv (s.heap.objs.size+1) scope.names []).lookup y.1).isSome=true):=λ⟨n,v⟩ hy=>by
  rcases S.par n (Dm hy).1 with q |q
  .exact .inl q
  .exact .inr ⟨q,W.cellsFrom_some _ _ _ (.inl q)⟩
 refine codeAny_call_function hr.depth (KX _ _ lk) rfl S.co S.gen rfl (W.codeRec_of KX hcd) (hb _ _ _ _ ?_);refine wpAny_newFunctionEnv_cells S.kind hkind λenv he s1 x=>?_
 subst he;refine⟨lim.keeps x.toInCall.keep,codeAny_func ?_⟩;obtain⟨t,ht,hq⟩:=hbody A outer s H vs Q E (hr.deeper _) hsp;have I:Inv (cxOf CX P w K mg base N qual scope f cdv A outer s H E) [] (start N vs) H s1:=zjn S hr.hd e0 hl r x;refine BP (ht [] s1 (start N vs) H _ I hq) (λfl s' hs=>?_) λe s' hs=>hs
 have fin:∀{σ':St} {H':Hp} {v:V} {u:Ad},Inv (cxOf CX P w K mg base N qual scope f cdv A outer s H E) [] σ' H' s'->RelV v u->Q v H'->CE outer P w H s Q u s' :=
  λ{σ' H' v u} J rv q=>⟨v,H',J.os,J.bare,J.base,J.hok,rv,q⟩
 cases fl with
 |ret u =>
  obtain⟨v,σ',H',J,rv,q⟩:=hs;exact fin J rv q
 |next =>
  obtain⟨σ',H',J,q⟩:=hs;exact fin (v:=V.non) (u:=C1) J rfl q
 |brk =>
  obtain⟨_,_,_,q⟩:=hs;exact BA q
 |cont =>
  obtain⟨_,_,_,q⟩:=hs;exact BA q
section
variable {X:Cx}{x:Str}{p pos:Pos}{e:Expr}{es:List Expr}{t:TA}{id T:String}{r:List V->Hp->VK->Prop}
noncomputable def tCB(r:List V->Hp->VK->Prop)(t:TA):TE:=λσ H Q=>t σ H λvs H1=>r vs H1 Q
theorem zam (hc:CallR X (.builtin id) r) (hg:Gl X x) (hm:X.mg x=none) (hv:bootBuiltins x=some (.builtin id)) (ha:PA X (e :: es) t) (hn:x ≠ "__name__" := by decide) (hdb:(x == ("__debug__" : Str))=false := by decide)
  (he:AK (e::es) X.env=(false,eval e X.env)::AK es X.env:=by rfl) (hpl:(CN pos (AK es X.env)).any (·.1)=false:=by rfl):PE X (.Call (.Name x p) (e::es) [] pos) (tCB r t):=by
 intro pins s σ H Q I h;refine Bj (zbO I hg hm hv ?_ hn hdb);exact PyProof.Rows.callWith_builtin1 (thn (ha pos pins s σ H _ I h) λus s1 ⟨vs,H1,I1,r1,q1⟩=>hc pins s1 σ H1 vs us Q I1 r1 q1) he hpl
theorem zdT (hc:CallR X (.type T) r) (hg:Gl X x) (hm:X.mg x=none) (hv:bootBuiltins x=some (.type T)) (ha:PA X (e :: es) t) (hn:x ≠ "__name__" := by decide) (hdb:(x == ("__debug__" : Str))=false := by decide)
  (he:AK (e::es) X.env=(false,eval e X.env)::AK es X.env:=by rfl) (hpl:(CN pos (AK es X.env)).any (·.1)=false:=by rfl):PE X (.Call (.Name x p) (e::es) [] pos) (tCB r t):=by
 intro pins s σ H Q I h;refine Bj (zbO I hg hm hv ?_ hn hdb);exact A5 (thn (ha pos pins s σ H _ I h) λus s1 ⟨vs,H1,I1,r1,q1⟩=>hc pins s1 σ H1 vs us Q I1 r1 q1) he hpl
end
section
variable {κ:Type} [DecidableEq κ]
noncomputable def valV(kvs:List (κ×V))(k:κ):Option V:=(kvs.find? λkv=>decide (kv.1=k)).map (·.2)
noncomputable def putK(kvs:List (κ×V))(k:κ)(v:V):List (κ×V) :=
 if (kvs.any λkv=>decide (kv.1=k))=true then kvs.map (λkv=>if kv.1=k then (kv.1,v) else kv) else kvs++[(k,v)]
theorem zbc{p:κ×V}{r:List (κ×V)}{k:κ}(e:p.1=k):valV (p::r) k=some p.2:=by simp[valV,CS,e]
theorem zbd{p:κ×V}{r:List (κ×V)}{k:κ}(e:¬ p.1=k):valV (p::r) k=valV r k:=by simp[valV,CS,e]
theorem zdq(k:κ):∀kvs:List (κ×V),(kvs.any λkv=>decide (kv.1=k))=(valV kvs k).isSome
 |[]=>rfl
 |p::r=>by
  rw[List.any_cons]
  by_cases e:p.1=k
  .simp only[zbc e,decide_eq_true e,Bool.true_or,Option.isSome_some]
  .rw[zbd e,decide_eq_false e,Bool.false_or];exact zdq k r
theorem zgV(k j:κ)(y:V):∀kvs:List (κ×V),valV (kvs.map λkv=>if kv.1=k then (kv.1,y) else kv) j=(valV kvs j).map λx=>if j=k then y else x
 |[]=>rfl
 |p::r=>by
  have ih:=zgV k j y r;rw[Ba]
  by_cases h:p.1=k
  .rw[if_pos h]
   by_cases e:p.1=j
   .rw[zbc (p:=(p.1,y)) e,zbc e,Do,if_pos (e.symm.trans h)]
   .rw[zbd (p:=(p.1,y)) e,zbd e,ih]
  .rw[if_neg h]
   by_cases e:p.1=j
   .rw[zbc (p:=p) e,zbc e,Do,if_neg (λz=>h (e.trans z))]
   .rw[zbd (p:=p) e,zbd e,ih]
theorem zfx(k j:κ)(y:V):∀kvs:List (κ×V),valV kvs k=none->valV (kvs++[(k,y)]) j=if j=k then some y else valV kvs j
 |[],_=>by
  by_cases e:k=j
  .rw[if_pos e.symm];exact zbc (p:=(k,y)) e
  .rw[if_neg (λz=>e z.symm)];exact zbd (p:=(k,y)) e
 |p::r,hn=>by
  rw[List.cons_append];have hk:¬ p.1=k:=λz=>by rw[zbc z]at hn;cases hn
  rw[zbd hk]at hn;have ih:=zfx k j y r hn
  by_cases e:p.1=j
  .rw[zbc e,zbc e,if_neg (λz=>hk (e.trans z))]
  .rw[zbd e,zbd e,ih]
theorem zgU(kvs:List (κ×V))(k j:κ)(y:V):valV (putK kvs k y) j=if j=k then some y else valV kvs j:=by
 unfold putK
 by_cases a:(kvs.any λkv=>decide (kv.1=k))=true
 .rw[if_pos a,zgV];rw[zdq]at a
  by_cases e:j=k
  .obtain⟨x,hx⟩:=Option.isSome_iff_exists.mp a;rw[if_pos e,e,hx,Do,if_pos rfl]
  .rw[if_neg e]
   cases valV kvs j with
   |none=>rfl
   |some x=>rw[Do,if_neg e]
 .rw[if_neg a];refine zfx k j y kvs ?_
  rw[zdq]at a
  cases q:valV kvs k with
  |none=>rfl
  |some x=>rw[q]at a;exact (a rfl).elim
theorem zbo(kvs:List (κ×V))(k:κ)(v:V):(putK kvs k v).length<=kvs.length+1:=by
 unfold putK;split
 .rw[Af];lia
 .rw[Al,AQ,B4];lia
theorem RelO.isSome_eq{o:Option V}{u:Option Ad}(r:RelO o u):o.isSome=u.isSome:=by
 cases o with
 |none=>cases u with
  |none=>rfl
  |some _=>exact (show False from r).elim
 |some _=>cases u with
  |none=>exact (show False from r).elim
  |some _=>rfl
theorem KV.val{kvs:List (κ×V)}{vs:List (κ×Ad)}(r:KV kvs vs)(k:κ):RelO (valV kvs k) (valueAt vs k):=by
 unfold KV at r
 induction r with
 |nil=>exact Ca
 |@cons p q ps qs h t ih =>
  obtain⟨h1,h2⟩:=h
  by_cases e:p.1=k
  .have e':q.1=k:=h1.symm.trans e;have b:valueAt (q::qs) k=some q.2:=by simp[valueAt,CS,e']
   rw[zbc e,b];exact h2
  .have e':¬ q.1=k:=λz=>e (h1.trans z)
   have b:valueAt (q::qs) k=valueAt qs k:=by simp[valueAt,CS,e']
   rw[zbd e,b];exact ih
theorem KV.any{kvs:List (κ×V)}{vs:List (κ×Ad)}(r:KV kvs vs)(k:κ):(kvs.any λkv=>decide (kv.1=k))=vs.any λkv=>decide (kv.1=k):=by
 unfold KV at r
 induction r with
 |nil=>rfl
 |cons h t ih=>rw[List.any_cons,List.any_cons,ih,h.1]
theorem KV.repl{kvs:List (κ × V)}{vs:List (κ × Ad)}(r:KV kvs vs)(k : κ){y:V}{u:Ad}(ry:RelV y u) :
  KV (kvs.map λkv=>if kv.1=k then (kv.1,y) else kv) (vs.map λkv=>if kv.1=k then (kv.1,u) else kv):=by
 unfold KV at r ⊢
 induction r with
 |nil=>exact .nil
 |@cons p q ps qs h t ih =>
  rw[Ba,Ba];refine .cons ?_ ih;obtain⟨h1,h2⟩:=h
  by_cases e:p.1=k
  .rw[if_pos e,if_pos (h1.symm.trans e)];exact⟨h1,ry⟩
  .rw[if_neg e,if_neg (λz=>e (h1.trans z))];exact⟨h1,h2⟩
theorem KV.put{kvs:List (κ×V)}{vs:List (κ×Ad)}(r:KV kvs vs)(k:κ){y:V}{u:Ad}(ry:RelV y u):KV (putK kvs k y) (stored vs k u):=by
 unfold putK stored;rw[r.any k]
 by_cases e:(vs.any λkv=>decide (kv.1=k))=true
 .rw[if_pos e,if_pos e];exact r.repl k ry
 .rw[if_neg e,if_neg e];exact Paired.snoc r ⟨rfl,ry⟩
theorem KV.length{kvs:List (κ×V)}{vs:List (κ×Ad)}(r:KV kvs vs):kvs.length=vs.length:=Paired.length r
end
theorem kV_is{P:AH}{w:AZ}{k:Key}{u:Ad}(r:RelV (kV k) u):(zaX P w).is k u=true:=by
 cases k with
 |inl i=>obtain⟨t,e⟩:=(show ∃t,u=C6 i t from r);subst e;exact zgM P w i t
 |inr x=>obtain⟨t,e⟩:=(show ∃t,u=Value.str x t from r);subst e;exact zcG P w x t
theorem zfY{P:AH}{w:AZ}:∀{ks:List Key}{us:List Ad},Vals (ks.map kV) us->ItemsAre (zaX P w) ks us
 |[],_,r=>by rw[Cr]at r;cases r;exact .nil
 |k::ks,_,r=>by
  rw[Ba]at r
  cases r with
  |cons h t=>exact .cons (kV_is h) (zfY t)
noncomputable abbrev KT(H:Hp):List (List Key×V)->List (List Key×Addr×Ad)->Prop:=Paired λp q=>p.1=q.1/\H q.2.1=some (.tup (p.1.map kV))/\RelV p.2 q.2.2
theorem KT.val{H:Hp}{kvs:List (List Key×V)}{xs:List (List Key×Addr×Ad)}(r:KT H kvs xs)(k:List Key):RelO (valV kvs k) ((atKey xs k).map (·.2)):=by
 induction r with
 |nil=>exact Ca
 |@cons p q ps qs h t ih =>
  obtain⟨h1,_,h2⟩:=h
  by_cases e:p.1=k
  .have e':q.1=k:=h1.symm.trans e;have b:atKey (q::qs) k=some q.2:=by simp[atKey,CS,e']
   rw[zbc e,b];exact h2
  .have e':¬ q.1=k:=λz=>e (h1.trans z)
   have b:atKey (q::qs) k=atKey qs k:=by simp[atKey,CS,e']
   rw[zbd e,b];exact ih
theorem KT.repl{H:Hp}{kvs:List (List Key × V)}{xs:List (List Key × Addr × Ad)}(r:KT H kvs xs)(k:List Key){y:V}{u:Ad}(ry:RelV y u) :
  KT H (kvs.map λkv=>if kv.1=k then (kv.1,y) else kv) (xs.map (putAt k u)):=by
 induction r with
 |nil=>exact .nil
 |@cons p q ps qs h t ih =>
  rw[Ba,Ba];refine .cons ?_ ih;obtain⟨h1,h2,h3⟩:=h;unfold putAt
  by_cases e:p.1=k
  .rw[if_pos e,if_pos (h1.symm.trans e)];exact⟨h1,h2,ry⟩
  .rw[if_neg e,if_neg (λz=>e (h1.trans z))];exact⟨h1,h2,h3⟩
theorem KT.put{H:Hp}{kvs:List (List Key × V)}{xs:List (List Key × Addr × Ad)}(r:KT H kvs xs)(k:List Key){b:Addr}{y:V}{u:Ad}(hb:H b=some (.tup (k.map kV)))(ry:RelV y u) :
  KT H (putK kvs k y) (storedH xs k b u):=by
 have e:(kvs.any λkv=>decide (kv.1=k))=(atKey xs k).isSome:=by rw[zdq,(r.val k).isSome_eq,Option.isSome_map]
 unfold putK storedH;rw[e]
 by_cases q:(atKey xs k).isSome=true
 .rw[if_pos q,if_pos q];exact r.repl k ry
 .rw[if_neg q,if_neg q];exact Paired.snoc r ⟨rfl,hb,ry⟩
theorem KT.keeps{H H':Hp}{kvs:List (List Key×V)}{xs:List (List Key×Addr×Ad)}(r:KT H kvs xs)(ht:∀b ys,H b=some (.tup ys)->H' b=some (.tup ys)):KT H' kvs xs :=
 Paired.mapP r λ_ _ z=>⟨z.1,ht _ _ z.2.1,z.2.2⟩
section
variable {P:AH}{w:AZ}{H:Hp}{h:Heap}{a:Addr}
theorem rd_of{u:HO}(ok:HOk P w H h)(e:Rd H a u):ObjOk P w H h a u:=e.ok ok
theorem dk_rd{kvs:List (Key×V)}(ok:HOk P w H h)(e:Rd H a (.dK kvs)):kvs.length<=sizeLine/\(a == CL)=false/\∃vs,KV kvs vs/\h.DictOf (zaX P w) a vs :=
 show ObjOk P w H h a (.dK kvs) from rd_of ok e
theorem dk_of{kvs:List (Key×V)}(ok:HOk P w H h)(e:H a=some (.dK kvs)):kvs.length<=sizeLine/\(a == CL)=false/\∃vs,KV kvs vs/\h.DictOf (zaX P w) a vs:=dk_rd ok (.inl e)
theorem zfX{ks:List Key}(ok:HOk P w H h)(e:H a=some (.tup (ks.map kV))):(tupleKind (zaX P w)).is h ks a:=by obtain⟨_,its,r,o,h1,h2,n,h3⟩:=(show ObjOk P w H h a (.tup (ks.map kV)) from ok a _ e);exact⟨o,its.toArray,n,h1,h2,h3,by simpa using zfY r⟩
theorem dt_rd{kvs:List (List Key × V)}(ok:HOk P w H h)(e:Rd H a (.dT kvs)):kvs.length <= sizeLine /\ (a == CL)=false /\
  ∃xs,KT H kvs xs/\h.DictOfH (tupleKind (zaX P w)) a xs:=by
 obtain⟨z,y,xs,r,o,es,ep,h1,h2,h3,h4,h5⟩:=(show ObjOk P w H h a (.dT kvs) from rd_of ok e);refine⟨z,y,xs,r,o,es,ep,h1,h2,h3,h4,λx hx=>?_,h5⟩
 have all:∀{l:List (List Key×V)} {m:List (List Key×Addr×Ad)},KT H l m->∀x∈m,(tupleKind (zaX P w)).is h x.1 x.2.1:=by
  intro l m q
  induction q with
  |nil=>intro x hx;exact nomatch hx
  |@cons p q ps qs hq t ih =>
   intro x hx;rcases Ao.mp hx with e |hx
   .subst e;exact zfX ok (by rw[<- hq.1];exact hq.2.1)
   .exact ih x hx
 exact all r x hx
theorem dt_of{kvs:List (List Key × V)}(ok:HOk P w H h)(e:H a=some (.dT kvs)):kvs.length <= sizeLine /\ (a == CL)=false /\
  ∃xs,KT H kvs xs/\h.DictOfH (tupleKind (zaX P w)) a xs:=dt_rd ok (.inl e)
end
noncomputable def DGet(H:Hp)(a:Addr)(y:V)(r:Option V):Prop :=
 (∃kvs k,Rd H a (.dK kvs)/\y=kV k/\r=valV kvs k)∨∃kvs k b,Rd H a (.dT kvs)/\y=.ref b/\H b=some (.tup (k.map kV))/\r=valV kvs k
noncomputable def DPut(H:Hp)(a:Addr)(y v:V)(H':Hp):Prop :=
 (∃kvs k,H a=some (.dK kvs)/\y=kV k/\kvs.length<sizeLine/\H'=upd H a (.dK (putK kvs k v))) ∨
 ∃kvs k b,H a=some (.dT kvs)/\y=.ref b/\H b=some (.tup (k.map kV))/\kvs.length<sizeLine/\H'=upd H a (.dT (putK kvs k v))
section
variable {X:Cx}{pins:List (Addr×Obj)}{σ:St}{H:Hp}{s:Ae}{a:Addr}{y v:V}{u r:Ad}{o:Option V}{A:AL}{E:Ad->Ae->Prop}
theorem Inv.big(I:Inv X pins σ H s):CL<s.heap.objs.size:=by have h:AI<s.heap.objs.size:=(I.mod.glob.keeps I.bk).lt;exact Nat.lt_trans (by decide) h
theorem d_in{Q:Ad -> Ae -> Prop}(hu:A.units + 1 < cLine)(I:Inv X pins σ H s)(g:DGet H a y o)(ry:RelV y u)(h:∀s', Inv X pins σ H s' -> Q (.bool o.isSome) s') :
  Ar (Aw X.prog X.w) A (By .In u (.ref a)) Q E s:=by
 rcases g with⟨kvs,k,e,ey,l⟩ |⟨kvs,k,b,e,ey,eb,l⟩
 .subst ey;obtain⟨z,hd,vs,rel,dd⟩:=dk_rd I.hok e;refine wpAny_in_of (kV_is ry) hd dd.mapOf ?_
  rw[<- (rel.val k).isSome_eq,<- l];exact h _ (I.tok _)
 .subst ey
  cases (show u=AA b from ry)
  obtain⟨z,hd,xs,rel,dd⟩:=dt_rd I.hok e;refine wpAny_in_heap (tupleKind_room_in1 hu) (zfX I.hok eb) hd dd ?_
  have q:=(rel.val k).isSome_eq;rw[Option.isSome_map]at q;rw[<- q,<- l];exact h _ (I.tok _)
theorem zlF{Q:Ad -> Ae -> Prop}(hu:A.units + 1 < cLine)(I:Inv X pins σ H s)(g:DGet H a y o)(ry:RelV y u)(h:∀s', Inv X pins σ H s' -> Q (.bool (!o.isSome)) s') :
  Ar (Aw X.prog X.w) A (By .NotIn u (.ref a)) Q E s:=by
 rcases g with⟨kvs,k,e,ey,l⟩ |⟨kvs,k,b,e,ey,eb,l⟩
 .subst ey;obtain⟨z,hd,vs,rel,dd⟩:=dk_rd I.hok e;refine wpAny_notIn_of (kV_is ry) hd dd.mapOf ?_
  rw[<- (rel.val k).isSome_eq,<- l];exact h _ (I.tok _)
 .subst ey
  cases (show u=AA b from ry)
  obtain⟨z,hd,xs,rel,dd⟩:=dt_rd I.hok e;refine wpAny_notIn_heap (tupleKind_room_in1 hu) (zfX I.hok eb) hd dd ?_
  have q:=(rel.val k).isSome_eq;rw[Option.isSome_map]at q;rw[<- q,<- l];exact h _ (I.tok _)
theorem zfg{h':Heap}{t':Nat}{ob:HO}(I:Inv X pins σ H s)(mu:Mut (H a))(hs:C7 a s.heap h')(he:∃q, h'.get? a=some q)(new:ObjOk X.prog X.w (upd H a ob) h' a ob) :
  Inv X pins σ (upd H a ob) { s with heap:=h',toks:=t' } :=
 I.write (x:=a) (e:=a) mu (.inl rfl) (λb q hb z=>(hs.2 b hb).trans z) he new
theorem zkR{P:AH}{w:AZ}{H':Hp}{h':Heap}{kvs:List (Key × V)}{vs:List (Key × Ad)}(z:kvs.length <= sizeLine)(hd:(a == CL)=false)(rel:KV kvs vs)(dd:h'.DictOf (zaX P w) a vs) :
  ObjOk P w H' h' a (.dK kvs):=⟨z,hd,vs,rel,dd⟩
theorem zju{H':Hp}{Q:Unit -> Ae -> Prop}(hu:A.units + 1 < cLine)(I:Inv X pins σ H s)(g:DPut H a y v H')(ry:RelV y u)(rv:RelV v r)(h:∀s', Inv X pins σ H' s' -> Q () s') :
  Ar (Aw X.prog X.w) A (setItem (.ref a) u r) Q E s:=by
 rcases g with⟨kvs,k,e,ey,l,eH⟩ |⟨kvs,k,b,e,ey,eb,l,eH⟩
 .subst ey eH;obtain⟨z,hd,vs,rel,dd⟩:=dk_of I.hok e;have hz:vs.length<=sizeLine:=by rw[<- rel.length];exact z
  have hl:(putK kvs k v).length<=sizeLine:=by have:=zbo kvs k v;lia
  refine wpAny_setItem_pairs (hsz:=hz) (kV_is ry) dd λh' dd' hs=>h _ ?_
  have he:∃q,h'.get? a=some q:=let ⟨q,_,_,hq,_⟩:=dd';⟨q,hq⟩
  exact zfg I (by rw[e];exact Ca) hs he (zkR hl hd (rel.put k rv) dd')
 .subst ey eH
  cases (show u=AA b from ry)
  obtain⟨z,hd,xs,rel,dd⟩:=dt_of I.hok e;have hz:xs.length<=sizeLine:=by rw[<- Paired.length rel];exact z
  have hl:(putK kvs k v).length<=sizeLine:=by have:=zbo kvs k v;lia
  refine wpAny_setItem_heap (hsz:=hz) (tupleKind_room_in1 hu) (zfX I.hok eb) dd λh' dd' hs=>h _ ?_
  obtain⟨q,es,ep,hq,h2,h3,h4,_,h5⟩:=dd';refine zfg I (by rw[e];exact Ca) hs ⟨q,hq⟩ ⟨hl,hd,_,(rel.put k eb rv).keeps λc ys ec=>?_,q,es,ep,hq,h2,h3,h4,h5⟩;rw[zal (ne_of ec e (λz=>nomatch z))];exact ec
end
section
variable {X:Cx}{pins:List (Addr×Obj)}{σ:St}{H:Hp}{s:Ae}{a:Addr}{kvs:List (Key×V)}{k:Key}{u:Ad}{A:AL}{E:Ad->Ae->Prop}
end
noncomputable def NoSl(i:Expr):Prop:=∀ov iv,subscripted i false ov iv=operate [ov,iv] (getItem ov iv)
theorem zk4{prog:AH}{w:AZ}{A:AL}{E:Ad -> Ae -> Prop}{s:Ae}{env:Env}{value slice:Expr}{pos:Pos}{T id:String}{Q:Ad -> Ae -> Prop}
  (hl:typeLookup (.type T) "__getitem__" = pure (some (.builtin id))) (hs:NoSl slice)
  (h:Ar (Aw prog w) A (eval value env) (λo s₁=>Ar (Aw prog w) A (eval slice env) (λi s₂=>s₂.TypeIs o T/\Ar (Aw prog w) A (getItem o i) Q E s₂) E s₁) E s) :
  Ar (Aw prog w) A (eval (.Subscript value slice pos) env) Q E s:=by
 refine Subscript_ (BP h (λo s₁ h₁=>BP h₁ (λi s₂ h₂=>?_) λ_ _ x=>x) λ_ _ x=>x);obtain⟨hT,h₂⟩:=h₂;unfold subscriptTail;refine Ac ?_
 rw[getitemInPython_of_ne hT.not_modules];refine Ac (wpAny_specialOf hT hl ?_)
 have fin:Ar (Aw prog w) A (subscripted slice false o i) (λr s₃=>Ar (Aw prog w) A (letTemporaryGo value o r >>= λ_=>pure r) Q E s₃) E s₂:=by rw[hs o i];exact wpAny_operating (BP h₂ (λr s₃ h₃=>Ac (wpAny_letTemporaryGo (Aj h₃))) λ_ _ x=>x)
 first
  |exact Aj (Ac fin)
  |exact Ac (Aj (Ac fin))
  |exact Ac fin
noncomputable def tDIn(ty td:TE):TE:=λσ H Q=>ty σ H λy H1=>td σ H1 λx H2=>∃a o,x=.ref a/\DGet H2 a y o/\Q (.bl o.isSome) H2
noncomputable def zk2(ty td:TE):TE:=λσ H Q=>ty σ H λy H1=>td σ H1 λx H2=>∃a o,x=.ref a/\DGet H2 a y o/\Q (.bl (!o.isSome)) H2
noncomputable def sDPut(td ty tv:TE):TS:=λD σ H=>tv σ H λv H1=>td σ H1 λx H2=>ty σ H2 λy H3=>∃a H4,x=.ref a/\DPut H3 a y v H4/\D.nx σ H4
section
variable {X:Cx}{o i e value:Expr}{pos pos' tpos:Pos}{td ty tv:TE}
theorem zme(hu:X.A.units+1<cLine)(hi:PE X i ty)(ho:PE X o td):PC X .In i o (tDIn ty td):=by
 intro pins s σ H Q I h;refine thn (hi pins s σ H _ I h) λiv s1 ⟨y,H1,I1,ry,q1⟩=>thn (ho pins s1 σ H1 _ I1 q1) λu s2 ⟨x,H2,I2,rx,a,ov,ex,g,q2⟩=>?_
 subst ex;obtain rfl:u=AA a:=rx;exact d_in hu I2 g ry λs3 I3=>⟨.bl ov.isSome,H2,I3,rfl,q2⟩
theorem zfO(hu:X.A.units+1<cLine)(hi:PE X i ty)(ho:PE X o td):PC X .NotIn i o (zk2 ty td):=by
 intro pins s σ H Q I h;refine thn (hi pins s σ H _ I h) λiv s1 ⟨y,H1,I1,ry,q1⟩=>thn (ho pins s1 σ H1 _ I1 q1) λu s2 ⟨x,H2,I2,rx,a,ov,ex,g,q2⟩=>?_
 subst ex;obtain rfl:u=AA a:=rx;exact zlF hu I2 g ry λs3 I3=>⟨.bl (!ov.isSome),H2,I3,rfl,q2⟩
theorem zle(hu:X.A.units + 1 < cLine)(ho:PE X o td)(hi:PE X i ty)(hv:PE X value tv)(hs:swapsWith value (some (.Subscript o i pos')) pos.line X.env=pure false) :
  PS X (.Assign [.Subscript o i pos'] value pos) (sDPut td ty tv):=by
 intro pins s σ H D I h;refine wpAny_Assign_Subscript (thn (hv pins s σ H _ I h) λr s1 ⟨v,H1,I1,rv,q1⟩=>thn (ho pins s1 σ H1 _ I1 q1) λu s2 ⟨x,H2,I2,rx,q2⟩=>thn (hi pins s2 σ H2 _ I2 q2) λiv s3 ⟨y,H3,I3,ry,a,H4,ex,g,q3⟩=>?_) hs;subst ex;obtain rfl:u=AA a:=rx;exact zju hu I3 g ry rv λs4 I4=>⟨σ,H4,I4,q3⟩
end
theorem zhy {P:AH}{w:AZ}{H:Hp}(h:Heap) (hb:CL<h.objs.size):ObjOk P w H (h.push { cls:=.type "dict",data:=.dict #[] }) h.objs.size (.dT []) :=
 ⟨AV _,beq_eq_false_iff_ne.mpr (Bq (At hb)),[],.nil,_,#[],0,AC _ rfl,⟨rfl,rfl,rfl⟩,rfl,rfl,List.nodup_nil⟩
noncomputable def zl4:TE:=λ_ H Q=>∀p,H p=none->Q (.ref p) (upd H p (.dT []))
section
variable {X:Cx}{pos:Pos}
theorem zj9:PE X (.Dict [] [] pos) zl4:=λpins s σ H Q I h =>
 wpAny_Dict_empty ⟨.ref s.heap.objs.size,_,I.laid (a:=s.heap.objs.size) (o:=.dT []) (t':=s.toks) (λ_ _ q=>Ag _ q) (Ai _) (zhy s.heap I.big),rfl,h _ (I.hok.fresh (Ai _))⟩
end
structure M1 (X:Cx) (o:Expr) (m:Str) (apos:Pos) (e:Expr) (cpos:Pos):Prop where
 base:attributeBase o m X.env (eval o X.env)=eval o X.env
 few:((CN cpos (AK [e] X.env)).all (λx=>!x.1) && (CH cpos (BQ [] X.env)).all (λx=>x.1.isSome)
  && decide (([e]:List Expr).length+([]:List Keyword).length+(if ([]:List Keyword).isEmpty then 0 else 1)<30))=true
 line:(apos.endLine == cpos.line)=true
 trees:CN cpos (AK [e] X.env)=[(false,eval e X.env)]
structure M2 (X:Cx) (o:Expr) (m:Str) (apos:Pos) (e f:Expr) (cpos:Pos):Prop where
 base:attributeBase o m X.env (eval o X.env)=eval o X.env
 few:((CN cpos (AK [e,f] X.env)).all (λx=>!x.1) && (CH cpos (BQ [] X.env)).all (λx=>x.1.isSome)
  && decide (([e,f]:List Expr).length+([]:List Keyword).length+(if ([]:List Keyword).isEmpty then 0 else 1)<30))=true
 line:(apos.endLine == cpos.line)=true
 trees:CN cpos (AK [e,f] X.env)=[(false,eval e X.env),(false,eval f X.env)]
section
variable {X:Cx}{pins:List (Addr×Obj)}{σ:St}{H:Hp}{s:Ae}{a:Addr}{y d:V}{u r:Ad}{o:Option V}{A:AL}{E:Ad->Ae->Prop}
end
section
variable {X:Cx}{o e f:Expr}{apos cpos:Pos}{td ty tx:TE}
end
section
variable {X:Cx}{pins:List (Addr×Obj)}{σ:St}{H:Hp}{s:Ae}{a:Addr}{kvs:List (Key×V)}{A:AL}{E:Ad->Ae->Prop}
end
section
variable {X:Cx}{pins:List (Addr×Obj)}{σ:St}{H:Hp}{s:Ae}{a:Addr}{y:V}{u:Ad}{A:AL}{E:Ad->Ae->Prop}
end
end L2
namespace HT
open PySem PyProof.Rows
noncomputable def lexLt:List Int->List Int->Bool
 |[],[]=>false
 |[],_::_=>true
 |_::_,[]=>false
 |x::xs,y::ys=>if x=y then lexLt xs ys else decide (x<y)
theorem lexLt_cons(x y:Int)(xs ys:List Int):lexLt (x::xs) (y::ys)=if x=y then lexLt xs ys else decide (x<y):=rfl
theorem zfa:lexLt [] []=false:=rfl
theorem zel(y:Int)(ys:List Int):lexLt [] (y::ys)=true:=rfl
theorem zem(x:Int)(xs:List Int):lexLt (x::xs) []=false:=rfl
theorem zhw(A:AL)(s:Ae)(a:Int)(t:Tok)(c:Int)(u:Tok):∃e,SeqAt.EqAt A s (.int a t) (.int c u) e/\(e=true ↔ a=c) :=
 ⟨(a == c),SeqAt.EqAt.int_int a t c u,by simp⟩
theorem zj3(A:AL)(s:Ae)(a:Int)(t:Tok)(c:Int)(u:Tok)(prog:AH)(w:AZ)(E:Ad -> Ae -> Prop)(Q:Ad -> Ae -> Prop)(h:Q (.bool (decide (a < c))) s) :
  Ar (Aw prog w) A (richCompare .Lt (.int a t) (.int c u)) Q E s :=
 (PyProof.Rows.lt_int h:Ar (Aw prog w) A (By .Lt (.int a t) (.int c u)) Q E s)
section
open PySem.SeqAt
open PySem.AutoSeq1 (wpAny_loadPart')
open PySem.MeetsSeq PySem.MeetsSeq2 PySem.MeetsSeq3
theorem zeO(l b:Addr)(items items2:Array Ad)(n n2:Nat)(dd dd2:Option Addr)(sl sl2:Array (Option Ad))(ns ms:List Int)(hi:B6 items.toList ns)(hj:B6 items2.toList ms) :
  Meets (Builtin.«tuple.__lt__» ⟨[.ref l,.ref b],[]⟩)
   (λ_ R s=>s.heap.get? l=some { cls:=.type "tuple",dict:=dd,data:=.seq items n,slots:=sl }/\s.heap.get? b=some { cls:=.type "tuple",dict:=dd2,data:=.seq items2 n2,slots:=sl2 } /\
    R (.ok (.ret (.bool (lexLt ns ms)))) s) :=
 .of_wp λprog w A R s h=>by
  obtain⟨hp,g,d,tk,os⟩:=s;obtain⟨hl,hb,h⟩:=h;have f2:=AutoSeq1.sub_tuple_tuple;have z1:items.size=ns.length:=by rw[<- hi.length];simp
  have z2:items2.size=ms.length:=by rw[<- hj.length];simp
  wp_walk using BN hl,BN hb,wpAny_forIn_list _ (λrest b s'=>b.1=none/\s'=⟨hp,g,d,tk,os⟩/\∃(vs ws:List Ad) (ns' ms':List Int),rest=vs.zip ws /\
   B6 vs ns'/\B6 ws ms'/\ns'.length+items2.size=ms'.length+items.size/\R (.ok (.ret (.bool (lexLt ns' ms')))) ⟨hp,g,d,tk,os⟩) _
  case turn =>
   rintro⟨y,x⟩ rest b s' ⟨hb',rfl,vs,ws,ns',ms',hz,hvi,hwi,hlen,hR⟩
   cases hvi with
   |nil=>rw[List.zip_nil_left]at hz;cases hz
   |cons a t hvi' =>
    cases hwi with
    |nil=>rw[List.zip_nil_right]at hz;cases hz
    |cons c u hwi' =>
     rw[Dt]at hz;injection hz with hyx hrest;injection hyx with hy hx;subst hy hx;rw[lexLt_cons]at hR;simp only[AQ]at hlen;obtain⟨e,he,hiff⟩:=zhw A.in1 ⟨hp,g,d,tk,os⟩ a t c u;refine Ac (he prog w _ _ ?_)
     cases e with
     |true =>
      rw[if_pos (hiff.mp rfl)]at hR
      wp_walk
      exact⟨rfl,rfl,_,_,_,_,hrest,hvi',hwi',by lia,hR⟩
     |false =>
      rw[if_neg (λq=>absurd (hiff.mpr q) AM)]at hR;have hri:=zj3 A.in1 ⟨hp,g,d,tk,os⟩ a t c u prog w
      wp_walk using hri
      exact⟨_,rfl,by simpa using hR⟩
  case fin =>
   rintro⟨b1,b2⟩ s' ⟨hb',rfl,vs,ws,ns',ms',hz,hvi,hwi,hlen,hR⟩;simp only at hb';subst hb'
   have hv:lexLt ns' ms'=decide (items.size<items2.size):=by
    cases hvi with
    |nil =>
     cases hwi with
     |nil =>
      simp only[B4]at hlen;rw[zfa];exact (decide_eq_false (by lia)).symm
     |cons c u hw =>
      simp only[B4,AQ]at hlen;rw[zel];exact (decide_eq_true (by lia)).symm
    |cons a t hv =>
     cases hwi with
     |nil =>
      simp only[B4,AQ]at hlen;rw[zem];exact (decide_eq_false (by lia)).symm
     |cons c u hw =>
      rw[Dt]at hz
      cases hz
   rw[hv]at hR
   wp_walk
   exact⟨_,rfl,by simpa[Builtin.Tuple.tupleCompareSizes]using hR⟩
  case h =>
   exact⟨rfl,rfl,items.toList,items2.toList,ns,ms,rfl,hi,hj,by lia,h⟩
end
section
variable {prog:AH}{w:AZ}{A:AL}{E:Ad->Ae->Prop}{s:Ae}
theorem lt_tupInts{l b:Addr}{items items2:Array Ad}{ns ms:List Int}{Q:Ad -> Ae -> Prop}(hl:IsTup s.heap l items)(hb:IsTup s.heap b items2)(hi:B6 items.toList ns)(hj:B6 items2.toList ms)
  (hu:A.units<cLine) (h:Q (.bool (lexLt ns ms)) s):Ar (Aw prog w) A (By .Lt (.ref l) (.ref b)) Q E s:=by
 obtain⟨⟨cls,dd,data,sl⟩,ho,hc,n,hd⟩:=id hl;obtain⟨⟨cls2,dd2,data2,sl2⟩,ho2,hc2,n2,hd2⟩:=id hb;simp only at hc hd hc2 hd2;subst hc hd hc2 hd2
 exact richCompare_meets_room (op:=.Lt) ⟨_,ho,rfl⟩ ⟨_,ho2,rfl⟩ PySem.F.slot_tuple_lt PySem.F.entry_tuple_lt (PySem.F.args_tuple_lt_2 _ _) (zeO l b items items2 n n2 dd dd2 sl sl2 ns ms hi hj)
  ⟨ho,ho2,show Dr (lexLt ns ms)≠Value.notImplemented/\Q (.bool (lexLt ns ms)) s from ⟨(λx=>nomatch x),h⟩⟩ hu
noncomputable def sIx(n d:Nat):Option Int->Nat
 |none=>d
 |some v=>if v<0 then (v+(n:Int)).toNat else min v.toNat n
theorem sIx_none(n d:Nat):sIx n d none=d:=rfl
theorem sIx_nat(n d k:Nat):sIx n d (some (k:Int))=min k n:=by show (if (k:Int)<0 then ((k:Int)+(n:Int)).toNat else min (k:Int).toNat n)=min k n;rw[if_neg (by lia),Int.toNat_natCast]
theorem zl9(n d:Nat)(hd:d<=n)(o:Option Int):sIx n d o<=n:=by
 cases o with
 |none=>exact hd
 |some v =>
  show (if v<0 then (v+(n:Int)).toNat else min v.toNat n)<=n
  by_cases hv:v<0
  .rw[if_pos hv];lia
  .rw[if_neg hv];exact Nat.min_le_right _ _
theorem zjA(v:Int)(n d:Nat):(if v<0 then max (v+(n:Int)) 0 else min v (n:Int))=((sIx n d (some v):Nat):Int):=by
 show (if v<0 then max (v+(n:Int)) 0 else min v (n:Int))=(((if v<0 then (v+(n:Int)).toNat else min v.toNat n):Nat):Int)
 by_cases hv:v<0
 .simp only[if_pos hv];lia
 .simp only[if_neg hv];lia
theorem zia(lo hi:Option Int)(n:Nat):Db lo hi 1 (n:Int)=(((sIx n 0 lo:Nat):Int),((sIx n n hi:Nat):Int)):=by
 have h1:¬ ((1:Int)<0):=by lia
 unfold Db;simp only[h1,if_false];refine Prod.ext ?_ ?_
 .cases lo with
  |none=>rfl
  |some v=>exact zjA v n 0
 .cases hi with
  |none=>rfl
  |some v=>exact zjA v n n
theorem zhU(i j:Nat):Ch (i:Int) (j:Int) 1=j-i:=by
 unfold Ch;have h1:(1:Int) > 0:=by lia
 simp only[h1,if_true,Int.ediv_one];split <;> lia
theorem zew{v:Ad}{o:Option Int}{Q:Option Int->Ae->Prop}(p:IsPart v o)(h:Q o s):Ar (Aw prog w) A (Builtin.Slice.slicePartIndex v) Q E s:=by
 cases p with
 |none=>exact slicePart_none h
 |int i t=>exact slicePart_int h
theorem zcd{sl:Addr}{vl vu:Ad}{lo hi:Option Int}{n:Nat}{Q:Int × Int × Nat -> Ae -> Prop}(hs:s.heap.IsSliceOf sl vl vu .none)(pl:IsPart vl lo)(pu:IsPart vu hi)
  (h:Q (((sIx n 0 lo:Nat):Int),1,sIx n n hi-sIx n 0 lo) s):Ar (Aw prog w) A (Builtin.Slice.sliceApplied (.ref sl) (pure (n:Int))) Q E s:=by
 obtain⟨os,hos,hcs,hds⟩:=id hs;unfold Builtin.Slice.sliceApplied Builtin.Slice.sliceFields;refine Ac (Ac (B8 hos hds (x:=vl) rfl (Ac (B8 hos hds (x:=vu) rfl (Ac (B8 hos hds (x:=.none) rfl (Aj ?_)))))));refine Ac (slicePart_none ?_);show Ar _ _ (if ((1:Int) == 0)=true then _ else _) _ _ s;rw[if_neg (by decide)];refine Ac (zew pl (Ac (zew pu (Ac (Aj ?_)))));show Ar _ _ (match Db lo hi 1 (n:Int) with | (lo,hi)=>pure (lo,(1:Int),Ch lo hi 1)) _ _ s;rw[zia lo hi n];show Ar _ _ (pure (((sIx n 0 lo:Nat):Int),(1:Int),Ch ((sIx n 0 lo:Nat):Int) ((sIx n n hi:Nat):Int) 1)) _ _ s;rw[zhU];exact Aj h
theorem zj6(xs:Array Ad)(i k:Nat):((AE k).filterMap λ(m:Nat)=>xs[((i:Int)+(m:Int)*1).toNat]?).toArray=((xs.toList.drop i).take k).toArray:=by
 have e:(λ(m:Nat)=>xs[((i:Int)+(m:Int)*1).toNat]?)=λm=>xs[i+m]?:=by
  funext m
  have:((i:Int)+(m:Int)*1).toNat=i+m:=by lia
  rw[this]
 rw[e];have:=pick_run xs i k;rw[Cc]at this;have e2:((λx=>xs[x]?) ∘ λx=>i+x)=λm=>xs[i+m]?:=rfl
 rw[e2]at this;rw[this]
theorem getItem_tuple_cut{t sl:Addr}{items:Array Ad}{vl vu:Ad}{lo hi:Option Int}{Q:Ad -> Ae -> Prop}(ht:IsTup s.heap t items)(hs:s.heap.IsSliceOf sl vl vu .none)(pl:IsPart vl lo)(pu:IsPart vu hi)
  (hw:¬ (sIx items.size 0 lo=0/\sIx items.size items.size hi=items.size))
  (h:Q (.ref s.heap.objs.size) { s with heap:=s.heap.push { cls:=.type "tuple",data:=.seq ((items.toList.drop (sIx items.size 0 lo)).take (sIx items.size items.size hi-sIx items.size 0 lo)).toArray } })
  (hsz:items.size<=sizeLine):Ar (Aw prog w) A (getItem (.ref t) (.ref sl)) Q E s:=by
 have htake:sizeOk (.seq ((items.toList.drop (sIx items.size 0 lo)).take (sIx items.size items.size hi-sIx items.size 0 lo)).toArray):=by show ((items.toList.drop (sIx items.size 0 lo)).take (sIx items.size items.size hi-sIx items.size 0 lo)).toArray.size<=sizeLine;rw[Az,Av,AS,Array.length_toList];lia
 have hj:sIx items.size items.size hi<=items.size:=zl9 _ _ (Ai _) hi;obtain⟨os,hos,hcs,hds⟩:=id hs;have hTs:s.TypeIs (.ref sl) "slice":=⟨os,hos,hcs⟩;unfold getItem
 try with_reducible refine A9 ?_
 first |refine Ac (Aj ?_) |skip
 refine Ac (wpAny_sequenceKey ht.typeIs (by decide) ?_)
 refine Ac (CJ (name:=Bf "__getitem__") ht.typeIs Bn
  (wpAny_call_entry Bn ht.typeIs entry_tuple_getitem ?_ (args_tuple_getitem _ _)))
 show Ar _ _ (Builtin.Tuple.tupleItemsOf (.ref t) >>= _) _ _ s;refine Ac (tupleItemsOf_ ht ?_);refine Ac (wpAny_typeOf hTs ?_);rw[if_pos (by decide)];refine Ac (zcd hs pl pu ?_)
 have hno:¬ ((((sIx items.size 0 lo:Nat):Int) == 0 && (1:Int) == 1 && (sIx items.size items.size hi-sIx items.size 0 lo) == items.size)=true):=by intro q;rw[BX,BX]at q;have q1:((sIx items.size 0 lo:Nat):Int)=0:=eq_of_beq q.1.1;have q2:sIx items.size items.size hi-sIx items.size 0 lo=items.size:=eq_of_beq q.2;exact hw ⟨by lia,by lia⟩
 show Ar _ _ (if (((sIx items.size 0 lo:Nat):Int) == 0 && (1:Int) == 1 && (sIx items.size items.size hi-sIx items.size 0 lo) == items.size)=true then _ else _) _ _ s;rw[if_neg hno,zj6]
 first
  |exact Ac (m:=Cz _) (Bi (Aj ⟨_,rfl,Aj h⟩) htake)
  |exact Ac (m:=Cz _) (Bi (Ac (Aj (Aj ⟨_,rfl,Aj h⟩))) htake)
  |exact Ac (Ac (m:=Cz _) (Bi (Aj (Aj ⟨_,rfl,Aj h⟩)) htake))
  |exact Ac (Ac (m:=Cz _) (Bi (Aj ⟨_,rfl,Aj h⟩) htake))
end
end HT
namespace L2
open PySem PySem.Spec PyProof.Rows
noncomputable abbrev TO:=St->Hp->(Option Int->Hp->Prop)->Prop
noncomputable def PO(X:Cx)(e:Option Expr)(t:TO):Prop :=
 ∀(pins:List (Addr×Obj)) (s:Ae) (σ:St) (H:Hp) (Q:Option Int->Hp->Prop),Inv X pins σ H s->t σ H Q ->
  Ar (Aw X.prog X.w) X.A (evalPart e X.env) (λu s'=>∃o H',Inv X pins σ H' s'/\IsPart u o/\Q o H') X.xe s
noncomputable def zk1:TO:=λ_ H Q=>Q none H
noncomputable def tPart(t:TE):TO:=λσ H Q=>t σ H λx H1=>∃i,x=.int i/\Q (some i) H1
theorem zct{ns:List Int}:∀{us:List Ad},Vals (ns.map V.int) us->B6 us ns:=by
 induction ns with
 |nil=>intro us r;rw[Cr]at r;cases r;exact .nil
 |cons n ns ih =>
  intro us r;rw[Ba]at r
  cases r with
  |cons r1 r2 =>
   obtain⟨t,e⟩:=r1;subst e;exact .cons n t (ih r2)
section
variable {X:Cx}{e:Expr}{te:TE}{lo hi:Option Expr}{tl th:TO}{pos p2:Pos}
theorem zck:PO X none zk1:=by intro pins s σ H Q I h;rw[evalPart_none];exact Aj ⟨none,H,I,.none,h⟩
theorem zbU(h:PE X e te):PO X (some e) (tPart te):=by
 intro pins s σ H Q I hw;rw[evalPart_some];refine thn (h pins s σ H _ I hw) λu s1 ⟨x,H1,I1,r1,q1⟩=>?_
 obtain⟨i,rfl,q⟩:=q1;obtain⟨t,rfl⟩:=r1;exact⟨some i,H1,I1,.int i t,q⟩
noncomputable def SlR(X:Cx)(r:V->Option Int->Option Int->Hp->VK->Prop):Prop :=
 ∀(pins:List (Addr×Obj)) (s:Ae) (σ:St) (H:Hp) (x:V) (v vl vu:Ad) (lo hi:Option Int) (sl:Addr) (Q:VK),Inv X pins σ H s->RelV x v->s.heap.IsSliceOf sl vl vu .none->IsPart vl lo->IsPart vu hi->r x lo hi H Q ->
  ∃T id,typeLookup (.type T) "__getitem__" = pure (some (.builtin id))/\s.TypeIs v T/\Ar (Aw X.prog X.w) X.A (getItem v (.ref sl)) (EP X pins σ Q) X.xe s
noncomputable def tSl(r:V->Option Int->Option Int->Hp->VK->Prop)(te:TE)(tl th:TO):TE:=λσ H Q=>te σ H λx H1=>tl σ H1 λl H2=>th σ H2 λu H3=>r x l u H3 Q
theorem zbz{r:V->Option Int->Option Int->Hp->VK->Prop}(hr:SlR X r)(he:PE X e te)(hl:PO X lo tl)(hu:PO X hi th):PE X (.Subscript e (.Slice lo hi none p2) pos) (tSl r te tl th):=by
 intro pins s σ H Q I h;refine Subscript_ (thn (he pins s σ H _ I h) λv s1 ⟨x,H1,I1,r1,q1⟩=>?_);refine wpAny_Slice (thn (hl pins s1 σ H1 _ I1 q1) λvl s2 ⟨l,H2,I2,pl,q2⟩=>thn (hu pins s2 σ H2 _ I2 q2) λvu s3 ⟨u,H3,I3,pu,q3⟩=>?_);rw[evalPart_none];refine Aj ?_
 have I4:Inv X pins σ H3 { s3 with heap:=s3.heap.push { cls:=.type "slice",data:=.fields #[vl,vu,.none] } }:=I3.kept (t':=s3.toks) λb ob q=>Ag _ q
 obtain⟨T,id,hT,ht,hg⟩:=hr pins { s3 with heap:=s3.heap.push { cls:=.type "slice",data:=.fields #[vl,vu,.none] } } σ H3 x v vl vu l u s3.heap.objs.size Q I4 r1 (Heap.IsSliceOf.new ..) pl pu q3;show Ar (Aw X.prog X.w) X.A (subscriptTail e (.Slice lo hi none p2) v (.ref s3.heap.objs.size)) (EP X pins σ Q) X.xe { s3 with heap:=s3.heap.push { cls:=.type "slice",data:=.fields #[vl,vu,.none] } };exact tail_any (ops:=[.ref s3.heap.objs.size,v]) ht hT hg (by with_unfolding_all rfl)
noncomputable def cutV(xs:List V)(lo hi:Option Int):List V:=(xs.drop (HT.sIx xs.length 0 lo)).take (HT.sIx xs.length xs.length hi-HT.sIx xs.length 0 lo)
theorem zd6(xs:List V)(lo hi:Option Int):(cutV xs lo hi).length<=xs.length:=by unfold cutV;rw[Av,AS];lia
noncomputable def rSlT(K:W.Frag):V->Option Int->Option Int->Hp->VK->Prop:=λx lo hi H Q=>∃a xs,x=.ref a/\SqT K H a xs /\
 ¬ (HT.sIx xs.length 0 lo=0/\HT.sIx xs.length xs.length hi=xs.length)/\∀p,H p=none->Q (.ref p) (upd H p (.tup (cutV xs lo hi)))
theorem zl6:SlR X (rSlT X.K):=by
 intro pins s σ H x v vl vu lo hi sl Q I rx hs pl pu h;obtain⟨a,xs,rfl,hx,hw,q⟩:=h
 cases rx
 obtain⟨its,r,ht,hz⟩:=I.tuple hx;have hlen:its.toArray.size=xs.length:=by rw[Az];exact r.length.symm
 refine⟨"tuple",_,Bn.lookup,ht.typeIs,?_⟩;refine HT.getItem_tuple_cut ht hs pl pu (by rw[hlen];exact hw) ?_ (by rw[hlen];exact hz)
 rw[hlen];refine⟨.ref s.heap.objs.size,_,I.laid (t':=s.toks) (o:=.tup (cutV xs lo hi)) (λb ob q=>Ag _ q) (Ai _) ?_,rfl,q _ (I.hok.fresh (Ai _))⟩;exact⟨A8 (zd6 xs lo hi) hz,_,(r.drop (HT.sIx xs.length 0 lo)).take (HT.sIx xs.length xs.length hi-HT.sIx xs.length 0 lo),IsTup.new _ _⟩
end
noncomputable def ixN(n:Nat)(i:Int):Option Nat:=if 0<=i then (if i<n then some i.toNat else none) else if -(n:Int)<=i then some (i+n).toNat else none
noncomputable def atI{α:Type}(xs:List α)(i:Int):Option α:=(ixN xs.length i).bind λj=>xs[j]?
theorem zjl{n:Nat}{i:Int}{j:Nat}(h:ixN n i=some j):seqIndex? i n=some j/\j<n/\-(n:Int)<=i/\i<n:=by
 unfold ixN at h
 by_cases h0:0<=i
 .rw[if_pos h0]at h
  by_cases h1:i<n
  .rw[if_pos h1]at h;have e:i.toNat=j:=AO h;exact⟨by rw[seqIndex_of h0 h1,e],by lia,by lia,h1⟩
  .rw[if_neg h1]at h;cases h
 .rw[if_neg h0]at h
  by_cases h1:-(n:Int)<=i
  .rw[if_pos h1]at h;have e:(i+n).toNat=j:=AO h;exact⟨by rw[seqIndex_neg (by lia) h1,e],by lia,h1,by lia⟩
  .rw[if_neg h1]at h;cases h
theorem zjI{α:Type}{xs:List α}{i:Int}{v:α}(h:atI xs i=some v):∃j,seqIndex? i xs.length=some j/\xs[j]?=some v/\j<xs.length/\-(xs.length:Int)<=i/\i<xs.length:=by
 unfold atI at h
 cases e:ixN xs.length i with
 |none=>rw[e]at h;cases h
 |some j =>
  rw[e]at h;obtain⟨h1,h2,h3,h4⟩:=zjl e;exact⟨j,h1,h,h2,h3,h4⟩
theorem zai{α:Type}{xs:List α}{j:Nat}{v:α}(h:xs[j]?=some v):atI xs (j:Int)=some v:=by
 have hj:j<xs.length:=(Ab.mp h).1
 have e:ixN xs.length (j:Int)=some j:=by unfold ixN;rw[if_pos (by lia),if_pos (by lia)];simp
 unfold atI;rw[e];exact h
theorem zfn{α:Type}(xs:List α)(v:α):atI (xs++[v]) (-1)=some v:=by
 have hl:(xs++[v]).length=xs.length+1:=by simp
 have e:ixN (xs++[v]).length (-1)=some xs.length:=by
  unfold ixN;rw[hl,if_neg (by decide),if_pos (by lia)]
  congr 1
  lia
 unfold atI;rw[e];show (xs++[v])[xs.length]?=some v;simp
noncomputable def zlU(b:Expr):Prop:=∀o i,subscripted b false o i=operate [o,i] (getItem o i)
noncomputable def IxR(X:Cx)(r:R2):Prop :=
 ∀(value slice:Expr) (pins:List (Addr×Obj)) (s:Ae) (σ:St) (H:Hp) (x y:V) (v u:Ad) (Q:VK),Inv X pins σ H s->RelV x v->RelV y u->r x y H Q ->
  subscripted slice false v u=operate [v,u] (getItem v u)->Ar (Aw X.prog X.w) X.A (subscriptTail value slice v u) (EP X pins σ Q) X.xe s
noncomputable def MtR(X:Cx)(id:String)(r:V->List V->Hp->VK->Prop):Prop :=
 ∀(pins:List (Addr×Obj)) (s:Ae) (σ:St) (H:Hp) (x:V) (xs:List V) (v:Ad) (us:List Ad) (Q:VK),Inv X pins σ H s->RelV x v->Vals xs us->r x xs H Q ->
  Ar (Aw X.prog X.w) X.A (call (.builtin id) (v::us)) (EP X pins σ Q) X.xe s
section
variable {X:Cx}{a b:Expr}{ta tb:TE}{pos:Pos}
theorem pe_ix{r:R2}(hr:IxR X r)(ha:PE X a ta)(hb:PE X b tb)(hs:zlU b):PE X (.Subscript a b pos) (tOp r ta tb):=by intro pins s σ H Q I h;exact Subscript_ (binT ha hb I h λv u s2 x y H2 I2 rx ry q=>hr a b pins s2 σ H2 x y v u Q I2 rx ry q (hs _ _))
noncomputable def rIxL(K:W.Frag):R2:=λx y H Q=>∃p xs i v,x=.ref p/\y=.int i/\SqL K H p xs/\atI xs i=some v/\Q v H
noncomputable def rIxT(K:W.Frag):R2:=λx y H Q=>∃p xs i v,x=.ref p/\y=.int i/\SqT K H p xs/\atI xs i=some v/\Q v H
theorem zas:IxR X (rIxL X.K):=by
 intro value slice pins s σ H x y v u Q I rx ry h hs;obtain⟨p,xs,i,z,rfl,rfl,hq,he,q⟩:=h
 cases rx
 obtain⟨t,rfl⟩:=ry;obtain⟨its,r,pl,hz⟩:=I.list hq;obtain⟨j,h1,h2,h3,h4,h5⟩:=zjI he;obtain⟨w,ew,rw'⟩:=r.get h2;have hl:=r.length;have hn:=zfW;have fin:EP X pins σ Q w s:=⟨z,H,I,rw',q⟩
 by_cases h0:0<=i
 .have hj:i.toNat=j := by rw[seqIndex_of h0 h5]at h1;exact AO h1
  exact item_listR pl.isList h0 (by lia) (by rw[hj];simpa using ew) fin hs
 .have hj:(i + (its.toArray.size:Int)).toNat=j := by rw[seqIndex_neg (by lia) h4]at h1;rw[Az,<- hl];exact AO h1
  exact subscriptTail_builtinR (x:=w) pl.isList.typeIs slot_list_getitem.lookup
   (wpAny_getItem_list_neg (Q:=λr s'=>r=w/\EP X pins σ Q r s') pl.isList (by lia) (by rw[Az] <;> lia) (by lia) (by rw[hj];simpa using ew) ⟨rfl,fin⟩) hs
theorem zay:IxR X (rIxT X.K):=by
 intro value slice pins s σ H x y v u Q I rx ry h hs;obtain⟨p,xs,i,z,rfl,rfl,hq,he,q⟩:=h
 cases rx
 obtain⟨t,rfl⟩:=ry;obtain⟨its,r,pl,hz⟩:=I.tuple hq;obtain⟨j,h1,h2,h3,h4,h5⟩:=zjI he;obtain⟨w,ew,rw'⟩:=r.get h2;have hl:=r.length;have hn:=zfW;have fin:EP X pins σ Q w s:=⟨z,H,I,rw',q⟩
 exact subscriptTail_builtinR (x:=w) pl.typeIs slot_tuple_getitem.lookup
  (getItem_tuple (j:=j) (Q:=λr s'=>r=w/\EP X pins σ Q r s') pl (by lia) (by lia) (by rw[Az,<- hl];exact h1) (by simpa using ew) ⟨rfl,fin⟩) hs
theorem zh4 (its:List Ad) (n j:Nat) (u:Ad):AG (·.setIfInBounds j u) { cls:=.type "list",data:=.seq its.toArray n }={ cls:=.type "list",data:=.seq (its.set j u).toArray n }:=by simp[AG]
theorem Inv.lst{pins:List (Addr × Obj)}{σ : St}{H:Hp}{s:Ae}{p:Addr}{xs:List V}(I:Inv X pins σ H s)(h:H p=some (.lst xs)) :
  ∃(its:List Ad) (n:Nat),Vals xs its/\s.heap.get? p=some { cls:=.type "list",data:=.seq its.toArray n }/\xs.length<=sizeLine:=by
 obtain⟨z,its,n,r,e⟩:=I.hok p _ h;exact⟨its,n,r,e,z⟩
theorem Inv.lstUpd{pins:List (Addr × Obj)}{σ : St}{H:Hp}{s:Ae}{p:Addr}{xs ys:List V}{its its':List Ad}{n n':Nat}{f:Obj -> Obj}(I:Inv X pins σ H s)(h:H p=some (.lst xs))
  (ho:s.heap.get? p=some { cls:=.type "list",data:=.seq its.toArray n }) (hf:f { cls:=.type "list",data:=.seq its.toArray n }={ cls:=.type "list",data:=.seq its'.toArray n' }) (r:Vals ys its') (hz:ys.length<=sizeLine) (t:Nat) :
  Inv X pins σ (upd H p (.lst ys)) { s with heap:=s.heap.update p f,toks:=t }:=by
 have e:(s.heap.update p f).get? p=some { cls:=.type "list",data:=.seq its'.toArray n' }:=by rw[BH f ho (by rw[hf] <;> rfl),hf]
 refine I.write (x:=p) (e:=p) (by rw[h];trivial) (.inl rfl) (λb u hb q=>(Bb _ _ (Bq hb)).trans q) ⟨_,e⟩ ?_
 exact⟨hz,its',n',r,e⟩
noncomputable def rSetL:V->V->V->Hp->(Hp->Prop)->Prop:=λo i v H Q=>∃p xs k j,o=.ref p/\i=.int k/\H p=some (.lst xs)/\ixN xs.length k=some j/\Q (upd H p (.lst (xs.set j v)))
theorem zha:PSet X rSetL:=by
 intro pins s σ H o i v ov iv u Q I ro ri rv h;obtain⟨p,xs,k,j,rfl,rfl,hp,hj,q⟩:=h
 cases ro
 obtain⟨t,rfl⟩:=ri;obtain⟨its,n,r,ho,hz⟩:=I.lst hp;obtain⟨h1,h2,h3,h4⟩:=zjl hj;have hl:=r.length;have hn:=zfW
 have I':Inv X pins σ (upd H p (.lst (xs.set j v))) { s with heap:=s.heap.update p (AG (·.setIfInBounds j u)) } :=
  I.lstUpd hp ho (zh4 its n j u) (r.set rv j) (by rw[List.length_set];exact hz) s.toks
 by_cases h0:0<=k
 .have hk:k.toNat=j := by rw[seqIndex_of h0 h4]at h1;exact AO h1
  exact W.ki_setAt ho h0 (by lia) (by rw[Az,<- hl];exact h4) (by rw[hk];exact⟨_,I',q⟩)
 .have hk:(k + (its.toArray.size:Int)).toNat=j := by rw[seqIndex_neg (by lia) h3]at h1;rw[Az,<- hl];exact AO h1
  exact W.ki_setBack ho (by lia) (by rw[Az,<- hl];exact h3) (by lia) (by rw[hk];exact⟨_,I',q⟩)
theorem zfF(lo hi:Option Int)(n:Nat):(Dw lo hi none n).1=((HT.sIx n 0 lo:Nat):Int)/\(Dw lo hi none n).2.1=((HT.sIx n n hi:Nat):Int)/\(Dw lo hi none n).2.2=1:=by
 refine⟨?_,?_,rfl⟩
 .cases lo with
  |none=>simp[Dw,HT.sIx]
  |some i =>
   simp only[Dw,HT.sIx,Option.getD_none,show (1:Int) > 0 by decide,if_true]
   by_cases h:i<0
   .simp only[h,if_true] <;> lia
   .simp only[h,if_false] <;> lia
 .cases hi with
  |none=>simp[Dw,HT.sIx]
  |some i =>
   simp only[Dw,HT.sIx,Option.getD_none,show (1:Int) > 0 by decide,if_true]
   by_cases h:i<0
   .simp only[h,if_true] <;> lia
   .simp only[h,if_false] <;> lia
theorem zeT(its:List Ad)(lo hi:Option Int):slicePick its.toArray lo hi none=((its.drop (HT.sIx its.length 0 lo)).take (HT.sIx its.length its.length hi-HT.sIx its.length 0 lo)).toArray:=by obtain⟨h1,h2,h3⟩:=zfF lo hi its.toArray.size;unfold slicePick;rw[h1,h2,h3];simp only[sliceRange_one,pick_run,Az] <;> rfl
noncomputable def rSlL(K:W.Frag):V->Option Int->Option Int->Hp->VK->Prop:=λx lo hi H Q=>∃a xs,x=.ref a/\SqL K H a xs/\∀p,H p=none->Q (.ref p) (upd H p (.lst (cutV xs lo hi)))
theorem zc1:SlR X (rSlL X.K):=by
 intro pins s σ H x v vl vu lo hi sl Q I rx hs pl pu h;obtain⟨a,xs,rfl,hx,q⟩:=h
 cases rx
 obtain⟨its,r,ht,hz⟩:=I.list hx;have hlen:=r.length;refine⟨"list",_,slot_list_getitem.lookup,ht.isList.typeIs,?_⟩;refine wpAny_getItem_list_slice ht.isList hs pl pu .none (by simp) ?_ (by rw[Az] <;> lia)
 rw[zeT,<- hlen];refine⟨.ref s.heap.objs.size,_,I.laid (t':=s.toks) (o:=.lst (cutV xs lo hi)) (λb ob q=>Ag _ q) (Ai _) ?_,rfl,q _ (I.hok.fresh (Ai _))⟩;exact⟨A8 (zd6 xs lo hi) hz,_,0,(r.drop (HT.sIx xs.length 0 lo)).take (HT.sIx xs.length xs.length hi-HT.sIx xs.length 0 lo),AC _ rfl⟩
theorem zan:CallR X (.builtin "len") (λxs H Q=>∃p ys,xs=[.ref p]/\(SqL X.K H p ys∨SqT X.K H p ys)/\Q (.int ys.length) H):=by
 intro pins s σ H xs us Q I r h;obtain⟨p,ys,rfl,hq,q⟩:=h;obtain⟨u,rfl,rx⟩:=vals1 r
 cases rx
 have hn:=zfW;rcases hq with hq |hq
 .obtain⟨its,r',pl,hz⟩:=I.list hq;have hlen:=r'.length;exact Calls.call_len_list pl.isList (by simp only[Az] <;> lia) ⟨.int ys.length,H,I.tok _,⟨s.toks+1,by rw[Az,hlen]⟩,q⟩
 .obtain⟨its,r',pl,hz⟩:=I.tuple hq;have hlen:=r'.length;exact len_tuple pl (by simp only[Az] <;> lia) ⟨.int ys.length,H,I.tok _,⟨s.toks+1,by rw[Az,hlen]⟩,q⟩
theorem zfk:CallR X (.type "tuple") (λxs H Q=>∃p ys,xs=[.ref p]/\((SqL X.K H p ys/\∀l,H l=none->Q (.ref l) (upd H l (.tup ys)))∨(SqT X.K H p ys/\Q (.ref p) H))):=by
 intro pins s σ H xs us Q I r h;obtain⟨p,ys,rfl,h⟩:=h;obtain⟨u,rfl,rx⟩:=vals1 r
 cases rx
 rcases h with⟨hq,q⟩ |⟨hq,q⟩
 .obtain⟨its,r',pl,hz⟩:=I.list hq;have hlen:=r'.length;refine call_tuple_list pl.isList (λh' kp=>?_) (by simp only[Az] <;> lia);have I1:Inv X pins σ H { s with heap:=h' }:=I.kept (t':=s.toks) kp
  have I2:Inv X pins σ (upd H h'.objs.size (.tup ys)) { s with heap:=h'.push { cls:=.type "tuple",data:=.seq its.toArray } } :=
   I1.laid (t':=s.toks) (λb o e=>Ag _ e) (Ai _) (show ObjOk X.prog X.w _ _ _ (.tup ys) from ⟨hz,its,r',IsTup.new _ _⟩)
  exact⟨.ref h'.objs.size,_,I2,rfl,q _ (I1.hok.fresh (Ai _))⟩
 .obtain⟨its,r',pl,hz⟩:=I.tuple hq;exact call_tuple_same pl ⟨.ref p,H,I,rfl,q⟩
noncomputable def tyV(K:W.Frag)(T:String)(x:V)(H:Hp):Prop:=match x with
  |.str _=>T = "str"
  |.int _=>T = "int"
  |.ref p => (T = "list" /\ ∃xs, SqL K H p xs) ∨ (T = "tuple" /\ ∃o, K.lookup p=some o /\ o.cls = .type "tuple" /\ o.dict=none) ∨
      (T = "dict" /\ ((∃kvs,H p=some (.dK kvs))∨∃kvs,H p=some (.dT kvs)))∨(T = "set" /\ ∃S n,H p=some (.set S n))
  |_=>False
theorem zlY{pins:List (Addr × Obj)}{σ : St}{H:Hp}{s:Ae}{T:String}{x:V}{v:Ad}(I:Inv X pins σ H s)(r:RelV x v)(ty:tyV X.K T x H) :
  s.TypeIs v T/\∀a,v=.ref a->∃ob,s.heap.get? a=some ob/\ob.dict=none:=by
 cases x with
 |str z =>
  obtain⟨t,rfl⟩:=r
  cases (show T = "str" from ty)
  exact⟨typeIs_str s z t,λ_ e=>nomatch e⟩
 |int i =>
  obtain⟨t,rfl⟩:=r
  cases (show T = "int" from ty)
  exact⟨typeIs_int s i t,λ_ e=>nomatch e⟩
 |ref p =>
  cases r
  rcases ty with⟨rfl,xs,hq⟩ |⟨rfl,o,hk,hc,hd⟩ |⟨rfl,hk⟩ |⟨rfl,S,n,hk⟩
  .obtain⟨its,_,pl,_⟩:=I.list hq;refine⟨pl.isList.typeIs,λa e=>?_⟩
   cases e
   obtain⟨o,n,e,c,hd,_⟩:=pl;exact⟨o,e,hd⟩
  .refine⟨⟨o,I.kIn p o hk,hc⟩,λa e=>?_⟩
   cases e
   exact⟨o,I.kIn _ o hk,hd⟩
  .have z:∃o, s.heap.get? p=some o /\ o.ExactDict := by
    rcases hk with⟨kvs,hk⟩ |⟨kvs,hk⟩
    .obtain⟨_,_,_,_,o,_,_,e,ex,_⟩:=I.hok p _ hk;exact⟨o,e,ex⟩
    .obtain⟨_,_,_,_,o,_,_,e,ex,_⟩:=I.hok p _ hk;exact⟨o,e,ex⟩
   obtain⟨o,e,ex⟩:=z;refine⟨⟨o,e,ex.1⟩,λa e2=>?_⟩
   cases e2
   exact⟨o,e,ex.2.1⟩
  .obtain⟨o,_,_,_,e,ex,_⟩:=I.hok p _ hk;refine⟨⟨o,e,ex.1⟩,λa e2=>?_⟩
   cases e2
   exact⟨o,e,ex.2.1⟩
 |_=>exact BA ty
noncomputable def tBM(K:W.Frag)(T:String)(r:V->List V->Hp->VK->Prop)(to:TE)(t:TA):TE:=λσ H Q=>to σ H λx H1=>tyV K T x H1/\t σ H1 λxs H2=>r x xs H2 Q
variable {o e:Expr}{es:List Expr}{to:TE}{t:TA}{name:Str}{apos cpos:Pos}{T id:String}{r:V->List V->Hp->VK->Prop}
theorem pe_bm (pa:PlainAttrs T) (slot:Slot T name id) (hty:typeOf (.builtin id)=pure (.type "method_descriptor")) (hm:MtR X id r) (ho:PE X o to) (ha:PA X (e :: es) t)
  (hbase:attributeBase o name X.env (eval o X.env)=eval o X.env:=by rfl)
  (hfew:((CN cpos (AK (e::es) X.env)).all (λx=>!x.1) && (CH cpos (BQ [] X.env)).all (λx=>x.1.isSome)
   && decide ((e::es).length+([]:List Keyword).length+(if ([]:List Keyword).isEmpty then 0 else 1)<30))=true:=by rfl)
  (hline:(apos.endLine == cpos.line)=true:=by rfl) (hs:AK (e::es) X.env=(false,eval e X.env)::AK es X.env:=by rfl) (hplain:(CN cpos (AK es X.env)).any (·.1)=false:=by rfl) :
  PE X (.Call (.Attribute o name apos) (e::es) [] cpos) (tBM X.K T r to t):=by
 intro pins s σ H Q I h;refine wpAny_Call_method_late hbase hfew hline rfl (thn (ho pins s σ H _ I h) λv s1 ⟨x,H1,I1,r1,ty,q1⟩=>?_);obtain⟨h1,h2⟩:=zlY I1 r1 ty;refine⟨T,id,pa,slot,hty,h1,h2,?_⟩;have hA:=ha cpos pins s1 σ H1 _ I1 q1;rw[hs]at hA ⊢;refine Calls.callWith_builtin (by show (false || (CN cpos (AK es X.env)).any (·.1))=false;rw[hplain] <;> rfl) (Calls.evalArgs_plain ?_);exact thn hA λus s2 ⟨vs,H2,I2,r2,q2⟩=>hm pins s2 σ H2 x vs v us Q I2 r1 r2 q2
/- xs.append(e),list.index on a module's tuple .. are MtR facts of 06m -/
end
noncomputable def MtM(X:Cx)(id:String)(r:V->List V->Hp->VK->Prop):Prop :=
 ∀(pins:List (Addr×Obj)) (s:Ae) (σ:St) (H:Hp) (x:V) (xs:List V) (v:Ad) (us:List Ad) (Q:VK),Inv X pins σ H s->RelV x v->Vals xs us->r x xs H Q ->
  Ar (Aw X.prog X.w) X.A (call (.builtin id) (v::us)) (EP X pins σ Q) X.xe s
theorem Vals.one:∀{x:V}{us:List Ad},Vals [x] us->∃u,us=[u]/\RelV x u
 |_,_,.cons r .nil=>⟨_,rfl,r⟩
section
variable {X:Cx}{pins:List (Addr×Obj)}{σ:St}{H:Hp}{s:Ae}{l b:Addr}{xs ys zs:List V}
theorem Inv.lset{its its':List Ad}{n:Nat}{f:Array Ad -> Array Ad}{t':Nat}(I:Inv X pins σ H s)(hH:H l=some (.lst xs))
  (e:s.heap.get? l=some { cls:=.type "list",data:=.seq its.toArray n }) (hf:f its.toArray=its'.toArray) (hv:Vals ys its') (hz:ys.length<=sizeLine) :
  Inv X pins σ (upd H l (.lst ys)) { s with heap:=s.heap.update l (AG f),toks:=t' }:=by
 have q:=PySem.IsL.update e f;rw[hf]at q;refine I.write (x:=l) (e:=l) (by rw[hH];exact trivial) (.inl rfl) (λb' u hb hu=>(Bb s.heap (AG f) (Bq hb)).trans hu) ⟨_,q⟩ ?_
 exact⟨hz,its',_,hv,q⟩
theorem Inv.lnew{its:List Ad}{t':Nat}(I:Inv X pins σ H s)(hv:Vals ys its)(hz:ys.length <= sizeLine) :
  Inv X pins σ (upd H s.heap.objs.size (.lst ys)) { s with heap:=s.heap.push { cls:=.type "list",data:=.seq its.toArray },toks:=t' } :=
 I.laid (λ_ _ q=>Ag _ q) (Ai _) ⟨hz,its,0,hv,AC _ rfl⟩
theorem Inv.fresh(I:Inv X pins σ H s):H s.heap.objs.size=none:=I.hok.fresh (Ai _)
theorem Inv.lstM (I:Inv X pins σ H s) (hH:H l=some (.lst xs)):xs.length<=sizeLine/\∃(its:List Ad) (n:Nat),Vals xs its/\xs.length=its.length/\s.heap.get? l=some { cls:=.type "list",data:=.seq its.toArray n }:=by obtain⟨z,its,n,r,e⟩:=I.hok l _ hH;exact⟨z,its,n,r,r.length,e⟩
end
section
variable {X:Cx}
noncomputable def zlc:V->List V->Hp->VK->Prop:=λx vs H Q=>∃l xs y,x=.ref l/\vs=[y]/\H l=some (.lst xs)/\xs.length<sizeLine/\Q .non (upd H l (.lst (xs++[y])))
theorem zbJ:MtM X "list.append" zlc:=by
 intro pins s σ H x vs v us Q I rx rv h;obtain⟨l,xs,y,rfl,rfl,hH,hz,q⟩:=h
 cases rx
 obtain⟨u,rfl,ru⟩:=rv.one;obtain⟨z,its,n,r,hl,e⟩:=I.lstM hH;refine call_meets F.slot_list_append ⟨_,e,rfl⟩ F.entry_list_append (F.args_list_append_2 _ _) (PySem.list_append l its.toArray n u (by rw[Az];lia)) ⟨e,?_⟩;refine⟨.non,_,I.lset (its':=its++[u]) hH e (by simp) (r.append (.cons ru .nil)) ?_,rfl,q⟩;rw[Al,Cg];lia
noncomputable def rCat:R2:=λx y H Q=>∃l b xs zs,x=.ref l/\y=.ref b/\H l=some (.lst xs)/\H b=some (.lst zs)/\xs.length+zs.length<=sizeLine/\∀p,H p=none->Q (.ref p) (upd H p (.lst (xs++zs)))
theorem ziV:OpR X (binaryOp .Add) rCat:=by
 intro pins s σ H x y v u Q I rx ry h;obtain⟨l,b,xs,zs,rfl,rfl,hH,hB,hz,q⟩:=h
 cases rx
 cases ry
 obtain⟨z,its,n,r,hl,e⟩:=I.lstM hH;obtain⟨z2,its2,n2,r2,hl2,e2⟩:=I.lstM hB;refine PySem.P.add_list e e2 ?_ (by rw[Az,Az];lia)
 have ea:its.toArray++its2.toArray=(its++its2).toArray:=by simp
 rw[ea];exact⟨.ref _,_,I.lnew (t':=s.toks) (r.append r2) (by rw[Al];lia),rfl,q _ I.fresh⟩
end
section
variable {prog:AH}{w:AZ}{A:AL}{E:Ad->Ae->Prop}{s:Ae}
end
section
variable {X:Cx}
end
end L2
namespace Att
open PySem PySem.W PySem.Calls PyProof.Rows
theorem zd0{P:Params}{h:Heap}:∀(ns:List Int) (vs:List Ad),WellAll P h vs (ns.map WData.int)->B6 vs ns:=by
 intro ns
 induction ns with
 |nil =>
  intro vs w;rw[Cr]at w
  cases w
  exact .nil
 |cons n ns ih =>
  intro vs w;rw[Ba]at w
  cases w with
  |cons a b =>
   cases a
   exact .cons _ _ (ih _ b)
theorem ziC{l:OpenLaw}{n:Nat}(hn:l.most=some n){P:Params}{h:Heap}{args:List WData}{vals:List Ad}
  (hpre:l.row.toRowW.claim.pre args=true) (hwl:WellAll P h vals args) :
  ∃a vs ns,vals=[AA a]/\args=[WData.list (ns.map WData.int)]/\h.get? a=some { cls:=.type "list",data:=.seq vs.toArray }/\B6 vs ns/\ns.length<=n:=by
 have hsh:WShape.hasAll [] args [.list .int]=true:=(pre_splitW hpre).1;have hc:l.pre.holds [] { args:=args }=true:=(pre_splitW hpre).2;obtain⟨d,r,rfl,h1,h2⟩:=hasAllW_cons hsh;obtain rfl:=hasAllW_nil h2;obtain⟨xs,rfl,h3⟩:=hasW_list h1;obtain⟨ns,rfl⟩:=items_int h3
 have hlen:ns.length<=n:=by
  unfold OpenLaw.pre at hc
  have h4:(WTm.not (.lt (.lit (.int (n:Int))) (.len (.arg 0)))).holds [] { args:=[.list (ns.map .int)] }=true:=by have h4:=(holds_andW hc).1;rw[hn]at h4;exact h4
  have h5:=condW_of h4 (w_not (w_lt w_lit (w_len_list (w_arg rfl))));rw[Af]at h5;refine Nat.le_of_not_lt λq=>?_
  have q':(n:Int)<((ns.length:Nat):Int):=by lia
  first
   | (rw[decide_eq_true q']at h5;exact absurd h5 (by decide))
   | (simp at h5;lia)
 cases hwl with
 |cons w1 w2 =>
  cases w2
  cases w1 with
  |list ho hall=>exact⟨_,_,ns,rfl,rfl,ho,zd0 ns _ hall,hlen⟩
theorem ziM(l:OpenLaw)(args:List WData):l.row.toRowW.claim.post args (.bool true) args=true :=
 postW_of (r:=l.row.toRowW) (X:=(true == true))
  (show WShape.has [] (.bool true) .bool=true by first |rfl |decide |simp[WShape.has,WShape.arms,WShape.armsAll])
  (show (WTm.eq .res (.lit (.bool true))).value [] { args:=args,res:=some (.bool true),after:=args }=some (.bool (true == true)) from w_eq_bool (w_res rfl) w_lit) rfl
theorem attach_call{l:OpenLaw}{n:Nat}{q:AH}{loose:List Str}{XP:(Str -> Option Ad) -> Heap -> Prop}{YP:AZ -> Heap -> Prop}{d:DefRec}
  (hn:l.most=some n) (hdf:d.params.defaults=[])
  (call:∀(w:AZ) (s₀ s₁:Ae) (mg mb:Str->Option Ad) (fa:Addr) (o:Obj) (pm cd doc:Ad) (a:Addr) (vs:List Ad) (ns:List Int),
   Ground q loose [] XP w s₀ mg mb s₁.heap->YP w s₁.heap ->
   s₁.heap.get? fa=some o->o.data=.func (docDef d.name d.params d.body d.scope pm cd doc)->s₁.heap.CodeRec cd d.name->mg d.name=some (.ref fa) ->
   s₁.heap.get? a=some { cls:=.type "list",data:=.seq vs.toArray }->B6 vs ns->ns.length<=n->s₁.gens=#[] ->
   BY (Aw l.prog w) callerA (.call (.ref fa) ⟨[.ref a],[]⟩) (λr s'=>r=.ok (.ret (.bool true))/\OldK s₁.heap s'.heap/\s'.os=s₁.os/\AllBare s'.gens) s₁) :
  WalkO q loose XP YP l.row.toRowW d [] (λf vs=>PySem.call f vs):=by
 intro w s₀ s₁ mg mb G Y fa o pm cd doc dV kV ho hd hcd hD hmg hg args vals as hpre hlay hrd hwl hlo;obtain rfl:dV=.none:=Dflts.none hD hdf;obtain rfl:kV=.none:=Dflts.noKw hD;obtain⟨a,vs,ns,rfl,rfl,hobj,hints,hlen⟩:=ziC hn hpre hwl;refine enter_call (codeAny_mono (call w s₀ s₁ mg mb fa o pm cd doc a vs ns G Y ho (fd_plain hd) hcd hmg hobj hints hlen hg) λr s' hq=>?_);obtain⟨rfl,h2,h3,h4⟩:=hq;exact⟨.inl ⟨.bool true,.bool true,[],rfl,λ_=>rfl,.bool true,ziM l _,λ_=>⟨List.Pairwise.nil,λ_ hm=>(nomatch hm)⟩⟩,h2,h3,h4⟩
section
variable {prog:AH}{w:AZ}{A:AL}{E:Ad->Ae->Prop}{s:Ae}{K:Frag}
noncomputable def zmz(h:Heap)(L d:Addr):List (Addr×Obj):=(AE h.objs.size).filterMap λa=>if a=L∨a=d then none else (h.get? a).map λo=>(a,o)
end
end Att
namespace L2
open PySem PySem.Spec PyProof.Rows
theorem zfw:∀{vs:List Ad}{ns:List Int},B6 vs ns->Vals (ns.map V.int) vs
 |_,_,.nil=>.nil
 |_,_,.cons n t h=>.cons ⟨t,rfl⟩ (zfw h)
noncomputable def Only(H:Hp):Prop:=∀b,H b=none∨∃o xs,H b=some (.frz o (.lst xs))
theorem zkk{P:AH}{w:AZ}{K:W.Frag}{mg mb:Str -> Option Ad}{CX:CXT}{k:Nat}{fa a:Addr}{fd:Bu}{x:Str}{sp:Sp}{s₁ : Ae}{vs:List Ad}{ns:List Int}
    (KX:K.In s₁.heap) (hns:s₁.heap.Ns AI mg) (hb:s₁.heap.Ns builtinsNs mb) (hbb:∀x:Str,x ≠ "__name__" -> mb x=bootBuiltins x) (hlim:s₁.heap.NoLimit) (hg:s₁.gens=#[])
    (ha:s₁.heap.get? a=some { cls:=.type "list",data:=.seq vs.toArray }) (hi:B6 vs ns) (hl:ns.length<=sizeLine) (hr:Room k callerA)
    (F:∀base:Heap,K.In base->base.Ns AI mg->FnOk P w K mg base CX k fa fd [x] sp) (hbind:∀(s:Ae) (u:Ad),BindsTo s fd ⟨[u],[]⟩ [(x,u)])
    (hsp:∀H:Hp,Only H->SqL K H a (ns.map V.int)->sp [.ref a] H (λv _=>v=.bl true) λ_ _ _=>False)
    (hCX:∀H e s',CX [] H s₁ (λ_ _ _=>False) e s'->False) :
    BY (Aw P w) callerA (.call (.ref fa) ⟨[.ref a],[]⟩) (λr s'=>r=.ok (.ret (.bool true))/\OldK s₁.heap s'.heap/\s'.os=s₁.os/\AllBare s'.gens) s₁:=by
  have rv:=zfw hi;have lenV:=hi.length
  have core:∀H:Hp, Only H -> SqL K H a (ns.map V.int) -> HOk P w H s₁.heap -> (∀b, H b ≠ none -> b=a) -> (H a ≠ none -> K.lookup a=none) ->
      BY (Aw P w) callerA (.call (.ref fa) ⟨[.ref a],[]⟩) (λr s'=>r=.ok (.ret (.bool true))/\OldK s₁.heap s'.heap/\s'.os=s₁.os/\AllBare s'.gens) s₁:=by
    intro H hO hS hok hA hK;have base_of:∀{b:Addr} {o:Obj},s₁.heap.get? b=some o->H b=none->(hidT s₁.heap H).get? b=some o:=λe n=>zkm e n
    have noA:∀{b:Addr} {o:Obj} {es:Array DictEntry} {ep:Nat},s₁.heap.get? b=some o->o.data=.dict es ep->H b=none:=λ{b o es ep} e d=>by
      cases q:H b with
      |none=>rfl
      |some u =>
        have e':b=a:=hA b (by rw[q];simp);subst e';rw[ha]at e;cases e;have d':Data.seq vs.toArray _=Data.dict es ep:=d
        cases d'
    have nsK:∀{b:Addr} {m:Str->Option Ad},s₁.heap.Ns b m->(hidT s₁.heap H).Ns b m:=λ{b m} ⟨o,es,ep,e,d,r⟩=>⟨o,es,ep,base_of e (noA e d),d,r⟩
    have hKb:K.In (hidT s₁.heap H):=λb o e=>base_of (KX b o e) (by
      cases q:H b with
      |none=>rfl
      |some u =>
        have e':b=a:=hA b (by rw[q];simp);subst e';rw[hK (by rw[q];simp)]at e;cases e)
    have hM:Mod K mg (hidT s₁.heap H):=⟨hKb,nsK hns,⟨mb,nsK hb,hbb⟩,let ⟨mc,h1,h2⟩:=hlim;⟨mc,nsK h1,h2⟩⟩;have e0:Env0 P w K mg (hidT s₁.heap H) callerA [] s₁ H:=⟨rfl,hM,λb o e=>zlq e,Nat.le_of_eq (zjo _ _),trivial,λb hb=>absurd (show b∈([]:List Addr) from hb) (by simp),hok,.of_eq hg⟩;refine codeAny_mono ((F _ hKb (nsK hns)).run callerA [] s₁ H ⟨[.ref a],[]⟩ [.ref a] [.ref a] _ _ hr e0 (hbind s₁ (.ref a)) (.cons rfl .nil) (hsp H hO hS)) λr s' h=>?_
    cases r with
    |error e=>exact (hCX H e s' h).elim
    |ok fl =>
      cases fl with
      |next=>exact BA h
      |brk=>exact BA h
      |cont=>exact BA h
      |ret u =>
        obtain⟨v,H',os,bare,un,hok',r',q⟩:=h;have q':v=.bl true:=q;subst q';obtain rfl:u=Dr true:=r';refine⟨rfl,OldK.of_keep λb o e=>?_,os,bare⟩
        cases q:H b with
        |none=>exact un.keep b o e q (by intro z;exact absurd (show b∈([]:List Addr) from z) (by simp)) (by simp)
        |some u =>
          rcases hO b with z |⟨ob,xs,z⟩
          . rw[q]at z;cases z
          . have z2:=un.frzs b ob _ z;obtain⟨e1,_⟩:=hok b _ z;obtain⟨e2,_⟩:=hok' b _ z2;rw[e]at e1;cases e1;exact e2
  cases hk:K.lookup a with
  |some o =>
    have e:=KX a o hk;rw[ha]at e
    cases e
    refine core (λ_=>none) (λ_=>.inl rfl) (.inr ⟨_,vs.toArray,_,hk,rfl,rfl,rfl,by rw[Az,lenV];exact hl,by simpa using rv⟩) (λb u z=>by have z':(none:Option HO)=some u:=z;cases z') (λb z=>absurd rfl z) λz=>absurd rfl z
  |none =>
    refine core (λb=>if b=a then some (.frz { cls:=.type "list",data:=.seq vs.toArray } (.lst (ns.map V.int))) else none) (λb=>?_) (.inl (.inr ⟨{ cls:=.type "list",data:=.seq vs.toArray },if_pos rfl⟩)) (λb u z=>?_) (λb z=>?_) λ_=>hk
    . by_cases hb:b=a
      . exact .inr ⟨_,_,if_pos hb⟩
      . exact .inl (if_neg hb)
    . by_cases hb:b=a
      . have z':=(if_pos hb).symm.trans z
        cases z'
        subst hb;exact⟨ha,by rw[Af];exact hl,vs,_,rv,ha⟩
      . have z':=(if_neg hb).symm.trans z
        cases z'
    . by_cases hb:b=a
      . exact hb
      . exact absurd (if_neg hb) z
noncomputable abbrev KOf{K:W.Frag}{h:Heap}(_:K.In h):W.Frag:=K
theorem walk_of{l:W.OpenLaw}{n k:Nat}{q:AH}{loose:List Str}{XP:(Str -> Option Ad) -> Heap -> Prop}{YP:AZ -> Heap -> Prop}{d:DefRec}{K:Params -> W.Frag}{CX:AZ -> CXT}{sp:AZ -> Sp}{x:Str}
  (hn:l.most=some n) (hn2:n<=sizeLine) (hdf:d.params.defaults=[]) (hr:Room k callerA)
  (hY:∀(w:AZ) (h:Heap),YP w h->(K w.params).In h)
  (F:∀(w:AZ) (mg:Str->Option Ad) (fa:Addr) (h:Heap),(K w.params).In h->h.Ns AI mg->mg d.name=some (.ref fa) ->
   ∃fd:Bu,(∀(s:Ae) (u:Ad),BindsTo s fd ⟨[u],[]⟩ [(x,u)]) /\
    ∀base:Heap,(K w.params).In base->base.Ns AI mg->FnOk l.prog w (K w.params) mg base (CX w) k fa fd [x] (sp w))
  (hsp:∀(w:AZ) (H:Hp) (a:Addr) (ns:List Int),ns.length<=n->Only H->SqL (K w.params) H a (ns.map V.int)->sp w [.ref a] H (λv _=>v=.bl true) λ_ _ _=>False)
  (hCX:∀(w:AZ) (H:Hp) (s:Ae) (e:Ad) (s':Ae),CX w [] H s (λ_ _ _=>False) e s'->False) :
  W.WalkO q loose XP YP l.row.toRowW d [] (λf vs=>PySem.call f vs):=by
 refine Att.attach_call hn hdf λw s₀ s₁ mg mb fa o pm cd doc a vs ns G Y ho hd hcd hmg hobj hints hlen hg=>?_
 have KX:=hY w _ Y;obtain⟨fd,hb,hF⟩:=F w mg fa _ KX G.T.g hmg;exact zkk KX G.T.g G.T.b G.T.builtins G.T.nolimit hg hobj hints (A8 hlen hn2) hr hF hb (λH hO hS=>hsp w H a ns hlen hO hS) λH e s'=>hCX w H s₁ e s'
end L2
/- THE LAST THEOREM (shape; LID, My.* are yours):
  My.Adr: a structure of the addresses that your layer names (classes,functions);My.Txt K t: a structure (Prop) of the equations over K;
  My.txt_mk:{K} {implicit addresses ..} (e1:nsIn K AI "law" = some (some (.ref f))) (e2:K.lookup f=some ⟨oc,od,.func (fnOf "law" "law" params body scope dV kV doc pm an cdv ct),sl⟩) (e3:codeIn K cdv "law" = true) ..:∃t,My.Txt K t
set_option maxRecDepth 100000 in
set_option maxHeartbeats 0 in
theorem PySem.Challenge.cw_LID_holds : PySem.Challenge.rw_LID.Holds := by
 w_on;o_law;k_head;(case hw=>w_witness2)
 k_fill
 refine L2.walk_of (l:=PySem.Challenge.rw_LID) (n:=63) (k:=40) (x:="script") (CX:=λw=>..) (sp:=λ_=>My.sp_law) rfl (by decide) rfl ⟨rfl,by decide,by decide⟩ (λw h Y=>W.kIn_of Y) ?F ?S ?C
 case F =>
  intro w mg fa h KX G hmg
  have T:∃ t,My.Txt (L2.KOf KX) t:=by
   dsimp only[L2.KOf]                          -- K must stand as «<heap const> w.params» for k_is
   refine' My.txt_mk ?e1 ?e2 ?e3 ..
   (case e1=>W.k_is)                    -- in the order: a name -> its address -> its object -> its parts
   (case e2=>W.k_is)
   ..
  obtain⟨t,T⟩:=T
  have e0:=hmg.symm.trans (W.mg_of KX G T.law)
  cases e0                                       -- fa is the law's own address
  exact⟨_,λs u=>.of_eq rfl,λbase kb nb=>My.law_fn T kb nb⟩     -- if «.of_eq rfl» comes too early: refine' ⟨_,?b,λbase kb nb=>My.law_fn T kb nb⟩;exact λs u=>.of_eq rfl
 case S=>exact λw H a ns hl hO hS=>..
 case C=>exact ..
(the tactic k_is has no namespace: write k_is) -/
namespace L2
open PySem PySem.Spec PyProof.Rows
noncomputable def zaN(s:Stmt):Arguments:=match s with
 |.FunctionDef _ a _ _ _ _ _ _ _ _=>a
 |_=>{ posonlyargs:=[],args:=[],vararg:=none,kwonlyargs:=[],kw_defaults:=[],kwarg:=none,defaults:=[] }
noncomputable def zaC(s:Stmt):List Stmt:=match s with
 |.FunctionDef _ _ b _ _ _ _ _ _ _=>b
 |_=>[]
noncomputable def zad(s:Stmt):Scope:=match s with
 |.FunctionDef _ _ _ _ _ _ sc _ _ _=>sc
 |_=>{ kind:=.function,names:=[],isGenerator:=false,isCoroutine:=false }
noncomputable abbrev CX0:CXT:=λ_ _ _ _ _ _=>False
noncomputable abbrev E0:XK:=λ_ _ _=>False
theorem pass0{X:Cx}:zjO CX0 X E0:=λ_ _ _ _ _ _ _ h=>h.elim
structure Fun (K:W.Frag) (x qual:Str) (st:Stmt) (f:Addr) (fd:Bu):Prop where
 ex:∃(oc:Ad) (od:Option Addr) (kV doc pm:Ad) (an:Option Addr) (cdv ct:Ad) (osl:Array (Option Ad)),
  fd=Cy x qual (zaN st) (zaC st) (zad st) .none kV doc pm an cdv ct/\K.lookup f=some ⟨oc,od,.func fd,osl⟩/\W.codeIn K cdv qual=true
 kp:W.keepIn K (.ref f)=true
section
variable {P:AH}{w:AZ}{K:W.Frag}{mg:Str->Option Ad}{base:Heap}
theorem Fun.ok{x qual:Str}{st:Stmt}{f:Addr}{fd:Bu}{N ps:List Str}{k:Nat}{sp:Sp}(F:Fun K x qual st f fd)(S:FnScope N ps (zad st))(len:∀vs H Q E, sp vs H Q E -> vs.length=ps.length)
  (hbody:∀(cdv:Ad) (A:AL) (outer:List Env) (s:Ae) (H:Hp) (vs:List V) (Q:VK) (E:XK),Room k (A.deeper (envOfC qual (zad st) s.heap.objs.size f cdv))->sp vs H Q E ->
   ∃t,PSs (cxOf CX0 P w K mg base N qual (zad st) f cdv A outer s H E).nox (zaC st) t/\t { nx:=λ_ H'=>Q .non H',rt:=Q } (start N vs) H):FnOk P w K mg base CX0 (k+1) f fd ps sp:=by
 obtain⟨oc,od,kV,doc,pm,an,cdv,ct,osl,rfl,lk,hcd⟩:=F.ex;refine fn_of lk hcd S len λA outer s H vs Q E hr hsp=>?_
 obtain⟨t,h,q⟩:=hbody cdv A outer s H vs Q E hr hsp;exact⟨t,h.nox,q⟩
theorem Fun.binds{x qual:Str}{st:Stmt}{f:Addr}{fd:Bu}{ps:List Str}(F:Fun K x qual st f fd)
  (h:∀(kV doc pm:Ad) (an:Option Addr) (cdv ct:Ad) (us:List Ad),us.length=ps.length->CF (Cy x qual (zaN st) (zaC st) (zad st) .none kV doc pm an cdv ct) ⟨us,[]⟩=pure (ps.zip us)):Binds K fd ps []:=by
 obtain⟨oc,od,kV,doc,pm,an,cdv,ct,osl,rfl,lk,hcd⟩:=F.ex;exact .all (h kV doc pm an cdv ct)
theorem zb1{x qual:Str}{st:Stmt}{f:Addr}{oc:Ad}{od an:Option Addr}{osl:Array (Option Ad)}{kV doc pm cdv ct:Ad}(l:K.lookup f=some ⟨oc, od, .func (Cy x qual (zaN st) (zaC st) (zad st) .none kV doc pm an cdv ct), osl⟩)
  (c:W.codeIn K cdv qual=true) (k:W.keepIn K (.ref f)=true):Fun K x qual st f (Cy x qual (zaN st) (zaC st) (zad st) .none kV doc pm an cdv ct):=⟨⟨oc,od,kV,doc,pm,an,cdv,ct,osl,rfl,l,c⟩,k⟩
end
theorem hu_of{A:AL}{k:Nat}(hr:Room k A):A.units+1<cLine:=Nat.lt_of_le_of_lt (Nat.add_le_add_left (by decide:1<=64) _) hr.units
theorem zaj{n:Nat}(h:n<=1000):n<sizeLine:=Nat.lt_of_le_of_lt h (by decide)
section
variable {X:Cx}
theorem pv (i:Nat){x:Str}{pos:Pos}(hN:X.N[i]? = some x := by rfl) (hv:Vis X.env.scope x := by first |exact Or.inl rfl |exact Or.inr (Or.inl rfl) |exact Or.inr (Or.inr rfl)) (hd:(x == ("__debug__" : Str))=false := by decide)
  (hcd:(x == ("__classdict__" : Str))=false:=by decide):PE X (.Name x pos) (tVar i):=zmd hN hv hd hcd
end
theorem iteF{A B:Prop}(h:B):if false=true then A else B:=by rw[if_neg AM];exact h
theorem iteT{A B:Prop}(h:A):if true=true then A else B:=by rw[if_pos rfl];exact h
theorem ite2{c A B:Prop} [Decidable c](h1:c->A)(h2:¬ c->B):if c then A else B:=by
 by_cases h:c
 .rw[if_pos h];exact h1 h
 .rw[if_neg h];exact h2 h
noncomputable def Same(H H':Hp):Prop:=∀b o,H b=some o->H' b=some o
theorem Same.refl(H:Hp):Same H H:=λ_ _ h=>h
theorem Same.trans{H H1 H2:Hp}(a:Same H H1)(b:Same H1 H2):Same H H2:=λc o h=>b c o (a c o h)
theorem Same.free{H H':Hp}(e:Same H H'){l:Addr}(h:H' l=Option.none):H l=Option.none:=by
 cases q:H l with
 |none=>rfl
 |some o =>
  rw[e l o q]at h
  cases h
theorem Same.seq{K:W.Frag}{H H':Hp}{a:Addr}{xs:List V}(e:Same H H')(h:SqL K H a xs):SqL K H' a xs:=by
 rcases h with (h |⟨o,h⟩) |h
 .exact .inl (.inl (e _ _ h))
 .exact .inl (.inr ⟨o,e _ _ h⟩)
 .exact .inr h
section
variable {κ:Type} [DecidableEq κ]
end
end L2
set_option maxHeartbeats 4000000
namespace L2
open PySem PySem.Spec PyProof.Rows
noncomputable def zbV(J:It)(g:TG)(tb:TS):TS:=λD σ H=>∃W:Nat->Nat->St->Hp->Prop,(∃m,W 0 m σ H)/\∀i m σ H,W i m σ H ->
 (J.stop i H/\D.nx σ H)∨(J.go i H/\∃N:St->Hp->Prop,(∀ σ' H',N σ' H'->∃m',m'<m/\W (i+1) m' σ' H')/\∀x H',J.yld i H x H'->g x σ H' λσ2 H2=>tb { D with nx:=N,ct:=N,bk:=D.nx } σ2 H2)
noncomputable def PTs(X:Cx)(ifs:List Expr)(t:TT):Prop :=
 ∀(pins:List (Addr×Obj)) (s:Ae) (σ:St) (H:Hp) (Q:Bool->Hp->Prop),Inv X pins σ H s->t σ H Q ->
  Ar (Aw X.prog X.w) X.A (forIn ifs true λc r=>if r=true then do let ok <- isTrue c X.env (eval c X.env);pure (ForInStep.yield ok) else pure (ForInStep.yield r)) (TP X pins σ Q) X.xe s
theorem zaE{X:Cx}:PTs X [] (λ_ H Q=>Q true H):=λpins s σ H Q I h=>Aj ⟨H,I,h⟩
theorem zca{X:Cx}{c:Expr}{t:TT}(hc:PT X c t):PTs X [c] t:=λpins s σ H Q I h=>wpAny_tests_one (hc pins s σ H Q I h)
noncomputable def PB(X:Cx)(inner:Sem Unit)(t:TS):Prop :=
 ∀(pins:List (Addr×Obj)) (s:Ae) (σ:St) (H:Hp) (D:Ends),Inv X pins σ H s->t D σ H->Ar (Aw X.prog X.w) X.A inner (λ_ s'=>∃ σ' H',Inv X pins σ' H' s'/\D.nx σ' H') X.xe s
noncomputable def tIfs(tt:TT)(tb:TS):TS:=λD σ H=>tt σ H λb H1=>if b=true then tb D σ H1 else D.nx σ H1
theorem zcn{X:Cx}{e tg:Expr}{d:Nat}{ifs:List Expr}{p:Pos}{acc:Ad}{inner:Sem Unit}{g:TG}{tt:TT}{tb:TS}{it:Addr}{fp:List Addr}{tn:Nat -> Heap -> Prop}{J:It}
  {pins:List (Addr×Obj)} {s:Ae} {σ:St} {H:Hp} {D:Ends} {R:Result->Ae->Prop}
  (hq:(Code.compLoop e d (.ref it) acc X.env).quiet=true)
  (hden:(Aw X.prog X.w).den (.compLoop e d (.ref it) acc X.env)=(compTurn e d (.ref it) acc X.env).onRaise (λx=>do noteFrame x X.env;theTreesLotGoes x))
  (hT:compTurn e d (.ref it) acc X.env=(do
   standAt p
   match <- pyNext (.ref it) with
   |none=>pure (.done .next)
   |some v =>
    Dl tg (.ref it) v
    assign tg X.env v
    let mut ok:=true
    for c in ifs do
     if ok then ok <- isTrue c X.env (eval c X.env)
    if ok then
     inner
    again (.compLoop e d (.ref it) acc X.env)))
  (hA:∀(B:AL) {α:Type} {t:Sem α} {Q:α->Ae->Prop} {E:Ad->Ae->Prop} {s:Ae},B=X.A.under (.compLoop e d (.ref it) acc X.env)->Ar (Aw X.prog X.w) X.A t Q E s->Ar (Aw X.prog X.w) B t Q E s)
  (hc:X.calm=true) (hx:X.xe=λ_ _=>False) (hg:PG X tg g) (ht:PTs X ifs tt) (hb:PB X inner tb)
  (I:Inv X pins σ H s) (T:Turn X.prog X.w X.K tg J fp it tn) (st:tn 0 s.heap) (f:∀b∈fp,FpOk X pins H b) (W:zbV J g (tIfs tt tb) D σ H)
  (hR:∀fl s',(∃ σ' H',Inv X pins σ' H' s'/\(∀b∈fp,H' b=none)/\D.nx σ' H')->R (.ok fl) s') :
  BY (Aw X.prog X.w) X.A (.compLoop e d (.ref it) acc X.env) R s:=by
 obtain⟨W,⟨m0,w0⟩,turn⟩:=W;have stat:∀{H':Hp},(∀b∈fp,H' b=none)->∀b∈fp,FpOk X pins H' b:=λhn b hb=>⟨hn b hb,(f b hb).2⟩
 refine codeAny_loop hq (λn s'=>∃i σ' H',Inv X pins σ' H' s'/\tn i s'.heap/\(∀b∈fp,H' b=none)/\W i n σ' H') ?_ m0 ⟨0,σ,H,I,st,λb hb=>(f b hb).1,w0⟩;rintro n s3 ⟨i,σ3,H3,I3,st3,fr3,w3⟩;refine hA _ rfl ?_
 rw[hden];refine wpAny_noted (wpAny_noRaise ?_);rw[hT];refine Ac (Cw ?_)
 have nx:∀{α:Type} {t:Sem α} {Q:α->Ae->Prop} {s:Ae},Ar (Aw X.prog X.w) X.A t Q X.xe s->Ar (Aw X.prog X.w) X.A t Q (λ_ _=>False) s:=λ{α t Q s} h=>by rw[hx]at h;exact h
 rcases turn i n σ3 H3 w3 with⟨stop,qn⟩ |⟨go,N,hN,step⟩
 .refine Ac (thn (T.done X rfl rfl rfl hc i pins s3 σ3 H3 _ I3 (stat fr3) st3 stop) λr s4 ⟨hr,I4⟩=>?_);subst hr;exact Aj (hR _ _ ⟨σ3,H3,I4,fr3,qn⟩)
 .refine Ac (thn (T.item X rfl rfl rfl hc i pins s3 σ3 H3 _ I3 (stat fr3) st3 go) λr s4 ⟨u,hr,h4⟩=>?_);subst hr;refine Ac (thn h4 λ_ s5 ⟨x,H5,I5,r5,y5,st5,fr5⟩=>?_);have I5':=I5.pinned (stat fr5) (T.obj _ _ st5)
  have again:∀{σ7:St} {H7:Hp} {s7:Ae},Inv X (pins++zdj fp s5.heap) σ7 H7 s7->N σ7 H7->∃m,m<n/\∃i σ' H',Inv X pins σ' H' s7/\tn i s7.heap/\(∀b∈fp,H' b=none)/\W i m σ' H':=λ{σ7 H7 s7} I7 n7=>by obtain⟨m',hm,w7⟩:=hN σ7 H7 n7;refine⟨m',hm,i+1,σ7,H7,I7.unpinned,T.keep _ _ _ st5 λb hb o e=>(I7.pin (b,o) (Au _ (Au _ (zaU hb e)))).1,λb hb=>?_,w7⟩;obtain⟨o,e,d⟩:=T.obj _ _ st5 b hb;exact (I7.pin (b,o) (Au _ (Au _ (zaU hb e)))).2.1
  refine Ac (thn (nx (hg _ s5 σ3 H5 x u _ I5' r5 (step x H5 y5))) λ_ s6 ⟨σ6,H6,I6,q6⟩=>?_);refine Ac (thn (nx (ht _ s6 σ6 H6 _ I6 q6)) λok s7 ⟨H7,I7,q7⟩=>?_)
  cases ok with
  |false =>
   exact Aj ⟨rfl,again I7 q7⟩
  |true =>
   refine Ac (thn (nx (hb _ s7 σ6 H7 _ I7 q7)) λ_ s8 ⟨σ8,H8,I8,q8⟩=>?_);exact Aj ⟨rfl,again I8 q8⟩
noncomputable abbrev blk(X:Cx)(sc:Scope)(cl:List (Str×Addr))(C:Addr)(N':List Str)(s0:Ae)(H0:Hp)(ex:List Addr):Cx :=
 { X with N:=N',s₀:=s0,H₀:=H0,env:=BZ sc cl C X.env,outer:=X.stack,stack:=X.stack,ex:=ex,fn:=λ_=>false,pn:=[],xe:=λ_ _=>False }
structure BlkOk (osc:Scope) (N:List Str) (sc:Scope) (N':List Str) (sel:List (Option Nat)):Prop where
 kind:sc.kind=.function
 nocell:∀y∈sc.names,y.2≠.cell
 names:∀y∈sc.names,y.2=.local->sc.names.lookup y.1=some .local
 free:∀y∈sc.names,y.2=.free->osc.names.lookup y.1=some .cell∨osc.names.lookup y.1=some .free
 len:sel.length=N'.length
 sel:∀p∈sel.zip N',∀i∈p.1,N[i]?=some p.2/\sc.names.lookup p.2=some .free
noncomputable def selSt(sel:List (Option Nat))(σ:St):St:=sel.map λo=>o.bind λi=>(σ[i]?).join
theorem zcb{env:Env} : ∀(names:List (Str × Cb)) (acc:List (Str × Addr)), (∀y ∈ names, y.2 = .free -> ∃c, env.cells.lookup y.1=some c) ->
  ∃cl,(forIn names acc λ(x:Str×Cb) (r:List (Str×Addr))=>(if (x.2 == .free)=true then do let c <- cellOf env x.1;pure (ForInStep.yield ((x.1,c)::r)) else pure (ForInStep.yield r):Sem (ForInStep (List (Str×Addr)))))=pure cl /\
   (∀x c,cl.lookup x=some c->acc.lookup x=some c∨(env.cells.lookup x=some c/\(x,Be)∈names))/\(∀y∈names,y.2=.free->∃c,cl.lookup y.1=some c)/\(∀x c,acc.lookup x=some c->∃c',cl.lookup x=some c')
 |[],acc,_=>⟨acc,rfl,λ_ _ h=>.inl h,(λ_ h=>nomatch h),λx c h=>⟨c,h⟩⟩
 | (n,k)::r,acc,h=>by
  by_cases hk:k=.free
  .subst hk;obtain⟨c,hc⟩:=h (n,.free) Aq rfl;obtain⟨cl,e,h1,h2,h3⟩:=zcb r ((n,c)::acc) λy hy=>h y (Ak _ hy)
   refine⟨cl,?_,λx c' hx=>?_,λy hy hf=>?_,λx c' hx=>?_⟩
   .rw[Dp];have e1:cellOf env n=pure c:=by unfold cellOf;rw[hc]
    simp only[beq_self_eq_true,if_true,e1,pure_bind];exact e
   .rcases h1 x c' hx with q |⟨q,m⟩
    .by_cases hn:x=n
     .subst hn;rw[AR,beq_self_eq_true]at q
      cases q
      exact .inr ⟨hc,Aq⟩
     .have hb:(x == n)=false:=by simpa using hn
      rw[AR,hb]at q;exact .inl q
    .exact .inr ⟨q,Ak _ m⟩
   .rcases Ao.mp hy with z |z
    .subst z;exact h3 n c (by rw[AR,beq_self_eq_true])
    .exact h2 y z hf
   .by_cases hn:x=n
    .subst hn;exact h3 x c (by rw[AR,beq_self_eq_true])
    .have hb:(x == n)=false:=by simpa using hn
     exact h3 x c' (by rw[AR,hb];exact hx)
  .obtain⟨cl,e,h1,h2,h3⟩:=zcb r acc λy hy=>h y (Ak _ hy)
   refine⟨cl,?_,λx c' hx=>?_,λy hy hf=>?_,h3⟩
   .rw[Dp];have hb:(k == Be)=false:=by simpa using hk
    simp only[hb,BB,if_false,pure_bind];exact e
   .rcases h1 x c' hx with q |⟨q,m⟩
    .exact .inl q
    .exact .inr ⟨q,Ak _ m⟩
   .rcases Ao.mp hy with z |z
    .subst z;exact absurd hf hk
    .exact h2 y z hf
structure Clo (env:Env) (sc:Scope) (cl:List (Str×Addr)):Prop where
 run:closureFor sc env=pure cl
 old:∀x c,cl.lookup x=some c->env.cells.lookup x=some c/\(x,Be)∈sc.names
 has:∀y∈sc.names,y.2=.free->∃c,cl.lookup y.1=some c
theorem zf2{X:Cx}{osc:Scope}{N:List Str}{sc:Scope}{N':List Str}{sel:List (Option Nat)}(ok:X.Ok)(B:BlkOk osc N sc N' sel)(ho:X.env.scope=osc):∃cl,Clo X.env sc cl:=by
 have hc:∀y∈sc.names,y.2=.free->∃c,X.env.cells.lookup y.1=some c:=λy hy hf=>ok.has y.1 (by
  show X.env.scope.names.lookup y.1=_∨X.env.scope.names.lookup y.1=_;rw[ho];exact B.free y hy hf)
 obtain⟨cl,e,h1,h2,_⟩:=zcb (env:=X.env) sc.names [] hc;refine⟨cl,?_,λx c h=>?_,h2⟩
 .unfold closureFor;have e':=e;show (do let r <- forIn sc.names [] _;pure r)=_;simp only[bind_pure];exact e'
 .rcases h1 x c h with q |q
  .cases q
  .exact q
theorem za5{env:Env} : ∀{names:List (Str × Cb)}{x:Str}{k:Cb}, (names.map λ(n, k) => if (k == Be && env.scope.kind == .function && env.kindOf n == some .cell) then (n, Bl) else (n, k)).lookup x=some k ->
  ∃k',(x,k')∈names/\(k=k'∨(k=.cell/\k'=.free))
 |[],x,k,h=>nomatch h
 | (n,j)::r,x,k,h=>by
  have ih:=@za5 env r x k;have h:List.lookup x ((if (j == Be && env.scope.kind == .function && env.kindOf n == some .cell)=true then (n,Bl) else (n,j))::_)=some k:=h
  by_cases hx:x=n
  .subst hx
   by_cases hc:(j == Be && env.scope.kind == .function && env.kindOf x == some .cell)=true
   .rw[if_pos hc,AR,beq_self_eq_true]at h
    cases h
    refine⟨j,Aq,.inr ⟨rfl,?_⟩⟩;simp only[BX,beq_iff_eq]at hc;exact hc.1.1
   .rw[if_neg hc,AR,beq_self_eq_true]at h
    cases h
    exact⟨j,Aq,.inl rfl⟩
  .have hb:(x == n)=false:=by simpa using hx
   have h':List.lookup x (r.map λ(n,k)=>if (k == Be && env.scope.kind == .function && env.kindOf n == some .cell) then (n,Bl) else (n,k))=some k:=by
    by_cases hc:(j == Be && env.scope.kind == .function && env.kindOf n == some .cell)=true
    .rw[if_pos hc,AR,hb]at h;exact h
    .rw[if_neg hc,AR,hb]at h;exact h
   obtain⟨k',m,e⟩:=ih h';exact⟨k',Ak _ m,e⟩
theorem za9{env:Env} : ∀{names:List (Str × Cb)}{x:Str}, names.lookup x=some .free ->
  (names.map λ(n,k)=>if (k == Be && env.scope.kind == .function && env.kindOf n == some .cell) then (n,Bl) else (n,k)).lookup x=some .cell ∨
  (names.map λ(n,k)=>if (k == Be && env.scope.kind == .function && env.kindOf n == some .cell) then (n,Bl) else (n,k)).lookup x=some .free
 |[],x,h=>nomatch h
 | (n,j)::r,x,h=>by
  have ih:=@za9 env r x;rw[AR]at h;show List.lookup x ((if (j == Be && env.scope.kind == .function && env.kindOf n == some .cell)=true then (n,Bl) else (n,j))::_)=_∨List.lookup x ((if (j == Be && env.scope.kind == .function && env.kindOf n == some .cell)=true then (n,Bl) else (n,j))::_)=_
  cases hx:x == n with
  |true =>
   rw[hx]at h
   cases h
   by_cases hc:(Be == Be && env.scope.kind == .function && env.kindOf n == some .cell)=true
   .rw[if_pos hc,AR,hx];exact .inl rfl
   .rw[if_neg hc,AR,hx];exact .inr rfl
  |false =>
   rw[hx]at h
   by_cases hc:(j == Be && env.scope.kind == .function && env.kindOf n == some .cell)=true
   .rw[if_pos hc,AR,hx];exact ih h
   .rw[if_neg hc,AR,hx];exact ih h
section
variable {X:Cx}{osc:Scope}{N:List Str}{sc:Scope}{N':List Str}{sel:List (Option Nat)}{cl:List (Str×Addr)}{pins:List (Addr×Obj)}{σ:St}{H:Hp}{s:Ae}{fp:List Addr}
theorem zlA{h':Heap}{ob:Obj}{tk:Nat}(B:BlkOk osc N sc N' sel)(ho:X.env.scope=osc)(hN:X.N=N)(Cl:Clo X.env sc cl)(I:Inv X pins σ H s)
    (f:∀b∈fp,FpOk X pins H b) (fo:∀b∈fp,∃o,s.heap.get? b=some o) (hns:h'.Ns s.heap.objs.size (λ_=>none)) (hsb:C7 s.heap.objs.size (s.heap.push ob) h') :
    Inv (blk X sc cl s.heap.objs.size N' s H fp) [] (selSt sel σ) H { s with heap:=h',toks:=tk }:=by
  have old:∀b o,s.heap.get? b=some o->h'.get? b=some o:=λb o e=>(hsb.2 b (At (An e))).trans (Ag _ e)
  have bel:∀b∈fp,b<s.heap.objs.size:=λb hb=>by obtain⟨o,e⟩:=fo b hb;exact An e
  have kk:∀x,(BZ sc cl s.heap.objs.size X.env).kindOf x=some .cell∨(BZ sc cl s.heap.objs.size X.env).kindOf x=some .free->(x,Be)∈sc.names:=λx hx=>by
    rcases hx with hx |hx
    . obtain⟨k',m,e⟩:=za5 hx;rcases e with e |⟨_,e⟩
      . subst e;exact absurd rfl (B.nocell _ m)
      . subst e;exact m
    . obtain⟨k',m,e⟩:=za5 hx;rcases e with e |⟨e,_⟩
      . subst e;exact m
      . cases e
  refine⟨⟨I.mod, B.kind, I.ok.glob, I.ok.blt, Ai _, λx y c e1 e2 => I.ok.inj x y c (Cl.old x c e1).1 (Cl.old y c e2).1, λx hx => Cl.has _ (kk x hx) rfl, λx c z => absurd z (by intro q; cases q), I.ok.hd, I.ok.frames, .inl rfl,
      λb hb=>⟨At (bel b hb),λx c e=>(f b hb).2.2.2.2.1 x c (Cl.old x c e).1⟩,I.bs,A8 I.ok.bsz I.sz,λb o e hb=>?_,λb hb hs=>?_,I.stack,I.stkFree⟩,
    rfl,I.bare,Un.kept old,⟨_,hns,λj x v e1 e2 e3=>?_⟩,λx c e=>?_,I.hok.fresh (Ai _),λx c e=>I.freeC x c (Cl.old x c e).1,λp hp=>absurd (show p∈([]:List (Addr×Obj)) from hp) (by simp),I.hok.kept old,?_⟩
  . rcases (f b hb).2.2.2.1 with z |z
    . exact I.ok.noex b o e z
    . exact absurd (AB (An e) (A8 I.ok.bsz z)) (BI _)
  . obtain⟨_,f1,f2,_⟩:=f b hb;rcases Ao.mp (I.stkSub b hs) with z |z
    . exact f1 z
    . exact f2 z
  . have e2':((sel[j]?).map λo => o.bind λi => (σ[i]?).join)=some (some v) := by have:=e2;unfold selSt at this;rw[Ap]at this;exact this
    cases hj:sel[j]? with
    |none=>rw[hj]at e2';cases e2'
    |some o =>
      rw[hj]at e2'
      cases o with
      |none=>cases e2'
      |some i =>
        have e4:(σ[i]?).join=some v:=AO e2'
        have e5:σ[i]?=some (some v):=by
          cases q:σ[i]? with
          |none=>rw[q]at e4;cases e4
          |some z=>rw[q]at e4;exact congrArg some e4
        have hz:(some i,x)∈sel.zip N':=by
          refine Ah (i:=j) ?_
          rw[A4];exact⟨hj,e1⟩
        obtain⟨g1,g2⟩:=B.sel _ hz i rfl;obtain⟨m,hn,hl⟩:=I.loc;have m2:(x,Be)∈sc.names:=BF g2
        have k2:X.env.kindOf x=some .cell∨X.env.kindOf x=some .free:=by show X.env.scope.names.lookup x=_∨X.env.scope.names.lookup x=_;rw[ho];exact B.free _ m2 rfl
        have v2:Vis X.env.scope x:=by
          rcases k2 with z |z
          . exact .inr (.inl z)
          . exact .inr (.inr z)
        obtain⟨u,r,l⟩:=hl i x v (by rw[hN];exact g1) e5 v2;refine⟨u,r,?_⟩;rcases l with⟨l,_⟩ |⟨_,c,e6,hc⟩
        . rcases k2 with z |z <;> (rw[l]at z;cases z)
        . obtain⟨c',hc'⟩:=Cl.has _ m2 rfl;have e7:=(Cl.old x c' hc').1;rw[e6]at e7
          cases e7
          exact .inr ⟨za9 g2,c,hc',hc.keeps old⟩
  . obtain⟨v,hc⟩:=I.cell x c (Cl.old x c e).1;exact⟨v,hc.keeps old⟩
  . show (selSt sel σ).length=N'.length;unfold selSt;rw[Af,B.len]
theorem zlO{C:Addr}{H':Hp}{σ':St}{s':Ae}(I:Inv X pins σ H s)(f:∀b∈fp,FpOk X pins H b)(I':Inv (blk X sc cl C N' s H fp) [] σ' H' s'):Inv X pins σ H' s' :=
 I.call' (ch:=fp) I'.os I'.base I'.hok I'.bare λb hb=>by obtain⟨_,f1,_,f3,f4,f5⟩:=f b hb;exact⟨f3,f1,f4,f5⟩
end
section
variable {X:Cx}
noncomputable def zbW(p:Addr)(te:TE):TS:=λD σ H=>te σ H λv H1=>∃xs,H1 p=some (.lst xs)/\xs.length<sizeLine/\D.nx σ (upd H1 p (.lst (xs++[v])))
theorem zgy {p:Addr}{elt:Expr}{te:TE}(he:PE X elt te):PB X (do let _ <- call (.builtin "list.append") [.ref p,<- eval elt X.env]) (zbW p te):=by intro pins s σ H D I h;refine Ac (thn (he pins s σ H _ I h) λv s1 ⟨x,H1,I1,r1,xs,e1,hl,q⟩=>?_);refine Ac (thn (zbJ pins s1 σ H1 (.ref p) [x] (.ref p) [v] (λz H2=>D.nx σ H2) I1 rfl (.cons r1 .nil) ⟨p,xs,x,rfl,rfl,e1,hl,q⟩) λu s2 ⟨z,H2,I2,_,q2⟩=>?_);exact Aj ⟨σ,H2,I2,q2⟩
noncomputable def zgX(p:Addr)(tk tv:TE):TS:=λD σ H=>tk σ H λy H1=>tv σ H1 λv H2=>∃H3,DPut H2 p y v H3/\D.nx σ H3
theorem d_set{pins:List (Addr × Obj)}{σ : St}{H H':Hp}{s:Ae}{a:Addr}{y v:V}{u r:Ad}{A:AL}{E:Ad -> Ae -> Prop}{Q:Unit -> Ae -> Prop}(hu:A.units + 1 < cLine)(I:Inv X pins σ H s)(g:DPut H a y v H')(ry:RelV y u)(rv:RelV v r)(h:∀s', Inv X pins σ H' s' -> Q () s') :
  Ar (Aw X.prog X.w) A (dictSet a u r) Q E s:=by
 rcases g with⟨kvs,k,e,ey,l,eH⟩ |⟨kvs,k,b,e,ey,eb,l,eH⟩
 .subst ey eH;obtain⟨z,hd,vs,rel,dd⟩:=dk_of I.hok e;have hz:vs.length<=sizeLine:=by rw[<- rel.length];exact z
  have hl:(putK kvs k v).length<=sizeLine:=by have:=zbo kvs k v;lia
  refine wpAny_dictSet_pairs (hsz:=hz) (kV_is ry) dd λh' dd' hs=>h _ ?_
  have he:∃q,h'.get? a=some q:=let ⟨q,_,_,hq,_⟩:=dd';⟨q,hq⟩
  exact zfg I (by rw[e];exact Ca) hs he (zkR hl hd (rel.put k rv) dd')
 .subst ey eH
  cases (show u=AA b from ry)
  obtain⟨z,hd,xs,rel,dd⟩:=dt_of I.hok e;have hz:xs.length<=sizeLine:=by rw[<- Paired.length rel];exact z
  have hl:(putK kvs k v).length<=sizeLine:=by have:=zbo kvs k v;lia
  have hr:(tupleKind (zaX X.prog X.w)).room A:=by show A.units<cLine;lia
  refine wpAny_dictSet_heap (hsz:=hz) hr (zfX I.hok eb) dd λh' dd' hs=>h _ ?_
  obtain⟨q,es,ep,hq,h2,h3,h4,_,h5⟩:=dd';refine zfg I (by rw[e];exact Ca) hs ⟨q,hq⟩ ⟨hl,hd,_,(rel.put k eb rv).keeps λc ys ec=>?_,q,es,ep,hq,h2,h3,h4,h5⟩;rw[zal (ne_of ec e (λz=>nomatch z))];exact ec
theorem zlk{p:Addr}{kx vx:Expr}{tk tv:TE}(hu:X.A.units + 1 < cLine)(hk:PE X kx tk)(hv:PE X vx tv) :
    PB X (do
        let kv <- eval kx X.env
        let vv <- C8 [kv] (eval vx X.env)
        match AA p with
        |.ref d=>do
          standAt { kx.pos with endLine:=vx.pos.endLine,endCol:=vx.pos.endCol }
          C8 [kv,vv] (dictSet d kv vv)
        |_=>unsupported "internal:dictcomp") (zgX p tk tv):=by
  intro pins s σ H D I h;refine Ac (thn (hk pins s σ H _ I h) λkv s1 ⟨y,H1,I1,r1,q1⟩=>?_);refine Ac (A9 (thn (hv pins s1 σ H1 _ I1 q1) λvv s2 ⟨v,H2,I2,r2,H3,g,q⟩=>?_));refine Ac (Cw (A9 (d_set hu I2 g r1 r2 λs3 I3=>⟨σ,H3,I3,q⟩)))
end
section
variable {X:Cx}{osc:Scope}{N:List Str}{sc:Scope}{N':List Str}{sel:List (Option Nat)}{pos:Pos}{elt kx vx tg iter:Expr}{ifs:List Expr}{wi:TI}{g:TG}{tt:TT}{te tk tv:TE}
noncomputable def InBlk(X:Cx)(sc:Scope)(N':List Str)(P:Cx->Prop):Prop:=∀cl C s0 H0 ex,P (blk X sc cl C N' s0 H0 ex)
theorem zco{e:Expr}{inner:Env -> Addr -> Sem Unit}{tb:Addr -> TS}{use:Option (Ad -> Sem Unit)}{pins:List (Addr × Obj)}{s:Ae}{σ : St}{H:Hp}{J:It}{it:Addr}{fp:List Addr}{tn:Nat -> Heap -> Prop}{o0:HO}{ob:Obj}
    {D:Addr->Ends} {Q:Ad->Ae->Prop}
    (B:BlkOk osc N sc N' sel) (ho:X.env.scope=osc) (hN:X.N=N) (hc:X.calm=true)
    (hstart:∀(acc:Ad) (env:Env) (R:Result->Ae->Prop) (s:Ae),BY (Aw X.prog X.w) X.A (.compLoop e 0 (.ref it) acc env) R s->Ar (Aw X.prog X.w) X.A (pyIter (.ref it)) (λit' s'=>BY (Aw X.prog X.w) X.A (.compLoop e 0 it' acc env) R s') (notedBy (Aw X.prog X.w) X.A env λx s'=>R (.error x) s') s->BY (Aw X.prog X.w) X.A (.compStart e 0 (.ref it) acc env) R s)
    (hloop:∀cl C s0 H0 ex p pins s σ H Dn R,Inv (blk X sc cl C N' s0 H0 ex) pins σ H s->tn 0 s.heap->(∀b∈fp,FpOk (blk X sc cl C N' s0 H0 ex) pins H b)->zbV J g (tIfs tt (tb p)) Dn σ H ->
      (∀fl s',(∃ σ' H',Inv (blk X sc cl C N' s0 H0 ex) pins σ' H' s'/\(∀b∈fp,H' b=none)/\Dn.nx σ' H')->R (.ok fl) s')->BY (Aw X.prog X.w) X.A (.compLoop e 0 (.ref it) (.ref p) (BZ sc cl C X.env)) R s)
    (I:Inv X pins σ H s) (T:Turn X.prog X.w X.K tg J fp it tn) (st:tn 0 s.heap) (f:∀b∈fp,FpOk X pins H b)
    (hnew:ObjOk X.prog X.w (upd H s.heap.objs.size o0) (s.heap.push ob) s.heap.objs.size o0) (hfree:ob.isFreed=false)
    (h:zbV J g (tIfs tt (tb s.heap.objs.size)) (D s.heap.objs.size) (selSt sel σ) (upd H s.heap.objs.size o0))
    (hend:∀C H' s',Inv X pins σ H' s'->FpOk X pins H' C->(∃m,s'.heap.Ns C m)->(∃ σ',(D s.heap.objs.size).nx σ' H')->compPost (Aw X.prog X.w) X.A X.xe use Q (.ref s.heap.objs.size) C (.ok .next) s') (tk:Nat)
    (cl:List (Str×Addr)) (Cl:Clo X.env sc cl) (E:Ad->Ae->Prop) :
    Ar (Aw X.prog X.w) X.A (newFunctionEnv sc X.env.globals cl [] X.env.qual none .none (some X.env)) (λcenv s₄ =>
        BY (Aw X.prog X.w) X.A (.compStart e 0 (.ref it) (.ref s.heap.objs.size) { cenv with scope:=relabel sc X.env }) (compPost (Aw X.prog X.w) X.A X.xe use Q (.ref s.heap.objs.size) cenv.locals) s₄) E { s with heap:=s.heap.push ob,toks:=tk }:=by
  have grow:∀b o,s.heap.get? b=some o->(s.heap.push ob).get? b=some o:=λ_ _ q=>Ag _ q
  have I1:Inv X pins σ (upd H s.heap.objs.size o0) { s with heap:=s.heap.push ob,toks:=tk }:=I.laid grow (Ai _) hnew;have bel:∀b∈fp,∃o,s.heap.get? b=some o:=λb hb=>let ⟨o,e,_⟩:=T.obj _ _ st b hb;⟨o,e⟩
  have f1:∀b∈fp,FpOk X pins (upd H s.heap.objs.size o0) b:=λb hb=>by obtain⟨o,e⟩:=bel b hb;refine⟨?_,(f b hb).2⟩;rw[zal (At (An e))];exact (f b hb).1
  refine wpAny_newFunctionEnv (s:={ s with heap:=s.heap.push ob,toks:=tk }) B.nocell (by intro x hx;cases hx) (λh1 hns hsb=>?_) B.kind;have I2:=zlA (tk:=tk) B ho hN Cl I1 f1 (λb hb=>let ⟨o,e⟩:=bel b hb;⟨o,grow b o e⟩) hns hsb;have old:∀b o,s.heap.get? b=some o->h1.get? b=some o:=λb o e=>(hsb.2 b (At (An (grow b o e)))).trans (Ag _ (grow b o e))
  have st1:tn 0 h1:=T.keep _ _ _ st λb _ o e=>old b o e
  have f2:∀b∈fp,FpOk (blk X sc cl (s.heap.push ob).objs.size N' { s with heap:=s.heap.push ob,toks:=tk } (upd H s.heap.objs.size o0) fp) [] (upd H s.heap.objs.size o0) b:=λb hb=>by
    obtain⟨g0,g1,g2,g3,g4,g5⟩:=f1 b hb;obtain⟨o,e⟩:=bel b hb;refine⟨g0,At (An (grow b o e)),λz=>?_,.inl hb,λx c e=>g4 x c (Cl.old x c e).1,λp hp=>absurd (show p∈([]:List (Addr×Obj)) from hp) (by simp)⟩;rcases Ao.mp (I1.stkSub b z) with q |q
    . exact g1 q
    . exact g2 q
  have loop:=hloop cl _ _ _ _ s.heap.objs.size [] _ _ _ (D s.heap.objs.size) (compPost (Aw X.prog X.w) X.A X.xe use Q (.ref s.heap.objs.size) (s.heap.push ob).objs.size) I2 st1 f2 h λfl s' ⟨σ',H',I',fr',q'⟩=>by
    have I3:=zlO I1 f1 I';have hC:FpOk X pins H' (s.heap.push ob).objs.size:=I1.fpOk (Ai _) I'.free;obtain⟨m,hn,_⟩:=I'.loc;have:=hend _ H' s' I3 hC ⟨m,hn⟩ ⟨σ',q'⟩
    cases use <;> exact this
  exact hstart _ _ _ _ loop (T.self _ 0 _ _ _ st1 loop)
end
section
variable {X:Cx}{osc:Scope}{N:List Str}{sc:Scope}{N':List Str}{sel:List (Option Nat)}{pos:Pos}{elt kx vx tg iter:Expr}{ifs:List Expr}{wi:TI}{g:TG}{tt:TT}{te tk tv:TE}
theorem zeE{it:Addr}{fp:List Addr}{tn:Nat -> Heap -> Prop}{J:It}(T:Turn X.prog X.w X.K tg J fp it tn)(hc:X.calm=true)(hg:InBlk X sc N' λY => PG Y tg g)(ht:InBlk X sc N' λY => PTs Y ifs tt)(he:InBlk X sc N' λY => PE Y elt te) :
  ∀cl C s0 H0 ex p pins s σ H Dn R,Inv (blk X sc cl C N' s0 H0 ex) pins σ H s->tn 0 s.heap->(∀b∈fp,FpOk (blk X sc cl C N' s0 H0 ex) pins H b)->zbV J g (tIfs tt (zbW p te)) Dn σ H ->
   (∀fl s',(∃ σ' H',Inv (blk X sc cl C N' s0 H0 ex) pins σ' H' s'/\(∀b∈fp,H' b=none)/\Dn.nx σ' H')->R (.ok fl) s')->BY (Aw X.prog X.w) X.A (.compLoop (.ListComp elt [⟨tg,iter,ifs,0⟩] sc pos) 0 (.ref it) (.ref p) (BZ sc cl C X.env)) R s :=
 λcl C s0 H0 ex p pins s σ H Dn R I st f W hR =>
  zcn (X:=blk X sc cl C N' s0 H0 ex) (p:=iter.pos) (inner:=do let _ <- call (.builtin "list.append") [.ref p,<- eval elt (BZ sc cl C X.env)]) rfl rfl rfl (λB {α t Q E s} h w=>by subst h;exact w) hc rfl (hg _ _ _ _ _) (ht _ _ _ _ _) (zgy (he _ _ _ _ _)) I T st f W hR
noncomputable def zkw(wi:TI)(sel:List (Option Nat))(g:TG)(tt:TT)(te:TE):TE:=λσ H Q=>wi σ H λJ H1=>∀p,H1 p=none ->
 zbV J g (tIfs tt (zbW p te)) { nx:=λ_ H'=>Q (.ref p) H',rt:=λ_ _=>False } (selSt sel σ) (upd H1 p (.lst []))
theorem Inv.let_go{pins:List (Addr×Obj)}{σ:St}{H:Hp}{s:Ae}{C:Addr}{h':Heap}(I:Inv X pins σ H s)(f:FpOk X pins H C)(hs:C7 C s.heap h'):Inv X pins σ H { s with heap:=h' }:=by obtain⟨f0,f1,_,f3,f4,f5⟩:=f;exact I.turned (t':=s.toks) (λb o hb e=>(hs.2 b hb).trans e) f0 f1 f3 f4 f5
theorem zdZ {P:AH}{w:AZ}{H:Hp}{h:Heap}:ObjOk P w (upd H h.objs.size (.lst [])) (h.push { cls:=.type "list",dict:=none,data:=.seq ([]:List Ad).toArray }) h.objs.size (.lst []) :=
 ⟨AV _,[],_,.nil,AC _ rfl⟩
theorem zaF(B:BlkOk osc N sc N' sel)(hi:PI X tg iter wi)(hg:InBlk X sc N' λY => PG Y tg g)(ht:InBlk X sc N' λY => PTs Y ifs tt)(he:InBlk X sc N' λY => PE Y elt te)
  (ho:X.env.scope=osc:=by rfl) (hN:X.N=N:=by rfl) (hc:X.calm=true:=by rfl) (hs:∀x,Bc iter X.env x=pure x:=by intro _;rfl) :
  PE X (.ListComp elt [⟨tg,iter,ifs,0⟩] sc pos) (zkw wi sel g tt te):=by
 intro pins s σ H Q I h;obtain⟨cl,Cl⟩:=zf2 I.ok B ho;rw[eval_ListComp];refine BJ (use:=none) rfl hs Cl.run B.kind B.names (thn (hi pins s σ H _ I h) λv s1 h1=>thn h1 λitv s2 h2=>?_);obtain⟨it,fp,tn,J,H2,e,I2,T,st2,f2,h2⟩:=h2;subst e
 refine Bi (zco (e:=.ListComp elt [⟨tg,iter,ifs,0⟩] sc pos) (inner:=λ_ _=>pure ()) (D:=λp=>{ nx:=λ_ H'=>Q (.ref p) H',rt:=λ_ _=>False }) (tb:=λp=>zbW p te) (use:=none) B ho hN hc (λacc env R s a b=>B7 a b)
  (zeE (iter:=iter) (pos:=pos) T hc hg ht he) I2 T st2 f2 zdZ rfl (h2 _ (I2.hok.fresh (Ai _))) (λC H' s' I3 fC hn hq=>?_) s2.toks cl Cl X.xe)
 obtain⟨m,hn⟩:=hn;obtain⟨_,hq⟩:=hq;exact⟨m,hn,λh' hs'=>⟨.ref s2.heap.objs.size,H',I3.let_go fC hs',rfl,hq⟩⟩
noncomputable def zma(wi:TI)(sel:List (Option Nat))(g:TG)(tt:TT)(te:TE)(i:Nat):TS:=λD σ H=>wi σ H λJ H1=>∀p,H1 p=none ->
 zbV J g (tIfs tt (zbW p te)) { nx:=λ_ H'=>D.nx (σ.set i (some (.ref p))) H',rt:=λ_ _=>False } (selSt sel σ) (upd H1 p (.lst []))
theorem zhf{i:Nat}{x:Str}{px spos:Pos}(B:BlkOk osc N sc N' sel)(hnd:X.N.Nodup)(hi':X.N[i]? = some x)(hx:Loc X.env.scope x)(hi:PI X tg iter wi)(hg:InBlk X sc N' λY => PG Y tg g)(ht:InBlk X sc N' λY => PTs Y ifs tt)(he:InBlk X sc N' λY => PE Y elt te)
  (hsw:swapsWith (.ListComp elt [⟨tg,iter,ifs,0⟩] sc pos) (some (.Name x px)) spos.line X.env=pure true:=by rfl)
  (ho:X.env.scope=osc:=by rfl) (hN:X.N=N:=by rfl) (hc:X.calm=true:=by rfl) (hs:∀x,Bc iter X.env x=pure x:=by intro _;rfl)
  (hf:X.fn x=true∨X.env.scope.names.lookup x=some .local:=by first |exact .inl rfl |exact .inr rfl |assumption) :
  PS X (.Assign [.Name x px] (.ListComp elt [⟨tg,iter,ifs,0⟩] sc pos) spos) (zma wi sel g tt te i):=by
 intro pins s σ H D I h;obtain⟨cl,Cl⟩:=zf2 I.ok B ho;rw[exec_Assign_Name_used _ _ _ _ hsw];refine Ac (Cw (Ac ?_));show Ar _ X.A (do let _ <- comprehension (.ListComp elt [⟨tg,iter,ifs,0⟩] sc pos) sc X.env _ (newList []) false (eval iter X.env) (some (assign (.Name x px) X.env))) _ _ s;refine Ac (thn (BJ (use:=some (assign (.Name x px) X.env)) (Q:=λ_ s'=>SP X pins D .next s') rfl hs Cl.run B.kind B.names (thn (hi pins s σ H _ I h) λv s1 h1=>thn h1 λitv s2 h2=>?_)) λ_ s' hq=>Aj (Aj hq));obtain⟨it,fp,tn,J,H2,e,I2,T,st2,f2,h2⟩:=h2;subst e
 refine Bi (zco (e:=.ListComp elt [⟨tg,iter,ifs,0⟩] sc pos) (inner:=λ_ _=>pure ()) (D:=λp=>{ nx:=λ_ H'=>D.nx (σ.set i (some (.ref p))) H',rt:=λ_ _=>False }) (tb:=λp=>zbW p te) (use:=some (assign (.Name x px) X.env)) B ho hN hc (λacc env R s a b=>B7 a b)
  (zeE (iter:=iter) (pos:=pos) T hc hg ht he) I2 T st2 f2 zdZ rfl (h2 _ (I2.hok.fresh (Ai _))) (λC H' s' I3 fC hn hq=>?_) s2.toks cl Cl X.xe)
 obtain⟨m,hn⟩:=hn;obtain⟨_,hq⟩:=hq;show Ar _ X.A (assign (.Name x px) X.env (.ref s2.heap.objs.size)) _ _ _;refine wpAny_assign_Name (zdC I3 hnd hi' hx (v:=.ref s2.heap.objs.size) rfl (λs4 I4 hch=>?_) hf);obtain⟨a,sb,ha⟩:=hch
 have nC:C≠a:=by
  rcases ha with z |z
  .rw[z];exact fC.2.1
  .exact λq=>fC.2.2.2.2.1 x a z q.symm
 refine⟨m,hn.sameBut sb nC,λh' hs'=>⟨_,H',I4.let_go fC hs',hq⟩⟩
theorem zh8{it:Addr}{fp:List Addr}{tn:Nat -> Heap -> Prop}{J:It}(hu:X.A.units + 1 < cLine)(T:Turn X.prog X.w X.K tg J fp it tn)(hc:X.calm=true)(hg:InBlk X sc N' λY => PG Y tg g)(ht:InBlk X sc N' λY => PTs Y ifs tt)(hk:InBlk X sc N' λY => PE Y kx tk)(hv:InBlk X sc N' λY => PE Y vx tv) :
  ∀cl C s0 H0 ex p pins s σ H Dn R,Inv (blk X sc cl C N' s0 H0 ex) pins σ H s->tn 0 s.heap->(∀b∈fp,FpOk (blk X sc cl C N' s0 H0 ex) pins H b)->zbV J g (tIfs tt (zgX p tk tv)) Dn σ H ->
   (∀fl s',(∃ σ' H',Inv (blk X sc cl C N' s0 H0 ex) pins σ' H' s'/\(∀b∈fp,H' b=none)/\Dn.nx σ' H')->R (.ok fl) s')->BY (Aw X.prog X.w) X.A (.compLoop (.DictComp kx vx [⟨tg,iter,ifs,0⟩] sc pos) 0 (.ref it) (.ref p) (BZ sc cl C X.env)) R s :=
 λcl C s0 H0 ex p pins s σ H Dn R I st f W hR =>
  zcn (X:=blk X sc cl C N' s0 H0 ex) (p:=iter.pos) rfl rfl rfl (λB {α t Q E s} h w=>by subst h;exact w) hc rfl (hg _ _ _ _ _) (ht _ _ _ _ _) (zlk (X:=blk X sc cl C N' s0 H0 ex) hu (hk _ _ _ _ _) (hv _ _ _ _ _)) I T st f W hR
noncomputable def zl5(wi:TI)(sel:List (Option Nat))(g:TG)(tt:TT)(tk tv:TE):TE:=λσ H Q=>wi σ H λJ H1=>∀p,H1 p=none ->
 zbV J g (tIfs tt (zgX p tk tv)) { nx:=λ_ H'=>Q (.ref p) H',rt:=λ_ _=>False } (selSt sel σ) (upd H1 p (.dT []))
theorem zka(hu:X.A.units + 1 < cLine)(B:BlkOk osc N sc N' sel)(hi:PI X tg iter wi)(hg:InBlk X sc N' λY => PG Y tg g)(ht:InBlk X sc N' λY => PTs Y ifs tt)(hk:InBlk X sc N' λY => PE Y kx tk)(hv:InBlk X sc N' λY => PE Y vx tv)
  (ho:X.env.scope=osc:=by rfl) (hN:X.N=N:=by rfl) (hc:X.calm=true:=by rfl) (hs:∀x,Bc iter X.env x=pure x:=by intro _;rfl) :
  PE X (.DictComp kx vx [⟨tg,iter,ifs,0⟩] sc pos) (zl5 wi sel g tt tk tv):=by
 intro pins s σ H Q I h;obtain⟨cl,Cl⟩:=zf2 I.ok B ho;show Ar _ X.A (comprehension (.DictComp kx vx [⟨tg,iter,ifs,0⟩] sc pos) sc X.env _ newDict false (eval iter X.env)) _ _ s;refine BJ (use:=none) rfl hs Cl.run B.kind B.names (thn (hi pins s σ H _ I h) λv s1 h1=>thn h1 λitv s2 h2=>?_);obtain⟨it,fp,tn,J,H2,e,I2,T,st2,f2,h2⟩:=h2;subst e
 refine Bi (zco (e:=.DictComp kx vx [⟨tg,iter,ifs,0⟩] sc pos) (inner:=λ_ _=>pure ()) (D:=λp=>{ nx:=λ_ H'=>Q (.ref p) H',rt:=λ_ _=>False }) (tb:=λp=>zgX p tk tv) (use:=none) B ho hN hc (λacc env R s a b=>codeAny_compStart_dict a b)
  (zh8 (iter:=iter) (pos:=pos) hu T hc hg ht hk hv) I2 T st2 f2 (zhy s2.heap I2.big) rfl (h2 _ (I2.hok.fresh (Ai _))) (λC H' s' I3 fC hn hq=>?_) s2.toks cl Cl X.xe)
 obtain⟨m,hn⟩:=hn;obtain⟨_,hq⟩:=hq;exact⟨m,hn,λh' hs'=>⟨.ref s2.heap.objs.size,H',I3.let_go fC hs',rfl,hq⟩⟩
end
mutual
inductive RD (K:W.Frag) (H:Hp):V->PyData->Prop where
 |non:RD K H .non .none
 |bl (b:Bool):RD K H (.bl b) (.bool b)
 |int (i:Int):RD K H (.int i) (.int i)
 |str (x:Str):RD K H (.str x) (.str x)
 |lst {a:Addr} {xs:List V} {ds:List PyData}:SqL K H a xs->RDs K H xs ds->RD K H (.ref a) (.list ds)
 |tup {a:Addr} {xs:List V} {ds:List PyData}:SqT K H a xs->RDs K H xs ds->RD K H (.ref a) (.tuple ds)
inductive RDs (K:W.Frag) (H:Hp):List V->List PyData->Prop where
 |nil:RDs K H [] []
 |cons {x:V} {xs:List V} {d:PyData} {ds:List PyData}:RD K H x d->RDs K H xs ds->RDs K H (x::xs) (d::ds)
end
section
variable {X:Cx}{pins:List (Addr×Obj)}{σ:St}{H:Hp}{s:Ae}
mutual
theorem Inv.reads(I:Inv X pins σ H s):∀{v:V}{d:PyData}{u:Ad},RD X.K H v d->RelV v u->∃as,Reads s.heap u d as
 |_,_,_,.non,r=>by cases (show _=C1 from r);exact⟨_,.none⟩
 |_,_,_,.bl b,r=>by cases (show _=Dr b from r);exact⟨_,.bool b⟩
 |_,_,_,.int i,r=>by obtain⟨t,rfl⟩:=r;exact⟨_,.int i t⟩
 |_,_,_,.str x,r=>by obtain⟨t,rfl⟩:=r;exact⟨_,.str x t⟩
 |_,_,_,.lst (a:=a) hq hs,r=>by
  cases (show _=AA a from r)
  obtain⟨its,rv,p,hz⟩:=I.list hq;obtain⟨as,ra⟩:=I.readsAll hs rv;obtain⟨o,ho,hc,n,hd⟩:=p.isList;exact⟨_,.list ho hc hd (by simpa using ra)⟩
 |_,_,_,.tup (a:=a) hq hs,r=>by
  cases (show _=AA a from r)
  obtain⟨its,rv,p,hz⟩:=I.tuple hq;obtain⟨as,ra⟩:=I.readsAll hs rv;obtain⟨o,ho,hc,n,hd⟩:=p;exact⟨_,.tuple ho hc hd (by simpa using ra)⟩
theorem Inv.readsAll(I:Inv X pins σ H s):∀{vs:List V}{ds:List PyData}{us:List Ad},RDs X.K H vs ds->Vals vs us->∃as,ReadsAll s.heap us ds as
 |_,_,_,.nil,r=>by cases r;exact⟨_,.nil⟩
 |_,_,_,.cons h t,.cons r rr=>by
  obtain⟨as,h1⟩:=I.reads h r;obtain⟨bs,h2⟩:=I.readsAll t rr;exact⟨_,.cons h1 h2⟩
end
end
theorem RDs.ints{K:W.Frag}{H:Hp}:∀(ns:List Int),RDs K H (ns.map V.int) (ns.map C2)
 |[]=>.nil
 |n::r=>.cons (.int n) (RDs.ints r)
mutual
theorem RD.mono{K:W.Frag}{H H':Hp}(hl:∀a xs,SqL K H a xs->SqL K H' a xs)(ht:∀a xs,SqT K H a xs->SqT K H' a xs):∀{v:V}{d:PyData},RD K H v d->RD K H' v d
 |_,_,.non=>.non
 |_,_,.bl b=>.bl b
 |_,_,.int i=>.int i
 |_,_,.str x=>.str x
 |_,_,.lst h t=>.lst (hl _ _ h) (RDs.mono hl ht t)
 |_,_,.tup h t=>.tup (ht _ _ h) (RDs.mono hl ht t)
theorem RDs.mono{K:W.Frag}{H H':Hp}(hl:∀a xs,SqL K H a xs->SqL K H' a xs)(ht:∀a xs,SqT K H a xs->SqT K H' a xs):∀{v:List V}{d:List PyData},RDs K H v d->RDs K H' v d
 |_,_,.nil=>.nil
 |_,_,.cons h t=>.cons (RD.mono hl ht h) (RDs.mono hl ht t)
end
noncomputable def rNeD(K:W.Frag):R2:=λx y H Q=>∃d e,RD K H x d/\RD K H y e/\C9 d=true/\C9 e=true/\Q (.bl (!PyData.eqv d e)) H
section
variable {X:Cx}
theorem ziU(hu:X.A.units+64<cLine):OpR X (By .NotEq) (rNeD X.K):=by intro pins s σ H x y v u Q I rx ry h;obtain⟨d,e,hd,he,sd,se,q⟩:=h;obtain⟨as,ra⟩:=I.reads hd rx;obtain⟨bs,rb⟩:=I.reads he ry;exact SeqAt.compareNe_shaped ra rb sd se hu ⟨.bl _,H,I,rfl,q⟩
theorem zf3{ds:List PyData}(h:∀e∈ds,C9 e=true):PyData.canLayAll0 ds=true:=by
 induction ds with
 |nil=>rfl
 |cons d r ih=>rw[PyData.canLayAll0,SeqAt.canLay_of_shaped (h d Aq),ih λe he=>h e (Ak _ he)];rfl
theorem zd5:∀ns ms:List Int,PyData.eqvAll (ns.map C2) (ms.map C2)=decide (ns=ms)
 |[],[]=>rfl
 |[],_::_=>rfl
 |_::_,[]=>rfl
 |n::r,m::t=>by
  show (n == m && PyData.eqvAll (r.map C2) (t.map C2))=_;rw[zd5 r t]
  by_cases e:n=m
  .subst e;by_cases e2:r=t <;> simp[e2]
  .simp[e]
theorem zcV:∀ns:List Int,PyData.depthAll (ns.map C2)=0
 |[]=>rfl
 |n::r=>by show max 0 (PyData.depthAll (r.map C2))=0;rw[zcV r];rfl
theorem zcy:∀ns:List Int,PyData.canLayAll0 (ns.map C2)=true
 |[]=>rfl
 |n::r=>by show (true && PyData.canLayAll0 (r.map C2))=true;rw[zcy r];rfl
noncomputable def tI(ns:List Int):PyData:=.tuple (ns.map .int)
theorem zhv(ns ms:List Int):PyData.eqv (tI ns) (tI ms)=decide (ns=ms):=zd5 ns ms
theorem zbX(ns:List Int):C9 (tI ns)=true:=by unfold C9 tI;rw[PyData.canLay0,zcy,PyData.depth,zcV];rfl
end
section
variable {prog:AH}{w:AZ}{A:AL}{E:Ad->Ae->Prop}{s:Ae}
end
section
variable {X:Cx}{pos:Pos}
noncomputable def CDivB(i j:Int):Prop:=0<j/\j.natAbs.log2<9000
theorem zhj:OpR X (binaryOp .FloorDiv) (rI CDivB λi j=>.int (i / j)):=opI λi j _ _ _ _ _ hc q=>by have e:i.fdiv j=i / j:=Int.fdiv_eq_ediv_of_nonneg i (Int.le_of_lt hc.1);rw[<- e]at q;exact floordiv_int (by have:=hc.1;lia) q (.inl (PyProof.noPylong_of_log2 hc.2))
theorem zb2 (hh:X.calm=true):CallR X (.builtin "all") (λxs H Q=>∃(p:Addr) (bs:List Bool),xs=[.ref p]/\SqL X.K H p (bs.map V.bl)/\Q (.bl (bs.all id)) H):=by
 intro pins s σ H xs us Q I r h;obtain⟨p,bs,rfl,hq,q⟩:=h;obtain⟨u,rfl,ru⟩:=vals1 r
 cases (show u=AA p from ru)
 obtain⟨its,rv,pl,hz⟩:=I.list hq;have hlp:p<s.heap.objs.size:=by obtain⟨o,ho,_⟩:=pl.isList;exact An ho
 have hlen:its.length=bs.length:=by have:=rv.length;simpa using this.symm
 refine call_all_walk (CY pl.isList ?_);refine⟨_,_,_,_,_,_,λi=>bs.getD i true,rfl,Walks.list (A:=X.A.in1) (I.ok.hd hh) s.heap.objs.size p (At hlp) its.toArray,⟨⟨_,AC _ rfl,rfl,rfl⟩,pl.isList.push _⟩,?_,λh' tk hk=>?_⟩
 .intro i v s1 Q1 E1 hv hQ;have hv':its[i]?=some v:=by simpa using hv
  have hi:i<its.length:=(Ab.mp hv').1;obtain⟨w',hw,rw'⟩:=rv.get (i:=i) (x:=V.bl (bs[i]'(by lia))) (by simp[Aa,show i<bs.length by lia]);rw[hv']at hw
  cases hw
  cases (show v=Dr _ from rw')
  refine Br ?_
  have e:bs.getD i true=bs[i]'(by lia):=by simp[Am,show i<bs.length by lia]
  rw[<- e];exact hQ
 .have I1:Inv X pins σ H { s with heap:=h',toks:=tk }:=I.kept λb o e=>hk b o (by simp;exact At (An e)) (Ag _ e)
  refine⟨.bl _,H,I1,rfl,?_⟩
  have e:(AE its.toArray.size).all (λi=>bs.getD i true)=bs.all id:=by
   rw[show its.toArray.size=bs.length by simpa using hlen];rw[Cm];simp only[Da,List.mem_range,id];constructor
   .intro h b hb;obtain⟨i,hi,e⟩:=Ay hb;have:=h i hi;simpa[Am,hi,e]using this
   .intro h i hi;have:=h bs[i] (A7 hi);simpa[Am,hi]using this
  rw[e];exact q
end
section
variable {X:Cx}
theorem zdx:CallR X (.builtin "isinstance") (λxs H Q=>∃x T t b,xs=[x,.ty T]/\TyOf X.K H x t/\W.kitOne X.K t (.type T)=some b/\Q (.bl b) H):=by
 intro pins s σ H xs us Q I r h;obtain⟨x,T,t,b,rfl,ty,e,q⟩:=h;obtain⟨u,w',rfl,ru,rw'⟩:=vals2 r
 cases (show w'=Value.type T from rw')
 exact zjm I ru ty e λtk=>⟨.bl b,H,I.tok tk,rfl,q⟩
end
end L2
namespace HT
open PySem PyProof.Rows
noncomputable def lexLe:List Int->List Int->Bool
 |[],[]=>true
 |[],_::_=>true
 |_::_,[]=>false
 |x::xs,y::ys=>if x=y then lexLe xs ys else decide (x<=y)
theorem zeA(x y:Int)(xs ys:List Int):lexLe (x::xs) (y::ys)=if x=y then lexLe xs ys else decide (x<=y):=rfl
theorem zfb:lexLe [] []=true:=rfl
theorem zen(y:Int)(ys:List Int):lexLe [] (y::ys)=true:=rfl
theorem zeo(x:Int)(xs:List Int):lexLe (x::xs) []=false:=rfl
theorem zj4(A:AL)(s:Ae)(a:Int)(t:Tok)(c:Int)(u:Tok)(prog:AH)(w:AZ)(E:Ad -> Ae -> Prop)(Q:Ad -> Ae -> Prop)(h:Q (.bool (decide (a <= c))) s) :
  Ar (Aw prog w) A (richCompare .LtE (.int a t) (.int c u)) Q E s :=
 (PyProof.Rows.le_int h:Ar (Aw prog w) A (By .LtE (.int a t) (.int c u)) Q E s)
section
open PySem.SeqAt
open PySem.AutoSeq1 (wpAny_loadPart')
open PySem.MeetsSeq PySem.MeetsSeq2 PySem.MeetsSeq3
theorem zeP(l b:Addr)(items items2:Array Ad)(n n2:Nat)(dd dd2:Option Addr)(sl sl2:Array (Option Ad))(ns ms:List Int)(hi:B6 items.toList ns)(hj:B6 items2.toList ms) :
  Meets (Builtin.«tuple.__le__» ⟨[.ref l,.ref b],[]⟩)
   (λ_ R s=>s.heap.get? l=some { cls:=.type "tuple",dict:=dd,data:=.seq items n,slots:=sl }/\s.heap.get? b=some { cls:=.type "tuple",dict:=dd2,data:=.seq items2 n2,slots:=sl2 } /\
    R (.ok (.ret (.bool (lexLe ns ms)))) s) :=
 .of_wp λprog w A R s h=>by
  obtain⟨hp,g,d,tk,os⟩:=s;obtain⟨hl,hb,h⟩:=h;have f2:=AutoSeq1.sub_tuple_tuple;have z1:items.size=ns.length:=by rw[<- hi.length];simp
  have z2:items2.size=ms.length:=by rw[<- hj.length];simp
  wp_walk using BN hl,BN hb,wpAny_forIn_list _ (λrest b s'=>b.1=none/\s'=⟨hp,g,d,tk,os⟩/\∃(vs ws:List Ad) (ns' ms':List Int),rest=vs.zip ws /\
   B6 vs ns'/\B6 ws ms'/\ns'.length+items2.size=ms'.length+items.size/\R (.ok (.ret (.bool (lexLe ns' ms')))) ⟨hp,g,d,tk,os⟩) _
  case turn =>
   rintro⟨y,x⟩ rest b s' ⟨hb',rfl,vs,ws,ns',ms',hz,hvi,hwi,hlen,hR⟩
   cases hvi with
   |nil=>rw[List.zip_nil_left]at hz;cases hz
   |cons a t hvi' =>
    cases hwi with
    |nil=>rw[List.zip_nil_right]at hz;cases hz
    |cons c u hwi' =>
     rw[Dt]at hz;injection hz with hyx hrest;injection hyx with hy hx;subst hy hx;rw[zeA]at hR;simp only[AQ]at hlen;obtain⟨e,he,hiff⟩:=zhw A.in1 ⟨hp,g,d,tk,os⟩ a t c u;refine Ac (he prog w _ _ ?_)
     cases e with
     |true =>
      rw[if_pos (hiff.mp rfl)]at hR
      wp_walk
      exact⟨rfl,rfl,_,_,_,_,hrest,hvi',hwi',by lia,hR⟩
     |false =>
      rw[if_neg (λq=>absurd (hiff.mpr q) AM)]at hR;have hri:=zj4 A.in1 ⟨hp,g,d,tk,os⟩ a t c u prog w
      wp_walk using hri
      exact⟨_,rfl,by simpa using hR⟩
  case fin =>
   rintro⟨b1,b2⟩ s' ⟨hb',rfl,vs,ws,ns',ms',hz,hvi,hwi,hlen,hR⟩;simp only at hb';subst hb'
   have hv:lexLe ns' ms'=decide (items.size<=items2.size):=by
    cases hvi with
    |nil =>
     cases hwi with
     |nil =>
      simp only[B4]at hlen;rw[zfb];exact (decide_eq_true (by lia)).symm
     |cons c u hw =>
      simp only[B4,AQ]at hlen;rw[zen];exact (decide_eq_true (by lia)).symm
    |cons a t hv =>
     cases hwi with
     |nil =>
      simp only[B4,AQ]at hlen;rw[zeo];exact (decide_eq_false (by lia)).symm
     |cons c u hw =>
      rw[Dt]at hz
      cases hz
   rw[hv]at hR
   wp_walk
   exact⟨_,rfl,by simpa[Builtin.Tuple.tupleCompareSizes]using hR⟩
  case h =>
   exact⟨rfl,rfl,items.toList,items2.toList,ns,ms,rfl,hi,hj,by lia,h⟩
end
section
variable {prog:AH}{w:AZ}{A:AL}{E:Ad->Ae->Prop}{s:Ae}
theorem le_tupInts{l b:Addr}{items items2:Array Ad}{ns ms:List Int}{Q:Ad -> Ae -> Prop}(hl:IsTup s.heap l items)(hb:IsTup s.heap b items2)(hi:B6 items.toList ns)(hj:B6 items2.toList ms)
  (hu:A.units<cLine) (h:Q (.bool (lexLe ns ms)) s):Ar (Aw prog w) A (By .LtE (.ref l) (.ref b)) Q E s:=by
 obtain⟨⟨cls,dd,data,sl⟩,ho,hc,n,hd⟩:=id hl;obtain⟨⟨cls2,dd2,data2,sl2⟩,ho2,hc2,n2,hd2⟩:=id hb;simp only at hc hd hc2 hd2;subst hc hd hc2 hd2
 exact richCompare_meets_room (op:=.LtE) ⟨_,ho,rfl⟩ ⟨_,ho2,rfl⟩ PySem.F.slot_tuple_le PySem.F.entry_tuple_le (PySem.F.args_tuple_le_2 _ _) (zeP l b items items2 n n2 dd dd2 sl sl2 ns ms hi hj)
  ⟨ho,ho2,show Dr (lexLe ns ms)≠Value.notImplemented/\Q (.bool (lexLe ns ms)) s from ⟨(λx=>nomatch x),h⟩⟩ hu
end
end HT
namespace L2
open PySem PySem.Spec PyProof.Rows
section
variable {X:Cx}
noncomputable def rLeT(K:W.Frag):R2:=λx y H Q=>∃a b ns ms,x=.ref a/\y=.ref b/\SqT K H a (ns.map V.int)/\SqT K H b (ms.map V.int)/\Q (.bl (HT.lexLe ns ms)) H
theorem zmf(hu:X.A.units<cLine):OpR X (By .LtE) (rLeT X.K):=by
 intro pins s σ H x y v u Q I rx ry h;obtain⟨a,b,ns,ms,rfl,rfl,ha,hb,q⟩:=h
 cases rx
 cases ry
 obtain⟨its,r1,p1,_⟩:=I.tuple ha;obtain⟨its2,r2,p2,_⟩:=I.tuple hb;have i1:B6 its.toArray.toList ns:=zct r1;have i2:B6 its2.toArray.toList ms:=zct r2;exact HT.le_tupInts p1 p2 i1 i2 hu ⟨.bl (HT.lexLe ns ms),H,I,rfl,q⟩
end
section
variable {X:Cx}
noncomputable def zlb(K:W.Frag):V->List V->Hp->VK->Prop:=λx vs H Q=>∃p xs y d ds j e,x=.ref p/\vs=[y]/\SqL K H p xs/\RD K H y d/\RDs K H xs ds/\C9 d=true/\(∀e∈ds,C9 e=true) /\
 ds[j]?=some e/\PyData.eqv e d=true/\(∀m e',m<j->ds[m]?=some e'->PyData.eqv e' d=false)/\Q (.int (j:Nat)) H
theorem zi5 (hu:X.A.units+65<cLine):MtR X "list.index" (zlb X.K):=by
 intro pins s σ H x vs v us Q I rx rv h;obtain⟨p,xs,y,d,ds,j,e,rfl,rfl,hq,hd,hds,sd,sds,hj,he,hno,q⟩:=h
 cases rx
 obtain⟨u,rfl,ru⟩:=rv.one;obtain⟨its,r,pl,hz⟩:=I.list hq;obtain⟨as,ra⟩:=I.reads hd ru;obtain⟨bs,rb⟩:=I.readsAll hds r;have hlay:=zf3 sds;have hmap:=SeqAt.readsAll_map ds _ _ hlay rb;have hlen:its.length=ds.length:=by rw[<- hmap,Af]
 have hj':j<ds.length:=(Ab.mp hj).1
 have rd:∀m (hm:m<its.length),ds[m]?=some (SeqAt.readOf s.heap its[m]):=λm hm=>by rw[<- hmap,Ap,Aa hm];rfl
 obtain⟨⟨cls,dd,data,sl⟩,ho,hc,n,hdat⟩:=pl.isList;simp only at hc hdat
 subst hc hdat
 have hsz:xs.length<=sizeLine:=hz;have hl2:its.length=xs.length:=r.length.symm
 refine call_meets PySem.F.slot_list_index ⟨_,ho,rfl⟩ PySem.F.entry_list_index (PySem.F.args_list_index_2 _ _)
  (SeqAt.list_indexAt p its.toArray n dd sl u (λz=>PyData.eqv (SeqAt.readOf s.heap z) d) j (by simpa[hlen]using hj') (by have:=sizeLine_eq;lia) ?_ ?_)
  ⟨ho,SeqAt.items_eqAt (vs:=its.toArray) rb ra hlay (SeqAt.canLay_of_shaped sd) (PyProof.Rows.room_in_shaped sd hu),?_⟩
 .have:=rd j (by lia);rw[hj]at this;have e1:=AO this;show PyData.eqv (SeqAt.readOf s.heap its[j]) d=true;rw[<- e1];exact he
 .intro m hm hlt;have hm':m<its.length:=by simpa using hm
  exact hno m _ hlt (rd m hm')
 .exact⟨.int (j:Nat),H,I.tok _,⟨_,rfl⟩,q⟩
end
section
variable {X:Cx}{k:Nat}{f:Addr}{fd:Bu}{ps:List Str}{sp:Sp}{pins:List (Addr×Obj)}{σ:St}
theorem ziG{H:Hp}{s:Ae}{Q:VK}{us:List Ad}{vs:List V}{E:Ad -> Ae -> Prop}(F:FnOk X.prog X.w X.K X.mg X.base CX0 k f fd ps sp)(hr:Room (k + 1) X.A)(hb:Binds X.K fd ps [])
  (I:Inv X pins σ H s) (r:Vals vs us) (h:sp vs H Q E0):Ar (Aw X.prog X.w) X.A.in1 (call (.ref f) us) (EP X pins σ Q) E s:=by
 have hl:(us++[]).length=ps.length:=by rw[AX,<- r.length];exact F.len _ _ _ _ h
 have hb':=hb s us I.kIn hl;rw[AX]at hb';refine wpAny_call (codeAny_mono (F.run X.A.in1 X.stack s H ⟨us,[]⟩ us vs Q E0 hr.in1 I.env0.in1 hb' r h) λr s' hq=>?_)
 cases r with
 |error e=>exact BA hq
 |ok fl =>
  cases fl with
  |ret u=>exact I.after hq
  |next=>exact BA hq
  |brk=>exact BA hq
  |cont=>exact BA hq
theorem Inv.moved{H:Hp}{s:Ae}{b:Addr}{h':Heap}{t':Nat}(I:Inv X pins σ H s)(fb:FpOk X pins H b)(hk:∀c o,c ∉ [b]->s.heap.get? c=some o->h'.get? c=some o):Inv X pins σ H { s with heap:=h',toks:=t' } :=
 I.turned (λc o hc e=>hk c o (λz=>hc (AN.mp z)) e) fb.1 fb.2.1 fb.2.2.2.1 fb.2.2.2.2.1 fb.2.2.2.2.2
theorem FpOk.again{H H':Hp}{b:Addr}(fb:FpOk X pins H b)(hn:H' b=none):FpOk X pins H' b:=⟨hn,fb.2⟩
structure MK (X:Cx) (pins:List (Addr×Obj)) (σ:St) (H:Hp) (s:Ae) (it st l:Addr) (j:Nat) (vb kb:Ad):Prop where
 inv:Inv X pins σ H s
 fi:FpOk X pins H it
 fs:FpOk X pins H st
 ne:st≠it
 iter:s.heap.IsListIter it l j
 hold:∃c,s.heap.get? st=some (Bm "list" #[vb,kb] c)
noncomputable def Least(κ:Nat->List Int)(n i:Nat):Prop:=∀j,j<n->HT.lexLt (κ j) (κ i)=false/\(j<i->HT.lexLt (κ i) (κ j)=true)
end
end L2
namespace HT
theorem lexLt_irrefl:∀a:List Int,lexLt a a=false
 |[]=>rfl
 |x::r=>by rw[lexLt_cons,if_pos rfl];exact lexLt_irrefl r
theorem lexLt_trans:∀{a b c:List Int},lexLt a b=true->lexLt b c=true->lexLt a c=true
 |[],[],_,h,_=>by cases h
 |[],_::_,[],_,h=>by cases h
 |[],_::_,_::_,_,_=>rfl
 |_::_,[],_,h,_=>by cases h
 |_::_,_::_,[],_,h=>by cases h
 |x::a,y::b,z::c,h,g=>by
  rw[lexLt_cons]at h g ⊢
  by_cases e1:x=y
  .subst e1;rw[if_pos rfl]at h
   by_cases e2:x=z
   .subst e2;rw[if_pos rfl]at g ⊢;exact lexLt_trans h g
   .rw[if_neg e2]at g ⊢;exact g
  .rw[if_neg e1]at h;have h':x<y:=by simpa using h
   by_cases e2:y=z
   .subst e2;rw[if_neg e1];exact h
   .rw[if_neg e2]at g;have g':y<z:=by simpa using g
    rw[if_neg (by lia)];exact decide_eq_true (by lia)
theorem lexLt_total:∀{a b:List Int},lexLt a b=false->lexLt b a=false->a=b
 |[],[],_,_=>rfl
 |[],_::_,h,_=>by cases h
 |_::_,[],_,h=>by cases h
 |x::a,y::b,h,g=>by
  rw[lexLt_cons]at h g
  by_cases e:x=y
  .subst e;rw[if_pos rfl]at h g;rw[lexLt_total h g]
  .rw[if_neg e]at h;rw[if_neg (Bq e)]at g;have h':¬ x<y:=by simpa using h
   have g':¬ y<x:=by simpa using g
   lia
theorem lexLe_eq:∀a b:List Int,lexLe a b=!lexLt b a
 |[],[]=>rfl
 |[],_::_=>rfl
 |_::_,[]=>rfl
 |x::a,y::b=>by
  rw[zeA,lexLt_cons]
  by_cases e:x=y
  .subst e;rw[if_pos rfl,if_pos rfl];exact lexLe_eq a b
  .rw[if_neg e,if_neg (Bq e)]
   by_cases g:x<=y
   .rw[decide_eq_true g,decide_eq_false (by lia)];rfl
   .rw[decide_eq_false g,decide_eq_true (by lia)];rfl
theorem lexLt_asym{a b:List Int}(h:lexLt a b=true):lexLt b a=false:=by
 cases e:lexLt b a with
 |false=>rfl
 |true=>have:=lexLt_trans h e;rw[lexLt_irrefl]at this;cases this
end HT
namespace L2
open PySem PySem.Spec PyProof.Rows
section
variable {X:Cx}{k:Nat}{f:Addr}{fd:Bu}{ps:List Str}{sp:Sp}{pins:List (Addr×Obj)}{σ:St}{H0:Hp}{Q:VK}{l it st:Addr}{xs:List V}{κ:Nat->List Int}
noncomputable def MKR(X:Cx)(pins:List (Addr×Obj))(σ:St)(Q:VK):Result->Ae->Prop:=λr s'=>match r with
 |.ok (.ret v)=>EP X pins σ Q v s'
 |.ok _=>False
 |.error e=>X.xe e s'
theorem zcs {xs:Array Ad}{c:Nat}:∀v,(Bm "list" xs c).data≠.cell v:=λv h=>by cases h
theorem zdX{h:Heap}{it l:Addr}{j:Nat}(hi:h.IsListIter it l j):∃o,h.get? it=some o/\∀v,o.data≠.cell v:=by obtain⟨o,ho,_,hd⟩:=hi;exact⟨o,ho,λv z=>by rw[hd]at z;cases z⟩
theorem zj0{H:Hp}{s:Ae}{Q1:VK}{u:Ad}{x:V}{E:Ad -> Ae -> Prop}{j:Nat}{vb kb:Ad}(F:FnOk X.prog X.w X.K X.mg X.base CX0 k f fd ps sp)(hr:Room (k + 1) X.A)(hb:Binds X.K fd ps [])
    (M:MK X pins σ H s it st l j vb kb) (r:RelV x u) (h:sp [x] H Q1 E0):Ar (Aw X.prog X.w) X.A.in1 (call (.ref f) [u]) (λv s'=>∃y H',RelV y v/\Q1 y H'/\MK X pins σ H' s' it st l j vb kb) E s:=by
  obtain⟨c,hc⟩:=M.hold;obtain⟨oi,hoi,ci,di⟩:=id M.iter
  have I1:Inv X (pins ++ zdj [it, st] s.heap) σ H s := M.inv.pinned (λb hb => by
      rcases Ao.mp hb with rfl |hb
      . exact M.fi
      . rw[AN.mp hb];exact M.fs) (λb hb=>by
      rcases Ao.mp hb with rfl |hb
      . exact zdX M.iter
      . rw[AN.mp hb];exact⟨_,hc,zcs⟩)
  refine BP (ziG F hr hb I1 (.cons r .nil) h) (λv s' hv=>?_) λ_ _ e=>e
  obtain⟨y,H',I2,ry,q⟩:=hv;have p1:=I2.pin (it,oi) (Au _ (Au _ (zaU (by simp) hoi)));have p2:=I2.pin (st,Bm "list" #[vb,kb] c) (Au _ (Au _ (zaU (by simp) hc)));exact⟨y,H',ry,q,I2.unpinned,M.fi.again p1.2.1,M.fs.again p2.2.1,M.ne,⟨oi,p1.1,ci,di⟩,c,p2.1⟩
theorem zlv{H:Hp}{s:Ae}{a b:Addr}{ns ms:List Int}{E:Ad -> Ae -> Prop}{Q1:Ad -> Ae -> Prop}(hu:X.A.units + 1 < cLine)(I:Inv X pins σ H s)(ha:SqT X.K H a (ns.map V.int))(hb:SqT X.K H b (ms.map V.int))(q:Q1 (.bool (HT.lexLt ns ms)) s) :
  Ar (Aw X.prog X.w) X.A.in1 (richCompare .Lt (.ref a) (.ref b)) Q1 E s:=by
 obtain⟨its,r1,p1,_⟩:=I.tuple ha;obtain⟨its2,r2,p2,_⟩:=I.tuple hb;exact (HT.lt_tupInts p1 p2 (zct r1) (zct r2) hu q:Ar (Aw X.prog X.w) X.A.in1 (By .Lt (.ref a) (.ref b)) Q1 E s)
theorem MK.set{H:Hp}{s:Ae}{j:Nat}{vb kb v kv:Ad}(M:MK X pins σ H s it st l j vb kb):MK X pins σ H { s with heap:=s.heap.update st (AG λ_=>#[v,kv]) } it st l j v kv:=by obtain⟨c,hc⟩:=M.hold;have sb:=BW s.heap st (AG λ_=>#[v,kv]);obtain⟨oi,hoi,ci,di⟩:=id M.iter;exact⟨M.inv.moved (t':=s.toks) M.fs (λb o hb e=>(sb.2 b λz=>hb (by simp[z])).trans e),M.fi,M.fs,M.ne,⟨oi,(sb.2 it M.ne.symm).trans hoi,ci,di⟩,_,Dq hc λ_=>#[v,kv]⟩
theorem Least.next{n i:Nat}(h:Least κ n i)(e:HT.lexLt (κ n) (κ i)=false)(hi:i<n):Least κ (n+1) i:=λj hj=>by
 by_cases z:j=n
 .subst z;exact⟨e,λq=>absurd q (by lia)⟩
 .exact h j (by lia)
theorem Least.take{n i:Nat}(h:Least κ n i)(e:HT.lexLt (κ n) (κ i)=true)(hi:i<n):Least κ (n+1) n:=λj hj=>by
 by_cases z:j=n
 .subst z;exact⟨HT.lexLt_irrefl _,λq=>absurd q (by lia)⟩
 .have g:=(h j (by lia)).1
  have t:HT.lexLt (κ n) (κ j)=true:=by
   cases q:HT.lexLt (κ i) (κ j) with
   |true=>exact HT.lexLt_trans e q
   |false=>rw[<- HT.lexLt_total q g];exact e
  exact⟨HT.lexLt_asym t,λ_=>t⟩
theorem Room.un1{n:Nat}{A:AL}(r:Room n A):A.units+1<cLine:=by have:=r.units;lia
theorem Same.seqT{K:W.Frag}{H H':Hp}{a:Addr}{xs:List V}(e:Same H H')(h:SqT K H a xs):SqT K H' a xs:=by
 rcases h with (h |⟨o,h⟩) |h
 .exact .inl (.inl (e _ _ h))
 .exact .inl (.inr ⟨o,e _ _ h⟩)
 .exact .inr h
theorem zi7(hh:X.A.handled=none)(F:FnOk X.prog X.w X.K X.mg X.base CX0 k f fd ps sp)(hr:Room (k + 1) X.A)(hb:Binds X.K fd ps [])
  (turn:∀i x H,xs[i]?=some x->Same H0 H->sp [x] H (λv H'=>Same H H'/\∃a,v=.ref a/\SqT X.K H' a ((κ i).map V.int)) E0)
  (hl:SqL X.K H0 l xs) (hli:l≠it) (hQ:∀i x H',xs[i]?=some x->Least κ xs.length i->Same H0 H'->Q x H') :
  ∀(r j i:Nat) (H:Hp) (s:Ae) (vb:Ad) (xb:V) (b:Addr),xs.length-(j+1)=r->j+1<=xs.length->Same H0 H->MK X pins σ H s it st l (j+1) vb (.ref b)->xs[i]?=some xb->RelV xb vb->SqT X.K H b ((κ i).map V.int)->i<=j->Least κ (j+1) i ->
   BY (Aw X.prog X.w) X.A (.builtin "min.loop" ⟨[.ref it,.ref f,.ref st],[]⟩) (MKR X pins σ Q) s:=by
 have nm:(toString "min" ++ toString ".loop" : String) = "min.loop":=by decide
 intro r
 induction r with
 |zero =>
  intro j i H s vb xb b hr0 hj hS M hxb rb kb' hij best;have hend:j+1=xs.length:=by lia
  obtain⟨its,rv,pl,hz⟩:=M.inv.list (hS.seq hl);have hlen:its.length=xs.length:=rv.length.symm;have W:=Walks.list (prog:=X.prog) (w:=X.w) (A:=X.A.in1) hh it l hli its.toArray;obtain⟨c,hc⟩:=M.hold;refine Co PySem.F.entry_min_loop ?_
  rw[BR AY _];show Ar _ X.A.in1 (seqItems? (.ref st) >>= _) _ _ _;refine Ac (Cd hc rfl ?_);show Ar _ X.A.in1 (tryCatch (pyNext (.ref it)) _ >>= _) _ _ _;refine Ac (B2 (W.done _ _ _ ⟨by rw[Az,hlen,<- hend];exact M.iter,pl.isList⟩ λh1 tk1 hk1=>?_));have I1:=M.inv.moved (t':=tk1) M.fi hk1;have hc1:=hk1 st _ (by simpa using M.ne) hc;have sb:=BW h1 st (AG λ_=>(#[]:Array Ad));show Ar _ X.A.in1 (updateSeq st (λ_=>#[]) >>= _) _ _ _;refine Ac ?_
  refine BO hc1 rfl (Ac (Cs (Aj ?_)));have I2:Inv X pins σ H { s with heap:=h1.update st (AG λ_=>(#[]:Array Ad)),toks:=tk1 }:=I1.moved (s:={ s with heap:=h1,toks:=tk1 }) (t':=tk1) M.fs (λb o hb e=>(sb.2 b λz=>hb (by simp[z])).trans e);exact⟨xb,H,I2,rb,hQ i xb H hxb (by rw[<- hend];exact best) hS⟩
 |succ r ih =>
  intro j i H s vb xb b hr0 hj hS M hxb rb kb' hij best;have hlt:j+1<xs.length:=by lia
  obtain⟨its,rv,pl,hz⟩:=M.inv.list (hS.seq hl);have hlen:its.length=xs.length:=rv.length.symm;have W:=Walks.list (prog:=X.prog) (w:=X.w) (A:=X.A.in1) hh it l hli its.toArray;obtain⟨c,hc⟩:=M.hold;refine Co PySem.F.entry_min_loop ?_
  rw[BR AY _];show Ar _ X.A.in1 (seqItems? (.ref st) >>= _) _ _ _;refine Ac (Cd hc rfl ?_);show Ar _ X.A.in1 (tryCatch (pyNext (.ref it)) _ >>= _) _ _ _;refine Ac (B2 (W.item (j+1) _ _ _ (by rw[Az,hlen];exact hlt) ⟨M.iter,pl.isList⟩ λv h1 tk1 hP hst1 hk1=>?_));have hv:its[j+1]?=some v:=by simpa using hP
  obtain⟨x,hx⟩:∃x,xs[j+1]?=some x:=⟨_,Aa hlt⟩;obtain⟨v',hv',rx⟩:=rv.get hx;rw[hv]at hv'
  cases hv'
  have M1:MK X pins σ H { s with heap:=h1,toks:=tk1 } it st l (j+1+1) vb (.ref b):=⟨M.inv.moved (t':=tk1) M.fi hk1,M.fi,M.fs,M.ne,hst1.1,c,hk1 st _ (by simpa using M.ne) hc⟩;show Ar _ X.A.in1 (tryCatch (C8 [v] (call (.ref f) [v])) _ >>= _) _ _ _;refine Ac (B2 (A9 (BP (zj0 F hr hb M1 rx (turn (j+1) x H hx hS) (E:=λ_ _=>False)) (λkv s2 he=>?_) λ_ _ hF=>hF.elim)));obtain⟨y,H2,ry,⟨hS2,a2,ey,ka2⟩,M2⟩:=he;subst ey
  cases (show kv=AA a2 from ry)
  have hS3:=hS.trans hS2;have kb2:SqT X.K H2 b ((κ i).map V.int):=hS2.seqT kb';show Ar _ X.A.in1 (tryCatch (C8 [v,.ref a2] (richCompare .Lt (.ref a2) (.ref b) >>= _)) _ >>= _) _ _ _;refine Ac (B2 (A9 (Ac (zlv hr.un1 M2.inv ka2 kb2 ?_))));refine Ac (A9 (Br ?_));refine Ac (Cs (Aj ?_));obtain⟨c2,hc2⟩:=M2.hold
  by_cases hbt:HT.lexLt (κ (j+1)) (κ i)=true
  .simp only[hbt,if_true];refine Ac ?_
   refine BO hc2 rfl (Ac (Cs ?_));rw[nm];exact Aj ⟨BV AY _,ih (j+1) (j+1) H2 _ v _ a2 (by lia) hlt hS3 M2.set hx rx ka2 (Ai _) (best.take hbt (by lia))⟩
  .have hbf:HT.lexLt (κ (j+1)) (κ i)=false:=by simpa using hbt
   simp only[hbf,BB,if_false];refine Ac (Cs ?_);rw[nm];exact Aj ⟨BV AY _,ih (j+1) i H2 _ vb _ b (by lia) hlt hS3 M2 hxb rb kb2 (by lia) (best.next hbf (by lia))⟩
end
section
variable {X:Cx}{k:Nat}{f:Addr}{fd:Bu}{ps:List Str}{sp:Sp}{pins:List (Addr×Obj)}{σ:St}{H0:Hp}{Q:VK}{l it st:Addr}{xs:List V}{κ:Nat->List Int}
structure MK0 (X:Cx) (pins:List (Addr×Obj)) (σ:St) (H:Hp) (s:Ae) (it st l:Addr) (j:Nat):Prop where
 inv:Inv X pins σ H s
 fi:FpOk X pins H it
 fs:FpOk X pins H st
 ne:st≠it
 iter:s.heap.IsListIter it l j
 hold:∃c,s.heap.get? st=some (Bm "list" #[] c)
theorem ziH{H:Hp}{s:Ae}{Q1:VK}{u:Ad}{x:V}{E:Ad -> Ae -> Prop}{j:Nat}(F:FnOk X.prog X.w X.K X.mg X.base CX0 k f fd ps sp)(hr:Room (k + 1) X.A)(hb:Binds X.K fd ps [])
    (M:MK0 X pins σ H s it st l j) (r:RelV x u) (h:sp [x] H Q1 E0):Ar (Aw X.prog X.w) X.A.in1 (call (.ref f) [u]) (λv s'=>∃y H',RelV y v/\Q1 y H'/\MK0 X pins σ H' s' it st l j) E s:=by
  obtain⟨c,hc⟩:=M.hold;obtain⟨oi,hoi,ci,di⟩:=id M.iter
  have I1:Inv X (pins ++ zdj [it, st] s.heap) σ H s := M.inv.pinned (λb hb => by
      rcases Ao.mp hb with rfl |hb
      . exact M.fi
      . rw[AN.mp hb];exact M.fs) (λb hb=>by
      rcases Ao.mp hb with rfl |hb
      . exact zdX M.iter
      . rw[AN.mp hb];exact⟨_,hc,zcs⟩)
  refine BP (ziG F hr hb I1 (.cons r .nil) h) (λv s' hv=>?_) λ_ _ e=>e
  obtain⟨y,H',I2,ry,q⟩:=hv;have p1:=I2.pin (it,oi) (Au _ (Au _ (zaU (by simp) hoi)));have p2:=I2.pin (st,Bm "list" #[] c) (Au _ (Au _ (zaU (by simp) hc)));exact⟨y,H',ry,q,I2.unpinned,M.fi.again p1.2.1,M.fs.again p2.2.1,M.ne,⟨oi,p1.1,ci,di⟩,c,p2.1⟩
theorem MK0.set{H:Hp}{s:Ae}{j:Nat}{v kv:Ad}(M:MK0 X pins σ H s it st l j):MK X pins σ H { s with heap:=s.heap.update st (AG λ_=>#[v,kv]) } it st l j v kv:=by obtain⟨c,hc⟩:=M.hold;have sb:=BW s.heap st (AG λ_=>#[v,kv]);obtain⟨oi,hoi,ci,di⟩:=id M.iter;exact⟨M.inv.moved (t':=s.toks) M.fs (λb o hb e=>(sb.2 b λz=>hb (by simp[z])).trans e),M.fi,M.fs,M.ne,⟨oi,(sb.2 it M.ne.symm).trans hoi,ci,di⟩,_,Dq hc λ_=>#[v,kv]⟩
theorem zjC{s:Ae}(hh:X.A.handled=none)(F:FnOk X.prog X.w X.K X.mg X.base CX0 k f fd ps sp)(hr:Room (k + 1) X.A)(hb:Binds X.K fd ps [])
  (turn:∀i x H,xs[i]?=some x->Same H0 H->sp [x] H (λv H'=>Same H H'/\∃a,v=.ref a/\SqT X.K H' a ((κ i).map V.int)) E0)
  (hl:SqL X.K H0 l xs) (hne:0<xs.length) (hQ:∀i x H',xs[i]?=some x->Least κ xs.length i->Same H0 H'->Q x H') (I:Inv X pins σ H0 s) :
  Ar (Aw X.prog X.w) X.A (call (.builtin "min") [.ref l] [(Bf "key",.ref f)]) (EP X pins σ Q) X.xe s:=by
 have nm:(toString "min" ++ toString ".loop" : String) = "min.loop":=by decide
 obtain⟨its,rv,pl,hz⟩:=I.list hl;have hlen:its.length=xs.length:=rv.length.symm;have hll:l<s.heap.objs.size:=by obtain⟨o,ho,_⟩:=pl.isList;exact An ho
 refine kmk_tree PySem.F.kind_min PySem.F.plain_min PySem.F.entry_min (kmk_min_key _ _) ?_
 show Ar _ X.A.in1 (Bw "min" ["key","default"] 0 ⟨[],[(Bf "key",.ref f)]⟩ >>= _) _ _ s;refine Ac (wpAny_of_eq (show Bw "min" ["key","default"] 0 ⟨[],[(Bf "key",.ref f)]⟩=pure [some (.ref f),none] from rfl) ?_);refine Ac (Aj ?_);refine Ac (CY pl.isList ?_);refine Ac (wpAny_newList ?_ (AV _));rw[nm];refine Aj ⟨BV AY _,?_⟩;have keep:∀b o,s.heap.get? b=some o->((s.heap.push { cls:=.type "list_iterator",data:=.fields #[.ref l,.int 0 0] }).push (Bm "list" #[] 0)).get? b=some o:=λb o e=>Ag _ (Ag _ e)
 have gi:((s.heap.push { cls:=.type "list_iterator",data:=.fields #[.ref l,.int 0 0] }).push (Bm "list" #[] 0)).get? s.heap.objs.size=some { cls:=.type "list_iterator",data:=.fields #[.ref l,.int 0 0] }:=Ag _ (AC _ rfl);have hsS:(s.heap.push { cls:=.type "list_iterator",data:=.fields #[.ref l,.int 0 0] }).objs.size=s.heap.objs.size+1:=size_push' ..;have gs:((s.heap.push { cls:=.type "list_iterator",data:=.fields #[.ref l,.int 0 0] }).push (Bm "list" #[] 0)).get? (s.heap.objs.size+1)=some (Bm "list" #[] 0):=by rw[<- hsS];exact AC _ rfl
 rw[hsS];have I1:Inv X pins σ H0 { s with heap:=(s.heap.push { cls:=.type "list_iterator",data:=.fields #[.ref l,.int 0 0] }).push (Bm "list" #[] 0) }:=I.kept (t':=s.toks) keep;have fi:FpOk X pins H0 s.heap.objs.size:=I.fpOk (Ai _) (I.hok.fresh (Ai _));have fs:FpOk X pins H0 (s.heap.objs.size+1):=I.fpOk (Ct _) (I.hok.fresh (Ct _));have M0:MK0 X pins σ H0 _ s.heap.objs.size (s.heap.objs.size+1) l 0:=⟨I1,fi,fs,Nat.ne_of_gt (Nat.lt_succ_self _),⟨_,gi,rfl,rfl⟩,⟨0,gs⟩⟩;have hli:l≠s.heap.objs.size:=At hll;have W:=Walks.list (prog:=X.prog) (w:=X.w) (A:=X.A.in1) hh s.heap.objs.size l hli its.toArray;refine Co PySem.F.entry_min_loop ?_
 rw[BR AY _];show Ar _ X.A.in1 (seqItems? (.ref _) >>= _) _ _ _;refine Ac (Cd gs rfl ?_);show Ar _ X.A.in1 (tryCatch (pyNext (.ref s.heap.objs.size)) _ >>= _) _ _ _;obtain⟨its2,rv2,pl2,_⟩:=I1.list hl;refine Ac (B2 (W.item 0 _ _ _ (by rw[Az,hlen];exact hne) ⟨M0.iter,pl.isList.at λo e=>keep _ _ e⟩ λv h1 tk1 hP hst1 hk1=>?_));have hv:its[0]?=some v:=by simpa using hP
 obtain⟨x,hx⟩:∃x,xs[0]?=some x:=⟨_,Aa hne⟩;obtain⟨v',hv',rx⟩:=rv.get hx;rw[hv]at hv'
 cases hv'
 have M1:MK0 X pins σ H0 { s with heap:=h1,toks:=tk1 } s.heap.objs.size (s.heap.objs.size+1) l 1:=⟨I1.moved (t':=tk1) fi hk1,fi,fs,M0.ne,hst1.1,0,hk1 _ _ (by simp) gs⟩;show Ar _ X.A.in1 (tryCatch (C8 [v] (call (.ref f) [v])) _ >>= _) _ _ _;refine Ac (B2 (A9 (BP (ziH F hr hb M1 rx (turn 0 x H0 hx (Same.refl _)) (E:=λ_ _=>False)) (λkv s2 he=>?_) λ_ _ hF=>hF.elim)));obtain⟨y,H2,ry,⟨hS2,a2,ey,ka2⟩,M2⟩:=he;subst ey
 cases (show kv=AA a2 from ry)
 obtain⟨c2,hc2⟩:=M2.hold;show Ar _ X.A.in1 (updateSeq (s.heap.objs.size+1) (λ_=>#[v,.ref a2]) >>= _) _ _ _;refine Ac ?_
 refine BO hc2 rfl ?_
 rw[nm];refine Aj ⟨BV AY _,?_⟩
 exact codeAny_mono (zi7 hh F hr hb turn hl hli hQ _ 0 0 H2 _ v _ a2 rfl hne hS2 M2.set hx rx ka2 (Ai _) (λj hj=>by
  have e:j=0:=by lia
  subst e;exact⟨HT.lexLt_irrefl _,λz=>absurd z (BI _)⟩)) λr s' hr'=>hr'
end
end L2
namespace RK
open PySem PySem.W PyProof.Rows
variable {n:Nat}{ans:Nat->Nat->Bool}
noncomputable def Leaf(n:Nat)(ans:Nat->Nat->Bool){α:Type}:KasT α->(α->Prop)->Prop
 |.ret a,G=>G a
 |.ask i j k,G=>i<n/\j<n/\Leaf n ans (k (ans i j)) G
theorem zb0{α β:Type}{g:α->KasT β}{G:β->Prop}:∀{t:KasT α},Leaf n ans t (λa=>Leaf n ans (g a) G)->Leaf n ans (t.bind g) G
 |.ret _,h=>h
 |.ask _ _ _,h=>⟨h.1,h.2.1,zb0 h.2.2⟩
theorem zbZ{α:Type}{G G':α->Prop}(hg:∀a,G a->G' a):∀{t:KasT α},Leaf n ans t G->Leaf n ans t G'
 |.ret _,h=>hg _ h
 |.ask _ _ _,h=>⟨h.1,h.2.1,zbZ hg h.2.2⟩
theorem leaf_wp{α : Type}{cmp:Nat -> Nat -> (Bool -> Ae -> Prop) -> Ae -> Prop}{s:Ae}(hc:∀i j (C:Bool -> Ae -> Prop), i < n -> j < n -> C (ans i j) s -> cmp i j C s){G : α -> Prop}{Q : α -> Ae -> Prop}(hq:∀a, G a -> Q a s) :
  ∀{t:KasT α},Leaf n ans t G->t.kasWp cmp Q s
 |.ret _,h=>hq _ h
 |.ask i j _,h=>hc i j _ h.1 h.2.1 (leaf_wp hc hq h.2.2)
noncomputable def Pm(n:Nat)(p:Array Nat):Prop:=p.Perm (List.toArray (AE n))
theorem Pm.lt{p:Array Nat}(h:Pm n p)(hn:0<n)(i:Nat):p.getD i 0<n:=by
 by_cases hi:i<p.size
 .have e:p.getD i 0=p[i]:=by simp[Array.getD,hi]
  rw[e];have hm:p[i]∈List.toArray (AE n):=h.mem_iff.mp (Array.getElem_mem hi);simpa using hm
 .have e:p.getD i 0=0:=by simp[Array.getD,hi]
  rw[e];exact hn
theorem Pm.rev{p:Array Nat}(h:Pm n p)(i j:Nat):Pm n (kas_rev p i j):=(mirror_perm _ _ _ _).trans h
theorem Pm.bub{p:Array Nat}(h:Pm n p)(i j:Nat):Pm n (bubble p i j):=(bubble_perm _ _ _).trans h
theorem zfc{p:Array Nat}(h:Pm n p)(hn:0<n):∀f m,Leaf n ans (kas_asc p f m) λ_=>True
 | 0,_=>trivial
 |f+1,m=>by
  refine⟨h.lt hn _,h.lt hn _,?_⟩;dsimp only;split
  .trivial
  .exact zfc h hn f (m+1)
theorem zcU(hn:0<n):∀f (p:Array Nat) m q,Pm n p->Leaf n ans (kas_desc f p m q) λr=>Pm n r.1
 | 0,p,_,_,h=>h
 |f+1,p,m,q,h=>by
  refine⟨h.lt hn _,h.lt hn _,?_⟩;dsimp only;split
  .split
   .exact zcU hn f _ _ _ (h.rev _ _)
   .exact zcU hn f _ _ _ h
  .refine⟨h.lt hn _,h.lt hn _,?_⟩;dsimp only;split
   .exact h
   .exact zcU hn f _ _ _ h
theorem zeB(hn:0<n){p:Array Nat}(h:Pm n p)(m nrem:Nat):Leaf n ans (kas_tail3 m nrem p) λr=>Pm n r.2 :=
 zb0 (zbZ (λa _=>h.rev 0 m) (zfc (h.rev 0 m) hn _ _))
theorem zcT(hn:0<n){p:Array Nat}(h:Pm n p)(m nrem:Nat):Leaf n ans (kas_descPart m nrem p) λr=>Pm n r.2:=by
 refine zb0 (zbZ (λr hr=>?_) (zcU hn _ _ _ _ h));split
 .exact zeB hn (hr.rev _ _) _ _
 .exact zeB hn hr _ _
theorem zh6(hn:0<n){p:Array Nat}(h:Pm n p)(nrem:Nat):Leaf n ans (kas_count nrem p) λr=>Pm n r.2:=by
 refine zb0 (zbZ (λm _=>?_) (zfc h hn _ _));split
 .exact h
 .split
  .refine⟨h.lt hn _,h.lt hn _,?_⟩;dsimp only;split
   .exact h
   .exact zcT hn (h.rev _ _) _ _
  .exact zcT hn h _ _
theorem zdc(hn:0<n){p:Array Nat}(h:Pm n p)(k:Nat):∀f l r,Leaf n ans (kas_place p k f l r) λ_=>True
 | 0,_,_=>trivial
 |f+1,l,r=>by
  unfold kas_place;split
  .trivial
  .refine⟨h.lt hn _,h.lt hn _,?_⟩;dsimp only;split
   .exact zdc hn h k f _ _
   .exact zdc hn h k f _ _
theorem zhq(hn:0<n):∀f (p:Array Nat) k,Pm n p->Leaf n ans (kas_bin f p k) λq=>Pm n q
 | 0,p,_,h=>h
 |f+1,p,k,h=>zb0 (zbZ (λl _=>zhq hn f _ _ (h.bub _ _)) (zdc hn h k _ _ _))
theorem leaf_sort(hn:0<n):Leaf n ans (kas_sort n) λp=>Pm n p:=by
 refine zb0 (zbZ (λr hr=>?_) (zh6 hn (Array.Perm.refl _) n));split
 .exact zhq hn _ _ _ hr
 .exact hr
inductive Col:Ad->Ad->Int->Int->Prop where
 |int (a:Int) (t:Tok) (b:Int) (u:Tok):Col (.int a t) (.int b u) a b
 |bl (p q:Bool):Col (.bool p) (.bool q) (b2i p) (b2i q)
inductive Cols:List Ad->List Ad->List Int->List Int->Prop where
 |nil:Cols [] [] [] []
 |cons {u v:Ad} {us vs:List Ad} {a b:Int} {as bs:List Int}:Col u v a b->Cols us vs as bs->Cols (u::us) (v::vs) (a::as) (b::bs)
section
variable {prog:AH}{w:AZ}{A:AL}{s:Ae}{Q:Bool->Ae->Prop}
theorem zkU{u v:Ad}{a b:Int}(c:Col u v a b){E:Ad->Ae->Prop}(h:Q (decide (a=b)) s):Ar (Aw prog w) A (eqBool u v) Q E s:=by
 cases c with
 |int _ t _ u =>
  refine wpAny_eqBool_int ?_
  rw[show (a == b)=decide (a=b) from by rw[Bool.beq_eq_decide_eq]];exact h
 |bl p q =>
  refine SeqAt.EqAt.bool_bool p q prog w E Q ?_
  have e:(p == q)=decide (b2i p=b2i q):=by cases p <;> cases q <;> decide
  rw[e];exact h
theorem zms{u v:Ad}{a b:Int}(c:Col u v a b){E:Ad->Ae->Prop}(h:Q (decide (a<b)) s):Ar (Aw prog w) A (oneLt' false u v) Q E s:=by
 cases c with
 |int _ t _ u=>exact kat_one _ _ (lt_int (show W.BoolBack Q (.bool (decide (a<b))) s from h))
 |bl p q=>exact kat_one _ _ (lt_bool (show W.BoolBack Q (.bool (decide (b2i p<b2i q))) s from h))
theorem zhr{bb:Bool}:∀{us vs:List Ad}{as bs:List Int}(i:Nat),Cols us vs as bs->Q (HT.lexLt as bs) s->KatLex prog w A bb false Q (us.zip vs) (i+1) s
 |_,_,_,_,_,.nil,h=>kat_nil h
 |_,_,_,_,i,.cons (a:=a) (b:=b) (as:=as) (bs:=bs) c r,h=>by
  rw[HT.lexLt_cons]at h;refine kat_cons (zkU c ?_)
  by_cases e:a=b
  .rw[decide_eq_true e];rw[if_pos e]at h;exact kat_yes (zhr (i+1) r h)
  .rw[decide_eq_false e];rw[if_neg e]at h;refine kat_no ?_
   rw[show (bb && (i+1 == 0))=false by simp];exact zms c h
theorem kat_cols0{us vs:List Ad}{as bs:List Int}{a b:Int}{t u:Tok}(r:Cols us vs as bs)(h:Q (HT.lexLt (a::as) (b::bs)) s):KatLex prog w A true false Q ((C6 a t::us).zip (C6 b u::vs)) 0 s:=by
 rw[HT.lexLt_cons]at h;refine kat_cons (zkU (.int a t b u) ?_)
 by_cases e:a=b
 .rw[decide_eq_true e];rw[if_pos e]at h;exact kat_yes (zhr 0 r h)
 .rw[decide_eq_false e];rw[if_neg e]at h;exact kat_no (oneLt_int h)
end
end RK
namespace L2
open PySem PySem.Spec PyProof.Rows
section
variable {X:Cx}{k:Nat}{f:Addr}{fd:Bu}{ps:List Str}{sp:Sp}{pins:List (Addr×Obj)}{σ:St}{H0:Hp}{Q:VK}
theorem Inv.adopt{H:Hp}{s:Ae}{D:Addr}{o:HO}{h':Heap}{t':Nat}(I:Inv X pins σ H s)(fb:FpOk X pins H D)(hk:∀b u, b ≠ D -> s.heap.get? b=some u -> h'.get? b=some u)(heo:∃u, h'.get? D=some u)
  (new:ObjOk X.prog X.w (upd H D o) h' D o):Inv X pins σ (upd H D o) { s with heap:=h',toks:=t' }:=by
 have hn:=fb.1;have nit:∀b u,H b=some u->b≠D:=λb u e z=>by rw[z,hn]at e;cases e
 refine I.step (g':=s.gens) (d':=s.drawn) (ch:=[D]) (λb hb=>?_) (λb u _ _ hc e _=>hk b u (λz=>hc (by simp[z])) e) (λb u _ _ hc e _=>⟨u.slots,hk b u (λz=>hc (by simp[z])) e⟩)
  (λb u hc _ n=>by rw[zal (λz=>hc (by simp[z]))];exact n)
  (λb u hc e=>⟨u,hk b u (λz=>hc (by simp[z])) e⟩) (λb xs e=>by rw[zal (nit _ _ e)];exact e) (λb u xs e=>by rw[zal (nit _ _ e)];exact e) (λb ps e=>⟨#[],by rw[zal (nit _ _ e),e];simp⟩) (λm hm=>?_) (λb u e=>?_) I.bare
 .have e:b=D:=by simpa using hb
  subst e;exact⟨fb.2.2.2.1,fb.2.1,fb.2.2.2.2.1,fb.2.2.2.2.2⟩
 .obtain⟨u,es,ep,ho,r⟩:=hm;exact⟨u,es,ep,hk _ u (Bq fb.2.1) ho,r⟩
 .by_cases hb:b=D
  .subst hb;rw[zaa]at e;cases e;exact new
  .rw[zal hb]at e;refine (I.hok b u e).stay (λc v hc q=>hk c v ?_ q) (λc q=>by rw[zal (nit _ _ q)];exact q) λc xs q=>by rw[zal (nit _ _ q)];exact q
   rcases hc with z |z
   .rw[z];exact nit b u e
   .exact nit c _ z
theorem zla{H:Hp}{s:Ae}{Q:VK}{us:List Ad}{vs:List V}{E:Ad -> Ae -> Prop}(F:FnOk X.prog X.w X.K X.mg X.base CX0 k f fd ps sp)(hr:Room (k + 1 + 1) X.A)(hb:Binds X.K fd ps [])
  (I:Inv X pins σ H s) (r:Vals vs us) (h:sp vs H Q E0):Ar (Aw X.prog X.w) X.A.in1.in1 (call (.ref f) us) (EP X pins σ Q) E s:=by
 have hl:(us++[]).length=ps.length:=by rw[AX,<- r.length];exact F.len _ _ _ _ h
 have hb':=hb s us I.kIn hl;rw[AX]at hb';refine wpAny_call (codeAny_mono (F.run X.A.in1.in1 X.stack s H ⟨us,[]⟩ us vs Q E0 hr.in1.in1 I.env0.in1.in1 hb' r h) λr s' hq=>?_)
 cases r with
 |error e=>exact BA hq
 |ok fl =>
  cases fl with
  |ret u=>exact I.after hq
  |next=>exact BA hq
  |brk=>exact BA hq
  |cont=>exact BA hq
noncomputable def zhI(X:Cx)(σ:St)(H0:Hp)(f:Addr)(xs:List V)(κV:Nat->List V):Prop:=∀(pins:List (Addr×Obj)) (i:Nat) (x:V) (u:Ad) (H:Hp) (s:Ae),xs[i]?=some x->Same H0 H->Inv X pins σ H s->RelV x u ->
 Ar (Aw X.prog X.w) X.A.in1.in1 (call (.ref f) [u]) (EP X pins σ λv H'=>Same H H'/\∃a,v=.ref a/\SqT X.K H' a (κV i)) (λ_ _=>False) s
theorem zmo{xs:List V}{κV:Nat -> List V}(F:FnOk X.prog X.w X.K X.mg X.base CX0 k f fd ps sp)(hr:Room (k + 1 + 1) X.A)(hb:Binds X.K fd ps [])
  (turn:∀i x H,xs[i]?=some x->Same H0 H->sp [x] H (λv H'=>Same H H'/\∃a,v=.ref a/\SqT X.K H' a (κV i)) E0):zhI X σ H0 f xs κV :=
 λ_ i x _ H _ hx hS I ru=>zla F hr hb I (.cons ru .nil) (turn i x H hx hS)
inductive VCol:V->V->Int->Int->Prop where
 |int (a b:Int):VCol (.int a) (.int b) a b
 |bl (p q:Bool):VCol (.bl p) (.bl q) (b2i p) (b2i q)
inductive VCols:List V->List V->List Int->List Int->Prop where
 |nil:VCols [] [] [] []
 |cons {x y:V} {xs ys:List V} {a b:Int} {as bs:List Int}:VCol x y a b->VCols xs ys as bs->VCols (x::xs) (y::ys) (a::as) (b::bs)
theorem VCols.vals:∀{xs ys:List V}{as bs:List Int}{us vs:List Ad},VCols xs ys as bs->Vals xs us->Vals ys vs->RK.Cols us vs as bs
  |_,_,_,_,_,_,.nil,.nil,.nil=>.nil
  |_, _, _, _, _, _, .cons c r, .cons h t, .cons g q => .cons (by
      cases c with
      |int a b=>obtain⟨t,rfl⟩:=h;obtain⟨u,rfl⟩:=g;exact .int _ _ _ _
      |bl p q=>cases h;cases g;exact .bl _ _) (r.vals t q)
structure SK (X:Cx) (pins:List (Addr×Obj)) (σ:St) (H:Hp) (s:Ae) (D st:Addr) (e:Nat) (κV:Nat->List V) (ks:List Addr):Prop where
 inv:Inv X pins σ H s
 fd:FpOk X pins H D
 fs:FpOk X pins H st
 ne:st≠D
 hd:s.heap.get? D=some (Bm "list" #[] e)
 hs:∃c,s.heap.get? st=some (Bm "list" (ks.map AA).toArray c)
 hk:∀i a,ks[i]?=some a->SqT X.K H a (κV i)
theorem zht{M:Model}{A:AL}{E:Ad -> Ae -> Prop}{body:Ad -> PUnit -> Sem (ForInStep PUnit)}{vs:List Ad}(P:Nat -> Ae -> Prop)
  (hb:∀i x s,vs[i]?=some x->P i s->Ar M A (body x ⟨⟩) (λr s'=>r=.yield ⟨⟩/\P (i+1) s') E s):∀(r:List Ad) (i:Nat) (s:Ae),vs.drop i=r->i<=vs.length->P i s ->
   Ar M A (forIn r PUnit.unit body) (λ_ s'=>P vs.length s') E s
 |[],i,s,hr,hi,h=>by
  rw[List.forIn_nil];have:vs.length<=i:=List.drop_eq_nil_iff.mp hr;exact Aj (by rw[show vs.length=i by lia];exact h)
 |x::r,i,s,hr,hi,h=>by
  have hx:vs[i]?=some x:=by have:=congrArg (·[0]?) hr;simpa using this
  have hlt:i<vs.length:=(Ab.mp hx).1;have hr':vs.drop (i+1)=r:=by rw[<- List.tail_drop,hr];rfl
  rw[Dp];refine Ac (BP (hb i x s hx h) (λq s' hq=>?_) λ_ _ e=>e);obtain⟨rfl,h'⟩:=hq;exact zht P hb r (i+1) s' hr' hlt h'
end
section
variable {X:Cx}{pins:List (Addr×Obj)}{σ:St}{H:Hp}{s:Ae}{D st:Addr}{e:Nat}{κV:Nat->List V}{ks:List Addr}{E:Ad->Ae->Prop}
noncomputable def zhJ(X:Cx)(G:Array Nat->Prop)(ks vs:List Ad)(E:Ad->Ae->Prop)(s:Ae):Prop :=
 Ar (Aw X.prog X.w) X.A.in1.in1 (keyKind' ks.toArray) (λκ s0=>s0=s /\
  Ar (Aw X.prog X.w) X.A.in1.in1 ((sortRuns').run (SortSt.mk' κ (ks.toArray.zip vs.toArray) #[] 7 none)) (λr s'=>s'=s/\failedOf r.2=none/\∃p:Array Nat,G p/\p.size=vs.length/\arrOf r.2=p.map (W.kas_item (ks.toArray.zip vs.toArray))) E s) E s
theorem zjk{as:List Addr}(I:Inv X pins σ H s):∀{ks:List Addr}{vs:List (List V)}{ns:List Int}, (∀(i:Nat) (a:Addr), ks[i]? = some a -> ∃n r, ns[i]? = some n /\ SqT X.K H a (.int n :: r)) -> ns.length=ks.length ->
  ∃fs:List Ad,W.KatTups s.heap (ks.map AA) fs/\fs.length=ks.length/\∀v∈fs,∃n t,v=C6 n t
 |[],_,_,_,_=>⟨[],.nil,rfl,λ_ h=>nomatch h⟩
 |a::r,vs,[],_,h=>by cases h
 |a::r,vs,n::ns,hk,h=>by
  obtain⟨m,q,e1,hq⟩:=hk 0 a rfl;obtain⟨fs,t,hl,hi⟩:=zjk (as:=as) (vs:=vs) I (ks:=r) (ns:=ns) (λi b hb=>by simpa using hk (i+1) b (by simpa using hb)) (by simpa using h);obtain⟨its,rv,⟨o,ho,hc,c,hd⟩,_⟩:=I.tuple hq
  cases rv with
  |cons rx rr =>
   obtain⟨t1,rfl⟩:=rx;refine⟨C6 m t1::fs,.cons ho hc hd (by simp) t,by simp[hl],λv hv=>?_⟩;rcases Ao.mp hv with rfl |hv
   .exact⟨_,_,rfl⟩
   .exact hi v hv
theorem zmr{vs:List Ad}{κ : Nat -> List Int}(K:SK X pins σ H s D st e κV ks)(hl:ks.length=vs.length)(h2 : 2 <= vs.length)(h64:vs.length < 64)
  (hcol:∀i j,i<ks.length->j<ks.length->∃n m r q rn rm,κV i=.int n::r/\κV j=.int m::q/\VCols r q rn rm/\κ i=n::rn/\κ j=m::rm) :
  zhJ X (RK.Pm vs.length) (ks.map AA) vs E s:=by
 unfold zhJ
 obtain⟨fs,kt,hfl,hfi⟩:=zjk (as:=[]) (vs:=[]) K.inv (ks:=ks) (ns:=(AE ks.length).map λi=>((κ i).headD 0)) (λi a ha=>by
  have hi:i<ks.length:=(Ab.mp ha).1;obtain⟨n,m,r,q,rn,rm,e1,_,_,e2,_⟩:=hcol i i hi hi;refine⟨n,r,?_,?_⟩
  .rw[Ap,BG hi,Do,e2];rfl
  .rw[<- e1];exact K.hk i a ha) (by simp)
 refine W.kat_kind (T:=.type "int") kt (by lia) (λv hv=>?_) rfl ⟨rfl,?_⟩
 .obtain⟨n,t,rfl⟩:=hfi v hv;exact .now
 have hl':(ks.map AA).length=vs.length:=by simp[hl]
 refine W.kat_run (G:=λp s'=>s'=s/\RK.Pm vs.length p) (Q:=λst' s'=>s'=s/\failedOf st'=none/\∃p:Array Nat,RK.Pm vs.length p/\p.size=vs.length/\arrOf st'=p.map (W.kas_item ((ks.map AA).toArray.zip vs.toArray))) hl' h2 h64
  (λp st' s' hp ha hf g=>⟨g.1,hf,p,g.2,hp,ha⟩) ?_
 refine RK.leaf_wp (n:=vs.length) (ans:=λi j=>HT.lexLt (κ i) (κ j)) (G:=RK.Pm vs.length) (λi j C hi hj hc=>?_) (λa ha=>⟨rfl,ha⟩) (RK.leaf_sort (by lia));unfold W.kas_ask;obtain⟨n,m,r,q,rn,rm,e1,e2,vc,e3,e4⟩:=hcol i j (by lia) (by lia);have hi':i<ks.length:=by lia
 have hj':j<ks.length:=by lia
 have k1:=K.hk i ks[i] (by simp[hi']);have k2:=K.hk j ks[j] (by simp[hj']);rw[e1]at k1;rw[e2]at k2;rw[show (ks.map AA).getD i C1=AA ks[i] by simp[hi'],show (ks.map AA).getD j C1=AA ks[j] by simp[hj']];obtain⟨its,rv,⟨o,ho,hcl,c,hd⟩,_⟩:=K.inv.tuple k1;obtain⟨its2,rv2,⟨o2,ho2,hcl2,c2,hd2⟩,_⟩:=K.inv.tuple k2;refine W.kat_lt ho hd ho2 hd2 ?_
 cases rv with
 |cons rx rr =>
  cases rv2 with
  |cons rx2 rr2 =>
   obtain⟨t1,rfl⟩:=rx;obtain⟨t2,rfl⟩:=rx2;have cs:=vc.vals rr rr2
   have hlen:∀{us vs:List Ad} {as bs:List Int},RK.Cols us vs as bs->us.length=vs.length:=λc=>by induction c with
    |nil=>rfl
    |cons _ _ ih=>simp[ih]
   simp only[Az,AQ,hlen cs,BI,decide_false];refine RK.kat_cols0 cs ?_
   rw[e3,e4]at hc;exact hc
end
section
variable {X:Cx}{k:Nat}{f:Addr}{fd:Bu}{ps:List Str}{sp:Sp}{pins:List (Addr×Obj)}{σ:St}{H0 H:Hp}{s:Ae}{D st l:Addr}{e:Nat}{κV:Nat->List V}{ks:List Addr}{E:Ad->Ae->Prop}{G:Array Nat->Prop}{xs:List V}{vs:List Ad}{Q:VK}
noncomputable def outV(xs:List V)(p:Array Nat):List V:=p.toList.map λi=>xs.getD i .non
theorem zij{xs:List V}{vs:List Ad}(r:Vals xs vs)(i:Nat)(hi:i<xs.length):RelV (xs.getD i .non) (vs.getD i C1):=by
 have hx:xs[i]?=some xs[i]:=by simp[hi]
 obtain⟨u,hu,ru⟩:=r.get hx;rw[Am,hx,Am,hu];exact ru
theorem zgT{xs:List V}{vs:List Ad}(r:Vals xs vs):∀(l:List Nat),(∀i∈l,i<xs.length)->Vals (l.map λi=>xs.getD i .non) (l.map λi=>vs.getD i C1)
 |[],_=>.nil
 |i::t,h=>.cons (zij r i (h i Aq)) (zgT r t λj hj=>h j (Ak _ hj))
theorem zgz{p:Array Nat}:(outV xs p).length=p.size:=by unfold outV;simp
theorem zk6{P:PySem.Fin -> Ae -> Prop}{so:SortSt}{out:List Ad}{ys:List V}(K:SK X pins σ H s D st e κV ks)(hks:ks.length <= sizeLine)(ho:(arrOf so).map (·.2)=out.toArray)(ry:Vals ys out)(hz:ys.length <= sizeLine)(hf:failedOf so=none)
  (h:∀s',Inv X pins σ (upd H D (.lst ys)) s'->P (.done (.ret .none)) s'):Ar (Aw X.prog X.w) X.A.in1.in1 (ksk_tail D false e (.ref st) so) P E s:=by
 obtain⟨c,hc⟩:=K.hs;have hzo:out.length<=sizeLine:=by rw[<- ry.length];exact hz
 have s1:=BW s.heap st (AG λ_=>(#[]:Array Ad));have hd1:(s.heap.update st (AG λ_=>(#[]:Array Ad))).get? D=some (Bm "list" #[] e):=(s1.2 D K.ne.symm).trans K.hd;have s2:=BW (s.heap.update st (AG λ_=>(#[]:Array Ad))) D (AG λ_=>out.toArray);obtain⟨c2,hc2⟩:∃c2,((s.heap.update st (AG λ_=>(#[]:Array Ad))).update D (AG λ_=>out.toArray)).get? D=some (Bm "list" out.toArray c2):=⟨_,Dq hd1 λ_=>out.toArray⟩;unfold ksk_tail
 try dsimp only
 rw[ho];refine Ac (listUpdate_at hc rfl ?_ (by simpa using hks) (AV _));refine Ac (Cs ?_);refine Ac (seqEpoch_at hd1 rfl ?_);simp only[BB,if_false];refine Ac (listUpdate_at hd1 rfl ?_ (AV _) (by simp;lia));rw[hf];simp only[bne_self_eq_false,BB,if_false];refine Aj (h _ ?_);have I1:Inv X pins σ H { s with heap:=s.heap.update st (AG λ_=>(#[]:Array Ad)) }:=K.inv.moved (t':=s.toks) K.fs (λb o hb e=>(s1.2 b λz=>hb (by simp[z])).trans e);exact I1.adopt (t':=s.toks) K.fd (λb u hb q=>(s2.2 b hb).trans q) ⟨_,hc2⟩ ⟨hz,out,c2,ry,hc2⟩
theorem zl7{P:PySem.Fin -> Ae -> Prop}(K:SK X pins σ H s D st e κV ks)(hl:ks.length=vs.length)(r:Vals xs vs)(hz:xs.length <= sizeLine)(hG:∀p, G p -> ∀i ∈ p.toList, i < xs.length)
  (h0:vs.length<2->G (List.toArray (AE vs.length))) (core:2<=vs.length->zhJ X G (ks.map AA) vs E s)
  (h:∀p s',G p->p.size=xs.length->Inv X pins σ (upd H D (.lst (outV xs p))) s'->P (.done (.ret .none)) s'):Ar (Aw X.prog X.w) X.A.in1.in1 (ksk_end D false vs.toArray e (.ref st) (ks.map AA).toArray) P E s:=by
 have hlx:xs.length=vs.length:=r.length;have hl':(ks.map AA).length=vs.length:=by simp[hl]
 have fin:∀(p:Array Nat) (so:SortSt),G p->p.size=vs.length->arrOf so=p.map (W.kas_item ((ks.map AA).toArray.zip vs.toArray))->failedOf so=none->Ar (Aw X.prog X.w) X.A.in1.in1 (ksk_tail D false e (.ref st) so) P E s:=λp so g hp ha hf =>
  zk6 K (by lia) (W.kat_snds hl' ha) (ys:=outV xs p) (zgT r _ (hG p g)) (by rw[zgz];lia) hf λs' I'=>h p s' g (by lia) I'
 unfold ksk_end
 try dsimp only
 simp only[BB,if_false]
 by_cases h2:vs.length<2
 .have h2':vs.toArray.size<2:=by simpa using h2
  rw[if_pos h2',if_pos h2'];refine Ac (Aj ?_);show Ar (Aw X.prog X.w) X.A.in1.in1 (pure ((),SortSt.mk' general' ((ks.map AA).toArray.zip vs.toArray) #[] 7 none) >>= _) P E s;refine Ac (Aj ?_)
  try dsimp only
  refine fin (List.toArray (AE vs.length)) _ (h0 h2) (by simp) ?_ rfl;have:=W.kas_range ((ks.map AA).toArray.zip vs.toArray);rw[show ((ks.map AA).toArray.zip vs.toArray).size=vs.length by simp[hl]]at this;exact this.symm
 .have h2':¬ vs.toArray.size<2:=by simpa using h2
  rw[if_neg h2',if_neg h2'];refine Ac (BP (core (by lia)) (λκ s0 hk=>?_) λ_ _ z=>z);obtain⟨rfl,hk⟩:=hk;refine Ac (BP hk (λr' s' hr=>?_) λ_ _ z=>z);obtain⟨rfl,hf,p,g,hp,ha⟩:=hr;obtain⟨⟨⟩,so⟩:=r'
  try dsimp only
  exact fin p so g hp ha hf
theorem zk7{P:PySem.Fin -> Ae -> Prop}(F:zhI X σ H0 f xs κV)
    (K:SK X pins σ H0 s D st e κV []) (r:Vals xs vs) (hz:xs.length<=sizeLine)
    (h:∀H' s' ks,ks.length=vs.length->Same H0 H'->SK X pins σ H' s' D st e κV ks->Ar (Aw X.prog X.w) X.A.in1.in1 (ksk_end D false vs.toArray e (.ref st) (ks.map AA).toArray) P E s') :
    Ar (Aw X.prog X.w) X.A.in1.in1 (ksk_rest D (.ref f) false vs.toArray e (.ref st)) P E s:=by
  have hlx:xs.length=vs.length:=r.length;unfold ksk_rest;refine Ac (wpAny_rule ?_);rw[List.forIn_toArray];refine Ac (BP (zht (vs:=vs) (λi s'=>∃H' ks,ks.length=i/\Same H0 H'/\SK X pins σ H' s' D st e κV ks) (λi x s1 hx hP=>?_) vs 0 s rfl (AV _) ⟨H0,[],rfl,Same.refl _,K⟩) (λ_ s' hd=>?_) λ_ _ z=>z)
  . obtain⟨H1,ks,hkl,hS,K1⟩:=hP;have hi:i<xs.length:=by rw[hlx];exact (Ab.mp hx).1
    have hxx:xs[i]?=some xs[i]:=by simp[hi]
    obtain⟨u,hu,ru⟩:=r.get hxx;rw[hx]at hu
    cases hu
    obtain⟨c,hc⟩:=K1.hs
    have I1:Inv X (pins ++ zdj [D, st] s1.heap) σ H1 s1 := K1.inv.pinned (λb hb => by
        rcases Ao.mp hb with rfl |hb
        . exact K1.fd
        . rw[AN.mp hb];exact K1.fs) (λb hb=>by
        rcases Ao.mp hb with rfl |hb
        . exact⟨_,K1.hd,zcs⟩
        . rw[AN.mp hb];exact⟨_,hc,zcs⟩)
    refine Ac (wpAny_attempt (BP (F _ i _ _ H1 _ hxx hS I1 ru) (λv s2 hv=>?_) λ_ _ hF=>hF.elim));obtain⟨y,H2,I2,ry,hS2,a,ey,ka⟩:=hv;subst ey
    cases (show v=AA a from ry)
    have p1:=I2.pin (D,Bm "list" #[] e) (Au _ (Au _ (zaU (by simp) K1.hd)));have p2:=I2.pin (st,Bm "list" (ks.map AA).toArray c) (Au _ (Au _ (zaU (by simp) hc)));have sb:=BW s2.heap st (AG (·.push (AA a)));have ea:(ks.map AA).toArray.push (AA a)=((ks++[a]).map AA).toArray:=by simp
    obtain⟨c2,hc2⟩:∃c2,(s2.heap.update st (AG (·.push (AA a)))).get? st=some (Bm "list" ((ks++[a]).map AA).toArray c2):=⟨_,by rw[<- ea];exact Dq p2.1 (·.push (AA a))⟩
    try dsimp only
    refine Ac (listUpdate_at p2.1 rfl ?_ (by simp;lia) (by simp;lia));refine Aj ⟨rfl,H2,ks++[a],by simp[hkl],hS.trans hS2,I2.unpinned.moved (t':=s2.toks) (K1.fs.again p2.2.1) (λb o hb e=>(sb.2 b λz=>hb (by simp[z])).trans e),K1.fd.again p1.2.1,K1.fs.again p2.2.1,K1.ne,(sb.2 D K1.ne.symm).trans p1.1,⟨c2,hc2⟩,λj b hj=>?_⟩;rcases A1 j ks.length with hjl |hjl
    . rw[As hjl]at hj;exact hS2.seqT (K1.hk j b hj)
    . rw[AD hjl]at hj
      have hj0:j-ks.length=0:=by have:=(Ab.mp hj).1;simp at this;lia
      rw[hj0]at hj
      cases AO hj
      rw[show j=i by lia];exact ka
  . obtain⟨H',ks,hkl,hS,K'⟩:=hd;obtain⟨c,hc⟩:=K'.hs
    try dsimp only
    refine Ac (listItems_at hc rfl ?_);exact h H' s' ks hkl hS K'
theorem zk5{P:PySem.Fin -> Ae -> Prop}{c0:Nat}(F:zhI X σ H0 f xs κV)
  (I:Inv X pins σ H0 s) (fb:FpOk X pins H0 D) (hd:s.heap.get? D=some (Bm "list" vs.toArray c0)) (r:Vals xs vs) (hz:xs.length<=sizeLine)
  (h:∀e H' s' ks st,ks.length=vs.length->Same H0 H'->SK X pins σ H' s' D st e κV ks->Ar (Aw X.prog X.w) X.A.in1.in1 (ksk_end D false vs.toArray e (.ref st) (ks.map AA).toArray) P E s') :
  Ar (Aw X.prog X.w) X.A.in1.in1 (ksk_tree D (.ref f) false) P E s:=by
 have hlx:xs.length=vs.length:=r.length;have s1:=BW s.heap D (AG λ_=>(#[]:Array Ad));obtain⟨e1,ho1⟩:∃e1,(s.heap.update D (AG λ_=>(#[]:Array Ad))).get? D=some (Bm "list" #[] e1):=⟨_,Dq hd λ_=>#[]⟩;have hDl:D<s.heap.objs.size:=An hd;unfold ksk_tree;refine Ac (listItems_at hd rfl ?_);refine Ac (listUpdate_at hd rfl ?_ (by simp;lia) (AV _));refine Ac (seqEpoch_at ho1 rfl ?_);refine Ac (wpAny_newTuple ?_ (by simp;lia));refine Ac (wpAny_newList ?_ (AV _));refine A9 ?_
 have I1:Inv X pins σ H0 { s with heap:=s.heap.update D (AG λ_=>(#[]:Array Ad)) }:=I.moved (t':=s.toks) fb (λb o hb e=>(s1.2 b λz=>hb (by simp[z])).trans e);have keep:∀b o,(s.heap.update D (AG λ_=>(#[]:Array Ad))).get? b=some o->(((s.heap.update D (AG λ_=>(#[]:Array Ad))).push (Bm "tuple" vs.toArray.toList.toArray 0)).push (Bm "list" #[] 0)).get? b=some o:=λb o q=>Ag _ (Ag _ q)
 have hsz:((s.heap.update D (AG λ_=>(#[]:Array Ad))).push (Bm "tuple" vs.toArray.toList.toArray 0)).objs.size=s.heap.objs.size+1:=by rw[size_push',Heap.size_update]
 have I2:Inv X pins σ H0 { s with heap:=((s.heap.update D (AG λ_=>(#[]:Array Ad))).push (Bm "tuple" vs.toArray.toList.toArray 0)).push (Bm "list" #[] 0) }:=I1.kept (t':=s.toks) keep;show Ar (Aw X.prog X.w) X.A.in1.in1 (ksk_rest D (.ref f) false vs.toArray _ (.ref ((s.heap.update D (AG λ_=>(#[]:Array Ad))).push (Bm "tuple" vs.toArray.toList.toArray 0)).objs.size)) P E { s with heap:=((s.heap.update D (AG λ_=>(#[]:Array Ad))).push (Bm "tuple" vs.toArray.toList.toArray 0)).push (Bm "list" #[] 0) };rw[hsz];have hss:(((s.heap.update D (AG λ_=>(#[]:Array Ad))).push (Bm "tuple" vs.toArray.toList.toArray 0)).push (Bm "list" #[] 0)).get? (s.heap.objs.size+1)=some (Bm "list" #[] 0):=by rw[<- hsz];exact AC _ rfl
 exact zk7 F ⟨I2,fb,I.fpOk (Ct _) (I.hok.fresh (Ct _)),Nat.ne_of_gt (Cu hDl),keep _ _ ho1,⟨0,by simpa using hss⟩,λi a ha=>by simp at ha⟩ r hz λH' s' ks a b c=>h _ H' s' ks _ a b c
end
section
variable {X:Cx}{k:Nat}{f:Addr}{fd:Bu}{ps:List Str}{sp:Sp}{pins:List (Addr×Obj)}{σ:St}{H0:Hp}{s:Ae}{l:Addr}{κV:Nat->List V}{G:Array Nat->Prop}{xs:List V}{Q:VK}
theorem zh9(F:zhI X σ H0 f xs κV)
  (hl:SqL X.K H0 l xs) (hG:∀p,G p->∀i∈p.toList,i<xs.length) (h0:xs.length<2->G (List.toArray (AE xs.length)))
  (core:∀{vs:List Ad} {ks:List Addr} {H':Hp} {s':Ae} {D st:Addr} {e:Nat},Vals xs vs->SK X pins σ H' s' D st e κV ks->ks.length=vs.length->2<=vs.length->zhJ X G (ks.map AA) vs X.xe s')
  (hQ:∀p D H',G p->p.size=xs.length->H0 D=none->Same H0 H'->H' D=some (.lst (outV xs p))->Q (.ref D) H') (I:Inv X pins σ H0 s) :
  Ar (Aw X.prog X.w) X.A (call (.builtin "sorted") [.ref l] [(Bf "key",.ref f)]) (EP X pins σ Q) X.xe s:=by
 obtain⟨vs,r,pl,hz⟩:=I.list hl;have hlx:xs.length=vs.length:=r.length;refine call_function_entry_kw kind_sorted plain_sorted entry_sorted (ksk_s1 _ _) ?_
 unfold Builtin.«sorted»;refine Ac (m:=checkCount "sorted" 1 1 _) (Aj ?_);refine Ac (collect_list pl.isList ?_ (by first |lia | (rw[Az];lia) | (simp;lia)));refine Ac (wpAny_newList ?_ (by first |lia | (rw[Az];lia) | (simp;lia)));have hsz:((s.heap.push (Bm "list" #[] 0)).update s.heap.objs.size (AG (·++vs.toArray))).objs.size=s.heap.objs.size+1:=by rw[Heap.size_update,size_push']
 have hoL:(((s.heap.push (Bm "list" #[] 0)).update s.heap.objs.size (AG (·++vs.toArray))).push (Bm "list" vs.toArray 0)).get? (s.heap.objs.size+1)=some (Bm "list" vs.toArray 0):=by rw[<- hsz];exact AC _ rfl
 have keep:∀b o,s.heap.get? b=some o->(((s.heap.push (Bm "list" #[] 0)).update s.heap.objs.size (AG (·++vs.toArray))).push (Bm "list" vs.toArray 0)).get? b=some o:=λb o q=>by have hlt:b<s.heap.objs.size:=An q;rw[Heap.get?_push_ne _ _ _ (by rw[hsz];exact At (Cu hlt)),Heap.get?_update_ne _ _ _ _ (At hlt),Heap.get?_push_ne _ _ _ (At hlt)];exact q
 show Ar _ _ _ _ _ { s with heap:=((s.heap.push (Bm "list" #[] 0)).update s.heap.objs.size (AG (·++vs.toArray))).push (Bm "list" vs.toArray 0) };rw[hsz];refine Ac (A9 (wpAny_call_entry_kw slot_list_sort ⟨_,hoL,rfl⟩ entry_list_sort ?body (ksk_l1 _ _)))
 case body =>
  show Ar (Aw X.prog X.w) X.A.in1.in1 (Builtin.«list.sort» ⟨[.ref (s.heap.objs.size+1)],[(Bf "key",.ref f)]⟩) _ _ _;rw[ksk_t1];have I1:Inv X pins σ H0 { s with heap:=((s.heap.push (Bm "list" #[] 0)).update s.heap.objs.size (AG (·++vs.toArray))).push (Bm "list" vs.toArray 0) }:=I.kept (t':=s.toks) keep;have hDn:H0 (s.heap.objs.size+1)=none:=I.hok.fresh (Ct _);refine zk5 F I1 (I.fpOk (Ct _) hDn) hoL r hz λe H' s' ks st hks hS K=>?_
  refine zl7 K hks r hz hG (λh2=>by rw[<- hlx];exact h0 (by lia)) (core r K hks) λp s2 g hp I2=>⟨_,rfl,?_⟩
  refine Aj ⟨_,rfl,.ref (s.heap.objs.size+1),_,I2,rfl,hQ p _ _ g hp hDn (λb o q=>?_) zaa⟩;rw[zal (zao q hDn)];exact hS b o q
end
section
variable {X:Cx}{x:Str}{p pos kp kpos:Pos}{e:Expr}{te:TE}{k:Nat}{f:Addr}{fd:Bu}{ps:List Str}{sp:Sp}{fn:Str}
noncomputable def tMinK(K:W.Frag)(te:TE)(sp:Sp):TE:=λσ H Q=>te σ H λv H1=>∃l xs,∃ κ:Nat->List Int,[v]=[V.ref l]/\SqL K H1 l xs/\0<xs.length /\
 (∀i x H2,xs[i]?=some x->Same H1 H2->sp [x] H2 (λv H'=>Same H2 H'/\∃a,v=.ref a/\SqT K H' a ((κ i).map V.int)) E0)/\∀i x H',xs[i]?=some x->Least κ xs.length i->Same H1 H'->Q x H'
theorem zlg (F:FnOk X.prog X.w X.K X.mg X.base CX0 k f fd ps sp) (hr:Room (k + 1) X.A) (hb:Binds X.K fd ps []) (hg:Gl X "min") (hm:X.mg "min" = none) (hgf:Gl X fn) (hmf:X.mg fn=some (.ref f)) (he:PE X e te)
  (hdb:(fn == ("__debug__" : Str))=false:=by decide) (hse:AK [e] X.env=[(false,eval e X.env)]:=by rfl) (hh:X.calm=true:=by rfl)
  (hall:(CH pos (BQ [⟨some "key",.Name fn kp,kpos⟩] X.env)).all (·.1.isSome)=true:=by rfl) (hkw:(CH pos (BQ [⟨some "key",.Name fn kp,kpos⟩] X.env)).any (·.1.isNone)=false:=by rfl)
  (hks:(CH pos (BQ [⟨some "key",.Name fn kp,kpos⟩] X.env)).filterMap (·.1)=[Bf "key"]:=by rfl) :
  PE X (.Call (.Name "min" p) [e] [⟨some "key",.Name fn kp,kpos⟩] pos) (tMinK X.K te sp):=by
 intro pins s σ H Q I h;refine Bj (zbO I hg hm boot_min ?_ (by decide) (by decide))
 refine callWith_kw (thn (zah he zab (hs:=hse) pos pins s σ H (λvs H1=>∃l xs,∃ κ:Nat->List Int,vs=[V.ref l]/\SqL X.K H1 l xs/\0<xs.length /\
  (∀i x H2,xs[i]?=some x->Same H1 H2->sp [x] H2 (λv H'=>Same H2 H'/\∃a,v=.ref a/\SqT X.K H' a ((κ i).map V.int)) E0)/\∀i x H',xs[i]?=some x->Least κ xs.length i->Same H1 H'->Q x H') I ?_) λus s1 ⟨vs,H1,I1,r,q⟩=>?_) (by rw[hse];rfl) (by rw[hse];rfl) hall hkw
 .show te σ H _;exact h
 .obtain⟨l,xs,κ,rfl,hq,hne,turn,hQ⟩:=q;obtain⟨u,rfl,ru⟩:=Vals.one r
  cases (show u=AA l from ru)
  refine thn (zgw (nm:=some "key") (kpos:=kpos) (ze2 (v:=.ref f) hgf hmf rfl hdb) ziN pos pins s1 σ H1 (λzs H2=>zs=[.ref f]/\H2=H1) I1 ⟨rfl,rfl⟩) λws s2 ⟨zs,H2,I2,rz,q2⟩=>?_
  obtain⟨rfl,rfl⟩:=q2;obtain⟨u2,rfl,ru2⟩:=Vals.one rz
  cases (show u2=AA f from ru2)
  rw[hks];exact zjC (I1.ok.hd hh) F hr hb turn hq hne hQ I2
theorem zj7{xs:List V}{p:Array Nat}(g:RK.Pm xs.length p):(outV xs p).Perm xs:=by
 have h1:p.toList.Perm (AE xs.length):=by have:=Array.perm_iff_toList_perm.mp g;simpa using this
 have h2:((AE xs.length).map λi=>xs.getD i V.non)=xs:=by
  apply List.ext_getElem
  .simp
  .intro i h1 h2;simp[show i<xs.length by simpa using h1]
 have h3:=h1.map λi=>xs.getD i V.non
 rw[h2]at h3;exact h3
noncomputable def zl1(K:W.Frag)(te:TE)(sp:Sp):TE:=λσ H Q=>te σ H λv H1=>∃l xs,∃ κV:Nat->List V,∃ κ:Nat->List Int,[v]=[V.ref l]/\SqL K H1 l xs/\xs.length<64 /\
 (∀i x H2,xs[i]?=some x->Same H1 H2->sp [x] H2 (λv H'=>Same H2 H'/\∃a,v=.ref a/\SqT K H' a (κV i)) E0) /\
 (∀i j,i<xs.length->j<xs.length->∃n m r q rn rm,κV i=.int n::r/\κV j=.int m::q/\VCols r q rn rm/\κ i=n::rn/\κ j=m::rm)/\∀ys D H',ys.Perm xs->H1 D=none->Same H1 H'->H' D=some (.lst ys)->Q (.ref D) H'
theorem zj8 (F:FnOk X.prog X.w X.K X.mg X.base CX0 k f fd ps sp) (hr:Room (k + 1 + 1) X.A) (hb:Binds X.K fd ps []) (hg:Gl X "sorted") (hm:X.mg "sorted" = none) (hgf:Gl X fn) (hmf:X.mg fn=some (.ref f)) (he:PE X e te)
  (hdb:(fn == ("__debug__" : Str))=false:=by decide) (hse:AK [e] X.env=[(false,eval e X.env)]:=by rfl) (hh:X.calm=true:=by rfl)
  (hall:(CH pos (BQ [⟨some "key",.Name fn kp,kpos⟩] X.env)).all (·.1.isSome)=true:=by rfl) (hkw:(CH pos (BQ [⟨some "key",.Name fn kp,kpos⟩] X.env)).any (·.1.isNone)=false:=by rfl)
  (hks:(CH pos (BQ [⟨some "key",.Name fn kp,kpos⟩] X.env)).filterMap (·.1)=[Bf "key"]:=by rfl) :
  PE X (.Call (.Name "sorted" p) [e] [⟨some "key",.Name fn kp,kpos⟩] pos) (zl1 X.K te sp):=by
 intro pins s σ H Q I h;refine Bj (zbO I hg hm boot_sorted ?_ (by decide) (by decide));refine callWith_kw (thn (zah he zab (hs:=hse) pos pins s σ H (λvs H1=>∃l xs,∃ κV:Nat->List V,∃ κ:Nat->List Int,vs=[V.ref l]/\SqL X.K H1 l xs/\xs.length<64 /\
 (∀i x H2,xs[i]?=some x->Same H1 H2->sp [x] H2 (λv H'=>Same H2 H'/\∃a,v=.ref a/\SqT X.K H' a (κV i)) E0) /\
 (∀i j,i<xs.length->j<xs.length->∃n m r q rn rm,κV i=.int n::r/\κV j=.int m::q/\VCols r q rn rm/\κ i=n::rn/\κ j=m::rm)/\∀ys D H',ys.Perm xs->H1 D=none->Same H1 H'->H' D=some (.lst ys)->Q (.ref D) H') I ?_) λus s1 ⟨vs,H1,I1,r,q⟩=>?_) (by rw[hse];rfl) (by rw[hse];rfl) hall hkw
 .show te σ H _;exact h
 .obtain⟨l,xs,κV,κ,rfl,hq,h64,turn,hcol,hQ⟩:=q;obtain⟨u,rfl,ru⟩:=Vals.one r
  cases (show u=AA l from ru)
  refine thn (zgw (nm:=some "key") (kpos:=kpos) (ze2 (v:=.ref f) hgf hmf rfl hdb) ziN pos pins s1 σ H1 (λzs H2=>zs=[.ref f]/\H2=H1) I1 ⟨rfl,rfl⟩) λws s2 ⟨zs,H2,I2,rz,q2⟩=>?_
  obtain⟨rfl,rfl⟩:=q2;obtain⟨u2,rfl,ru2⟩:=Vals.one rz
  cases (show u2=AA f from ru2)
  rw[hks];refine zh9 (G:=RK.Pm xs.length) (zmo F hr hb turn) hq (λp hp i hi=>?_) (λ_=>Array.Perm.refl _) (λ{vs ks H' s' D st e} r' K' hks h2=>?_) (λp D H' g hp hD hS hH=>hQ _ D H' (zj7 g) hD hS hH) I2
  .have:=hp.mem_iff.mp (show i∈p by simpa using hi);simpa using this
  .have hlx:xs.length=vs.length:=r'.length;rw[hlx];exact zmr K' hks h2 (by lia) λi j hi hj=>hcol i j (by lia) (by lia)
end
end L2
namespace TS
open PySem PyProof.Rows
structure LtOk (M:Model) (A:AL) (E:Ad->Ae->Prop) (s:Ae) (kd:Ce) (S:Keyed->Prop) (L:Keyed->Keyed->Bool):Prop where
 lt:∀x y,S x->S y->∀(st:SortSt) (Q:Option Bool->SortSt->Prop),kindOf st=kd->Q (some (L x y)) st->wpS M A E s (lt' x y) Q st
 tr:∀x y z,S x->S y->S z->L y x=false->L z y=false->L z x=false
 as:∀x y,S x->S y->L x y=true->L y x=false
section
variable {M:Model}{A:AL}{E:Ad->Ae->Prop}{s:Ae}{kd:Ce}{S:Keyed->Prop}{L:Keyed->Keyed->Bool}
end
end TS
namespace TS
section
variable {α:Type}{le:α->α->Prop}
structure MI (le:α->α->Prop) (a b out:List α) (ia ib:Nat):Prop where
 ha:ia<=a.length
 hb:ib<=b.length
 perm:(out++a.drop ia++b.drop ib).Perm (a++b)
 sorted:out.Pairwise le
 lea:∀x∈out,∀y∈a.drop ia,le x y
 leb:∀x∈out,∀y∈b.drop ib,le x y
end
end TS
namespace TS
open PySem PyProof.Rows
noncomputable abbrev leOf(L:Keyed->Keyed->Bool):Keyed->Keyed->Prop:=λx y=>L y x=false
section
variable {M:Model}{A:AL}{E:Ad->Ae->Prop}{s:Ae}{kd:Ce}{S:Keyed->Prop}{L:Keyed->Keyed->Bool}
structure Two (S:Keyed->Prop) (L:Keyed->Keyed->Bool) (a b:Array Keyed):Prop where
 sa:a.toList.Pairwise (leOf L)
 sb:b.toList.Pairwise (leOf L)
 Sa:∀x∈a.toList,S x
 Sb:∀x∈b.toList,S x
variable {a b:Array Keyed}{out:Array Keyed}{ia ib:Nat}
end
end TS
set_option maxHeartbeats 8000000
namespace TS
open PySem PyProof.Rows
section
variable {M:Model}{A:AL}{E:Ad->Ae->Prop}{s:Ae}{kd:Ce}{S:Keyed->Prop}{L:Keyed->Keyed->Bool}{a b out:Array Keyed}{ia ib:Nat}
noncomputable abbrev LH:=Option (Array Keyed)×Array Keyed×Nat×Nat×Nat×Nat×Nat
variable {Q:ForInStep LH->SortSt->Prop}{z:SortSt}{N mg ac bc:Nat}{x y:Keyed}
end
section
variable {M:Model}{A:AL}{E:Ad->Ae->Prop}{s:Ae}{kd:Ce}{S:Keyed->Prop}{L:Keyed->Keyed->Bool}{a b:Array Keyed}
end
end TS
set_option maxHeartbeats 8000000
namespace TS
open PySem PyProof.Rows
section
variable {α:Type}{le:α->α->Prop}
structure MJ (le:α->α->Prop) (a b r:List α) (na nb:Nat):Prop where
 ha:na<=a.length
 hb:nb<=b.length
 perm:(a.take na++b.take nb++r).Perm (a++b)
 sorted:r.Pairwise le
 lea:∀x∈a.take na,∀y∈r,le x y
 leb:∀x∈b.take nb,∀y∈r,le x y
end
end TS
set_option maxHeartbeats 8000000
namespace TS
open PySem PyProof.Rows
section
variable {M:Model}{A:AL}{E:Ad->Ae->Prop}{s:Ae}{kd:Ce}{S:Keyed->Prop}{L:Keyed->Keyed->Bool}{a b out:Array Keyed}{na nb:Nat}
end
end TS
set_option maxHeartbeats 8000000
namespace TS
open PySem PyProof.Rows
section
variable {M:Model}{A:AL}{E:Ad->Ae->Prop}{s:Ae}{kd:Ce}{S:Keyed->Prop}{L:Keyed->Keyed->Bool}{a b out:Array Keyed}{na nb:Nat}
end
end TS
set_option maxHeartbeats 8000000
namespace TS
open PySem PyProof.Rows
section
variable {M:Model}{A:AL}{E:Ad->Ae->Prop}{s:Ae}{kd:Ce}{S:Keyed->Prop}{L:Keyed->Keyed->Bool}{a b out:Array Keyed}{na nb:Nat}
noncomputable abbrev RH:=Option (Array Keyed)×Nat×Nat×Array Keyed×Nat×Nat×Nat
variable {Q:ForInStep RH->SortSt->Prop}{z:SortSt}{N mg ac bc:Nat}{x y:Keyed}
end
section
variable {M:Model}{A:AL}{E:Ad->Ae->Prop}{s:Ae}{kd:Ce}{S:Keyed->Prop}{L:Keyed->Keyed->Bool}{a b:Array Keyed}
end
end TS
namespace TS
open PySem PyProof.Rows
section
variable {M:Model}{A:AL}{E:Ad->Ae->Prop}{s:Ae}{kd:Ce}{S:Keyed->Prop}{L:Keyed->Keyed->Bool}
noncomputable def Seg(L:Keyed->Keyed->Bool)(a:Array Keyed)(lo n:Nat):Prop:=∀(i j:Nat) x y,i<=j->j<n->a[lo+i]?=some x->a[lo+j]?=some y->L y x=false
structure SB (kd:Ce) (S:Keyed->Prop) (st0 st:SortSt) (lo hi:Nat):Prop where
 kind:kindOf st=kd
 pend:pendingOf st=pendingOf st0
 fail:failedOf st=failedOf st0
 perm:(arrOf st).Perm (arrOf st0)
 out:∀k:Nat,k<lo∨hi<=k->(arrOf st)[k]?=(arrOf st0)[k]?
 all:∀(k:Nat) x,(arrOf st)[k]?=some x->S x
end
end TS
namespace TS
open PySem PyProof.Rows
section
variable {M:Model}{A:AL}{E:Ad->Ae->Prop}{s:Ae}{kd:Ce}{S:Keyed->Prop}{L:Keyed->Keyed->Bool}
end
end TS
set_option maxHeartbeats 8000000
namespace TS
open PySem PyProof.Rows
noncomputable def wr(a:Array Keyed)(o:Nat)(l:List Keyed)(k:Nat):Array Keyed:=(l.zipIdx k).foldl (λa (p:Keyed×Nat)=>a.setIfInBounds (o+p.2) p.1) a
section
variable {M:Model}{A:AL}{E:Ad->Ae->Prop}{s:Ae}{kd:Ce}{S:Keyed->Prop}{L:Keyed->Keyed->Bool}
structure SM (kd:Ce) (S:Keyed->Prop) (L:Keyed->Keyed->Bool) (st0 st:SortSt) (pd:Array (Nat×Nat×Nat)) (lo n:Nat):Prop where
 kind:kindOf st=kd
 pend:pendingOf st=pd
 fail:failedOf st=none
 perm:(arrOf st).Perm (arrOf st0)
 out:∀k:Nat,k<lo∨lo+n<=k->(arrOf st)[k]?=(arrOf st0)[k]?
 all:∀(k:Nat) x,(arrOf st)[k]?=some x->S x
 seg:Seg L (arrOf st) lo n
end
end TS
set_option maxHeartbeats 8000000
namespace TS
open PySem PyProof.Rows
noncomputable abbrev Run:=Nat×Nat×Nat
section
variable {M:Model}{A:AL}{E:Ad->Ae->Prop}{s:Ae}{kd:Ce}{S:Keyed->Prop}{L:Keyed->Keyed->Bool}
noncomputable def Runs(L:Keyed->Keyed->Bool)(a:Array Keyed):List Run->Nat->Nat->Prop
 |[],x,y=>x=y
 |r::l,x,y=>r.1=x/\1<=r.2.1/\Seg L a r.1 r.2.1/\Runs L a l (x+r.2.1) y
structure PD (kd:Ce) (S:Keyed->Prop) (L:Keyed->Keyed->Bool) (a0:Array Keyed) (st:SortSt) (lo:Nat):Prop where
 kind:kindOf st=kd
 fail:failedOf st=none
 perm:(arrOf st).Perm a0
 all:∀(k:Nat) x,(arrOf st)[k]?=some x->S x
 runs:Runs L (arrOf st) (pendingOf st).toList 0 lo
end
end TS
namespace L2
open PySem PySem.Spec PyProof.Rows
section
variable {X:Cx}{pins:List (Addr×Obj)}{σ:St}{H:Hp}{s:Ae}{D st:Addr}{e:Nat}{κV:Nat->List V}{ks:List Addr}{E:Ad->Ae->Prop}
end
section
variable {X:Cx}{x:Str}{p pos kp kpos:Pos}{e:Expr}{te:TE}{k:Nat}{f:Addr}{fd:Bu}{ps:List Str}{sp:Sp}{fn:Str}
end
section
variable {prog:AH}{w:AZ}{A:AL}{R:Result->Ae->Prop}{s:Ae}
theorem zdp{elt:Expr}{c0:Comprehension}{target iter:Expr}{ifs:List Expr}{rest:List Comprehension}{scope:Scope}{pos:Pos}{it acc:Ad}{env:Env}
  (h0:BY (Aw prog w) A (.compLoop (.ListComp elt (c0::⟨target,iter,ifs,0⟩::rest) scope pos) 1 it acc env) R s)
  (h:Ar (Aw prog w) A (pyIter it) (λit' s'=>BY (Aw prog w) A (.compLoop (.ListComp elt (c0::⟨target,iter,ifs,0⟩::rest) scope pos) 1 it' acc env) R s') (notedBy (Aw prog w) A env λx s'=>R (.error x) s') s) :
  BY (Aw prog w) A (.compStart (.ListComp elt (c0::⟨target,iter,ifs,0⟩::rest) scope pos) 1 it acc env) R s:=by
 refine codeAny_of_tree ?_
 show Ar _ _ ((compStart (.ListComp elt (c0::⟨target,iter,ifs,0⟩::rest) scope pos) 1 it acc env).onRaise (λx=>do noteFrame x env;standAt theWindowsPlace)) _ _ s;refine wpAny_notedAt ?_
 unfold compStart;show Ar _ _ (ask >>= _) _ _ s;refine Ac (wpAny_askSetting (wpAny_ite ?_));split
 .first
   |exact Aj (And.intro rfl h0)
   |exact Ac (Aj (Aj (And.intro rfl h0)))
 .refine Ac (wpAny_rule ?_);show Ar _ _ (standAt iter.pos >>= _) _ _ s;exact Ac (Cw (Ac (BP h (λit' s' h'=>Aj (And.intro rfl h')) λ_ _ z=>z)))
end
section
variable {X:Cx}{osc:Scope}{N:List Str}{sc:Scope}{N':List Str}{sel:List (Option Nat)}{pos:Pos}{elt kx vx tg iter tg2 iter2:Expr}{ifs ifs2:List Expr}{wi wi2:TI}{g g2:TG}{tt tt2:TT}{te tk tv:TE}
noncomputable def tNest(wi2:TI)(g2:TG)(tb:TS):TS:=λD σ H=>wi2 σ H λJ H1=>zbV J g2 tb { nx:=D.nx,rt:=λ_ _=>False } σ H1
theorem zlj{Y:Cx}{p:Addr}(hc:Y.calm=true)(hx:Y.xe=λ_ _ => False)(hi2:PI Y tg2 iter2 wi2)(hg2:PG Y tg2 g2)(ht2:PTs Y ifs2 tt2)(he:PE Y elt te)(hs2:∀x, Bc iter2 Y.env x=pure x) :
  PB Y (do
   let x <- eval iter2 Y.env
   standAt iter2.pos
   let x <- Bc iter2 Y.env x
   let _ <- runOwn (.compStart (.ListComp elt [⟨tg,iter,ifs,0⟩,⟨tg2,iter2,ifs2,0⟩] sc pos) 1 (<- C8 [x] (pyIter x)) (.ref p) Y.env) Y.env) (tNest wi2 g2 (tIfs tt2 (zbW p te))):=by
 intro pins s σ H D I h;refine Ac (thn (hi2 pins s σ H _ I h) λv s1 h1=>?_);refine Ac (Cw ?_);rw[hs2];refine Ac (Aj ?_);refine Ac (A9 (thn h1 λitv s2 h2=>?_));obtain⟨it,fp,tn,J,H2,e,I2,T,st2,f2,h2⟩:=h2;subst e
 have loop:BY (Aw Y.prog Y.w) Y.A (.compLoop (.ListComp elt [⟨tg,iter,ifs,0⟩,⟨tg2,iter2,ifs2,0⟩] sc pos) 1 (.ref it) (.ref p) Y.env) (λr s'=>match r with |.ok f=>Ar (Aw Y.prog Y.w) Y.A (pure ()) (λ_ s'=>∃ σ' H',Inv Y pins σ' H' s'/\D.nx σ' H') Y.xe s' |.error e=>cameBackBy (Aw Y.prog Y.w) Y.A Y.env Y.xe e s') s2 :=
  zcn (X:=Y) (p:=iter2.pos) (inner:=do let _ <- call (.builtin "list.append") [.ref p,<- eval elt Y.env]) rfl rfl rfl (λB {α t Q E s} h w=>by subst h;exact w) hc hx hg2 ht2 (zgy he) I2 T st2 f2 h2 λfl s' ⟨σ',H',I',_,q⟩=>Aj ⟨σ',H',I',q⟩
 refine Ac (wpAny_runOwn (zdp loop (T.self _ 0 _ _ _ st2 loop)))
theorem zf0{env:Env}{it p:Addr} : compTurn (.ListComp elt [⟨tg, iter, ifs, 0⟩, ⟨tg2, iter2, ifs2, 0⟩] sc pos) 0 (.ref it) (.ref p) env=(do
   standAt iter.pos
   match <- pyNext (.ref it) with
   |none=>pure (.done .next)
   |some v =>
    Dl tg (.ref it) v
    assign tg env v
    let mut ok:=true
    for c in ifs do
     if ok then ok <- isTrue c env (eval c env)
    if ok then
     (do
      let x <- eval iter2 env
      standAt iter2.pos
      let x <- Bc iter2 env x
      let _ <- runOwn (.compStart (.ListComp elt [⟨tg,iter,ifs,0⟩,⟨tg2,iter2,ifs2,0⟩] sc pos) 1 (<- C8 [x] (pyIter x)) (.ref p) env) env)
    again (.compLoop (.ListComp elt [⟨tg,iter,ifs,0⟩,⟨tg2,iter2,ifs2,0⟩] sc pos) 0 (.ref it) (.ref p) env)):=by
 unfold compTurn;simp only[bind_assoc,pure_bind];rfl
theorem zeD{it:Addr}{fp:List Addr}{tn:Nat -> Heap -> Prop}{J:It}(T:Turn X.prog X.w X.K tg J fp it tn)(hc:X.calm=true)(hg:InBlk X sc N' λY => PG Y tg g)(ht:InBlk X sc N' λY => PTs Y ifs tt)
  (hi2:InBlk X sc N' λY=>PI Y tg2 iter2 wi2) (hg2:InBlk X sc N' λY=>PG Y tg2 g2) (ht2:InBlk X sc N' λY=>PTs Y ifs2 tt2) (he:InBlk X sc N' λY=>PE Y elt te) (hs2:∀cl C x,Bc iter2 (BZ sc cl C X.env) x=pure x) :
  ∀cl C s0 H0 ex p pins s σ H Dn R,Inv (blk X sc cl C N' s0 H0 ex) pins σ H s->tn 0 s.heap->(∀b∈fp,FpOk (blk X sc cl C N' s0 H0 ex) pins H b)->zbV J g (tIfs tt (tNest wi2 g2 (tIfs tt2 (zbW p te)))) Dn σ H ->
   (∀fl s',(∃ σ' H',Inv (blk X sc cl C N' s0 H0 ex) pins σ' H' s'/\(∀b∈fp,H' b=none)/\Dn.nx σ' H')->R (.ok fl) s')->BY (Aw X.prog X.w) X.A (.compLoop (.ListComp elt [⟨tg,iter,ifs,0⟩,⟨tg2,iter2,ifs2,0⟩] sc pos) 0 (.ref it) (.ref p) (BZ sc cl C X.env)) R s :=
 λcl C s0 H0 ex p pins s σ H Dn R I st f W hR =>
  zcn (X:=blk X sc cl C N' s0 H0 ex) (p:=iter.pos) (inner:=do
   let x <- eval iter2 (BZ sc cl C X.env)
   standAt iter2.pos
   let x <- Bc iter2 (BZ sc cl C X.env) x
   let _ <- runOwn (.compStart (.ListComp elt [⟨tg,iter,ifs,0⟩,⟨tg2,iter2,ifs2,0⟩] sc pos) 1 (<- C8 [x] (pyIter x)) (.ref p) (BZ sc cl C X.env)) (BZ sc cl C X.env))
   rfl rfl zf0 (λB {α t Q E s} h w=>by subst h;exact w) hc rfl (hg _ _ _ _ _) (ht _ _ _ _ _) (zlj (Y:=blk X sc cl C N' s0 H0 ex) hc rfl (hi2 _ _ _ _ _) (hg2 _ _ _ _ _) (ht2 _ _ _ _ _) (he _ _ _ _ _) (hs2 cl C)) I T st f W hR
noncomputable def zk3(wi:TI)(sel:List (Option Nat))(g:TG)(tt:TT)(wi2:TI)(g2:TG)(tt2:TT)(te:TE):TE:=λσ H Q=>wi σ H λJ H1=>∀p,H1 p=none ->
 zbV J g (tIfs tt (tNest wi2 g2 (tIfs tt2 (zbW p te)))) { nx:=λ_ H'=>Q (.ref p) H',rt:=λ_ _=>False } (selSt sel σ) (upd H1 p (.lst []))
noncomputable def zk9(wi:TI)(sel:List (Option Nat))(g:TG)(tt:TT)(wi2:TI)(g2:TG)(tt2:TT)(te:TE)(i:Nat):TS:=λD σ H=>wi σ H λJ H1=>∀p,H1 p=none ->
 zbV J g (tIfs tt (tNest wi2 g2 (tIfs tt2 (zbW p te)))) { nx:=λ_ H'=>D.nx (σ.set i (some (.ref p))) H',rt:=λ_ _=>False } (selSt sel σ) (upd H1 p (.lst []))
theorem zfM(B:BlkOk osc N sc N' sel)(hi:PI X tg iter wi)(hg:InBlk X sc N' λY => PG Y tg g)(ht:InBlk X sc N' λY => PTs Y ifs tt)(hi2:InBlk X sc N' λY => PI Y tg2 iter2 wi2)(hg2:InBlk X sc N' λY => PG Y tg2 g2)(ht2:InBlk X sc N' λY => PTs Y ifs2 tt2)(he:InBlk X sc N' λY => PE Y elt te)(hs2:∀cl C x, Bc iter2 (BZ sc cl C X.env) x=pure x)
  (ho:X.env.scope=osc:=by rfl) (hN:X.N=N:=by rfl) (hc:X.calm=true:=by rfl) (hs:∀x,Bc iter X.env x=pure x:=by intro _;rfl) :
  PE X (.ListComp elt [⟨tg,iter,ifs,0⟩,⟨tg2,iter2,ifs2,0⟩] sc pos) (zk3 wi sel g tt wi2 g2 tt2 te):=by
 intro pins s σ H Q I h;obtain⟨cl,Cl⟩:=zf2 I.ok B ho;rw[eval_ListComp];refine BJ (use:=none) rfl hs Cl.run B.kind B.names (thn (hi pins s σ H _ I h) λv s1 h1=>thn h1 λitv s2 h2=>?_);obtain⟨it,fp,tn,J,H2,e,I2,T,st2,f2,h2⟩:=h2;subst e
 refine Bi (zco (e:=.ListComp elt [⟨tg,iter,ifs,0⟩,⟨tg2,iter2,ifs2,0⟩] sc pos) (inner:=λ_ _=>pure ()) (D:=λp=>{ nx:=λ_ H'=>Q (.ref p) H',rt:=λ_ _=>False }) (tb:=λp=>tNest wi2 g2 (tIfs tt2 (zbW p te))) (use:=none) B ho hN hc (λacc env R s a b=>B7 a b)
  (zeD (iter:=iter) (pos:=pos) T hc hg ht hi2 hg2 ht2 he hs2) I2 T st2 f2 zdZ rfl (h2 _ (I2.hok.fresh (Ai _))) (λC H' s' I3 fC hn hq=>?_) s2.toks cl Cl X.xe)
 obtain⟨m,hn⟩:=hn;obtain⟨_,hq⟩:=hq;exact⟨m,hn,λh' hs'=>⟨.ref s2.heap.objs.size,H',I3.let_go fC hs',rfl,hq⟩⟩
theorem zdR{i:Nat}{x:Str}{px spos:Pos}(B:BlkOk osc N sc N' sel)(hnd:X.N.Nodup)(hi':X.N[i]? = some x)(hx:Loc X.env.scope x)(hi:PI X tg iter wi)(hg:InBlk X sc N' λY => PG Y tg g)(ht:InBlk X sc N' λY => PTs Y ifs tt)(hi2:InBlk X sc N' λY => PI Y tg2 iter2 wi2)(hg2:InBlk X sc N' λY => PG Y tg2 g2)(ht2:InBlk X sc N' λY => PTs Y ifs2 tt2)(he:InBlk X sc N' λY => PE Y elt te)(hs2:∀cl C x, Bc iter2 (BZ sc cl C X.env) x=pure x)
  (hsw:swapsWith (.ListComp elt [⟨tg,iter,ifs,0⟩,⟨tg2,iter2,ifs2,0⟩] sc pos) (some (.Name x px)) spos.line X.env=pure true:=by rfl)
  (ho:X.env.scope=osc:=by rfl) (hN:X.N=N:=by rfl) (hc:X.calm=true:=by rfl) (hs:∀x,Bc iter X.env x=pure x:=by intro _;rfl)
  (hf:X.fn x=true∨X.env.scope.names.lookup x=some .local:=by first |exact .inl rfl |exact .inr rfl |assumption) :
  PS X (.Assign [.Name x px] (.ListComp elt [⟨tg,iter,ifs,0⟩,⟨tg2,iter2,ifs2,0⟩] sc pos) spos) (zk9 wi sel g tt wi2 g2 tt2 te i):=by
 intro pins s σ H D I h;obtain⟨cl,Cl⟩:=zf2 I.ok B ho;rw[exec_Assign_Name_used _ _ _ _ hsw];refine Ac (Cw (Ac ?_));show Ar _ X.A (do let _ <- comprehension (.ListComp elt [⟨tg,iter,ifs,0⟩,⟨tg2,iter2,ifs2,0⟩] sc pos) sc X.env _ (newList []) false (eval iter X.env) (some (assign (.Name x px) X.env))) _ _ s;refine Ac (thn (BJ (use:=some (assign (.Name x px) X.env)) (Q:=λ_ s'=>SP X pins D .next s') rfl hs Cl.run B.kind B.names (thn (hi pins s σ H _ I h) λv s1 h1=>thn h1 λitv s2 h2=>?_)) λ_ s' hq=>Aj (Aj hq));obtain⟨it,fp,tn,J,H2,e,I2,T,st2,f2,h2⟩:=h2;subst e
 refine Bi (zco (e:=.ListComp elt [⟨tg,iter,ifs,0⟩,⟨tg2,iter2,ifs2,0⟩] sc pos) (inner:=λ_ _=>pure ()) (D:=λp=>{ nx:=λ_ H'=>D.nx (σ.set i (some (.ref p))) H',rt:=λ_ _=>False }) (tb:=λp=>tNest wi2 g2 (tIfs tt2 (zbW p te))) (use:=some (assign (.Name x px) X.env)) B ho hN hc (λacc env R s a b=>B7 a b)
  (zeD (iter:=iter) (pos:=pos) T hc hg ht hi2 hg2 ht2 he hs2) I2 T st2 f2 zdZ rfl (h2 _ (I2.hok.fresh (Ai _))) (λC H' s' I3 fC hn hq=>?_) s2.toks cl Cl X.xe)
 obtain⟨m,hn⟩:=hn;obtain⟨_,hq⟩:=hq;show Ar _ X.A (assign (.Name x px) X.env (.ref s2.heap.objs.size)) _ _ _;refine wpAny_assign_Name (zdC I3 hnd hi' hx (v:=.ref s2.heap.objs.size) rfl (λs4 I4 hch=>?_) hf);obtain⟨a,sb,ha⟩:=hch
 have nC:C≠a:=by
  rcases ha with z |z
  .rw[z];exact fC.2.1
  .exact λq=>fC.2.2.2.2.1 x a z q.symm
 refine⟨m,hn.sameBut sb nC,λh' hs'=>⟨_,H',I4.let_go fC hs',hq⟩⟩
end
end L2
namespace RP
noncomputable def mv(i:Nat):Int×Int:=([(1,0),(1,1),(0,1),(-1,1),(-1,0),(-1,-1),(0,-1),(1,-1)]:List (Int×Int)).getD i (0,0)
noncomputable abbrev Cell:=Int×Int
noncomputable def go(c:Cell)(i:Nat):Cell:=(c.1+(mv i).1,c.2+(mv i).2)
structure Edge where
 c:Cell
 w:Nat
 deriving DecidableEq
noncomputable def gap(e:Edge):Cell:=go e.c ((2*e.w+6) % 8)
noncomputable def stepB(C:Cell->Bool)(e:Edge):Option Nat :=
 if C (go e.c ((2*e.w+7) % 8))=true then some ((2*e.w+7) % 8) else if C (go e.c (2*e.w))=true then some (2*e.w) else none
noncomputable def slant:Option Nat->Bool
 |none=>false
 |some s=>s % 2 == 1
noncomputable def edgeB(e:Edge):Option Nat->Edge
 |none=>⟨e.c,(e.w+1) % 4⟩
 |some s=>if s % 2=1 then ⟨go e.c s,(e.w+3) % 4⟩ else ⟨go e.c s,e.w⟩
noncomputable def nxt(C:Cell->Bool)(e:Edge):Edge:=edgeB e (stepB C e)
noncomputable def IsE(C:Cell->Bool)(e:Edge):Prop:=e.w<4/\C e.c=true/\C (gap e)=false
noncomputable def prv(C:Cell->Bool)(f:Edge):Edge :=
 if C (go f.c ((2*f.w+5) % 8))=true then ⟨go f.c ((2*f.w+5) % 8),(f.w+1) % 4⟩
 else if C (go f.c ((2*f.w+4) % 8))=true then ⟨go f.c ((2*f.w+4) % 8),f.w⟩ else ⟨f.c,(f.w+3) % 4⟩
theorem way4{w:Nat}(h:w<4):w=0∨w=1∨w=2∨w=3:=by lia
noncomputable def mvAdd(a b d:Nat):Bool:=(mv a).1+(mv b).1 == (mv d).1 && (mv a).2+(mv b).2 == (mv d).2
noncomputable def mvNil(a b:Nat):Bool:=(mv a).1+(mv b).1 == 0 && (mv a).2+(mv b).2 == 0
theorem go_go{c:Cell}{a b d:Nat}(h:mvAdd a b d=true):go (go c a) b=go c d:=by unfold mvAdd at h;simp only[BX,beq_iff_eq]at h;unfold go;exact Prod.ext (by show c.1+(mv a).1+(mv b).1=c.1+(mv d).1;lia) (by show c.2+(mv a).2+(mv b).2=c.2+(mv d).2;lia)
theorem zjq{c:Cell}{a b:Nat}(h:mvNil a b=true):go (go c a) b=c:=by unfold mvNil at h;simp only[BX,beq_iff_eq]at h;unfold go;exact Prod.ext (by show c.1+(mv a).1+(mv b).1=c.1;lia) (by show c.2+(mv a).2+(mv b).2=c.2;lia)
theorem f1:∀w<4,mvAdd ((2*w+7) % 8) ((2*((w+3) % 4)+6) % 8) ((2*w+6) % 8)=true:=by decide
theorem f2:∀w<4,mvAdd (2*w) ((2*w+6) % 8) ((2*w+7) % 8)=true:=by decide
theorem f3:∀w<4,(2*((w+1) % 4)+6) % 8=2*w:=by decide
theorem f4:∀w<4,mvNil ((2*w+7) % 8) ((2*((w+3) % 4)+5) % 8)=true:=by decide
theorem f5:∀w<4,mvAdd (2*w) ((2*w+5) % 8) ((2*w+6) % 8)=true:=by decide
theorem f6:∀w<4,mvNil (2*w) ((2*w+4) % 8)=true:=by decide
theorem f7:∀w<4,(2*((w+1) % 4)+5) % 8=(2*w+7) % 8:=by decide
theorem f8:∀w<4,(2*((w+1) % 4)+4) % 8=(2*w+6) % 8:=by decide
theorem odd7(w:Nat):(2*w+7) % 8 % 2=1:=by lia
theorem zcm{C:Cell -> Bool}{e:Edge}(h:IsE C e) :
  (C (go e.c ((2*e.w+7) % 8))=true/\stepB C e=some ((2*e.w+7) % 8)/\nxt C e=⟨go e.c ((2*e.w+7) % 8),(e.w+3) % 4⟩) ∨
  (C (go e.c ((2*e.w+7) % 8))=false/\C (go e.c (2*e.w))=true/\stepB C e=some (2*e.w)/\nxt C e=⟨go e.c (2*e.w),e.w⟩) ∨
  (C (go e.c ((2*e.w+7) % 8))=false/\C (go e.c (2*e.w))=false/\stepB C e=none/\nxt C e=⟨e.c,(e.w+1) % 4⟩):=by
 unfold nxt stepB
 by_cases h1:C (go e.c ((2*e.w+7) % 8))=true
 .left;rw[if_pos h1];exact⟨h1,rfl,by simp only[edgeB];rw[if_pos (odd7 _)]⟩
 .right;have h1':C (go e.c ((2*e.w+7) % 8))=false:=by simpa using h1
  rw[if_neg h1]
  by_cases h2:C (go e.c (2*e.w))=true
  .left;rw[if_pos h2];exact⟨h1',h2,rfl,by simp only[edgeB];rw[if_neg (by lia)]⟩
  .right;rw[if_neg h2];exact⟨h1',by simpa using h2,rfl,rfl⟩
theorem zkL{C:Cell->Bool}{e:Edge}(h:IsE C e):IsE C (nxt C e):=by
 obtain⟨hw,hc,hg⟩:=id h;rcases zcm h with⟨h1,_,q⟩ |⟨h1,h2,_,q⟩ |⟨h1,h2,_,q⟩ <;> rw[q]
 .refine⟨C3 _ (by decide),h1,?_⟩;unfold gap;rw[go_go (f1 _ hw)];exact hg
 .refine⟨hw,h2,?_⟩;unfold gap;rw[go_go (f2 _ hw)];exact h1
 .refine⟨C3 _ (by decide),hc,?_⟩;unfold gap;simp only;rw[f3 _ hw];exact h2
theorem ziK{C:Cell->Bool}{e:Edge}(h:IsE C e):prv C (nxt C e)=e:=by
 obtain⟨hw,hc,hg⟩:=id h;unfold gap at hg;rcases zcm h with⟨h1,_,q⟩ |⟨h1,h2,_,q⟩ |⟨h1,h2,_,q⟩ <;> rw[q] <;> unfold prv <;> simp only
 .rw[zjq (f4 _ hw),if_pos hc];rw[show ((e.w+3) % 4+1) % 4=e.w by lia]
 .rw[go_go (f5 _ hw),hg,if_neg (by decide),zjq (f6 _ hw),if_pos hc]
 .rw[f7 _ hw,h1,if_neg (by decide),f8 _ hw,hg,if_neg (by decide)];rw[show ((e.w+1) % 4+3) % 4=e.w by lia]
theorem zgL{C:Cell->Bool}{e f:Edge}(he:IsE C e)(hf:IsE C f)(h:nxt C e=nxt C f):e=f:=by rw[<- ziK he,<- ziK hf,h]
noncomputable def Chain(C:Cell->Bool)(b:Edge)(es:List Edge):Prop:=es[0]?=some b/\(∀i e f,es[i]?=some e->es[i+1]?=some f->f=nxt C e)/\(∀e∈es,IsE C e)/\es.Nodup
theorem Chain.start{C:Cell->Bool}{b:Edge}(h:IsE C b):Chain C b [b] :=
 ⟨rfl,λi e f _ h2=>by simp at h2,λe he=>by rw[AN.mp he];exact h,by simp⟩
theorem Chain.more{C:Cell->Bool}{b l:Edge}{es:List Edge}(h:Chain C b (es++[l]))(hn:nxt C l≠b):Chain C b ((es++[l])++[nxt C l]):=by
 obtain⟨h0,hs,hE,hnd⟩:=h;have hl:(es++[l])[es.length]?=some l:=by simp
 have lE:=hE l (by simp);refine⟨?_,λi e f h1 h2=>?_,λe he=>?_,?_⟩
 .rw[As (by simp)];exact h0
 .rcases A1 (i+1) (es++[l]).length with hi |hi
  .rw[As (by lia)]at h1;rw[As hi]at h2;exact hs i e f h1 h2
  .have hi2:=(Ab.mp h2).1;simp at hi2 hi;have hi3:i=es.length:=by lia
   subst hi3;rw[As (by simp)]at h1;rw[hl]at h1
   cases h1
   rw[AD (by simp)]at h2;simp at h2;exact h2.symm
 .rcases A2.mp he with he |he
  .exact hE e he
  .rw[AN.mp he];exact zkL lE
 .rw[CZ];refine⟨hnd,by simp,λx hx y hy=>?_⟩;rw[AN.mp hy];intro e;subst e;obtain⟨i,hi,ei⟩:=Ay hx;rcases Du i with rfl |hp
  .rw[Aa hi,ei]at h0;exact hn (AO h0)
  .have hi':i-1<(es++[l]).length:=by lia
   have e1:=hs (i-1) ((es++[l])[i-1]) (nxt C l) (Aa hi') (by rw[show i-1+1=i by lia,Aa hi,ei]);have e2:=zgL lE (hE _ (A7 hi')) e1;have e3:es.length=i-1:=(List.getElem?_inj (by simp) hnd).mp (by rw[hl,Aa hi',<- e2]);simp at hi;lia
theorem zaW{α:Type} [DecidableEq α]:∀{a b:List α},a.Nodup->(∀x∈a,x∈b)->a.length<=b.length
 |[],_,_,_=>AV _
 |x::a,b,hn,hs=>by
  have hx:x∈b:=hs x Aq
  have h1:=zaW (a:=a) (b:=b.erase x) (Cn.mp hn).2 (λy hy=>by refine (List.mem_erase_of_ne ?_).mpr (hs y (Ak _ hy));intro e;subst e;exact (Cn.mp hn).1 hy)
  rw[List.length_erase_of_mem hx]at h1;have:0<b.length:=CO hx;simp only[AQ];lia
noncomputable def sides(cs:List Cell):List Edge:=cs.flatMap λc=>(AE 4).map λw=>⟨c,w⟩
theorem zbr(cs:List Cell):(sides cs).length=4*cs.length:=by
 unfold sides
 induction cs with
 |nil=>rfl
 |cons c r ih=>rw[Cv,Al,ih];simp;lia
theorem zcS{cs:List Cell}{e:Edge}:e∈sides cs ↔ e.c∈cs/\e.w<4:=by
 unfold sides;rw[List.mem_flatMap];constructor
 .rintro⟨c,hc,h⟩;obtain⟨w,hw,rfl⟩:=AF.mp h;exact⟨hc,Dy.mp hw⟩
 .rintro⟨hc,hw⟩;exact⟨e.c,hc,AF.mpr ⟨e.w,List.mem_range.mpr hw,rfl⟩⟩
noncomputable def isIn(cs:List Cell)(c:Cell):Bool:=decide (c∈cs)
theorem Chain.short{cs:List Cell}{b:Edge}{es:List Edge}(h:Chain (isIn cs) b es):es.length<=4*cs.length:=by rw[<- zbr];exact zaW h.2.2.2 λe he=>zcS.mpr ⟨of_decide_eq_true (h.2.2.1 e he).2.1,(h.2.2.1 e he).1⟩
noncomputable def allE(cs:List Cell):List Edge:=(sides cs).filter λe=>!isIn cs (gap e)
theorem zhm{cs:List Cell}{e:Edge}:e∈allE cs ↔ IsE (isIn cs) e:=by
 unfold allE;rw[List.mem_filter,zcS];unfold IsE isIn;constructor
 .rintro⟨⟨h1,h2⟩,h3⟩;exact⟨h2,decide_eq_true h1,by simpa using h3⟩
 .rintro⟨h1,h2,h3⟩;exact⟨⟨of_decide_eq_true h2,h1⟩,by simpa using h3⟩
noncomputable def dx(w:Nat):Int:=if w=0 then 1 else if w=2 then -1 else 0
noncomputable def dy(w:Nat):Int:=if w=1 then 1 else if w=3 then -1 else 0
noncomputable def px(e:Edge):Int:=e.c.1+(if e.w=1∨e.w=2 then 1 else 0)
noncomputable def py(e:Edge):Int:=e.c.2+(if e.w=2∨e.w=3 then 1 else 0)
theorem zkI{C:Cell->Bool}{e:Edge}(h:IsE C e):px (nxt C e)=px e+dx e.w/\py (nxt C e)=py e+dy e.w:=by
 have hw:=h.1
 rcases zcm h with⟨_,_,q⟩ |⟨_,_,_,q⟩ |⟨_,_,_,q⟩ <;> rw[q] <;> obtain⟨c,w⟩:=e <;> simp only at hw <;>
  rcases way4 hw with rfl |rfl |rfl |rfl <;> simp[px,py,dx,dy,go,mv] <;> lia
theorem zlX{C:Cell->Bool}{e:Edge}(h:IsE C e):(nxt C e).w=(e.w+3) % 4∨(nxt C e).w=e.w∨(nxt C e).w=(e.w+1) % 4:=by
 rcases zcm h with⟨_,_,q⟩ |⟨_,_,_,q⟩ |⟨_,_,_,q⟩ <;> rw[q]
 .exact .inl rfl
 .exact .inr (.inl rfl)
 .exact .inr (.inr rfl)
noncomputable def Closed(C:Cell->Bool)(b:Edge)(es:List Edge):Prop:=Chain C b es/\∃l,es[es.length-1]?=some l/\nxt C l=b
theorem psum{C:Cell->Bool}{b:Edge}{es:List Edge}(h:Chain C b es):∀i e,es[i]?=some e->px e=px b+((es.take i).map λe=>dx e.w).sum/\py e=py b+((es.take i).map λe=>dy e.w).sum
 | 0,e,he=>by
  have h0:=h.1;rw[he]at h0
  cases h0
  simp
 |i+1,e,he=>by
  have hi:i+1<es.length:=(Ab.mp he).1;have h1:es[i]?=some es[i]:=Aa (by lia)
  obtain⟨a,c⟩:=psum h i _ h1;have hn:=h.2.1 i _ e h1 he;obtain⟨p,q⟩:=zkI (h.2.2.1 _ (A7 (show i<es.length by lia)));rw[<- hn]at p q;rw[List.take_succ,h1];simp only[Option.toList_some,Ax,Ba,Cr,List.sum_append,CA,List.sum_nil];lia
theorem Closed.sums{C:Cell->Bool}{b:Edge}{es:List Edge}(h:Closed C b es):(es.map λe=>dx e.w).sum=0/\(es.map λe=>dy e.w).sum=0:=by
 obtain⟨hc,l,hl,hb⟩:=h;have hlt:=(Ab.mp hl).1;obtain⟨a,c⟩:=psum hc _ l hl;have hlm:=(Ab.mp hl).2;obtain⟨p,q⟩:=zkI (hc.2.2.1 l (by rw[<- hlm];exact A7 _));rw[hb]at p q
 have e:es=es.take (es.length-1)++[l]:=by have:=List.take_succ (l:=es) (i:=es.length-1);rw[hl,show es.length-1+1=es.length by lia,AW]at this;simpa using this
 have s1:(es.map λe=>dx e.w).sum=((es.take (es.length-1)).map λe=>dx e.w).sum+dx l.w:=by
  conv=>lhs;rw[e]
  simp
 have s2:(es.map λe=>dy e.w).sum=((es.take (es.length-1)).map λe=>dy e.w).sum+dy l.w:=by
  conv=>lhs;rw[e]
  simp
 lia
theorem zhN{l:List Int}(h:∀x∈l,0<=x):0<=l.sum:=by
 induction l with
 |nil=>simp
 |cons a r ih =>
  have:=h a Aq;have:=ih λx hx=>h x (Ak _ hx)
  simp only[CA];lia
theorem zdr{l:List Int}(h:∀x∈l,0<=x)(hs:l.sum=0):∀x∈l,x=0:=by
 induction l with
 |nil=>intro x hx;cases hx
 |cons a r ih =>
  have h1:=h a Aq;have h2:=zhN λx hx=>h x (Ak _ hx)
  simp only[CA]at hs;intro x hx;rcases Ao.mp hx with rfl |hx
  .lia
  .exact ih (λx hx=>h x (Ak _ hx)) (by lia) x hx
theorem zlt(l:List Int):(l.map λx=>-x).sum=-l.sum:=by
 induction l with
 |nil=>rfl
 |cons a r ih=>simp only[Ba,CA,ih];lia
theorem zjy(l:List Int)(d:Int)(h:∀x∈l,x=d):l.sum=d*l.length:=by
 induction l with
 |nil=>simp
 |cons a r ih =>
  have h1:=h a Aq;have h2:=ih λx hx=>h x (Ak _ hx)
  simp only[CA,AQ,h1,h2];rw[Int.natCast_add,Int.mul_add];lia
theorem Closed.has{C:Cell->Bool}{b:Edge}{es:List Edge}(h:Closed C b es){k:Nat}(hk:k=0∨k=2):∃e∈es,e.w=k:=by
 apply Dc
 intro hno;have hno':∀e∈es,e.w≠k:=λe he z=>hno ⟨e,he,z⟩
 obtain⟨s1,s2⟩:=h.sums;obtain⟨hc,_⟩:=h
 have hpos:0<es.length:=by have:=hc.1;exact (Ab.mp this).1
 have z:∀e∈es,dx e.w=0:=by
  rcases hk with rfl |rfl
  .have := zdr (l := (es.map λe => dx e.w).map λx => -x) (λx hx => by obtain⟨y,hy,rfl⟩:=AF.mp hx;obtain⟨e,he,rfl⟩:=AF.mp hy;have:=hno' e he;unfold dx;rw[if_neg this];split <;> decide) (by rw[zlt,s1];rfl)
   intro e he;have:=this (-(dx e.w)) (AF.mpr ⟨_,AF.mpr ⟨e,he,rfl⟩,rfl⟩);lia
  .have := zdr (l := es.map λe => dx e.w) (λx hx => by obtain⟨e,he,rfl⟩:=AF.mp hx;have:=hno' e he;unfold dx;rw[if_neg this];split <;> decide) s1
   intro e he;exact this _ (AF.mpr ⟨e,he,rfl⟩)
 have odd:∀e∈es,e.w=1∨e.w=3:=λe he=>by
  have h4:=(hc.2.2.1 e he).1;have hz:=z e he;rcases way4 h4 with q |q |q |q
  .rw[q]at hz;exact absurd hz (by decide)
  .exact .inl q
  .rw[q]at hz;exact absurd hz (by decide)
  .exact .inr q
 have same:∀(i:Nat) (e:Edge),es[i]?=some e->e.w=b.w:=by
  intro i
  induction i with
  |zero=>intro e he;have:=hc.1;rw[he]at this;cases this;rfl
  |succ i ih =>
   intro e he;have hi:i+1<es.length:=(Ab.mp he).1;have h1:es[i]?=some es[i]:=Aa (by lia)
   have hn:=hc.2.1 i _ e h1 he;have m1:es[i]∈es:=A7 _;have m2:e∈es:=Ah he;have w1:=ih _ h1;have o1:=odd _ m1;have o2:=odd _ m2;have:=zlX (hc.2.2.1 _ m1);rw[<- hn]at this;lia
 have all:∀x∈es.map (λe=>dy e.w),x=dy b.w:=λx hx=>by obtain⟨e,he,rfl⟩:=AF.mp hx;obtain⟨i,hi,ei⟩:=Ay he;rw[same i e (by rw[Aa hi,ei])]
 have t:=zjy _ _ all;rw[s2,Af]at t
 have ob:b.w=1∨b.w=3:=by have:=hc.1;exact odd b (Ah this)
 have d1:dy b.w=1∨dy b.w=-1:=by rcases ob with q |q <;> rw[q] <;> decide
 rcases d1 with q |q <;> rw[q]at t <;> lia
end RP
namespace L2
open PySem PySem.Spec PyProof.Rows
structure Fn (P:AH) (w:AZ) (K:W.Frag) (mg:Str->Option Ad) (base:Heap) (k:Nat) (x:Str) (ps:List Str) (sp:Sp) where
 f:Addr
 fd:Bu
 ok:FnOk P w K mg base CX0 k f fd ps sp
 m:mg x=some (.ref f)
 kp:W.keepIn K (.ref f)=true
 b:Binds K fd ps []
structure Df (K:W.Frag) (mg:Str->Option Ad) (x:Str) (st:Stmt) (ps:List Str) where
 f:Addr
 fd:Bu
 F:Fun K x x st f fd
 m:mg x=some (.ref f)
 b:Binds K fd ps []
noncomputable def Df.fn{P:AH}{w:AZ}{K:W.Frag}{mg:Str->Option Ad}{base:Heap}{k:Nat}{x:Str}{st:Stmt}{ps:List Str}{sp:Sp}(d:Df K mg x st ps)(h:FnOk P w K mg base CX0 k d.f d.fd ps sp):Fn P w K mg base k x ps sp :=
 ⟨d.f,d.fd,h,d.m,d.F.kp,d.b⟩
structure Ways (P:AH) (w:AZ) (K:W.Frag) (mg:Str->Option Ad):Prop where
 ex:∃(B:Addr) (t1 t2 t3 t4:Tok) (n:Nat),mg "BEGIN_WAYS" = some (.ref B)/\K.lookup B=some ⟨.type "dict",none,.dict #[⟨Cf w.params "rim",.str "rim" t1,.int 0 t2⟩,⟨Cf w.params "hole",.str "hole" t3,.int 2 t4⟩] n,#[]⟩
noncomputable def tWays (ti:TE):TE:=λσ H Q=>ti σ H λy H1=>(y=.str "rim" /\ Q (.int 0) H1)∨(y=.str "hole" /\ Q (.int 2) H1)
theorem zlf {X:Cx}{i:Expr}{ti:TE}{p pos:Pos}(hg:Gl X "BEGIN_WAYS") (hw:Ways X.prog X.w X.K X.mg) (hi:PE X i ti) (hs:NoSl i:=by exact λ_ _=>rfl):PE X (.Subscript (.Name "BEGIN_WAYS" p) i pos) (tWays ti):=by
 intro pins s σ H Q I h;obtain⟨B,t1,t2,t3,t4,n,hm,hl⟩:=hw.ex;refine zk4 PySem.F.slot_dict_getitem.lookup hs (thn ((ze2 (v:=.ref B) hg hm rfl:PE X (.Name "BEGIN_WAYS" p) _) pins s σ H (λv H1=>v=V.ref B/\H1=H) I ⟨rfl,rfl⟩) λu s1 ⟨x,H1,I1,rx,q1⟩=>?_);obtain⟨rfl,rfl⟩:=q1;obtain rfl:u=AA B:=rx;refine thn (hi pins s1 σ H1 _ I1 h) λiv s2 ⟨y,H2,I2,ry,q2⟩=>?_
 have ho:s2.heap.get? B=some _:=I2.kIn B _ hl
 have mo:s2.heap.MapOf (zaX X.prog X.w) B (PySem.findBy (zaX X.prog X.w).is #[⟨Cf X.w.params "rim",.str "rim" t1,.int 0 t2⟩,⟨Cf X.w.params "hole",.str "hole" t3,.int 2 t4⟩]) :=
  ⟨_,_,_,ho,⟨rfl,rfl,rfl⟩,rfl,λe he=>by
   simp only[List.mem_toArray,Ao,Bh,or_false]at he;rcases he with rfl |rfl
   .exact⟨.inr "rim",zcG _ _ _ _,rfl⟩
   .exact⟨.inr "hole",zcG _ _ _ _,rfl⟩,λ_=>rfl⟩
 refine⟨⟨_,ho,rfl⟩,?_⟩;rcases q2 with⟨rfl,q⟩ |⟨rfl,q⟩
 .exact wpAny_getItem_of (kV_is (k:=.inr "rim") ry) mo (v:=.int 0 t2) rfl ⟨.int 0,H2,I2.tok _,⟨_,rfl⟩,q⟩
 .exact wpAny_getItem_of (kV_is (k:=.inr "hole") ry) mo (v:=.int 2 t4) rfl ⟨.int 2,H2,I2.tok _,⟨_,rfl⟩,q⟩
section
variable {X:Cx}{K:W.Frag}
theorem zlz(hK:X.K=K:=by rfl):IxR X (rIxT K):=by subst hK;exact zay
theorem zdw(hK:X.K=K:=by rfl):IxR X (rIxL K):=by subst hK;exact zas
theorem zg9(hK:X.K=K:=by rfl):SlR X (rSlL K):=by subst hK;exact zc1
theorem zll(hu:X.A.units+64<cLine)(hK:X.K=K:=by rfl):OpR X (By .NotEq) (rNeD K):=by subst hK;exact ziU hu
theorem zfm (hK:X.K=K:=by rfl):CallR X (.builtin "len") (λxs H Q=>∃p ys,xs=[.ref p]/\(SqL K H p ys∨SqT K H p ys)/\Q (.int ys.length) H):=by subst hK;exact zan
theorem za8{es:List Expr}{k:Nat}{t:TGs}{n:Nat}{pos:Pos}(hc:X.calm=true)(h:PGs X es t)
  (hn:(Ds es X.env).length=n:=by rfl) (hst:(Ds es X.env).findIdx? (·.1)=none:=by rfl) (hK:X.K=K:=by rfl):PG X (.Tuple es k pos) (gTup K n t):=by
 subst hK;exact zbk hc h hn hst
theorem zdu{tg l:Expr}{tl:TE}(hl:PE X l tl)(hK:X.K=K:=by rfl):PI X tg l (iList K tl):=by subst hK;exact zaB hl
end
theorem zi9 (a b c d:Ad):argsOk "min" ⟨[a,b,c,d],[]⟩:=by unfold argsOk;kernel_rfl
section
variable {X:Cx}
theorem zjE (hc:X.calm=true):CallR X (.builtin "min") (λxs H Q=>∃i j k l,xs=[.int i,.int j,.int k,.int l]/\∀n,Q (.int n) H):=by
 intro pins s σ H xs us Q I r h;obtain⟨i,j,k,l,rfl,q⟩:=h
 cases r with
 |cons r1 r =>
 cases r with
 |cons r2 r =>
 cases r with
 |cons r3 r =>
 cases r with
 |cons r4 r =>
 cases r with
 |nil =>
 obtain⟨t1,rfl⟩:=r1;obtain⟨t2,rfl⟩:=r2;obtain⟨t3,rfl⟩:=r3;obtain⟨t4,rfl⟩:=r4;have hh:=I.ok.hd hc;have nm:(toString "min" ++ toString ".loop" : String) = "min.loop":=by decide
 refine call_function_tree F.kind_min F.plain_min F.entry_min (zi9 _ _ _ _) ?_
 show Ar _ X.A.in1 (Bw "min" ["key","default"] 0 ⟨[],[]⟩ >>= _) _ _ s;refine Ac (wpAny_of_eq (show Bw "min" ["key","default"] 0 ⟨[],[]⟩=pure [none,none] from rfl) ?_);show Ar _ X.A.in1 (newTuple [.int i t1,.int j t2,.int k t3,.int l t4] >>= _) _ _ s;refine Ac (Bi ?_);have hT:(s.heap.push { cls:=.type "tuple",data:=.seq #[.int i t1,.int j t2,.int k t3,.int l t4] }).IsTuple s.heap.objs.size (intItems #[(i,t1),(j,t2),(k,t3),(l,t4)]):=⟨_,AC _ rfl,rfl,0,by simp[intItems]⟩;refine Ac (wpAny_pyIter_tuple hT ?_);refine Ac (Bi ?_);rw[nm];generalize e1:s.heap.push { cls:=.type "tuple",data:=.seq #[.int i t1,.int j t2,.int k t3,.int l t4] }=h1 at hT;have hs1:h1.objs.size=s.heap.objs.size+1:=by rw[<- e1];exact Heap.size_push ..
 have k1:∀b o,s.heap.get? b=some o->h1.get? b=some o:=λb o e=>by rw[<- e1];exact Ag _ e
 show Ar (Aw X.prog X.w) X.A.in1 (again (.builtin "min.loop" ⟨[.ref h1.objs.size,.none,.ref (h1.push _).objs.size],[]⟩)) _ _ { s with heap:=(h1.push _).push _ };have hs2:∀o:Obj,(h1.push o).objs.size=s.heap.objs.size+2:=λo=>by rw[Heap.size_push,hs1]
 have W:=Walks.tuple (prog:=X.prog) (w:=X.w) (A:=X.A.in1) hh h1.objs.size s.heap.objs.size (by rw[hs1];exact At (Nat.lt_succ_self _)) (intItems #[(i,t1),(j,t2),(k,t3),(l,t4)])
 refine Aj ⟨BV AY _,codeAny_min_loop_first W _ (CmpOf.ints_lt (numAt #[(i,t1),(j,t2),(k,t3),(l,t4)]) (λ_ _=>intItems_at)) _ (λhm=>?_) (by simp[intItems])
  (W.frame _ _ _ ⟨⟨_,AC _ rfl,rfl,rfl⟩,hT.push _⟩ λb _ o e=>Ag _ e) (AC _ rfl) λv h' tk hP hk=>?_⟩
 .rw[hs2]at hm;rcases Ao.mp hm with z |z
  .rw[hs1]at z;have z':(s.heap.objs.size+2:Nat)=s.heap.objs.size+1:=z;lia
  .have z':(s.heap.objs.size+2:Nat)=s.heap.objs.size:=AN.mp z;lia
 .obtain⟨t,ht⟩:=intItems_at hP;refine⟨.int _,H,I.kept λb o e=>hk b o (λhm=>?_) ?_ (Ag _ (Ag _ (k1 b o e))),⟨t,ht⟩,q _⟩
  .have h1':=An e;have z:=AN.mp hm;rw[hs1]at z;subst z;exact absurd h1' (Nat.not_lt_of_le (Ct _))
  .have h1':=An e;intro z;rw[hs2]at z;subst z;exact absurd h1' (Nat.not_lt_of_le (Bd _ 2))
noncomputable def rSlTW(K:W.Frag):V->Option Int->Option Int->Hp->VK->Prop:=λx lo hi H Q=>∃a xs,x=.ref a/\SqT K H a xs /\
 ((HT.sIx xs.length 0 lo=0/\HT.sIx xs.length xs.length hi=xs.length)->Q (.ref a) H) /\
 (¬ (HT.sIx xs.length 0 lo=0/\HT.sIx xs.length xs.length hi=xs.length)->∀p,H p=none->Q (.ref p) (upd H p (.tup (cutV xs lo hi))))
end
end L2
namespace HT
open PySem PyProof.Rows
variable {prog:AH}{w:AZ}{A:AL}{E:Ad->Ae->Prop}{s:Ae}
theorem getItem_tuple_all{t sl:Addr}{items:Array Ad}{vl vu:Ad}{lo hi:Option Int}{Q:Ad -> Ae -> Prop}(ht:IsTup s.heap t items)(hs:s.heap.IsSliceOf sl vl vu .none)(pl:IsPart vl lo)(pu:IsPart vu hi)
  (hw:sIx items.size 0 lo=0/\sIx items.size items.size hi=items.size) (h:Q (.ref t) s):Ar (Aw prog w) A (getItem (.ref t) (.ref sl)) Q E s:=by
 obtain⟨os,hos,hcs,hds⟩:=id hs;have hTs:s.TypeIs (.ref sl) "slice":=⟨os,hos,hcs⟩;unfold getItem
 try with_reducible refine A9 ?_
 first |refine Ac (Aj ?_) |skip
 refine Ac (wpAny_sequenceKey ht.typeIs (by decide) ?_)
 refine Ac (CJ (name:=Bf "__getitem__") ht.typeIs Bn
  (wpAny_call_entry Bn ht.typeIs entry_tuple_getitem ?_ (args_tuple_getitem _ _)))
 show Ar _ _ (Builtin.Tuple.tupleItemsOf (.ref t) >>= _) _ _ s;refine Ac (tupleItemsOf_ ht ?_);refine Ac (wpAny_typeOf hTs ?_);rw[if_pos (by decide)];refine Ac (zcd hs pl pu ?_)
 have hyes:(((sIx items.size 0 lo:Nat):Int) == 0 && (1:Int) == 1 && (sIx items.size items.size hi-sIx items.size 0 lo) == items.size)=true:=by rw[hw.1,hw.2];simp
 show Ar _ _ (if (((sIx items.size 0 lo:Nat):Int) == 0 && (1:Int) == 1 && (sIx items.size items.size hi-sIx items.size 0 lo) == items.size)=true then _ else _) _ _ s;rw[if_pos hyes];refine Ac ?_
 unfold Builtin.Tuple.tupleIsExact;refine Ac (wpAny_typeOf ht.typeIs (Aj ?_));rw[if_pos (by decide)];exact Ac (wpAny_rule (Aj ⟨_,rfl,Aj h⟩))
end HT
namespace L2
open PySem PySem.Spec PyProof.Rows
section
variable {X:Cx}{K:W.Frag}
theorem ziB:SlR X (rSlTW X.K):=by
 intro pins s σ H x v vl vu lo hi sl Q I rx hs pl pu h;obtain⟨a,xs,rfl,hx,q1,q2⟩:=h
 by_cases hw:HT.sIx xs.length 0 lo=0/\HT.sIx xs.length xs.length hi=xs.length
 .cases rx
  obtain⟨its,r,ht,hz⟩:=I.tuple hx;have hlen:its.toArray.size=xs.length:=by rw[Az];exact r.length.symm
  refine⟨"tuple",_,Bn.lookup,ht.typeIs,?_⟩;exact HT.getItem_tuple_all ht hs pl pu (by rw[hlen];exact hw) ⟨.ref a,H,I,rfl,q1 hw⟩
 .exact zl6 pins s σ H _ v vl vu lo hi sl Q I rx hs pl pu ⟨a,xs,rfl,hx,hw,q2 hw⟩
end
section
variable {prog:AH}{w:AZ}{K:Type} [DecidableEq K] {knd:HeapKind prog w K}{A:AL}{E:Ad->Ae->Prop}{s:Ae}{d a:Addr}{xs:List (K×Addr×Ad)}{k:K}{dflt:Ad}
end
section
variable {X:Cx}{o e f:Expr}{apos cpos:Pos}{td ty tx:TE}
end
structure Two (P:AH) (w:AZ) (K:W.Frag) (mg:Str->Option Ad) (nm:Str) (a b:Int):Prop where
 ex:∃(B:Addr) (t1 t2 t3 t4:Tok) (n:Nat),mg nm=some (.ref B)/\K.lookup B=some ⟨.type "dict",none,.dict #[⟨Cf w.params "rim",.str "rim" t1,.int a t2⟩,⟨Cf w.params "hole",.str "hole" t3,.int b t4⟩] n,#[]⟩
section
variable {X:Cx}
theorem Inv.turned2{pins:List (Addr × Obj)}{σ : St}{H:Hp}{s:Ae}{h':Heap}{t':Nat}{e it:Addr}(I:Inv X pins σ H s)(k:∀b o, b ≠ e -> b ≠ it -> s.heap.get? b=some o -> h'.get? b=some o)(fe:FpOk X pins H e)(fi:FpOk X pins H it) :
  Inv X pins σ H { s with heap:=h',toks:=t' }:=by
 obtain⟨f0,f1,f2,f3,f4,f5⟩:=fe;obtain⟨g0,g1,g2,g3,g4,g5⟩:=fi;have nb:∀b u,H b=some u->b≠e/\b≠it:=λb u q=>⟨(λz=>by rw[z,f0]at q;cases q),(λz=>by rw[z,g0]at q;cases q)⟩
 have out:∀b,b ∉ [e,it]->b≠e/\b≠it:=λb hc=>⟨λz=>hc (by simp[z]),λz=>hc (by simp[z])⟩
 refine I.step (g':=s.gens) (d':=s.drawn) (ch:=[e,it]) (λb hb=>?_) (λb o _ _ hc q _=>k b o (out b hc).1 (out b hc).2 q) (λb o _ _ hc q _=>⟨o.slots,k b o (out b hc).1 (out b hc).2 q⟩) (λ_ _ _ _ n=>n)
  (λb o hc q=>⟨o,k b o (out b hc).1 (out b hc).2 q⟩) (λ_ _ q=>q) (λ_ _ _ q=>q) (λb ps q=>⟨#[],by rw[q];simp⟩) (λm hm=>?_) (λb u q=>?_) I.bare
 .rcases Ao.mp hb with z |z
  .subst z;exact⟨f3,f1,f4,f5⟩
  .have z':b=it:=by simpa using z
   subst z';exact⟨g3,g1,g4,g5⟩
 .obtain⟨o,es,ep,ho,r⟩:=hm;exact⟨o,es,ep,k _ o (Bq f1) (Bq g1) ho,r⟩
 .refine (I.hok b u q).stay (λc v hc q'=>?_) (λ_ q=>q) λ_ _ q=>q
  rcases hc with z |z
  .rw[z]at q' ⊢;exact k _ _ (nb b u q).1 (nb b u q).2 q'
  .exact k _ _ (nb c _ z).1 (nb c _ z).2 q'
noncomputable def Ite(K:W.Frag)(a:Addr):It :=
 ⟨λi H=>∃xs x,SqL K H a xs/\xs[i]?=some x,λi H y H'=>∃p x,y=.ref p/\H p=none/\H'=upd H p (.tup [.int i,x])/\∀xs,SqL K H a xs->xs[i]?=some x,λi H=>∃xs,SqL K H a xs/\xs.length<=i⟩
theorem zil{P:AH}{w:AZ}{K:W.Frag}{es:List Expr}{x1:Nat}{pos:Pos}(a e it:Addr)(hne:e≠it):Turn P w K (.Tuple es x1 pos) (Ite K a) [e,it] e (λi h=>∃old,IsEnum h e it ((i:Nat):Int) old/\h.IsListIter it a i) where
 mem:=by simp
 obj:=λi h st b hb=>by
  obtain⟨old,h1,o,h2,c,d⟩:=st;rcases Ao.mp hb with z |z
  .subst z;exact⟨_,h1,λv q=>nomatch q⟩
  .have z':b=it:=by simpa using z
   subst z';exact⟨o,h2,λv q=>by rw[d]at q;cases q⟩
 keep:=λi h h' ⟨old,h1,h2⟩ k=>⟨old,k e (by simp) _ h1,h2.at λo q=>k it (by simp) o q⟩
 item:=by
  intro X hP hw hK hc i pins s σ H E I hf st hg;subst hP hw hK;obtain⟨old,he,hit⟩:=st;obtain⟨xs,x,hq,hx⟩:=hg;obtain⟨its,rv,p,hz⟩:=I.list hq;obtain⟨u,hu,ru⟩:=rv.get hx;have fe:=hf e (by simp);have fi:=hf it (by simp);refine wpAny_pyNext_enum_item he hit p.isList (x:=u) (by simpa using hu) hne λh1 eo it1 tup sz kk=>⟨_,rfl,?_⟩
  refine wpAny_letOwnedTupleGo_enum (s:={ s with heap:=h1,toks:=s.toks+1 }) eo λh2 he2 sb=>?_
  have heS:e<s.heap.objs.size:=An he;have hiS:it<s.heap.objs.size:=by obtain⟨o,q,_⟩:=hit;exact An q
  have fr:H s.heap.objs.size=none:=I.hok.fresh (Ai _)
  have I1:Inv X pins σ (upd H s.heap.objs.size (.tup [.int i,x])) { s with heap:=s.heap.push { cls:=.type "tuple",data:=.seq #[.int i s.toks,u] },toks:=s.toks } :=
   I.laid (t':=s.toks) (o:=.tup [.int i,x]) (λb ob q=>Ag _ q) (Ai _) ⟨by show 2<=sizeLine;decide,_,.cons ⟨_,rfl⟩ (.cons ru .nil),IsTup.new _ _⟩
  have up:∀{b:Addr},b<s.heap.objs.size->∀o,upd H s.heap.objs.size o b=H b:=λhb o=>zal (At hb)
  have fe1:FpOk X pins (upd H s.heap.objs.size (.tup [.int i,x])) e:=⟨by rw[up heS];exact fe.1,fe.2⟩;have fi1:FpOk X pins (upd H s.heap.objs.size (.tup [.int i,x])) it:=⟨by rw[up hiS];exact fi.1,fi.2⟩
  have I2:Inv X pins σ (upd H s.heap.objs.size (.tup [.int i,x])) { s with heap:=h2,toks:=s.toks+1 }:=I1.turned2 (λb o hbe hbi q=>by
   refine (sb.2 b hbe).trans ?_
   show h1.get? b=some o;rcases Heap.get?_push_cases q with⟨z,rfl⟩ |q
   .rw[z];exact tup
   .exact kk b o hbe hbi q) fe1 fi1
  refine⟨.ref s.heap.objs.size,_,I2,rfl,⟨_,x,rfl,fr,rfl,λys hy=>by rw[I.list_inj hy hq];exact hx⟩,⟨u,?_,?_⟩,λb hb=>?_⟩
  .exact he2
  .obtain⟨o,q,c,d⟩:=it1;exact⟨o,(sb.2 it (Bq hne)).trans q,c,d⟩
  .rcases Ao.mp hb with z |z
   .subst z;exact fe1.1
   .have z':b=it:=by simpa using z
    subst z';exact fi1.1
 done:=by intro X hP hw hK hc i pins s σ H E I hf st hg;subst hP hw hK;obtain⟨old,he,hit⟩:=st;obtain⟨xs,hq,hx⟩:=hg;obtain⟨its,rv,p,hz⟩:=I.list hq;obtain⟨f0,f1,f2,f3,f4,f5⟩:=hf it (by simp);have hl:=rv.length;exact wpAny_pyNext_enum_end (I.ok.hd hc) he hit p.isList (by simp;lia) λh' eb=>⟨rfl,I.turned (t':=s.toks) (λb o hb e=>eb b o hb e) f0 f1 f3 f4 f5⟩
 self:=λ_ _ _ _ _ ⟨_,he,_⟩ h=>wpAny_pyIter_enum he h
noncomputable def iEnum(K:W.Frag)(t:TA):TI:=λσ H R=>t σ H λvs H1=>∃a,vs=[.ref a]/\(∃xs,SqL K H1 a xs)/\R (Ite K a) H1
theorem zgx {l:Expr}{t:TA}{es:List Expr}{x1:Nat}{pos pos' p:Pos}(hg:Gl X "enumerate") (hm:X.mg "enumerate" = none) (ha:PA X [l] t)
  (he:AK [l] X.env=(false,eval l X.env)::AK [] X.env:=by rfl) (hpl:(CN pos' (AK [] X.env)).any (·.1)=false:=by rfl) :
  PI X (.Tuple es x1 pos) (.Call (.Name "enumerate" p) [l] [] pos') (iEnum X.K t):=by
 intro pins s σ H R I h;refine Bj (zbO I hg hm (by rfl) ?_ (by decide) (by decide));refine A5 (thn (ha pos' pins s σ H _ I h) λus s1 ⟨vs,H1,I1,r1,q1⟩=>?_) he hpl;obtain⟨a,ex,⟨xs,hq⟩,q⟩:=q1;subst ex;obtain⟨u,rfl,rx⟩:=vals1 r1
 cases rx
 obtain⟨its,rv,pl,hz⟩:=I1.list hq;refine call_enumerate_list pl.isList λh' he hit hsz kp=>?_
 have I2:Inv X pins σ H1 { s1 with heap:=h' }:=I1.kept (t':=s1.toks) kp;refine wpAny_pyIter_enum he ?_
 refine⟨s1.heap.objs.size+1,[s1.heap.objs.size+1,s1.heap.objs.size],_,_,H1,rfl,I2,zil a _ _ (Nat.succ_ne_self _),⟨_,he,hit⟩,λb hb=>?_,q⟩;rcases Ao.mp hb with z |z
 .subst z;exact I1.fpOk (Ct _) (I1.hok.fresh (Ct _))
 .have z':b=s1.heap.objs.size:=by simpa using z
  subst z';exact I1.fpOk (Ai _) (I1.hok.fresh (Ai _))
theorem zff{K:W.Frag}{a:Addr}{xs:List V}{g:TG}{tb:TS}{D:Ends}{σ : St}{H:Hp}(Pv:Nat -> St -> Hp -> Prop)(h0:Pv 0 σ H)(hl:∀i σ H, i <= xs.length -> Pv i σ H -> SqL K H a xs)
  (hs:∀i x σ H p,xs[i]?=some x->Pv i σ H->H p=none->g (.ref p) σ (upd H p (.tup [.int i,x])) λσ2 H2=>tb { D with nx:=Pv (i+1),ct:=Pv (i+1),bk:=D.nx } σ2 H2) (hd:∀ σ H,Pv xs.length σ H->D.nx σ H) :
  ∃W:Nat->Nat->St->Hp->Prop,(∃m,W 0 m σ H)/\∀i m σ H,W i m σ H ->
   ((Ite K a).stop i H/\D.nx σ H)∨((Ite K a).go i H/\∃N:St->Hp->Prop,(∀ σ' H',N σ' H'->∃m',m'<m/\W (i+1) m' σ' H')/\∀x H',(Ite K a).yld i H x H'->g x σ H' λσ2 H2=>tb { D with nx:=N,ct:=N,bk:=D.nx } σ2 H2):=by
 refine⟨λi m σ H=>m=xs.length-i/\i<=xs.length/\Pv i σ H,⟨xs.length,by simp,AV _,h0⟩,?_⟩;rintro i m σ H ⟨rfl,hi,p⟩;have q:=hl i σ H hi p
 by_cases hlt:i<xs.length
 .refine .inr ⟨⟨xs,xs[i],q,by simp[hlt]⟩,Pv (i+1),λσ' H' p'=>⟨xs.length-(i+1),by lia,rfl,hlt,p'⟩,λx H' y=>?_⟩;obtain⟨b,z,rfl,hb,rfl,y⟩:=y;exact hs i z σ H b (y xs q) p hb
 .have e:i=xs.length:=by lia
  subst e;exact .inl ⟨⟨xs,q,Ai _⟩,hd σ H p⟩
end
end L2
namespace HT
open PySem PyProof.Rows PySem.Spec
variable {prog:AH}{w:AZ}{A:AL}{E:Ad->Ae->Prop}{s:Ae}
end HT
namespace L2
open PySem PySem.Spec PyProof.Rows
section
variable {X:Cx}{K:W.Frag}
theorem zf5 (hh:X.calm=true):CallR X (.builtin "any") (λxs H Q=>∃(p:Addr) (bs:List Bool),xs=[.ref p]/\SqL X.K H p (bs.map V.bl)/\Q (.bl (bs.any id)) H):=by
 intro pins s σ H xs us Q I r h;obtain⟨p,bs,rfl,hq,q⟩:=h;obtain⟨u,rfl,ru⟩:=vals1 r
 cases (show u=AA p from ru)
 obtain⟨its,rv,pl,hz⟩:=I.list hq;have hlp:p<s.heap.objs.size:=by obtain⟨o,ho,_⟩:=pl.isList;exact An ho
 have hlen:its.length=bs.length:=by have:=rv.length;simpa using this.symm
 refine call_any_walk (CY pl.isList ?_);refine⟨_,_,_,_,_,_,λi=>bs.getD i false,rfl,Walks.list (A:=X.A.in1) (I.ok.hd hh) s.heap.objs.size p (At hlp) its.toArray,⟨⟨_,AC _ rfl,rfl,rfl⟩,pl.isList.push _⟩,?_,λh' tk hk=>?_⟩
 .intro i v s1 Q1 E1 hv hQ;have hv':its[i]?=some v:=by simpa using hv
  have hi:i<its.length:=(Ab.mp hv').1;obtain⟨w',hw,rw'⟩:=rv.get (i:=i) (x:=V.bl (bs[i]'(by lia))) (by simp[Aa,show i<bs.length by lia]);rw[hv']at hw
  cases hw
  cases (show v=Dr _ from rw')
  refine Br ?_
  have e:bs.getD i false=bs[i]'(by lia):=by simp[Am,show i<bs.length by lia]
  rw[<- e];exact hQ
 .have I1:Inv X pins σ H { s with heap:=h',toks:=tk }:=I.kept λb o e=>hk b o (by simp;exact At (An e)) (Ag _ e)
  refine⟨.bl _,H,I1,rfl,?_⟩
  have e:(AE its.toArray.size).any (λi=>bs.getD i false)=bs.any id:=by
   rw[show its.toArray.size=bs.length by simpa using hlen];rw[Cm];simp only[List.any_eq_true,List.mem_range,id];constructor
   .rintro⟨i,hi,h⟩;exact⟨bs[i],A7 hi,by simpa[Am,hi]using h⟩
   .rintro⟨b,hb,h⟩;obtain⟨i,hi,e⟩:=Ay hb;exact⟨i,hi,by simpa[Am,hi,e]using h⟩
  rw[e];exact q
end
end L2
namespace HT
open PySem PyProof.Rows PySem.Spec
end HT
namespace L2
open PySem PySem.Spec PyProof.Rows
section
variable {X:Cx}{K:W.Frag}
end
section
variable {X:Cx}
theorem Inv.turnedL{pins:List (Addr × Obj)}{σ : St}{H:Hp}{s:Ae}{h':Heap}{t':Nat}{fp:List Addr}(I:Inv X pins σ H s)(k:∀b o, b ∉ fp -> s.heap.get? b=some o -> h'.get? b=some o)(hf:∀b ∈ fp, FpOk X pins H b) :
  Inv X pins σ H { s with heap:=h',toks:=t' }:=by
 have nb:∀b u,H b=some u->b ∉ fp:=λb u q z=>by rw[(hf b z).1]at q;cases q
 refine I.step (g':=s.gens) (d':=s.drawn) (ch:=fp) (λb hb=>?_) (λb o _ _ hc q _=>k b o hc q) (λb o _ _ hc q _=>⟨o.slots,k b o hc q⟩) (λ_ _ _ _ n=>n)
  (λb o hc q=>⟨o,k b o hc q⟩) (λ_ _ q=>q) (λ_ _ _ q=>q) (λb ps q=>⟨#[],by rw[q];simp⟩) (λm hm=>?_) (λb u q=>?_) I.bare
 .obtain⟨_,f1,_,f3,f4,f5⟩:=hf b hb;exact⟨f3,f1,f4,f5⟩
 .obtain⟨o,es,ep,ho,r⟩:=hm;exact⟨o,es,ep,k _ o (λz=>(hf _ z).2.1 rfl) ho,r⟩
 .refine (I.hok b u q).stay (λc v hc q'=>?_) (λ_ q=>q) λ_ _ q=>q
  rcases hc with z |z
  .rw[z]at q' ⊢;exact k _ _ (nb b u q) q'
  .exact k _ _ (nb c _ z) q'
noncomputable def Itz(K:W.Frag)(a b:Addr):It :=
 ⟨λi H=>∃xs ys x y,SqL K H a xs/\SqL K H b ys/\xs[i]?=some x/\ys[i]?=some y,
  λi H v H'=>∃p x y,v=.ref p/\H p=none/\H'=upd H p (.tup [x,y])/\(∀xs,SqL K H a xs->xs[i]?=some x)/\∀ys,SqL K H b ys->ys[i]?=some y,
  λi H=>∃xs ys,SqL K H a xs/\SqL K H b ys/\(xs.length<=i∨ys.length<=i)⟩
theorem zjX{P:AH}{w:AZ}{K:W.Frag}{es:List Expr}{x1:Nat}{pos:Pos}(a b z TI TO i1 i2:Addr)(D:ZipApart z TI TO i1 i2 a b) :
  Turn P w K (.Tuple es x1 pos) (Itz K a b) [z,TI,TO,i1,i2] z (λi h=>∃u v,IsZip h z TI TO .none/\IsPair h TI (.ref i1) (.ref i2)/\IsPair h TO u v/\h.IsListIter i1 a i/\h.IsListIter i2 b i) where
 mem:=by simp
 obj:=λi h st c hc=>by
  obtain⟨u,v,h1,h2,h3,⟨o4,e4,c4,d4⟩,⟨o5,e5,c5,d5⟩⟩:=st;simp only[Ao,Bh,or_false]at hc;rcases hc with rfl |rfl |rfl |rfl |rfl
  .exact⟨_,h1,λv q=>nomatch q⟩
  .exact⟨_,h2,λv q=>nomatch q⟩
  .exact⟨_,h3,λv q=>nomatch q⟩
  .exact⟨o4,e4,λv q=>by rw[d4]at q;cases q⟩
  .exact⟨o5,e5,λv q=>by rw[d5]at q;cases q⟩
 keep:=λi h h' ⟨u,v,h1,h2,h3,h4,h5⟩ k=>⟨u,v,k z (by simp) _ h1,k TI (by simp) _ h2,k TO (by simp) _ h3,h4.at λo q=>k i1 (by simp) o q,h5.at λo q=>k i2 (by simp) o q⟩
 item:=by
  intro X hP hw hK hc i pins s σ H E I hf st hg;subst hP hw hK;obtain⟨u0,v0,hz,hTI,hTO,h1,h2⟩:=st;obtain⟨xs,ys,x,y,hq1,hq2,hx,hy⟩:=hg;obtain⟨its1,rv1,p1,hz1⟩:=I.list hq1;obtain⟨its2,rv2,p2,hz2⟩:=I.list hq2;obtain⟨u,hu,ru⟩:=rv1.get hx;obtain⟨v,hv,rv⟩:=rv2.get hy;refine wpAny_pyNext_zip_item D hz hTI hTO h1 h2 p1.isList p2.isList (x:=u) (y:=v) (by simpa using hu) (by simpa using hv) λh' z1 t1 l1 l2 pr sz kk=>⟨_,rfl,?_⟩
  refine wpAny_letOwnedTupleGo_zip (s:={ s with heap:=h' }) z1 λh2' z2 sb=>?_
  have lt:∀c o,s.heap.get? c=some o->c<s.heap.objs.size:=λc o q=>An q
  have fr:H s.heap.objs.size=none:=I.hok.fresh (Ai _);have szl:z<s.heap.objs.size:=lt _ _ hz
  have I1:Inv X pins σ (upd H s.heap.objs.size (.tup [x,y])) { s with heap:=s.heap.push { cls:=.type "tuple",data:=.seq #[u,v] },toks:=s.toks } :=
   I.laid (t':=s.toks) (o:=.tup [x,y]) (λb ob q=>Ag _ q) (Ai _) ⟨by show 2<=sizeLine;decide,_,.cons ru (.cons rv .nil),IsTup.new _ _⟩
  have fp1:∀c∈[z,TI,TO,i1,i2],FpOk X pins (upd H s.heap.objs.size (.tup [x,y])) c:=λc hc=>by
   have hlt:c<s.heap.objs.size:=by
    simp only[Ao,Bh,or_false]at hc;rcases hc with rfl |rfl |rfl |rfl |rfl
    .exact szl
    .exact lt _ _ hTI
    .exact lt _ _ hTO
    .obtain⟨o,q,_⟩:=h1;exact lt _ _ q
    .obtain⟨o,q,_⟩:=h2;exact lt _ _ q
   have:=hf c hc;exact⟨by rw[zal (At hlt)];exact this.1,this.2⟩
  have I2:=I1.turnedL (h':=h2') (t':=s.toks) (fp:=[z,TI,TO,i1,i2]) (λc o hc q=>by
   simp only[Ao,Bh,or_false,not_or]at hc;refine (sb.2 c hc.1).trans ?_
   show h'.get? c=some o;rcases Heap.get?_push_cases q with⟨e,rfl⟩ |q
   .rw[e];exact pr
   .exact kk c o hc.1 hc.2.2.1 hc.2.2.2.1 hc.2.2.2.2 q) fp1
  have at2:∀{c:Addr},c≠z->h2'.get? c=h'.get? c:=λhc=>sb.2 _ hc
  refine⟨.ref s.heap.objs.size,_,I2,rfl,⟨_,x,y,rfl,fr,rfl,λzs hy'=>by rw[I.list_inj hy' hq1];exact hx,λzs hy'=>by rw[I.list_inj hy' hq2];exact hy⟩,⟨u,v,z2,?_,?_,?_,?_⟩,λc hc=>(fp1 c hc).1⟩
  .exact (at2 D.TIz).trans (kk TI _ D.TIz D.TITO D.TIi1 D.TIi2 hTI)
  .exact (at2 D.TOz).trans t1
  .exact l1.at λo q=>(at2 D.i1z).trans q
  .exact l2.at λo q=>(at2 D.i2z).trans q
 done:=by
  intro X hP hw hK hc i pins s σ H E I hf st hg;subst hP hw hK;obtain⟨u0,v0,hz,hTI,hTO,h1,h2⟩:=st;obtain⟨xs,ys,hq1,hq2,hend⟩:=hg;obtain⟨its1,rv1,p1,hz1⟩:=I.list hq1;obtain⟨its2,rv2,p2,hz2⟩:=I.list hq2;have e1:=rv1.length;have e2:=rv2.length;refine wpAny_pyNext_zip_end (I.ok.hd hc) D hz hTI hTO h1 h2 p1.isList p2.isList (hend.imp (λq=>by simp;lia) (λq=>by simp;lia)) λh' kk=>⟨rfl,?_⟩
  refine I.turnedL (t':=s.toks) (fp:=[z,TI,TO,i1,i2]) (λc o hc q=>?_) hf;simp only[Ao,Bh,or_false,not_or]at hc;exact kk c o hc.1 hc.2.2.1 hc.2.2.2.1 hc.2.2.2.2 q
 self:=λ_ _ _ _ _ ⟨_,_,hz,_⟩ h=>wpAny_pyIter_zip hz h
noncomputable def iZip(K:W.Frag)(t:TA):TI:=λσ H R=>t σ H λvs H1=>∃a b,vs=[.ref a,.ref b]/\(∃xs,SqL K H1 a xs)/\(∃ys,SqL K H1 b ys)/\R (Itz K a b) H1
theorem zhg {l m:Expr}{t:TA}{es:List Expr}{x1:Nat}{pos pos' p:Pos}(hg:Gl X "zip") (hm:X.mg "zip" = none) (ha:PA X [l, m] t)
  (he:AK [l,m] X.env=(false,eval l X.env)::AK [m] X.env:=by rfl) (hpl:(CN pos' (AK [m] X.env)).any (·.1)=false:=by rfl) :
  PI X (.Tuple es x1 pos) (.Call (.Name "zip" p) [l,m] [] pos') (iZip X.K t):=by
 intro pins s σ H R I h;refine Bj (zbO I hg hm (by rfl) ?_ (by decide) (by decide));refine A5 (thn (ha pos' pins s σ H _ I h) λus s1 ⟨vs,H1,I1,r1,q1⟩=>?_) he hpl;obtain⟨a,b,ex,⟨xs,hq1⟩,⟨ys,hq2⟩,q⟩:=q1;subst ex;obtain⟨u,v,rfl,ru,rv⟩:=vals2 r1
 cases ru
 cases rv
 obtain⟨its1,rv1,p1,hz1⟩:=I1.list hq1;obtain⟨its2,rv2,p2,hz2⟩:=I1.list hq2;have la:a<s1.heap.objs.size:=by obtain⟨o,ho,_⟩:=p1.isList;exact An ho
 have lb:b<s1.heap.objs.size:=by obtain⟨o,ho,_⟩:=p2.isList;exact An ho
 refine call_zip_2 p1.isList p2.isList λh' hz hTI hTO hi1 hi2 hsz kp=>?_
 have I2:Inv X pins σ H1 { s1 with heap:=h' }:=I1.kept (t':=s1.toks) kp;refine wpAny_pyIter_zip hz ?_
 have ne:∀i j:Nat,i≠j->(s1.heap.objs.size+i:Nat)≠s1.heap.objs.size+j:=λi j h=>by lia
 have na:∀i:Nat,a≠s1.heap.objs.size+i:=λi=>At (AB la (Bd _ _))
 have nb:∀i:Nat,b≠s1.heap.objs.size+i:=λi=>At (AB lb (Bd _ _))
 have D:ZipApart (s1.heap.objs.size+4) (s1.heap.objs.size+2) (s1.heap.objs.size+3) s1.heap.objs.size (s1.heap.objs.size+1) a b :=
  ⟨ne 2 4 (by decide),ne 3 4 (by decide),ne 0 4 (by decide),ne 1 4 (by decide),ne 2 3 (by decide),ne 2 0 (by decide),ne 2 1 (by decide),ne 3 0 (by decide),ne 3 1 (by decide),ne 0 1 (by decide),
   na 4,na 3,na 0,na 1,nb 4,nb 3,nb 0,nb 1⟩
 refine⟨s1.heap.objs.size+4,[s1.heap.objs.size+4,s1.heap.objs.size+2,s1.heap.objs.size+3,s1.heap.objs.size,s1.heap.objs.size+1],_,_,H1,rfl,I2,zjX a b _ _ _ _ _ D,⟨_,_,hz,hTI,hTO,hi1,hi2⟩,λc hc=>?_,q⟩
 have hge:s1.heap.objs.size<=c:=by
  simp only[Ao,Bh,or_false]at hc;rcases hc with rfl |rfl |rfl |rfl |rfl
  .exact Bd _ _
  .exact Bd _ _
  .exact Bd _ _
  .exact Ai _
  .exact Bd _ _
 exact I1.fpOk hge (I1.hok.fresh hge)
theorem zfe{K:W.Frag}{a b:Addr}{xs ys:List V}{g:TG}{tb:TS}{D:Ends}{σ : St}{H:Hp}(Pv:Nat -> St -> Hp -> Prop)(h0:Pv 0 σ H)(hl:∀i σ H, i <= xs.length -> Pv i σ H -> SqL K H a xs /\ SqL K H b ys)(he:xs.length=ys.length)
  (hs:∀i x y σ H p,xs[i]?=some x->ys[i]?=some y->Pv i σ H->H p=none->g (.ref p) σ (upd H p (.tup [x,y])) λσ2 H2=>tb { D with nx:=Pv (i+1),ct:=Pv (i+1),bk:=D.nx } σ2 H2) (hd:∀ σ H,Pv xs.length σ H->D.nx σ H) :
  ∃W:Nat->Nat->St->Hp->Prop,(∃m,W 0 m σ H)/\∀i m σ H,W i m σ H ->
   ((Itz K a b).stop i H/\D.nx σ H)∨((Itz K a b).go i H/\∃N:St->Hp->Prop,(∀ σ' H',N σ' H'->∃m',m'<m/\W (i+1) m' σ' H')/\∀x H',(Itz K a b).yld i H x H'->g x σ H' λσ2 H2=>tb { D with nx:=N,ct:=N,bk:=D.nx } σ2 H2):=by
 refine⟨λi m σ H=>m=xs.length-i/\i<=xs.length/\Pv i σ H,⟨xs.length,by simp,AV _,h0⟩,?_⟩;rintro i m σ H ⟨rfl,hi,p⟩;obtain⟨q1,q2⟩:=hl i σ H hi p
 by_cases hlt:i<xs.length
 .have hlt2:i<ys.length:=by lia
  refine .inr ⟨⟨xs,ys,xs[i],ys[i],q1,q2,by simp[hlt],by simp[hlt2]⟩,Pv (i+1),λσ' H' p'=>⟨xs.length-(i+1),by lia,rfl,hlt,p'⟩,λx H' y=>?_⟩;obtain⟨c,x',y',rfl,hc,rfl,e1,e2⟩:=y;exact hs i x' y' σ H c (e1 xs q1) (e2 ys q2) p hc
 .have e:i=xs.length:=by lia
  subst e;exact .inl ⟨⟨xs,ys,q1,q2,.inl (Ai _)⟩,hd σ H p⟩
end
section
variable {X:Cx}{e es:Expr}{te ts:TE}{pos p2:Pos}
end
section
variable {X:Cx}
end
section
variable {prog:AH}{w:AZ}{A:AL}{R:Result->Ae->Prop}{I:Addr}{fp wr:List Addr}{n:Nat}{P:Nat->Ad->Prop}{St:Nat->Heap->Prop}{dv:Ad}
end
section
variable {X:Cx}{pins:List (Addr×Obj)}{σ:St}{H0:Hp}{s:Ae}{l:Addr}{Q:VK}
end
section
variable {X:Cx}{p pos kpos kp:Pos}{e:Expr}{te:TE}{d:Int}{kj:Nat}
end
end L2
namespace HT
open PySem PyProof.Rows
variable {prog:AH}{w:AZ}{A:AL}{E:Ad->Ae->Prop}{s:Ae}
end HT
namespace L2
open PySem PySem.Spec PyProof.Rows
section
variable {X:Cx}{e es:Expr}{te ts:TE}{pos p2:Pos}
end
end L2
namespace HT
open PySem PyProof.Rows
section
open PySem.SeqAt
open PySem.AutoSeq1 (wpAny_loadPart')
open PySem.MeetsSeq PySem.MeetsSeq2 PySem.MeetsSeq3
end
section
variable {prog:AH}{w:AZ}{A:AL}{E:Ad->Ae->Prop}{s:Ae}
end
end HT
namespace L2
open PySem PySem.Spec PyProof.Rows
section
variable {X:Cx}{pos:Pos}
end
section
variable {prog:AH}{w:AZ}{A:AL}{E:Ad->Ae->Prop}{s:Ae}{it d:Addr}{i ep:Nat}{es:Array DictEntry}{od:Obj}
end
section
variable {X:Cx}{tg:Expr}
end
section
variable {prog:AH}{w:AZ}{K:Type} [DecidableEq K] {knd:HeapKind prog w K}{A:AL}{E:Ad->Ae->Prop}{s:Ae}{d a:Addr}{xs:List (K×Addr×Ad)}{k:K}
end
section
variable {X:Cx}{o e f:Expr}{apos cpos:Pos}{td ty tx:TE}
end
end L2
namespace RP
end RP
namespace L2
open PySem PySem.Spec PyProof.Rows
theorem zeK{bt:Nat->Nat->Bool}:∀n,argBest bt n<=n
 | 0=>Ai _
 |n+1=>by
  show (if bt (n+1) (argBest bt n)=true then n+1 else argBest bt n)<=n+1;split
  .exact Ai _
  .exact Nat.le_succ_of_le (zeK n)
theorem zdd{v:Nat->Int}:∀(n j:Nat),j<=n->v j<=v (argBest (λi j=>decide (v i > v j)) n)
 | 0,j,h=>by
  obtain rfl:j=0:=by lia
  exact Int.le_refl _
 |n+1,j,h=>by
  show v j<=v (if decide (v (n+1) > v (argBest (λi j=>decide (v i > v j)) n))=true then n+1 else argBest (λi j=>decide (v i > v j)) n)
  by_cases hb:v (n+1) > v (argBest (λi j=>decide (v i > v j)) n)
  .rw[if_pos (decide_eq_true hb)];rcases A1 n j with q |q
   .obtain rfl:j=n+1:=by lia
    exact Int.le_refl _
   .have:=zdd (v:=v) n j q;lia
  .rw[if_neg (by simpa using hb)];rcases A1 n j with q |q
   .obtain rfl:j=n+1:=by lia
    lia
   .exact zdd n j q
theorem zlB:∀(ns:List Int) (its:List Ad),Vals (ns.map V.int) its->∃ts:Array (Int×Tok),its.toArray=intItems ts/\ts.toList.map (·.1)=ns:=by
 intro ns its r
 have:∀(ns:List Int) (its:List Ad),Vals (ns.map V.int) its->∃ts:List (Int×Tok),its=ts.map (λp=>C6 p.1 p.2)/\ts.map (·.1)=ns:=by
  intro ns
  induction ns with
  |nil=>intro its r;cases r;exact⟨[],rfl,rfl⟩
  |cons n ns ih =>
   intro its r
   cases r with
   |cons h t =>
    obtain⟨ts,h1,h2⟩:=ih _ t;obtain⟨tk,rfl⟩:=(show ∃t,_=C6 n t from h);exact⟨(n,tk)::ts,by rw[h1];rfl,by rw[Ba,h2]⟩
 obtain⟨ts,h1,h2⟩:=this ns its r;exact⟨ts.toArray,by rw[h1];simp[intItems],by simpa using h2⟩
section
variable {X:Cx}
noncomputable def IsMin(ns:List Int)(m:Int):Prop:=m∈ns/\∀n∈ns,m<=n
noncomputable def IsMax(ns:List Int)(m:Int):Prop:=m∈ns/\∀n∈ns,n<=m
theorem zjG (hh:X.calm=true):CallR X (.builtin "max") (λxs H Q=>∃(p:Addr) (ns:List Int),xs=[.ref p]/\SqL X.K H p (ns.map V.int)/\ns≠[]/\∀m,IsMax ns m->Q (.int m) H):=by
 intro pins s σ H xs us Q I r h;obtain⟨p,ns,rfl,hq,hne,q⟩:=h;obtain⟨u,rfl,ru⟩:=vals1 r
 cases (show u=AA p from ru)
 obtain⟨its,rv,pl,hz⟩:=I.list hq;obtain⟨ts,h1,h2⟩:=zlB ns its rv;have hl1:=pl.isList;rw[h1]at hl1;have hgl:ns.length=ts.size:=by rw[<- h2];simp
 have hpos:0<ns.length:=CD.mpr hne;have gd:∀j,numAt ts j=ns.getD j 0:=λj=>by rw[numAt_eq,h2]
 refine max_intList (I.ok.hd hh) hl1 (by lia) λv h' tk hv hk=>?_
 obtain⟨t,rfl⟩:=intItems_at hv;have hle:=zeK (bt:=λi j=>decide (numAt ts i > numAt ts j)) (ts.size-1);refine⟨.int _,H,I.kept hk,⟨_,rfl⟩,q _ ⟨?_,λn hn=>?_⟩⟩
 .rw[gd,Am,Aa (by lia)];exact A7 _
 .obtain⟨j,hj,rfl⟩:=Ay hn;have:=zdd (v:=numAt ts) (ts.size-1) j (by lia);rw[gd j,Am,Aa hj]at this;exact this
end
end L2
namespace HT
open PySem PyProof.Rows
variable {prog:AH}{w:AZ}{A:AL}{E:Ad->Ae->Prop}{s:Ae}
end HT
namespace L2
open PySem PySem.Spec PyProof.Rows
section
variable {X:Cx}{e es:Expr}{te ts:TE}{pos p2:Pos}
end
section
variable {prog:AH}{w:AZ}{A:AL}{E:Ad->Ae->Prop}{s:Ae}
end
section
variable {X:Cx}
end
section
variable {X:Cx}
end
theorem zfz{A:Prop}{D:Heap->Prop}(C:Heap->Prop)(g:(∀h,D h->C h)->A)(h:∀h,D h->C h):A:=g h
noncomputable abbrev zeb (h:Heap) (z TI TO T0:Addr) (b:Bool):Prop:=h.get? z=some { cls:=.type "zip",dict:=none,data:=.fields #[rawInt T0,.bool b,.bool false,.ref TI,.ref TO],slots:=#[] }
section
variable {prog:AH}{w:AZ}{A:AL}{E:Ad->Ae->Prop}{s:Ae}
theorem zii{z TI TO i1 i2 l1 l2 T0:Addr}{b:Bool}{k1 k2:Nat}{xs ys:Array Ad}{x y:Ad}{o0:Obj}{Q:Option Ad -> Ae -> Prop}(D:ZipApart z TI TO i1 i2 l1 l2)(hz:zeb s.heap z TI TO T0 b)(hT0:s.heap.get? T0=some o0)(hTI:IsPair s.heap TI (.ref i1) (.ref i2))
  (h1:s.heap.IsListIter i1 l1 k1) (h2:s.heap.IsListIter i2 l2 k2) (hl1:s.heap.IsList l1 xs) (hl2:s.heap.IsList l2 ys) (hx:xs[k1]?=some x) (hy:ys[k2]?=some y)
  (hQ:∀h',zeb h' z TI TO T0 true->h'.IsListIter i1 l1 (k1+1)->h'.IsListIter i2 l2 (k2+1)->IsPair h' s.heap.objs.size x y ->
   (∀c o,c≠z->c≠i1->c≠i2->s.heap.get? c=some o->h'.get? c=some o)->Q (some (.ref s.heap.objs.size)) { s with heap:=h' }):Ar (Aw prog w) A (pyNext (.ref z)) Q E s:=by
 have hT:s.TypeIs (.ref z) "zip":=⟨_,hz,rfl⟩;unfold pyNext;refine Ac (wpAny_attempt (CJ (name:=Bf "__next__") hT CV (wpAny_call_entry CV hT PySem.F.entry_zip_next ?_ (PySem.F.args_zip_next_1 _))));show Ar (Aw prog w) A.in1 (field (.ref z) 2 >>= _) _ _ s;refine Ac (B8 hz rfl (x:=.bool false) rfl ?_);show Ar (Aw prog w) A.in1 (field (.ref z) 3 >>= _) _ _ s;refine Ac (B8 hz rfl (x:=.ref TI) rfl (Ac (Cd hTI rfl ?_)));show Ar (Aw prog w) A.in1 (BK (.ref z) >>= _) _ _ s;unfold BK;refine Ac (Ac (B8 hz rfl (x:=rawInt T0) rfl ?_));show Ar (Aw prog w) A.in1 (loadIfAlive ((T0:Int).toNat) >>= _) _ _ s;refine Ac (W.kdx_alive (o:=o0) (by simpa using hT0) ?_);simp only[Option.isNone_some,BB,if_false];refine Ac (B8 hz rfl (x:=.bool b) rfl ?_);refine zfz (D:=λha=>zeb ha z TI TO T0 true/\C7 z s.heap ha) ?C (λshare=>?g) ?h
 case g =>
  cases b with
  |false =>
   rw[if_pos (by decide)];refine Ac (wpAny_setField_rec hz (by simp) λha hza sa=>Aj ?_);exact share ha ⟨hza,sa⟩
  |true =>
   rw[if_neg (by decide)];refine Aj ?_
   exact share s.heap ⟨hz,⟨rfl,λ_ _=>rfl⟩⟩
 case h =>
  rintro ha ⟨hza,sa⟩;rw[if_neg AM];refine Ac ?_
  rw[<- Array.forIn_toList];simp only[Dp,List.forIn_nil];refine Ac (Ac ?_);refine A9 ?_
  show Ar (Aw prog w) A.in1 (Dd (.ref i1) >>= _) _ _ _;refine Ac (wpAny_nextOf_list_item (h1.extBut sa.extBut D.i1z) (hl1.extBut sa.extBut D.l1z) hx λhb h1b sb=>Aj (Aj (Ac (Ac (A9 ?_)))));show Ar (Aw prog w) A.in1 (Dd (.ref i2) >>= _) _ _ _;refine Ac (wpAny_nextOf_list_item ((h2.extBut sa.extBut D.i2z).extBut sb.extBut D.i12.symm) ((hl2.extBut sa.extBut D.l2z).extBut sb.extBut D.l2i1) hy λhc h2c sc=>Aj (Aj (Aj ?_)));refine Ac (wpAny_newTuple ?_ (by show 2<=sizeLine;decide));have sz:hc.objs.size=s.heap.objs.size:=by rw[sc.1,sb.1,sa.1]
  refine Aj ⟨.ref hc.objs.size,rfl,Aj ?_⟩;have kc:∀c o,c≠z->c≠i1->c≠i2->s.heap.get? c=some o->hc.get? c=some o:=λc o c1 c2 c3 e=>sc.extBut _ _ c3 (sb.extBut _ _ c2 (sa.extBut _ _ c1 e))
  have up:∀{c:Addr} {o u:Obj},hc.get? c=some o->(hc.push u).get? c=some o:=λe=>Ag _ e
  rw[sz];refine hQ (hc.push { cls:=.type "tuple",data:=.seq #[x,y] }) (up (sc.extBut _ _ D.i2z.symm (sb.extBut _ _ D.i1z.symm hza))) ((h1b.extBut sc.extBut D.i12).at λo e=>up e) (h2c.at λo e=>up e) ?_ λc o c1 c2 c3 e=>up (kc c o c1 c2 c3 e)
  show (hc.push _).get? s.heap.objs.size=_;rw[<- sz];exact AC _ rfl
theorem zjU{z TI TO i1 i2 l1 l2 T0:Addr}{b:Bool}{k:Nat}{xs:Array Ad}{o0:Obj}{Q:Option Ad -> Ae -> Prop}(hh:A.handled=none)(D:ZipApart z TI TO i1 i2 l1 l2)(hz:zeb s.heap z TI TO T0 b)(hT0:s.heap.get? T0=some o0)(hTI:IsPair s.heap TI (.ref i1) (.ref i2))
  (h1:s.heap.IsListIter i1 l1 k) (hl1:s.heap.IsList l1 xs) (hx:xs[k]?=none)
  (hQ:∀h',(∀c o,c≠z->c≠i1->s.heap.get? c=some o->h'.get? c=some o)->Q none { s with heap:=h' }):Ar (Aw prog w) A (pyNext (.ref z)) Q E s:=by
 have hT:s.TypeIs (.ref z) "zip":=⟨_,hz,rfl⟩;unfold pyNext;refine Ac (wpAny_attempt (CJ (name:=Bf "__next__") hT CV (wpAny_call_entry CV hT PySem.F.entry_zip_next ?_ (PySem.F.args_zip_next_1 _))));show Ar (Aw prog w) A.in1 (field (.ref z) 2 >>= _) _ _ s;refine Ac (B8 hz rfl (x:=.bool false) rfl ?_);show Ar (Aw prog w) A.in1 (field (.ref z) 3 >>= _) _ _ s;refine Ac (B8 hz rfl (x:=.ref TI) rfl (Ac (Cd hTI rfl ?_)));show Ar (Aw prog w) A.in1 (BK (.ref z) >>= _) _ _ s;unfold BK;refine Ac (Ac (B8 hz rfl (x:=rawInt T0) rfl ?_));show Ar (Aw prog w) A.in1 (loadIfAlive ((T0:Int).toNat) >>= _) _ _ s;refine Ac (W.kdx_alive (o:=o0) (by simpa using hT0) ?_);simp only[Option.isNone_some,BB,if_false];refine Ac (B8 hz rfl (x:=.bool b) rfl ?_);refine zfz (D:=λha=>zeb ha z TI TO T0 true/\C7 z s.heap ha) ?C (λshare=>?g) ?h
 case g =>
  cases b with
  |false =>
   rw[if_pos (by decide)];refine Ac (wpAny_setField_rec hz (by simp) λha hza sa=>Aj ?_);exact share ha ⟨hza,sa⟩
  |true =>
   rw[if_neg (by decide)];refine Aj ?_
   exact share s.heap ⟨hz,⟨rfl,λ_ _=>rfl⟩⟩
 case h =>
  rintro ha ⟨hza,sa⟩;rw[if_neg AM];refine Ac ?_
  rw[<- Array.forIn_toList];simp only[Dp,List.forIn_nil];refine Ac (Ac (A9 ?_));show Ar (Aw prog w) A.in1 (Dd (.ref i1) >>= _) _ _ _;refine Ac (wpAny_nextOf_list_end hh (h1.extBut sa.extBut D.i1z) (hl1.extBut sa.extBut D.l1z) hx λhb e sb ⟨oe,ge,ce⟩=>?_);exact Ac (wpAny_isInstance (b:=true) (T:="StopIteration") ⟨oe,ge,ce⟩ isSubtype_stop (Aj (hQ _ λc o c1 c3 q=>sb _ _ c3 (sa.extBut _ _ c1 q))))
theorem zhK:typeLookup (.type "zip") "__len__" = pure none:=by rw[typeLookup_type,builtinLookup_eq_fast];kernel_rfl
theorem zgh:typeLookup (.type "zip") "__length_hint__" = pure none:=by rw[typeLookup_type,builtinLookup_eq_fast];kernel_rfl
theorem zfl{z TI TO:Addr}{Q:Ad -> Ae -> Prop}(hz:IsZip s.heap z TI TO .none)
  (loop:∀h' c,(∀b o,s.heap.get? b=some o->h'.get? b=some o)->h'.get? s.heap.objs.size=some { cls:=.type "list",data:=.seq #[] c }->h'.objs.size=s.heap.objs.size+1 ->
   BY (Aw prog w) A.in1 (.builtin "list.extend.loop" ⟨[.ref s.heap.objs.size,.ref z,.none],[]⟩) (wants (λr s₂=>r=.none/\Q (.ref s.heap.objs.size) s₂) E) { s with heap:=h' }) :
  Ar (Aw prog w) A (call (.type "list") [.ref z]) Q E s:=by
 refine callType_codes (Q₁:=λobj s₁=>obj=.ref s.heap.objs.size/\s₁={ s with heap:=s.heap.push { cls:=.type "list",data:=.seq #[] } }) PySem.F.called_list (PySem.F.typeCall_list_1 _) PySem.F.entry_list_init (code_list_new _ ⟨rfl,rfl⟩) λobj s₁ h₁=>?_
 obtain⟨rfl,rfl⟩:=h₁;have hS:(s.heap.push { cls:=.type "list",data:=.seq #[] }).get? s.heap.objs.size=some { cls:=.type "list",data:=.seq #[] }:=AC _ rfl;refine⟨⟨_,hS,rfl⟩,PySem.F.args_list_init_2 _ _,?_⟩;have hzs:z≠s.heap.objs.size:=At (An hz);show Ar (Aw prog w) A.in1.in1 (do let old <- Builtin.List.listItems (.ref s.heap.objs.size);Builtin.List.listUpdate (.ref s.heap.objs.size) (λ_=>#[]);letGo old.toList.reverse;C0 (.ref s.heap.objs.size) (.ref z) .none) _ _ _;unfold Builtin.List.listItems;refine Ac (Ac (Cd hS rfl (Aj ?_)));show Ar (Aw prog w) A.in1.in1 (updateSeq s.heap.objs.size (λ_=>#[]) >>= λ_=>letGo (#[]:Array Ad).toList.reverse >>= λ_=>C0 (.ref s.heap.objs.size) (.ref z) .none) _ _ _;refine Ac (BO hS rfl (Ac (Cs ?_)));have g2:=BH (AG (λ_=>(#[]:Array Ad))) hS rfl;have k2:∀c o,s.heap.get? c=some o->((s.heap.push { cls:=.type "list",data:=.seq #[] }).update s.heap.objs.size (AG (λ_=>(#[]:Array Ad)))).get? c=some o:=λc o e=>(Bb _ _ (Nat.ne_of_gt (An e))).trans (Ag _ e)
 have z2:=k2 _ _ hz;have w2:((s.heap.push { cls:=.type "list",data:=.seq #[] }).update s.heap.objs.size (AG (λ_=>(#[]:Array Ad)))).objs.size=s.heap.objs.size+1:=by unfold Heap.update;simp
 generalize (s.heap.push { cls:=.type "list",data:=.seq #[] }).update s.heap.objs.size (AG (λ_=>(#[]:Array Ad)))=h2 at g2 k2 z2 w2;unfold C0;have hT:(Shared.mk h2 s.gens s.drawn s.toks s.os).TypeIs (.ref z) "zip":=⟨_,z2,rfl⟩;refine Ac (wpAny_typeOf hT ?_);have q1:Builtin.List.listSameRef (.ref s.heap.objs.size) (.ref z)=false:=by simp[Builtin.List.listSameRef,Bq hzs]
 simp only[q1,show (Value.type "zip" == Value.type "list")=false by decide,show (Value.type "zip" == Value.type "tuple")=false by decide,Bool.or_false,BB,if_false];refine Ac (wpAny_pyIter_zip z2 (Ac (A9 ?_)));unfold Builtin.List.listLengthHint;refine Ac (wpAny_specialOf hT zhK ?_);show Ar (Aw prog w) A.in1.in1 (specialOf (AA z) (Bf "__length_hint__") >>= _) _ _ _;refine Ac (wpAny_specialOf hT zgh (Aj ?_));show Ar (Aw prog w) A.in1.in1 (rule "list.extend.makes-room" >>= λ_=>Builtin.List.listTouch (.ref s.heap.objs.size) >>= λ_=>again (.builtin "list.extend.loop" ⟨[.ref s.heap.objs.size,.ref z,.none],[]⟩)) _ _ _;refine Ac (wpAny_rule (Ac ?_));show Ar (Aw prog w) A.in1.in1 (updateSeq s.heap.objs.size (·.push .none) >>= λ_=>updateSeq s.heap.objs.size (·.pop)) _ _ _;refine Ac (BO g2 rfl ?_);have g3:=BH (AG (·.push C1)) g2 rfl;refine BO (hz:=by seq_fits) g3 rfl ?_
 have g4:=BH (AG (·.pop)) g3 rfl;refine Aj ⟨BV Ci _,loop _ _ (λc o e=>?_) g4 ?_⟩
 .exact (Bb _ _ (Nat.ne_of_gt (An e))).trans ((Bb _ _ (Nat.ne_of_gt (An e))).trans (k2 c o e))
 .rw[<- w2];unfold Heap.update;simp
end
noncomputable def Prs(H:Hp)(ts xs ys:List V)(i:Nat):Prop:=ts.length=i/\∀(j:Nat) v,ts[j]?=some v->∃t x y,v=.ref t/\xs[j]?=some x/\ys[j]?=some y/\H t=some (.tup [x,y])
theorem Prs.more{H H':Hp}{ts xs ys:List V}{i:Nat}(h:Prs H ts xs ys i)(k:∀b zs,H b=some (.tup zs)->H' b=some (.tup zs)){t:Addr}{x y:V}(hx:xs[i]?=some x)(hy:ys[i]?=some y)(ht:H' t=some (.tup [x,y])):Prs H' (ts++[.ref t]) xs ys (i+1):=by
 refine⟨by rw[Al,h.1];rfl,λj v hj=>?_⟩;rcases A1 j ts.length with q |q
 .rw[As q]at hj;obtain⟨t',x',y',e,h1,h2,h3⟩:=h.2 j v hj;exact⟨t',x',y',e,h1,h2,k _ _ h3⟩
 .rw[AD q]at hj
  have hz:j-ts.length=0:=by have:=(Ab.mp hj).1;simp at this;lia
  rw[hz]at hj
  cases hj
  have:j=i:=by have:=h.1;lia
  subst this;exact⟨t,x,y,rfl,hx,hy,ht⟩
section
variable {X:Cx}{pins:List (Addr×Obj)}{σ:St}
theorem zjT{A:AL}{R:Result -> Ae -> Prop}{res:Ad}(hh:A.handled=none){z TI TO i1 i2 a b S:Addr}(D:ZipApart z TI TO i1 i2 a b){xs ys:List V}(hlen:xs.length=ys.length)(h1000:xs.length <= 1000)(haS:a ≠ S)(hbS:b ≠ S) :
    ∀(k i:Nat) (s:Ae) (H:Hp) (ts:List V),xs.length-i=k->i<=xs.length->Inv X pins σ H s->(∀c∈[z,TI,TO,i1,i2],FpOk X pins H c)->H S=some (.lst ts)->Prs H ts xs ys i->SqL X.K H a xs->SqL X.K H b ys ->
    ((∃u v,IsZip s.heap z TI TO .none/\IsPair s.heap TO u v)∨∃T0 bb zs,zeb s.heap z TI TO T0 bb/\H T0=some (.tup zs))->IsPair s.heap TI (.ref i1) (.ref i2)->(∃o,s.heap.get? TO=some o)->s.heap.IsListIter i1 a i->s.heap.IsListIter i2 b i ->
    (∀s' H' ts',Inv X pins σ H' s'->(∀c o,c≠S->H c=some o->H' c=some o)->H' S=some (.lst ts')->Prs H' ts' xs ys xs.length->R (.ok (.ret res)) s') ->
    BY (Aw X.prog X.w) A (.builtin "list.extend.loop" ⟨[.ref S,.ref z,res],[]⟩) R s:=by
  intro k
  induction k with
  |zero =>
    intro i s H ts hk hi I hf hS hp hqa hqb hzs hTI hTOx h1 h2 hR;have hin:i=xs.length:=by lia
    obtain⟨its1,rv1,p1,hz1⟩:=I.list hqa;obtain⟨its2,rv2,p2,hz2⟩:=I.list hqb;have e1:=rv1.length;refine Co PySem.F.entry_extend_loop ?_
    rw[BR Ci _];show Ar (Aw X.prog X.w) A.in1 (pyNext (.ref z) >>= _) _ _ s
    have fin:∀h',(∀c o,c ∉ [z,TI,TO,i1,i2]->s.heap.get? c=some o->h'.get? c=some o)->R (.ok (.ret res)) { s with heap:=h' }:=λh' kk=>by have I':Inv X pins σ H { s with heap:=h' }:=I.turnedL (t':=s.toks) (fp:=[z,TI,TO,i1,i2]) (λc o hc q=>kk c o hc q) hf;exact hR _ H ts I' (λ_ _ _ q=>q) hS (hin ▸ hp)
    refine Ac ?_
    rcases hzs with⟨u,v,hz,hTO⟩ |⟨T0,bb,zs,hz,hT0⟩
    . refine wpAny_pyNext_zip_end hh D hz hTI hTO h1 h2 p1.isList p2.isList (.inl (by simp;lia)) λh' kk=>Aj ?_
      exact fin h' λc o hc q=>by simp only[Ao,Bh,or_false,not_or]at hc;exact kk c o hc.1 hc.2.2.1 hc.2.2.2.1 hc.2.2.2.2 q
    . obtain⟨o0, g0⟩ : ∃o, s.heap.get? T0=some o := by obtain⟨_,its,_,o,e,_⟩:=(show ObjOk X.prog X.w H s.heap T0 (.tup zs) from I.hok T0 _ hT0);exact⟨o,e⟩
      refine zjU hh D hz g0 hTI h1 p1.isList (by simp;lia) λh' kk=>Aj ?_
      exact fin h' λc o hc q=>by
        simp only[Ao,Bh,or_false,not_or]at hc;exact kk c o hc.1 hc.2.2.2.1 q
  |succ k ih =>
    intro i s H ts hk hi I hf hS hp hqa hqb hzs hTI hTOx h1 h2 hR;have hlt:i<xs.length:=by lia
    obtain⟨its1,rv1,p1,hz1⟩:=I.list hqa;obtain⟨its2,rv2,p2,hz2⟩:=I.list hqb;obtain⟨x,hx⟩:∃x,xs[i]?=some x:=⟨_,Aa hlt⟩;obtain⟨y,hy⟩:∃y,ys[i]?=some y:=⟨_,Aa (by lia)⟩;obtain⟨u,hu,ru⟩:=rv1.get hx;obtain⟨v,hv,rv⟩:=rv2.get hy;refine Co PySem.F.entry_extend_loop ?_
    rw[BR Ci _];show Ar (Aw X.prog X.w) A.in1 (pyNext (.ref z) >>= _) _ _ s;refine Ac ?_
    have fr:H s.heap.objs.size=none:=I.hok.fresh (Ai _);have lt:∀{c o},s.heap.get? c=some o->c<s.heap.objs.size:=λe=>An e
    have flt:∀c∈[z,TI,TO,i1,i2],c≠s.heap.objs.size:=λc hc=>by
      simp only[Ao,Bh,or_false]at hc;rcases hc with rfl |rfl |rfl |rfl |rfl
      . rcases hzs with⟨_,_,hz,_⟩ |⟨_,_,_,hz,_⟩
        . exact At (lt hz)
        . exact At (lt hz)
      . exact At (lt hTI)
      . obtain⟨o,q⟩:=hTOx;exact At (lt q)
      . obtain⟨o,q,_⟩:=h1;exact At (lt q)
      . obtain⟨o,q,_⟩:=h2;exact At (lt q)
    have I1:Inv X pins σ (upd H s.heap.objs.size (.tup [x,y])) { s with heap:=s.heap.push { cls:=.type "tuple",data:=.seq #[u,v] },toks:=s.toks } :=
      I.laid (t':=s.toks) (o:=.tup [x,y]) (λb ob q=>Ag _ q) (Ai _) ⟨by show 2<=sizeLine;decide,_,.cons ru (.cons rv .nil),IsTup.new _ _⟩
    have fp1:∀c∈[z,TI,TO,i1,i2],FpOk X pins (upd H s.heap.objs.size (.tup [x,y])) c:=λc hc=>⟨by rw[zal (flt c hc)];exact (hf c hc).1,(hf c hc).2⟩
    have hSn:S≠s.heap.objs.size:=zao hS fr
    have step:∀(h':Heap) (T0:Addr) (bb:Bool) (zs:List V), zeb h' z TI TO T0 bb -> upd H s.heap.objs.size (.tup [x, y]) T0=some (.tup zs) -> h'.IsListIter i1 a (i + 1) -> h'.IsListIter i2 b (i + 1) -> IsPair h' TI (.ref i1) (.ref i2) -> (∃o, h'.get? TO=some o) -> IsPair h' s.heap.objs.size u v ->
        (∀c o,c ∉ [z,TI,TO,i1,i2]->s.heap.get? c=some o->h'.get? c=some o) ->
        Ar (Aw X.prog X.w) A.in1 (updateSeq S (·.push (.ref s.heap.objs.size)) >>= λ_=>again (.builtin "list.extend.loop" ⟨[.ref S,.ref z,res],[]⟩)) (λfin s'=>match fin with |.done f=>R (.ok f) s' |.again c'=>c'.quiet=true/\BY (Aw X.prog X.w) A c' R s') (λe s'=>R (.error e) s') { s with heap:=h' }:=by
      intro h' T0 bb zs z1 hT0 l1 l2 tI' tO' pr kk
      have I2:=I1.turnedL (h':=h') (t':=s.toks) (fp:=[z,TI,TO,i1,i2]) (λc o hc q=>by
        rcases Heap.get?_push_cases q with⟨e,rfl⟩ |q
        . rw[e];exact pr
        . exact kk c o hc q) fp1
      have hS2:upd H s.heap.objs.size (.tup [x,y]) S=some (.lst ts):=by rw[zal hSn];exact hS
      obtain⟨zz,its,n,rel,gS⟩:=(show ObjOk X.prog X.w _ h' S (.lst ts) from I2.hok S _ hS2);have hl:=rel.length;have htl:ts.length=i:=hp.1;refine Ac (BO gS rfl (Aj ⟨BV Ci _,?_⟩) (by simp;lia) (by simp[sizeLine];lia));have hSz:∀c∈[z,TI,TO,i1,i2],c≠S:=λc hc e=>by have:=(hf c hc).1;rw[e,hS]at this;cases this
      have up:∀c o,c≠S->h'.get? c=some o->(h'.update S (AG (·.push (.ref s.heap.objs.size)))).get? c=some o:=λc o hc q=>(Bb _ _ (Bq hc)).trans q
      have g3:=BH (AG (·.push (.ref s.heap.objs.size))) gS rfl
      have hsz:(ts++[V.ref s.heap.objs.size]).length<=sizeLine:=by
        rw[Al];have:(1001:Nat)<=sizeLine:=by decide
        show ts.length+1<=sizeLine;lia
      have I3:Inv X pins σ (upd (upd H s.heap.objs.size (.tup [x,y])) S (.lst (ts++[.ref s.heap.objs.size]))) { s with heap:=h'.update S (AG (·.push (.ref s.heap.objs.size))),toks:=s.toks } :=
        I2.write (x:=S) (e:=S) (t':=s.toks) (by rw[hS2];exact Ca) (.inl rfl) (λc o hc q=>up c o hc q) ⟨_,g3⟩ ⟨hsz,its++[.ref s.heap.objs.size],_,Vals.append rel (.cons (show RelV (V.ref s.heap.objs.size) (AA s.heap.objs.size) from rfl) .nil),by rw[g3,<- List.push_toArray];rfl⟩
      have kS:∀c o,c≠S->H c=some o->upd (upd H s.heap.objs.size (.tup [x,y])) S (.lst (ts++[.ref s.heap.objs.size])) c=some o:=λc o hc q=>by rw[zal hc,zal (zao q fr)];exact q
      have seq:∀{c:Addr} {vs:List V},c≠S->SqL X.K H c vs->SqL X.K (upd (upd H s.heap.objs.size (.tup [x,y])) S (.lst (ts++[.ref s.heap.objs.size]))) c vs:=λhc q=>by
        rcases q with (e |⟨o,e⟩) |q
        . exact .inl (.inl (kS _ _ hc e))
        . exact .inl (.inr ⟨o,kS _ _ hc e⟩)
        . exact .inr q
      have hT0S:T0≠S:=λe=>by rw[e,hS2]at hT0;cases hT0
      refine ih (i+1) _ _ _ (by lia) hlt I3 (λc hc=>⟨?_,(fp1 c hc).2⟩) zaa (hp.more (λb zs q=>kS _ _ (ne_of q hS (λz=>nomatch z)) q) hx hy ?_) (seq haS hqa) (seq hbS hqb) (.inr ⟨T0,bb,zs,up _ _ (hSz z (by simp)) z1,?_⟩) (up _ _ (hSz TI (by simp)) tI') (let ⟨o,q⟩:=tO';⟨o,up _ _ (hSz TO (by simp)) q⟩) (l1.at λo e=>up _ _ (hSz i1 (by simp)) e) (l2.at λo e=>up _ _ (hSz i2 (by simp)) e) λs' H' ts' I' kk' hS' hp'=>?_
      . rw[zal (hSz c hc)];exact (fp1 c hc).1
      . rw[zal (Bq hSn),zaa]
      . rw[zal hT0S];exact hT0
      . exact hR s' H' ts' I' (λc o hc q=>kk' c o hc (kS c o hc q)) hS' hp'
    rcases hzs with⟨u0,v0,hz,hTO⟩ |⟨T0,bb,zs,hz,hT0⟩
    . refine wpAny_pyNext_zip_item D hz hTI hTO h1 h2 p1.isList p2.isList (x:=u) (y:=v) (by simpa using hu) (by simpa using hv) λh' z1 t1 l1 l2 pr sz kk=>?_
      refine step h' _ false _ z1 zaa l1 l2 (kk TI _ D.TIz D.TITO D.TIi1 D.TIi2 hTI) ⟨_,t1⟩ pr λc o hc q=>?_
      simp only[Ao,Bh,or_false,not_or]at hc;exact kk c o hc.1 hc.2.2.1 hc.2.2.2.1 hc.2.2.2.2 q
    . obtain⟨o0, g0⟩ : ∃o, s.heap.get? T0=some o := by obtain⟨_,its,_,o,e,_⟩:=(show ObjOk X.prog X.w H s.heap T0 (.tup zs) from I.hok T0 _ hT0);exact⟨o,e⟩
      refine zii D hz g0 hTI h1 h2 p1.isList p2.isList (x:=u) (y:=v) (by simpa using hu) (by simpa using hv) λh' z1 l1 l2 pr kk=>?_
      refine step h' T0 true zs z1 (by rw[zal (zao hT0 fr)];exact hT0) l1 l2 (kk TI _ D.TIz D.TIi1 D.TIi2 hTI) (let ⟨o,q⟩:=hTOx;⟨o,kk TO o D.TOz D.TOi1 D.TOi2 q⟩) pr λc o hc q=>?_
      simp only[Ao,Bh,or_false,not_or]at hc;exact kk c o hc.1 hc.2.2.2.1 hc.2.2.2.2 q
end
noncomputable def zjY(K:W.Frag)(t:TA):TE:=λσ H Q=>t σ H λvs H1=>∃a b xs ys,vs=[.ref a,.ref b]/\SqL K H1 a xs/\SqL K H1 b ys/\xs.length=ys.length/\xs.length<=1000 /\
 ∀S H' ts,H1 S=none->(∀c o,H1 c=some o->H' c=some o)->H' S=some (.lst ts)->Prs H' ts xs ys xs.length->Q (.ref S) H'
section
variable {X:Cx}{l m:Expr}{t:TA}{p p2 pos pos2:Pos}
theorem zhV (hg:Gl X "list") (hm:X.mg "list" = none) (hg2:Gl X "zip") (hm2:X.mg "zip" = none) (ha:PA X [l, m] t) (hc:X.calm=true := by rfl)
  (he2:AK [l,m] X.env=(false,eval l X.env)::AK [m] X.env:=by rfl) (hpl2:(CN pos2 (AK [m] X.env)).any (·.1)=false:=by rfl)
  (he:AK [.Call (.Name "zip" p2) [l,m] [] pos2] X.env=(false,eval (.Call (.Name "zip" p2) [l,m] [] pos2) X.env)::AK [] X.env:=by rfl) (hpl:(CN pos (AK [] X.env)).any (·.1)=false:=by rfl) :
  PE X (.Call (.Name "list" p) [.Call (.Name "zip" p2) [l,m] [] pos2] [] pos) (zjY X.K t):=by
 intro pins s σ H Q I h;refine Bj (zbO I hg hm (by rfl) ?_ (by decide) (by decide));refine A5 ?_ he hpl;rw[he];show Ar _ _ (spliced ((false,eval (.Call (.Name "zip" p2) [l,m] [] pos2) X.env)::CN pos (AK [] X.env))) _ _ s;refine Calls.spliced_cons ?_
 refine Bj (zbO I hg2 hm2 (by rfl) ?_ (by decide) (by decide));refine A5 (thn (ha pos2 pins s σ H _ I h) λus s1 ⟨vs,H1,I1,r1,q1⟩=>?_) he2 hpl2;obtain⟨a,b,xs,ys,ex,hq1,hq2,hlen,h1000,q⟩:=q1;subst ex;obtain⟨u,v,rfl,ru,rv⟩:=vals2 r1
 cases ru
 cases rv
 obtain⟨its1,rv1,p1,hz1⟩:=I1.list hq1;obtain⟨its2,rv2,p2',hz2⟩:=I1.list hq2;have la:a<s1.heap.objs.size:=by obtain⟨o,ho,_⟩:=p1.isList;exact An ho
 have lb:b<s1.heap.objs.size:=by obtain⟨o,ho,_⟩:=p2'.isList;exact An ho
 refine call_zip_2 p1.isList p2'.isList λh' hz hTI hTO hi1 hi2 hsz kp=>?_
 have I2:Inv X pins σ H1 { s1 with heap:=h' }:=I1.kept (t':=s1.toks) kp;refine Calls.spliced_nil ?_
 refine zfl hz λh3 c k3 g3 w3=>?_
 have ne:∀i j:Nat,i≠j->(s1.heap.objs.size+i:Nat)≠s1.heap.objs.size+j:=λi j h=>by lia
 have na:∀i:Nat,a≠s1.heap.objs.size+i:=λi=>At (AB la (Bd _ _))
 have nb:∀i:Nat,b≠s1.heap.objs.size+i:=λi=>At (AB lb (Bd _ _))
 have D:ZipApart (s1.heap.objs.size+4) (s1.heap.objs.size+2) (s1.heap.objs.size+3) s1.heap.objs.size (s1.heap.objs.size+1) a b :=
  ⟨ne 2 4 (by decide),ne 3 4 (by decide),ne 0 4 (by decide),ne 1 4 (by decide),ne 2 3 (by decide),ne 2 0 (by decide),ne 2 1 (by decide),ne 3 0 (by decide),ne 3 1 (by decide),ne 0 1 (by decide),
   na 4,na 3,na 0,na 1,nb 4,nb 3,nb 0,nb 1⟩
 have fS:H1 h'.objs.size=none:=I2.hok.fresh (Ai _);have I3:Inv X pins σ (upd H1 h'.objs.size (.lst [])) { s1 with heap:=h3,toks:=s1.toks }:=I2.laid (t':=s1.toks) (o:=.lst []) k3 (Ai _) ⟨AV _,[],c,.nil,g3⟩;have same:∀c o,H1 c=some o->upd H1 h'.objs.size (.lst []) c=some o:=λc o e=>by rw[zal (zao e fS)];exact e
 have seq:∀{c:Addr} {vs:List V},SqL X.K H1 c vs->SqL X.K (upd H1 h'.objs.size (.lst [])) c vs:=λq=>by
  rcases q with (e |⟨o,e⟩) |q
  .exact .inl (.inl (same _ _ e))
  .exact .inl (.inr ⟨o,same _ _ e⟩)
  .exact .inr q
 have fp:∀c∈[s1.heap.objs.size+4,s1.heap.objs.size+2,s1.heap.objs.size+3,s1.heap.objs.size,s1.heap.objs.size+1],FpOk X pins (upd H1 h'.objs.size (.lst [])) c:=λc hc=>by
  have hge:s1.heap.objs.size<=c/\c<h'.objs.size:=by
   rw[hsz];simp only[Ao,Bh,or_false]at hc;rcases hc with rfl |rfl |rfl |rfl |rfl
   .exact⟨Bd _ _,De (by decide) _⟩
   .exact⟨Bd _ _,De (by decide) _⟩
   .exact⟨Bd _ _,De (by decide) _⟩
   .exact⟨Ai _,Nat.lt_add_of_pos_right (by decide)⟩
   .exact⟨Bd _ _,De (by decide) _⟩
  have:=I1.fpOk (H':=H1) hge.1 (I1.hok.fresh hge.1);exact⟨by rw[zal (At hge.2)];exact this.1,this.2⟩
 refine zjT (A:=X.A.in1) (show X.A.in1.handled=none from I1.ok.hd hc) D hlen h1000 (At (AB la (by rw[hsz];exact Bd _ _))) (At (AB lb (by rw[hsz];exact Bd _ _))) xs.length 0 _ _ [] (by simp) (AV _) I3 fp zaa ⟨rfl,λj v hj=>by simp at hj⟩ (seq hq1) (seq hq2)
  (.inl ⟨_,_,k3 _ _ hz,k3 _ _ hTO⟩) (k3 _ _ hTI) ⟨_,k3 _ _ hTO⟩ (hi1.at λo e=>k3 _ _ e) (hi2.at λo e=>k3 _ _ e) λs' H' ts' I' kk' hS' hp'=>?_
 exact⟨rfl,.ref h'.objs.size,H',I',rfl,q _ H' ts' fS (λc o e=>kk' c o (zao e fS) (same c o e)) hS' hp'⟩
end
theorem zjN:∀{xs:List V}{us:List Ad},xs.length=us.length->(∀(i:Nat) x u,xs[i]?=some x->us[i]?=some u->RelV x u)->Vals xs us
 |[],[],_,_=>.nil
 |x::xs,u::us,h,k=>.cons (k 0 x u rfl rfl) (zjN (by simpa using h) λi y v h1 h2=>k (i+1) y v (by simpa using h1) (by simpa using h2))
 |[],_::_,h,_=>by cases h
 |_::_,[],h,_=>by cases h
noncomputable def zl3(t:TA):TE:=λσ H Q=>t σ H λvs H1=>∃n:Nat,vs=[.int n]/\n<=1000/\∀S,H1 S=none->Q (.ref S) (upd H1 S (.lst ((AE n).map λi:Nat=>V.int i)))
section
variable {X:Cx}{a:Expr}{t:TA}{p p2 pos pos2:Pos}
theorem zhW (hg:Gl X "list") (hm:X.mg "list" = none) (hg2:Gl X "range") (hm2:X.mg "range" = none) (ha:PA X [a] t) (hc:X.calm=true := by rfl)
  (hs:AK [a] X.env=[(false,eval a X.env)]:=by rfl)
  (he:AK [.Call (.Name "range" p2) [a] [] pos2] X.env=(false,eval (.Call (.Name "range" p2) [a] [] pos2) X.env)::AK [] X.env:=by rfl) (hpl:(CN pos (AK [] X.env)).any (·.1)=false:=by rfl) :
  PE X (.Call (.Name "list" p) [.Call (.Name "range" p2) [a] [] pos2] [] pos) (zl3 t):=by
 intro pins s σ H Q I h;refine Bj (zbO I hg hm (by rfl) ?_ (by decide) (by decide));refine A5 ?_ he hpl;rw[he];show Ar _ _ (spliced ((false,eval (.Call (.Name "range" p2) [a] [] pos2) X.env)::CN pos (AK [] X.env))) _ _ s;refine Calls.spliced_cons ?_
 refine Call_ (zbO I hg2 hm2 boot_range (A5 (thn (ha pos2 pins s σ H _ I h) λus s1 ⟨vs,H1,I1,r1,q1⟩=>?_) hs rfl));obtain⟨n,e,hn,q⟩:=q1;subst e
 cases r1 with
 |cons r rr =>
  cases rr
  obtain⟨tt,rfl⟩:=r;refine call_range_1 ?_
  refine Calls.spliced_nil ?_
  have hsz:Builtin.Range.rangeSize 0 (n:Int) 1=((n:Nat):Int):=by rw[rangeSize_one];split <;> lia
  refine call_list_range (n:=n) (show X.A.handled=none from I1.ok.hd hc) (IsRange.new ..) (small_one (by lia) (by lia) (by lia) (by lia)) hsz (by lia) λh' tk acc c kp g hacc=>?_
  refine⟨.ref _,_,(I1.kept (t':=tk) (h':=s1.heap.push _) λb o e=>Ag _ e).laid (t':=tk) (o:=.lst ((AE n).map λi:Nat=>V.int i)) kp (Ai _) ?_,rfl,q _ ((I1.kept (t':=tk) (h':=s1.heap.push _) λb o e=>Ag _ e).hok.fresh (Ai _))⟩;refine⟨by rw[Af,A6];exact A8 hn (by decide),acc.toList,c,zjN (by simp[hacc.1]) λi x u h1 h2=>?_,by rw[Array.toArray_toList];exact g⟩;obtain⟨t1,rfl⟩:=hacc.2 i u (by simpa using h2)
  have hi:i<n:=by have:=(Ab.mp h1).1;simpa using this
  rw[Ap,BG hi]at h1
  cases h1
  exact⟨t1,by simp⟩
end
section
variable {X:Cx}
end
section
variable {X:Cx}{tg:Expr}
end
section
variable {X:Cx}{pos:Pos}{kx vx:Expr}{tk tv:TE}
end
open AutoSeq1 (wpAny_loadPart')
section
variable {prog:AH}{w:AZ}{A:AL}{E:Ad->Ae->Prop}{s:Ae}{d:Addr}{ep:Nat}{es:Array DictEntry}{od:Obj}
end
section
variable {X:Cx}
end
section
variable {X:Cx}{es:List Expr}{te:TE}{t:TA}{pos:Pos}
theorem pa_T{l:List Expr}{k:Nat}(ha:PE X (.Tuple l k pos) te)(hr:PA X es t):PA X (.Tuple l k pos::es) (tCons te t):=zah ha hr (by rfl)
theorem pa_C{c:Const}{k:Nat}(ha:PE X (.Constant c k pos) te)(hr:PA X es t):PA X (.Constant c k pos::es) (tCons te t):=zah ha hr (by rfl)
theorem pa_B{a b:Expr}{o:Operator}(ha:PE X (.BinOp a o b pos) te)(hr:PA X es t):PA X (.BinOp a o b pos::es) (tCons te t):=zah ha hr (by rfl)
theorem pa_N{x:Str}(ha:PE X (.Name x pos) te)(hr:PA X es t):PA X (.Name x pos::es) (tCons te t):=zah ha hr (by rfl)
end
noncomputable def tPrs:List (V×V)->TA
 |[]=>tNil
 | (a,b)::r=>tCons (tTup (tCons (tC a) (tCons (tC b) tNil))) (tPrs r)
theorem zmx{i:Nat}{v:V}{σ:St}{H:Hp}{Q:St->Hp->Prop}:gName i v σ H Q=Q (σ.set i (some v)) H:=rfl
theorem zmy{i:Nat}{v:V}{u:TS}{D:Ends}{σ:St}{H:Hp}:tSeq (tAsg (tC v) (gName i)) u D σ H=u D (σ.set i (some v)) H:=rfl
section
variable {X:Cx}{tg:Expr}
end
theorem zi8 (a v:Ad):argsOk "min" ⟨[a],[(Bf "default",v)]⟩:=by unfold argsOk;kernel_rfl
section
variable {prog:AH}{w:AZ}{A:AL}{R:Result->Ae->Prop}{I:Addr}{fp wr:List Addr}{n:Nat}{P:Nat->Ad->Prop}{St:Nat->Heap->Prop}{dv:Ad}
noncomputable def Mn(f:Nat->Int)(j:Nat)(m:Int):Prop:=(∃i,i<j/\f i=m)/\∀i,i<j->m<=f i
theorem Mn.one{f:Nat->Int}:Mn f 1 (f 0):=⟨⟨0,by lia,rfl⟩,λi hi=>by
 have e:i=0:=by lia
 rw[e];exact Int.le_refl _⟩
theorem Mn.less{f:Nat->Int}{j:Nat}{m:Int}(h:Mn f j m)(k:f j<m):Mn f (j+1) (f j):=⟨⟨j,by lia,rfl⟩,λi hi=>by
 by_cases e:i=j
 .rw[e];exact Int.le_refl _
 .have:=h.2 i (by lia);lia⟩
theorem Mn.next{f:Nat->Int}{j:Nat}{m:Int}(h:Mn f j m)(k:¬ f j<m):Mn f (j+1) m:=⟨let ⟨i,hi,e⟩:=h.1;⟨i,by lia,e⟩,λi hi=>by
 by_cases e:i=j
 .rw[e];lia
 .exact h.2 i (by lia)⟩
noncomputable def BestM (f:Nat->Int) (S:Addr) (h:Heap) (old:Array Ad) (j:Nat):Prop:=(∃c,h.get? S=some { cls:=.type "list",dict:=none,data:=.seq old c,slots:=#[] })/\((old=#[]/\j=0)∨∃m t,old=#[.int m t,.int m t]/\Mn f j m)
theorem zi6(W:Walks prog w A.in1 I fp wr n P St){f:Nat -> Int}(hP:∀i v, P i v -> ∃t, v = .int (f i) t)(S:Addr)(hSf:S ∉ fp) :
  ∀(k j:Nat) (s:Ae) (old:Array Ad),n-j=k->j<=n->St j s.heap->BestM f S s.heap old j ->
  ((n=0->∀h' tk,(∀b o,b ∉ wr->b≠S->s.heap.get? b=some o->h'.get? b=some o)->R (.ok (.ret dv)) { s with heap:=h',toks:=tk }) /\
   ∀m t h' tk,Mn f n m->(∀b o,b ∉ wr->b≠S->s.heap.get? b=some o->h'.get? b=some o)->R (.ok (.ret (.int m t))) { s with heap:=h',toks:=tk }) ->
  BY (Aw prog w) A (.builtin "min.loop" ⟨[.ref I,.none,.ref S],[(Bf "default",dv)]⟩) R s:=by
 have hSw:S ∉ wr:=λh=>hSf (W.sub _ h)
 have hname:(toString "min" ++ toString ".loop" : String) = "min.loop":=by decide
 intro k
 induction k with
 |zero =>
  intro j s old hk hj hst hS hR;have hin:j=n:=by lia
  obtain⟨⟨c,hc⟩,ho⟩:=hS;refine Co F.entry_min_loop ?_
  rw[BR AY _];show Ar _ A.in1 (seqItems? (.ref S) >>= _) _ _ s;refine Ac (Cd hc rfl ?_);show Ar _ A.in1 (tryCatch (pyNext (.ref I)) _ >>= _) _ _ s;refine Ac (B2 (W.done s _ _ (hin ▸ hst) λh' tk hk'=>?_));have hS':=hk' S _ hSw hc;rcases ho with⟨rfl,h0⟩ |⟨m,t,rfl,hm⟩
  .show Ar _ A.in1 (rule _ >>= _) _ _ _;refine Ac (wpAny_rule ?_);exact Aj (hR.1 (by lia) _ tk λb o hbw hbS e=>hk' b o hbw e)
  .show Ar _ A.in1 (updateSeq S (λ_=>#[]) >>= _) _ _ _;refine Ac ?_
   refine BO hS' rfl (Ac (Cs (Aj ?_)));exact hR.2 m t _ tk (hin ▸ hm) λb o hbw hbS e=>(Bb _ _ (Bq hbS)).trans (hk' b o hbw e)
 |succ k ih =>
  intro j s old hk hj hst hS hR;have hlt:j<n:=by lia
  obtain⟨⟨c,hc⟩,ho⟩:=hS;refine Co F.entry_min_loop ?_
  rw[BR AY _];show Ar _ A.in1 (seqItems? (.ref S) >>= _) _ _ s;refine Ac (Cd hc rfl ?_);show Ar _ A.in1 (tryCatch (pyNext (.ref I)) _ >>= _) _ _ s;refine Ac (B2 (W.item j s _ _ hlt hst λv h' tk hPv hst' hk'=>?_));obtain⟨t,rfl⟩:=hP j v hPv;have hS':=hk' S _ hSw hc;rcases ho with⟨rfl,rfl⟩ |⟨m2,t2,rfl,hm2⟩
  .show Ar _ A.in1 (updateSeq S (λ_=>#[.int (f 0) t,.int (f 0) t]) >>= _) _ _ _;refine Ac ?_
   refine BO hS' rfl ?_
   rw[hname];refine Aj ⟨BV AY _,ih (0+1) _ _ (by lia) hlt (W.frame _ _ _ hst' λb hbf o e=>?_) ⟨⟨_,BH _ hS' rfl⟩,.inr ⟨f 0,t,rfl,Mn.one⟩⟩ ⟨λz=>by lia,λm' t' h'' tk'' hm' hk''=>?_⟩⟩
   .exact (Bb _ _ (λh:S=b=>hSf (by rw[h];exact hbf))).trans e
   .exact hR.2 m' t' h'' tk'' hm' λb o hbw hbS e=>hk'' b o hbw hbS ((Bb _ _ (Bq hbS)).trans (hk' b o hbw e))
  .show Ar _ A.in1 (tryCatch (C8 [.int (f j) t,.int (f j) t] (richCompare .Lt (.int (f j) t) (.int m2 t2) >>= _)) _ >>= _) _ _ _;refine Ac (B2 (A9 (Ac (richCompare_gives (op:=.Lt) (typeIs_int _ _ t) (typeIs_int _ _ t2) F.slot_int_lt F.entry_int_lt (F.args_int_lt_2 _ _) (gives_int_lt _ _ t t2) (λx=>nomatch x) ?_))));refine Ac (A9 (Br ?_));refine Ac (Cs (Aj ?_))
   cases hb:decide (f j<m2) with
   |true =>
    simp only[if_true];refine Ac ?_
    refine BO hS' rfl (Ac (Cs ?_));rw[hname];refine Aj ⟨BV AY _,ih (j+1) _ _ (by lia) hlt (W.frame _ _ _ hst' λb hbf o e=>?_) ⟨⟨_,BH _ hS' rfl⟩,.inr ⟨f j,t,rfl,hm2.less (of_decide_eq_true hb)⟩⟩ ⟨λz=>by lia,λm' t' h'' tk'' hm' hk''=>?_⟩⟩
    .exact (Bb _ _ (λh:S=b=>hSf (by rw[h];exact hbf))).trans e
    .exact hR.2 m' t' h'' tk'' hm' λb o hbw hbS e=>hk'' b o hbw hbS ((Bb _ _ (Bq hbS)).trans (hk' b o hbw e))
   |false =>
    simp only[BB,if_false];refine Ac (Cs ?_);rw[hname];refine Aj ⟨BV AY _,ih (j+1) _ _ (by lia) hlt hst' ⟨⟨c,hS'⟩,.inr ⟨m2,t2,rfl,hm2.next (of_decide_eq_false hb)⟩⟩ ⟨λz=>by lia,λm' t' h'' tk'' hm' hk''=>?_⟩⟩;exact hR.2 m' t' h'' tk'' hm' λb o hbw hbS e=>hk'' b o hbw hbS (hk' b o hbw e)
end
section
variable {X:Cx}{pins:List (Addr×Obj)}{σ:St}{H0:Hp}{s:Ae}{l:Addr}{Q:VK}
theorem zjD{ns:List Int}{dm:Int}{dt:Tok}(hh:X.A.handled=none)(hl:SqL X.K H0 l (ns.map V.int))(hQ0:ns = [] -> Q (.int dm) H0)(hQ:∀m, IsMin ns m -> Q (.int m) H0)(I:Inv X pins σ H0 s) :
  Ar (Aw X.prog X.w) X.A (call (.builtin "min") [.ref l] [(Bf "default",.int dm dt)]) (EP X pins σ Q) X.xe s:=by
 have nm:(toString "min" ++ toString ".loop" : String) = "min.loop":=by decide
 obtain⟨its,rv,pl,hz⟩:=I.list hl;have hll:l<s.heap.objs.size:=by obtain⟨o,ho,_⟩:=pl.isList;exact An ho
 refine kmk_tree PySem.F.kind_min PySem.F.plain_min PySem.F.entry_min (zi8 _ _) ?_
 show Ar _ X.A.in1 (Bw "min" ["key","default"] 0 ⟨[],[(Bf "default",.int dm dt)]⟩ >>= _) _ _ s;refine Ac (wpAny_of_eq (show Bw "min" ["key","default"] 0 ⟨[],[(Bf "default",.int dm dt)]⟩=pure [none,some (.int dm dt)] from rfl) ?_);refine Ac (Aj ?_);refine Ac (CY pl.isList ?_);refine Ac (wpAny_newList ?_ (AV _));rw[nm];refine Aj ⟨BV AY _,?_⟩;have keep:∀b o,s.heap.get? b=some o->((s.heap.push { cls:=.type "list_iterator",data:=.fields #[.ref l,.int 0 0] }).push (Bm "list" #[] 0)).get? b=some o:=λb o e=>Ag _ (Ag _ e)
 have gi:((s.heap.push { cls:=.type "list_iterator",data:=.fields #[.ref l,.int 0 0] }).push (Bm "list" #[] 0)).get? s.heap.objs.size=some { cls:=.type "list_iterator",data:=.fields #[.ref l,.int 0 0] }:=Ag _ (AC _ rfl);have hsS:(s.heap.push { cls:=.type "list_iterator",data:=.fields #[.ref l,.int 0 0] }).objs.size=s.heap.objs.size+1:=size_push' ..;have gs:((s.heap.push { cls:=.type "list_iterator",data:=.fields #[.ref l,.int 0 0] }).push (Bm "list" #[] 0)).get? (s.heap.objs.size+1)=some (Bm "list" #[] 0):=by rw[<- hsS];exact AC _ rfl
 rw[hsS];have hli:l≠s.heap.objs.size:=At hll;have W:=Walks.list (prog:=X.prog) (w:=X.w) (A:=X.A.in1) hh s.heap.objs.size l hli its.toArray;have hlen:its.length=ns.length:=by have:=rv.length;simp at this;lia
 refine zi6 W (f:=λi=>ns.getD i 0) (λi v hv=>?_) (s.heap.objs.size+1) ?_ _ 0 _ #[] rfl (AV _) ⟨⟨_,gi,rfl,rfl⟩,pl.isList.at λo e=>keep _ _ e⟩ ⟨⟨0,gs⟩,.inl ⟨rfl,rfl⟩⟩ ⟨λz h' tk hk=>?_,λm t h' tk hm hk=>?_⟩
 .have hv':its[i]?=some v:=by simpa using hv
  have hi:i<its.length:=(Ab.mp hv').1;have hn:i<ns.length:=by lia
  obtain⟨u,hu,ru⟩:=rv.get (i:=i) (x:=V.int ns[i]) (by simp[hn]);rw[hv']at hu;cases hu;obtain⟨t,rfl⟩:=ru;refine⟨t,?_⟩;rw[Am,Aa hn];rfl
 .intro z;rcases Ao.mp z with z |z
  .exact absurd z (Nat.succ_ne_self _)
  .rw[<- AN.mp z]at hll;exact absurd hll (Nat.not_lt.mpr (Ct _))
 .have I1:Inv X pins σ H0 { s with heap:=h',toks:=tk }:=I.kept λb o e=>hk b o (by simp;exact At (An e)) (At (Cu (An e))) (keep b o e)
  have z0:its.length=0:=by simpa using z
  exact⟨.int dm,H0,I1,⟨_,rfl⟩,hQ0 (Dx.mp (by lia))⟩
 .have I1:Inv X pins σ H0 { s with heap:=h',toks:=tk }:=I.kept λb o e=>hk b o (by simp;exact At (An e)) (At (Cu (An e))) (keep b o e)
  have hsz:its.toArray.size=ns.length:=by simp[hlen]
  rw[hsz]at hm;have gd:∀i,i<ns.length->ns.getD i 0∈ns:=λi hi=>by rw[Am,Aa hi];exact A7 hi
  refine⟨.int m,H0,I1,⟨_,rfl⟩,hQ m ⟨?_,λx hx=>?_⟩⟩
  .obtain⟨i,hi,e⟩:=hm.1;rw[<- e];exact gd i hi
  .obtain⟨i,hi,e⟩:=Ay hx;have:=hm.2 i hi;dsimp only at this;rw[Am,Aa hi]at this;rw[<- e];exact this
end
section
variable {X:Cx}{p pos kpos:Pos}{e ed:Expr}{te td:TE}
noncomputable def tMinD(K:W.Frag)(te td:TE):TE:=λσ H Q=>te σ H λv H1=>∃l,∃ns:List Int,v=V.ref l/\SqL K H1 l (ns.map V.int)/\td σ H1 λu H2=>∃m,u=.int m/\SqL K H2 l (ns.map V.int)/\(ns=[]->Q (.int m) H2)/\∀m,IsMin ns m->Q (.int m) H2
theorem zlh (hg:Gl X "min") (hm:X.mg "min" = none) (he:PE X e te) (hd:PE X ed td) (hse:AK [e] X.env = [(false, eval e X.env)] := by rfl) (hh:X.calm=true := by rfl)
    (hall:(CH pos (BQ [⟨some "default",ed,kpos⟩] X.env)).all (·.1.isSome)=true:=by rfl) (hkw:(CH pos (BQ [⟨some "default",ed,kpos⟩] X.env)).any (·.1.isNone)=false:=by rfl)
    (hks:(CH pos (BQ [⟨some "default",ed,kpos⟩] X.env)).filterMap (·.1)=[Bf "default"]:=by rfl) :
    PE X (.Call (.Name "min" p) [e] [⟨some "default",ed,kpos⟩] pos) (tMinD X.K te td):=by
  intro pins s σ H Q I h;refine Bj (zbO I hg hm boot_min ?_ (by decide) (by decide));refine callWith_kw (thn (zah he zab (hs:=hse) pos pins s σ H (λvs H1=>∃l,∃ns:List Int,vs=[V.ref l]/\SqL X.K H1 l (ns.map V.int)/\td σ H1 λu H2=>∃m,u=.int m/\SqL X.K H2 l (ns.map V.int)/\(ns=[]->Q (.int m) H2)/\∀m,IsMin ns m->Q (.int m) H2) I ?_) λus s1 ⟨vs,H1,I1,r,q⟩=>?_) (by rw[hse];rfl) (by rw[hse];rfl) hall hkw
  . show te σ H _;unfold tMinD at h
    have e:(λ(v:V) H1 => ∃l, ∃ns:List Int, v=V.ref l /\ SqL X.K H1 l (ns.map V.int) /\ td σ H1 λu H2 => ∃m, u = .int m /\ SqL X.K H2 l (ns.map V.int) /\ (ns = [] -> Q (.int m) H2) /\ ∀m, IsMin ns m -> Q (.int m) H2)
        = λv H1=>∃l,∃ns:List Int,[v]=[V.ref l]/\SqL X.K H1 l (ns.map V.int)/\td σ H1 λu H2=>∃m,u=.int m/\SqL X.K H2 l (ns.map V.int)/\(ns=[]->Q (.int m) H2)/\∀m,IsMin ns m->Q (.int m) H2:=by
      funext v H1;simp only[List.cons.injEq,and_true]
    rw[e]at h;exact h
  . obtain⟨l,ns,rfl,hq,hD⟩:=q;obtain⟨u,rfl,ru⟩:=Vals.one r
    cases (show u=AA l from ru)
    refine thn (zgw (nm:=some "default") (kpos:=kpos) hd ziN pos pins s1 σ H1 (λzs H2=>∃m,zs=[.int m]/\SqL X.K H2 l (ns.map V.int)/\(ns=[]->Q (.int m) H2)/\∀m,IsMin ns m->Q (.int m) H2) I1 ?_) λws s2 ⟨zs,H2,I2,rz,q2⟩=>?_
    . show td σ H1 _
      have e:(λ(u:V) H2=>∃m,u=.int m/\SqL X.K H2 l (ns.map V.int)/\(ns=[]->Q (.int m) H2)/\∀m,IsMin ns m->Q (.int m) H2)=λu H2=>∃m,[u]=[V.int m]/\SqL X.K H2 l (ns.map V.int)/\(ns=[]->Q (.int m) H2)/\∀m,IsMin ns m->Q (.int m) H2:=by
        funext v H1;simp only[List.cons.injEq,and_true]
      rw[e]at hD;exact hD
    . obtain⟨m,rfl,hq2,h0,h1⟩:=q2;obtain⟨u2,rfl,t2,rfl⟩:=Vals.one rz;rw[hks];exact zjD (I1.ok.hd hh) hq2 h0 h1 I2
end
end L2
namespace TH
open RP
noncomputable abbrev Side:=Cell×Cell
noncomputable def crs(p a b:Cell):Int:=(a.1-p.1)*(b.2-p.2)-(a.2-p.2)*(b.1-p.1)
noncomputable def parts(s:Side)(a b:Cell):Bool:=decide (crs s.1 s.2 a*crs s.1 s.2 b<0)
noncomputable def cross(s t:Side):Bool:=parts s t.1 t.2 && parts t s.1 s.2
theorem crs_1(p a:Cell):crs p a p=0:=by unfold crs;simp
theorem crs_2(p a:Cell):crs p a a=0:=by unfold crs;rw[Int.mul_comm];lia
theorem cross_comm(s t:Side):cross s t=cross t s:=by unfold cross;rw[Bool.and_comm]
theorem zlK(a b c:Cell):cross (a,b) (a,c)=false:=by unfold cross parts;simp[crs_1]
theorem zlJ(a b c:Cell):cross (a,b) (c,b)=false:=by unfold cross parts;simp[crs_2]
theorem zdY(x y:Int):x*y<0 ↔ (x<0/\0<y)∨(0<x/\y<0):=by
 constructor
 .intro h
  by_cases h1:x<0
  .left;refine⟨h1,Dc λh2=>?_⟩;have:=Int.mul_nonneg_of_nonpos_of_nonpos (a:=x) (b:=y) (by lia) (by lia);lia
  .by_cases h2:x=0
   .rw[h2,Int.zero_mul]at h;lia
   .right;refine⟨by lia,Dc λh3=>?_⟩;have:=CK (a:=x) (b:=y) (by lia) (by lia);lia
 .rintro (⟨h1,h2⟩ |⟨h1,h2⟩)
  .exact Int.mul_neg_of_neg_of_pos h1 h2
  .exact Int.mul_neg_of_pos_of_neg h1 h2
theorem zgW{a q:Int}(h1:-1<=a)(h2:a<=1)(h3:-1<=q)(h4:q<=1):(1<=a*q->(a=1/\q=1)∨(a=-1/\q=-1))/\(a*q<=-1->(a=1/\q=-1)∨(a=-1/\q=1))/\-1<=a*q/\a*q<=1:=by
 have ha:a=-1∨a=0∨a=1:=by lia
 rcases ha with rfl |rfl |rfl <;> lia
theorem zi4{s:Nat}(hs:s<8):-1<=(mv s).1/\(mv s).1<=1/\-1<=(mv s).2/\(mv s).2<=1:=(by decide:∀s<8,-1<=(mv s).1/\(mv s).1<=1/\-1<=(mv s).2/\(mv s).2<=1) s hs
theorem zhO{c d:Cell}{s t:Nat}(hs:s < 8)(ht:t < 8)(h:cross (c, go c s) (d, go d t)=true) :
  ((mv s).1≠0/\(mv s).2≠0)/\((d=(c.1+(mv s).1,c.2)/\go d t=(c.1,c.2+(mv s).2))∨(d=(c.1,c.2+(mv s).2)/\go d t=(c.1+(mv s).1,c.2))):=by
 obtain⟨x,y⟩:=c;obtain⟨u,v⟩:=d;have hs1:=zi4 hs;have ht1:=zi4 ht;unfold cross parts at h;rw[BX,decide_eq_true_eq,decide_eq_true_eq]at h;obtain⟨h1,h2⟩:=h
 have e1:crs (x,y) (go (x,y) s) (u,v)=(mv s).1*(v-y)-(mv s).2*(u-x):=by unfold crs go;show (x+(mv s).1-x)*(v-y)-(y+(mv s).2-y)*(u-x)=_;rw[show x+(mv s).1-x=(mv s).1 by lia,show y+(mv s).2-y=(mv s).2 by lia]
 have e2:crs (x,y) (go (x,y) s) (go (u,v) t)=(mv s).1*(v-y)-(mv s).2*(u-x)+((mv s).1*(mv t).2-(mv s).2*(mv t).1):=by unfold crs go;show (x+(mv s).1-x)*(v+(mv t).2-y)-(y+(mv s).2-y)*(u+(mv t).1-x)=_;rw[show x+(mv s).1-x=(mv s).1 by lia,show y+(mv s).2-y=(mv s).2 by lia,show v+(mv t).2-y=(v-y)+(mv t).2 by lia,show u+(mv t).1-x=(u-x)+(mv t).1 by lia,Int.mul_add,Int.mul_add];lia
 have e3:crs (u,v) (go (u,v) t) (x,y)=(mv t).1*(y-v)-(mv t).2*(x-u):=by unfold crs go;show (u+(mv t).1-u)*(y-v)-(v+(mv t).2-v)*(x-u)=_;rw[show u+(mv t).1-u=(mv t).1 by lia,show v+(mv t).2-v=(mv t).2 by lia]
 have e4:crs (u,v) (go (u,v) t) (go (x,y) s)=(mv t).1*(y-v)-(mv t).2*(x-u)+((mv t).1*(mv s).2-(mv t).2*(mv s).1):=by unfold crs go;show (u+(mv t).1-u)*(y+(mv s).2-v)-(v+(mv t).2-v)*(x+(mv s).1-u)=_;rw[show u+(mv t).1-u=(mv t).1 by lia,show v+(mv t).2-v=(mv t).2 by lia,show y+(mv s).2-v=(y-v)+(mv s).2 by lia,show x+(mv s).1-u=(x-u)+(mv s).1 by lia,Int.mul_add,Int.mul_add];lia
 simp only at h1 h2;rw[e1,e2,zdY]at h1;rw[e3,e4,zdY]at h2;have g1:go (u,v) t=(u+(mv t).1,v+(mv t).2):=rfl;rw[g1];generalize (mv s).1=a at *;generalize (mv s).2=b at *;generalize (mv t).1=p at *;generalize (mv t).2=q at *;have u1:=zgW hs1.1 hs1.2.1 ht1.2.2.1 ht1.2.2.2;have u2:=zgW hs1.2.2.1 hs1.2.2.2 ht1.1 ht1.2.1;have c1:p*b=b*p:=Int.mul_comm _ _;have c2:q*a=a*q:=Int.mul_comm _ _;simp only[Prod.mk.injEq]
 by_cases k:2<=a*q-b*p
 .have a1:=u1.1 (by lia);have a2:=u2.2.1 (by lia);rcases a1 with⟨rfl,rfl⟩ |⟨rfl,rfl⟩ <;> rcases a2 with⟨rfl,rfl⟩ |⟨rfl,rfl⟩ <;> refine⟨by lia,?_⟩ <;> lia
 .have k2:a*q-b*p<=-2:=by lia
  have a1:=u1.2.1 (by lia);have a2:=u2.1 (by lia);rcases a1 with⟨rfl,rfl⟩ |⟨rfl,rfl⟩ <;> rcases a2 with⟨rfl,rfl⟩ |⟨rfl,rfl⟩ <;> refine⟨by lia,?_⟩ <;> lia
theorem zhP{C:Cell->Bool}{e:Edge}{s:Nat}(h:stepB C e=some s):C (go e.c s)=true:=by
 unfold stepB at h;split at h
 .cases h;assumption
 .split at h
  .cases h;assumption
  .cases h
theorem ziA{C:Cell->Bool}{e:Edge}{s:Nat}(he:IsE C e)(h:stepB C e=some s)(hs:(mv s).1≠0/\(mv s).2≠0):C (e.c.1+(mv s).1,e.c.2)=false∨C (e.c.1,e.c.2+(mv s).2)=false:=by
 obtain⟨hw,_,hg⟩:=he;obtain⟨c,w⟩:=e;simp only at hw;unfold gap at hg;simp only at hg;rcases zcm (C:=C) (e:=⟨c,w⟩) ⟨hw,by assumption,hg⟩ with⟨_,z,_⟩ |⟨_,_,z,_⟩ |⟨_,_,z,_⟩ <;> rw[h]at z
 .cases z
  have hw':w=0∨w=1∨w=2∨w=3:=by lia
  unfold go at hg;rcases hw' with rfl |rfl |rfl |rfl
  .right;simpa[mv]using hg
  .left;simpa[mv]using hg
  .right;simpa[mv]using hg
  .left;simpa[mv]using hg
 .cases z
  have hw':w=0∨w=1∨w=2∨w=3:=by lia
  rcases hw' with rfl |rfl |rfl |rfl <;> simp[mv]at hs
 .cases z
theorem zfv{C:Cell->Bool}{e f:Edge}{s t:Nat}(he:IsE C e)(hf:IsE C f)(h1:stepB C e=some s)(h2:stepB C f=some t)(hs:s<8)(ht:t<8):cross (e.c,go e.c s) (f.c,go f.c t)=false:=by
 cases z:cross (e.c,go e.c s) (f.c,go f.c t) with
 |false=>rfl
 |true =>
  obtain⟨hm,hd⟩:=zhO hs ht z;have c1:=hf.2.1;have c2:=zhP h2;rcases ziA he h1 hm with g |g <;> rcases hd with⟨d1,d2⟩ |⟨d1,d2⟩
  .rw[d1,g]at c1;cases c1
  .rw[d2,g]at c2;cases c2
  .rw[d2,g]at c2;cases c2
  .rw[d1,g]at c1;cases c1
end TH
namespace TH
open RP
noncomputable def bhd(ks:List Nat)(n:Nat):List Nat:=ks.drop 1++[n]
noncomputable def hd2(B:List Nat)(n:Nat):Nat:=B.headD n
noncomputable def prs(n:Nat):List Nat->List (Nat×Nat)
 |[]=>[]
 |a::B=>(a,hd2 B n)::prs n B
theorem zcE(n:Nat):∀ks:List Nat,prs n ks=ks.zip (bhd ks n)
 |[]=>rfl
 |[a]=>rfl
 |a::b::B=>by
  have:=zcE n (b::B);show (a,b)::prs n (b::B)=(a,b)::((b::B).zip (bhd (b::B) n));rw[this]
theorem ze1(n:Nat):∀(A:List Nat) (a s:Nat) (B:List Nat),∃X Y,prs n (A++a::s::B)=X++(a,s)::(s,hd2 B n)::Y/\prs n (A++a::B)=X++(a,hd2 B n)::Y
 |[],a,s,B=>⟨[],prs n B,rfl,rfl⟩
 |c::A,a,s,B=>by
  obtain⟨X,Y,h1,h2⟩:=ze1 n A a s B;refine⟨(c,hd2 (A++a::s::B) n)::X,Y,?_,?_⟩
  .show (c,_)::prs n (A++a::s::B)=_;rw[h1];rfl
  .have e:hd2 (A++a::B) n=hd2 (A++a::s::B) n:=by cases A <;> rfl
   show (c,hd2 (A++a::B) n)::prs n (A++a::B)=_;rw[h2,e];rfl
noncomputable def sdO(sp:List Cell)(p:Nat×Nat):Side:=(sp.getD p.1 (0,0),sp.getD (p.2 % sp.length) (0,0))
noncomputable def sds(sp:List Cell)(ks:List Nat):List Side:=(prs sp.length ks).map (sdO sp)
noncomputable def allS:List (List Cell)->List (List Nat)->List Side
 |sp::S,ks::T=>sds sp ks++allS S T
 |_,_=>[]
noncomputable def NoX(L:List Side):Prop:=L.Pairwise λs t=>cross s t=false
theorem NoX.put{L1 P Q:List Side}{e:Side}(h:NoX L1)(hs:(P++Q).Sublist L1)(he:∀t∈P++Q,cross e t=false):NoX (P++e::Q):=by
 have h2:NoX (P++Q):=List.Pairwise.sublist hs h;unfold NoX at h2 ⊢;rw[List.pairwise_append]at h2 ⊢;obtain⟨p1,p2,p3⟩:=h2;refine⟨p1,List.pairwise_cons.mpr ⟨λt ht=>he t (Au _ ht),p2⟩,λs hs t ht=>?_⟩;rcases Ao.mp ht with rfl |ht
 .rw[cross_comm];exact he s (Cp _ hs)
 .exact p3 s hs t ht
theorem zk8{sp:List Cell}{A B:List Nat}{a s:Nat}(hs:s < sp.length):∃X Y, sds sp (A ++ a :: s :: B)=X ++ (sp.getD a (0, 0), sp.getD s (0, 0)) :: (sp.getD s (0, 0), sp.getD (hd2 B sp.length % sp.length) (0, 0)) :: Y /\
  sds sp (A++a::B)=X++(sp.getD a (0,0),sp.getD (hd2 B sp.length % sp.length) (0,0))::Y:=by
 obtain⟨X,Y,h1,h2⟩:=ze1 sp.length A a s B;refine⟨X.map (sdO sp),Y.map (sdO sp),?_,?_⟩
 .unfold sds;rw[h1,Ax,Ba,Ba];unfold sdO;rw[B9 hs]
 .unfold sds;rw[h2,Ax,Ba];rfl
theorem zcW:∀{S:List (List Cell)}{T:List (List Nat)}{i:Nat}{sp:List Cell}{A B:List Nat}{a s:Nat}, S[i]? = some sp -> T[i]? = some (A ++ a :: s :: B) -> S.length=T.length -> s < sp.length ->
  ∃X Y,allS S T=X++(sp.getD a (0,0),sp.getD s (0,0))::(sp.getD s (0,0),sp.getD (hd2 B sp.length % sp.length) (0,0))::Y/\allS S (T.set i (A++a::B))=X++(sp.getD a (0,0),sp.getD (hd2 B sp.length % sp.length) (0,0))::Y
 |[],T,i,sp,A,B,a,s,h1,h2,hl,hs=>by simp at h1
 |sp0::S,[],i,sp,A,B,a,s,h1,h2,hl,hs=>by simp at h2
 |sp0::S,ks::T,0,sp,A,B,a,s,h1,h2,hl,hs=>by
  simp at h1 h2;subst h1 h2;obtain⟨X,Y,e1,e2⟩:=zk8 (A:=A) (B:=B) (a:=a) hs;refine⟨X,Y++allS S T,?_,?_⟩
  .show sds sp0 (A++a::s::B)++allS S T=_;rw[e1,Bs];rfl
  .show sds sp0 (A++a::B)++allS S T=_;rw[e2,Bs];rfl
 |sp0::S,ks::T,i+1,sp,A,B,a,s,h1,h2,hl,hs=>by
  obtain⟨X,Y,e1,e2⟩:=zcW (S:=S) (T:=T) (i:=i) (by simpa using h1) (by simpa using h2) (by simpa using hl) hs;refine⟨sds sp0 ks++X,Y,?_,?_⟩
  .show sds sp0 ks++allS S T=_;rw[e1,Bs]
  .show sds sp0 ks++allS S (T.set i _)=_;rw[e2,Bs]
theorem zlP{S:List (List Cell)}{T:List (List Nat)}{i:Nat}{sp:List Cell}{A B:List Nat}{a s:Nat}(h1:S[i]? = some sp)(h2:T[i]? = some (A ++ a :: s :: B))(hl:S.length=T.length)(hs:s < sp.length) :
  (allS S T).any (cross (sp.getD a (0,0),sp.getD (hd2 B sp.length % sp.length) (0,0)))=(allS S (T.set i (A++a::B))).any (cross (sp.getD a (0,0),sp.getD (hd2 B sp.length % sp.length) (0,0))):=by
 obtain⟨X,Y,e1,e2⟩:=zcW h1 h2 hl hs;rw[e1,e2];simp only[List.any_append,List.any_cons,zlK,zlJ,Bool.false_or]
theorem NoX.out{S:List (List Cell)}{T:List (List Nat)}{i:Nat}{sp:List Cell}{A B:List Nat}{a s:Nat}(h1:S[i]? = some sp)(h2:T[i]? = some (A ++ a :: s :: B))(hl:S.length=T.length)(hs:s < sp.length)(h:NoX (allS S T))
  (hx:(allS S (T.set i (A++a::B))).any (cross (sp.getD a (0,0),sp.getD (hd2 B sp.length % sp.length) (0,0)))=false):NoX (allS S (T.set i (A++a::B))):=by
 obtain⟨X,Y,e1,e2⟩:=zcW h1 h2 hl hs;rw[e2]at hx ⊢;refine h.put ?_ λt ht=>?_
 .rw[e1];exact List.Sublist.append (List.Sublist.refl _) ((List.sublist_cons_self _ _).trans (List.sublist_cons_self _ _))
 .rw[List.any_eq_false]at hx;have:=hx t (by rcases A2.mp ht with z |z <;> simp[z]);simpa using this
noncomputable def Strs(P:Nat->Nat->Prop)(n:Nat)(ks:List Nat):Prop:=∀p∈prs n ks,P p.1 p.2
theorem Strs.out{P:Nat->Nat->Prop}{n:Nat}{A B:List Nat}{a s:Nat}(h:Strs P n (A++a::s::B)):Strs P n (A++a::B) ↔ P a (hd2 B n):=by
 obtain⟨X,Y,e1,e2⟩:=ze1 n A a s B;unfold Strs at h ⊢;rw[e1]at h;rw[e2];constructor
 .intro k;exact k (a,hd2 B n) (by simp)
 .intro k p hp;rcases A2.mp hp with z |z
  .exact h p (Cp _ z)
  .rcases Ao.mp z with rfl |z
   .exact k
   .exact h p (Au _ (Ak _ (Ak _ z)))
noncomputable def Crn(n:Nat)(ks:List Nat):Prop:=ks.Pairwise (·<·)/\ks[0]?=some 0/\∀k∈ks,k<n
theorem Crn.range{n:Nat}(h:0<n):Crn n (AE n):=⟨List.pairwise_lt_range,by rw[BG h],λk hk=>Dy.mp hk⟩
theorem Crn.split{n:Nat}{ks:List Nat}(h:Crn n ks){m s:Nat}(hm:0<m)(e:ks[m]?=some s):∃A a B,ks=A++a::s::B/\A.length+1=m/\(∀k∈A,k<a)/\a<s/\∀k∈B,s<k:=by
 have hml:=(Ab.mp e).1;refine⟨ks.take (m-1),ks[m-1],ks.drop (m+1),?_,by rw[Av];lia,?_,?_,?_⟩
 .have e1:ks[m]=s:=(Ab.mp e).2;have e2:ks.drop m=s::ks.drop (m+1):=by rw[Cj hml,e1]
  have e3:ks.drop (m-1)=ks[m-1]::ks.drop m:=by rw[Cj (by lia:m-1<ks.length),show m-1+1=m by lia]
  rw[<- e2,<- e3,List.take_append_drop]
 .intro k hk;obtain⟨i,hi,rfl⟩:=Ay hk;rw[Av]at hi;rw[List.getElem_take];exact (BE.mp h.1) i (m-1) (by lia) (by lia) (by lia)
 .have e1:ks[m]=s:=(Ab.mp e).2;rw[<- e1];exact (BE.mp h.1) (m-1) m (by lia) hml (by lia)
 .intro k hk;obtain⟨i,hi,rfl⟩:=Ay hk;rw[AS]at hi;rw[List.getElem_drop];have e1:ks[m]=s:=(Ab.mp e).2;rw[<- e1];exact (BE.mp h.1) m (m+1+i) hml (by lia) (by lia)
theorem Crn.out{n:Nat}{A B:List Nat}{a s:Nat}(h:Crn n (A++a::s::B)):Crn n (A++a::B):=by
 obtain⟨h1,h2,h3⟩:=h;have sub:(A++a::B).Sublist (A++a::s::B):=List.Sublist.append (List.Sublist.refl _) ((List.sublist_cons_self s B).cons_cons a);refine⟨List.Pairwise.sublist sub h1,?_,λk hk=>h3 k (sub.subset hk)⟩
 cases A <;> simpa using h2
end TH
namespace RP
noncomputable def bv(w:Nat):Int:=if w=1∨w=2 then 1 else 0
noncomputable def tt(C:Cell->Bool)(e:Edge):Int:=match stepB C e with
 |none=>1
 |some s=>if s % 2=1 then -1 else 0
noncomputable def eL(w:Nat):Int:=(if w=2∨w=3 then 1 else 0)-(if w=1∨w=2 then 1 else 0)+bv w
noncomputable def cr(x1 y1 x2 y2:Int):Int:=if y1=-1/\y2=0/\0<x2 then 1 else if y1=0/\y2=-1/\0<x1 then -1 else 0
section
variable (U V:Nat->Int)
noncomputable def hH(i j:Nat):Int:=cr (U j-U i) (V j-V i) (U (j+1)-U i) (V (j+1)-V i)
noncomputable def gG(i j:Nat):Int:=cr (U j-U i) (V j-V i) (U j-U (i+1)) (V j-V (i+1))
noncomputable def sE:Nat->Int
 | 0=>0
 |i+1=>sE i+hH U V i (i+1)+gG U V i (i+2)
variable {U V}
variable {n:Nat}
end
noncomputable def crs(x1 y1 x2 y2:Int):Int:=cr x1 y1 (x1+x2) (y1+y2)+cr (x1+x2) (y1+y2) x2 y2
noncomputable def it(C:Cell->Bool)(b:Edge):Nat->Edge
 | 0=>b
 |k+1=>nxt C (it C b k)
noncomputable def wW(C:Cell->Bool)(b:Edge):Nat->Int
 | 0=>b.w
 |k+1=>wW C b k+tt C (it C b k)
noncomputable def th(C:Cell->Bool)(b:Edge)(k:Nat):Int:=2*wW C b k-1+tt C (it C b k)
theorem Closed.head{C:Cell->Bool}{b a:Edge}{r:List Edge}(h:Closed C b (a::r)):a=b:=by have:=h.1.1;simpa using this
theorem Closed.rot1{C:Cell->Bool}{b c:Edge}{r:List Edge}(h:Closed C b (b::r))(hc:(r++[b])[0]?=some c):Closed C c (r++[b]):=by
 obtain⟨⟨h0,hs,hE,hn⟩,l,hl,hb⟩:=id h;refine⟨⟨hc,λi e f h1 h2=>?_,λe he=>hE e (by rcases A2.mp he with m |m;exact Ak _ m;rw[AN.mp m];exact Aq),?_⟩,?_⟩
 .have hi:=(Ab.mp h2).1;simp only[Al,AQ,B4]at hi;rw[As (by lia)]at h1;rcases A1 (i+1) r.length with q |q
  .rw[As q]at h2;exact hs (i+1) e f (by simpa using h1) (by simpa using h2)
  .have e1:i+1=r.length:=by lia
   rw[AD (by lia),e1]at h2;simp at h2;have e2:(b::r).length-1=i+1:=by simp;lia
   rw[e2]at hl;simp only[List.getElem?_cons_succ]at hl;rw[hl]at h1
   cases h1
   rw[hb,h2]
 .rw[CZ];have:=Cn.mp hn;exact⟨this.2,by simp,λx hx y hy e=>by rw[AN.mp hy]at e;rw[e]at hx;exact this.1 hx⟩
 .refine⟨b,by simp,?_⟩
  cases r with
  |nil =>
   simp at hl hc;subst hc;subst hl;exact hb
  |cons a r =>
   simp at hc;have:=hs 0 b a rfl rfl;rw[<- this,hc]
theorem Closed.rot{C:Cell->Bool}:∀(j:Nat){b e:Edge}{es:List Edge},Closed C b es->es[j]?=some e->Closed C e (es.drop j++es.take j)
 | 0,b,e,es,h,he=>by
  have:=h.1.1;rw[he]at this
  cases this
  simpa using h
 |j+1,b,e,[],h,he=>by simp at he
 |j+1,b,e,a::r,h,he=>by
  have:=h.head;subst this;simp only[List.getElem?_cons_succ]at he;have hj:=(Ab.mp he).1;obtain⟨c,hc⟩:∃c,(r++[a])[0]?=some c:=⟨_,Aa (by simp)⟩;have h1:=h.rot1 hc;have h2:=Closed.rot j h1 (by rw[As hj];exact he);rw[List.drop_append_of_le_length (by lia),List.take_append_of_le_length (by lia)]at h2;simpa using h2
end RP
namespace L2
open PySem PySem.Spec PyProof.Rows PySem.W
section
variable {X:Cx}{pins:List (Addr×Obj)}{σ:St}{H0:Hp}{s:Ae}{l:Addr}{G:Array Nat->Prop}{xs:List V}{Q:VK}
end
noncomputable def soI (s:Str):Int:=if s = "rim" then 1 else 0
noncomputable def SoTwo (s:Str):Prop:=s = "rim" ∨ s = "hole"
inductive Sc:V->V->Int->Int->Prop where
 |int (n m:Int):Sc (.int n) (.int m) n m
 |bl (p q:Bool):Sc (.bl p) (.bl q) (b2i p) (b2i q)
 |so {a b:Str} (ha:SoTwo a) (hb:SoTwo b):Sc (.str a) (.str b) (soI a) (soI b)
inductive VT (K:W.Frag) (H:Hp):List V->List V->List Int->List Int->Prop where
 |nil:VT K H [] [] [] []
 |cons {x y:V} {xs ys:List V} {a b:Int} {as bs:List Int}:Sc x y a b->VT K H xs ys as bs->VT K H (x::xs) (y::ys) (a::as) (b::bs)
 |tup {a b:Addr} {ns ms:List Int}:SqT K H a (ns.map V.int)->SqT K H b (ms.map V.int)->VT K H [.ref a] [.ref b] ns ms
section
variable {X:Cx}{pins:List (Addr×Obj)}{σ:St}{H:Hp}{s:Ae}
end
end L2
namespace HT
open PySem PyProof.Rows
section
open PySem.SeqAt
open PySem.AutoSeq1 (wpAny_loadPart')
open PySem.MeetsSeq PySem.MeetsSeq2 PySem.MeetsSeq3
noncomputable def LtAt(A:AL)(s:Ae)(u v:Ad)(b:Bool):Prop:=∀(prog:AH) (w:AZ) (E:Ad->Ae->Prop) (Q:Ad->Ae->Prop),Q (.bool b) s->Ar (Aw prog w) A (richCompare .Lt u v) Q E s
inductive CG (A:AL) (s:Ae):List Ad->List Ad->List Int->List Int->Prop where
 |nil:CG A s [] [] [] []
 |cons {u v:Ad} {us vs:List Ad} {a b:Int} {as bs:List Int}:EqAt A s u v (decide (a=b))->LtAt A s u v (decide (a<b))->CG A s us vs as bs->CG A s (u::us) (v::vs) (a::as) (b::bs)
 |last {u v:Ad} {ns ms:List Int}:EqAt A s u v (decide (ns=ms))->LtAt A s u v (lexLt ns ms)->CG A s [u] [v] ns ms
end
section
variable {prog:AH}{w:AZ}{A:AL}{E:Ad->Ae->Prop}{s:Ae}
end
end HT
namespace L2
open PySem PySem.Spec PyProof.Rows PySem.W
section
variable {X:Cx}{pins:List (Addr×Obj)}{σ:St}{H:Hp}{s:Ae}
end
end L2
namespace HT
open PySem PyProof.Rows
section
open PySem.SeqAt
open PySem.AutoSeq1 (wpAny_loadPart')
open PySem.MeetsSeq PySem.MeetsSeq2 PySem.MeetsSeq3
end
section
variable {prog:AH}{w:AZ}{A:AL}{E:Ad->Ae->Prop}{s:Ae}
end
end HT
namespace L2
open PySem PySem.Spec PyProof.Rows PySem.W
section
variable {X:Cx}{pins:List (Addr×Obj)}{σ:St}{H:Hp}{s:Ae}
end
end L2
namespace TH
open HT
noncomputable abbrev iz(l:List Nat):List Int:=l.map λn:Nat=>(n:Int)
noncomputable def tl:Nat->Nat->Nat->List (List Nat)
 | 0,0,_=>[[]]
 | 0,_+1,_=>[]
 |_+1,0,_=>[[]]
 |g+1,L+1,a=>(tl g L (a+1)).map ((a+1)::·)++tl g (L+1) (a+1)
theorem zim:∀(g L a:Nat),(tl g L a).length<=2 ^ g
 | 0,0,_=>by simp[tl]
 | 0,_+1,_=>by simp[tl]
 |g+1,0,_=>by simp[tl];exact Nat.one_le_two_pow
 |g+1,L+1,a=>by
  have h1:=zim g L (a+1);have h2:=zim g (L+1) (a+1);simp only[tl,Al,Af];rw[Nat.pow_succ];lia
theorem zdh:∀(g L a:Nat) (t:List Nat),t∈tl g L a ↔ t.length=L/\(a::t).Pairwise (·<·)/\∀k∈t,k<=a+g
 | 0,0,a,t=>by
  simp only[tl,List.mem_singleton];constructor
  .rintro rfl;simp
  .rintro⟨h,_⟩;exact B3 h
 | 0,L+1,a,t=>by
  simp only[tl,Bh,false_iff];rintro⟨h1,h2,h3⟩
  cases t with
  |nil=>simp at h1
  |cons k t =>
   have h4:=(AU.mp h2).1 k Aq;have h5:=h3 k Aq;lia
 |g+1,0,a,t=>by
  simp only[tl,List.mem_singleton];constructor
  .rintro rfl;simp
  .rintro⟨h,_⟩;exact B3 h
 |g+1,L+1,a,t=>by
  simp only[tl,A2,List.mem_map];constructor
  .rintro (⟨u,hu,rfl⟩ |hu)
   .obtain⟨h1,h2,h3⟩:=(zdh g L (a+1) u).mp hu;refine⟨by simp[h1],?_,λk hk=>?_⟩
    .rw[AU];refine⟨λk hk=>?_,h2⟩;rcases Ao.mp hk with z |z
     .lia
     .have:=(AU.mp h2).1 k z;lia
    .rcases Ao.mp hk with z |z
     .lia
     .have:=h3 k z;lia
   .obtain⟨h1,h2,h3⟩:=(zdh g (L+1) (a+1) t).mp hu;rw[AU]at h2;refine⟨h1,?_,λk hk=>by have:=h3 k hk;lia⟩;rw[AU];exact⟨λk hk=>by have:=h2.1 k hk;lia,h2.2⟩
  .rintro⟨h1,h2,h3⟩
   cases t with
   |nil=>simp at h1
   |cons k t =>
    rw[AU]at h2;have hk:=h2.1 k Aq;have h4:=AU.mp h2.2
    by_cases e:k=a+1
    .subst e;exact .inl ⟨t,(zdh g L (a+1) t).mpr ⟨by simpa using h1,h2.2,λx hx=>by have:=h3 x (Ak _ hx);lia⟩,rfl⟩
    .refine .inr ((zdh g (L+1) (a+1) (k::t)).mpr ⟨h1,?_,λx hx=>by have:=h3 x hx;lia⟩);rw[AU];refine⟨λx hx=>?_,h2.2⟩;rcases Ao.mp hx with z |z
     .lia
     .have:=h4.1 x z;lia
theorem zdB:∀(g L a:Nat),(tl g L a).Pairwise λs t=>lexLt (iz s) (iz t)=true
 | 0,0,_=>by simp[tl]
 | 0,_+1,_=>by simp[tl]
 |g+1,0,_=>by simp[tl]
 |g+1,L+1,a=>by
  show List.Pairwise _ ((tl g L (a+1)).map ((a+1)::·)++tl g (L+1) (a+1));rw[List.pairwise_append];refine⟨?_,zdB g (L+1) (a+1),λs hs t ht=>?_⟩
  .rw[List.pairwise_map];refine (zdB g L (a+1)).imp λ{s t} h=>?_
   show lexLt (((a+1:Nat):Int)::iz s) (((a+1:Nat):Int)::iz t)=true;rw[lexLt_cons,if_pos rfl];exact h
  .obtain⟨u,_,rfl⟩:=AF.mp hs;obtain⟨h1,h2,_⟩:=(zdh g (L+1) (a+1) t).mp ht
   cases t with
   |nil=>simp at h1
   |cons k t =>
    have hk:=(AU.mp h2).1 k Aq;show lexLt (((a+1:Nat):Int)::iz u) ((k:Int)::iz t)=true;rw[lexLt_cons,if_neg (by lia)];exact decide_eq_true (by lia)
noncomputable def lst(a:Nat)(t:List Nat):Nat:=t.getLast?.getD a
theorem zdv(a b:Nat)(t:List Nat):lst a (b::t)=lst b t:=by unfold lst;rw[List.getLast?_cons];rfl
theorem zmj{a b:Nat}{t:List Nat}(h:t≠[]):lst a t=lst b t:=by
 cases t with
 |nil=>exact absurd rfl h
 |cons x t=>rw[zdv,zdv]
theorem zeF{α β:Type}{f g:α->List β}:∀{l:List α},(∀t∈l,f t=g t)->l.flatMap f=l.flatMap g
 |[],_=>rfl
 |a::l,h=>by rw[Cv,Cv,h a Aq,zeF λt ht=>h t (Ak _ ht)]
noncomputable def exts(m a:Nat)(t:List Nat):List (List Nat):=(List.range' (lst a t+1) (m-lst a t)).map λs=>t++[s]
theorem zeQ:∀(g L a:Nat),(tl g L a).flatMap (exts (a+g) a)=tl g (L+1) a
 | 0,0,a=>by simp[tl,exts,lst]
 | 0,_+1,a=>by simp[tl]
 |g+1,0,a=>by
  have ih:=zeQ g 0 (a+1);have e0:tl g 0 (a+1)=[[]]:=by cases g <;> rfl
  rw[e0]at ih;show ([[]]:List (List Nat)).flatMap _=(tl g 0 (a+1)).map ((a+1)::·)++tl g 1 (a+1);rw[e0,<- ih];simp only[Cv,List.flatMap_nil,AX,Ba,Cr];unfold exts lst;simp only[List.getLast?_nil,Option.getD_none,List.nil_append];rw[show a+(g+1)-a=g+1 by lia,show a+1+g-(a+1)=g by lia,List.range'_succ];rfl
 |g+1,L+1,a=>by
  show ((tl g L (a+1)).map ((a+1)::·)++tl g (L+1) (a+1)).flatMap (exts (a+(g+1)) a)=(tl g (L+1) (a+1)).map ((a+1)::·)++tl g (L+2) (a+1);rw[Dg]
  have e1:((tl g L (a+1)).map ((a+1)::·)).flatMap (exts (a+(g+1)) a)=(tl g (L+1) (a+1)).map ((a+1)::·):=by
   rw[<- zeQ g L (a+1),List.flatMap_map,List.map_flatMap]
   congr 1
   funext t
   show exts (a+(g+1)) a ((a+1)::t)=(exts (a+1+g) (a+1) t).map ((a+1)::·);unfold exts;rw[zdv,CP,show a+(g+1)=a+1+g by lia];rfl
  have e2:(tl g (L+1) (a+1)).flatMap (exts (a+(g+1)) a)=tl g (L+2) (a+1):=by
   rw[<- zeQ g (L+1) (a+1)];refine zeF λt ht=>?_
   have hne:t≠[]:=λz=>by have:=((zdh g (L+1) (a+1) t).mp ht).1;rw[z]at this;simp at this
   unfold exts;rw[zmj (a:=a) (b:=a+1) hne,show a+(g+1)=a+1+g by lia]
  rw[e1,e2]
noncomputable def lv(g L:Nat):List (List Nat):=(tl g L 0).map (0::·)
theorem zfV{g L:Nat}{ks:List Nat}:ks∈lv g L ↔ Crn (g+1) ks/\ks.length=L+1:=by
 unfold lv;rw[List.mem_map];constructor
 .rintro⟨t,ht,rfl⟩;obtain⟨h1,h2,h3⟩:=(zdh g L 0 t).mp ht;refine⟨⟨h2,rfl,λk hk=>?_⟩,by simp[h1]⟩;rcases Ao.mp hk with z |z
  .lia
  .have:=h3 k z;lia
 .rintro⟨⟨h1,h2,h3⟩,hl⟩
  cases ks with
  |nil=>simp at h2
  |cons k t =>
   have:k=0:=by simpa using h2
   subst this;exact⟨t,(zdh g L 0 t).mpr ⟨by simpa using hl,h1,λk hk=>by have:=h3 k (Ak _ hk);lia⟩,rfl⟩
theorem zmi(g L:Nat):(lv g L).length<=2 ^ g:=by unfold lv;rw[Af];exact zim g L 0
theorem zjb(g L:Nat):(lv g L).Pairwise λs t=>lexLt (iz s) (iz t)=true:=by
 unfold lv;rw[List.pairwise_map];refine (zdB g L 0).imp λ{s t} h=>?_
 show lexLt (((0:Nat):Int)::iz s) (((0:Nat):Int)::iz t)=true;rw[lexLt_cons,if_pos rfl];exact h
noncomputable def extK(n:Nat)(ks:List Nat):List (List Nat):=(List.range' (lst 0 ks+1) (n-(lst 0 ks+1))).map λs=>ks++[s]
theorem zja(g L:Nat):(lv g L).flatMap (extK (g+1))=lv g (L+1):=by
 unfold lv;rw[<- zeQ g L 0,List.flatMap_map,List.map_flatMap]
 congr 1
 funext t
 show extK (g+1) (0::t)=(exts (0+g) 0 t).map (0::·);unfold extK exts;rw[zdv,CP,show g+1-(lst 0 t+1)=0+g-lst 0 t by lia];rfl
noncomputable def ls:Nat->List (List Nat)
 | 0=>[[0]]
 |k+1=>ls k++(ls k).map (·++[k+1])
noncomputable def key(ks:List Nat):List Int:=(ks.length:Int)::iz ks
noncomputable def Lst(n:Nat)(P:List Nat->Prop)(f:List Nat):Prop:=Crn n f/\P f/\∀ks,Crn n ks->P ks->lexLt (key ks) (key f)=false
theorem zjc{g L i:Nat}{P:List Nat->Prop}{f:List Nat}(h1:(lv g L)[i]?=some f)(hP:P f)(h2:∀j ks,j<i->(lv g L)[j]?=some ks->¬ P ks)(h3:∀L' ks,L'<L->ks∈lv g L'->¬ P ks):Lst (g+1) P f:=by
 have hf:=zfV.mp (Ah h1);refine⟨hf.1,hP,λks hc hp=>?_⟩;have hk0:1<=ks.length:=(Ab.mp hc.2.1).1;obtain⟨L',hL'⟩:∃L',ks.length=L'+1:=⟨ks.length-1,by lia⟩;have hm:ks∈lv g L':=zfV.mpr ⟨hc,hL'⟩;unfold key;rw[lexLt_cons,hf.2,hL'];rcases Nat.lt_trichotomy L' L with z |z |z
 .exact absurd hp (h3 L' ks z hm)
 .subst z;rw[if_pos rfl];obtain⟨j,hj,e⟩:=Ay hm;have e':(lv g L')[j]?=some ks:=by rw[Aa hj,e]
  obtain⟨hi,ei⟩:=Ab.mp h1;rcases Nat.lt_trichotomy j i with q |q |q
  .exact absurd hp (h2 j ks q e')
  .subst q;rw[h1]at e'
   cases e'
   exact lexLt_irrefl _
  .have:=BE.mp (zjb g L') i j hi hj q;rw[e,ei]at this;exact lexLt_asym this
 .rw[if_neg (by lia)];exact decide_eq_false (by lia)
end TH
namespace L2
open PySem
theorem sC{N P:List Str}{sc:Scope}(a:sc.kind = .function := by rfl)(b:sc.isCoroutine=false := by rfl)(c:sc.isGenerator=false := by rfl)(d:N.Nodup := by decide +kernel)(e:N.take P.length=P := by rfl)
  (f:∀x∈P,sc.names.lookup x=some .local∨sc.names.lookup x=some .cell:=by decide +kernel) (g:∀y∈sc.names,y.2≠.free:=by decide +kernel):FnScope N P sc:=⟨a,b,c,d,e,f,g⟩
section
variable {X:Cx}{k j:Nat}{x:Str}{ps:List Str}{sp:Sp}{e:Expr}{es:List Expr}{t:TA}{te:TE}{p pos pos':Pos}
theorem pC (g:Fn X.prog X.w X.K X.mg X.base k x ps sp) (hr:Room j X.A) (ha:PA X (e :: es) t) (hj:k <= j := by decide) (hg:Gl X x := by rfl) (hdb:(x == ("__debug__" : Str))=false := by decide)
  (he:AK (e::es) X.env=(false,eval e X.env)::AK es X.env:=by rfl) (hpl:(CN pos (AK es X.env)).any (·.1)=false:=by rfl):PE X (.Call (.Name x p) (e::es) [] pos) (tCall sp [] E0 t) :=
 zli g.ok (hr.mono hj) hg g.m g.kp g.b .nil pass0 ha hdb he hpl
theorem nG(i:Nat)(hN:X.N.Nodup)(hi:X.N[i]?=some x:=by rfl)(hx:Loc X.env.scope x:=by exact Or.inl rfl)(hf:X.fn x=true∨X.env.scope.names.lookup x=some .local:=by first |exact .inl rfl |exact .inr rfl |assumption):PG X (.Name x pos) (gName i) :=
 ziP hN hi hx hf
theorem sE(i:Nat)(hN:X.N.Nodup)(he:PE X e te)(hi:X.N[i]? = some x := by rfl)(hx:Loc X.env.scope x := by exact Or.inl rfl)(hs:swapsWith e (some (.Name x pos')) pos.line X.env=pure false := by rfl)
  (hf:X.fn x=true∨X.env.scope.names.lookup x=some .local:=by first |exact .inl rfl |exact .inr rfl |assumption):PS X (.Assign [.Name x pos'] e pos) (tAsg te (gName i)) :=
 zcQ hN hi hx he hs hf
end
theorem bO{osc:Scope}{N:List Str}{sc:Scope}{N':List Str}{sel:List (Option Nat)}(a:sc.kind = .function := by rfl)(b:∀y ∈ sc.names, y.2 ≠ .cell := by decide +kernel)(c:∀y ∈ sc.names, y.2 = .local -> sc.names.lookup y.1=some .local := by decide +kernel)
  (d:∀y∈sc.names,y.2=.free->osc.names.lookup y.1=some .cell∨osc.names.lookup y.1=some .free:=by decide +kernel) (e:sel.length=N'.length:=by rfl) (f:∀p∈sel.zip N',∀i∈p.1,N[i]?=some p.2/\sc.names.lookup p.2=some .free:=by decide +kernel):BlkOk osc N sc N' sel:=⟨a,b,c,d,e,f⟩
section
variable {K:W.Frag}{x qual:Str}{st:Stmt}{f:Addr}{fd:Bu}
theorem Fun.b1{p0:Str}(F:Fun K x qual st f fd)(h:∀(kV doc pm:Ad) (an:Option Addr) (cdv ct a0:Ad),CF (Cy x qual (zaN st) (zaC st) (zad st) .none kV doc pm an cdv ct) ⟨[a0],[]⟩=pure [(p0,a0)]:=by intros;rfl):Binds K fd [p0] [] :=
 F.binds λkV doc pm an cdv ct us hl=>match us,hl with |[a0],_=>h kV doc pm an cdv ct a0
theorem Fun.b2{p0 p1:Str}(F:Fun K x qual st f fd)(h:∀(kV doc pm:Ad) (an:Option Addr) (cdv ct a0 a1:Ad),CF (Cy x qual (zaN st) (zaC st) (zad st) .none kV doc pm an cdv ct) ⟨[a0,a1],[]⟩=pure [(p0,a0),(p1,a1)]:=by intros;rfl):Binds K fd [p0,p1] [] :=
 F.binds λkV doc pm an cdv ct us hl=>match us,hl with |[a0,a1],_=>h kV doc pm an cdv ct a0 a1
theorem Fun.b3{p0 p1 p2:Str}(F:Fun K x qual st f fd)(h:∀(kV doc pm:Ad) (an:Option Addr) (cdv ct a0 a1 a2:Ad),CF (Cy x qual (zaN st) (zaC st) (zad st) .none kV doc pm an cdv ct) ⟨[a0,a1,a2],[]⟩=pure [(p0,a0),(p1,a1),(p2,a2)]:=by intros;rfl):Binds K fd [p0,p1,p2] [] :=
 F.binds λkV doc pm an cdv ct us hl=>match us,hl with |[a0,a1,a2],_=>h kV doc pm an cdv ct a0 a1 a2
theorem Fun.b4{p0 p1 p2 p3:Str}(F:Fun K x qual st f fd)(h:∀(kV doc pm:Ad) (an:Option Addr) (cdv ct a0 a1 a2 a3:Ad),CF (Cy x qual (zaN st) (zaC st) (zad st) .none kV doc pm an cdv ct) ⟨[a0,a1,a2,a3],[]⟩=pure [(p0,a0),(p1,a1),(p2,a2),(p3,a3)]:=by intros;rfl):Binds K fd [p0,p1,p2,p3] [] :=
 F.binds λkV doc pm an cdv ct us hl=>match us,hl with |[a0,a1,a2,a3],_=>h kV doc pm an cdv ct a0 a1 a2 a3
theorem Fun.b5{p0 p1 p2 p3 p4:Str}(F:Fun K x qual st f fd)(h:∀(kV doc pm:Ad) (an:Option Addr) (cdv ct a0 a1 a2 a3 a4:Ad),CF (Cy x qual (zaN st) (zaC st) (zad st) .none kV doc pm an cdv ct) ⟨[a0,a1,a2,a3,a4],[]⟩=pure [(p0,a0),(p1,a1),(p2,a2),(p3,a3),(p4,a4)]:=by intros;rfl):Binds K fd [p0,p1,p2,p3,p4] [] :=
 F.binds λkV doc pm an cdv ct us hl=>match us,hl with |[a0,a1,a2,a3,a4],_=>h kV doc pm an cdv ct a0 a1 a2 a3 a4
theorem Fun.b6{p0 p1 p2 p3 p4 p5:Str}(F:Fun K x qual st f fd)(h:∀(kV doc pm:Ad) (an:Option Addr) (cdv ct a0 a1 a2 a3 a4 a5:Ad),CF (Cy x qual (zaN st) (zaC st) (zad st) .none kV doc pm an cdv ct) ⟨[a0,a1,a2,a3,a4,a5],[]⟩=pure [(p0,a0),(p1,a1),(p2,a2),(p3,a3),(p4,a4),(p5,a5)]:=by intros;rfl):Binds K fd [p0,p1,p2,p3,p4,p5] [] :=
 F.binds λkV doc pm an cdv ct us hl=>match us,hl with |[a0,a1,a2,a3,a4,a5],_=>h kV doc pm an cdv ct a0 a1 a2 a3 a4 a5
end
noncomputable def DA(K:W.Frag)(x:Str)(st:Stmt):Prop:=∃(f:Addr) (od an:Option Addr) (sl:Array (Option Ad)) (oc kV dc pm cd ct:Ad),CQ K AI x=some (some (.ref f)) /\
 K.lookup f=some ⟨oc,od,.func (Cy x x (zaN st) (zaC st) (zad st) .none kV dc pm an cd ct),sl⟩/\W.codeIn K cd x=true/\W.keepIn K (.ref f)=true
section
variable {K:W.Frag}{mg:Str->Option Ad}{h:Heap}{x:Str}{st:Stmt}
theorem DA.mk{f:Addr}{od an:Option Addr}{sl:Array (Option Ad)}{oc kV dc pm cd ct:Ad}(a:CQ K AI x=some (some (.ref f)))
  (l:K.lookup f=some ⟨oc,od,.func (Cy x x (zaN st) (zaC st) (zad st) .none kV dc pm an cd ct),sl⟩) (c:W.codeIn K cd x=true) (k:W.keepIn K (.ref f)=true):DA K x st :=
 ⟨f,od,an,sl,oc,kV,dc,pm,cd,ct,a,l,c,k⟩
theorem DA.d1{p0:Str}(D:DA K x st)(X:K.In h)(G:h.Ns AI mg)(hb:∀(kV doc pm:Ad) (an:Option Addr) (cdv ct a0:Ad),CF (Cy x x (zaN st) (zaC st) (zad st) .none kV doc pm an cdv ct) ⟨[a0],[]⟩=pure [(p0,a0)]:=by intros;rfl):Nonempty (Df K mg x st [p0]):=by obtain⟨f,od,an,sl,oc,kV,dc,pm,cd,ct,a,l,c,k⟩:=D;exact⟨⟨f,_,zb1 l c k,W.mg_of X G a,(zb1 l c k).b1 hb⟩⟩
theorem DA.d2{p0 p1:Str}(D:DA K x st)(X:K.In h)(G:h.Ns AI mg)(hb:∀(kV doc pm:Ad) (an:Option Addr) (cdv ct a0 a1:Ad),CF (Cy x x (zaN st) (zaC st) (zad st) .none kV doc pm an cdv ct) ⟨[a0,a1],[]⟩=pure [(p0,a0),(p1,a1)]:=by intros;rfl):Nonempty (Df K mg x st [p0,p1]):=by obtain⟨f,od,an,sl,oc,kV,dc,pm,cd,ct,a,l,c,k⟩:=D;exact⟨⟨f,_,zb1 l c k,W.mg_of X G a,(zb1 l c k).b2 hb⟩⟩
theorem DA.d3{p0 p1 p2:Str}(D:DA K x st)(X:K.In h)(G:h.Ns AI mg)(hb:∀(kV doc pm:Ad) (an:Option Addr) (cdv ct a0 a1 a2:Ad),CF (Cy x x (zaN st) (zaC st) (zad st) .none kV doc pm an cdv ct) ⟨[a0,a1,a2],[]⟩=pure [(p0,a0),(p1,a1),(p2,a2)]:=by intros;rfl):Nonempty (Df K mg x st [p0,p1,p2]):=by obtain⟨f,od,an,sl,oc,kV,dc,pm,cd,ct,a,l,c,k⟩:=D;exact⟨⟨f,_,zb1 l c k,W.mg_of X G a,(zb1 l c k).b3 hb⟩⟩
theorem DA.d4{p0 p1 p2 p3:Str}(D:DA K x st)(X:K.In h)(G:h.Ns AI mg)(hb:∀(kV doc pm:Ad) (an:Option Addr) (cdv ct a0 a1 a2 a3:Ad),CF (Cy x x (zaN st) (zaC st) (zad st) .none kV doc pm an cdv ct) ⟨[a0,a1,a2,a3],[]⟩=pure [(p0,a0),(p1,a1),(p2,a2),(p3,a3)]:=by intros;rfl):Nonempty (Df K mg x st [p0,p1,p2,p3]):=by obtain⟨f,od,an,sl,oc,kV,dc,pm,cd,ct,a,l,c,k⟩:=D;exact⟨⟨f,_,zb1 l c k,W.mg_of X G a,(zb1 l c k).b4 hb⟩⟩
theorem DA.d5{p0 p1 p2 p3 p4:Str}(D:DA K x st)(X:K.In h)(G:h.Ns AI mg)(hb:∀(kV doc pm:Ad) (an:Option Addr) (cdv ct a0 a1 a2 a3 a4:Ad),CF (Cy x x (zaN st) (zaC st) (zad st) .none kV doc pm an cdv ct) ⟨[a0,a1,a2,a3,a4],[]⟩=pure [(p0,a0),(p1,a1),(p2,a2),(p3,a3),(p4,a4)]:=by intros;rfl):Nonempty (Df K mg x st [p0,p1,p2,p3,p4]):=by obtain⟨f,od,an,sl,oc,kV,dc,pm,cd,ct,a,l,c,k⟩:=D;exact⟨⟨f,_,zb1 l c k,W.mg_of X G a,(zb1 l c k).b5 hb⟩⟩
theorem DA.d6{p0 p1 p2 p3 p4 p5:Str}(D:DA K x st)(X:K.In h)(G:h.Ns AI mg)(hb:∀(kV doc pm:Ad) (an:Option Addr) (cdv ct a0 a1 a2 a3 a4 a5:Ad),CF (Cy x x (zaN st) (zaC st) (zad st) .none kV doc pm an cdv ct) ⟨[a0,a1,a2,a3,a4,a5],[]⟩=pure [(p0,a0),(p1,a1),(p2,a2),(p3,a3),(p4,a4),(p5,a5)]:=by intros;rfl):Nonempty (Df K mg x st [p0,p1,p2,p3,p4,p5]):=by obtain⟨f,od,an,sl,oc,kV,dc,pm,cd,ct,a,l,c,k⟩:=D;exact⟨⟨f,_,zb1 l c k,W.mg_of X G a,(zb1 l c k).b6 hb⟩⟩
end
open PySem PySem.Spec PyProof.Rows
theorem zeI:∀(names:List (Str×Cb)) (n:Nat) (acc:List (Str×Addr)) (x:Str) (c:Addr),(Bv n names acc).lookup x=some c->acc.lookup x=some c∨((x,Bl)∈names/\n<=c)
 |[],_,_,_,_,h=>.inl h
 | (m,k)::r,n,acc,x,c,h=>by
  unfold Bv at h
  by_cases hk:(k == Bl)=true
  .rw[if_pos hk]at h;rcases zeI r (n+1) _ x c h with q |⟨q,l⟩
   .by_cases hx:x=m
    .subst hx;rw[AR,beq_self_eq_true]at q
     cases q
     have:k=.cell:=by simpa using hk
     subst this;exact .inr ⟨Aq,Ai _⟩
    .have hb:(x == m)=false:=by simpa using hx
     rw[AR,hb]at q;exact .inl q
   .exact .inr ⟨Ak _ q,Nat.le_of_succ_le l⟩
  .rw[if_neg hk]at h;rcases zeI r n acc x c h with q |⟨q,l⟩
   .exact .inl q
   .exact .inr ⟨Ak _ q,l⟩
theorem zfj:∀(names:List (Str×Cb)) (n:Nat) (acc:List (Str×Addr)) (x:Str),(∃c,acc.lookup x=some c)∨(x,Bl)∈names->∃c,(Bv n names acc).lookup x=some c
 |[],_,_,_,h=>h.elim id (λz=>nomatch z)
 | (m,k)::r,n,acc,x,h=>by
  unfold Bv
  by_cases hk:(k == Bl)=true
  .rw[if_pos hk];refine zfj r (n+1) _ x ?_
   by_cases hx:x=m
   .subst hx;exact .inl ⟨n,by rw[AR,beq_self_eq_true]⟩
   .have hb:(x == m)=false:=by simpa using hx
    rcases h with⟨c,h⟩ |h
    .exact .inl ⟨c,by rw[AR,hb];exact h⟩
    .rcases Ao.mp h with z |z
     .cases z;exact absurd rfl hx
     .exact .inr z
  .rw[if_neg hk];refine zfj r n acc x ?_
   rcases h with h |h
   .exact .inl h
   .rcases Ao.mp h with z |z
    .cases z;exact absurd rfl hk
    .exact .inr z
theorem zlN{names:List (Str×Cb)}{n:Nat}{acc:List (Str×Addr)}{x:Str}{c:Addr}(h:acc.lookup x=some c)(hx:(x,Bl) ∉ names):(Bv n names acc).lookup x=some c:=by
 obtain⟨c',e⟩:=zfj names n acc x (.inl ⟨c,h⟩);rcases zeI names n acc x c' e with q |⟨q,_⟩
 .rw[h]at q;cases q;exact e
 .exact absurd q hx
theorem zjB:∀(names:List (Str × Cb)) (n:Nat) (acc:List (Str × Addr)), (∀x c, acc.lookup x=some c -> c < n) -> (∀x y c, acc.lookup x=some c -> acc.lookup y=some c -> x=y) ->
  ∀x y c,(Bv n names acc).lookup x=some c->(Bv n names acc).lookup y=some c->x=y
 |[],_,_,_,h=>h
 | (m,k)::r,n,acc,hl,hi=>by
  unfold Bv
  by_cases hk:(k == Bl)=true
  .rw[if_pos hk];refine zjB r (n+1) _ (λx c e=>?_) (λx y c e1 e2=>?_)
   .rw[AR]at e
    cases hb:x == m with
    |true=>rw[hb]at e;cases e;exact Nat.lt_succ_self _
    |false=>rw[hb]at e;exact Cu (hl x c e)
   .rw[AR]at e1 e2
    cases hb:x == m with
    |true =>
     rw[hb]at e1
     cases e1
     cases hb2:y == m with
     |true=>rw[beq_iff_eq.mp hb,beq_iff_eq.mp hb2]
     |false=>rw[hb2]at e2;exact absurd (hl y _ e2) (BI _)
    |false =>
     rw[hb]at e1
     cases hb2:y == m with
     |true=>rw[hb2]at e2;cases e2;exact absurd (hl x _ e1) (BI _)
     |false=>rw[hb2]at e2;exact hi x y c e1 e2
  .rw[if_neg hk];exact zjB r n acc hl hi
theorem zgO:∀(names:List (Str×Cb)) (h:Heap) (acc:List (Str×Addr)),(∀x c,acc.lookup x=some c->∃v,h.IsCell c v)->∀x c,(Bv h.objs.size names acc).lookup x=some c->∃v,(pushCells h names).IsCell c v
 |[],_,_,ha=>ha
 | (m,k)::r,h,acc,ha=>by
  unfold Bv pushCells
  by_cases hk:(k == Bl)=true
  .rw[if_pos hk,if_pos hk]
   have:=zgO r (h.push { cls:=.type "cell",data:=.cell none }) ((m,h.objs.size)::acc) (λx c e=>by
    rw[AR]at e
    cases hb:x == m with
    |true=>rw[hb]at e;cases e;exact⟨none,_,AC _ rfl,rfl⟩
    |false =>
     rw[hb]at e;obtain⟨v,q⟩:=ha x c e;exact⟨v,q.keeps λb o e=>Ag _ e⟩)
   rwa [Heap.size_push]at this
  .rw[if_neg hk,if_neg hk];exact zgO r h acc ha
theorem zkf{M:Model}{A:AL}{E:Ad -> Ae -> Prop}{s:Ae}{sc:Scope}{g:Addr}{cl:List (Str × Addr)}{qual:Str}{env:Env}{Q:Env -> Ae -> Prop}
  (h:Q (newEnv sc s.heap.objs.size g (Bv (s.heap.objs.size+1) sc.names cl) qual none .none (some env) builtinsNs) { s with heap:=pushCells (s.heap.push { cls:=.type "dict",data:=.dict #[] }) sc.names }) :
  Ar M A (newFunctionEnv sc g cl [] qual none .none (some env)) Q E s:=by
 simp only[newFunctionEnv,Option.isSome_some,if_true];refine Ac (wpAny_alloc ?_);refine Ac (wpAny_layCells _ (λname kind cells=>by cases hkc:kind == Bl <;> simp[hkc]) _ _ _ _ ?_);rw[show ({ s with heap:=s.heap.push { cls:=.type "dict",data:=.dict #[] } }:Ae).heap.objs.size=s.heap.objs.size+1 from Heap.size_push ..];rw[List.forIn_nil];exact Ac (Aj (Aj h))
noncomputable abbrev blkC(X:Cx)(sc:Scope)(cl:List (Str×Addr))(C:Addr)(N':List Str)(s0:Ae)(H0:Hp)(ex:List Addr):Cx :=
 { blk X sc cl C N' s0 H0 ex with fn:=λx=>decide (sc.names.lookup x=some .cell) }
structure BlkC (osc:Scope) (N:List Str) (sc:Scope) (N':List Str) (sel:List (Option Nat)):Prop where
 kind:sc.kind=.function
 nd:(sc.names.map (·.1)).Nodup
 names:∀y∈sc.names,y.2=.local->sc.names.lookup y.1=some .local
 free:∀y∈sc.names,y.2=.free->osc.names.lookup y.1=some .cell∨osc.names.lookup y.1=some .free
 len:sel.length=N'.length
 sel:∀p∈sel.zip N',∀i∈p.1,N[i]?=some p.2/\sc.names.lookup p.2=some .free
theorem zi3{l:List (Str×Cb)}(nd:(l.map (·.1)).Nodup){x:Str}{k k':Cb}(h:(x,k)∈l)(h':(x,k')∈l):k=k':=by
 induction l with
 |nil=>cases h
 |cons y r ih =>
  rw[Ba,List.nodup_cons]at nd;rcases Ao.mp h with e |h <;> rcases Ao.mp h' with e' |h'
  .rw[<- e']at e;exact (Prod.mk.inj e).2
  .exact absurd (AF.mpr ⟨_,h',by rw[<- e]⟩) nd.1
  .exact absurd (AF.mpr ⟨_,h,by rw[<- e']⟩) nd.1
  .exact ih nd.2 h h'
theorem zlM{X:Cx}{osc:Scope}{N:List Str}{sc:Scope}{N':List Str}{sel:List (Option Nat)}(ok:X.Ok)(B:BlkC osc N sc N' sel)(ho:X.env.scope=osc):∃cl,Clo X.env sc cl:=by
 have hc:∀y∈sc.names,y.2=.free->∃c,X.env.cells.lookup y.1=some c:=λy hy hf=>ok.has y.1 (by
  show X.env.scope.names.lookup y.1=_∨X.env.scope.names.lookup y.1=_;rw[ho];exact B.free y hy hf)
 obtain⟨cl,e,h1,h2,_⟩:=zcb (env:=X.env) sc.names [] hc;refine⟨cl,?_,λx c h=>?_,h2⟩
 .unfold closureFor;have e':=e;show (do let r <- forIn sc.names [] _;pure r)=_;simp only[bind_pure];exact e'
 .rcases h1 x c h with q |q
  .cases q
  .exact q
section
variable {X:Cx}{osc:Scope}{N:List Str}{sc:Scope}{N':List Str}{sel:List (Option Nat)}{cl:List (Str×Addr)}{pins:List (Addr×Obj)}{σ:St}{H:Hp}{s:Ae}{fp:List Addr}
theorem zkl{tk:Nat}(B:BlkC osc N sc N' sel)(ho:X.env.scope=osc)(hN:X.N=N)(Cl:Clo X.env sc cl)(I:Inv X pins σ H s)
    (f:∀b∈fp,FpOk X pins H b) (fo:∀b∈fp,∃o,s.heap.get? b=some o) :
    Inv (blkC X sc (Bv (s.heap.objs.size+1) sc.names cl) s.heap.objs.size N' s H fp) [] (selSt sel σ) H { s with heap:=pushCells (s.heap.push { cls:=.type "dict",data:=.dict #[] }) sc.names,toks:=tk }:=by
  have old:∀b o,s.heap.get? b=some o->(pushCells (s.heap.push { cls:=.type "dict",data:=.dict #[] }) sc.names).get? b=some o:=λb o e=>pushCells_keeps _ _ b o (Ag _ e)
  have bel:∀b∈fp,b<s.heap.objs.size:=λb hb=>by obtain⟨o,e⟩:=fo b hb;exact An e
  have kk:∀x,(BZ sc (Bv (s.heap.objs.size+1) sc.names cl) s.heap.objs.size X.env).kindOf x=some .cell∨(BZ sc (Bv (s.heap.objs.size+1) sc.names cl) s.heap.objs.size X.env).kindOf x=some .free->(x,Be)∈sc.names∨(x,Bl)∈sc.names:=λx hx=>by
    rcases hx with hx |hx
    . obtain⟨k',m,e⟩:=za5 hx;rcases e with e |⟨_,e⟩
      . subst e;exact .inr m
      . subst e;exact .inl m
    . obtain⟨k',m,e⟩:=za5 hx;rcases e with e |⟨e,_⟩
      . subst e;exact .inl m
      . cases e
  have clt:∀x c,cl.lookup x=some c->c<s.heap.objs.size:=λx c e=>by obtain⟨v,q⟩:=I.cell x c (Cl.old x c e).1;exact q.lt
  have cne:∀b,b<s.heap.objs.size->(∀x c,X.env.cells.lookup x=some c->c≠b)->∀x c,(Bv (s.heap.objs.size+1) sc.names cl).lookup x=some c->c≠b:=λb hb hq x c e=>by
    rcases zeI _ _ _ _ _ e with q |⟨_,q⟩
    . exact hq x c (Cl.old x c q).1
    . intro z;subst z;lia
  refine⟨⟨I.mod, B.kind, I.ok.glob, I.ok.blt, Ai _, λx y c e1 e2 => zjB sc.names _ cl (λx c e => Cu (clt x c e)) (λx y c e1 e2 => I.ok.inj x y c (Cl.old x c e1).1 (Cl.old y c e2).1) x y c e1 e2,
      λx hx=>zfj _ _ _ _ (by
        rcases kk x hx with z |z
        . exact .inl (Cl.has _ z rfl)
        . exact .inr z),λx c z e=>?_,I.ok.hd,I.ok.frames,.inl rfl,
      λb hb=>⟨At (bel b hb),cne b (bel b hb) (f b hb).2.2.2.2.1⟩,I.bs,A8 I.ok.bsz I.sz,λb o e hb=>?_,λb hb hs=>?_,I.stack,I.stkFree⟩,
    rfl,I.bare,Un.kept old,⟨_,(Heap.Ns.new s.heap (.type "dict")).keeps (pushCells_keeps _ _),λj x v e1 e2 e3=>?_⟩,λx c e=>?_,I.hok.fresh (Ai _),λx c e=>?_,λp hp=>absurd (show p∈([]:List (Addr×Obj)) from hp) (by simp),I.hok.kept old,?_⟩
  . have z':sc.names.lookup x=some .cell:=by simpa using z
    rcases zeI _ _ _ _ _ e with q |⟨_,q⟩
    . exact absurd (zi3 B.nd (BF z') (Cl.old x c q).2) (by decide)
    . exact Nat.le_of_succ_le q
  . rcases (f b hb).2.2.2.1 with z |z
    . exact I.ok.noex b o e z
    . exact absurd (AB (An e) (A8 I.ok.bsz z)) (BI _)
  . obtain⟨_,f1,f2,_⟩:=f b hb;rcases Ao.mp (I.stkSub b hs) with z |z
    . exact f1 z
    . exact f2 z
  . have e2':((sel[j]?).map λo => o.bind λi => (σ[i]?).join)=some (some v) := by have:=e2;unfold selSt at this;rw[Ap]at this;exact this
    cases hj:sel[j]? with
    |none=>rw[hj]at e2';cases e2'
    |some o =>
      rw[hj]at e2'
      cases o with
      |none=>cases e2'
      |some i =>
        have e4:(σ[i]?).join=some v:=AO e2'
        have e5:σ[i]?=some (some v):=by
          cases q:σ[i]? with
          |none=>rw[q]at e4;cases e4
          |some z=>rw[q]at e4;exact congrArg some e4
        have hz:(some i,x)∈sel.zip N':=by
          refine Ah (i:=j) ?_
          rw[A4];exact⟨hj,e1⟩
        obtain⟨g1,g2⟩:=B.sel _ hz i rfl;obtain⟨m,hn,hl⟩:=I.loc;have m2:(x,Be)∈sc.names:=BF g2
        have k2:X.env.kindOf x=some .cell∨X.env.kindOf x=some .free:=by show X.env.scope.names.lookup x=_∨X.env.scope.names.lookup x=_;rw[ho];exact B.free _ m2 rfl
        have v2:Vis X.env.scope x:=by
          rcases k2 with z |z
          . exact .inr (.inl z)
          . exact .inr (.inr z)
        obtain⟨u,r,l⟩:=hl i x v (by rw[hN];exact g1) e5 v2;refine⟨u,r,?_⟩;rcases l with⟨l,_⟩ |⟨_,c,e6,hc⟩
        . rcases k2 with z |z <;> (rw[l]at z;cases z)
        . obtain⟨c',hc'⟩:=Cl.has _ m2 rfl;have e7:=(Cl.old x c' hc').1;rw[e6]at e7
          cases e7
          exact .inr ⟨za9 g2,c,zlN hc' (λz=>absurd (zi3 B.nd z m2) (by decide)),hc.keeps old⟩
  . have e':(Bv (s.heap.push { cls:=.type "dict",data:=.dict #[] }).objs.size sc.names cl).lookup x=some c:=by rw[Heap.size_push];exact e
    exact zgO sc.names (s.heap.push { cls:=.type "dict",data:=.dict #[] }) cl (λx c e=>by obtain⟨v,q⟩:=I.cell x c (Cl.old x c e).1;exact⟨v,q.keeps λb o e=>Ag _ e⟩) x c e'
  . rcases zeI _ _ _ _ _ e with q |⟨_,q⟩
    . exact I.freeC x c (Cl.old x c q).1
    . exact I.hok.fresh (Nat.le_of_succ_le q)
  . show (selSt sel σ).length=N'.length;unfold selSt;rw[Af,B.len]
theorem zkq{C:Addr}{H':Hp}{σ':St}{s':Ae}(I:Inv X pins σ H s)(f:∀b∈fp,FpOk X pins H b)(I':Inv (blkC X sc cl C N' s H fp) [] σ' H' s'):Inv X pins σ H' s' :=
 I.call' (ch:=fp) I'.os I'.base I'.hok I'.bare λb hb=>by obtain⟨_,f1,_,f3,f4,f5⟩:=f b hb;exact⟨f3,f1,f4,f5⟩
end
section
variable {X:Cx}{osc:Scope}{N:List Str}{sc:Scope}{N':List Str}{sel:List (Option Nat)}{pos:Pos}{elt tg iter:Expr}{ifs:List Expr}{wi:TI}{g:TG}{tt:TT}{te:TE}
noncomputable def zjS(X:Cx)(sc:Scope)(N':List Str)(P:Cx->Prop):Prop:=∀cl C s0 H0 ex,P (blkC X sc cl C N' s0 H0 ex)
theorem ziS(B:BlkC osc N sc N' sel)(hi:PI X tg iter wi)(hg:zjS X sc N' λY => PG Y tg g)(ht:zjS X sc N' λY => PTs Y ifs tt)(he:zjS X sc N' λY => PE Y elt te)
  (ho:X.env.scope=osc:=by rfl) (hN:X.N=N:=by rfl) (hc:X.calm=true:=by rfl) (hs:∀x,Bc iter X.env x=pure x:=by intro _;rfl) :
  PE X (.ListComp elt [⟨tg,iter,ifs,0⟩] sc pos) (zkw wi sel g tt te):=by
 intro pins s' σ H' Q I' h;obtain⟨cl,Cl⟩:=zlM I'.ok B ho;rw[eval_ListComp];refine BJ (use:=none) rfl hs Cl.run B.kind B.names (thn (hi pins s' σ H' _ I' h) λv s1 h1=>thn h1 λitv s h2=>?_);obtain⟨it,fp,tn,J,H,e,I,T,st,f,h2⟩:=h2;subst e;refine Bi ?_
 have h:=h2 _ (I.hok.fresh (Ai _));have grow:∀b o,s.heap.get? b=some o->(s.heap.push { cls:=.type "list",dict:=none,data:=.seq ([]:List Ad).toArray }).get? b=some o:=λ_ _ q=>Ag _ q
 have I1:Inv X pins σ (upd H s.heap.objs.size (.lst [])) { s with heap:=s.heap.push { cls:=.type "list",dict:=none,data:=.seq ([]:List Ad).toArray },toks:=s.toks }:=I.laid grow (Ai _) zdZ;have bel:∀b∈fp,∃o,s.heap.get? b=some o:=λb hb=>let ⟨o,e,_⟩:=T.obj _ _ st b hb;⟨o,e⟩
 have f1:∀b∈fp,FpOk X pins (upd H s.heap.objs.size (.lst [])) b:=λb hb=>by obtain⟨o,e⟩:=bel b hb;refine⟨?_,(f b hb).2⟩;rw[zal (At (An e))];exact (f b hb).1
 refine zkf (s:={ s with heap:=s.heap.push { cls:=.type "list",dict:=none,data:=.seq ([]:List Ad).toArray },toks:=s.toks }) ?_
 have I2:=zkl (tk:=s.toks) B ho hN Cl I1 f1 (λb hb=>let ⟨o,e⟩:=bel b hb;⟨o,grow b o e⟩);have st1:tn 0 (pushCells ((s.heap.push { cls:=.type "list",dict:=none,data:=.seq ([]:List Ad).toArray }).push { cls:=.type "dict",data:=.dict #[] }) sc.names):=T.keep _ _ _ st λb _ o e=>pushCells_keeps _ _ b o (Ag _ (grow b o e))
 have f2:∀b∈fp,FpOk (blkC X sc (Bv ((s.heap.push { cls:=.type "list",dict:=none,data:=.seq ([]:List Ad).toArray }).objs.size+1) sc.names cl) (s.heap.push { cls:=.type "list",dict:=none,data:=.seq ([]:List Ad).toArray }).objs.size N' { s with heap:=s.heap.push { cls:=.type "list",dict:=none,data:=.seq ([]:List Ad).toArray },toks:=s.toks } (upd H s.heap.objs.size (.lst [])) fp) [] (upd H s.heap.objs.size (.lst [])) b:=λb hb=>by
  obtain⟨g0,g1,g2,g3,g4,g5⟩:=f1 b hb;obtain⟨o,e⟩:=bel b hb;refine⟨g0,At (An (grow b o e)),λz=>?_,.inl hb,(I2.ok.exf b hb).2,λp hp=>absurd (show p∈([]:List (Addr×Obj)) from hp) (by simp)⟩;rcases Ao.mp (I1.stkSub b z) with q |q
  .exact g1 q
  .exact g2 q
 have loop:=zcn (e:=.ListComp elt [⟨tg,iter,ifs,0⟩] sc pos) (d:=0) (acc:=.ref s.heap.objs.size) (X:=blkC X sc (Bv ((s.heap.push { cls:=.type "list",dict:=none,data:=.seq ([]:List Ad).toArray }).objs.size+1) sc.names cl) (s.heap.push { cls:=.type "list",dict:=none,data:=.seq ([]:List Ad).toArray }).objs.size N' { s with heap:=s.heap.push { cls:=.type "list",dict:=none,data:=.seq ([]:List Ad).toArray },toks:=s.toks } (upd H s.heap.objs.size (.lst [])) fp) (p:=iter.pos)
  (inner:=do let _ <- call (.builtin "list.append") [.ref s.heap.objs.size,<- eval elt (BZ sc (Bv ((s.heap.push { cls:=.type "list",dict:=none,data:=.seq ([]:List Ad).toArray }).objs.size+1) sc.names cl) (s.heap.push { cls:=.type "list",dict:=none,data:=.seq ([]:List Ad).toArray }).objs.size X.env)]) rfl rfl rfl (λB {α t Q E s} h w=>by subst h;exact w) hc rfl (hg _ _ _ _ _) (ht _ _ _ _ _) (zgy (he _ _ _ _ _)) I2 T st1 f2 h
  (R:=compPost (Aw X.prog X.w) X.A X.xe none (λv s'=>∃x H',Inv X pins σ H' s'/\RelV x v/\Q x H') (.ref s.heap.objs.size) (s.heap.push { cls:=.type "list",dict:=none,data:=.seq ([]:List Ad).toArray }).objs.size) (λfl s' ⟨σ',H',I',fr',q'⟩=>by have I3:=zkq I1 f1 I';have hC:FpOk X pins H' (s.heap.push { cls:=.type "list",dict:=none,data:=.seq ([]:List Ad).toArray }).objs.size:=I1.fpOk (Ai _) I'.free;obtain⟨m,hn,_⟩:=I'.loc;exact⟨m,hn,λh' hs'=>⟨.ref s.heap.objs.size,H',I3.let_go hC hs',rfl,q'⟩⟩)
 exact B7 loop (T.self _ 0 _ _ _ st1 loop)
end
theorem bOC{osc:Scope}{N:List Str}{sc:Scope}{N':List Str}{sel:List (Option Nat)}(a:sc.kind = .function := by rfl)(b:(sc.names.map (·.1)).Nodup := by decide +kernel)(c:∀y ∈ sc.names, y.2 = .local -> sc.names.lookup y.1=some .local := by decide +kernel)
  (d:∀y∈sc.names,y.2=.free->osc.names.lookup y.1=some .cell∨osc.names.lookup y.1=some .free:=by decide +kernel) (e:sel.length=N'.length:=by rfl) (f:∀p∈sel.zip N',∀i∈p.1,N[i]?=some p.2/\sc.names.lookup p.2=some .free:=by decide +kernel):BlkC osc N sc N' sel:=⟨a,b,c,d,e,f⟩
noncomputable def zj2(s:Stmt):Scope:=match zaC s with
 |[.Return (some (.ListComp _ _ sc _)) _]=>sc
 |_=>zad s
noncomputable def relS(sc osc:Scope):Scope:={ sc with names:=sc.names.map λ(n,k)=>if (k == .free && osc.kind == .function && osc.names.lookup n == some .cell) then (n,.cell) else (n,k) }
inductive IsC:Expr->V->Prop where
 |int {n:Int} {k:Nat} {p:Pos}:IsC (.Constant (.int n) k p) (.int n)
 |bl {b:Bool} {k:Nat} {p:Pos}:IsC (.Constant (.bool b) k p) (.bl b)
 |neg {n:Int} {k:Nat} {p q:Pos}:IsC (.UnaryOp .USub (.Constant (.int n) k p) q) (.int (-n))
inductive IsPs:List Expr->List (V×V)->Prop where
 |nil:IsPs [] []
 |cons {a b:Expr} {x y:V} {k:Nat} {p:Pos} {es:List Expr} {l:List (V×V)}:IsC a x->IsC b y->IsPs es l->IsPs (.Tuple [a,b] k p::es) ((x,y)::l)
inductive RetPs:List Stmt->List (V×V)->Prop where
 |mk {es:List Expr} {l:List (V×V)} {p q:Pos}:IsPs es l->RetPs [.Return (some (.List es p)) q] l
section
variable {X:Cx}
theorem zhi{e:Expr}{v:V}(h:IsC e v):PE X e (tC v):=by
 cases h with
 |int=>exact zae
 |bl=>exact pe_bl
 |neg=>exact λpins s σ H Q I q=>(pe_un zdA zae) pins s σ H Q I ⟨_,rfl,q⟩
theorem zet{e:Expr}{v:V}(h:IsC e v)(es:List Expr)(env:Env):AK (e::es) env=(false,eval e env)::AK es env:=by cases h <;> rfl
theorem zkb{es:List Expr}{l:List (V×V)}(h:IsPs es l):PA X es (tPrs l):=by
 induction h with
 |nil=>exact zab
 |cons h1 h2 _ ih=>exact pa_T (zaV (zah (zhi h1) (zah (zhi h2) zab (zet h2 _ _)) (zet h1 _ _))) ih
end
end L2
namespace RR
open PySem L2
noncomputable def top(i:Nat):Stmt:=PySem.Challenge.pw_rimsteps_k70_whole_thinned_rounds.main.body.getD i (.Pass ⟨0,0,0,0⟩)
noncomputable abbrev zcj:Stmt:=top 5
noncomputable abbrev zgf:List Str:=["cell"]
theorem zeW:FnScope zgf ["cell"] (zad zcj):=sC
noncomputable abbrev zb8:Stmt:=top 6
noncomputable abbrev zft:List Str:=["picture","at"]
theorem zcw:FnScope zft ["picture"] (zad zb8):=sC
noncomputable abbrev ziF:Stmt:=top 7
noncomputable abbrev zmv:List Str:=["x","y","step","right","up"]
theorem zgr:FnScope zmv ["x","y","step"] (zad ziF):=sC
noncomputable abbrev zbM:Stmt:=top 8
noncomputable abbrev zdk:List Str:=["picture"]
theorem zeV:FnScope zdk ["picture"] (zad zbM):=sC
noncomputable abbrev zci:Stmt:=top 10
noncomputable abbrev zge:List Str:=["edge","x","y","way"]
theorem zbx:FnScope zge ["edge"] (zad zci):=sC
noncomputable abbrev zbG:Stmt:=top 11
noncomputable abbrev zcK:List Str:=["picture","table","edges"]
theorem zcg:FnScope zcK ["picture"] (zad zbG):=sC
noncomputable abbrev zbF:Stmt:=top 12
noncomputable abbrev zd8:List Str:=["way"]
theorem zdl:FnScope zd8 ["way"] (zad zbF):=sC
noncomputable abbrev zch:Stmt:=top 13
noncomputable abbrev zgc:List Str:=["way"]
theorem zeU:FnScope zgc ["way"] (zad zch):=sC
noncomputable abbrev zb5:Stmt:=top 14
noncomputable abbrev zfq:List Str:=["table","edge","x","y","way","step"]
theorem za3:FnScope zfq ["table","edge"] (zad zb5):=sC
noncomputable abbrev zc5:Stmt:=top 15
noncomputable abbrev zid:List Str:=["step"]
theorem zgq:FnScope zid ["step"] (zad zc5):=sC
noncomputable abbrev zb7:Stmt:=top 16
noncomputable abbrev zfs:List Str:=["edge","step","x","y","way","new_x","new_y"]
theorem zaT:FnScope zfs ["edge","step"] (zad zb7):=sC
noncomputable abbrev zcA:Stmt:=top 19
noncomputable abbrev zgP:List Str:=["table","begin","step","walk","edge"]
theorem zba:FnScope zgP ["table","begin"] (zad zcA):=sC
noncomputable abbrev zaK:Stmt:=top 20
noncomputable abbrev zbh:List Str:=["walk","lefts","slants"]
theorem za6:FnScope zbh ["walk"] (zad zaK):=sC
noncomputable abbrev za7:Stmt:=top 21
noncomputable abbrev zcJ:List Str:=["walk","lefts","slants"]
theorem za1:FnScope zcJ ["walk"] (zad za7):=sC
noncomputable abbrev zdN:Stmt:=top 22
noncomputable abbrev zjP:List Str:=["walk"]
theorem zhS:FnScope zjP ["walk"] (zad zdN):=sC
noncomputable abbrev zcr:Stmt:=top 23
noncomputable abbrev zeN:List Str:=["walk","sort"]
theorem zgt:FnScope zeN ["walk","sort"] (zad zcr):=sC
noncomputable abbrev zbA:Stmt:=top 24
noncomputable abbrev zde:List Str:=["walk","sort","begin","at","row"]
theorem zbD:FnScope zde ["walk"] (zad zbA):=sC
noncomputable abbrev zb6:Stmt:=top 25
noncomputable abbrev zfr:List Str:=["one","sort","x","y","row"]
theorem za4:FnScope zfr ["one"] (zad zb6):=sC
noncomputable abbrev zbR:Stmt:=top 26
noncomputable abbrev zeq:List Str:=["table","edges","walked","told","begin","walk","edge","step"]
theorem zaH:FnScope zeq ["table","edges"] (zad zbR):=sC
noncomputable abbrev zeX:Stmt:=top 27
noncomputable abbrev zkt:List Str:=["picture"]
theorem ziD:FnScope zkt ["picture"] (zad zeX):=sC
noncomputable abbrev zc4:Stmt:=top 29
noncomputable abbrev zic:List Str:=["thing"]
theorem zgp:FnScope zic ["thing"] (zad zc4):=sC
noncomputable abbrev zgv:Stmt:=top 31
noncomputable abbrev zlW:List Str:=["start","one","other"]
theorem zjZ:FnScope zlW ["start","one","other"] (zad zgv):=sC
noncomputable abbrev zeY:Stmt:=top 32
noncomputable abbrev zku:List Str:=["start","one","other"]
theorem ziE:FnScope zku ["start","one","other"] (zad zeY):=sC
noncomputable abbrev zc6:Stmt:=top 33
noncomputable abbrev zie:List Str:=["cell","side","bound","start","end"]
theorem zcz:FnScope zie ["cell","side","bound"] (zad zc6):=sC
noncomputable abbrev zdQ:Stmt:=top 34
noncomputable abbrev zjR:List Str:=["side","one","other","start","end"]
theorem zc2:FnScope zjR ["side","one","other"] (zad zdQ):=sC
noncomputable abbrev zc7:Stmt:=top 35
noncomputable abbrev zif:List Str:=["one","other"]
theorem zgs:FnScope zif ["one","other"] (zad zc7):=sC
noncomputable abbrev zc3:Stmt:=top 36
noncomputable abbrev zib:List Str:=["one","sort","x","y","row","spots","step"]
theorem zaP:FnScope zib ["one"] (zad zc3):=sC
noncomputable abbrev zdP:Stmt:=top 37
noncomputable abbrev zjQ:List Str:=["spots","corners"]
theorem zhT:FnScope zjQ ["spots","corners"] (zad zdP):=sC
noncomputable abbrev zbQ:Stmt:=top 38
noncomputable abbrev zep:List Str:=["spots","start","end"]
theorem zdJ:FnScope zep ["spots","start","end"] (zad zbQ):=sC
noncomputable abbrev zaZ:Stmt:=top 39
noncomputable abbrev zb3:List Str:=["spots","bound","start","end","side"]
theorem zbL:FnScope zb3 ["spots","bound","start","end"] (zad zaZ):=sC
noncomputable abbrev zcP:Stmt:=top 40
noncomputable abbrev zgd:List Str:=["one","bound","corners","spots"]
theorem zex:FnScope zgd ["one","bound","corners"] (zad zcP):=sC
noncomputable abbrev zcq:Stmt:=top 41
noncomputable abbrev zeL:List Str:=["one","corners","spots"]
theorem zdI:FnScope zeL ["one","corners"] (zad zcq):=sC
noncomputable abbrev zb9:Stmt:=top 42
noncomputable abbrev zd9:List Str:=["some","thinning"]
theorem zfH:FnScope zd9 ["some","thinning"] (zad zb9):=sC
noncomputable abbrev zbg:Stmt:=top 43
noncomputable abbrev zcc:List Str:=["one","thing","rising"]
theorem zcx:FnScope zcc ["one","thing"] (zad zbg):=sC
noncomputable abbrev zby:Stmt:=top 44
noncomputable abbrev zcX:List Str:=["some","thing"]
theorem zec:FnScope zcX ["some","thing"] (zad zby):=sC
noncomputable abbrev zdO:Stmt:=top 45
noncomputable abbrev zgQ:List Str:=["some","bound","thing","sides"]
theorem zhb:FnScope zgQ ["some","bound","thing"] (zad zdO):=sC
noncomputable abbrev zaM:Stmt:=top 46
noncomputable abbrev zbi:List Str:=["some","bound","thinning","index","spot","spots","start","end","side"]
theorem zaS:FnScope zbi ["some","bound","thinning","index","spot"] (zad zaM):=sC
noncomputable abbrev zbY:Stmt:=top 47
noncomputable abbrev zdf:List Str:=["some","bound","thinning","corners"]
theorem zdK:FnScope zdf ["some","bound","thinning"] (zad zbY):=sC
noncomputable abbrev zbB:Stmt:=top 49
noncomputable abbrev zeM:List Str:=["thinning","index","spot"]
theorem zgo:FnScope zeM ["thinning","index","spot"] (zad zbB):=sC
noncomputable abbrev zcO:Stmt:=top 50
noncomputable abbrev zgb:List Str:=["some","bound","thinning","free","index","spot"]
theorem zbm:FnScope zgb ["some","bound"] (zad zcO):=sC
noncomputable abbrev zdt:Stmt:=top 51
noncomputable abbrev zhH:List Str:=["one","bound","many","tried","corners"]
theorem zcf:FnScope zhH ["one","bound"] (zad zdt):=sC
noncomputable abbrev zgu:Stmt:=top 53
noncomputable abbrev zlV:List Str:=["one","dx","dy","sort","x","y","row"]
theorem zcN:FnScope zlV ["one","dx","dy"] (zad zgu):=sC
noncomputable abbrev zbT:Stmt:=top 55
noncomputable abbrev zes:List Str:=["_law_script","_law_k"]
theorem zdM:FnScope zes ["_law_script","_law_k"] (zad zbT):=sC
noncomputable abbrev zcB:Stmt:=top 56
noncomputable abbrev zgR:List Str:=["_law_pen","_law_base","_law_rest","_law_number"]
theorem zbs:FnScope zgR ["_law_pen","_law_base"] (zad zcB):=sC
noncomputable abbrev zc9:Stmt:=top 57
noncomputable abbrev zih:List Str:=["_law_pen","_law_way"]
theorem zdL:FnScope zih ["_law_pen"] (zad zc9):=sC
noncomputable abbrev zbH:Stmt:=top 58
noncomputable abbrev zea:List Str:=["_law_pen","_law_way","_law_x","_law_y","_law_wide","_law_high"]
theorem zdm:FnScope zea ["_law_pen","_law_way","_law_x","_law_y","_law_wide","_law_high"] (zad zbH):=sC
noncomputable abbrev zbS:Stmt:=top 59
noncomputable abbrev zer:List Str:=["_law_pen","_law_most","_law_wide","_law_high","_law_way","_law_dx","_law_dy","_law_found","_law_y","_law_x"]
theorem zaz:FnScope zer ["_law_pen","_law_most"] (zad zbS):=sC
noncomputable abbrev zaO:Stmt:=top 60
noncomputable abbrev zgg:List Str:=["_law_one","_law_found","_law_step","_law_dx","_law_dy"]
theorem zbf:FnScope zgg ["_law_one"] (zad zaO):=sC
noncomputable abbrev zc8:Stmt:=top 61
noncomputable abbrev zig:List Str:=["_law_pen","_law_most","_law_steps","_law_found","_law_left","_law_one"]
theorem zbE:FnScope zig ["_law_pen","_law_most","_law_steps"] (zad zc8):=sC
noncomputable abbrev zbn:Stmt:=top 62
noncomputable abbrev zdg:List Str:=["_law_cells","_law_total","_law_at","_law_x","_law_y","_law_a","_law_b"]
theorem zau:FnScope zdg ["_law_cells"] (zad zbn):=sC
noncomputable abbrev zbt:Stmt:=top 63
noncomputable abbrev zcp:List Str:=["_law_some","_law_bound","_law_more","_law_dx","_law_found","_law_far_here","_law_one","_law_row","_law_spots_here"]
theorem zaQ:FnScope zcp ["_law_some","_law_bound","_law_more","_law_dx"] (zad zbt):=sC
noncomputable abbrev s_law:Stmt:=top 64
noncomputable abbrev N_law:List Str:=["_law_script","_law_k","_law_pen","_law_some","_law_bound"]
theorem zfG:FnScope N_law ["_law_script"] (zad s_law):=sC
open PySem L2 RP
noncomputable def cellT(c:Cell):List V:=[.int c.1,.int c.2]
noncomputable def edgeT(e:Edge):List V:=[.int e.c.1,.int e.c.2,.int e.w]
noncomputable def sv:Option Nat->V
 |none=>.non
 |some s=>.int s
noncomputable def Tab(H:Hp)(t:Addr)(C:Cell->Bool):Prop:=∃kvs:List (List Key×V),H t=some (.dT kvs)/\∀c:Cell,(valV kvs [C5 c.1,C5 c.2]).isSome=C c
theorem Tab.same{H H':Hp}{t:Addr}{C:Cell->Bool}(h:Tab H t C)(s:Same H H'):Tab H' t C:=let ⟨kvs,e,q⟩:=h;⟨kvs,s _ _ e,q⟩
theorem Same.up{H:Hp}{p:Addr}{o:HO}(h:H p=none):Same H (upd H p o):=λb u e=>by rw[zal (zao e h)];exact e
structure Txt (P:AH) (w:AZ) (K:W.Frag) (mg:Str->Option Ad):Prop where
 moves:∃M,mg "MOVES" = some (.ref M)/\∀H,∃ms:List Addr,SqT K H M (ms.map V.ref)/\ms.length=8/\∀(i:Nat) a,ms[i]?=some a->SqT K H a [.int (mv i).1,.int (mv i).2]
 ways:Ways P w K mg
 nany:mg "any" = none
 nenumerate:mg "enumerate" = none
 nrange:mg "range" = none
 nlen:mg "len" = none
 nmin:mg "min" = none
 nmax:mg "max" = none
 nsorted:mg "sorted" = none
 ntuple:mg "tuple" = none
 nint:mg "int" = none
 nbool:mg "bool" = none
 nabs:mg "abs" = none
 nall:mg "all" = none
 nisinstance:mg "isinstance" = none
 nlist:mg "list" = none
 nzip:mg "zip" = none
theorem two:2<=sizeLine:=by decide
theorem three:3<=sizeLine:=by decide
section
variable {P:AH}{w:AZ}{K:W.Frag}{mg:Str->Option Ad}{base:Heap}
noncomputable def zgl(K:W.Frag):Sp:=λvs H Q _=>∃(a:Addr) (x y:Int) (r:List V),vs=[.ref a]/\SqT K H a (.int x::.int y::r)/\∀(p:Addr) (H':Hp),H p=none->Same H H'->H' p=some (.tup [.int y,.int x])->Q (.ref p) H'
theorem ze7 (d:Df K mg "cell_order" zcj ["cell"]):FnOk P w K mg base CX0 1 d.f d.fd ["cell"] (zgl K):=by
 refine d.F.ok zeW (λvs H Q E h=>?_) (λcdv A outer s H vs Q E hr h=>?_)
 .obtain⟨a,x,y,r,rfl,_⟩:=h;rfl
 .obtain⟨a,x,y,r,rfl,hq,k⟩:=h;refine⟨_,(zaf (zak (zaV (zah (pe_ix zay (pv 0) zae (λ_ _=>rfl)) (zah (pe_ix zay (pv 0) zae (λ_ _=>rfl)) zab))))),?_⟩;refine⟨_,rfl,a,_,_,_,rfl,rfl,hq,zai (j:=1) rfl,_,rfl,a,_,_,_,rfl,rfl,hq,zai (j:=0) rfl,two,λp hp=>?_⟩;exact k p _ hp (Same.up hp) zaa
noncomputable def zfE:Sp:=λvs H Q _=>∃(c:Cell) (i:Nat),vs=[.int c.1,.int c.2,.int i]/\i<8/\∀(p:Addr) (H':Hp),H p=none->Same H H'->H' p=some (.tup (cellT (go c i)))->Q (.ref p) H'
theorem zlp (T:Txt P w K mg) (d:Df K mg "gone" ziF ["x","y","step"]):FnOk P w K mg base CX0 1 d.f d.fd ["x","y","step"] zfE:=by
 refine d.F.ok zgr (λvs H Q E h=>?_) (λcdv A outer s H vs Q E hr h=>?_)
 .obtain⟨c,i,rfl,_⟩:=h;rfl
 .obtain⟨c,i,rfl,hi,k⟩:=h;obtain⟨M,hM,hms⟩:=T.moves;obtain⟨ms,hq,hl,hm⟩:=hms H
  refine⟨_,(zac (zbw (pe_ix zay (ze2 (v:=.ref M) rfl hM rfl) (pv 2) (λ_ _=>rfl)) (zbk (by rfl) (zag (nG 3 zgr.nd) (zag (nG 4 zgr.nd) zaw))))
   (zaf (zak (zaV (pa_B (pe_op zaL (pv 0) (pv 3)) (pa_B (pe_op zaL (pv 1) (pv 4)) zab)))))),?_⟩
  have hi':i<ms.length:=by lia
  have e1:ms[i]?=some ms[i]:=by simp[hi']
  refine⟨_,rfl,M,_,(i:Int),.ref ms[i],rfl,rfl,hq,zai (by simp[hi']),ms[i],_,rfl,hm i _ e1,rfl,_,_,rfl,_,_,rfl,rfl,?_⟩;refine⟨_,rfl,_,rfl,_,_,rfl,rfl,_,rfl,_,rfl,_,_,rfl,rfl,two,λp hp=>?_⟩;exact k p _ hp (Same.up hp) zaa
noncomputable def zev:Sp:=λvs H Q _=>∃w:Nat,vs=[.int w]/\w<4/\Q (.int (2*w:Nat)) H
theorem zdn (d:Df K mg "straight_step" zbF ["way"]):FnOk P w K mg base CX0 1 d.f d.fd ["way"] zev:=by
 refine d.F.ok zdl (λvs H Q E h=>?_) (λcdv A outer s H vs Q E hr h=>?_)
 .obtain⟨w,rfl,_⟩:=h;rfl
 .obtain⟨w,rfl,hw,k⟩:=h;refine⟨_,(zaf (zak (pe_op zbl zae (pv 0)))),?_⟩;refine⟨_,rfl,_,_,rfl,rfl,.inl ⟨by decide,by decide⟩,?_⟩;have e:(2*(w:Int))=((2*w:Nat):Int):=by lia
  show Q (.int (2*(w:Int))) H;rw[e];exact k
noncomputable def zir:Sp:=λvs H Q _=>∃w:Nat,vs=[.int w]/\w<4/\Q (.int ((2*w+7) % 8:Nat)) H
theorem ze4 (d:Df K mg "slant_step" zch ["way"]):FnOk P w K mg base CX0 1 d.f d.fd ["way"] zir:=by
 refine d.F.ok zeU (λvs H Q E h=>?_) (λcdv A outer s H vs Q E hr h=>?_)
 .obtain⟨w,rfl,_⟩:=h;rfl
 .obtain⟨w,rfl,hw,k⟩:=h;refine⟨_,(zaf (zak (pe_op zbN (pe_op zaL (pe_op zbl zae (pv 0)) zae) zae))),?_⟩;refine⟨_,rfl,_,_,rfl,rfl,.inl ⟨by decide,by decide⟩,_,_,rfl,rfl,_,_,rfl,rfl,(by show (0:Int)<8;decide),?_⟩;have e:(2*(w:Int)+7) % 8=(((2*w+7) % 8:Nat):Int):=by lia
  show Q (.int ((2*(w:Int)+7) % 8)) H;rw[e];exact k
noncomputable def zdH:Sp:=λvs H Q _=>∃o:Option Nat,vs=[sv o]/\Q (.bl (slant o)) H
theorem zgH (d:Df K mg "is_slant" zc5 ["step"]):FnOk P w K mg base CX0 1 d.f d.fd ["step"] zdH:=by
 refine d.F.ok zgq (λvs H Q E h=>?_) (λcdv A outer s H vs Q E hr h=>?_)
 .obtain⟨o,rfl,_⟩:=h;rfl
 .obtain⟨o,rfl,k⟩:=h;refine⟨_,(zaf (zak (zfN (za2 ziT (pv 0) zfL (zax _)) (zfK (za2 op_eq (pe_op zbN (pv 0) zae) zae (zax _)))))),?_⟩
  cases o with
  |none=>exact⟨_,rfl,rfl,false,rfl,iteF k⟩
  |some n =>
   refine⟨_,rfl,rfl,true,rfl,iteT ⟨_,rfl,_,_,rfl,rfl,(by show (0:Int)<2;decide),rfl,?_⟩⟩
   have e:decide (V.int ((n:Int) % 2)=V.int 1)=slant (some n):=by
    show _=(n % 2 == 1)
    by_cases q:n % 2=1
    .rw[decide_eq_true (by rw[show (n:Int) % 2=1 by lia]),q];rfl
    .rw[decide_eq_false (λz=>by injection z with z;lia)];simp[q]
   rw[<- e]at k;exact k
noncomputable def spGap(K:W.Frag):Sp:=λvs H Q _=>∃(a:Addr) (e:Edge),vs=[.ref a]/\SqT K H a (edgeT e)/\e.w<4/\∀(p:Addr) (H':Hp),H p=none->Same H H'->H' p=some (.tup (cellT (gap e)))->Q (.ref p) H'
theorem ze5 (g_gone:Fn P w K mg base 1 "gone" ["x","y","step"] zfE) (d:Df K mg "gap_beside" zci ["edge"]):FnOk P w K mg base CX0 2 d.f d.fd ["edge"] (spGap K):=by
 refine d.F.ok zbx (λvs H Q E h=>?_) (λcdv A outer s H vs Q E hr h=>?_)
 .obtain⟨a,e,rfl,_⟩:=h;rfl
 .obtain⟨a,e,rfl,hq,hw,k⟩:=h
  refine⟨_,(zac (zbw (pv 0) (zbk (by rfl) (zag (nG 1 zbx.nd) (zag (nG 2 zbx.nd) (zag (nG 3 zbx.nd) zaw)))))
   (zaf (zak (pC g_gone hr (pa_N (pv 1) (pa_N (pv 2) (pa_B (pe_op zbN (pe_op zaL (pe_op zbl zae (pv 3)) zae) zae) zab))))))),?_⟩
  refine⟨_,rfl,a,_,rfl,hq,rfl,_,_,rfl,_,_,rfl,_,_,rfl,rfl,?_⟩;have e6:(2*(e.w:Int)+6) % 8=(((2*e.w+6) % 8:Nat):Int):=by lia
  refine⟨_,rfl,_,rfl,_,rfl,_,_,rfl,rfl,.inl ⟨by decide,by decide⟩,_,_,rfl,rfl,_,_,rfl,rfl,(by show (0:Int)<8;decide),e.c,(2*e.w+6) % 8,(by rw[<- e6];rfl),by lia,λp H' hp hS hH=>k p H' hp hS hH⟩
theorem iteN{b:Bool}{A B:Prop}(h:b=false)(q:B):if b=true then A else B:=by subst h;exact iteF q
theorem iteY{b:Bool}{A B:Prop}(h:b=true)(q:A):if b=true then A else B:=by subst h;exact iteT q
theorem zbe{tb:TS}{D:Ends}{σ:St}{H:Hp}(h:tb D σ H):tIfs (λ_ H Q=>Q true H) tb D σ H:=by
 show if true=true then tb D σ H else D.nx σ H
 exact iteT h
theorem gN{j:Nat}{v:V}{σ:St}{H:Hp}{tb:TS}{D:Ends}(h:tb D (σ.set j (some v)) H):gName j v σ H λσ2 H2=>tIfs (λ_ H Q=>Q true H) tb D σ2 H2:=zbe h
noncomputable def LR{α:Type}(K:W.Frag)(H:Hp)(a:Addr)(l:List α)(R:α->V->Hp->Prop):Prop:=∃vs:List V,SqL K H a vs/\vs.length=l.length/\∀(i:Nat) x v,l[i]?=some x->vs[i]?=some v->R x v H
noncomputable def cR(c:Cell)(v:V)(H:Hp):Prop:=∃b,v=.ref b/\H b=some (.tup (cellT c))
noncomputable def eR(e:Edge)(v:V)(H:Hp):Prop:=∃b,v=.ref b/\H b=some (.tup (edgeT e))
noncomputable def wR(q:Edge×Option Nat)(v:V)(H:Hp):Prop:=∃A b,v=.ref A/\H A=some (.tup [.ref b,sv q.2])/\H b=some (.tup (edgeT q.1))
theorem cR.same{c:Cell}{v:V}{H H':Hp}(h:cR c v H)(s:Same H H'):cR c v H':=let ⟨b,e,q⟩:=h;⟨b,e,s _ _ q⟩
theorem eR.same{c:Edge}{v:V}{H H':Hp}(h:eR c v H)(s:Same H H'):eR c v H':=let ⟨b,e,q⟩:=h;⟨b,e,s _ _ q⟩
theorem wR.same{c:Edge×Option Nat}{v:V}{H H':Hp}(h:wR c v H)(s:Same H H'):wR c v H':=let ⟨A,b,e,q,r⟩:=h;⟨A,b,e,s _ _ q,s _ _ r⟩
theorem LR.same{α:Type}{K:W.Frag}{H H':Hp}{a:Addr}{l:List α}{R:α->V->Hp->Prop}(h:LR K H a l R)(s:Same H H')(m:∀x v,R x v H->R x v H'):LR K H' a l R :=
 let ⟨vs,q,n,r⟩:=h;⟨vs,s.seq q,n,λi x v h1 h2=>m x v (r i x v h1 h2)⟩
theorem zbu{α:Type}{l:List α}{i:Nat}{x c:α}(h:l[i]?=some x):c∈l.take (i+1) ↔ c∈l.take i∨c=x:=by rw[List.take_succ,h,A2];exact⟨λz=>z.elim .inl λz=>.inr (AN.mp z),λz=>z.elim .inl λz=>.inr (List.mem_singleton.mpr z)⟩
noncomputable def InOrd(cs:List Cell):Prop:=∀(i:Nat) c d,cs[i]?=some c->cs[i+1]?=some d->HT.lexLt [c.2,c.1] [d.2,d.1]=true
noncomputable def spAsk(K:W.Frag):Sp:=λvs H Q _=>∃(a:Addr) (cs:List Cell),vs=[.ref a]/\LR K H a cs cR/\InOrd cs/\cs.length<=1000/\∀H',Same H H'->Q (.bl true) H'
theorem zej (T:Txt P w K mg) (g_cell_order:Fn P w K mg base 1 "cell_order" ["cell"] (zgl K)) (d:Df K mg "ask_picture" zb8 ["picture"]):FnOk P w K mg base CX0 2 d.f d.fd ["picture"] (spAsk K):=by
 refine d.F.ok zcw (λvs H Q E h=>?_) (λcdv A outer s H vs Q E hr h=>?_)
 .obtain⟨a,cs,rfl,_⟩:=h;rfl
 .obtain⟨a,cs,rfl,⟨ws,hq,hn,hc⟩,ho,hlen,k⟩:=h;have hu0:=hr.units0
  refine⟨_,(zac (zbI A3 rfl (zdS (by rfl) T.nrange (pa_C zae (zah (zam zan (by rfl) T.nlen (by rfl) (pa_N (pv 0) zab)) zab))) (nG 1 zcw.nd)
   (zaf (ps_if (zaD (zmf hu0) (pC g_cell_order hr (zah (pe_ix zas (pv 0) (pv 1) (λ_ _=>rfl)) zab)) (pC g_cell_order hr (zah (pe_ix zas (pv 0) (pe_op zaI (pv 1) zae) (λ_ _=>rfl)) zab)) (zax _))
   (zaf zj5)
   zaA)))
   (zaf (zak pe_bl))),?_⟩
  refine⟨_,rfl,a,_,rfl,.inl hq,_,_,rfl,⟨by decide,by decide,by lia,by lia⟩,?_⟩;refine zbv (lo:=1) (n:=((ws.length:Int)-1).toNat) (λi σ H2=>∃o,σ=[some (.ref a),o]/\Same H H2) ⟨_,rfl,Same.refl _⟩ ?_ ?_
  .rintro i σ H2 hi ⟨o,rfl,s2⟩;have h1:i+1<ws.length:=by lia
   have v1:ws[i+1]?=some ws[i+1]:=Aa h1;have v0:ws[i]?=some ws[i]:=Aa (by lia)
   have c1:cs[i+1]?=some cs[i+1]:=Aa (by lia)
   have c0:cs[i]?=some cs[i]:=Aa (by lia)
   obtain⟨b1,e1,q1⟩:=hc (i+1) _ _ c1 v1;obtain⟨b0,e0,q0⟩:=hc i _ _ c0 v0;refine⟨_,rfl,_,rfl,a,_,_,_,rfl,rfl,s2.seq hq,(by rw[show (1:Int)+(i:Int)=((i+1:Nat):Int) by lia];exact zai v1),b1,_,_,[],(by rw[e1];rfl),SqT.of (s2 _ _ q1),λp1 H3 hp1 s3 f1=>?_⟩;refine⟨_,rfl,_,rfl,_,_,rfl,rfl,a,_,_,_,rfl,rfl,(s2.trans s3).seq hq,(by rw[show (1:Int)+(i:Int)-1=(i:Int) by lia];exact zai v0),b0,_,_,[],(by rw[e0];rfl),SqT.of ((s2.trans s3) _ _ q0),λp0 H4 hp0 s4 f0=>?_⟩;refine⟨p1,p0,[cs[i+1].2,cs[i+1].1],[cs[i].2,cs[i].1],rfl,rfl,SqT.of (s4 _ _ f1),SqT.of f0,_,rfl,iteN ?_ ?_⟩
   .rw[HT.lexLe_eq,ho i _ _ c0 c1];rfl
   .exact⟨_,rfl,(s2.trans s3).trans s4⟩
  .rintro σ H2 ⟨o,rfl,s2⟩;exact k H2 s2
noncomputable def kC(c:Cell):List Key:=[C5 c.1,C5 c.2]
theorem zkQ{c d:Cell}:kC c=kC d ↔ c=d:=by
 constructor
 .intro h;unfold kC at h;injection h with h1 h2;injection h2 with h2 _;exact Prod.ext (Sum.inl.inj h1) (Sum.inl.inj h2)
 .rintro rfl;rfl
noncomputable def zgk(K:W.Frag):Sp:=λvs H Q _=>∃(a:Addr) (cs:List Cell),vs=[.ref a]/\LR K H a cs cR/\cs.length<=1000/\∀t H',H t=none->Same H H'->Tab H' t (isIn cs)->Q (.ref t) H'
theorem ze6 (d:Df K mg "cell_table" zbM ["picture"]):FnOk P w K mg base CX0 1 d.f d.fd ["picture"] (zgk K):=by
 refine d.F.ok zeV (λvs H Q E h=>?_) (λcdv A outer s H vs Q E hr h=>?_)
 .obtain⟨a,cs,rfl,_⟩:=h;rfl
 .obtain⟨a,cs,rfl,⟨ws,hq,hn,hc⟩,hlen,k⟩:=h;have hu1:=hu_of hr;have nb0:(["cell"]:List Str).Nodup:=by decide +kernel
  refine⟨_,(zaf (zak (zka hu1 (osc:=zad zbM) (N:=zdk) (N':=["cell"]) (sel:=[none]) bO (zaB (pv 0)) (λ_ _ _ _ _=>(nG 0 nb0)) (λ_ _ _ _ _=>zaE) (λ_ _ _ _ _=>(pv 0)) (λ_ _ _ _ _=>pe_bl)))),?_⟩;refine⟨_,rfl,a,rfl,⟨_,hq⟩,λp hp=>?_⟩
  refine zar (K:=K) (a:=a) (xs:=ws) (λi σ H2=>∃o,σ=[o]/\Same H H2/\∃kvs,H2 p=some (.dT kvs)/\kvs.length<=i/\∀c:Cell,(valV kvs (kC c)).isSome=decide (c∈cs.take i))
   ⟨_,rfl,Same.up hp,[],zaa,Ai _,λc=>by simp[valV]⟩ (λi σ H2 _ ⟨_,_,s2,_⟩=>s2.seq hq) ?_ ?_
  .rintro i v σ H2 hi ⟨o,rfl,s2,kvs,e2,hl,hv⟩;have hil:i<ws.length:=(Ab.mp hi).1;have ci:cs[i]?=some cs[i]:=Aa (by lia)
   obtain⟨b,rfl,q⟩:=hc i _ _ ci hi;refine gN ?_
   refine⟨_,rfl,_,.inr ⟨kvs,kC cs[i],b,e2,rfl,s2 _ _ q,zaj (by lia),rfl⟩,_,rfl,λz o e=>?_,_,zaa,?_,λc=>?_⟩
   .rw[zal (zao e hp)];exact s2 z o e
   .exact A8 (zbo _ _ _) (by lia)
   .rw[zgU]
    by_cases e:c=cs[i]
    .rw[if_pos (zkQ.mpr e),decide_eq_true ((zbu ci).mpr (.inr e))];rfl
    .rw[if_neg (λz=>e (zkQ.mp z)),hv];exact decide_eq_decide.mpr ⟨λz=>(zbu ci).mpr (.inl z),λz=>((zbu ci).mp z).resolve_right e⟩
  .rintro σ H2 ⟨o,rfl,s2,kvs,e2,hl,hv⟩;refine k p H2 hp s2 ⟨kvs,e2,λc=>?_⟩;show (valV kvs (kC c)).isSome=isIn cs c;rw[hv,hn,AW];rfl
noncomputable def ziq(K:W.Frag):Sp:=λvs H Q _=>∃(t a:Addr) (C:Cell->Bool) (e:Edge),vs=[.ref t,.ref a]/\Tab H t C/\SqT K H a (edgeT e)/\e.w<4/\∀H',Same H H'->Q (sv (stepB C e)) H'
theorem zed (g_gone:Fn P w K mg base 1 "gone" ["x", "y", "step"] zfE) (g_slant_step:Fn P w K mg base 1 "slant_step" ["way"] zir) (g_straight_step:Fn P w K mg base 1 "straight_step" ["way"] zev)
  (d:Df K mg "step_behind" zb5 ["table","edge"]):FnOk P w K mg base CX0 2 d.f d.fd ["table","edge"] (ziq K):=by
 refine d.F.ok za3 (λvs H Q E h=>?_) (λcdv A outer s H vs Q E hr h=>?_)
 .obtain⟨t,a,C,e,rfl,_⟩:=h;rfl
 .obtain⟨t,a,C,e,rfl,⟨kvs,ht,hC⟩,hq,hw,k⟩:=h;have hu1:=hu_of hr
  refine⟨_,(zac (zbw (pv 1) (zbk (by rfl) (zag (nG 2 za3.nd) (zag (nG 3 za3.nd) (zag (nG 4 za3.nd) zaw)))))
   (zac (zbI A3 rfl (ziO (zaV (zah (pC g_slant_step hr (pa_N (pv 4) zab)) (zah (pC g_straight_step hr (pa_N (pv 4) zab)) zab)))) (nG 5 za3.nd)
   (zaf (ps_if (ziJ (zme hu1 (pC g_gone hr (pa_N (pv 2) (pa_N (pv 3) (pa_N (pv 5) zab)))) (pv 0)))
   (zaf (zak (pv 5)))
   zaA)))
   (zaf (zak zfL)))),?_⟩
  refine⟨_,rfl,a,_,rfl,hq,rfl,_,_,rfl,_,_,rfl,_,_,rfl,rfl,?_⟩;refine⟨_,rfl,e.w,rfl,hw,_,rfl,e.w,rfl,hw,two,λp hp=>⟨p,rfl,⟨_,SqT.of zaa⟩,?_⟩⟩
  refine zgN (K:=K) (a:=p) (xs:=[.int ((2*e.w+7) % 8:Nat),.int (2*e.w:Nat)]) (λi σ H2=>∃o,σ=[some (.ref t),some (.ref a),some (.int e.c.1),some (.int e.c.2),some (.int e.w),o]/\Same (upd H p (.tup [.int ((2*e.w+7) % 8:Nat),.int (2*e.w:Nat)])) H2/\(1<=i->C (go e.c ((2*e.w+7) % 8))=false)/\(2<=i->C (go e.c (2*e.w))=false))
   ⟨_,rfl,Same.refl _,λh=>absurd h (by decide),λh=>absurd h (by decide)⟩ (λi σ H2 _ ⟨_,_,s2,_⟩=>s2.seqT (SqT.of zaa)) ?_ ?_
  .rintro i v σ H2 hi ⟨o,rfl,s2,n1,n2⟩;have sH:Same H H2:=(Same.up hp).trans s2
   match i,hi with
   | 0,hi =>
    cases hi
    refine⟨_,rfl,_,rfl,_,rfl,e.c,(2*e.w+7) % 8,rfl,by lia,λp1 H3 hp1 s3 f1=>?_⟩;refine⟨_,rfl,t,_,rfl,.inr ⟨kvs,kC (go e.c ((2*e.w+7) % 8)),p1,Rd.of ((sH.trans s3) _ _ ht),rfl,f1,rfl⟩,_,rfl,?_⟩;have hv:=hC (go e.c ((2*e.w+7) % 8));change (valV kvs (kC (go e.c ((2*e.w+7) % 8)))).isSome=_ at hv;rw[hv];refine ite2 (λhy=>?_) (λhn=>?_)
    .refine⟨_,rfl,?_⟩;have:=k H3 (sH.trans s3);unfold stepB at this;rw[if_pos hy]at this;exact this
    .exact⟨_,rfl,s2.trans s3,λ_=>by simpa using hn,λh=>absurd h (by decide)⟩
   | 1,hi =>
    cases hi
    refine⟨_,rfl,_,rfl,_,rfl,e.c,2*e.w,rfl,by lia,λp1 H3 hp1 s3 f1=>?_⟩;refine⟨_,rfl,t,_,rfl,.inr ⟨kvs,kC (go e.c (2*e.w)),p1,Rd.of ((sH.trans s3) _ _ ht),rfl,f1,rfl⟩,_,rfl,?_⟩;have hv:=hC (go e.c (2*e.w));change (valV kvs (kC (go e.c (2*e.w)))).isSome=_ at hv;rw[hv];have h1:=n1 (by decide);refine ite2 (λhy=>?_) (λhn=>?_)
    .refine⟨_,rfl,?_⟩;have:=k H3 (sH.trans s3);unfold stepB at this;rw[h1,if_neg (by decide),if_pos hy]at this;exact this
    .exact⟨_,rfl,s2.trans s3,λ_=>h1,λ_=>by simpa using hn⟩
   |i+2,hi=>simp at hi
  .rintro σ H2 ⟨o,rfl,s2,n1,n2⟩;have:=k H2 ((Same.up hp).trans s2);unfold stepB at this;rw[n1 (by simp),n2 (by simp),if_neg (by decide),if_neg (by decide)]at this;exact this
noncomputable def ziw(K:W.Frag):Sp:=λvs H Q _=>∃(a:Addr) (e:Edge) (o:Option Nat),vs=[.ref a,sv o]/\SqT K H a (edgeT e)/\e.w<4/\(∀s,o=some s->s<8)/\∀(p:Addr) (H':Hp),H p=none->Same H H'->H' p=some (.tup (edgeT (edgeB e o)))->Q (.ref p) H'
theorem zei (g_gone:Fn P w K mg base 1 "gone" ["x", "y", "step"] zfE) (g_is_slant:Fn P w K mg base 1 "is_slant" ["step"] zdH)
  (d:Df K mg "edge_behind" zb7 ["edge","step"]):FnOk P w K mg base CX0 2 d.f d.fd ["edge","step"] (ziw K):=by
 refine d.F.ok zaT (λvs H Q E h=>?_) (λcdv A outer s H vs Q E hr h=>?_)
 .obtain⟨a,e,o,rfl,_⟩:=h;rfl
 .obtain⟨a,e,o,rfl,hq,hw,ho,k⟩:=h
  refine⟨_,(zac (zbw (pv 0) (zbk (by rfl) (zag (nG 2 zaT.nd) (zag (nG 3 zaT.nd) (zag (nG 4 zaT.nd) zaw)))))
   (zac (ps_if (zaD zkJ (pv 1) zfL (zax _))
   (zaf (zak (zaV (pa_N (pv 2) (pa_N (pv 3) (pa_B (pe_op zbN (pe_op zaL (pv 4) zae) zae) zab))))))
   zaA)
   (zac (zbw (pC g_gone hr (pa_N (pv 2) (pa_N (pv 3) (pa_N (pv 1) zab)))) (zbk (by rfl) (zag (nG 5 zaT.nd) (zag (nG 6 zaT.nd) zaw))))
   (zac (ps_if (zbj (pC g_is_slant hr (pa_N (pv 1) zab)))
   (zaf (zak (zaV (pa_N (pv 5) (pa_N (pv 6) (pa_B (pe_op zbN (pe_op zaL (pv 4) zae) zae) zab))))))
   zaA)
   (zaf (zak (zaV (pa_N (pv 5) (pa_N (pv 6) (pa_N (pv 4) zab)))))))))),?_⟩
  refine⟨_,rfl,a,_,rfl,hq,rfl,_,_,rfl,_,_,rfl,_,_,rfl,rfl,?_⟩
  cases o with
  |none =>
   refine⟨_,rfl,rfl,true,rfl,iteT ?_⟩;refine⟨_,rfl,_,rfl,_,rfl,_,_,rfl,rfl,_,_,rfl,rfl,(by show (0:Int)<4;decide),three,λp hp=>k p _ hp (Same.up hp) ?_⟩;rw[zaa];have e1:((e.w:Int)+1) % 4=(((e.w+1) % 4:Nat):Int):=by lia
   show some (HO.tup [.int e.c.1,.int e.c.2,.int (((e.w:Int)+1) % 4)])=_;rw[e1];rfl
  |some n =>
   refine⟨_,rfl,rfl,false,rfl,iteF ?_⟩;refine⟨_,rfl,_,rfl,_,rfl,e.c,n,rfl,ho n rfl,λp1 H1 hp1 s1 f1=>?_⟩;refine⟨p1,_,rfl,SqT.of f1,rfl,_,_,rfl,_,_,rfl,rfl,?_⟩;refine⟨_,rfl,some n,rfl,_,rfl,?_⟩;refine ite2 (λhs=>?_) (λhs=>?_)
   .refine⟨_,rfl,_,rfl,_,rfl,_,_,rfl,rfl,_,_,rfl,rfl,(by show (0:Int)<4;decide),three,λp hp=>k p _ (s1.free hp) (s1.trans (Same.up hp)) ?_⟩;rw[zaa];have e1:((e.w:Int)+3) % 4=(((e.w+3) % 4:Nat):Int):=by lia
    have hn:n % 2=1:=by simpa[slant]using hs
    show some (HO.tup [.int (go e.c n).1,.int (go e.c n).2,.int (((e.w:Int)+3) % 4)])=_;rw[e1];unfold edgeB;simp only[if_pos hn];rfl
   .refine⟨_,rfl,_,rfl,_,rfl,three,λp hp=>k p _ (s1.free hp) (s1.trans (Same.up hp)) ?_⟩;rw[zaa];have hn:¬ n % 2=1:=by simpa[slant]using hs
    unfold edgeB;simp only[if_neg hn];rfl
noncomputable def KT(H H':Hp):Prop:=∀b xs,H b=some (.tup xs)->H' b=some (.tup xs)
theorem KT.refl(H:Hp):KT H H:=λ_ _ h=>h
theorem KT.trans{H H1 H2:Hp}(a:KT H H1)(b:KT H1 H2):KT H H2:=λc o h=>b c o (a c o h)
theorem KT.of{H H':Hp}(s:Same H H'):KT H H':=λb xs e=>s b _ e
theorem KT.up{H:Hp}{p:Addr}{o:HO}(h:H p=none):KT H (upd H p o):=KT.of (Same.up h)
theorem KT.lst{H:Hp}{p:Addr}{xs:List V}{o:HO}(h:H p=some (.lst xs)):KT H (upd H p o):=λb ys e=>by rw[zal (ne_of e h (λz=>nomatch z))];exact e
theorem cR.kt{c:Cell}{v:V}{H H':Hp}(h:cR c v H)(s:KT H H'):cR c v H':=let ⟨b,e,q⟩:=h;⟨b,e,s _ _ q⟩
theorem eR.kt{c:Edge}{v:V}{H H':Hp}(h:eR c v H)(s:KT H H'):eR c v H':=let ⟨b,e,q⟩:=h;⟨b,e,s _ _ q⟩
theorem wR.kt{c:Edge×Option Nat}{v:V}{H H':Hp}(h:wR c v H)(s:KT H H'):wR c v H':=let ⟨A,b,e,q,r⟩:=h;⟨A,b,e,s _ _ q,s _ _ r⟩
noncomputable def VR{α:Type}(vs:List V)(l:List α)(R:α->V->Hp->Prop)(H:Hp):Prop:=vs.length=l.length/\∀(i:Nat) x v,l[i]?=some x->vs[i]?=some v->R x v H
theorem VR.nil{α:Type}{R:α->V->Hp->Prop}{H:Hp}:VR [] ([]:List α) R H:=⟨rfl,λi x v h=>by simp at h⟩
theorem VR.snoc{α:Type}{vs:List V}{l:List α}{R:α->V->Hp->Prop}{H H':Hp}{x:α}{v:V}(h:VR vs l R H)(m:∀x v,R x v H->R x v H')(hx:R x v H'):VR (vs++[v]) (l++[x]) R H':=by
 refine⟨by simp[h.1],λi y u h1 h2=>?_⟩;rcases A1 i l.length with hi |hi
 .rw[As hi]at h1;rw[As (by rw[h.1];exact hi)]at h2;exact m _ _ (h.2 i y u h1 h2)
 .rw[AD hi]at h1;rw[AD (by rw[h.1];exact hi)]at h2
  have hz:i-l.length=0:=by have:=(Ab.mp h1).1;simp at this;lia
  rw[hz]at h1;rw[h.1,hz]at h2
  cases h1;cases h2
  exact hx
theorem VR.mono{α:Type}{vs:List V}{l:List α}{R:α->V->Hp->Prop}{H H':Hp}(h:VR vs l R H)(m:∀x v,R x v H->R x v H'):VR vs l R H':=⟨h.1,λi x v h1 h2=>m _ _ (h.2 i x v h1 h2)⟩
theorem VR.at{α:Type}{vs:List V}{l:List α}{R:α->V->Hp->Prop}{H:Hp}(h:VR vs l R H){i:Nat}{v:V}(hv:vs[i]?=some v):∃x,l[i]?=some x/\R x v H:=by
 have hi:i<l.length:=by rw[<- h.1];exact (Ab.mp hv).1
 exact⟨l[i],Aa hi,h.2 i _ v (Aa hi) hv⟩
theorem zap{H H2:Hp}{p:Addr}{o:HO}(hp:H p=none)(s:Same H H2):Same H (upd H2 p o):=λz u e=>by rw[zal (zao e hp)];exact s z u e
theorem zhR(cs:List Cell)(c:Cell):sides (cs++[c])=sides cs++(AE 4).map λw=>⟨c,w⟩:=by unfold sides;simp[Dg]
theorem zaq{α:Type}{l:List α}{i:Nat}{x:α}(h:l[i]?=some x):l.take (i+1)=l.take i++[x]:=by rw[List.take_succ,h];rfl
theorem zd2{α:Type}(p:α->Bool)(l:List α)(x:α):(l++[x]).filter p=l.filter p++(if p x=true then [x] else []):=by rw[BC];congr 1;simp[List.filter_cons]
noncomputable def zkG(K:W.Frag):Sp:=λvs H Q _=>∃(a:Addr) (cs:List Cell),vs=[.ref a]/\LR K H a cs cR/\cs.length<=120/\∀p H' es,H p=none->Same H H'->H' p=some (.lst es)->VR es (allE cs) eR H'->Q (.ref p) H'
theorem zfT (T:Txt P w K mg) (g_cell_table:Fn P w K mg base 1 "cell_table" ["picture"] (zgk K)) (g_gap_beside:Fn P w K mg base 2 "gap_beside" ["edge"] (spGap K))
  (d:Df K mg "all_edges" zbG ["picture"]):FnOk P w K mg base CX0 3 d.f d.fd ["picture"] (zkG K):=by
 refine d.F.ok zcg (λvs H Q E h=>?_) (λcdv A outer s H vs Q E hr h=>?_)
 .obtain⟨a,cs,rfl,_⟩:=h;rfl
 .obtain⟨a,cs,rfl,hLR,hlen,k⟩:=h;obtain⟨ws,hq,hn,hc⟩:=id hLR;have hu1:=hu_of hr;have nb0:(["x","y","way"]:List Str).Nodup:=by decide +kernel
  have nb1:(["edge","table"]:List Str).Nodup:=by decide +kernel
  refine⟨_,(zac (zcQ (i:=1) zcg.nd (by rfl) (Or.inr rfl) (pC g_cell_table hr (pa_N (pv 0) zab)))
   (zac (zdR (i:=2) (osc:=zad zbG) (N:=zcK) (N':=["x","y","way"]) (sel:=[none,none,none]) bO zcg.nd (by rfl) (Or.inl rfl) (zaB (pv 0)) (λ_ _ _ _ _=>(za8 (K:=K) (n:=2) (by rfl) (zag (nG 0 nb0) (zag (nG 1 nb0) zaw)))) (λ_ _ _ _ _=>zaE) (λ_ _ _ _ _=>(zcl (by rfl) T.nrange (pa_C zae zab))) (λ_ _ _ _ _=>(nG 2 nb0)) (λ_ _ _ _ _=>zaE) (λ_ _ _ _ _=>(zaV (pa_N (pv 0) (pa_N (pv 1) (pa_N (pv 2) zab))))) (λ_ _ _=>rfl))
   (zaf (zak (zaF (osc:=zad zbG) (N:=zcK) (N':=["edge","table"]) (sel:=[none,some 1]) bO (zaB (pv 2)) (λ_ _ _ _ _=>(nG 0 nb1)) (λ_ _ _ _ _=>zca (ziJ (zfO hu1 (pC g_gap_beside hr (pa_N (pv 0) zab)) (pv 1)))) (λ_ _ _ _ _=>(pv 0))))))),?_⟩
  refine⟨_,rfl,a,cs,rfl,hLR,by lia,λt H1 ht s1 tab=>?_⟩;obtain⟨kvs,et,hC⟩:=tab;refine⟨_,rfl,a,rfl,⟨_,s1.seq hq⟩,λp hp=>?_⟩
  refine zar (K:=K) (a:=a) (xs:=ws) (λi σ H2=>∃o1 o2 o3,σ=[o1,o2,o3]/\Same H1 H2/\∃es,H2 p=some (.lst es)/\VR es (sides (cs.take i)) eR H2)
   ⟨_,_,_,rfl,Same.up hp,[],zaa,VR.nil⟩ (λi σ H2 _ ⟨_,_,_,_,s2,_⟩=>(s1.trans s2).seq hq) ?_ ?_
  .rintro i v σ H2 hi ⟨o1,o2,o3,rfl,s2,es,e2,hv⟩;have hil:i<ws.length:=(Ab.mp hi).1;have ci:cs[i]?=some cs[i]:=Aa (by lia)
   obtain⟨b,rfl,qb⟩:=hc i _ _ ci hi;refine⟨b,_,rfl,SqT.of ((s1.trans s2) _ _ qb),rfl,_,_,rfl,_,_,rfl,rfl,?_⟩;refine zbe ?_
   refine⟨4,rfl,by decide,by decide,?_⟩
   refine zbv (lo:=0) (n:=4) (λj σ H3=>∃o,σ=[some (.int cs[i].1),some (.int cs[i].2),o]/\Same H1 H3/\∃es,H3 p=some (.lst es)/\VR es (sides (cs.take i)++(AE j).map λw=>⟨cs[i],w⟩) eR H3)
    ⟨_,rfl,s2,es,e2,by simpa using hv⟩ ?_ ?_
   .rintro j σ H3 hj ⟨o,rfl,s3,es3,e3,hv3⟩
    have hl3:es3.length<=1000:=by rw[hv3.1,Al,zbr,Av,Af,A6];lia
    refine gN ?_
    refine⟨_,rfl,_,rfl,_,rfl,three,λq hq'=>⟨es3,?_,zaj hl3,_,rfl,zap hp (s3.trans (Same.up hq')),_,zaa,?_⟩⟩
    .rw[zal (zao e3 hq')];exact e3
    .rw[List.range_succ,Ax,<- Bs];have hpq:p≠q:=zao e3 hq';have k2:KT (upd H3 q (.tup [.int cs[i].1,.int cs[i].2,.int (0+(j:Int))])) (upd (upd H3 q (.tup [.int cs[i].1,.int cs[i].2,.int (0+(j:Int))])) p (.lst (es3++[.ref q]))):=KT.lst (xs:=es3) (by rw[zal hpq];exact e3);refine hv3.snoc (λx v hx=>hx.kt ((KT.up hq').trans k2)) ⟨q,rfl,k2 _ _ ?_⟩;rw[zaa];show some (HO.tup [.int cs[i].1,.int cs[i].2,.int (0+(j:Int))])=some (HO.tup [.int cs[i].1,.int cs[i].2,.int (j:Int)]);rw[Int.zero_add]
   .rintro σ H3 ⟨o,rfl,s3,es3,e3,hv3⟩;exact⟨_,_,_,rfl,s3,es3,e3,by rw[zaq ci,zhR];exact hv3⟩
  .rintro σ H2 ⟨o1,o2,o3,rfl,s2,es,e2,hv⟩;rw[hn,AW]at hv;have hles:es.length<=1000:=by rw[hv.1,zbr];lia
   refine⟨_,rfl,p,rfl,⟨_,SqL.of e2⟩,λp2 hp2=>?_⟩
   refine zar (K:=K) (a:=p) (xs:=es) (λi σ H3=>∃o,σ=[o,some (.ref t)]/\Same H2 H3/\∃es3,H3 p2=some (.lst es3)/\VR es3 (((sides cs).take i).filter λe=>!isIn cs (gap e)) eR H3)
    ⟨_,rfl,Same.up hp2,[],zaa,VR.nil⟩ (λi σ H3 _ ⟨_,_,s3,_⟩=>s3.seq (SqL.of e2)) ?_ ?_
   .rintro i v σ H3 hi ⟨o,rfl,s3,es3,e3,hv3⟩;obtain⟨e,he,b,rfl,qb⟩:=hv.at hi;have hw4:e.w<4:=(zcS.mp (Ah he)).2
    have hl3:es3.length<=1000:=by have h1:=Bo (λe=>!isIn cs (gap e)) ((sides cs).take i);rw[hv3.1];rw[Av,zbr]at h1;lia
    refine⟨_,rfl,b,e,rfl,SqT.of (s3 _ _ qb),hw4,λp3 H4 hp3 s4 f4=>?_⟩;refine⟨_,rfl,t,_,rfl,.inr ⟨kvs,kC (gap e),p3,Rd.of ((s2.trans (s3.trans s4)) _ _ et),rfl,f4,rfl⟩,_,rfl,?_⟩;have hcv:=hC (gap e);change (valV kvs (kC (gap e))).isSome=_ at hcv;rw[hcv,zaq he,zd2];refine ite2 (λhy=>?_) (λhn'=>?_)
    .refine⟨_,rfl,es3,s4 _ _ e3,zaj hl3,_,rfl,zap hp2 (s3.trans s4),_,zaa,?_⟩;rw[if_pos hy];have k2:KT H4 (upd H4 p2 (.lst (es3++[.ref b]))):=KT.lst (s4 _ _ e3);exact hv3.snoc (λx v hx=>hx.kt ((KT.of s4).trans k2)) ⟨b,rfl,k2 _ _ ((s3.trans s4) _ _ qb)⟩
    .refine⟨_,rfl,s3.trans s4,es3,s4 _ _ e3,?_⟩;rw[if_neg hn',AX];exact hv3.mono λx v hx=>hx.kt (KT.of s4)
   .rintro σ H3 ⟨o,rfl,s3,es3,e3,hv3⟩;rw[hv.1,AW]at hv3;exact k p2 H3 es3 (s1.free (s2.free hp2)) (s1.trans (s2.trans s3)) e3 hv3
noncomputable def eI(e:Edge):List Int:=[e.c.1,e.c.2,(e.w:Int)]
theorem zhx{e f:Edge}:eI e=eI f ↔ e=f:=by
 constructor
 .intro h;obtain⟨⟨x,y⟩,w⟩:=e;obtain⟨⟨x',y'⟩,w'⟩:=f;unfold eI at h;injection h with h1 h2;injection h2 with h2 h3;injection h3 with h3 _;simp only at h1 h2 h3;have:w=w':=by lia
  subst h1 h2 this;rfl
 .rintro rfl;rfl
theorem zeZ{K:W.Frag}{H:Hp}{b:Addr}{e:Edge}(h:H b=some (.tup (edgeT e))):RD K H (.ref b) (tI (eI e)):=.tup (SqT.of h) (RDs.ints (eI e))
theorem zgZ{C:Cell->Bool}{e:Edge}(hw:e.w<4):∀s,stepB C e=some s->s<8:=by
 intro s h;unfold stepB at h;split at h
 .cases h;lia
 .split at h
  .cases h;lia
  .cases h
noncomputable def wk(C:Cell->Bool)(es:List Edge):List (Edge×Option Nat):=es.map λe=>(e,stepB C e)
theorem zkY(C:Cell->Bool)(es:List Edge)(e:Edge):wk C (es++[e])=wk C es++[(e,stepB C e)]:=by unfold wk;simp
theorem zdz(C:Cell->Bool)(es:List Edge):(wk C es).length=es.length:=by unfold wk;simp
noncomputable def zjd:Option HO->Nat
 |some (.lst ws)=>ws.length
 |_=>0
noncomputable def zky(K:W.Frag):Sp:=λvs H Q _=>∃(t a:Addr) (cs:List Cell) (b:Edge),vs=[.ref t,.ref a]/\Tab H t (isIn cs)/\H a=some (.tup (edgeT b))/\IsE (isIn cs) b/\cs.length<=120 /\
 ∀p H' ws es,H p=none->Same H H'->H' p=some (.lst ws)->VR ws (wk (isIn cs) es) wR H'->Closed (isIn cs) b es->Q (.ref p) H'
theorem zfP (g_step_behind:Fn P w K mg base 2 "step_behind" ["table", "edge"] (ziq K)) (g_edge_behind:Fn P w K mg base 2 "edge_behind" ["edge", "step"] (ziw K))
  (d:Df K mg "walk_from" zcA ["table","begin"]):FnOk P w K mg base CX0 3 d.f d.fd ["table","begin"] (zky K):=by
 refine d.F.ok zba (λvs H Q E h=>?_) (λcdv A outer s H vs Q E hr h=>?_)
 .obtain⟨t,a,cs,b,rfl,_⟩:=h;rfl
 .obtain⟨t,a,cs,b,rfl,tab,ha,hb,hlen,k⟩:=h;have hu64:=hr.units
  refine⟨_,(zac (sE 2 zba.nd (pC g_step_behind hr (pa_N (pv 0) (pa_N (pv 1) zab))))
   (zac (sE 3 zba.nd (za0 (pa_T (zaV (pa_N (pv 1) (pa_N (pv 2) zab))) zab)))
   (zac (sE 4 zba.nd (pC g_edge_behind hr (pa_N (pv 1) (pa_N (pv 2) zab))))
   (zac (ze0 A3 (zaD (ziU hu64) (pv 4) (pv 1) (zax _))
   (zac (sE 2 zba.nd (pC g_step_behind hr (pa_N (pv 0) (pa_N (pv 4) zab))))
   (zac (zcD (pe_bm Bz BL BM zbJ (pv 3) (pa_T (zaV (pa_N (pv 4) (pa_N (pv 2) zab))) zab)))
   (zaf (sE 4 zba.nd (pC g_edge_behind hr (pa_N (pv 4) (pa_N (pv 2) zab))))))))
   (zaf (zak (pv 3))))))),?_⟩
  refine⟨_,rfl,_,rfl,t,a,isIn cs,b,rfl,tab,SqT.of ha,hb.1,λH1 s1=>?_⟩;refine⟨_,rfl,_,rfl,two,λq hq=>⟨(by show 1<=sizeLine;decide),λp hp=>?_⟩⟩;have hpq:p≠q:=λz=>by subst z;rw[zaa]at hp;cases hp
  have hp1:H1 p=none:=by rw[zal hpq]at hp;exact hp
  have s2:Same H1 (upd (upd H1 q (.tup [.ref a,sv (stepB (isIn cs) b)])) p (.lst [.ref q])):=zap hp1 (Same.up hq);refine⟨_,rfl,_,rfl,a,b,stepB (isIn cs) b,rfl,SqT.of (s2 _ _ (s1 _ _ ha)),hb.1,zgZ hb.1,λr H3 hr3 s3 f3=>?_⟩;have s03:Same H H3:=s1.trans (s2.trans s3);have hp0:H p=none:=s1.free hp1
  refine zjV (λσ H4=>∃ws es l o re,σ=[some (.ref t),some (.ref a),some o,some (.ref p),some (.ref re)]/\Same H H4/\H4 p=some (.lst ws)/\VR ws (wk (isIn cs) (es++[l])) wR H4/\Chain (isIn cs) b (es++[l])/\H4 re=some (.tup (edgeT (nxt (isIn cs) l))))
   (λ_ H4=>4*cs.length+1-zjd (H4 p)) ?_ ?_ ?_
  .refine⟨[.ref q],[],b,_,r,rfl,s03,s3 _ _ zaa,⟨rfl,λi x v h1 h2=>?_⟩,Chain.start hb,f3⟩
   match i,h1,h2 with
   | 0,h1,h2 =>
    cases h1;cases h2
    refine⟨q,a,rfl,s3 _ _ ?_,s03 _ _ ha⟩;rw[zal (Bq hpq),zaa]
   |i+1,h1,h2=>simp at h2
  .rintro σ H4 ⟨ws,es,l,o,re,rfl,s4,e4,hv,hch,er⟩;have hw4:(nxt (isIn cs) l).w<4:=(zkL (hch.2.2.1 l (by simp))).1;refine⟨_,rfl,_,rfl,_,_,zeZ er,zeZ (s4 _ _ ha),zbX _,zbX _,_,rfl,?_⟩;rw[zhv]
   by_cases hne:nxt (isIn cs) l=b
   .rw[decide_eq_true (zhx.mpr hne)];refine iteF ?_
    refine⟨_,rfl,k p H4 ws (es++[l]) hp0 s4 e4 hv ⟨hch,l,?_,hne⟩⟩;simp
   .rw[decide_eq_false (λz=>hne (zhx.mp z))];refine iteT ?_
    have hch2:=hch.more hne;have hsh:=hch2.short;have hl4:ws.length=(es++[l]).length:=by rw[hv.1,zdz]
    have hl5:ws.length+1<=4*cs.length:=by rw[hl4];rw[Al,Cg]at hsh;exact hsh
    refine⟨_,rfl,_,rfl,t,re,isIn cs,nxt (isIn cs) l,rfl,tab.same s4,SqT.of er,hw4,λH5 s5=>?_⟩;refine⟨_,rfl,.inl ⟨rfl,_,SqL.of (s5 _ _ e4)⟩,_,rfl,_,rfl,two,λq5 hq5=>?_⟩;have e5:=s5 _ _ e4;have hp5:p≠q5:=zao e5 hq5;refine⟨p,ws,_,rfl,rfl,(by rw[zal hp5];exact e5),zaj (by lia),?_⟩;have k5:KT H5 (upd (upd H5 q5 (.tup [.ref re,sv (stepB (isIn cs) (nxt (isIn cs) l))])) p (.lst (ws++[.ref q5]))):=(KT.up hq5).trans (KT.lst (xs:=ws) (by rw[zal hp5];exact e5));have e6:upd (upd H5 q5 (.tup [.ref re,sv (stepB (isIn cs) (nxt (isIn cs) l))])) p (.lst (ws++[.ref q5])) re=some (.tup (edgeT (nxt (isIn cs) l))):=k5 _ _ (s5 _ _ er);have s6:Same H (upd (upd H5 q5 (.tup [.ref re,sv (stepB (isIn cs) (nxt (isIn cs) l))])) p (.lst (ws++[.ref q5]))):=zap hp0 ((s4.trans s5).trans (Same.up hq5));refine⟨_,rfl,_,rfl,re,nxt (isIn cs) l,_,rfl,SqT.of e6,hw4,zgZ hw4,λr7 H7 hr7 s7 f7=>?_⟩;have e7:=s7 _ _ zaa;refine⟨⟨ws++[.ref q5],es++[l],nxt (isIn cs) l,_,r7,rfl,s6.trans s7,e7,?_,hch2,f7⟩,?_⟩
    .rw[zkY];refine hv.snoc (λx v hx=>hx.kt ((KT.of s5).trans (k5.trans (KT.of s7)))) ⟨q5,re,rfl,s7 _ _ ?_,s7 _ _ e6⟩;rw[zal (Bq hp5),zaa]
    .show 4*cs.length+1-zjd (H7 p)<4*cs.length+1-zjd (H4 p);rw[e7,e4];show 4*cs.length+1-(ws++[V.ref q5]).length<4*cs.length+1-ws.length;rw[Al,Cg];lia
  .rintro σ H4 Q1 Q2 hQ ⟨v,h1,v2,h2,dd,ee,r1,r2,x1,x2,kk,h3,q⟩;exact⟨v,h1,v2,h2,dd,ee,r1,r2,x1,x2,kk,h3,hQ _ _ q⟩
noncomputable abbrev Wk:=List (Edge×Option Nat)
noncomputable def nL(W:Wk):Nat:=(W.filter λq=>q.2.isNone).length
noncomputable def nS(W:Wk):Nat:=(W.filter λq=>slant q.2).length
theorem zkx(o:Option Nat):decide (sv o=V.non)=o.isNone:=by cases o <;> simp[sv]
theorem zcH{α:Type}{p:α->Bool}{l:List α}{i:Nat}{x:α}(h:l[i]?=some x):((l.take (i+1)).filter p)=(l.take i).filter p++(if p x=true then [x] else []):=by rw[zaq h,zd2]
theorem LR.vr{α:Type}{K:W.Frag}{H:Hp}{a:Addr}{l:List α}{R:α->V->Hp->Prop}(h:LR K H a l R):∃vs,SqL K H a vs/\VR vs l R H:=let ⟨vs,q,n,r⟩:=h;⟨vs,q,n,r⟩
theorem LR.of{α:Type}{K:W.Frag}{H:Hp}{a:Addr}{vs:List V}{l:List α}{R:α->V->Hp->Prop}(e:H a=some (.lst vs))(h:VR vs l R H):LR K H a l R:=⟨vs,SqL.of e,h.1,h.2⟩
noncomputable def ziu(K:W.Frag):Sp:=λvs H Q _=>∃(a:Addr) (W:Wk),vs=[.ref a]/\LR K H a W wR/\W.length<=500/\∀p H',H p=none->Same H H'->H' p=some (.tup [.int (nL W),.int (nS W)])->Q (.ref p) H'
theorem zcF (T:Txt P w K mg) (g_is_slant:Fn P w K mg base 1 "is_slant" ["step"] zdH) (d:Df K mg "lefts_and_slants" zaK ["walk"]):FnOk P w K mg base CX0 2 d.f d.fd ["walk"] (ziu K):=by
 refine d.F.ok za6 (λvs H Q E h=>?_) (λcdv A outer s H vs Q E hr h=>?_)
 .obtain⟨a,W,rfl,_⟩:=h;rfl
 .obtain⟨a,W,rfl,hLR,hlen,k⟩:=h;obtain⟨ws,hq,hv⟩:=hLR.vr;have nb0:(["edge","step"]:List Str).Nodup:=by decide +kernel
  have nb1:(["edge","step"]:List Str).Nodup:=by decide +kernel
  refine⟨_,(zac (sE 1 za6.nd (zam zan (by rfl) T.nlen (by rfl) (zah (zaF (osc:=zad zaK) (N:=zbh) (N':=["edge","step"]) (sel:=[none,none]) bO (zaB (pv 0)) (λ_ _ _ _ _=>(za8 (K:=K) (n:=2) (by rfl) (zag (nG 0 nb0) (zag (nG 1 nb0) zaw)))) (λ_ _ _ _ _=>zca (zaD zkJ (pv 1) zfL (zax _))) (λ_ _ _ _ _=>(pv 1))) zab)))
   (zac (sE 2 za6.nd (zam zan (by rfl) T.nlen (by rfl) (zah (zaF (osc:=zad zaK) (N:=zbh) (N':=["edge","step"]) (sel:=[none,none]) bO (zaB (pv 0)) (λ_ _ _ _ _=>(za8 (K:=K) (n:=2) (by rfl) (zag (nG 0 nb1) (zag (nG 1 nb1) zaw)))) (λ_ _ _ _ _=>zca (zbj (pC g_is_slant hr (pa_N (pv 1) zab)))) (λ_ _ _ _ _=>(pv 1))) zab)))
   (zaf (zak (zaV (pa_N (pv 1) (pa_N (pv 2) zab))))))),?_⟩
  refine⟨_,rfl,a,rfl,⟨_,hq⟩,λp hp=>?_⟩
  refine zar (K:=K) (a:=a) (xs:=ws) (λi σ H2=>∃o1 o2,σ=[o1,o2]/\Same H H2/\∃ss:List V,H2 p=some (.lst ss)/\ss.length=((W.take i).filter λq=>q.2.isNone).length)
   ⟨_,_,rfl,Same.up hp,[],zaa,rfl⟩ (λi σ H2 _ ⟨_,_,_,s2,_⟩=>s2.seq hq) ?_ ?_
  .rintro i v σ H2 hi ⟨o1,o2,rfl,s2,ss,e2,hl⟩;obtain⟨⟨e,st⟩,he,B,b,rfl,q1,q2⟩:=hv.at hi
   have hl2:ss.length<=1000:=by have:=Bo (λq:Edge×Option Nat=>q.2.isNone) (W.take i);rw[Av]at this;lia
   refine⟨B,_,rfl,SqT.of (s2 _ _ q1),rfl,_,_,rfl,_,_,rfl,rfl,?_⟩;refine⟨_,rfl,rfl,_,rfl,?_⟩;rw[zkx];rw[zcH he]at *;refine ite2 (λhy=>?_) (λhn=>?_)
   .refine⟨_,rfl,ss,e2,zaj hl2,_,_,rfl,zap hp s2,_,zaa,?_⟩;rw[if_pos hy,Al,Al,hl];rfl
   .exact⟨_,_,rfl,s2,ss,e2,by rw[if_neg hn,AX];exact hl⟩
  .rintro σ H2 ⟨o1,o2,rfl,s2,ss,e2,hl⟩;refine⟨p,_,rfl,.inl (SqL.of e2),?_⟩;refine⟨_,rfl,a,rfl,⟨_,s2.seq hq⟩,λp2 hp2=>?_⟩
   refine zar (K:=K) (a:=a) (xs:=ws) (λi σ H3=>∃o1 o2,σ=[o1,o2]/\Same H2 H3/\∃s3:List V,H3 p2=some (.lst s3)/\s3.length=((W.take i).filter λq=>slant q.2).length)
    ⟨_,_,rfl,Same.up hp2,[],zaa,rfl⟩ (λi σ H3 _ ⟨_,_,_,s3,_⟩=>(s2.trans s3).seq hq) ?_ ?_
   .rintro i v σ H3 hi ⟨o1,o2,rfl,s3,ss3,e3,hl3⟩;obtain⟨⟨e,st⟩,he,B,b,rfl,q1,q2⟩:=hv.at hi
    have hl2:ss3.length<=1000:=by have:=Bo (λq:Edge×Option Nat=>slant q.2) (W.take i);rw[Av]at this;lia
    refine⟨B,_,rfl,SqT.of ((s2.trans s3) _ _ q1),rfl,_,_,rfl,_,_,rfl,rfl,?_⟩;refine⟨_,rfl,st,rfl,_,rfl,?_⟩;rw[zcH he]at *;refine ite2 (λhy=>?_) (λhn=>?_)
    .refine⟨_,rfl,ss3,e3,zaj hl2,_,_,rfl,zap hp2 s3,_,zaa,?_⟩;rw[if_pos hy,Al,Al,hl3];rfl
    .exact⟨_,_,rfl,s3,ss3,e3,by rw[if_neg hn,AX];exact hl3⟩
   .rintro σ H3 ⟨o1,o2,rfl,s3,ss3,e3,hl3⟩;refine⟨p2,_,rfl,.inl (SqL.of e3),?_⟩;refine⟨_,rfl,_,rfl,two,λp4 hp4=>k p4 _ (s2.free (s3.free hp4)) ((s2.trans s3).trans (Same.up hp4)) ?_⟩;rw[hv.1,AW]at hl hl3;rw[zaa,hl,hl3];rfl
noncomputable def zkD(K:W.Frag):Sp:=λvs H Q _=>∃(a:Addr) (W:Wk),vs=[.ref a]/\LR K H a W wR/\W.length<=500/\∀H',Same H H'->Q (.int ((nL W:Int)-nS W)) H'
theorem zcv (g_lefts_and_slants:Fn P w K mg base 2 "lefts_and_slants" ["walk"] (ziu K)) (d:Df K mg "lefts_less_slants" za7 ["walk"]):FnOk P w K mg base CX0 3 d.f d.fd ["walk"] (zkD K):=by
 refine d.F.ok za1 (λvs H Q E h=>?_) (λcdv A outer s H vs Q E hr h=>?_)
 .obtain⟨a,W,rfl,_⟩:=h;rfl
 .obtain⟨a,W,rfl,hLR,hlen,k⟩:=h
  refine⟨_,(zac (zbw (pC g_lefts_and_slants hr (pa_N (pv 0) zab)) (zbk (by rfl) (zag (nG 1 za1.nd) (zag (nG 2 za1.nd) zaw))))
   (zaf (zak (pe_op zaI (pv 1) (pv 2))))),?_⟩
  refine⟨_,rfl,a,W,rfl,hLR,hlen,λp H1 hp s1 f1=>?_⟩;refine⟨p,_,rfl,SqT.of f1,rfl,_,_,rfl,_,_,rfl,rfl,?_⟩;exact⟨_,rfl,_,rfl,_,_,rfl,rfl,k H1 s1⟩
noncomputable def sortS (W:Wk):Str:=if nS W<nL W then "rim" else "hole"
noncomputable def zkA(K:W.Frag):Sp:=λvs H Q _=>∃(a:Addr) (W:Wk),vs=[.ref a]/\LR K H a W wR/\W.length<=500/\∀H',Same H H'->Q (.str (sortS W)) H'
theorem zhY (g_lefts_less_slants:Fn P w K mg base 3 "lefts_less_slants" ["walk"] (zkD K)) (d:Df K mg "sort_of" zdN ["walk"]):FnOk P w K mg base CX0 4 d.f d.fd ["walk"] (zkA K):=by
 refine d.F.ok zhS (λvs H Q E h=>?_) (λcdv A outer s H vs Q E hr h=>?_)
 .obtain⟨a,W,rfl,_⟩:=h;rfl
 .obtain⟨a,W,rfl,hLR,hlen,k⟩:=h;refine⟨_,(zaf (zak (zhh (zaD op_gt (pC g_lefts_less_slants hr (pa_N (pv 0) zab)) zae (zax _)) ziQ ziQ))),?_⟩;refine⟨_,rfl,a,W,rfl,hLR,hlen,λH1 s1=>?_⟩;refine⟨_,_,rfl,rfl,_,rfl,?_⟩;have h1:=k H1 s1;unfold sortS at h1
  by_cases hlt:nS W<nL W
  .rw[if_pos hlt]at h1;exact iteY (decide_eq_true (by lia)) h1
  .rw[if_neg hlt]at h1;exact iteN (decide_eq_false (by lia)) h1
noncomputable def kOf (s:Str):Nat:=if s = "rim" then 0 else 2
noncomputable def zfu(W:Wk)(s:Str)(e:Edge):Prop:=e∈W.map (·.1)/\e.w=kOf s/\∀f∈W.map (·.1),f.w=kOf s->HT.lexLt [f.c.2,f.c.1] [e.c.2,e.c.1]=false
noncomputable def ziy (K:W.Frag):Sp:=λvs H Q _=>∃(a:Addr) (W:Wk) (s:Str),vs=[.ref a,.str s]/\(s = "rim" ∨ s = "hole")/\LR K H a W wR/\W.length<=500/\(∃e∈W.map (·.1),e.w=kOf s) /\
 ∀b e H',Same H H'->H' b=some (.tup (edgeT e))->zfu W s e->Q (.ref b) H'
theorem zgK (T:Txt P w K mg) (g_cell_order:Fn P w K mg base 1 "cell_order" ["cell"] (zgl K)) (d:Df K mg "begin_of" zcr ["walk","sort"]):FnOk P w K mg base CX0 3 d.f d.fd ["walk","sort"] (ziy K):=by
  refine d.F.ok zgt (λvs H Q E h=>?_) (λcdv A outer s H vs Q E hr h=>?_)
  . obtain⟨a,W,s,rfl,_⟩:=h;rfl
  . obtain⟨a,W,so,rfl,hso,hLR,hlen,hex,k⟩:=h;obtain⟨ws,hq,hv⟩:=hLR.vr;have nb0:(["edge","step","sort"]:List Str).Nodup:=by decide +kernel
    refine⟨_,(zaf (zak (zlg g_cell_order.ok (hr.mono (by decide)) g_cell_order.b (by rfl) T.nmin (by rfl) g_cell_order.m (zaF (osc:=zad zcr) (N:=zeN) (N':=["edge","step","sort"]) (sel:=[none,none,some 1]) bO (zaB (pv 0)) (λ_ _ _ _ _=>(za8 (K:=K) (n:=2) (by rfl) (zag (nG 0 nb0) (zag (nG 1 nb0) zaw)))) (λ_ _ _ _ _=>zca (zaD op_eq (pe_ix (zlz (K:=K)) (pv 0) zae (λ_ _=>rfl)) (zlf (by rfl) T.ways (pv 2)) (zax _))) (λ_ _ _ _ _=>(pv 0)))))),?_⟩;refine⟨_,rfl,a,rfl,⟨_,hq⟩,λp hp=>?_⟩
    refine zar (K:=K) (a:=a) (xs:=ws) (λi σ H2=>∃o1 o2,σ=[o1,o2,some (.str so)]/\Same H H2/\∃es:List V,H2 p=some (.lst es)/\VR es (((W.take i).filter λq=>q.1.w == kOf so).map (·.1)) eR H2)
      ⟨_,_,rfl,Same.up hp,[],zaa,VR.nil⟩ (λi σ H2 _ ⟨_,_,_,s2,_⟩=>s2.seq hq) ?_ ?_
    . rintro i v σ H2 hi ⟨o1,o2,rfl,s2,es,e2,hl⟩;obtain⟨⟨e,st⟩,he,B,b,rfl,q1,q2⟩:=hv.at hi
      have hl2:es.length<=1000:=by have:=Bo (λq:Edge×Option Nat=>q.1.w == kOf so) (W.take i);rw[hl.1,Af];rw[Av]at this;lia
      have fin:∀kk:Int, kk=(kOf so:Int) -> (if decide (V.int (e.w:Int)=V.int kk)=true then zbW p (tVar 0) { nx := λσ H2 => ∃o1 o2, σ = [o1, o2, some (V.str so)] /\ Same H H2 /\ ∃es, H2 p=some (.lst es) /\ VR es (List.map (λx => x.fst) (List.filter (λq => q.1.w == kOf so) (List.take (i + 1) W))) eR H2, rt := λ_ _ => False } [some (.ref b), some (sv st), some (.str so)] H2
          else (∃o1 o2,[some (.ref b),some (sv st),some (V.str so)]=[o1,o2,some (V.str so)]/\Same H H2/\∃es,H2 p=some (.lst es)/\VR es (List.map (λx=>x.fst) (List.filter (λq=>q.1.w == kOf so) (List.take (i+1) W))) eR H2)):=λkk hk=>by
        have hd:decide (V.int (e.w:Int)=V.int kk)=(e.w == kOf so):=by
          subst hk
          by_cases q:e.w=kOf so
          . rw[q];simp
          . rw[decide_eq_false (λz=>q (by injection z with z;lia))];simp[q]
        rw[hd,zcH he];refine ite2 (λhy=>?_) (λhn=>?_)
        . refine⟨_,rfl,es,e2,zaj hl2,_,_,rfl,zap hp s2,_,zaa,?_⟩;rw[if_pos hy,Ax];have k2:KT H2 (upd H2 p (.lst (es++[.ref b]))):=KT.lst e2;exact hl.snoc (λx v hx=>hx.kt k2) ⟨b,rfl,k2 _ _ (s2 _ _ q2)⟩
        . exact⟨_,_,rfl,s2,es,e2,by rw[if_neg hn,AX];exact hl⟩
      refine⟨B,_,rfl,SqT.of (s2 _ _ q1),rfl,_,_,rfl,_,_,rfl,rfl,?_⟩;rcases hso with z |z
      . have f0:=fin 0 (by rw[z];rfl);exact⟨_,rfl,b,_,_,_,rfl,rfl,SqT.of (s2 _ _ q2),zai (j:=2) rfl,_,rfl,.inl ⟨by rw[z],rfl,_,rfl,f0⟩⟩
      . have f2:=fin 2 (by rw[z];rfl);exact⟨_,rfl,b,_,_,_,rfl,rfl,SqT.of (s2 _ _ q2),zai (j:=2) rfl,_,rfl,.inr ⟨by rw[z],rfl,_,rfl,f2⟩⟩
    . rintro σ H2 ⟨o1,o2,rfl,s2,es,e2,hl⟩;rw[hv.1,AW]at hl;obtain⟨L,hL⟩:∃L,L=((W.filter λq=>q.1.w == kOf so).map (·.1)):=⟨_,rfl⟩;rw[<- hL]at hl
      have memL:∀f,f∈L ↔ f∈W.map (·.1)/\f.w=kOf so:=λf=>by
        rw[hL];constructor
        . intro h;obtain⟨q,hq1,rfl⟩:=AF.mp h;obtain⟨h1,h2⟩:=Dk.mp hq1;exact⟨AF.mpr ⟨q,h1,rfl⟩,by simpa using h2⟩
        . rintro⟨h1,h2⟩;obtain⟨q,hq1,rfl⟩:=AF.mp h1;exact AF.mpr ⟨q,List.mem_filter.mpr ⟨hq1,by simpa using h2⟩,rfl⟩
      have hpos:0<es.length:=by obtain⟨f,h1,h2⟩:=hex;rw[hl.1];exact CO ((memL f).mpr ⟨h1,h2⟩)
      have kap:∀(i:Nat) e,L[i]?=some e->(λi=>(L[i]?.map λe:Edge=>[e.c.2,e.c.1]).getD []) i=[e.c.2,e.c.1]:=λi e h=>by simp only[h];rfl
      refine⟨p,es,λi=>(L[i]?.map λe:Edge=>[e.c.2,e.c.1]).getD [],rfl,SqL.of e2,hpos,λi x H3 hx s3=>?_,λi x H3 hx hle s3=>?_⟩
      . obtain⟨e,he,b,rfl,q⟩:=hl.at hx;refine⟨b,e.c.1,e.c.2,_,rfl,SqT.of (s3 _ _ q),λp4 H4 hp4 s4 f4=>⟨s4,p4,rfl,SqT.of ?_⟩⟩;rw[kap i e he];exact f4
      . obtain⟨e,he,b,rfl,q⟩:=hl.at hx;have hm:=(memL e).mp (Ah he);refine k b e H3 (s2.trans s3) (s3 _ _ q) ⟨hm.1,hm.2,λf h1 h2=>?_⟩;obtain⟨j,hj,ej⟩:=Ay ((memL f).mpr ⟨h1,h2⟩);have hj':L[j]?=some f:=by rw[Aa hj,ej]
        have:=(hle j (by rw[hl.1];exact hj)).1;rw[kap j f hj',kap i e he]at this;exact this
theorem sIx_nat(n d j:Nat):HT.sIx n d (some (j:Int))=min j n:=by show (if (j:Int)<0 then ((j:Int)+(n:Int)).toNat else min (j:Int).toNat n)=min j n;rw[if_neg (by lia),Int.toNat_natCast]
theorem zfh(xs:List V){j:Nat}(h:j<=xs.length):cutV xs (some (j:Int)) none=xs.drop j:=by unfold cutV;rw[sIx_nat,Nat.min_eq_left h];exact AJ (by rw[AS];exact Ai _)
theorem zjv(xs:List V){j:Nat}(h:j<=xs.length):cutV xs none (some (j:Int))=xs.take j:=by unfold cutV;rw[sIx_nat,Nat.min_eq_left h];rfl
theorem VR.rot{α:Type}{vs:List V}{l:List α}{R:α->V->Hp->Prop}{H:Hp}(h:VR vs l R H)(j:Nat):VR (vs.drop j++vs.take j) (l.drop j++l.take j) R H:=by
 refine⟨by simp[h.1],λi x v h1 h2=>?_⟩;have hd:(vs.drop j).length=(l.drop j).length:=by simp[h.1]
 rcases A1 i (l.drop j).length with hi |hi
 .rw[As hi,BD]at h1;rw[As (by lia),BD]at h2;exact h.2 _ x v h1 h2
 .rw[AD hi]at h1;rw[AD (by lia),hd]at h2;rw[Dv]at h1 h2;split at h1
  .rw[if_pos (by assumption)]at h2;exact h.2 _ x v h1 h2
  .cases h1
theorem zhu{α:Type} [DecidableEq α]{x:α}:∀{l:List α},x∈l->∃j:Nat,l[j]?=some x/\∀(m:Nat) y,m<j->l[m]?=some y->y≠x
 |[],h=>by cases h
 |a::l,h=>by
  by_cases e:a=x
  .exact⟨0,by rw[e];rfl,λm y hm=>absurd hm (CT _)⟩
  .obtain⟨j,h1,h2⟩:=zhu ((Ao.mp h).resolve_left (Bq e));refine⟨j+1,by simpa using h1,λm y hm hy=>?_⟩
   match m,hm,hy with
   | 0,_,hy=>cases hy;exact e
   |m+1,hm,hy=>exact h2 m y (by lia) (by simpa using hy)
theorem zfJ{K:W.Frag}{H:Hp}:∀{vs:List V}{l:List Edge},VR vs l eR H->RDs K H vs (l.map λe=>tI (eI e))
 |[],[],_=>.nil
 |[],_::_,h=>by have:=h.1;cases this
 |_::_,[],h=>by have:=h.1;cases this
 |v::vs,e::l,h=>by
  obtain⟨b,rfl,q⟩:=h.2 0 e v rfl rfl;exact .cons (zeZ q) (zfJ ⟨by simpa using h.1,λi x u h1 h2=>h.2 (i+1) x u (by simpa using h1) (by simpa using h2)⟩)
structure Rnd where
 so:Str
 x:Int
 y:Int
 row:List Nat
 deriving DecidableEq
noncomputable def rowV(row:List Nat):List V:=row.map λn:Nat=>V.int (n:Int)
noncomputable def rR(r:Rnd)(v:V)(H:Hp):Prop:=∃a b,v=.ref a/\H a=some (.tup [.str r.so,.int r.x,.int r.y,.ref b])/\H b=some (.tup (rowV r.row))
theorem rR.kt{r:Rnd}{v:V}{H H':Hp}(h:rR r v H)(s:KT H H'):rR r v H':=let ⟨a,b,e,q1,q2⟩:=h;⟨a,b,e,s _ _ q1,s _ _ q2⟩
noncomputable def IsRnd(W:Wk)(r:Rnd):Prop:=r.so=sortS W/\∃(j:Nat) (e:Edge),(W.map (·.1))[j]?=some e/\zfu W (sortS W) e/\r.x=e.c.1/\r.y=e.c.2/\r.row=(W.drop j++W.take j).filterMap (·.2)
theorem zeS (W:Wk):sortS W = "rim" ∨ sortS W = "hole":=by unfold sortS;split <;> simp
noncomputable def zfC(K:W.Frag):Sp:=λvs H Q _=>∃(a:Addr) (W:Wk),vs=[.ref a]/\LR K H a W wR/\W.length<=500/\(∃e∈W.map (·.1),e.w=0)/\(∃e∈W.map (·.1),e.w=2) /\
 ∀v H' r,Same H H'->rR r v H'->IsRnd W r->Q v H'
theorem zgC (T:Txt P w K mg) (g_sort_of:Fn P w K mg base 4 "sort_of" ["walk"] (zkA K)) (g_begin_of:Fn P w K mg base 3 "begin_of" ["walk", "sort"] (ziy K))
  (d:Df K mg "round_of" zbA ["walk"]):FnOk P w K mg base CX0 5 d.f d.fd ["walk"] (zfC K):=by
 refine d.F.ok zbD (λvs H Q E h=>?_) (λcdv A outer s H vs Q E hr h=>?_)
 .obtain⟨a,W,rfl,_⟩:=h;rfl
 .obtain⟨a,W,rfl,hLR,hlen,h0,h2,k⟩:=h;obtain⟨ws,hq,hv⟩:=hLR.vr;have hun:=hr.un;have hu65:(A.deeper (PyProof.Rows.envOfC (Bf "round_of") (zad zbA) s.heap.objs.size d.f cdv)).units+65<cLine:=by lia
  have nb0:(["edge","step"]:List Str).Nodup:=by decide +kernel
  have nb1:(["edge","step"]:List Str).Nodup:=by decide +kernel
  refine⟨_,(zac (sE 1 zbD.nd (pC g_sort_of hr (pa_N (pv 0) zab)))
   (zac (sE 2 zbD.nd (pC g_begin_of hr (pa_N (pv 0) (pa_N (pv 1) zab))))
   (zac (sE 3 zbD.nd (pe_bm Bz PySem.F.slot_list_index PySem.F.type_list_index (zi5 hu65) (zaF (osc:=zad zbA) (N:=zde) (N':=["edge","step"]) (sel:=[none,none]) bO (zaB (pv 0)) (λ_ _ _ _ _=>(za8 (K:=K) (n:=2) (by rfl) (zag (nG 0 nb0) (zag (nG 1 nb0) zaw)))) (λ_ _ _ _ _=>zaE) (λ_ _ _ _ _=>(pv 0))) (pa_N (pv 2) zab)))
   (zac (sE 4 zbD.nd (zdT zfk (by rfl) T.ntuple (by rfl) (zah (zaF (osc:=zad zbA) (N:=zde) (N':=["edge","step"]) (sel:=[none,none]) bO (zaB (pe_op ziV (zbz zc1 (pv 0) (zbU (pv 3)) zck) (zbz zc1 (pv 0) zck (zbU (pv 3))))) (λ_ _ _ _ _=>(za8 (K:=K) (n:=2) (by rfl) (zag (nG 0 nb1) (zag (nG 1 nb1) zaw)))) (λ_ _ _ _ _=>zca (zaD ziT (pv 1) zfL (zax _))) (λ_ _ _ _ _=>(pv 1))) zab)))
   (zaf (zak (zaV (pa_N (pv 1) (zah (pe_ix zay (pv 2) zae (λ_ _=>rfl)) (zah (pe_ix zay (pv 2) zae (λ_ _=>rfl)) (pa_N (pv 4) zab))))))))))),?_⟩
  refine⟨_,rfl,a,W,rfl,hLR,hlen,λH1 s1=>?_⟩
  have hex:∃e∈W.map (·.1),e.w=kOf (sortS W):=by
   rcases zeS W with z |z <;> rw[z]
   .exact h0
   .exact h2
  refine⟨_,rfl,_,rfl,a,W,sortS W,rfl,zeS W,hLR.same s1 (λx v hx=>hx.same s1),hlen,hex,λb e H2 s2 hb hbg=>?_⟩;have s12:=s1.trans s2;refine⟨_,rfl,a,rfl,⟨_,s12.seq hq⟩,λp hp=>?_⟩
  refine zar (K:=K) (a:=a) (xs:=ws) (λi σ H3=>∃o1 o2,σ=[o1,o2]/\Same H2 H3/\∃es:List V,H3 p=some (.lst es)/\VR es ((W.take i).map (·.1)) eR H3)
   ⟨_,_,rfl,Same.up hp,[],zaa,VR.nil⟩ (λi σ H3 _ ⟨_,_,_,s3,_⟩=>(s12.trans s3).seq hq) ?_ ?_
  .rintro i v σ H3 hi ⟨o1,o2,rfl,s3,es,e3,hl⟩;obtain⟨⟨f,st⟩,he,B,bb,rfl,q1,q2⟩:=hv.at hi;have hl2:es.length<=1000:=by rw[hl.1,Af,Av];lia
   refine⟨B,_,rfl,SqT.of ((s12.trans s3) _ _ q1),rfl,_,_,rfl,_,_,rfl,rfl,?_⟩;refine zbe ?_
   refine⟨_,rfl,es,e3,zaj hl2,_,_,rfl,zap hp s3,_,zaa,?_⟩;rw[zaq he,Ax];have k2:KT H3 (upd H3 p (.lst (es++[.ref bb]))):=KT.lst e3;exact hl.snoc (λx v hx=>hx.kt k2) ⟨bb,rfl,k2 _ _ ((s12.trans s3) _ _ q2)⟩
  .rintro σ H3 ⟨o1,o2,rfl,s3,es,e3,hl⟩;rw[hv.1,AW]at hl;obtain⟨j,hj,hjm⟩:=zhu hbg.1;have hjl:j<W.length:=by have:=(Ab.mp hj).1;simpa using this
   have s13:=s12.trans s3;refine⟨.inl ⟨rfl,_,SqL.of e3⟩,_,rfl,p,es,_,_,_,j,_,rfl,rfl,SqL.of e3,zeZ (s3 _ _ hb),zfJ hl,zbX _,(λz hz=>by obtain⟨f,_,rfl⟩:=AF.mp hz;exact zbX _),(by rw[Ap,hj];rfl),(by rw[zhv];exact decide_eq_true rfl),(λm z hm hz=>?_),?_⟩
   .rw[Ap]at hz;obtain⟨f,hf,rfl⟩:=AT.mp hz;rw[zhv];exact decide_eq_false (λq=>hjm m f hm hf (zhx.mp q))
   have hwl:j<=ws.length:=by rw[hv.1];lia
   refine⟨_,rfl,_,rfl,_,rfl,a,ws,rfl,s13.seq hq,λp4 hp4=>?_⟩;rw[zfh ws hwl];have s4:=Same.up (o:=.lst (ws.drop j)) hp4;refine⟨_,rfl,_,rfl,_,rfl,a,ws,rfl,(s13.trans s4).seq hq,λp5 hp5=>?_⟩;rw[zjv ws hwl];have s5:=Same.up (o:=.lst (ws.take j)) hp5;refine⟨p4,p5,_,_,rfl,rfl,s5 _ _ zaa,zaa,CM (zaj (by simp[hv.1];lia)),λp6 hp6=>?_⟩;have s6:=Same.up (o:=.lst (ws.drop j++ws.take j)) hp6;have s16:=s13.trans (s4.trans (s5.trans s6));have e6:upd (upd (upd H3 p4 (.lst (ws.drop j))) p5 (.lst (ws.take j))) p6 (.lst (ws.drop j++ws.take j)) p6=some (.lst (ws.drop j++ws.take j)):=zaa;have b6:=(s4.trans (s5.trans s6)) _ _ (s3 _ _ hb);generalize upd (upd (upd H3 p4 (.lst (ws.drop j))) p5 (.lst (ws.take j))) p6 (.lst (ws.drop j++ws.take j))=H6 at s16 e6 b6 ⊢;have hv6:=hv.rot j;have hWl:(W.drop j++W.take j).length<=500:=by simp;lia
   generalize hW6:W.drop j++W.take j=W6 at hv6 hWl;generalize ws.drop j++ws.take j=ws6 at hv6 e6;refine⟨p6,rfl,⟨_,SqL.of e6⟩,λp7 hp7=>?_⟩
   refine zar (K:=K) (a:=p6) (xs:=ws6) (λi σ H7=>∃o1 o2,σ=[o1,o2]/\Same H6 H7/\H7 p7=some (.lst (rowV ((W6.take i).filterMap (·.2)))))
    ⟨_,_,rfl,Same.up hp7,zaa⟩ (λi σ H7 _ ⟨_,_,_,s7,_⟩=>s7.seq (SqL.of e6)) ?_ ?_
   .rintro i v σ H7 hi ⟨o1,o2,rfl,s7,e7⟩;obtain⟨⟨f,st⟩,he,B,bb,rfl,q1,q2⟩:=hv6.at hi
    have hl2:(rowV ((W6.take i).filterMap (·.2))).length<=1000:=by unfold rowV;rw[Af];have:=List.length_filterMap_le (λq:Edge×Option Nat=>q.2) (W6.take i);rw[Av]at this;lia
    refine⟨B,_,rfl,SqT.of ((s16.trans s7) _ _ q1),rfl,_,_,rfl,_,_,rfl,rfl,?_⟩;refine⟨_,rfl,rfl,_,rfl,?_⟩;rw[zkx,zaq he,List.filterMap_append]
    cases st with
    |none=>exact iteF ⟨_,_,rfl,s7,by simpa using e7⟩
    |some n =>
     refine iteT ⟨_,rfl,_,e7,zaj hl2,_,_,rfl,zap hp7 s7,?_⟩;rw[zaa];simp[rowV,sv]
   .rintro σ H7 ⟨o1,o2,rfl,s7,e7⟩;rw[hv6.1,AW]at e7;refine⟨p7,_,rfl,.inl ⟨SqL.of e7,λp8 hp8=>?_⟩⟩;have s8:=Same.up (o:=.tup (rowV (W6.filterMap (·.2)))) hp8;have b8:=s8 _ _ (s7 _ _ b6);refine⟨_,rfl,_,rfl,b,_,_,_,rfl,rfl,SqT.of b8,zai (j:=0) rfl,_,rfl,b,_,_,_,rfl,rfl,SqT.of b8,zai (j:=1) rfl,_,rfl,(by show 4<=sizeLine;decide),λp9 hp9=>?_⟩;refine k _ _ ⟨sortS W,e.c.1,e.c.2,W6.filterMap (·.2)⟩ ((s16.trans (s7.trans s8)).trans (Same.up hp9)) ⟨p9,p8,rfl,zaa,Same.up hp9 _ _ zaa⟩ ⟨rfl,j,e,hj,hbg,rfl,rfl,?_⟩;rw[<- hW6]
noncomputable def keyV (r:Rnd):List V:=[.int r.y,.int r.x,.bl (decide (V.str r.so=V.str "hole"))]
noncomputable def zdi(K:W.Frag):Sp:=λvs H Q _=>∃(v:V) (r:Rnd),vs=[v]/\rR r v H/\∀p H',H p=none->Same H H'->H' p=some (.tup (keyV r))->Q (.ref p) H'
theorem zee (d:Df K mg "round_order" zb6 ["one"]):FnOk P w K mg base CX0 1 d.f d.fd ["one"] (zdi K):=by
 refine d.F.ok za4 (λvs H Q E h=>?_) (λcdv A outer s H vs Q E hr h=>?_)
 .obtain⟨v,r,rfl,_⟩:=h;rfl
 .obtain⟨v,r,rfl,⟨a,b,rfl,q1,q2⟩,k⟩:=h
  refine⟨_,(zac (zbw (pv 0) (zbk (by rfl) (zag (nG 1 za4.nd) (zag (nG 2 za4.nd) (zag (nG 3 za4.nd) (zag (nG 4 za4.nd) zaw))))))
   (zaf (zak (zaV (pa_N (pv 3) (pa_N (pv 2) (zah (za2 op_eq (pv 1) ziQ (zax _)) zab))))))),?_⟩
  refine⟨_,rfl,a,_,rfl,SqT.of q1,rfl,_,_,rfl,_,_,rfl,_,_,rfl,_,_,rfl,rfl,?_⟩;refine⟨_,rfl,_,rfl,_,rfl,rfl,three,λp hp=>k p _ hp (Same.up hp) zaa⟩
theorem VR.cons{α:Type}{v:V}{vs:List V}{x:α}{l:List α}{R:α->V->Hp->Prop}{H:Hp}:VR (v::vs) (x::l) R H ↔ R x v H/\VR vs l R H:=by
 constructor
 .intro h;exact⟨h.2 0 x v rfl rfl,by simpa using h.1,λi y u h1 h2=>h.2 (i+1) y u (by simpa using h1) (by simpa using h2)⟩
 .rintro⟨h1,h2⟩;refine⟨by simp[h2.1],λi y u e1 e2=>?_⟩
  match i,e1,e2 with
  | 0,e1,e2=>cases e1;cases e2;exact h1
  |i+1,e1,e2=>exact h2.2 i y u (by simpa using e1) (by simpa using e2)
theorem VR.perm{α:Type}{R:α->V->Hp->Prop}{H:Hp}{ys xs:List V}(p:ys.Perm xs):∀{l:List α},VR xs l R H->∃l':List α,l'.Perm l/\VR ys l' R H:=by
 induction p with
 |nil=>intro l h;exact⟨l,List.Perm.refl _,h⟩
 |cons v _ ih =>
  intro l h
  match l,h with
  |[],h=>exact absurd h.1 (by simp)
  |x::l,h =>
   obtain⟨h1,h2⟩:=VR.cons.mp h;obtain⟨l',p',h'⟩:=ih h2;exact⟨x::l',p'.cons x,VR.cons.mpr ⟨h1,h'⟩⟩
 |swap a b r =>
  intro l h
  match l,h with
  |[],h=>exact absurd h.1 (by simp)
  |[_],h=>exact absurd h.1 (by simp)
  |x::y::l,h =>
   obtain⟨h1,h2⟩:=VR.cons.mp h;obtain⟨h3,h4⟩:=VR.cons.mp h2;exact⟨y::x::l,List.Perm.swap _ _ _,VR.cons.mpr ⟨h3,VR.cons.mpr ⟨h1,h4⟩⟩⟩
 |trans _ _ ih1 ih2 =>
  intro l h;obtain⟨l1,p1,h1⟩:=ih2 h;obtain⟨l2,p2,h2⟩:=ih1 h1;exact⟨l2,p2.trans p1,h2⟩
noncomputable def kE(e:Edge):List Key:=[C5 e.c.1,C5 e.c.2,C5 (e.w:Int)]
theorem zkP{e f:Edge}:kE e=kE f ↔ e=f:=by
 constructor
 .intro h;refine zhx.mp ?_
  unfold kE at h;injection h with h1 h2;injection h2 with h2 h3;injection h3 with h3 _;unfold eI;rw[Sum.inl.inj h1,Sum.inl.inj h2,Sum.inl.inj h3]
 .rintro rfl;rfl
theorem _root_.RP.Closed.back{C:Cell->Bool}{b x:Edge}{es:List Edge}(h:Closed C b es)(hx:IsE C x)(hm:nxt C x∈es):x∈es:=by
 obtain⟨⟨h0,hs,hE,hnd⟩,l,hl,hb⟩:=h;obtain⟨i,hi,ei⟩:=Ay hm;have hlm:l∈es:=Ah hl;rcases Du i with rfl |hp
 .rw[Aa hi,ei]at h0;have e:=AO h0;rw[<- hb]at e;rw[zgL hx (hE l hlm) e];exact hlm
 .have hi':i-1<es.length:=by lia
  have e1:=hs (i-1) es[i-1] (nxt C x) (Aa hi') (by rw[show i-1+1=i by lia,Aa hi,ei]);rw[zgL hx (hE _ (A7 hi')) e1];exact A7 hi'
theorem _root_.RP.Closed.apart{C:Cell->Bool}{b:Edge}{es done:List Edge}(h:Closed C b es)(hd:∀x,IsE C x->nxt C x∈done->x∈done)(hb:b ∉ done):∀e∈es,e ∉ done:=by
 obtain⟨⟨h0,hs,hE,hnd⟩,_⟩:=h
 have key:∀(i:Nat) e,es[i]?=some e->e ∉ done:=by
  intro i
  induction i with
  |zero=>intro e he;rw[he]at h0;cases h0;exact hb
  |succ i ih =>
   intro e he hm;have hi:i+1<es.length:=(Ab.mp he).1;have h1:es[i]?=some es[i]:=Aa (by lia)
   have hn:=hs i _ e h1 he;rw[hn]at hm;exact ih _ h1 (hd _ (hE _ (A7 _)) hm)
 intro e he;obtain⟨i,hi,ei⟩:=Ay he;exact key i e (by rw[Aa hi,ei])
structure Part (C:Cell->Bool) (ESS:List (List Edge)) (R:List Rnd):Prop where
 len:R.length=ESS.length
 each:∀(i:Nat) es r,ESS[i]?=some es->R[i]?=some r->(∃b,Closed C b es)/\IsRnd (wk C es) r
 nd:ESS.flatten.Nodup
theorem Part.closed{C:Cell->Bool}{ESS:List (List Edge)}{R:List Rnd}(h:Part C ESS R):∀es∈ESS,∃b,Closed C b es:=λes he=>by
 obtain⟨i,hi,ei⟩:=Ay he;have hr:i<R.length:=by rw[h.len];exact hi
 exact (h.each i es R[i] (by rw[Aa hi,ei]) (Aa hr)).1
theorem Part.isE{C:Cell->Bool}{ESS:List (List Edge)}{R:List Rnd}(h:Part C ESS R):∀e∈ESS.flatten,IsE C e:=λe he=>by obtain⟨es,h1,h2⟩:=List.mem_flatten.mp he;obtain⟨b,hc⟩:=h.closed es h1;exact hc.1.2.2.1 e h2
theorem Part.back{C:Cell->Bool}{ESS:List (List Edge)}{R:List Rnd}(h:Part C ESS R):∀x,IsE C x->nxt C x∈ESS.flatten->x∈ESS.flatten:=λx hx hm=>by obtain⟨es,h1,h2⟩:=List.mem_flatten.mp hm;obtain⟨b,hc⟩:=h.closed es h1;exact List.mem_flatten.mpr ⟨es,h1,hc.back hx h2⟩
theorem Part.nil{C:Cell->Bool}:Part C [] []:=⟨rfl,λi es r h=>by simp at h,by simp⟩
theorem Part.snoc{C:Cell->Bool}{ESS:List (List Edge)}{R:List Rnd}{b:Edge}{es:List Edge}{r:Rnd}(h:Part C ESS R)(hc:Closed C b es)(hr:IsRnd (wk C es) r)(hb:b ∉ ESS.flatten):Part C (ESS++[es]) (R++[r]):=by
 refine⟨by simp[h.len],λi fs q h1 h2=>?_,?_⟩
 .rcases A1 i ESS.length with hi |hi
  .rw[As hi]at h1;rw[As (by rw[h.len];exact hi)]at h2;exact h.each i fs q h1 h2
  .rw[AD hi]at h1;rw[AD (by rw[h.len];exact hi)]at h2
   have hz:i-ESS.length=0:=by have:=(Ab.mp h1).1;simp at this;lia
   rw[hz]at h1;rw[h.len,hz]at h2
   cases h1;cases h2
   exact⟨⟨b,hc⟩,hr⟩
 .have ap:=hc.apart h.back hb;rw[Dh,CZ];refine⟨h.nd,by simpa using hc.1.2.2.2,λx hx y hy e=>?_⟩;subst e;exact ap x (by simpa using hy) hx
theorem zhp{p:Edge->Bool}:∀(ESS:List (List Edge)),(∀es∈ESS,∃e∈es,p e=true)->ESS.length<=(ESS.flatten.filter p).length
 |[],_=>AV _
 |es::r,h=>by
  have ih:=zhp r λes he=>h es (Ak _ he)
  obtain⟨e,he,hp⟩:=h es Aq;rw[List.flatten_cons,BC,Al,AQ];have:0<(es.filter p).length:=CO (List.mem_filter.mpr ⟨he,hp⟩);lia
theorem Part.few{cs:List Cell}{ESS:List (List Edge)}{R:List Rnd}(h:Part (isIn cs) ESS R):R.length<=cs.length:=by
 rw[h.len];refine A8 (zhp (p:=λe=>e.w == 0) ESS λes he=>?_) ?_
 .obtain⟨b,hc⟩:=h.closed es he;obtain⟨e,h1,h2⟩:=hc.has (k:=0) (.inl rfl);exact⟨e,h1,by simpa using h2⟩
 .rw[<- Af (f:=λc:Cell=>(⟨c,0⟩:Edge)) (as:=cs)];refine zaW (List.Pairwise.filter _ h.nd) λe he=>?_
  obtain⟨h1,h2⟩:=Dk.mp he;have hE:=h.isE e h1;refine AF.mpr ⟨e.c,of_decide_eq_true hE.2.1,?_⟩;obtain⟨c,w⟩:=e;simp only at h2 ⊢;have:w=0:=by simpa using h2
  rw[this]
theorem Part.small{cs:List Cell}{ESS:List (List Edge)}{R:List Rnd}(h:Part (isIn cs) ESS R):ESS.flatten.length<=4*cs.length:=by rw[<- zbr];exact zaW h.nd λe he=>zcS.mpr ⟨of_decide_eq_true (h.isE e he).2.1,(h.isE e he).1⟩
noncomputable def keyI (r:Rnd):List Int:=[r.y,r.x,PyProof.Rows.b2i (decide (V.str r.so=V.str "hole"))]
noncomputable def Whole(cs:List Cell)(R:List Rnd):Prop:=∃ESS,Part (isIn cs) ESS R/\∀e,e∈ESS.flatten ↔ IsE (isIn cs) e
noncomputable def zg5(K:W.Frag):Sp:=λvs H Q _=>∃(a:Addr) (cs:List Cell),vs=[.ref a]/\LR K H a cs cR/\InOrd cs/\cs.length<=60 /\
 ∀p H' rs R R0,H p=none->Same H H'->H' p=some (.lst rs)->VR rs R rR H'->R.Perm R0->True->Whole cs R0->Q (.ref p) H'
noncomputable def zcM(K:W.Frag):Sp:=λvs H Q _=>∃(t pe:Addr) (cs:List Cell) (es:List V),vs=[.ref t,.ref pe]/\Tab H t (isIn cs)/\H pe=some (.lst es)/\VR es (allE cs) eR H/\cs.length<=60 /\
 ∀p H' rs R R0,H p=none->Same H H'->H' p=some (.lst rs)->VR rs R rR H'->R.Perm R0->True->Whole cs R0->Q (.ref p) H'
theorem zdV(T:Txt P w K mg)
    (g_walk_from:Fn P w K mg base 3 "walk_from" ["table","begin"] (zky K)) (g_round_of:Fn P w K mg base 5 "round_of" ["walk"] (zfC K)) (g_round_order:Fn P w K mg base 1 "round_order" ["one"] (zdi K))
    (d:Df K mg "rounds_along" zbR ["table","edges"]):FnOk P w K mg base CX0 6 d.f d.fd ["table","edges"] (zcM K):=by
  refine d.F.ok zaH (λvs H Q E h=>?_) (λcdv A outer s H2 vs Q E hr h=>?_)
  . obtain⟨t,pe,cs,es,rfl,_⟩:=h;rfl
  . obtain⟨t,pe,cs,es,rfl,tab,epe,hvpe,hlen,k⟩:=h;have hu1:=hu_of hr
    refine⟨_,(zac (sE 2 zaH.nd zj9)
      (zac (sE 3 zaH.nd (za0 zab))
      (zac (zbI A3 rfl (zaB (pv 1)) (nG 4 zaH.nd)
      (zaf (ps_if (ziJ (zfO hu1 (pv 4) (pv 2)))
      (zac (sE 5 zaH.nd (pC g_walk_from hr (pa_N (pv 0) (pa_N (pv 4) zab))))
      (zac (zbI A3 rfl (zaB (pv 5)) (zbk (by rfl) (zag (nG 6 zaH.nd) (zag (nG 7 zaH.nd) zaw)))
      (zaf (zle hu1 (pv 2) (pv 6) pe_bl rfl)))
      (zaf (zcD (pe_bm Bz BL BM zbJ (pv 3) (zah (pC g_round_of hr (pa_N (pv 5) zab)) zab))))))
      zaA)))
      (zaf (zak (zj8 g_round_order.ok (hr.mono (by decide)) g_round_order.b (by rfl) T.nsorted (by rfl) g_round_order.m (pv 3))))))),?_⟩
    refine λdd hdd=>⟨(by show 0<=sizeLine;decide),λp hp=>?_⟩
    have hpd:p≠dd:=λz=>by subst z;rw[zaa]at hp;cases hp
    have s4:Same H2 (upd (upd H2 dd (.dT [])) p (.lst [])):=(Same.up hdd).trans (Same.up hp);have d4:upd (upd H2 dd (.dT [])) p (.lst []) dd=some (.dT []):=by rw[zal (Bq hpd),zaa]
    have p4:upd (upd H2 dd (.dT [])) p (.lst []) p=some (.lst []):=zaa;have n2:H2 dd=none:=hdd;have n2p:H2 p=none:=by rw[zal hpd]at hp;exact hp
    generalize upd (upd H2 dd (.dT [])) p (.lst [])=H5 at s4 d4 p4;have s15:Same H2 H5:=s4;have e5:=s4 _ _ epe;have hv5:=hvpe.mono λx v hx=>hx.same s4
    refine⟨_,rfl,pe,rfl,⟨_,SqL.of e5⟩,?_⟩;have hped:pe≠dd:=zao epe n2;have hpep:pe≠p:=zao epe n2p
    refine zar (K := K) (a := pe) (xs := es) (λi σ H6 => ∃o4 o5 o6 o7, σ = [some (.ref t), some (.ref pe), some (.ref dd), some (.ref p), o4, o5, o6, o7] /\ Same H2 H6 /\ H6 pe=some (.lst es) /\ KT H5 H6 /\
        ∃kvs rs ESS R,H6 dd=some (.dT kvs)/\H6 p=some (.lst rs)/\VR rs R rR H6/\Part (isIn cs) ESS R/\(∀e,(valV kvs (kE e)).isSome=decide (e∈ESS.flatten))/\kvs.length<=ESS.flatten.length/\∀e∈(allE cs).take i,e∈ESS.flatten)
      ⟨_,_,_,_,rfl,s15,e5,KT.refl _,[],[],[],[],d4,p4,VR.nil,Part.nil,(λe=>by simp[valV]),Ai _,(λe he=>by simp at he)⟩ (λi σ H6 _ ⟨_,_,_,_,_,_,e6,_⟩=>SqL.of e6) ?_ ?_
    . rintro i v σ H6 hi ⟨o4,o5,o6,o7,rfl,s6,e6,kt6,kvs,rs,ESS,R,d6,p6,hR,hP,hkv,hkl,hall⟩;obtain⟨e,he,b,rfl,qb⟩:=hv5.at hi;have hE:IsE (isIn cs) e:=zhm.mp (Ah he);have qb6:=kt6 _ _ qb;refine⟨_,rfl,_,rfl,dd,_,rfl,.inr ⟨kvs,kE e,b,Rd.of d6,rfl,qb6,rfl⟩,_,rfl,?_⟩;rw[hkv]
      by_cases hin:e∈ESS.flatten
      . rw[decide_eq_true hin];refine iteF ⟨_,_,_,_,rfl,s6,e6,kt6,kvs,rs,ESS,R,d6,p6,hR,hP,hkv,hkl,λf hf=>?_⟩;rcases (zbu he).mp hf with z |z
        . exact hall f z
        . rw[z];exact hin
      . rw[decide_eq_false hin];refine iteT ?_
        have tab6:=tab.same s6;refine⟨_,rfl,_,rfl,t,b,cs,e,rfl,tab6,qb6,hE,by lia,λpw H7 ws fs hpw s7 e7 hv7 hcl=>?_⟩;have hfs:fs.length<=4*cs.length:=hcl.1.short;have hap:=hcl.apart hP.back hin;have d7:=s7 _ _ d6;have hdw:dd≠pw:=λz=>by subst z;rw[d6]at hpw;cases hpw
        have hws:ws.length=fs.length:=by rw[hv7.1,zdz]
        refine⟨_,rfl,pw,rfl,⟨_,SqL.of e7⟩,?_⟩
        refine zar (K := K) (a := pw) (xs := ws) (λj σ H8 => ∃o6 o7, σ = [some (.ref t), some (.ref pe), some (.ref dd), some (.ref p), some (.ref b), some (.ref pw), o6, o7] /\ (∀z o, z ≠ dd -> H7 z=some o -> H8 z=some o) /\
            ∃kv8,H8 dd=some (.dT kv8)/\(∀f,(valV kv8 (kE f)).isSome=decide (f∈ESS.flatten∨f∈fs.take j))/\kv8.length<=ESS.flatten.length+j)
          ⟨_,_,rfl,(λz o _ h=>h),kvs,d7,(λf=>by rw[hkv];simp),by lia⟩ (λj σ H8 _ ⟨_,_,_,k8,_⟩=>SqL.of (k8 _ _ (Bq hdw) e7)) ?_ ?_
        . rintro j u σ H8 hj ⟨o6,o7,rfl,k8,kv8,d8,hk8,hl8⟩;obtain⟨⟨f,st⟩,hf,B,bb,rfl,q1,q2⟩:=hv7.at hj
          have hf':fs[j]?=some f:=by
            unfold wk at hf;rw[Ap]at hf;obtain⟨g,hg,eg⟩:=AT.mp hf
            cases eg
            exact hg
          have nB:B≠dd:=ne_of q1 d7 (λz=>nomatch z);have nb:bb≠dd:=ne_of q2 d7 (λz=>nomatch z);refine⟨B,_,rfl,SqT.of (k8 _ _ nB q1),rfl,_,_,rfl,_,_,rfl,rfl,?_⟩;have hjl:j<fs.length:=by rw[<- hws];exact (Ab.mp hj).1
          have hsm:=hP.small;refine⟨_,rfl,_,rfl,dd,_,rfl,.inr ⟨kv8,kE f,bb,d8,rfl,k8 _ _ nb q2,zaj (by lia),rfl⟩,?_⟩;refine⟨_,_,rfl,(λz o hz h=>by rw[zal hz];exact k8 z o hz h),_,zaa,(λg=>?_),A8 (zbo _ _ _) (by lia)⟩;rw[zgU]
          by_cases eg:g=f
          . rw[if_pos (zkP.mpr eg),decide_eq_true (.inr ((zbu hf').mpr (.inr eg)))];rfl
          . rw[if_neg (λz=>eg (zkP.mp z)),hk8];refine decide_eq_decide.mpr ⟨λz=>z.imp id λq=>(zbu hf').mpr (.inl q),λz=>z.imp id λq=>((zbu hf').mp q).resolve_right eg⟩
        . rintro σ H8 ⟨o6,o7,rfl,k8,kv8,d8,hk8,hl8⟩;rw[hws,AW]at hk8;have hdp:p≠dd:=hpd;have p8:=k8 _ _ hdp (s7 _ _ p6);have kt8:KT H7 H8:=λz xs h=>k8 z _ (ne_of h d7 (λq=>nomatch q)) h
          have w8:H8 pw=some (.lst ws):=k8 _ _ (Bq hdw) e7;have hrl:rs.length<=60:=by rw[hR.1];exact A8 hP.few hlen
          have hh:∀kk,kk=0∨kk=2->∃x∈(wk (isIn cs) fs).map (·.1),x.w=kk:=λkk hkk=>by obtain⟨x,h1,h2⟩:=hcl.has hkk;exact⟨x,by unfold wk;rw[CP];simpa using h1,h2⟩
          refine⟨_,rfl,.inl ⟨rfl,_,SqL.of p8⟩,_,rfl,pw,wk (isIn cs) fs,rfl,LR.of w8 (hv7.mono λx v hx=>hx.kt kt8),(by rw[zdz];lia),hh 0 (.inl rfl),hh 2 (.inr rfl),λvr H9 r s9 hr9 hrn=>?_⟩;have p9:=s9 _ _ p8;refine⟨p,rs,_,rfl,rfl,p9,zaj (by lia),?_⟩;have kt9:KT H9 (upd H9 p (.lst (rs++[vr]))):=KT.lst p9;have ktA:KT H6 (upd H9 p (.lst (rs++[vr]))):=(KT.of s7).trans (kt8.trans ((KT.of s9).trans kt9));refine⟨_,_,_,_,rfl,(λz o h=>?_),?_,kt6.trans ktA,kv8,rs++[vr],ESS++[fs],R++[r],?_,zaa,hR.snoc (λx v hx=>hx.kt ktA) (hr9.kt kt9),hP.snoc hcl hrn hin,(λf=>?_),?_,(λf hf=>?_)⟩
          . rw[zal (zao h n2p)];exact s9 _ _ (k8 _ _ (zao h n2) (s7 _ _ (s6 _ _ h)))
          . rw[zal hpep];exact s9 _ _ (k8 _ _ hped (s7 _ _ e6))
          . rw[zal (Bq hpd)];exact s9 _ _ d8
          . rw[hk8];refine decide_eq_decide.mpr ?_
            rw[Dh,A2];simp
          . rw[Dh,Al,show [fs].flatten=fs by simp];lia
          . rw[Dh,A2];rcases (zbu he).mp hf with z |z
            . exact .inl (hall f z)
            . rw[z];refine .inr ?_
              have:=hcl.1.1;simpa using Ah this
    . rintro σ H6 ⟨o4,o5,o6,o7,rfl,s6,e6,kt6,kvs,rs,ESS,R,d6,p6,hR,hP,hkv,hkl,hall⟩;rw[hv5.1,AW]at hall;have hrl:rs.length<=60:=by rw[hR.1];exact A8 hP.few hlen
      have ge:∀(i:Nat) r,R[i]?=some r->(λi=>keyV (R.getD i ⟨"",0,0,[]⟩)) i=keyV r:=λi r h=>by simp only[Am,h,Option.getD_some]
      refine⟨_,rfl,p,rs,λi=>keyV (R.getD i ⟨"",0,0,[]⟩),λi=>keyI (R.getD i ⟨"",0,0,[]⟩),rfl,SqL.of p6,by lia,λi x H7 hx s7=>?_,
        λi j hi hj=>⟨_,_,_,_,_,_,rfl,rfl,.cons (.int _ _) (.cons (.bl _ _) .nil),rfl,rfl⟩,λys D H7 hpm hD s7 f7=>?_⟩
      . obtain⟨r,hr',hx'⟩:=hR.at hx;refine⟨x,r,rfl,hx'.kt (KT.of s7),λq H8 hq s8 f8=>⟨s8,q,rfl,SqT.of ?_⟩⟩;rw[ge i r hr'];exact f8
      . obtain⟨R',pR,vR⟩:=(hR.mono λx v hx=>hx.kt (KT.of s7)).perm hpm;exact k D H7 ys R' R (s6.free hD) (s6.trans s7) f7 vR pR trivial ⟨ESS,hP,λe=>⟨hP.isE e,λh=>hall e (zhm.mpr h)⟩⟩
theorem ziW (T:Txt P w K mg) (g_ask_picture:Fn P w K mg base 2 "ask_picture" ["picture"] (spAsk K)) (g_cell_table:Fn P w K mg base 1 "cell_table" ["picture"] (zgk K)) (g_all_edges:Fn P w K mg base 3 "all_edges" ["picture"] (zkG K))
  (g_rounds_along:Fn P w K mg base 6 "rounds_along" ["table","edges"] (zcM K))
  (d:Df K mg "rounds" zeX ["picture"]):FnOk P w K mg base CX0 7 d.f d.fd ["picture"] (zg5 K):=by
 refine d.F.ok ziD (λvs H Q E h=>?_) (λcdv A outer s H vs Q E hr h=>?_)
 .obtain⟨a,cs,rfl,_⟩:=h;rfl
 .obtain⟨a,cs,rfl,hLR,hord,hlen,k⟩:=h;have hu1:=hu_of hr
  refine⟨_,(zac (zcD (pC g_ask_picture hr (pa_N (pv 0) zab)))
   (zaf (zak (pC g_rounds_along hr (zah (pC g_cell_table hr (pa_N (pv 0) zab)) (zah (pC g_all_edges hr (pa_N (pv 0) zab)) zab)))))),?_⟩
  refine⟨_,rfl,a,cs,rfl,hLR,hord,by lia,λH1 s1=>?_⟩;have hLR1:=hLR.same s1 λx v hx=>hx.same s1
  refine⟨_,rfl,a,cs,rfl,hLR1,by lia,λt H2 ht s2 tab=>?_⟩;refine⟨_,rfl,a,cs,rfl,hLR1.same s2 (λx v hx=>hx.same s2),by lia,λpe H5 es hpe s5 e5 hv5=>?_⟩;refine⟨t,pe,cs,es,rfl,tab.same s5,e5,hv5,hlen,λp H' rs R R0 hp sp f1 f2 f3 f4 f5=>?_⟩;exact k p H' rs R R0 (s1.free (s2.free (s5.free hp))) (s1.trans (s2.trans (s5.trans sp))) f1 f2 f3 f4 f5
theorem zj1{α:Type}(l:List α)(j:Nat):(l.drop j++l.take j).Perm l:=by have:=List.perm_append_comm (l₁:=l.drop j) (l₂:=l.take j);rw[List.take_append_drop]at this;exact this
theorem zgS{C:Cell->Bool}(es:List Edge):(wk C es).map (·.1)=es:=by unfold wk;rw[CP];exact List.map_id' _
theorem zhQ{C:Cell->Bool}{es fs:List Edge}(p:es.Perm fs):sortS (wk C es)=sortS (wk C fs):=by have q:(wk C es).Perm (wk C fs):=p.map _;unfold sortS nL nS;have a:=(q.filter λq=>q.2.isNone).length_eq;have b:=(q.filter λq=>slant q.2).length_eq;rw[a,b]
noncomputable def begE(r:Rnd):Edge:=⟨(r.x,r.y),kOf r.so⟩
noncomputable abbrev SoOk (r:Rnd):Prop:=r.so = "rim" ∨ r.so = "hole"
noncomputable def Boxed(m:Nat)(cs:List Cell):Prop:=∃(x y:Int) (w h:Nat),w*h<=m/\∀c∈cs,x<=c.1/\c.1<x+w/\y<=c.2/\c.2<y+h
theorem Boxed.near{m:Nat}{cs:List Cell}(h:Boxed m cs){a b:Cell}(ha:a∈cs)(hb:b∈cs):a.1-b.1<=m/\b.1-a.1<=m/\a.2-b.2<=m/\b.2-a.2<=m:=by
 obtain⟨x,y,w,h,hm,k⟩:=h;obtain⟨a1,a2,a3,a4⟩:=k a ha;obtain⟨b1,b2,b3,b4⟩:=k b hb;have hw:1<=w:=by lia
 have hh:1<=h:=by lia
 have w2:w<=w*h:=Nat.le_mul_of_pos_right _ hh;have h2:h<=w*h:=Nat.le_mul_of_pos_left _ hw;refine⟨?_,?_,?_,?_⟩ <;> lia
noncomputable def apart(o:Cell)(k:Int)(c:Cell):Cell:=(o.1+(c.1-o.1)*k,o.2+(c.2-o.2)*k)
noncomputable def zmw(H:Hp)(p:Addr)(t:Int):Prop:=∃c:Int,H p=some (.lst [.int c,.int t])/\0<=t/\t<2 ^ 40
theorem cpow{i j:Int}(h:0<=j/\j<=1000000/\i.natAbs<2 ^ 64):CPow i j:=h
noncomputable def zg8(K:W.Frag):Sp:=λvs H Q _=>∃(a:Addr) (ns:List Int) (k:Nat),vs=[.ref a,.int k]/\SqL K H a (ns.map V.int)/\∀n,Q (.int n) H
theorem zeg (T:Txt P w K mg) (d:Df K mg "_law_cell_at" zbT ["_law_script","_law_k"]):FnOk P w K mg base CX0 1 d.f d.fd ["_law_script","_law_k"] (zg8 K):=by
 refine d.F.ok zdM (λvs H Q E h=>?_) (λcdv A outer s H vs Q E hr h=>?_)
 .obtain⟨a,ns,k,rfl,_⟩:=h;rfl
 .obtain⟨a,ns,i,rfl,hq,k⟩:=h
  refine⟨_,(zac (ps_if (zaD op_lt (pv 1) (zam zan (by rfl) T.nlen (by rfl) (pa_N (pv 0) zab)) (zax _))
   (zaf (zak (pe_ix zas (pv 0) (pv 1) (λ_ _=>rfl))))
   zaA)
   (zaf (zak zae))),?_⟩
  refine⟨_,rfl,_,rfl,a,_,rfl,.inl hq,_,_,rfl,rfl,_,rfl,?_⟩;refine ite2 (λhy=>?_) (λhn=>k 0)
  have hlt:i<ns.length:=by have:=of_decide_eq_true hy;rw[Af]at this;lia
  exact⟨_,rfl,_,rfl,a,_,_,_,rfl,rfl,hq,zai (v:=.int ns[i]) (by simp[hlt]),k _⟩
noncomputable def zkz:Sp:=λvs H Q _=>∃(p:Addr) (t b:Int),vs=[.ref p,.int b]/\zmw H p t/\0<b/\b.natAbs.log2<9000/\∀(n c:Int),0<=n->n<b->Q (.int n) (upd H p (.lst [.int c,.int (t+1)]))
theorem zgF (T:Txt P w K mg) (d:Df K mg "_law_take" zcB ["_law_pen","_law_base"]):FnOk P w K mg base CX0 1 d.f d.fd ["_law_pen","_law_base"] zkz:=by
 refine d.F.ok zbs (λvs H Q E h=>?_) (λcdv A outer s H vs Q E hr h=>?_)
 .obtain⟨p,t,b,rfl,_⟩:=h;rfl
 .obtain⟨p,t,b,rfl,⟨c,hp,ht0,ht1⟩,hb,hlog,k⟩:=h
  refine⟨_,(zac (zbw (pe_op zaL (pe_ix zas (pv 0) zae (λ_ _=>rfl)) zae) (zkH (pv 0) zae zha))
   (zac (ps_if (zaD op_ge (zam zhD (by rfl) T.nabs (by rfl) (zah (pe_ix zas (pv 0) zae (λ_ _=>rfl)) zab)) (pe_op zey zae zae) (zax _))
   (zac (sE 2 zbs.nd (pe_op zaI (zam zhD (by rfl) T.nabs (by rfl) (zah (pe_ix zas (pv 0) zae (λ_ _=>rfl)) zab)) (pe_op zey zae zae)))
   (zac (zbw (pe_op zaL (pe_op zey zae zae) (pe_op zhj (pv 2) (pv 1))) (zkH (pv 0) zae zha))
   (zaf (zak (pe_op zbN (pv 2) (pv 1))))))
   zaA)
   (zac (sE 3 zbs.nd (pe_op zaL (pe_op zbl (pe_op zbN (pe_ix zas (pv 0) zae (λ_ _=>rfl)) zae) zae) (pe_op zbl (pe_op zbl zae (pe_ix zas (pv 0) zae (λ_ _=>rfl))) (pe_ix zas (pv 0) zae (λ_ _=>rfl)))))
   (zac (sE 3 zbs.nd (pe_op zbN (pe_op zaL (pe_op zaL (pv 3) (pe_op zbl zae (pe_ix zas (pv 0) zae (λ_ _=>rfl)))) zae) zae))
   (zac (sE 3 zbs.nd (pe_op zbN (pe_op zaL (pe_op zaL (pe_op zbl (pv 3) (pv 3)) (pe_op zbl zae (pv 3))) (pe_ix zas (pv 0) zae (λ_ _=>rfl))) zae))
   (zaf (zak (pe_op zbN (pe_op zlm (pv 3) zae) (pv 1))))))))),?_⟩
  refine⟨_,rfl,p,_,_,_,rfl,rfl,SqL.of hp,zai (j:=1) rfl,_,_,rfl,rfl,_,rfl,p,_,_,1,rfl,rfl,hp,rfl,?_⟩;have h1:upd H p (.lst [.int c,.int (t+1)]) p=some (.lst [.int c,.int (t+1)]):=zaa;have hmod:∀z:Int,0<=z % b/\z % b<b:=λz=>⟨Int.emod_nonneg _ (by lia),Int.emod_lt_of_pos _ hb⟩
  refine⟨_,rfl,p,_,_,_,rfl,rfl,SqL.of h1,zai (j:=0) rfl,c,rfl,_,_,rfl,rfl,(by refine cpow ?_;decide),_,_,rfl,rfl,_,rfl,?_⟩;refine ite2 (λ_=>?_) (λ_=>?_)
  .refine⟨_,rfl,p,_,_,_,rfl,rfl,SqL.of h1,zai (j:=0) rfl,c,rfl,_,_,rfl,rfl,(by refine cpow ?_;decide),_,_,rfl,rfl,?_⟩;refine⟨_,_,rfl,rfl,(by refine cpow ?_;decide),_,rfl,_,rfl,_,_,rfl,rfl,⟨hb,hlog⟩,_,_,rfl,rfl,_,rfl,p,_,_,0,rfl,rfl,h1,rfl,?_⟩;refine⟨_,rfl,_,rfl,_,_,rfl,rfl,hb,?_⟩;rw[zkZ];exact k _ _ (hmod _).1 (hmod _).2
  .refine⟨_, rfl, p, _, _, _, rfl, rfl, SqL.of h1, zai (j := 0) rfl, _, _, rfl, rfl, (by show (0:Int) < 2147483647; decide), _, _, rfl, rfl, .inr ⟨by decide, by decide⟩,
    _,rfl,p,_,_,_,rfl,rfl,SqL.of h1,zai (j:=1) rfl,_,_,rfl,rfl,.inl ⟨by decide,by decide⟩,_,rfl,p,_,_,_,rfl,rfl,SqL.of h1,zai (j:=1) rfl,_,_,rfl,rfl,.inr ⟨by lia,by lia⟩,_,_,rfl,rfl,?_⟩
   refine⟨_,rfl,_,rfl,p,_,_,_,rfl,rfl,SqL.of h1,zai (j:=1) rfl,_,_,rfl,rfl,.inl ⟨by decide,by decide⟩,_,_,rfl,rfl,_,_,rfl,rfl,_,_,rfl,rfl,(by show (0:Int)<2147483629;decide),?_⟩
   refine⟨_,rfl,_,rfl,_,_,rfl,rfl,.inl ⟨Int.lt_of_lt_of_le (show (-(2 ^ 64):Int)<0 by decide) (Int.emod_nonneg _ (by decide)),Int.lt_trans (Int.emod_lt_of_pos _ (by decide)) (by decide)⟩,_,rfl,_,_,rfl,rfl,.inl ⟨by decide,by decide⟩,_,_,rfl,rfl,
    _,rfl,p,_,_,_,rfl,rfl,SqL.of h1,zai (j:=1) rfl,_,_,rfl,rfl,_,_,rfl,rfl,(by show (0:Int)<2147483587;decide),?_⟩
   refine⟨_,rfl,_,_,rfl,rfl,⟨by decide,by decide⟩,_,rfl,_,_,rfl,rfl,hb,?_⟩;exact k _ _ (hmod _).1 (hmod _).2
noncomputable def HasB(H:Hp)(p:Addr)(n:Nat):Prop:=∃c t:Int,H p=some (.lst [.int c,.int t])/\0<=t/\t+n<2 ^ 40
theorem HasB.le{H:Hp}{p:Addr}{n m:Nat}(h:HasB H p n)(hm:m<=n):HasB H p m:=let ⟨c,t,e,a,b⟩:=h;⟨c,t,e,a,by lia⟩
theorem HasB.same{H H':Hp}{p:Addr}{n:Nat}(h:HasB H p n)(s:Same H H'):HasB H' p n:=let ⟨c,t,e,a,b⟩:=h;⟨c,t,s _ _ e,a,b⟩
noncomputable def But(H H':Hp)(p:Addr):Prop:=∀z o,z≠p->H z=some o->H' z=some o
theorem But.refl(H:Hp)(p:Addr):But H H p:=λ_ _ _ h=>h
theorem But.trans{H H1 H2:Hp}{p:Addr}(a:But H H1 p)(b:But H1 H2 p):But H H2 p:=λz o hz h=>b z o hz (a z o hz h)
theorem But.of{H H1:Hp}{p:Addr}(a:Same H H1):But H H1 p:=λz o _ h=>a z o h
theorem But.free{H H1:Hp}{p q:Addr}{n:Nat}(a:But H H1 p)(h:HasB H p n)(hq:H1 q=none)(hp:HasB H1 p 0):H q=none:=by
 obtain⟨c,t,e,_⟩:=hp;have hne:q≠p:=λz=>by subst z;rw[e]at hq;cases hq
 cases x:H q with
 |none=>rfl
 |some o=>rw[a q o hne x]at hq;cases hq
theorem But.kt{H H1:Hp}{p:Addr}{n:Nat}(a:But H H1 p)(h:HasB H p n):KT H H1:=λb xs e=>by obtain⟨c,t,ep,_⟩:=h;exact a b _ (ne_of e ep (λz=>nomatch z)) e
theorem zjW{A:Prop}{D:Int->Hp->Prop}(C:Int->Hp->Prop)(g:(∀n H1,D n H1->C n H1)->A)(h:∀n H1,D n H1->C n H1):A:=g h
theorem zaJ{b:Int}(h0:0<b)(h:b<=1000):b.natAbs.log2<9000:=by refine (Nat.log2_lt (by lia)).mpr (AB (show b.natAbs<2 ^ 10 by lia) (C4 (by decide) (by decide)))
noncomputable def spTk:Sp:=λvs H Q _=>∃(p:Addr) (n:Nat) (b:Int),vs=[.ref p,.int b]/\HasB H p (n+1)/\0<b/\b.natAbs.log2<9000/\∀(r:Int) (H':Hp),0<=r->r<b->But H H' p->HasB H' p n->Q (.int r) H'
theorem tk_of {f:Addr}{fd:Bu}(h:FnOk P w K mg base CX0 1 f fd ["_law_pen","_law_base"] zkz):FnOk P w K mg base CX0 1 f fd ["_law_pen","_law_base"] spTk:=by
 refine h.imp λvs H Q E h=>?_
 obtain⟨p,n,b,rfl,⟨c,t,e,h0,h1⟩,hb,hl,k⟩:=h;refine⟨p,t,b,rfl,⟨c,e,h0,by lia⟩,hb,hl,λr c' h2 h3=>k r _ h2 h3 (λz o hz h=>by rw[zal hz];exact h) ⟨c',t+1,zaa,by lia,by lia⟩⟩
noncomputable abbrev Tk (P:AH) (w:AZ) (K:W.Frag) (mg:Str->Option Ad) (base:Heap):=Fn P w K mg base 1 "_law_take" ["_law_pen","_law_base"] spTk
noncomputable def spFar:Sp:=λvs H Q _=>∃(p:Addr) (n:Nat),vs=[.ref p]/\HasB H p (n+3)/\∀(r:Int) (H':Hp),-(2 ^ 104)<r/\r<2 ^ 104->But H H' p->HasB H' p n->Q (.int r) H'
theorem atI3{a b c:V}{n:Int}(h0:0<=n)(h3:n<3):∃v,atI [a,b,c] n=some v/\(v=a∨v=b∨v=c):=by
 have:n=0∨n=1∨n=2:=by lia
 rcases this with rfl |rfl |rfl
 .exact⟨a,rfl,.inl rfl⟩
 .exact⟨b,rfl,.inr (.inl rfl)⟩
 .exact⟨c,rfl,.inr (.inr rfl)⟩
theorem zh0 (g__law_take:Tk P w K mg base) (d:Df K mg "_law_far" zc9 ["_law_pen"]):FnOk P w K mg base CX0 2 d.f d.fd ["_law_pen"] spFar:=by
 refine d.F.ok zdL (λvs H Q E h=>?_) (λcdv A outer s H vs Q E hr h=>?_)
 .obtain⟨p,n,rfl,_⟩:=h;rfl
 .obtain⟨p,n,rfl,hp,k⟩:=h
  refine⟨_,(zac (sE 1 zdL.nd (pC g__law_take hr (pa_N (pv 0) (pa_C zae zab))))
   (zac (ps_if (zaD op_lt (pv 1) zae (zax _))
   (zaf (zak (pe_ix zas (za0 (pa_C zae (pa_B (pe_op zaI (pC g__law_take hr (pa_N (pv 0) (pa_C zae zab))) zae) (pa_B (pe_op zaI (pC g__law_take hr (pa_N (pv 0) (pa_C zae zab))) zae) zab)))) (pv 1) (λ_ _=>rfl))))
   zaA)
   (zaf (zak (pe_op zaL (pe_op zaI (pC g__law_take hr (pa_N (pv 0) (pa_B (pe_op zaI (pe_op zbl zae (pe_op zey zae zae)) zae) zab))) (pe_op zey zae zae)) zae))))),?_⟩
  refine⟨_,rfl,p,n+2,4,rfl,hp,by decide,zaJ (by decide) (by decide),λr H1 h0 h4 b1 p1=>?_⟩;refine⟨_,rfl,_,_,rfl,rfl,_,rfl,?_⟩;refine ite2 (λhy=>?_) (λhn=>?_)
  .have h3:r<3:=of_decide_eq_true hy;refine⟨_,rfl,p,n+1,41,rfl,p1,by decide,zaJ (by decide) (by decide),λr2 H2 x1 x2 b2 p2=>⟨_,_,rfl,rfl,?_⟩⟩;refine⟨_,rfl,p,n,2000001,rfl,p2,by decide,by decide +kernel,λr3 H3 y1 y2 b3 p3=>⟨_,_,rfl,rfl,three,λl hl=>?_⟩⟩;obtain⟨v,hv,hor⟩:=atI3 (a:=.int 0) (b:=.int (r2-20)) (c:=.int (r3-1000000)) h0 h3;refine⟨_,rfl,l,_,_,v,rfl,rfl,SqL.of zaa,hv,?_⟩;have fin:∀z:Int,-(2 ^ 104)<z/\z<2 ^ 104->Q (.int z) (upd H3 l (.lst [.int 0,.int (r2-20),.int (r3-1000000)])):=λz hz=>k z _ hz ((b1.trans (b2.trans b3)).trans (But.of (Same.up hl))) (p3.same (Same.up hl))
   rcases hor with z |z |z <;> rw[z] <;> exact fin _ (by lia)
  .refine⟨_,rfl,_,_,rfl,rfl,(by refine cpow ?_;decide),_,_,rfl,rfl,.inl ⟨by decide,by decide⟩,_,_,rfl,rfl,p,n+1,_,rfl,p1,(by decide),(by decide +kernel),λr2 H2 x1 x2 b2 p2=>?_⟩;refine⟨_,_,rfl,rfl,(by refine cpow ?_;decide),_,_,rfl,rfl,_,_,rfl,rfl,?_⟩;refine k _ _ ?_ (b1.trans b2) (p2.le (by lia))
   have x2':r2<2*10 ^ 30-799:=x2;show -(2 ^ 104)<r2-10 ^ 30+400/\r2-10 ^ 30+400<2 ^ 104;lia
noncomputable def zio:Sp:=λvs H Q _=>∃(p:Addr) (n:Nat) (way x y wd hg:Int),vs=[.ref p,.int way,.int x,.int y,.int wd,.int hg]/\0<=way/\HasB H p (n+1)/\∀(b:Bool) (H':Hp),But H H' p->HasB H' p n->Q (.bl b) H'
theorem zdW (T:Txt P w K mg) (g__law_take:Tk P w K mg base) (d:Df K mg "_law_is_there" zbH ["_law_pen", "_law_way", "_law_x", "_law_y", "_law_wide", "_law_high"]) :
  FnOk P w K mg base CX0 2 d.f d.fd ["_law_pen","_law_way","_law_x","_law_y","_law_wide","_law_high"] zio:=by
 refine d.F.ok zdm (λvs H Q E h=>?_) (λcdv A outer s H vs Q E hr h=>?_)
 .obtain⟨p,n,way,x,y,wd,hg,rfl,_⟩:=h;rfl
 .obtain⟨p,n,way,x,y,wd,hg,rfl,hw,hp,k⟩:=h
  refine⟨_,(zac (ps_if (zaD op_eq (pv 1) zae (zax _))
   (zaf (zak pe_bl))
   zaA)
   (zac (ps_if (zaD op_lt (pv 1) zae (zax _))
   (zaf (zak (za2 op_lt (pC g__law_take hr (pa_N (pv 0) (zah (pe_ix zas (za0 (pa_C zae (pa_C zae (pa_C zae zab)))) (pe_op zaI (pv 1) zae) (λ_ _=>rfl)) zab))) (pe_ix zas (za0 (pa_C zae (pa_C zae (pa_C zae zab)))) (pe_op zaI (pv 1) zae) (λ_ _=>rfl)) (zax _))))
   zaA)
   (zac (ps_if (zaD op_eq (pv 1) zae (zax _))
   (zaf (zak (za2 op_eq (pe_op zbN (zam (zjE rfl) (by rfl) T.nmin (by rfl) (pa_N (pv 2) (pa_N (pv 3) (pa_B (pe_op zaI (pe_op zaI (pv 4) zae) (pv 2)) (pa_B (pe_op zaI (pe_op zaI (pv 5) zae) (pv 3)) zab))))) zae) zae (zax _))))
   zaA)
   (zaf (zak (pe_or (za2 op_eq (pe_op zbN (pe_op zaL (pv 2) (pv 3)) zae) zae (zax _)) (zfK (za2 op_eq (pC g__law_take hr (pa_N (pv 0) (pa_C zae zab))) zae (zax _))))))))),?_⟩
  have fin:∀b,Q (.bl b) H:=λb=>k b H (But.refl _ _) (hp.le (by lia))
  refine⟨_,rfl,rfl,_,rfl,?_⟩;refine ite2 (λ_=>fin _) (λhn0=>?_);refine⟨_,rfl,_,_,rfl,rfl,_,rfl,?_⟩;refine ite2 (λhy=>?_) (λ_=>?_)
  .have h4:way<4:=of_decide_eq_true hy;have hne:way≠0:=λz=>hn0 (by rw[z];rfl)
   refine⟨_,rfl,three,λl hl=>?_⟩;obtain⟨v,hv,hor⟩:=atI3 (a:=V.int 2) (b:=V.int 5) (c:=V.int 4) (n:=way-1) (by lia) (by lia)
   obtain⟨bb,rfl,hb0,hb1⟩:∃bb:Int,v=.int bb/\0<bb/\bb<=1000:=by
    rcases hor with z |z |z
    .exact⟨2,z,by decide,by decide⟩
    .exact⟨5,z,by decide,by decide⟩
    .exact⟨4,z,by decide,by decide⟩
   refine⟨_,rfl,_,_,rfl,rfl,l,_,_,_,rfl,rfl,SqL.of zaa,hv,p,n,bb,rfl,hp.same (Same.up hl),hb0,zaJ hb0 hb1,λr H1 _ _ b1 p1=>?_⟩;refine⟨three,λl2 hl2=>?_⟩;obtain⟨v2,hv2,hor2⟩:=atI3 (a:=V.int 1) (b:=V.int 4) (c:=V.int 1) (n:=way-1) (by lia) (by lia)
   obtain⟨b2,rfl⟩:∃bb:Int,v2=.int bb:=by
    rcases hor2 with z |z |z
    .exact⟨1,z⟩
    .exact⟨4,z⟩
    .exact⟨1,z⟩
   refine⟨_,rfl,_,_,rfl,rfl,l2,_,_,_,rfl,rfl,SqL.of zaa,hv2,_,_,rfl,rfl,?_⟩;exact k _ _ (((But.of (Same.up hl)).trans b1).trans (But.of (Same.up hl2))) (p1.same (Same.up hl2))
  .refine⟨_,rfl,rfl,_,rfl,?_⟩;refine ite2 (λ_=>?_) (λ_=>?_)
   .refine⟨_,rfl,_,rfl,_,rfl,_,_,rfl,rfl,_,rfl,_,_,rfl,rfl,_,rfl,_,_,rfl,rfl,_,rfl,_,_,rfl,rfl,_,_,_,_,rfl,λz=>⟨_,_,rfl,rfl,(by show (0:Int)<2;decide),rfl,fin _⟩⟩
   .refine⟨_,rfl,_,rfl,_,_,rfl,rfl,_,_,rfl,rfl,(by show (0:Int)<2;decide),rfl,_,rfl,?_⟩;refine ite2 (λ_=>fin _) (λ_=>?_);refine⟨_,rfl,p,n,6,rfl,hp,by decide,zaJ (by decide) (by decide),λr H1 _ _ b1 p1=>⟨rfl,k _ _ b1 p1⟩⟩
noncomputable def Bef(cs:List Cell)(x y:Int):Prop:=∀c∈cs,c.2<y∨(c.2=y/\c.1<x)
theorem InOrd.snoc{cs:List Cell}{x y:Int}(h:InOrd cs)(b:Bef cs x y):InOrd (cs++[(x,y)]):=λi c e h1 h2=>by
 have hi:i+1<(cs++[(x,y)]).length:=(Ab.mp h2).1;rw[Al,Cg]at hi;rw[As (by lia)]at h1;rcases A1 (i+1) cs.length with hl |hl
 .rw[As hl]at h2;exact h i c e h1 h2
 .rw[AD hl,show i+1-cs.length=0 by lia]at h2
  cases h2
  have hb:=b c (Ah h1);rw[HT.lexLt_cons];rcases hb with z |⟨z1,z2⟩
  .rw[if_neg (by lia)];exact decide_eq_true z
  .rw[if_pos z1,HT.lexLt_cons,if_neg (by lia)];exact decide_eq_true z2
noncomputable def CellB(c:Cell):Prop:=(-(2 ^ 105)<c.1/\c.1<2 ^ 105)/\-(2 ^ 105)<c.2/\c.2<2 ^ 105
noncomputable def zfD(K:W.Frag):Sp:=λvs H Q _=>∃(p:Addr) (n m:Nat),vs=[.ref p,.int m]/\HasB H p (n+(20+m))/\1<=m/\m<=200 /\
 ∀(a:Addr) (cs:List Cell) (H':Hp),H a=none->But H H' p->HasB H' p n->(∃vs,H' a=some (.lst vs)/\VR vs cs cR H')->InOrd cs->Boxed m cs->cs.length<=m->(∀c∈cs,CellB c)->Q (.ref a) H'
theorem zef (T:Txt P w K mg) (g__law_take:Tk P w K mg base) (g__law_far:Fn P w K mg base 2 "_law_far" ["_law_pen"] spFar)
    (g__law_is_there:Fn P w K mg base 2 "_law_is_there" ["_law_pen","_law_way","_law_x","_law_y","_law_wide","_law_high"] zio) (d:Df K mg "_law_picture" zbS ["_law_pen","_law_most"]) :
    FnOk P w K mg base CX0 3 d.f d.fd ["_law_pen","_law_most"] (zfD K):=by
  refine d.F.ok zaz (λvs H Q E h=>?_) (λcdv A outer s H vs Q E hr h=>?_)
  . obtain⟨p,n,m,rfl,_⟩:=h;rfl
  . obtain⟨p,n,m,rfl,hp,hm1,hm,k⟩:=h
    refine⟨_,(zac (sE 2 zaz.nd (pe_op zaL zae (pC g__law_take hr (pa_N (pv 0) (zah (zhh (zaD op_gt (pv 1) zae (zax _)) (pe_ix zas (za0 (pa_C zae (pa_N (pv 1) zab))) (zdT zf4 (by rfl) T.nint (by rfl) (zah (za2 op_eq (pC g__law_take hr (pa_N (pv 0) (pa_C zae zab))) zae (zax _)) zab)) (λ_ _=>rfl)) (pv 1)) zab)))))
      (zac (sE 3 zaz.nd (pe_op zaL zae (pC g__law_take hr (pa_N (pv 0) (pa_B (pe_op zhj (pv 1) (pv 2)) zab)))))
      (zac (sE 4 zaz.nd (pC g__law_take hr (pa_N (pv 0) (pa_C zae zab))))
      (zac (sE 5 zaz.nd (pC g__law_far hr (pa_N (pv 0) zab)))
      (zac (sE 6 zaz.nd (pC g__law_far hr (pa_N (pv 0) zab)))
      (zac (sE 7 zaz.nd (za0 zab))
      (zac (zbI A3 rfl (zcl (by rfl) T.nrange (pa_N (pv 3) zab)) (nG 8 zaz.nd)
      (zaf (zbI A3 rfl (zcl (by rfl) T.nrange (pa_N (pv 2) zab)) (nG 9 zaz.nd)
      (zaf (ps_if (zbj (pC g__law_is_there hr (pa_N (pv 0) (pa_N (pv 4) (pa_N (pv 9) (pa_N (pv 8) (pa_N (pv 2) (pa_N (pv 3) zab))))))))
      (zaf (zcD (pe_bm Bz BL BM zbJ (pv 7) (pa_T (zaV (pa_B (pe_op zaL (pv 9) (pv 5)) (pa_B (pe_op zaL (pv 8) (pv 6)) zab))) zab))))
      zaA)))))
      (zaf (zak (pv 7)))))))))),?_⟩
    refine zjW (D:=λr H1=>0<=r/\r<m/\But H H1 p/\HasB H1 p (n+(18+m))) ?C (λshare=>?g) ?h
    case g =>
      refine⟨_,rfl,_,rfl,_,_,rfl,rfl,_,rfl,?_⟩;refine ite2 (λhy=>?_) (λhn=>?_)
      . have h12:(12:Int)<m:=of_decide_eq_true hy;refine⟨_,rfl,two,λl hl=>?_⟩;refine⟨_,rfl,p,n+(19+m),4,rfl,(hp.same (Same.up hl)).le (by lia),by decide,zaJ (by decide) (by decide),λr H1 _ _ b1 p1=>?_⟩;refine⟨rfl,.inr ⟨_,rfl,?_⟩⟩;obtain⟨c0,t0,e0,_⟩:=hp;have hlp:l≠p:=λz=>by subst z;rw[e0]at hl;cases hl
        have l1:H1 l=some (.lst [.int 12,.int m]):=b1 _ _ hlp zaa
        obtain⟨v,hv,bb,rfl,hb0,hb1⟩:∃v,atI [V.int 12,V.int (m:Int)] (if decide (V.int r=V.int 0)=true then 1 else 0)=some v/\∃bb:Int,v=.int bb/\0<bb/\bb<=m:=by
          by_cases hz:decide (V.int r=V.int 0)=true
          . rw[if_pos hz];exact⟨_,rfl,m,rfl,by lia,by lia⟩
          . rw[if_neg hz];exact⟨_,rfl,12,rfl,by decide,by lia⟩
        refine⟨l,_,_,_,rfl,rfl,SqL.of l1,hv,p,n+(18+m),bb,rfl,p1.le (by lia),hb0,zaJ hb0 (by lia),λr2 H2 h0 h2 b2 p2=>?_⟩;exact share r2 H2 ⟨h0,by lia,((But.of (Same.up hl)).trans b1).trans b2,p2⟩
      . refine⟨_,rfl,p,n+(18+m),m,rfl,hp.le (by lia),by lia,zaJ (by lia) (by lia),λr2 H2 h0 h2 b2 p2=>?_⟩;exact share r2 H2 ⟨h0,h2,b2,p2⟩
    case h =>
      rintro r H1 ⟨h0,hrm,b1,p1⟩;refine⟨_,_,rfl,rfl,?_⟩;have hwd:0<1+r:=by lia
      obtain⟨W,hW⟩:∃W:Nat,(1+r:Int)=W:=⟨(1+r).toNat,by lia⟩;have hq1:1<=(m:Int) / (1+r):=Int.le_ediv_of_mul_le hwd (by lia);have hq2:(m:Int) / (1+r)<=m:=Int.ediv_le_self _ (by lia);have hq3:(1+r)*((m:Int) / (1+r))<=m:=Int.mul_ediv_self_le (by lia);refine⟨_,rfl,_,rfl,_,rfl,_,_,rfl,rfl,⟨hwd,zaJ hwd (by lia)⟩,p,n+(17+m),_,rfl,p1.le (by lia),by lia,zaJ (by lia) (by lia),λr2 H2 h20 h2 b2 p2=>⟨_,_,rfl,rfl,?_⟩⟩;obtain⟨G,hG⟩:∃G:Nat,(1+r2:Int)=G:=⟨(1+r2).toNat,by lia⟩
      have hWG:W*G<=m:=by
        have h1:(1+r)*(1+r2)<=(1+r)*((m:Int) / (1+r)):=Int.mul_le_mul_of_nonneg_left (by lia) (by lia);rw[hW,hG]at h1;rw[hW]at hq3
        have h2:((W*G:Nat):Int)<=m:=by rw[Int.natCast_mul];lia
        lia
      refine⟨_,rfl,p,n+(16+m),6,rfl,p2.le (by lia),by decide,zaJ (by decide) (by decide),λr3 H3 h30 _ b3 p3=>?_⟩;refine⟨_,rfl,p,n+(13+m),rfl,p3.le (by lia),λdx H4 fx b4 p4=>?_⟩;refine⟨_,rfl,p,n+(10+m),rfl,p4.le (by lia),λdy H5 fy b5 p5=>?_⟩;refine⟨(by show 0<=sizeLine;decide),λq hq=>?_⟩;have b05:But H H5 p:=b1.trans (b2.trans (b3.trans (b4.trans b5)));have hq0:H q=none:=b05.free hp hq (p5.le (by lia))
      have hqp:q≠p:=λz=>by obtain⟨c0,t0,e0,_⟩:=hp;subst z;rw[e0]at hq0;cases hq0
      refine⟨_,rfl,1+r2,rfl,by lia,by lia,?_⟩;have hGn:(1+r2:Int).toNat=G:=by lia
      have hWn:(1+r:Int).toNat=W:=by lia
      rw[hGn]
      refine zbv (lo := 0) (n := G) (λi σ H6 => ∃o8 o9 cs vs, σ = [some (.ref p), some (.int m), some (.int (1 + r)), some (.int (1 + r2)), some (.int r3), some (.int dx), some (.int dy), some (.ref q), o8, o9] /\ But H H6 p /\ HasB H6 p (n + (m-W * i)) /\
          H6 q=some (.lst vs)/\VR vs cs cR H6/\InOrd cs/\(cs.length<=W*i/\(∀c∈cs,dx<=c.1/\c.1<dx+W/\dy<=c.2))/\Bef cs dx (dy+i))
        ⟨_,_,[],[],rfl,b05.trans (But.of (Same.up hq)),(p5.same (Same.up hq)).le (by lia),zaa,VR.nil,(λi c e h=>by simp at h),⟨AV _,λc hc=>by cases hc⟩,(λc hc=>by cases hc)⟩ ?_ ?_
      . rintro i σ H6 hi ⟨o8,o9,cs,vs,rfl,b6,p6,q6,hv,ho,hl,hbf⟩;have hWi:W*i+W<=W*G:=by rw[<- Nat.mul_succ];exact Nat.mul_le_mul_left _ hi
        refine⟨_,rfl,1+r,rfl,by lia,by lia,?_⟩;rw[hWn]
        refine zbv (lo := 0) (n := W) (λj σ H7 => ∃o9 cs vs, σ = [some (.ref p), some (.int m), some (.int (1 + r)), some (.int (1 + r2)), some (.int r3), some (.int dx), some (.int dy), some (.ref q), some (.int (0 + (i:Int))), o9] /\ But H H7 p /\ HasB H7 p (n + (m-(W * i + j))) /\
            H7 q=some (.lst vs)/\VR vs cs cR H7/\InOrd cs/\(cs.length<=W*i+j/\(∀c∈cs,dx<=c.1/\c.1<dx+W/\dy<=c.2))/\Bef cs (dx+j) (dy+i))
          ⟨_,cs,vs,rfl,b6,p6,q6,hv,ho,hl,by simpa using hbf⟩ ?_ ?_
        . rintro j σ H7 hj ⟨o9,cs,vs,rfl,b7,p7,q7,hv,ho,⟨hl,hbox⟩,hbf⟩;refine⟨_,rfl,_,rfl,_,rfl,_,rfl,_,rfl,_,rfl,p,n+(m-(W*i+j+1)),_,_,_,_,_,rfl,h30,p7.le (by lia),λb H8 b8 p8=>⟨_,rfl,?_⟩⟩;have q8:=b8 _ _ hqp q7;have kt8:=b8.kt p7;refine ite2 (λ_=>?_) (λ_=>?_)
          . have hvl:vs.length<=1000:=by rw[hv.1];lia
            refine⟨_,rfl,.inl ⟨rfl,_,SqL.of q8⟩,_,rfl,_,rfl,_,_,rfl,rfl,_,rfl,_,rfl,_,_,rfl,rfl,two,λa ha=>?_⟩;have haq:q≠a:=zao q8 ha;refine⟨q,vs,_,rfl,rfl,(by rw[zal haq];exact q8),zaj hvl,?_⟩
            have hap:a≠p:=λz=>by obtain⟨c0,t0,e0,_⟩:=p8;subst z;rw[e0]at ha;cases ha
            obtain⟨nc,hnc⟩:∃nc:Cell,nc=(dx+(j:Int),dy+(i:Int)):=⟨_,rfl⟩
            have hcell:[V.int (0+(j:Int)+dx),V.int (0+(i:Int)+dy)]=cellT nc:=by rw[hnc];unfold cellT;rw[show 0+(j:Int)+dx=dx+j by lia,show 0+(i:Int)+dy=dy+i by lia]
            rw[hcell];have k2:KT (upd H8 a (.tup (cellT nc))) (upd (upd H8 a (.tup (cellT nc))) q (.lst (vs++[.ref a]))):=KT.lst (xs:=vs) (by rw[zal haq];exact q8);refine⟨_,cs++[nc],vs++[.ref a],rfl,(λz o hz h=>?_),?_,zaa,?_,?_,?_,?_⟩
            . rw[zal (zao h hq0)];exact Same.up ha _ _ (b8 _ _ hz (b7 _ _ hz h))
            . obtain⟨c0,t0,e0,h1,h2⟩:=p8;refine⟨c0,t0,?_,h1,by lia⟩;rw[zal (Bq hqp),zal (Bq hap)];exact e0
            . exact hv.snoc (λx v hx=>hx.kt (kt8.trans ((KT.up ha).trans k2))) ⟨a,rfl,k2 _ _ zaa⟩
            . rw[hnc];exact ho.snoc hbf
            . refine⟨by rw[Al,Cg];lia,λc hc=>?_⟩;rcases A2.mp hc with z |z
              . exact hbox c z
              . rw[AN.mp z,hnc];exact⟨by show dx<=dx+(j:Int);lia,by show dx+(j:Int)<dx+(W:Int);lia,by show dy<=dy+(i:Int);lia⟩
            . intro c hc;rcases A2.mp hc with z |z
              . rcases hbf c z with y |⟨y1,y2⟩
                . exact .inl y
                . exact .inr ⟨y1,by lia⟩
              . rw[AN.mp z,hnc];exact .inr ⟨rfl,by show dx+(j:Int)<dx+((j+1:Nat):Int);lia⟩
          . refine⟨_,cs,vs,rfl,b7.trans b8,p8.le (by lia),q8,hv.mono λx v hx=>hx.kt kt8,ho,⟨by lia,hbox⟩,λc hc=>?_⟩;rcases hbf c hc with y |⟨y1,y2⟩
            . exact .inl y
            . exact .inr ⟨y1,by lia⟩
        . rintro σ H7 ⟨o9,cs,vs,rfl,b7,p7,q7,hv,ho,⟨hl,hbox⟩,hbf⟩;refine⟨_,_,cs,vs,rfl,b7,?_,q7,hv,ho,⟨by rw[Nat.mul_succ];exact hl,hbox⟩,λc hc=>?_⟩
          . rw[Nat.mul_succ];exact p7
          . rcases hbf c hc with y |⟨y1,y2⟩
            . exact .inl (by lia)
            . exact .inl (by lia)
      . rintro σ H6 ⟨o8,o9,cs,vs,rfl,b6,p6,q6,hv,ho,⟨hl,hbox⟩,hbf⟩
        have hcell:∀c∈cs,dx<=c.1/\c.1<dx+W/\dy<=c.2/\c.2<dy+G:=λc hc=>by
          obtain⟨x1,x2,x3⟩:=hbox c hc;refine⟨x1,x2,x3,?_⟩;rcases hbf c hc with y |⟨y1,y2⟩
          . exact y
          . lia
        refine⟨_,rfl,k q cs H6 hq0 b6 (p6.le (by lia)) ⟨_,q6,hv⟩ ho ⟨dx,dy,W,G,hWG,hcell⟩ (by lia) λc hc=>?_⟩;obtain⟨x1,x2,x3,x4⟩:=hcell c hc;have hW2:W<=200:=by lia
        have hG2:G<=200:=by lia
        unfold CellB;lia
noncomputable def zat(c:Cell):List Nat->List Cell
 |[]=>[c]
 |s::ss=>c::zat (go c s) ss
noncomputable def endC(c:Cell)(l:List Nat):Cell:=l.foldl go c
theorem zcY:∀(l:List Nat) (c:Cell) (s:Nat),zat c (l++[s])=zat c l++[go (endC c l) s]
 |[],c,s=>rfl
 |x::l,c,s=>by
  show c::zat (go c x) (l++[s])=(c::zat (go c x) l)++[go (endC (go c x) l) s];rw[zcY l (go c x) s];rfl
theorem zfZ(l:List Nat)(c:Cell)(s:Nat):endC c (l++[s])=go (endC c l) s:=by unfold endC;rw[List.foldl_append];rfl
theorem zbK:∀(l:List Nat) (c:Cell),(zat c l).length=l.length+1
 |[],_=>rfl
 |x::l,c=>by show (zat (go c x) l).length+1=_;rw[zbK l];rfl
theorem zeu:∀(l:List Nat) (c:Cell),(zat c l).getLast?=some (endC c l)
 |[],_=>rfl
 |x::l,c=>by
  show (c::zat (go c x) l).getLast?=some (endC (go c x) l);rw[List.getLast?_cons,zeu l (go c x)];rfl
theorem mv_bd{s:Nat}(hs:s<8):(-1<=(mv s).1/\(mv s).1<=1)/\-1<=(mv s).2/\(mv s).2<=1:=by
 have:s=0∨s=1∨s=2∨s=3∨s=4∨s=5∨s=6∨s=7:=by lia
 rcases this with rfl |rfl |rfl |rfl |rfl |rfl |rfl |rfl <;> decide
noncomputable def Nr(c0:Cell)(k:Int)(z:Cell):Prop:=(-k<=z.1-c0.1/\z.1-c0.1<=k)/\-k<=z.2-c0.2/\z.2-c0.2<=k
theorem zg1:∀(l:List Nat) (c:Cell),(∀s∈l,s<8)->∀z∈zat c l,Nr c l.length z
 |[],c,_,z,hz=>by
  have:z=c:=by simpa[zat]using hz
  subst this;unfold Nr;simp
 |s::l,c,h,z,hz=>by
  rcases Ao.mp hz with rfl |hz
  .unfold Nr;rw[AQ];lia
  .have:=zg1 l (go c s) (λt ht=>h t (Ak _ ht)) z hz;have hm:=mv_bd (h s Aq);have e1:(go c s).1=c.1+(mv s).1:=rfl;have e2:(go c s).2=c.2+(mv s).2:=rfl;unfold Nr at this ⊢;rw[e1,e2]at this;rw[AQ];lia
noncomputable def Flk(sp:List Cell):Prop:=∃c0,∀z∈sp,Nr c0 500 z
noncomputable def Df1(a b:Cell):Prop:=(-1000<=a.1-b.1/\a.1-b.1<=1000)/\-1000<=a.2-b.2/\a.2-b.2<=1000
theorem Flk.df{sp:List Cell}(h:Flk sp){a b:Cell}(ha:a∈sp)(hb:b∈sp):Df1 a b:=by obtain⟨c0,h⟩:=h;have h1:=h a ha;have h2:=h b hb;unfold Nr at h1 h2;unfold Df1;lia
noncomputable def spo(r:Rnd):List Cell:=zat (r.x,r.y) r.row.dropLast
theorem zav(r:Rnd):(spo r).length=r.row.length-1+1:=by unfold spo;rw[zbK,Bt]
theorem zdF{r:Rnd}(h8:∀s∈r.row,s<8)(hl:r.row.length<=480):Flk (spo r):=⟨(r.x,r.y),λz hz=>by have:=zg1 _ _ (λs hs=>h8 s (List.dropLast_subset _ hs)) z hz;rw[Bt]at this;unfold Nr at this ⊢;lia⟩
noncomputable def alg(s a b:Cell):Int:=(a.1-s.1)*(b.1-s.1)+(a.2-s.2)*(b.2-s.2)
noncomputable def acr(s a b:Cell):Int:=(a.1-s.1)*(b.2-s.2)-(a.2-s.2)*(b.1-s.1)
noncomputable def clo(c s e:Cell)(B:Int):Bool:=if alg s e c<=0 then decide (alg s c c<=B) else if alg e s c<=0 then decide (alg e c c<=B) else decide (acr s e c ^ 2<=B*alg s e e)
theorem zkM{a b m n:Int}(h1:-m<=a)(h2:a<=m)(h3:-n<=b)(h4:b<=n):-(m*n)<=a*b/\a*b<=m*n:=by
 have hm:0<=m:=by lia
 have hn:0<=n:=by lia
 have k1:(a*b).natAbs<=(m*n).natAbs:=by rw[Int.natAbs_mul,Int.natAbs_mul];exact Nat.mul_le_mul (by lia) (by lia)
 have k2:0<=m*n:=CK hm hn;lia
theorem zkX{s a b:Cell}(h1:Df1 a s)(h2:Df1 b s):-2000000<=acr s a b/\acr s a b<=2000000:=by unfold acr;have k1:=zkM h1.1.1 h1.1.2 h2.2.1 h2.2.2;have k2:=zkM h1.2.1 h1.2.2 h2.1.1 h2.1.2;lia
noncomputable def llong(s e:Cell):Int:=(e.1-s.1)*(e.1-s.1)+(e.2-s.2)*(e.2-s.2)
theorem zks(s e:Cell):alg s e e=llong s e:=rfl
theorem zho(s e:Cell):0<=llong s e:=by
 unfold llong
 have h:∀x:Int,0<=x*x:=λx=>by
  rcases Int.le_total 0 x with h |h
  .exact CK h h
  .have:=CK (show 0<=-x by lia) (show 0<=-x by lia)
   rwa [Int.neg_mul_neg]at this
 have:=h (e.1-s.1);have:=h (e.2-s.2);lia
theorem zdr{A B:Int}(h:A+B=0)(ha:0<=A)(hb:0<=B):A=0/\B=0:=by constructor <;> lia
theorem zh5{s e:Cell}(h:llong s e=0):e=s:=by
 unfold llong at h
 have hs:∀x:Int,0<=x*x/\(x*x=0->x=0):=λx=>by
  refine⟨?_,λz=>by rcases Int.mul_eq_zero.mp z with q |q <;> exact q⟩;rcases Int.le_total 0 x with h |h
  .exact CK h h
  .have:=CK (show 0<=-x by lia) (show 0<=-x by lia)
   rwa [Int.neg_mul_neg]at this
 have h1:=hs (e.1-s.1);have h2:=hs (e.2-s.2);have z:=zdr h h1.1 h2.1;have z1:=h1.2 z.1;have z2:=h2.2 z.2;exact Prod.ext (by lia) (by lia)
noncomputable def ziz:Sp:=λvs H Q _=>∃(u v t:V) (s a b:Cell),vs=[u,v,t]/\cR s u H/\cR a v H/\cR b t H/\Df1 a s/\Q (.int (alg s a b)) H
noncomputable def zeR:Sp:=λvs H Q _=>∃(u v t:V) (s a b:Cell),vs=[u,v,t]/\cR s u H/\cR a v H/\cR b t H/\Df1 a s/\Q (.int (acr s a b)) H
theorem Df1.m1{a b:Cell}(h:Df1 a b):-(2 ^ 64)<a.1-b.1/\a.1-b.1<2 ^ 64:=by unfold Df1 at h;lia
theorem Df1.m2{a b:Cell}(h:Df1 a b):-(2 ^ 64)<a.2-b.2/\a.2-b.2<2 ^ 64:=by unfold Df1 at h;lia
theorem zke (d:Df K mg "along" zgv ["start","one","other"]):FnOk P w K mg base CX0 1 d.f d.fd ["start","one","other"] ziz:=by
 refine d.F.ok zjZ (λvs H Q E h=>?_) (λcdv A outer s H vs Q E hr h=>?_)
 .obtain⟨u,v,t,s,a,b,rfl,_⟩:=h;rfl
 .obtain⟨u,v,t,s,a,b,rfl,⟨x,rfl,qx⟩,⟨y,rfl,qy⟩,⟨z,rfl,qz⟩,hd,k⟩:=h;refine⟨_,(zaf (zak (pe_op zaL (pe_op zbl (pe_op zaI (pe_ix zay (pv 1) zae (λ_ _=>rfl)) (pe_ix zay (pv 0) zae (λ_ _=>rfl))) (pe_op zaI (pe_ix zay (pv 2) zae (λ_ _=>rfl)) (pe_ix zay (pv 0) zae (λ_ _=>rfl)))) (pe_op zbl (pe_op zaI (pe_ix zay (pv 1) zae (λ_ _=>rfl)) (pe_ix zay (pv 0) zae (λ_ _=>rfl))) (pe_op zaI (pe_ix zay (pv 2) zae (λ_ _=>rfl)) (pe_ix zay (pv 0) zae (λ_ _=>rfl))))))),?_⟩;refine⟨_,rfl,y,_,_,_,rfl,rfl,SqT.of qy,zai (j:=0) rfl,_,rfl,x,_,_,_,rfl,rfl,SqT.of qx,zai (j:=0) rfl,_,_,rfl,rfl,?_⟩;refine⟨_,rfl,z,_,_,_,rfl,rfl,SqT.of qz,zai (j:=0) rfl,_,rfl,x,_,_,_,rfl,rfl,SqT.of qx,zai (j:=0) rfl,_,_,rfl,rfl,_,_,rfl,rfl,.inl hd.m1,?_⟩;refine⟨_,rfl,y,_,_,_,rfl,rfl,SqT.of qy,zai (j:=1) rfl,_,rfl,x,_,_,_,rfl,rfl,SqT.of qx,zai (j:=1) rfl,_,_,rfl,rfl,?_⟩;refine⟨_,rfl,z,_,_,_,rfl,rfl,SqT.of qz,zai (j:=1) rfl,_,rfl,x,_,_,_,rfl,rfl,SqT.of qx,zai (j:=1) rfl,_,_,rfl,rfl,_,_,rfl,rfl,.inl hd.m2,?_⟩;exact⟨_,_,rfl,rfl,k⟩
theorem ziY (d:Df K mg "across" zeY ["start","one","other"]):FnOk P w K mg base CX0 1 d.f d.fd ["start","one","other"] zeR:=by
 refine d.F.ok ziE (λvs H Q E h=>?_) (λcdv A outer s H vs Q E hr h=>?_)
 .obtain⟨u,v,t,s,a,b,rfl,_⟩:=h;rfl
 .obtain⟨u,v,t,s,a,b,rfl,⟨x,rfl,qx⟩,⟨y,rfl,qy⟩,⟨z,rfl,qz⟩,hd,k⟩:=h;refine⟨_,(zaf (zak (pe_op zaI (pe_op zbl (pe_op zaI (pe_ix zay (pv 1) zae (λ_ _=>rfl)) (pe_ix zay (pv 0) zae (λ_ _=>rfl))) (pe_op zaI (pe_ix zay (pv 2) zae (λ_ _=>rfl)) (pe_ix zay (pv 0) zae (λ_ _=>rfl)))) (pe_op zbl (pe_op zaI (pe_ix zay (pv 1) zae (λ_ _=>rfl)) (pe_ix zay (pv 0) zae (λ_ _=>rfl))) (pe_op zaI (pe_ix zay (pv 2) zae (λ_ _=>rfl)) (pe_ix zay (pv 0) zae (λ_ _=>rfl))))))),?_⟩;refine⟨_,rfl,y,_,_,_,rfl,rfl,SqT.of qy,zai (j:=0) rfl,_,rfl,x,_,_,_,rfl,rfl,SqT.of qx,zai (j:=0) rfl,_,_,rfl,rfl,?_⟩;refine⟨_,rfl,z,_,_,_,rfl,rfl,SqT.of qz,zai (j:=1) rfl,_,rfl,x,_,_,_,rfl,rfl,SqT.of qx,zai (j:=1) rfl,_,_,rfl,rfl,_,_,rfl,rfl,.inl hd.m1,?_⟩;refine⟨_,rfl,y,_,_,_,rfl,rfl,SqT.of qy,zai (j:=1) rfl,_,rfl,x,_,_,_,rfl,rfl,SqT.of qx,zai (j:=1) rfl,_,_,rfl,rfl,?_⟩;refine⟨_,rfl,z,_,_,_,rfl,rfl,SqT.of qz,zai (j:=0) rfl,_,rfl,x,_,_,_,rfl,rfl,SqT.of qx,zai (j:=0) rfl,_,_,rfl,rfl,_,_,rfl,rfl,.inl hd.m2,?_⟩;exact⟨_,_,rfl,rfl,k⟩
noncomputable def zix(K:W.Frag):Sp:=λvs H Q _=>∃(u v t:V) (sd:Addr) (c s e:Cell) (B:Int),vs=[u,.ref sd,.int B]/\H sd=some (.tup [v,t])/\cR c u H/\cR s v H/\cR e t H/\Df1 c s/\Df1 c e/\Df1 e s/\Df1 s e/\0<=B/\B<=1000000/\Q (.bl (clo c s e B)) H
theorem zgI (g_along:Fn P w K mg base 1 "along" ["start","one","other"] ziz) (g_across:Fn P w K mg base 1 "across" ["start","one","other"] zeR) (d:Df K mg "is_close" zc6 ["cell","side","bound"]):FnOk P w K mg base CX0 2 d.f d.fd ["cell","side","bound"] (zix K):=by
 refine d.F.ok zcz (λvs H Q E h=>?_) (λcdv A outer s H vs Q E hr h=>?_)
 .obtain⟨u,v,t,sd,c,s,e,B,rfl,_⟩:=h;rfl
 .obtain⟨u,v,t,sd,c,s,e,B,rfl,hsd,hc,hs,he,d1,d2,d3,d4,b0,b1,k⟩:=h
  refine⟨_,(zac (zbw (pv 1) (zbk (by rfl) (zag (nG 3 zcz.nd) (zag (nG 4 zcz.nd) zaw))))
   (zac (ps_if (zaD op_le (pC g_along hr (pa_N (pv 3) (pa_N (pv 4) (pa_N (pv 0) zab)))) zae (zax _))
   (zaf (zak (za2 op_le (pC g_along hr (pa_N (pv 3) (pa_N (pv 0) (pa_N (pv 0) zab)))) (pv 2) (zax _))))
   zaA)
   (zac (ps_if (zaD op_le (pC g_along hr (pa_N (pv 4) (pa_N (pv 3) (pa_N (pv 0) zab)))) zae (zax _))
   (zaf (zak (za2 op_le (pC g_along hr (pa_N (pv 4) (pa_N (pv 0) (pa_N (pv 0) zab)))) (pv 2) (zax _))))
   zaA)
   (zaf (zak (za2 op_le (pe_op zey (pC g_across hr (pa_N (pv 3) (pa_N (pv 4) (pa_N (pv 0) zab)))) zae) (pe_op zbl (pv 2) (pC g_along hr (pa_N (pv 3) (pa_N (pv 4) (pa_N (pv 4) zab))))) (zax _))))))),?_⟩
  refine⟨_,rfl,sd,_,rfl,SqT.of hsd,rfl,_,_,rfl,_,_,rfl,rfl,?_⟩;refine⟨_,rfl,_,rfl,_,rfl,v,t,u,s,e,c,rfl,hs,he,hc,d3,_,_,rfl,rfl,_,rfl,ite2 (λhy=>?_) (λhn=>?_)⟩
  .refine⟨_,rfl,_,rfl,_,rfl,v,u,u,s,c,c,rfl,hs,hc,hc,d1,_,rfl,_,_,rfl,rfl,?_⟩;rw[clo,if_pos (of_decide_eq_true hy)]at k;exact k
  .rw[clo,if_neg (λz=>hn (decide_eq_true z))]at k;refine⟨_,rfl,_,rfl,_,rfl,t,v,u,e,s,c,rfl,he,hs,hc,d4,_,_,rfl,rfl,_,rfl,ite2 (λhy=>?_) (λhn2=>?_)⟩
   .refine⟨_,rfl,_,rfl,_,rfl,t,u,u,e,c,c,rfl,he,hc,hc,d2,_,rfl,_,_,rfl,rfl,?_⟩;rw[if_pos (of_decide_eq_true hy)]at k;exact k
   .rw[if_neg (λz=>hn2 (decide_eq_true z))]at k;have hb:=zkX d3 d1;refine⟨_,rfl,_,rfl,_,rfl,v,t,u,s,e,c,rfl,hs,he,hc,d3,_,_,rfl,rfl,⟨by decide,by decide,by lia⟩,?_⟩;exact⟨_,rfl,_,rfl,_,rfl,_,rfl,v,t,t,s,e,e,rfl,hs,he,he,d3,_,_,rfl,rfl,.inl ⟨by lia,by lia⟩,_,_,rfl,rfl,k⟩
noncomputable def zb4(K:W.Frag):Sp:=λvs H Q _=>∃(v:V) (r:Rnd),vs=[v]/\rR r v H/\(∀s∈r.row,s<8)/\r.row.length<=480/\∀p H' us,H p=none->Same H H'->H' p=some (.lst us)->VR us (spo r) cR H'->Q (.ref p) H'
theorem zhz(row:List Nat):cutV (rowV row) none (some (-1))=rowV row.dropLast:=by
 unfold cutV rowV
 have e:∀n:Nat,HT.sIx n n (some (-1))=n-1:=λn=>by unfold HT.sIx;simp;lia
 rw[e,HT.sIx_none,List.drop_zero,Nat.sub_zero,<- List.map_take,Af,CW]
theorem zfy{A:Prop}{D:Addr->Hp->Prop}(C:Addr->Hp->Prop)(g:(∀n H1,D n H1->C n H1)->A)(h:∀n H1,D n H1->C n H1):A:=g h
theorem zgA (g_gone:Fn P w K mg base 1 "gone" ["x","y","step"] zfE) (d:Df K mg "spots_of" zc3 ["one"]):FnOk P w K mg base CX0 2 d.f d.fd ["one"] (zb4 K):=by
 refine d.F.ok zaP (λvs H Q E h=>?_) (λcdv A outer s H vs Q E hr h=>?_)
 .obtain⟨v,r,rfl,_⟩:=h;rfl
 .obtain⟨v,r,rfl,⟨a,b,rfl,q1,q2⟩,h8,hlen,k⟩:=h
  refine⟨_,(zac (zbw (pv 0) (zbk (by rfl) (zag (nG 1 zaP.nd) (zag (nG 2 zaP.nd) (zag (nG 3 zaP.nd) (zag (nG 4 zaP.nd) zaw))))))
   (zac (sE 5 zaP.nd (za0 (pa_T (zaV (pa_N (pv 2) (pa_N (pv 3) zab))) zab)))
   (zac (zbI A3 rfl (ziO (zbz ziB (pv 4) zck (zbU (pe_un zdA zae)))) (nG 6 zaP.nd)
   (zac (zbw (pC g_gone hr (pa_N (pv 2) (pa_N (pv 3) (pa_N (pv 6) zab)))) (zbk (by rfl) (zag (nG 2 zaP.nd) (zag (nG 3 zaP.nd) zaw))))
   (zaf (zcD (pe_bm Bz BL BM zbJ (pv 5) (pa_T (zaV (pa_N (pv 2) (pa_N (pv 3) zab))) zab))))))
   (zaf (zak (pv 5)))))),?_⟩
  refine⟨_,rfl,a,_,rfl,SqT.of q1,rfl,_,_,rfl,_,_,rfl,_,_,rfl,_,_,rfl,rfl,?_⟩;refine⟨_,rfl,_,rfl,two,λt1 h1=>?_⟩;have s1:=Same.up (o:=.tup [.int r.x,.int r.y]) h1;have e1:upd H t1 (.tup [.int r.x,.int r.y]) t1=some (.tup [.int r.x,.int r.y]):=zaa;generalize upd H t1 (.tup [.int r.x,.int r.y])=H1 at s1 e1;refine⟨(by show 1<=sizeLine;decide),λl hl=>?_⟩;have s2:=Same.up (o:=.lst [.ref t1]) hl;have e2:upd H1 l (.lst [.ref t1]) l=some (.lst [.ref t1]):=zaa;generalize upd H1 l (.lst [.ref t1])=H2 at s2 e2;have s12:=s1.trans s2;have hl0:H l=none:=s1.free hl;have hv2:VR [V.ref t1] (zat (r.x,r.y) (r.row.dropLast.take 0)) cR H2:=VR.cons.mpr ⟨⟨t1,rfl,s2 _ _ e1⟩,VR.nil⟩;refine zfy (D:=λb' H3=>Same H2 H3/\H3 b'=some (.tup (rowV r.row.dropLast))) ?C (λmain=>⟨_,rfl,_,rfl,_,rfl,b,_,rfl,SqT.of (s12 _ _ q2),?w1,?w2⟩) ?h
  case w2 =>
   intro hw b' hb';have s3:=Same.up (o:=.tup (cutV (rowV r.row) none (some (-1)))) hb';have e3:upd H2 b' (.tup (cutV (rowV r.row) none (some (-1)))) b'=some (.tup (cutV (rowV r.row) none (some (-1)))):=zaa;generalize upd H2 b' (.tup (cutV (rowV r.row) none (some (-1))))=H3 at s3 e3 ⊢;rw[zhz]at e3;exact main b' H3 ⟨s3,e3⟩
  case w1 =>
   intro hw;refine main b H2 ⟨Same.refl _,?_⟩
   have h0:r.row.dropLast=r.row:=by
    have h2:=hw.2;unfold HT.sIx rowV at h2;simp only[Af]at h2
    have:r.row.length=0:=by rw[if_pos (by decide)]at h2;lia
    rw[Dx.mp this];rfl
   rw[h0];exact s12 _ _ q2
  rintro b' H3 ⟨s3,hb'⟩;refine⟨b',rfl,⟨_,SqT.of hb'⟩,?_⟩
  refine zgN (K:=K) (a:=b') (xs:=rowV r.row.dropLast) (λj σ H4=>∃o6,σ=[some (.ref a),some (.str r.so),some (.int (endC (r.x,r.y) (r.row.dropLast.take j)).1),some (.int (endC (r.x,r.y) (r.row.dropLast.take j)).2),some (.ref b),some (.ref l),o6]/\Same H H4/\KT H3 H4/\∃us,H4 l=some (.lst us)/\VR us (zat (r.x,r.y) (r.row.dropLast.take j)) cR H4)
   ⟨_,rfl,s12.trans s3,KT.refl _,_,s3 _ _ e2,hv2.mono λx v h=>h.kt (KT.of s3)⟩ (λj σ H4 _ ⟨_,_,_,k4,us,e4,_⟩=>SqT.of (k4 _ _ hb')) ?_ ?_
  .rintro j v σ H4 hj ⟨o6,rfl,s4,k4,us,e4,hv4⟩;unfold rowV at hj;rw[Ap]at hj;obtain⟨n,hn,rfl⟩:=AT.mp hj;have hjl:j<r.row.dropLast.length:=(Ab.mp hn).1;rw[Bt]at hjl;have hul:us.length<=481:=by rw[hv4.1,zbK,Av,Bt];lia
   refine⟨_,rfl,_,rfl,_,rfl,endC (r.x,r.y) (r.row.dropLast.take j),n,rfl,h8 n (List.dropLast_subset _ (Ah hn)),λt H5 ht s5 e5=>?_⟩;refine⟨t,_,rfl,SqT.of e5,rfl,_,_,rfl,_,_,rfl,rfl,?_⟩;have e45:=s5 _ _ e4;refine⟨_,rfl,.inl ⟨rfl,_,SqL.of e45⟩,_,rfl,_,rfl,two,λt6 h6=>?_⟩;have s6:=Same.up (o:=.tup [.int (go (endC (r.x,r.y) (r.row.dropLast.take j)) n).1,.int (go (endC (r.x,r.y) (r.row.dropLast.take j)) n).2]) h6;have r6:cR (go (endC (r.x,r.y) (r.row.dropLast.take j)) n) (.ref t6) (upd H5 t6 (.tup [.int (go (endC (r.x,r.y) (r.row.dropLast.take j)) n).1,.int (go (endC (r.x,r.y) (r.row.dropLast.take j)) n).2])):=⟨t6,rfl,zaa⟩;generalize upd H5 t6 (.tup [.int (go (endC (r.x,r.y) (r.row.dropLast.take j)) n).1,.int (go (endC (r.x,r.y) (r.row.dropLast.take j)) n).2])=H6 at s6 r6;have e6:=s6 _ _ e45;refine⟨l,us,_,rfl,rfl,e6,zaj (by lia),?_⟩;rw[zaq hn,zfZ,zcY];exact⟨_,rfl,zap hl0 (s4.trans (s5.trans s6)),(k4.trans (KT.of (s5.trans s6))).trans (KT.lst e6),_,zaa,hv4.snoc (λx v h=>(h.kt (KT.of (s5.trans s6))).kt (KT.lst e6)) (r6.kt (KT.lst e6))⟩
  .rintro σ H4 ⟨o6,rfl,s4,k4,us,e4,hv4⟩;rw[show (rowV r.row.dropLast).length=r.row.dropLast.length by unfold rowV;rw[Af],AW]at hv4;exact⟨_,rfl,k l H4 us hl0 s4 e4 hv4⟩
theorem VR.drop{α:Type}{vs:List V}{l:List α}{R:α->V->Hp->Prop}{H:Hp}(h:VR vs l R H)(j:Nat):VR (vs.drop j) (l.drop j) R H:=by refine⟨by rw[AS,AS,h.1],λi x v h1 h2=>?_⟩;rw[BD]at h1 h2;exact h.2 _ x v h1 h2
theorem VR.take{α:Type}{vs:List V}{l:List α}{R:α->V->Hp->Prop}{H:Hp}(h:VR vs l R H)(j:Nat):VR (vs.take j) (l.take j) R H:=by
 refine⟨by rw[Av,Av,h.1],λi x v h1 h2=>?_⟩;rw[Dv]at h1 h2;split at h1
 .rw[if_pos (by assumption)]at h2;exact h.2 _ x v h1 h2
 .cases h1
noncomputable def pR(p:Nat×Nat)(v:V)(H:Hp):Prop:=∃b,v=.ref b/\H b=some (.tup [.int p.1,.int p.2])
theorem pR.kt{c:Nat×Nat}{v:V}{H H':Hp}(h:pR c v H)(s:KT H H'):pR c v H':=let ⟨b,e,q⟩:=h;⟨b,e,s _ _ q⟩
noncomputable def nxs(ks:List Nat)(n:Nat):List Nat:=ks.drop 1++[n]
theorem zbb{ks:List Nat}(h:ks≠[])(n:Nat):(nxs ks n).length=ks.length:=by
 cases ks with
 |nil=>exact absurd rfl h
 |cons a l=>simp[nxs]
noncomputable def Good(ks:List Nat)(n:Nat):Prop:=ks≠[]/\ks.length<=481/\∀(m:Nat) i j,ks[m]?=some i->(nxs ks n)[m]?=some j->i<j/\j<=n
noncomputable def Str1(sp:List Cell)(B:Int)(i j:Nat):Prop:=∀t,i<t->t<j->clo (sp.getD t (0,0)) (sp.getD i (0,0)) (sp.getD (j % sp.length) (0,0)) B=true
noncomputable def Near(sp:List Cell)(B:Int)(ks:List Nat):Prop:=∀(m:Nat) i j,ks[m]?=some i->(nxs ks sp.length)[m]?=some j->Str1 sp B i j
theorem zbq{α:Type}{l:List α}{i:Nat}{d:α}(h:i<l.length):l.getD i d∈l:=by unfold List.getD;rw[Aa h];exact A7 h
theorem getD_some{α:Type}{l:List α}{i:Nat}{d:α}(h:i<l.length):l[i]?=some (l.getD i d):=by unfold List.getD;rw[Aa h];rfl
theorem zlI{sp:List Cell}{i j:Nat}(hj:j<=sp.length)(f:Cell->Bool):(((sp.drop (i+1)).take (j-(i+1))).map f).all id=true ↔ ∀t,i<t->t<j->f (sp.getD t (0,0))=true:=by
 rw[Da];constructor
 .intro h t h1 h2;refine h _ (AF.mpr ⟨_,Ah (i:=t-(i+1)) ?_,rfl⟩);rw[Dv,if_pos (by lia),BD,show i+1+(t-(i+1))=t by lia];exact getD_some (by lia)
 .intro h b hb;obtain⟨c,hc,rfl⟩:=AF.mp hb;obtain⟨m,hm⟩:=List.getElem?_of_mem hc;rw[Dv]at hm;split at hm
  .rw[BD]at hm;have hl:=(Ab.mp hm).1;have:=h (i+1+m) (by lia) (by lia);rw[getD_some (d:=(0,0)) hl]at hm
   cases hm
   exact this
  .cases hm
theorem zlH{us:List V}{i j:Nat}(h1:i+1<=us.length)(h2:j<=us.length):cutV us (some ((i:Int)+1)) (some (j:Int))=(us.drop (i+1)).take (j-(i+1)):=by unfold cutV;rw[show (i:Int)+1=((i+1:Nat):Int) by lia,HT.sIx_nat,HT.sIx_nat,Nat.min_eq_left h1,Nat.min_eq_left h2]
noncomputable def ziv(K:W.Frag):Sp:=λvs H Q _=>∃(a kc:Addr) (us:List V) (ks:List Nat),vs=[.ref a,.ref kc]/\SqL K H a us/\SqL K H kc (rowV ks)/\ks≠[]/\ks.length<=481 /\
 ∀S H' ts,H S=none->Same H H'->H' S=some (.lst ts)->VR ts (ks.zip (nxs ks us.length)) pR H'->Q (.ref S) H'
theorem zh2 (T:Txt P w K mg) (d:Df K mg "ends_of" zdP ["spots","corners"]):FnOk P w K mg base CX0 1 d.f d.fd ["spots","corners"] (ziv K):=by
 refine d.F.ok zhT (λvs H Q E h=>?_) (λcdv A outer s H vs Q E hr h=>?_)
 .obtain⟨a,kc,us,ks,rfl,_⟩:=h;rfl
 .obtain⟨a,kc,us,ks,rfl,ha,hk,hne,hlen,k⟩:=h;have hpos:0<ks.length:=CD.mpr hne;have hrl:(rowV ks).length=ks.length:=by unfold rowV;rw[Af]
  refine⟨_,(zaf (zak (zhV (by rfl) T.nlist (by rfl) T.nzip (pa_N (pv 1) (pa_B (pe_op ziV (zbz zc1 (pv 1) (zbU zae) zck) (za0 (zah (zam zan (by rfl) T.nlen (by rfl) (pa_N (pv 0) zab)) zab))) zab))))),?_⟩;refine⟨_,rfl,_,rfl,_,rfl,kc,_,rfl,hk,λp hp=>?_⟩;have s1:=Same.up (o:=.lst (cutV (rowV ks) (some 1) none)) hp;have e1:upd H p (.lst (cutV (rowV ks) (some 1) none)) p=some (.lst (cutV (rowV ks) (some 1) none)):=zaa;generalize upd H p (.lst (cutV (rowV ks) (some 1) none))=H1 at s1 e1 ⊢;rw[show cutV (rowV ks) (some 1) none=(rowV ks).drop 1 from zfh _ (j:=1) (by rw[hrl];lia)]at e1;refine⟨_,rfl,a,_,rfl,.inl (s1.seq ha),(by show 1<=sizeLine;decide),λl hl=>?_⟩;have s2:=Same.up (o:=.lst [.int us.length]) hl;have e2:upd H1 l (.lst [.int us.length]) l=some (.lst [.int us.length]):=zaa;generalize upd H1 l (.lst [.int us.length])=H2 at s2 e2 ⊢;refine⟨p,l,_,_,rfl,rfl,s2 _ _ e1,e2,CM (zaj (by rw[AS,hrl];simp;lia)),λz hz=>?_⟩;have s3:=Same.up (o:=.lst ((rowV ks).drop 1++[.int us.length])) hz;have e3:upd H2 z (.lst ((rowV ks).drop 1++[.int us.length])) z=some (.lst ((rowV ks).drop 1++[.int us.length])):=zaa;generalize upd H2 z (.lst ((rowV ks).drop 1++[.int us.length]))=H3 at s3 e3 ⊢;have s03:=s1.trans (s2.trans s3)
  have en:(rowV ks).drop 1++[V.int us.length]=rowV (nxs ks us.length):=by unfold rowV nxs;rw[Ax,List.map_drop];rfl
  rw[en]at e3
  have hl2:(rowV ks).length=(rowV (nxs ks us.length)).length:=by unfold rowV;rw[Af,Af,zbb hne]
  refine⟨kc,z,_,_,rfl,s03.seq hk,SqL.of e3,hl2,by rw[hrl];lia,λS H' ts hS hk' e' hp'=>?_⟩;refine k S H' ts (s03.free hS) (s03.trans hk') e' ⟨by rw[hp'.1,List.length_zip,hrl,zbb hne,Nat.min_self],λi x v h1 h2=>?_⟩;obtain⟨t,x1,y1,rfl,q1,q2,q3⟩:=hp'.2 i v h2;rw[A4]at h1;unfold rowV at q1 q2;rw[Ap,h1.1]at q1;rw[Ap,h1.2]at q2
  cases q1
  cases q2
  exact⟨t,rfl,q3⟩
noncomputable def zg4(K:W.Frag):Sp:=λvs H Q _=>∃(a:Addr) (us:List V) (i j:Nat) (u v:V),vs=[.ref a,.int i,.int j]/\SqL K H a us/\us[i]?=some u/\us[j % us.length]?=some v/\0<us.length/\∀p,H p=none->Q (.ref p) (upd H p (.tup [u,v]))
theorem zdU (T:Txt P w K mg) (d:Df K mg "side_between" zbQ ["spots","start","end"]):FnOk P w K mg base CX0 1 d.f d.fd ["spots","start","end"] (zg4 K):=by
 refine d.F.ok zdJ (λvs H Q E h=>?_) (λcdv A outer s H vs Q E hr h=>?_)
 .obtain⟨a,us,i,j,u,v,rfl,_⟩:=h;rfl
 .obtain⟨a,us,i,j,u,v,rfl,ha,hi,hj,hpos,k⟩:=h;refine⟨_,(zaf (zak (zaV (zah (pe_ix zas (pv 0) (pv 1) (λ_ _=>rfl)) (zah (pe_ix zas (pv 0) (pe_op zbN (pv 2) (zam zan (by rfl) T.nlen (by rfl) (pa_N (pv 0) zab))) (λ_ _=>rfl)) zab))))),?_⟩;refine⟨_,rfl,_,rfl,a,_,_,_,rfl,rfl,ha,zai hi,?_⟩;refine⟨_,rfl,_,rfl,_,rfl,a,_,rfl,.inl ha,_,_,rfl,rfl,(by show (0:Int)<us.length;lia),a,_,_,_,rfl,rfl,ha,(by rw[<- Int.natCast_emod];exact zai hj),two,λp hp=>k p hp⟩
noncomputable def zdG(K:W.Frag):Sp:=λvs H Q _=>∃(a:Addr) (us:List V) (sp:List Cell) (B:Int) (i j:Nat),vs=[.ref a,.int B,.int i,.int j]/\SqL K H a us/\VR us sp cR H/\Flk sp/\sp.length<=481/\i<j/\j<=sp.length/\0<=B/\B<=1000000 /\
 ∀b H',Same H H'->(b=true ↔ Str1 sp B i j)->Q (.bl b) H'
theorem zcR (T:Txt P w K mg) (g_side_between:Fn P w K mg base 1 "side_between" ["spots", "start", "end"] (zg4 K)) (g_is_close:Fn P w K mg base 2 "is_close" ["cell", "side", "bound"] (zix K))
  (d:Df K mg "is_stretch_near" zaZ ["spots","bound","start","end"]):FnOk P w K mg base CX0 3 d.f d.fd ["spots","bound","start","end"] (zdG K):=by
 refine d.F.ok zbL (λvs H Q E h=>?_) (λcdv A outer s H vs Q E hr h=>?_)
 .obtain⟨a,us,sp,B,i,j,rfl,_⟩:=h;rfl
 .obtain⟨a,us,sp,B,i,j,rfl,ha,hv,hf,hlen,hij,hj,b0,b1,k⟩:=h;have nb0:(["cell","side","bound"]:List Str).Nodup:=by decide +kernel
  refine⟨_,(zac (zcQ (i:=4) zbL.nd (by rfl) (Or.inr rfl) (pC g_side_between hr (pa_N (pv 0) (pa_N (pv 2) (pa_N (pv 3) zab)))))
   (zaf (zak (zam (zb2 rfl) (by rfl) T.nall (by rfl) (zah (zaF (osc:=zad zaZ) (N:=zb3) (N':=["cell","side","bound"]) (sel:=[none,some 4,some 1]) bO (zaB (zbz zc1 (pv 0) (zbU (pe_op zaL (pv 2) zae)) (zbU (pv 3)))) (λ_ _ _ _ _=>(nG 0 nb0)) (λ_ _ _ _ _=>zaE) (λ_ _ _ _ _=>(pC g_is_close hr (pa_N (pv 0) (pa_N (pv 1) (pa_N (pv 2) zab)))))) zab))))),?_⟩
  have hul:=hv.1;have hi:i<sp.length:=by lia
  have hm:j % sp.length<sp.length:=C3 _ (by lia);have hm':j % us.length<us.length:=by rw[hul];exact hm
  obtain⟨u,hu⟩:∃u,us[i]?=some u:=⟨_,Aa (by lia)⟩;obtain⟨v,hw⟩:∃v,us[j % us.length]?=some v:=⟨_,Aa hm'⟩;have hcu:cR (sp.getD i (0,0)) u H:=hv.2 i _ u (getD_some hi) hu;have hcv:cR (sp.getD (j % sp.length) (0,0)) v H:=hv.2 _ _ v (getD_some hm) (by rw[<- hul];exact hw);refine⟨_,rfl,_,rfl,_,rfl,a,us,i,j,u,v,rfl,ha,hu,hw,by lia,λp hp=>?_⟩;have s1:=Same.up (o:=.tup [u,v]) hp;have e1:upd H p (.tup [u,v]) p=some (.tup [u,v]):=zaa;generalize upd H p (.tup [u,v])=H1 at s1 e1 ⊢;refine⟨_,rfl,_,rfl,_,_,rfl,rfl,_,rfl,_,rfl,_,rfl,a,_,rfl,s1.seq ha,λl hl=>?_⟩;have s2:=Same.up (o:=.lst (cutV us (some ((i:Int)+1)) (some (j:Int)))) hl;have e2:upd H1 l (.lst (cutV us (some ((i:Int)+1)) (some (j:Int)))) l=some (.lst (cutV us (some ((i:Int)+1)) (some (j:Int)))):=zaa;generalize upd H1 l (.lst (cutV us (some ((i:Int)+1)) (some (j:Int))))=H2 at s2 e2 ⊢;rw[zlH (by lia) (by lia)]at e2;have hvc:=(hv.drop (i+1)).take (j-(i+1));have hcl:((sp.drop (i+1)).take (j-(i+1))).length<=481:=by rw[Av,AS];lia
  refine⟨l,rfl,⟨_,SqL.of e2⟩,λg hg=>?_⟩;have s02:=s1.trans s2
  refine zar (K:=K) (a:=l) (xs:=(us.drop (i+1)).take (j-(i+1))) (λm σ H3=>∃o,σ=[o,some (.ref p),some (.int B)]/\Same H2 H3/\H3 g=some (.lst (((((sp.drop (i+1)).take (j-(i+1))).take m).map λc=>clo c (sp.getD i (0,0)) (sp.getD (j % sp.length) (0,0)) B).map V.bl)))
   ⟨_,rfl,Same.up hg,zaa⟩ (λm σ H3 _ ⟨_,_,s3,_⟩=>SqL.of (s3 _ _ e2)) ?_ ?_
  .rintro m x σ H3 hx ⟨o,rfl,s3,e3⟩;obtain⟨c,hc,hcx⟩:=hvc.at hx;have hcm:c∈sp:=List.mem_of_mem_drop (List.mem_of_mem_take (Ah hc));have s03:=s02.trans s3;refine gN ?_
   refine⟨_,rfl,_,rfl,_,rfl,x,u,v,p,c,_,_,B,rfl,(s2.trans s3) _ _ e1,hcx.kt (KT.of s03),hcu.kt (KT.of s03),hcv.kt (KT.of s03),hf.df hcm (zbq hi),hf.df hcm (zbq hm),hf.df (zbq hm) (zbq hi),hf.df (zbq hi) (zbq hm),b0,b1,?_⟩;refine⟨_,e3,zaj (by simp;lia),_,rfl,zap hg s3,?_⟩;rw[zaa,zaq hc,Ax,Ax];rfl
  .rintro σ H3 ⟨o,rfl,s3,e3⟩;rw[hvc.1,AW]at e3;exact⟨g,_,rfl,SqL.of e3,k _ H3 (s02.trans s3) (zlI hj _)⟩
theorem zdD{r:Rnd}(hl:r.row.length<=480):(spo r).length<=481:=by rw[zav];lia
noncomputable def zkC(K:W.Frag):Sp:=λvs H Q _=>∃(v:V) (r:Rnd) (B:Int) (kc:Addr) (ks:List Nat),vs=[v,.int B,.ref kc]/\rR r v H/\(∀s∈r.row,s<8)/\r.row.length<=480/\SqL K H kc (rowV ks)/\Good ks (spo r).length/\0<=B/\B<=1000000 /\
 ∀b H',Same H H'->(b=true ↔ Near (spo r) B ks)->Q (.bl b) H'
theorem zh1 (T:Txt P w K mg) (g_spots_of:Fn P w K mg base 2 "spots_of" ["one"] (zb4 K)) (g_is_stretch_near:Fn P w K mg base 3 "is_stretch_near" ["spots", "bound", "start", "end"] (zdG K)) (g_ends_of:Fn P w K mg base 1 "ends_of" ["spots", "corners"] (ziv K))
    (d:Df K mg "is_near" zcP ["one","bound","corners"]):FnOk P w K mg base CX0 4 d.f d.fd ["one","bound","corners"] (zkC K):=by
  refine d.F.ok zex (λvs H Q E h=>?_) (λcdv A outer s H vs Q E hr h=>?_)
  . obtain⟨v,r,B,kc,ks,rfl,_⟩:=h;rfl
  . obtain⟨v,r,B,kc,ks,rfl,hv,h8,hlen,hk,hg,b0,b1,k⟩:=h;have nb0:(["start","end","spots","bound"]:List Str).Nodup:=by decide +kernel
    refine⟨_,(zac (zcQ (i:=3) zex.nd (by rfl) (Or.inr rfl) (pC g_spots_of hr (pa_N (pv 0) zab)))
      (zaf (zak (zam (zb2 rfl) (by rfl) T.nall (by rfl) (zah (zaF (osc:=zad zcP) (N:=zgd) (N':=["start","end","spots","bound"]) (sel:=[none,none,some 3,some 1]) bO (zaB (pC g_ends_of hr (pa_N (pv 3) (pa_N (pv 2) zab)))) (λ_ _ _ _ _=>(za8 (K:=K) (n:=2) (by rfl) (zag (nG 0 nb0) (zag (nG 1 nb0) zaw)))) (λ_ _ _ _ _=>zaE) (λ_ _ _ _ _=>(pC g_is_stretch_near hr (pa_N (pv 2) (pa_N (pv 3) (pa_N (pv 0) (pa_N (pv 1) zab))))))) zab))))),?_⟩
    refine⟨_,rfl,v,r,rfl,hv,h8,hlen,λa H1 us ha s1 e1 hus=>?_⟩;have hul:=hus.1;refine⟨_,rfl,_,rfl,a,kc,us,ks,rfl,SqL.of e1,s1.seq hk,hg.1,hg.2.1,λS H2 ts hS s2 e2 hts=>?_⟩;rw[hul]at hts;have hnl:=zbb hg.1 (spo r).length;have htl:ts.length=ks.length:=by rw[hts.1,List.length_zip,hnl,Nat.min_self]
    refine⟨S,rfl,⟨_,SqL.of e2⟩,λg hg'=>?_⟩
    refine zar (K := K) (a := S) (xs := ts) (λm σ H3 => ∃o0 o1, σ = [o0, o1, some (.ref a), some (.int B)] /\ Same H2 H3 /\ ∃bs:List Bool, H3 g=some (.lst (bs.map V.bl)) /\ bs.length=m /\
        (bs.all id=true ↔ ∀(q:Nat) i j,q<m->ks[q]?=some i->(nxs ks (spo r).length)[q]?=some j->Str1 (spo r) B i j))
      ⟨_,_,rfl,Same.up hg',[],zaa,rfl,by simp⟩ (λm σ H3 _ ⟨_,_,_,s3,_⟩=>SqL.of (s3 _ _ e2)) ?_ ?_
    . rintro m x σ H3 hx ⟨o0,o1,rfl,s3,bs,e3,hbl,hbs⟩;obtain⟨⟨i,j⟩,hij,bx,rfl,qx⟩:=hts.at hx;rw[A4]at hij;obtain⟨h1,h2⟩:=hij;obtain⟨l1,l2⟩:=hg.2.2 m i j h1 h2;have hml:m<ks.length:=(Ab.mp h1).1;refine⟨bx,_,rfl,SqT.of (s3 _ _ qx),rfl,_,_,rfl,_,_,rfl,rfl,?_⟩;refine zbe ?_
      refine⟨_,rfl,_,rfl,_,rfl,_,rfl,a,us,spo r,B,i,j,rfl,SqL.of ((s2.trans s3) _ _ e1),hus.mono λx v h=>h.kt (KT.of (s2.trans s3)),zdF h8 hlen,zdD hlen,l1,l2,b0,b1,λb H4 s4 hb=>?_⟩;have hg1:=hg.2.1;refine⟨_,s4 _ _ e3,zaj (by rw[Af,hbl];lia),_,_,rfl,zap hg' (s3.trans s4),bs++[b],(by rw[zaa,Ax];rfl),(by rw[Al,hbl];rfl),?_⟩;rw[List.all_append,BX,hbs];constructor
      . rintro⟨q1,q2⟩ q i' j' hq h1' h2';rcases A1 q m with z |z
        . exact q1 q i' j' z h1' h2'
        . have:q=m:=by lia
          subst this;rw[h1]at h1';rw[h2]at h2'
          cases h1'
          cases h2'
          exact hb.mp (by simpa using q2)
      . intro hall;refine⟨λq i' j' hq=>hall q i' j' (by lia),?_⟩;have:=hb.mpr (hall m i j (by lia) h1 h2);simp[this]
    . rintro σ H3 ⟨o0,o1,rfl,s3,bs,e3,hbl,hbs⟩;refine⟨g,bs,rfl,SqL.of e3,k _ H3 (s1.trans (s2.trans s3)) (hbs.trans ⟨λh m i j h1 h2=>?_,λh m i j _ h1 h2=>h m i j h1 h2⟩)⟩;exact h m i j (by rw[htl];exact (Ab.mp h1).1) h1 h2
open PySem L2 RP TH
noncomputable def sideR(s:TH.Side)(v:V)(H:Hp):Prop:=∃A u w,v=.ref A/\H A=some (.tup [u,w])/\cR s.1 u H/\cR s.2 w H
theorem sideR.kt{s:TH.Side}{v:V}{H H':Hp}(h:sideR s v H)(k:KT H H'):sideR s v H':=let ⟨A,u,w,e,h1,h2,h3⟩:=h;⟨A,u,w,e,k _ _ h1,h2.kt k,h3.kt k⟩
noncomputable def Dfs(L:List Cell):Prop:=∀a∈L,∀b∈L,Df1 a b
noncomputable def Dsd(L:List Cell)(s:TH.Side):Prop:=s.1∈L/\s.2∈L
theorem zlr(ks:List Nat)(n:Nat):nxs ks n=bhd ks n:=rfl
noncomputable def zkB:Sp:=λvs H Q _=>∃(v x y:V) (s:TH.Side) (a b:Cell),vs=[v,x,y]/\sideR s v H/\cR a x H/\cR b y H/\Df1 s.2 s.1/\Df1 a s.1/\Df1 b s.1/\Q (.bl (parts s a b)) H
theorem zh3 (g_across:Fn P w K mg base 1 "across" ["start","one","other"] zeR) (d:Df K mg "do_part" zdQ ["side","one","other"]):FnOk P w K mg base CX0 2 d.f d.fd ["side","one","other"] zkB:=by
 refine d.F.ok zc2 (λvs H Q E h=>?_) (λcdv A outer s H vs Q E hr h=>?_)
 .obtain⟨v,x,y,sd,a,b,rfl,_⟩:=h;rfl
 .obtain⟨v,x,y,sd,a,b,rfl,⟨D,u,t,rfl,hD,hu,ht⟩,hx,hy,d1,d2,d3,k⟩:=h
  refine⟨_,(zac (zbw (pv 0) (zbk (by rfl) (zag (nG 3 zc2.nd) (zag (nG 4 zc2.nd) zaw))))
   (zaf (zak (za2 op_lt (pe_op zbl (pC g_across hr (pa_N (pv 3) (pa_N (pv 4) (pa_N (pv 1) zab)))) (pC g_across hr (pa_N (pv 3) (pa_N (pv 4) (pa_N (pv 2) zab))))) zae (zax _))))),?_⟩
  refine⟨_,rfl,D,_,rfl,SqT.of hD,rfl,_,_,rfl,_,_,rfl,rfl,?_⟩;have b1:=zkX d1 d2;refine⟨_,rfl,_,rfl,_,rfl,u,t,x,sd.1,sd.2,a,rfl,hu,ht,hx,d1,?_⟩;refine⟨_,rfl,_,rfl,_,rfl,u,t,y,sd.1,sd.2,b,rfl,hu,ht,hy,d1,?_⟩;refine⟨_,_,rfl,rfl,.inl ⟨by lia,by lia⟩,_,_,rfl,rfl,?_⟩;exact k
noncomputable def zgn:Sp:=λvs H Q _=>∃(v u:V) (s t:TH.Side) (L:List Cell),vs=[v,u]/\sideR s v H/\sideR t u H/\Dfs L/\Dsd L s/\Dsd L t/\Q (.bl (TH.cross s t)) H
theorem zgJ (g_do_part:Fn P w K mg base 2 "do_part" ["side","one","other"] zkB) (d:Df K mg "do_cross" zc7 ["one","other"]):FnOk P w K mg base CX0 3 d.f d.fd ["one","other"] zgn:=by
 refine d.F.ok zgs (λvs H Q E h=>?_) (λcdv A outer s H vs Q E hr h=>?_)
 .obtain⟨v,u,sd,t,L,rfl,_⟩:=h;rfl
 .obtain⟨v,u,sd,t,L,rfl,h1,h2,hL,l1,l2,k⟩:=h;refine⟨_,(zaf (zak (zfN (pC g_do_part hr (pa_N (pv 0) (zah (pe_ix zay (pv 1) zae (λ_ _=>rfl)) (zah (pe_ix zay (pv 1) zae (λ_ _=>rfl)) zab)))) (zfK (pC g_do_part hr (pa_N (pv 1) (zah (pe_ix zay (pv 0) zae (λ_ _=>rfl)) (zah (pe_ix zay (pv 0) zae (λ_ _=>rfl)) zab)))))))),?_⟩;obtain⟨D,p,q,rfl,hD,hp,hq⟩:=id h1;obtain⟨F,x,y,rfl,hF,hx,hy⟩:=id h2;refine⟨_,rfl,_,rfl,F,_,_,_,rfl,rfl,SqT.of hF,zai (j:=0) rfl,_,rfl,F,_,_,_,rfl,rfl,SqT.of hF,zai (j:=1) rfl,?_⟩;refine⟨.ref D,x,y,sd,t.1,t.2,rfl,h1,hx,hy,hL _ l1.2 _ l1.1,hL _ l2.1 _ l1.1,hL _ l2.2 _ l1.1,?_⟩;refine⟨_,rfl,?_⟩;unfold TH.cross at k;refine ite2 (λhy=>?_) (λhn=>?_)
  .refine⟨_,rfl,_,rfl,D,_,_,_,rfl,rfl,SqT.of hD,zai (j:=0) rfl,_,rfl,D,_,_,_,rfl,rfl,SqT.of hD,zai (j:=1) rfl,?_⟩;refine⟨.ref F,p,q,t,sd.1,sd.2,rfl,h2,hp,hq,hL _ l2.2 _ l2.1,hL _ l1.1 _ l2.1,hL _ l1.2 _ l2.1,?_⟩;rw[hy,Bool.true_and]at k;exact k
  .rw[show parts sd t.1 t.2=false by simpa using hn,Bool.false_and]at k;exact k
noncomputable def zis(K:W.Frag):Sp:=λvs H Q _=>∃(v:V) (r:Rnd) (kc:Addr) (ks:List Nat),vs=[v,.ref kc]/\rR r v H/\(∀s∈r.row,s<8)/\r.row.length<=480/\SqL K H kc (rowV ks)/\Good ks (spo r).length /\
 ∀p H' us,H p=none->Same H H'->H' p=some (.lst us)->VR us (sds (spo r) ks) sideR H'->Q (.ref p) H'
theorem zgB (T:Txt P w K mg) (g_spots_of:Fn P w K mg base 2 "spots_of" ["one"] (zb4 K)) (g_ends_of:Fn P w K mg base 1 "ends_of" ["spots", "corners"] (ziv K)) (g_side_between:Fn P w K mg base 1 "side_between" ["spots", "start", "end"] (zg4 K))
  (d:Df K mg "sides_of" zcq ["one","corners"]):FnOk P w K mg base CX0 3 d.f d.fd ["one","corners"] (zis K):=by
 refine d.F.ok zdI (λvs H Q E h=>?_) (λcdv A outer s H vs Q E hr h=>?_)
 .obtain⟨v,r,kc,ks,rfl,_⟩:=h;rfl
 .obtain⟨v,r,kc,ks,rfl,hv,h8,hlen,hk,hg,k⟩:=h;have nb0:(["start","end","spots"]:List Str).Nodup:=by decide +kernel
  refine⟨_,(zac (zcQ (i:=2) zdI.nd (by rfl) (Or.inr rfl) (pC g_spots_of hr (pa_N (pv 0) zab)))
   (zaf (zak (zaF (osc:=zad zcq) (N:=zeL) (N':=["start","end","spots"]) (sel:=[none,none,some 2]) bO (zaB (pC g_ends_of hr (pa_N (pv 2) (pa_N (pv 1) zab)))) (λ_ _ _ _ _=>(za8 (K:=K) (n:=2) (by rfl) (zag (nG 0 nb0) (zag (nG 1 nb0) zaw)))) (λ_ _ _ _ _=>zaE) (λ_ _ _ _ _=>(pC g_side_between hr (pa_N (pv 2) (pa_N (pv 0) (pa_N (pv 1) zab))))))))),?_⟩
  refine⟨_,rfl,v,r,rfl,hv,h8,hlen,λa H1 us ha s1 e1 hus=>?_⟩;have hul:=hus.1;refine⟨_,rfl,_,rfl,a,kc,us,ks,rfl,SqL.of e1,s1.seq hk,hg.1,hg.2.1,λS H2 ts hS s2 e2 hts=>?_⟩;rw[hul]at hts;have hnl:=zbb hg.1 (spo r).length;have htl:ts.length=ks.length:=by rw[hts.1,List.length_zip,hnl,Nat.min_self]
  have hpz:ks.zip (nxs ks (spo r).length)=prs (spo r).length ks:=by rw[zlr,zcE]
  have hpos:0<(spo r).length:=by rw[zav];lia
  refine⟨S,rfl,⟨_,SqL.of e2⟩,λg hg'=>?_⟩
  refine zar (K:=K) (a:=S) (xs:=ts) (λm σ H3=>∃o0 o1,σ=[o0,o1,some (.ref a)]/\Same H2 H3/\∃zs,H3 g=some (.lst zs)/\VR zs (((prs (spo r).length ks).take m).map (sdO (spo r))) sideR H3)
   ⟨_,_,rfl,Same.up hg',[],zaa,VR.nil⟩ (λm σ H3 _ ⟨_,_,_,s3,_⟩=>SqL.of (s3 _ _ e2)) ?_ ?_
  .rintro m x σ H3 hx ⟨o0,o1,rfl,s3,zs,e3,hz⟩;obtain⟨⟨i,j⟩,hij,bx,rfl,qx⟩:=hts.at hx;have hij':=hij;rw[A4]at hij;obtain⟨h1,h2⟩:=hij;obtain⟨l1,l2⟩:=hg.2.2 m i j h1 h2;have hml:m<ks.length:=(Ab.mp h1).1;have hgl:=hg.2.1;have hi:i<us.length:=by lia
   have hj:j % us.length<us.length:=C3 _ (by lia);obtain⟨ci,hci,ri⟩:=hus.at (Aa hi);obtain⟨cj,hcj,rj⟩:=hus.at (Aa hj);refine⟨bx,_,rfl,SqT.of (s3 _ _ qx),rfl,_,_,rfl,_,_,rfl,rfl,?_⟩;refine zbe ?_
   refine⟨_,rfl,_,rfl,_,rfl,a,us,i,j,_,_,rfl,SqL.of ((s2.trans s3) _ _ e1),Aa hi,Aa hj,by lia,λp hp=>?_⟩;have s4:=Same.up (o:=.tup [us[i],us[j % us.length]]) hp;have r4:sideR (ci,cj) (.ref p) (upd H3 p (.tup [us[i],us[j % us.length]])):=⟨p,_,_,rfl,zaa,ri.kt (KT.of ((s2.trans s3).trans s4)),rj.kt (KT.of ((s2.trans s3).trans s4))⟩;generalize upd H3 p (.tup [us[i],us[j % us.length]])=H4 at s4 r4;have e4:=s4 _ _ e3;have hzl:zs.length<=481:=by rw[hz.1,Af,Av];lia
   refine⟨zs,e4,zaj (by lia),_,_,rfl,zap hg' (s3.trans s4),_,zaa,?_⟩;rw[hpz]at hij';rw[zaq hij',Ax]
   have eS:sdO (spo r) (i,j)=(ci,cj):=by unfold sdO;simp only;rw[Am,hci,Am,<- hul,hcj];rfl
   refine hz.snoc (λx v h=>(h.kt (KT.of s4)).kt (KT.lst e4)) ?_
   rw[eS];exact r4.kt (KT.lst e4)
  .rintro σ H3 ⟨o0,o1,rfl,s3,zs,e3,hz⟩;rw[AJ (by rw[<- hpz,<- hts.1];exact Ai _)]at hz;exact k g H3 zs ((s1.trans s2).free hg') (s1.trans (s2.trans s3)) e3 hz
noncomputable def thR(ks:List Nat)(v:V)(H:Hp):Prop:=∃c,v=.ref c/\H c=some (.lst (rowV ks))
theorem thR.same{ks:List Nat}{v:V}{H H':Hp}(h:thR ks v H)(s:Same H H'):thR ks v H':=let ⟨c,e,h1⟩:=h;⟨c,e,s _ _ h1⟩
structure Thn (R:List Rnd) (TT:List (List Nat)):Prop where
 len:R.length=TT.length
 few:R.length<=120
 row:∀r∈R,(∀s∈r.row,s<8)/\r.row.length<=480
 crn:∀(i:Nat) r ks,R[i]?=some r->TT[i]?=some ks->Good ks (spo r).length
 all:(allS (R.map spo) TT).length<=900
theorem zga:∀(S:List (List Cell)) (T:List (List Nat)) (i:Nat) (sp:List Cell) (ks:List Nat),S[i]?=some sp->T[i]?=some ks->allS (S.take (i+1)) (T.take (i+1))=allS (S.take i) (T.take i)++sds sp ks
 |[],_,_,_,_,h,_=>by simp at h
 |_::_,[],_,_,_,_,h=>by simp at h
 |sp0::S,ks0::T,0,sp,ks,h1,h2=>by
  simp at h1 h2;subst h1 h2;show sds sp0 ks0++allS [] []=[]++sds sp0 ks0;show sds sp0 ks0++[]=_;simp
 |sp0::S,ks0::T,i+1,sp,ks,h1,h2=>by
  have:=zga S T i sp ks (by simpa using h1) (by simpa using h2);show sds sp0 ks0++allS (S.take (i+1)) (T.take (i+1))=(sds sp0 ks0++allS (S.take i) (T.take i))++_;rw[this,Bs]
theorem zjK:∀(S:List (List Cell)) (T:List (List Nat)) (i:Nat),(allS (S.take i) (T.take i)).length<=(allS S T).length
 |[],_,i=>by cases i <;> exact AV _
 |_::_,[],i=>by cases i <;> exact AV _
 |sp0::S,ks0::T,0=>AV _
 |sp0::S,ks0::T,i+1=>by
  have:=zjK S T i;show (sds sp0 ks0++allS (S.take i) (T.take i)).length<=(sds sp0 ks0++allS S T).length;rw[Al,Al];lia
noncomputable def zc0(K:W.Frag):Sp:=λvs H Q _=>∃(a b:Addr) (rs ts:List V) (R:List Rnd) (TT:List (List Nat)),vs=[.ref a,.ref b]/\H a=some (.lst rs)/\VR rs R rR H/\H b=some (.lst ts)/\VR ts TT thR H/\Thn R TT /\
 ∀p H' us,H p=none->Same H H'->H' p=some (.lst us)->VR us (allS (R.map spo) TT) sideR H'->Q (.ref p) H'
theorem zfS (T:Txt P w K mg) (g_sides_of:Fn P w K mg base 3 "sides_of" ["one","corners"] (zis K)) (d:Df K mg "all_sides" zb9 ["some","thinning"]):FnOk P w K mg base CX0 4 d.f d.fd ["some","thinning"] (zc0 K):=by
 refine d.F.ok zfH (λvs H Q E h=>?_) (λcdv A outer s H vs Q E hr h=>?_)
 .obtain⟨a,b,rs,ts,R,TT,rfl,_⟩:=h;rfl
 .obtain⟨a,b,rs,ts,R,TT,rfl,ha,hR,hb,hT,th,k⟩:=h;have nb0:(["one","corners","side"]:List Str).Nodup:=by decide +kernel
  refine⟨_,(zaf (zak (zfM (osc:=zad zb9) (N:=zd9) (N':=["one","corners","side"]) (sel:=[none,none,none]) bO (zhg (by rfl) T.nzip (pa_N (pv 0) (pa_N (pv 1) zab))) (λ_ _ _ _ _=>(za8 (K:=K) (n:=2) (by rfl) (zag (nG 0 nb0) (zag (nG 1 nb0) zaw)))) (λ_ _ _ _ _=>zaE) (λ_ _ _ _ _=>(zdu (K:=K) (pC g_sides_of hr (pa_N (pv 0) (pa_N (pv 1) zab))))) (λ_ _ _ _ _=>(nG 2 nb0)) (λ_ _ _ _ _=>zaE) (λ_ _ _ _ _=>(pv 2)) (λ_ _ _=>rfl)))),?_⟩;refine⟨_,rfl,_,rfl,a,b,rfl,⟨_,SqL.of ha⟩,⟨_,SqL.of hb⟩,λg hg=>?_⟩;have hle:rs.length=ts.length:=by rw[hR.1,hT.1,th.len]
  refine zfe (K:=K) (a:=a) (b:=b) (xs:=rs) (ys:=ts) (λm σ H3=>∃o0 o1 o2,σ=[o0,o1,o2]/\Same H H3/\∃zs,H3 g=some (.lst zs)/\VR zs (allS ((R.map spo).take m) (TT.take m)) sideR H3)
   ⟨_,_,_,rfl,Same.up hg,[],zaa,VR.nil⟩ (λm σ H3 _ ⟨_,_,_,_,s3,_⟩=>⟨SqL.of (s3 _ _ ha),SqL.of (s3 _ _ hb)⟩) hle ?_ ?_
  .rintro m x y σ H3 t hx hy ⟨o0,o1,o2,rfl,s3,zs,e3,hz⟩ ht;obtain⟨r,hr1,hxr⟩:=hR.at hx;obtain⟨ks,hk1,c,rfl,hc⟩:=hT.at hy;have hgd:=th.crn m r ks hr1 hk1;have hrow:=th.row r (Ah hr1);have hsp:(R.map spo)[m]?=some (spo r):=by rw[Ap,hr1];rfl
   have hat:=zga (R.map spo) TT m _ _ hsp hk1;have hal:=zjK (R.map spo) TT (m+1);have hal9:=th.all;have s4:=Same.up (o:=.tup [x,.ref c]) ht;have e4t:upd H3 t (.tup [x,.ref c]) t=some (.tup [x,.ref c]):=zaa;generalize upd H3 t (.tup [x,.ref c])=H4 at s4 e4t;have s04:=s3.trans s4;refine⟨t,_,rfl,SqT.of e4t,rfl,_,_,rfl,_,_,rfl,rfl,?_⟩;refine zbe ?_
   refine⟨_,rfl,_,rfl,x,r,c,ks,rfl,hxr.kt (KT.of s04),hrow.1,hrow.2,SqL.of (s04 _ _ hc),hgd,λp H5 us hp s5 e5 hus=>?_⟩;refine⟨p,rfl,⟨_,SqL.of e5⟩,?_⟩;have hpg:g≠p:=λq=>by rw[<- q,s4 _ _ e3]at hp;cases hp
   have e5g:=(s4.trans s5) _ _ e3
   refine zar (K:=K) (a:=p) (xs:=us) (λq σ H6=>∃o2,σ=[some x,some (.ref c),o2]/\Same H H6/\H6 p=some (.lst us)/\KT H5 H6/\∃zs,H6 g=some (.lst zs)/\VR zs (allS ((R.map spo).take m) (TT.take m)++(sds (spo r) ks).take q) sideR H6)
    ⟨_,rfl,s04.trans s5,e5,KT.refl _,zs,e5g,by rw[List.take_zero,AX];exact hz.mono λx v h=>h.kt (KT.of (s4.trans s5))⟩ (λq σ H6 _ ⟨_,_,_,e6,_⟩=>SqL.of e6) ?_ ?_
   .rintro q u σ H6 hu ⟨o2,rfl,s6,e6,k6,zs6,e6g,hz6⟩;obtain⟨sd,hsd,hru⟩:=hus.at hu;have hql:q<(sds (spo r) ks).length:=(Ab.mp hsd).1
    have hzl:zs6.length<=900:=by
     have h1:=hz6.1;have h2:=congrArg List.length hat
     rw[Al]at h1 h2;rw[Av]at h1;lia
    refine gN ?_
    refine⟨_,rfl,zs6,e6g,zaj (by lia),_,rfl,zap hg s6,by rw[zal (Bq hpg)];exact e6,k6.trans (KT.lst e6g),_,zaa,?_⟩;rw[zaq hsd,<- Bs];exact hz6.snoc (λx v h=>h.kt (KT.lst e6g)) ((hru.kt k6).kt (KT.lst e6g))
   .rintro σ H6 ⟨o2,rfl,s6,e6,k6,zs6,e6g,hz6⟩;refine⟨_,_,_,rfl,s6,zs6,e6g,?_⟩;rw[hus.1,AW,<- hat]at hz6;exact hz6
  .rintro σ H3 ⟨o0,o1,o2,rfl,s3,zs,e3,hz⟩;rw[AJ (by rw[Af,hR.1];exact Ai _),AJ (by rw[hle,hT.1];exact Ai _)]at hz;exact k g H3 zs hg s3 e3 hz
theorem zd3{A B:List Nat}{c s:Nat}(h1:∀k∈A,k<c)(h2:c<s)(h3:∀k∈B,s<k):(A++c::s::B).filter (λk=>decide (k<s))=A++[c]:=by
 rw[BC];have e1:A.filter (λk=>decide (k<s))=A:=Di.mpr λk hk=>decide_eq_true (by have:=h1 k hk;lia)
 have e2:B.filter (λk=>decide (k<s))=[]:=List.filter_eq_nil_iff.mpr λk hk=>by have:=h3 k hk;simp;lia
 rw[e1,BS (by simpa using h2),Bp (by simp),e2]
theorem zd4{A B:List Nat}{c s:Nat}(h1:∀k∈A,k<c)(h2:c<s)(h3:∀k∈B,s<k):(A++c::s::B).filter (λk=>decide (s<k))=B:=by
 rw[BC];have e1:A.filter (λk=>decide (s<k))=[]:=List.filter_eq_nil_iff.mpr λk hk=>by have:=h1 k hk;simp;lia
 have e2:B.filter (λk=>decide (s<k))=B:=Di.mpr λk hk=>decide_eq_true (h3 k hk)
 rw[e1,Bp (by simp;lia),Bp (by simp),e2];rfl
theorem zkj{A:List Nat}{c:Nat}{m:Int}(h:∀k∈A,k<c)(hm:IsMax ((A++[c]).map λn:Nat=>(n:Int)) m):m=(c:Int):=by
 obtain⟨h1,h2⟩:=hm;have h3:=h2 (c:Int) (by simp);obtain⟨k,hk,e⟩:=AF.mp h1;rcases A2.mp hk with z |z
 .have:=h k z;lia
 .have:=AN.mp z;lia
theorem zkh{b:Nat}{B:List Nat}{m:Int}(h:(b::B).Pairwise (·<·))(hm:IsMin ((b::B).map λn:Nat=>(n:Int)) m):m=(b:Int):=by
 obtain⟨h1,h2⟩:=hm;have h3:=h2 (b:Int) (by simp);obtain⟨k,hk,e⟩:=AF.mp h1;rcases Ao.mp hk with z |z
 .lia
 .have:=(AU.mp h).1 k z;lia
theorem zfI(row:List Nat):rowV row=(row.map λn:Nat=>(n:Int)).map V.int:=by unfold rowV;rw[CP];rfl
theorem zlu{H:Hp}{Bk:List Nat}{n:Nat}(Q:Int->Hp->Prop)(hup:Bk.Pairwise (·<·))(h:Q (hd2 Bk n:Nat) H):((Bk.map λn:Nat=>(n:Int))=[]->Q (n:Nat) H)/\∀m,IsMin (Bk.map λn:Nat=>(n:Int)) m->Q m H:=by
 cases Bk with
 |nil=>exact⟨λ_=>h,λm hm=>by cases hm.1⟩
 |cons b B=>exact⟨λz=>by simp at z,λm hm=>by rw[zkh hup hm];exact h⟩
theorem zhE{a b:Prop}(h:b/\a):a/\b:=⟨h.2,h.1⟩
theorem zki{H:Hp}{Bk:List Nat}{n:Nat}{Q:Int->Hp->Prop}(hup:Bk.Pairwise (·<·))(h:Q (hd2 Bk n:Nat) H):(∀m,IsMin (Bk.map λn:Nat=>(n:Int)) m->Q m H)/\((Bk.map λn:Nat=>(n:Int))=[]->Q (n:Nat) H):=zhE (zlu Q hup h)
theorem zhs{ks:List Nat}{n:Nat}(h:Good ks n){p:Nat×Nat}(hp:p∈prs n ks):p.1<p.2/\p.2<=n:=by
 rw[zcE]at hp;obtain⟨m,hm,e⟩:=Ay hp;have e2:(ks.zip (bhd ks n))[m]?=some p:=by rw[Aa hm,e]
 rw[A4]at e2;exact h.2.2 m p.1 p.2 e2.1 e2.2
structure Crnr (R:List Rnd) (TT:List (List Nat)) (B:Int) (L:List Cell) (i s:Nat) (r:Rnd) (A:List Nat) (c:Nat) (Bk:List Nat):Prop where
 th:Thn R TT
 r1:R[i]?=some r
 k1:TT[i]?=some (A++c::s::Bk)
 lt1:∀k∈A,k<c
 lt2:c<s
 lt3:∀k∈Bk,s<k
 up:Bk.Pairwise (·<·)
 b0:0<=B
 b1:B<=1000000
 dL:Dfs L
 sL:∀t∈allS (R.map spo) TT,Dsd L t
 pL:∀t∈spo r,t∈L
noncomputable def CanGo(R:List Rnd)(TT:List (List Nat))(B:Int)(r:Rnd)(c e:Nat):Prop:=Str1 (spo r) B c e/\(allS (R.map spo) TT).any (TH.cross (sdO (spo r) (c,e)))=false
noncomputable def spCan(K:W.Frag):Sp:=λvs H Q _=>∃(a b:Addr) (rs ts:List V) (R:List Rnd) (TT:List (List Nat)) (B:Int) (L:List Cell) (i s:Nat) (r:Rnd) (A:List Nat) (c:Nat) (Bk:List Nat),vs=[.ref a,.int B,.ref b,.int i,.int s]/\H a=some (.lst rs)/\VR rs R rR H/\H b=some (.lst ts)/\VR ts TT thR H/\Crnr R TT B L i s r A c Bk /\
 ∀q H',Same H H'->(q=true ↔ CanGo R TT B r c (hd2 Bk (spo r).length))->Q (.bl q) H'
theorem zdo (T:Txt P w K mg) (g_spots_of:Fn P w K mg base 2 "spots_of" ["one"] (zb4 K)) (g_is_stretch_near:Fn P w K mg base 3 "is_stretch_near" ["spots", "bound", "start", "end"] (zdG K)) (g_side_between:Fn P w K mg base 1 "side_between" ["spots", "start", "end"] (zg4 K))
  (g_all_sides:Fn P w K mg base 4 "all_sides" ["some","thinning"] (zc0 K)) (g_do_cross:Fn P w K mg base 3 "do_cross" ["one","other"] zgn)
  (d:Df K mg "can_leave_out" zaM ["some","bound","thinning","index","spot"]):FnOk P w K mg base CX0 5 d.f d.fd ["some","bound","thinning","index","spot"] (spCan K):=by
 refine d.F.ok zaS (λvs H Q E h=>?_) (λcdv A outer s H vs Q E hr h=>?_)
 .obtain⟨a,b,rs,ts,R,TT,B,L,i,sp,r,A,c,Bk,rfl,_⟩:=h;rfl
 .obtain⟨a,b,rs,ts,R,TT,B,L,i,sp,r,A0,c,Bk,rfl,ha,hR,hb,hT,C,k⟩:=h;have nb0:(["corner","spot"]:List Str).Nodup:=by decide +kernel
  have nb1:(["corner","spot"]:List Str).Nodup:=by decide +kernel
  have nb2:(["other","side"]:List Str).Nodup:=by decide +kernel
  refine⟨_,(zac (sE 5 zaS.nd (pC g_spots_of hr (zah (pe_ix zas (pv 0) (pv 3) (λ_ _=>rfl)) zab)))
   (zac (sE 6 zaS.nd (zam (zjG rfl) (by rfl) T.nmax (by rfl) (zah (zaF (osc:=zad zaM) (N:=zbi) (N':=["corner","spot"]) (sel:=[none,some 4]) bO (zaB (pe_ix zas (pv 2) (pv 3) (λ_ _=>rfl))) (λ_ _ _ _ _=>(nG 0 nb0)) (λ_ _ _ _ _=>zca (zaD op_lt (pv 0) (pv 1) (zax _))) (λ_ _ _ _ _=>(pv 0))) zab)))
   (zac (sE 7 zaS.nd (zlh (by rfl) T.nmin (zaF (osc:=zad zaM) (N:=zbi) (N':=["corner","spot"]) (sel:=[none,some 4]) bO (zaB (pe_ix zas (pv 2) (pv 3) (λ_ _=>rfl))) (λ_ _ _ _ _=>(nG 0 nb1)) (λ_ _ _ _ _=>zca (zaD op_gt (pv 0) (pv 1) (zax _))) (λ_ _ _ _ _=>(pv 0))) (zam zan (by rfl) T.nlen (by rfl) (pa_N (pv 5) zab))))
   (zac (ps_if (zce (zbj (pC g_is_stretch_near hr (pa_N (pv 5) (pa_N (pv 1) (pa_N (pv 6) (pa_N (pv 7) zab)))))))
   (zaf (zak pe_bl))
   zaA)
   (zac (zcQ (i:=8) zaS.nd (by rfl) (Or.inr rfl) (pC g_side_between hr (pa_N (pv 5) (pa_N (pv 6) (pa_N (pv 7) zab)))))
   (zaf (zak (ziR (zam (zf5 rfl) (by rfl) T.nany (by rfl) (zah (zaF (osc:=zad zaM) (N:=zbi) (N':=["other","side"]) (sel:=[none,some 8]) bO (zaB (pC g_all_sides hr (pa_N (pv 0) (pa_N (pv 2) zab)))) (λ_ _ _ _ _=>(nG 0 nb2)) (λ_ _ _ _ _=>zaE) (λ_ _ _ _ _=>(pC g_do_cross hr (pa_N (pv 1) (pa_N (pv 0) zab))))) zab)))))))))),?_⟩
  have hrow:=C.th.row r (Ah C.r1)
  obtain⟨x,hx,hxr⟩:∃x,rs[i]?=some x/\rR r x H:=by
   have hi:=(Ab.mp C.r1).1;have hi':i<rs.length:=by rw[hR.1];exact hi
   obtain⟨r',h1,h2⟩:=hR.at (Aa hi');rw[C.r1]at h1
   cases h1
   exact⟨_,Aa hi',h2⟩
  obtain⟨y,hy,kc,rfl,hkc⟩:∃y,ts[i]?=some y/\thR (A0++c::sp::Bk) y H:=by
   have hi:=(Ab.mp C.k1).1;have hi':i<ts.length:=by rw[hT.1];exact hi
   obtain⟨r',h1,h2⟩:=hT.at (Aa hi');rw[C.k1]at h1
   cases h1
   exact⟨_,Aa hi',h2⟩
  refine⟨_,rfl,_,rfl,a,_,_,_,rfl,rfl,SqL.of ha,zai (j:=i) hx,x,r,rfl,hxr,hrow.1,hrow.2,λps H1 us hps s1 e1 hus=>?_⟩;have hgd:=C.th.crn i r _ C.r1 C.k1;obtain⟨X,Y,hx1,hx2⟩:=ze1 (spo r).length A0 c sp Bk;have g1:=zhs hgd (p:=(c,sp)) (by rw[hx1];simp);have g2:=zhs hgd (p:=(sp,hd2 Bk (spo r).length)) (by rw[hx1];simp);simp only at g1 g2;have hks:(A0++c::sp::Bk).length<=481:=hgd.2.1;have hul:=hus.1;have hfl:=zd3 C.lt1 C.lt2 C.lt3;have hfg:=zd4 C.lt1 C.lt2 C.lt3;have b1':=s1 _ _ hb;have k1':=s1 _ _ hkc;generalize hke:A0++c::sp::Bk=ks at *;refine⟨_,rfl,_,rfl,b,_,_,_,rfl,rfl,SqL.of b1',zai (j:=i) hy,kc,rfl,⟨_,SqL.of k1'⟩,λg hg=>?_⟩
  refine zar (K:=K) (a:=kc) (xs:=rowV ks) (λm σ H2=>∃o,σ=[o,some (.int sp)]/\Same H1 H2/\H2 g=some (.lst (rowV ((ks.take m).filter λk=>decide (k<sp)))))
   ⟨_,rfl,Same.up hg,zaa⟩ (λm σ H2 _ ⟨_,_,s2,_⟩=>SqL.of (s2 _ _ k1')) ?_ ?_
  .rintro m u σ H2 hu ⟨o,rfl,s2,e2⟩;unfold rowV at hu;rw[Ap]at hu;obtain⟨q,hq,rfl⟩:=AT.mp hu;unfold gName;refine⟨_,rfl,_,rfl,_,_,rfl,rfl,_,rfl,?_⟩;rw[zaq hq,BC];refine ite2 (λhy=>?_) (λhn=>?_)
   .have hlt:q<sp:=by have:=of_decide_eq_true hy;lia
    refine⟨_,rfl,_,e2,zaj ?_,_,rfl,zap hg s2,?_⟩
    .have h1:=Bo (λk=>decide (k<sp)) (ks.take m);rw[Av]at h1;unfold rowV;rw[Af];lia
    .rw[zaa,BS (by simpa using hlt)];unfold rowV;rw[Ax];rfl
   .have hlt:¬ q<sp:=λz=>hn (decide_eq_true (by lia))
    rw[Bp (by simpa using hlt)];exact⟨_,rfl,s2,by rw[e2];simp⟩
  rintro σ H2 ⟨o,rfl,s2,e2⟩;rw[AJ (by unfold rowV;rw[Af];exact Ai _),hfl,zfI]at e2;refine⟨g,_,rfl,SqL.of e2,by simp,λm hm=>?_⟩;have hmc:=zkj C.lt1 hm;subst hmc;have b2':=s2 _ _ b1';have k2':=s2 _ _ k1';refine⟨_,rfl,_,rfl,b,_,_,_,rfl,rfl,SqL.of b2',zai (j:=i) hy,kc,rfl,⟨_,SqL.of k2'⟩,λg2' hg2=>?_⟩
  refine zar (K:=K) (a:=kc) (xs:=rowV ks) (λm σ H3=>∃o,σ=[o,some (.int sp)]/\Same H2 H3/\H3 g2'=some (.lst (rowV ((ks.take m).filter λk=>decide (sp<k)))))
   ⟨_,rfl,Same.up hg2,zaa⟩ (λm σ H3 _ ⟨_,_,s3,_⟩=>SqL.of (s3 _ _ k2')) ?_ ?_
  .rintro m u σ H3 hu ⟨o,rfl,s3,e3⟩;unfold rowV at hu;rw[Ap]at hu;obtain⟨q,hq,rfl⟩:=AT.mp hu;unfold gName;refine⟨_,rfl,_,rfl,_,_,rfl,rfl,_,rfl,?_⟩;rw[zaq hq,BC];refine ite2 (λhy=>?_) (λhn=>?_)
   .have hlt:sp<q:=by have:=of_decide_eq_true hy;lia
    refine⟨_,rfl,_,e3,zaj ?_,_,rfl,zap hg2 s3,?_⟩
    .have h1:=Bo (λk=>decide (sp<k)) (ks.take m);rw[Av]at h1;unfold rowV;rw[Af];lia
    .rw[zaa,BS (by simpa using hlt)];unfold rowV;rw[Ax];rfl
   .have hlt:¬ sp<q:=λz=>hn (decide_eq_true (by lia))
    rw[Bp (by simpa using hlt)];exact⟨_,rfl,s3,by rw[e3];simp⟩
  rintro σ H3 ⟨o,rfl,s3,e3⟩;rw[AJ (by unfold rowV;rw[Af];exact Ai _),hfg,zfI]at e3;have s13:=s2.trans s3;have e13:=s13 _ _ e1;refine⟨g2',_,rfl,SqL.of e3,_,rfl,ps,_,rfl,.inl (SqL.of e13),_,rfl,SqL.of e3,?_⟩;rw[hul];refine zhE ?_
  refine zki C.up ?_
  generalize hee:hd2 Bk (spo r).length=e at *;have hce:c<e:=by lia
  have hus3:=hus.mono λx v h=>h.kt (KT.of s13)
  refine⟨_,rfl,_,rfl,_,rfl,_,rfl,ps,us,spo r,B,c,e,rfl,SqL.of e13,hus3,zdF hrow.1 hrow.2,zdD hrow.2,hce,g2.2,C.b0,C.b1,λbb H4 s4 hbb=>?_⟩;refine⟨_,rfl,?_⟩;have s04:=s1.trans (s13.trans s4)
  cases hbv:bb with
  |false =>
   refine iteY rfl ?_
   exact k false H4 s04 ⟨λz=>(nomatch z),λz=>(by have:=hbb.mpr z.1;rw[hbv]at this;cases this)⟩
  |true =>
   refine iteN rfl ?_
   have hst:Str1 (spo r) B c e:=hbb.mp hbv;have hi:c<us.length:=by lia
   have hj:e % us.length<us.length:=C3 _ (by lia);have hus4:=hus3.mono λx v h=>h.kt (KT.of s4)
   obtain⟨ci,hci,ri⟩:=hus4.at (Aa hi);obtain⟨cj,hcj,rj⟩:=hus4.at (Aa hj);have e14:=s4 _ _ e13;refine⟨_,rfl,_,rfl,_,rfl,ps,us,c,e,_,_,rfl,SqL.of e14,Aa hi,Aa hj,by lia,λp hp=>?_⟩;have s5:=Same.up (o:=.tup [us[c],us[e % us.length]]) hp;have r5:sideR (ci,cj) (.ref p) (upd H4 p (.tup [us[c],us[e % us.length]])):=⟨p,_,_,rfl,zaa,ri.kt (KT.of s5),rj.kt (KT.of s5)⟩;generalize upd H4 p (.tup [us[c],us[e % us.length]])=H5 at s5 r5
   have eS:sdO (spo r) (c,e)=(ci,cj):=by unfold sdO;simp only;rw[Am,hci,Am,<- hul,hcj];rfl
   have s05:=s04.trans s5;refine⟨_,rfl,_,rfl,a,b,rs,ts,R,TT,rfl,s05 _ _ ha,hR.mono (λx v h=>h.kt (KT.of s05)),s05 _ _ hb,hT.mono (λx v h=>h.same s05),C.th,λpa H6 zs hpa s6 e6 hz=>?_⟩;refine⟨pa,rfl,⟨_,SqL.of e6⟩,λgb hgb=>?_⟩;have hzl:zs.length<=900:=by rw[hz.1];exact C.th.all
   refine zar (K:=K) (a:=pa) (xs:=zs) (λm σ H7=>∃o,σ=[o,some (.ref p)]/\Same H6 H7/\H7 gb=some (.lst ((((allS (R.map spo) TT).take m).map (TH.cross (ci,cj))).map V.bl)))
    ⟨_,rfl,Same.up hgb,zaa⟩ (λm σ H7 _ ⟨_,_,s7,_⟩=>SqL.of (s7 _ _ e6)) ?_ ?_
   .rintro m u σ H7 hu ⟨o,rfl,s7,e7⟩;obtain⟨sd,hsd,hru⟩:=hz.at hu;have hml:m<zs.length:=(Ab.mp hu).1;refine gN ?_
    refine⟨_,rfl,_,rfl,.ref p,u,(ci,cj),sd,L,rfl,r5.kt (KT.of (s6.trans s7)),hru.kt (KT.of s7),C.dL,⟨C.pL _ (Ah hci),C.pL _ (Ah hcj)⟩,C.sL _ (Ah hsd),?_⟩;refine⟨_,e7,zaj (by simp;lia),_,rfl,zap hgb s7,?_⟩;rw[zaa,zaq hsd,Ax,Ax];rfl
   .rintro σ H7 ⟨o,rfl,s7,e7⟩;rw[hz.1,AW]at e7;refine⟨gb,_,rfl,SqL.of e7,?_⟩;refine⟨_,rfl,k _ H7 (s05.trans (s6.trans s7)) ?_⟩;unfold CanGo;rw[eS,List.any_map];constructor
    .intro z;exact⟨hst,by simpa using z⟩
    .intro z;have:=z.2;simpa using this
noncomputable def cnr:Nat->List (List Nat)->List (Nat×Nat)
 |_,[]=>[]
 |i,ks::T=>(ks.drop 1).map (λs=>(i,s))++cnr (i+1) T
theorem zhB:∀(T:List (List Nat)) (i0 m:Nat) (ks:List Nat),T[m]?=some ks->cnr i0 (T.take (m+1))=cnr i0 (T.take m)++(ks.drop 1).map (λs=>(i0+m,s))
 |[],_,_,_,h=>by simp at h
 |k0::T,i0,0,ks,h=>by
  simp at h;subst h;show (k0.drop 1).map _++cnr (i0+1) []=[]++_;show (k0.drop 1).map _++[]=_;simp
 |k0::T,i0,m+1,ks,h=>by
  have:=zhB T (i0+1) m ks (by simpa using h);show (k0.drop 1).map _++cnr (i0+1) (T.take (m+1))=((k0.drop 1).map _++cnr (i0+1) (T.take m))++_;rw[this,Bs,show i0+1+m=i0+(m+1) by lia]
theorem zbC(n:Nat):∀ks:List Nat,(prs n ks).length=ks.length
 |[]=>rfl
 |a::B=>by show (prs n B).length+1=_;rw[zbC n B];rfl
theorem zjz:∀(S:List (List Cell)) (T:List (List Nat)) (i:Nat),S.length=T.length->(cnr i T).length<=(allS S T).length
 |[],[],_,_=>Ai _
 |[],_::_,_,h=>by cases h
 |_::_,[],_,h=>by cases h
 |sp::S,ks::T,i,h=>by
  have:=zjz S T (i+1) (by simpa using h);show ((ks.drop 1).map _++cnr (i+1) T).length<=(sds sp ks++allS S T).length;unfold sds;rw[Al,Al,Af,Af,zbC,AS];lia
theorem zlL(T:List (List Nat))(i m:Nat):(cnr i (T.take m)).length<=(cnr i T).length:=by
 induction T generalizing i m with
 |nil=>cases m <;> exact Ai _
 |cons ks T ih =>
  cases m with
  |zero=>exact AV _
  |succ m =>
   have:=ih (i+1) m;show ((ks.drop 1).map _++cnr (i+1) (T.take m)).length<=((ks.drop 1).map _++cnr (i+1) T).length;rw[Al,Al];lia
theorem zfi:∀(T:List (List Nat)) (i0:Nat) (p:Nat×Nat),p∈cnr i0 T->∃m ks,T[m]?=some ks/\p.1=i0+m/\p.2∈ks.drop 1
 |[],_,_,h=>by cases h
 |k0::T,i0,p,h=>by
  rcases A2.mp h with z |z
  .obtain⟨s,hs,rfl⟩:=AF.mp z;exact⟨0,k0,rfl,rfl,hs⟩
  .obtain⟨m,ks,h1,h2,h3⟩:=zfi T (i0+1) p z;exact⟨m+1,ks,by simpa using h1,by lia,h3⟩
open Classical in
noncomputable def goB (R:List Rnd) (TT:List (List Nat)) (B:Int) (p:Nat×Nat):Bool:=decide (∃r A c Bk,R[p.1]?=some r/\TT[p.1]?=some (A++c::p.2::Bk)/\(∀k∈A,k<c)/\c<p.2/\(∀k∈Bk,p.2<k)/\CanGo R TT B r c (hd2 Bk (spo r).length))
structure Thb (R:List Rnd) (TT:List (List Nat)) (B:Int) (L:List Cell):Prop where
 th:Thn R TT
 cr:∀(i:Nat) r ks,R[i]?=some r->TT[i]?=some ks->Crn (spo r).length ks
 b0:0<=B
 b1:B<=1000000
 dL:Dfs L
 sL:∀t∈allS (R.map spo) TT,Dsd L t
 pL:∀r∈R,∀t∈spo r,t∈L
theorem Thb.crnr{R:List Rnd}{TT:List (List Nat)}{B:Int}{L:List Cell}(h:Thb R TT B L){p:Nat×Nat}(hp:p∈cnr 0 TT):∃r A c Bk,Crnr R TT B L p.1 p.2 r A c Bk:=by
 obtain⟨m,ks,h1,h2,h3⟩:=zfi TT 0 p hp;have hm:p.1=m:=by lia
 have hml:=(Ab.mp h1).1;have hmR:m<R.length:=by rw[h.th.len];exact hml
 have hr:=Aa hmR;have hc:=h.cr m _ ks hr h1;obtain⟨q,hq,e⟩:=Ay h3;rw[List.getElem_drop]at e;have hks:ks[1+q]?=some p.2:=by rw[AS]at hq;rw[Aa (by lia),e]
 obtain⟨A,a,Bk,e1,_,l1,l2,l3⟩:=hc.split (by lia) hks;have hpw:=hc.1;rw[e1,List.pairwise_append]at hpw;refine⟨R[m],A,a,Bk,⟨h.th,by rw[hm];exact hr,by rw[hm,h1,e1],l1,l2,l3,?_,h.b0,h.b1,h.dL,h.sL,h.pL _ (A7 hmR)⟩⟩;exact (AU.mp (AU.mp hpw.2.1).2).2
open Classical in
theorem Crnr.uniq{R:List Rnd}{TT:List (List Nat)}{B:Int}{L:List Cell}{i s:Nat}{r:Rnd}{A:List Nat}{c:Nat}{Bk:List Nat}(h:Crnr R TT B L i s r A c Bk):goB R TT B (i,s)=true ↔ CanGo R TT B r c (hd2 Bk (spo r).length):=by
 unfold goB;rw[decide_eq_true_iff];constructor
 .rintro⟨r',A',c',Bk',h1,h2,h3,h4,h5,h6⟩;simp only at h1 h2 h4 h5;have e1:r'=r:=AO (h1.symm.trans h.r1);have e2:A'++c'::s::Bk'=A++c::s::Bk:=AO (h2.symm.trans h.k1);have f1:=zd3 h3 h4 h5;have f2:=zd3 h.lt1 h.lt2 h.lt3;have f3:=zd4 h3 h4 h5;have f4:=zd4 h.lt1 h.lt2 h.lt3;rw[e2]at f1 f3;have e3:A'++[c']=A++[c]:=f1.symm.trans f2;have e4:Bk'=Bk:=f3.symm.trans f4;have e5:=List.append_inj' e3 rfl;have e6:c'=c:=by simpa using e5.2
  subst e1 e4 e6;exact h6
 .intro z;exact⟨r,A,c,Bk,h.r1,h.k1,h.lt1,h.lt2,h.lt3,z⟩
noncomputable def zcZ(K:W.Frag):Sp:=λvs H Q _=>∃(a b:Addr) (rs ts:List V) (R:List Rnd) (TT:List (List Nat)) (B:Int) (L:List Cell),vs=[.ref a,.int B,.ref b]/\H a=some (.lst rs)/\VR rs R rR H/\H b=some (.lst ts)/\VR ts TT thR H/\Thb R TT B L /\
 ∀p H' us,H p=none->Same H H'->H' p=some (.lst us)->VR us ((cnr 0 TT).filter (goB R TT B)) pR H'->Q (.ref p) H'
theorem zgE (T:Txt P w K mg) (g_can_leave_out:Fn P w K mg base 5 "can_leave_out" ["some","bound","thinning","index","spot"] (spCan K)) (d:Df K mg "leavable" zbY ["some","bound","thinning"]):FnOk P w K mg base CX0 6 d.f d.fd ["some","bound","thinning"] (zcZ K):=by
 refine d.F.ok zdK (λvs H Q E h=>?_) (λcdv A outer s H vs Q E hr h=>?_)
 .obtain⟨a,b,rs,ts,R,TT,B,L,rfl,_⟩:=h;rfl
 .obtain⟨a,b,rs,ts,R,TT,B,L,rfl,ha,hR,hb,hT,C,k⟩:=h;have nb0:(["index","spots","spot"]:List Str).Nodup:=by decide +kernel
  have nb1:(["index","spot","some","bound","thinning"]:List Str).Nodup:=by decide +kernel
  refine⟨_,(zac (zdR (i:=3) (osc:=zad zbY) (N:=zdf) (N':=["index","spots","spot"]) (sel:=[none,none,none]) bO zdK.nd (by rfl) (Or.inl rfl) (zgx (by rfl) T.nenumerate (pa_N (pv 2) zab)) (λ_ _ _ _ _=>(za8 (K:=K) (n:=2) (by rfl) (zag (nG 0 nb0) (zag (nG 1 nb0) zaw)))) (λ_ _ _ _ _=>zaE) (λ_ _ _ _ _=>(zdu (K:=K) (zbz (zg9 (K:=K)) (pv 1) (zbU zae) zck))) (λ_ _ _ _ _=>(nG 2 nb0)) (λ_ _ _ _ _=>zaE) (λ_ _ _ _ _=>(zaV (pa_N (pv 0) (pa_N (pv 2) zab)))) (λ_ _ _=>rfl))
   (zaf (zak (zaF (osc:=zad zbY) (N:=zdf) (N':=["index","spot","some","bound","thinning"]) (sel:=[none,none,some 0,some 1,some 2]) bO (zaB (pv 3)) (λ_ _ _ _ _=>(za8 (K:=K) (n:=2) (by rfl) (zag (nG 0 nb1) (zag (nG 1 nb1) zaw)))) (λ_ _ _ _ _=>zca (zbj (pC g_can_leave_out hr (pa_N (pv 2) (pa_N (pv 3) (pa_N (pv 4) (pa_N (pv 0) (pa_N (pv 1) zab)))))))) (λ_ _ _ _ _=>(zaV (pa_N (pv 0) (pa_N (pv 1) zab)))))))),?_⟩
  have hall:=C.th.all;have hcl:=zjz (R.map spo) TT 0 (by rw[Af];exact C.th.len);refine⟨_,rfl,b,rfl,⟨_,SqL.of hb⟩,λg hg=>?_⟩
  refine zff (K:=K) (a:=b) (xs:=ts) (λm σ H3=>∃o0 o1 o2,σ=[o0,o1,o2]/\Same H H3/\∃zs,H3 g=some (.lst zs)/\VR zs (cnr 0 (TT.take m)) pR H3)
   ⟨_,_,_,rfl,Same.up hg,[],zaa,VR.nil⟩ (λm σ H3 _ ⟨_,_,_,_,s3,_⟩=>SqL.of (s3 _ _ hb)) ?_ ?_
  .rintro m y σ H3 t hy ⟨o0,o1,o2,rfl,s3,zs,e3,hz⟩ ht;obtain⟨ks,hk1,c,rfl,hc⟩:=hT.at hy;have hmT:m<TT.length:=(Ab.mp hk1).1;have hmR:m<R.length:=by rw[C.th.len];exact hmT
   have hcr:=C.cr m _ ks (Aa hmR) hk1;have hk0:1<=ks.length:=(Ab.mp hcr.2.1).1;have hct:=zhB TT 0 m ks hk1;have hcc:=zlL TT 0 (m+1);have s4:=Same.up (o:=.tup [.int m,.ref c]) ht;have e4t:upd H3 t (.tup [.int m,.ref c]) t=some (.tup [.int m,.ref c]):=zaa;generalize upd H3 t (.tup [.int m,.ref c])=H4 at s4 e4t;have s04:=s3.trans s4;refine⟨t,_,rfl,SqT.of e4t,rfl,_,_,rfl,_,_,rfl,rfl,?_⟩;refine zbe ?_
   refine⟨_,rfl,_,rfl,c,_,rfl,SqL.of (s04 _ _ hc),λp hp=>⟨p,rfl,⟨_,SqL.of zaa⟩,?_⟩⟩
   have hcut:cutV (rowV ks) (some 1) none=rowV (ks.drop 1):=by have:cutV (rowV ks) (some ((1:Nat):Int)) none=(rowV ks).drop 1:=zfh _ (by unfold rowV;rw[Af];exact hk0);rw[show (some (1:Int))=some ((1:Nat):Int) from rfl,this];unfold rowV;rw[List.map_drop]
   rw[hcut];have s5:=Same.up (o:=.lst (rowV (ks.drop 1))) hp;have e5:upd H4 p (.lst (rowV (ks.drop 1))) p=some (.lst (rowV (ks.drop 1))):=zaa;generalize upd H4 p (.lst (rowV (ks.drop 1)))=H5 at s5 e5;have hpg:g≠p:=λq=>by rw[<- q,s4 _ _ e3]at hp;cases hp
   have e5g:=(s4.trans s5) _ _ e3
   refine zar (K:=K) (a:=p) (xs:=rowV (ks.drop 1)) (λq σ H6=>∃o2,σ=[some (.int m),some (.ref c),o2]/\Same H H6/\H6 p=some (.lst (rowV (ks.drop 1)))/\∃zs,H6 g=some (.lst zs)/\VR zs (cnr 0 (TT.take m)++((ks.drop 1).take q).map (λs=>(0+m,s))) pR H6)
    ⟨_,rfl,s04.trans s5,e5,zs,e5g,by rw[List.take_zero,Cr,AX];exact hz.mono λx v h=>h.kt (KT.of (s4.trans s5))⟩ (λq σ H6 _ ⟨_,_,_,e6,_⟩=>SqL.of e6) ?_ ?_
   .rintro q u σ H6 hu ⟨o2,rfl,s6,e6,zs6,e6g,hz6⟩;unfold rowV at hu;rw[Ap]at hu;obtain⟨sv',hsv,rfl⟩:=AT.mp hu;have hql:q<(ks.drop 1).length:=(Ab.mp hsv).1
    have hzl:zs6.length<=900:=by have h1:=hz6.1;have h2:=congrArg List.length hct;rw[Al,Af]at h1 h2;rw[Av]at h1;lia
    refine gN ?_
    refine⟨_,rfl,_,rfl,two,λx hx=>?_⟩;have s7:=Same.up (o:=.tup [.int m,.int sv']) hx;have r7:pR (0+m,sv') (.ref x) (upd H6 x (.tup [.int m,.int sv'])):=⟨x,rfl,by rw[zaa,Nat.zero_add]⟩;generalize upd H6 x (.tup [.int m,.int sv'])=H7 at s7 r7;have e7:=s7 _ _ e6g;refine⟨zs6,e7,zaj (by lia),_,rfl,zap hg (s6.trans s7),by rw[zal (Bq hpg)];exact s7 _ _ e6,_,zaa,?_⟩;rw[zaq hsv,Ax,<- Bs];exact hz6.snoc (λx v h=>(h.kt (KT.of s7)).kt (KT.lst e7)) (r7.kt (KT.lst e7))
   .rintro σ H6 ⟨o2,rfl,s6,e6,zs6,e6g,hz6⟩;refine⟨_,_,_,rfl,s6,zs6,e6g,?_⟩;have htk:(ks.drop 1).take (rowV (ks.drop 1)).length=ks.drop 1:=AJ (by unfold rowV;rw[Af];exact Ai _);rw[htk,<- hct]at hz6;exact hz6
  rintro σ H3 ⟨o0,o1,o2,rfl,s3,zs,e3,hz⟩;rw[AJ (by rw[hT.1];exact Ai _)]at hz;have hzl:zs.length<=900:=by rw[hz.1];lia
  refine⟨_,rfl,g,rfl,⟨_,SqL.of e3⟩,λg2 hg2=>?_⟩
  refine zar (K:=K) (a:=g) (xs:=zs) (λm σ H4=>∃o0 o1,σ=[o0,o1,some (.ref a),some (.int B),some (.ref b)]/\Same H3 H4/\∃ys,H4 g2=some (.lst ys)/\VR ys (((cnr 0 TT).take m).filter (goB R TT B)) pR H4)
   ⟨_,_,rfl,Same.up hg2,[],zaa,VR.nil⟩ (λm σ H4 _ ⟨_,_,_,s4,_⟩=>SqL.of (s4 _ _ e3)) ?_ ?_
  .rintro m u σ H4 hu ⟨o0,o1,rfl,s4,ys,e4,hy⟩;obtain⟨q,hq,x,rfl,hx⟩:=hz.at hu;have hml:m<zs.length:=(Ab.mp hu).1;obtain⟨r,A',c,Bk,hC⟩:=C.crnr (Ah hq);have s04:=s3.trans s4;refine⟨x,_,rfl,SqT.of (s4 _ _ hx),rfl,_,_,rfl,_,_,rfl,rfl,?_⟩;refine⟨_,rfl,_,rfl,_,rfl,_,rfl,_,rfl,a,b,rs,ts,R,TT,B,L,q.1,q.2,r,A',c,Bk,rfl,s04 _ _ ha,hR.mono (λx v h=>h.kt (KT.of s04)),s04 _ _ hb,hT.mono (λx v h=>h.same s04),hC,λbb H5 s5 hbb=>?_⟩
   have hgo:bb=goB R TT B q:=by
    have h2:=hC.uniq;rw[<- hbb]at h2;rw[show (q.1,q.2)=q from rfl]at h2
    cases bb <;> cases hz2:goB R TT B q <;> simp_all
   refine⟨_,rfl,?_⟩;rw[zaq hq,BC];have e5:=s5 _ _ e4;have hy5:=hy.mono λx v h=>h.kt (KT.of s5)
   refine ite2 (λhyy=>?_) (λhnn=>?_)
   .refine⟨_,rfl,_,rfl,two,λx2 hx2=>?_⟩;have s7:=Same.up (o:=.tup [.int q.1,.int q.2]) hx2;have r7:pR q (.ref x2) (upd H5 x2 (.tup [.int q.1,.int q.2])):=⟨x2,rfl,zaa⟩;generalize upd H5 x2 (.tup [.int q.1,.int q.2])=H7 at s7 r7;have e7:=s7 _ _ e5
    have hyl:ys.length<=900:=by rw[hy.1];have h1:=Bo (goB R TT B) ((cnr 0 TT).take m);rw[Av]at h1;lia
    refine⟨ys,e7,zaj (by lia),_,_,rfl,zap hg2 (s4.trans (s5.trans s7)),_,zaa,?_⟩;rw[BS (by rw[<- hgo];exact hyy)];exact hy5.snoc (λx v h=>(h.kt (KT.of s7)).kt (KT.lst e7)) (r7.kt (KT.lst e7))
   .rw[Bp (by rw[<- hgo];exact hnn)];exact⟨_,_,rfl,s4.trans s5,ys,e5,by simpa using hy5⟩
  .rintro σ H4 ⟨o0,o1,rfl,s4,ys,e4,hy⟩;rw[hz.1,AW]at hy;exact k g2 H4 ys (s3.free hg2) (s3.trans s4) e4 hy
noncomputable def lsk(i s m:Nat)(ks:List Nat):List Nat:=ks.filter λk=>decide (¬ (m=i/\k=s))
noncomputable def lss(i s:Nat):Nat->List (List Nat)->List (List Nat)
 |_,[]=>[]
 |m,ks::T=>lsk i s m ks::lss i s (m+1) T
theorem zhn(i s:Nat):∀(T:List (List Nat)) (m0 m:Nat) (ks:List Nat),T[m]?=some ks->lss i s m0 (T.take (m+1))=lss i s m0 (T.take m)++[lsk i s (m0+m) ks]
 |[],_,_,_,h=>by simp at h
 |k0::T,m0,0,ks,h=>by simp at h;subst h;rfl
 |k0::T,m0,m+1,ks,h=>by
  have:=zhn i s T (m0+1) m ks (by simpa using h);show _::lss i s (m0+1) (T.take (m+1))=(_::lss i s (m0+1) (T.take m))++_;rw[this,show m0+1+m=m0+(m+1) by lia];rfl
noncomputable def thG(g:Addr)(H0:Hp)(ks:List Nat)(v:V)(H:Hp):Prop:=∃c,v=.ref c/\c≠g/\H0 c=none/\H c=some (.lst (rowV ks))
noncomputable def thF(H0:Hp)(ks:List Nat)(v:V)(H:Hp):Prop:=∃c,v=.ref c/\H0 c=none/\H c=some (.lst (rowV ks))
theorem zez(i s:Nat):∀(m0:Nat) (T:List (List Nat)),(lss i s m0 T).length=T.length
 |_,[]=>rfl
 |m0,_::T=>by show (lss i s (m0+1) T).length+1=_;rw[zez i s (m0+1) T];rfl
end
end RR
set_option maxHeartbeats 400000
namespace RR
open PySem L2 RP
noncomputable def pvR(q:V×V)(v:V)(H:Hp):Prop:=∃b,v=.ref b/\H b=some (.tup [q.1,q.2])
theorem zfA:∀(l:List (V×V)){σ:St}{H:Hp}{Q:List V->Hp->Prop},(∀ts H',Same H H'->VR ts l pvR H'->Q ts H')->tPrs l σ H Q
 |[],σ,H,Q,h=>h [] H (Same.refl _) VR.nil
 | (a,b)::r,σ,H,Q,h=>by
  refine⟨two,λp hp=>?_⟩;refine zfA r λts H' s' v'=>h _ _ ((Same.up hp).trans s') (VR.cons.mpr ⟨⟨p,rfl,s' _ _ zaa⟩,v'⟩)
noncomputable def mvs:List Cell:=[(1,0),(1,1),(0,1),(-1,1),(-1,0),(-1,-1),(0,-1),(1,-1)]
theorem zmh{n:Nat}(h:n<8):mvs[n]?=some (mv n):=(by decide:∀n<8,mvs[n]?=some (mv n)) n h
noncomputable def prsC(l:List Cell):List (V×V):=l.map λq=>(.int q.1,.int q.2)
theorem VR.prsC{ts:List V}{l:List Cell}{H:Hp}(h:VR ts (prsC l) pvR H):VR ts l cR H:=by
 refine⟨h.1.trans (Af ..),λi q v h1 h2=>?_⟩;obtain⟨q',hq,b,rfl,hb'⟩:=h.at h2;have:(RR.prsC l)[i]?=some (.int q.1,.int q.2):=by unfold RR.prsC;rw[Ap,h1];rfl
 rw[this]at hq
 cases hq
 exact⟨b,rfl,hb'⟩
noncomputable def getEs:List Stmt->List Expr
 |[_,.For _ _ [.Assign _ (.Subscript (.List es _) _ _) _,_] _ _,_]=>es
 |_=>[]
noncomputable def setEs(es:List Expr):List Stmt->List Stmt
 |[a,.For t i [.Assign tt (.Subscript (.List _ p) ix q) r,b] o u,c]=>[a,.For t i [.Assign tt (.Subscript (.List es p) ix q) r,b] o u,c]
 |l=>l
noncomputable def prs8:List (V×V):=[(.int 1,.int 0),(.int 1,.int 1),(.int 0,.int 1),(.int (-1),.int 1),(.int (-1),.int 0),(.int (-1),.int (-1)),(.int 0,.int (-1)),(.int 1,.int (-1))]
theorem read8{l8:List (V×V)}(hl:prs8=l8){σ:St}{H:Hp}{Q:V->Hp->Prop}(k:∀ts lq H',Same H H'->H' lq=some (.lst ts)->VR ts mvs cR H'->Q (.ref lq) H'):tLst (tPrs l8) σ H Q:=by
 subst hl;show tPrs (prsC mvs) σ H _;refine zfA _ λts H1 s1 v1=>⟨by rw[v1.1];decide,λp hp=>?_⟩
 refine k ts p _ (s1.trans (Same.up hp)) zaa (VR.prsC (v1.mono λx v h=>?_));obtain⟨b,rfl,hb⟩:=h;exact⟨b,rfl,Same.up hp _ _ hb⟩
theorem VR.last{us:List V}{sp:List Cell}{H:Hp}{c:Cell}(h:VR us sp cR H)(hl:sp.getLast?=some c):∃v,atI us (-1)=some v/\cR c v H:=by
 rw[List.getLast?_eq_getElem?]at hl;have hi:=(Ab.mp hl).1;obtain⟨v,hv⟩:∃v,us[sp.length-1]?=some v:=⟨_,Aa (by rw[h.1];exact hi)⟩;refine⟨v,?_,h.2 _ c _ hl hv⟩;have e:us.getLast?=some v:=by rw[List.getLast?_eq_getElem?,h.1];exact hv
 obtain⟨ys,rfl⟩:=List.getLast?_eq_some_iff.mp e;exact zfn _ _
section
variable {P:AH}{w:AZ}{K:W.Frag}{mg:Str->Option Ad}{base:Heap}
theorem zfQ (d:Df K mg "_law_spots" zaO ["_law_one"]):FnOk P w K mg base CX0 1 d.f d.fd ["_law_one"] (zb4 K):=by
 refine d.F.ok zbf (λvs H Q E h=>?_) (λcdv A outer s H vs Q E hr h=>?_)
 .obtain⟨v,r,rfl,_⟩:=h;rfl
 .obtain⟨v,r,rfl,⟨a,b,rfl,q1,q2⟩,h8,hlen,k⟩:=h;have e:zaC zaO=setEs (getEs (zaC zaO)) (zaC zaO):=by rfl
  have hps:IsPs (getEs (zaC zaO)) prs8:=.cons .int .int (.cons .int .int (.cons .int .int (.cons .neg .int (.cons .neg .int (.cons .neg .neg (.cons .int .neg (.cons .int .neg .nil)))))));rw[e];generalize getEs (zaC zaO)=es at hps ⊢;clear e;generalize hp8:prs8=l8 at hps
  refine⟨_,(zac (sE 1 zbf.nd (za0 (pa_T (zaV (zah (pe_ix zay (pv 0) zae (λ_ _=>rfl)) (zah (pe_ix zay (pv 0) zae (λ_ _=>rfl)) zab))) zab)))
   (zac (zbI A3 rfl (ziO (zbz ziB (pe_ix zay (pv 0) zae (λ_ _=>rfl)) zck (zbU (pe_un zdA zae)))) (nG 2 zbf.nd)
   (zac (zbw (pe_ix zas (za0 (zkb hps)) (pv 2) (λ_ _=>rfl)) (zbk (by rfl) (zag (nG 3 zbf.nd) (zag (nG 4 zbf.nd) zaw))))
   (zaf (zcD (pe_bm Bz BL BM zbJ (pv 1) (pa_T (zaV (pa_B (pe_op zaL (pe_ix zay (pe_ix zas (pv 1) (pe_un zdA zae) (λ_ _=>rfl)) zae (λ_ _=>rfl)) (pv 3)) (pa_B (pe_op zaL (pe_ix zay (pe_ix zas (pv 1) (pe_un zdA zae) (λ_ _=>rfl)) zae (λ_ _=>rfl)) (pv 4)) zab))) zab))))))
   (zaf (zak (pv 1))))),?_⟩
  refine⟨_,rfl,a,_,_,_,rfl,rfl,SqT.of q1,zai (j:=1) rfl,_,rfl,a,_,_,_,rfl,rfl,SqT.of q1,zai (j:=2) rfl,two,λt1 h1=>?_⟩;have s1:=Same.up (o:=.tup [.int r.x,.int r.y]) h1;have e1:upd H t1 (.tup [.int r.x,.int r.y]) t1=some (.tup [.int r.x,.int r.y]):=zaa;generalize upd H t1 (.tup [.int r.x,.int r.y])=H1 at s1 e1;refine⟨(by show 1<=sizeLine;decide),λl hl=>?_⟩;have s2:=Same.up (o:=.lst [.ref t1]) hl;have e2:upd H1 l (.lst [.ref t1]) l=some (.lst [.ref t1]):=zaa;generalize upd H1 l (.lst [.ref t1])=H2 at s2 e2;have s12:=s1.trans s2;have hl0:H l=none:=s1.free hl;have hv2:VR [V.ref t1] (zat (r.x,r.y) (r.row.dropLast.take 0)) cR H2:=VR.cons.mpr ⟨⟨t1,rfl,s2 _ _ e1⟩,VR.nil⟩;refine zfy (D:=λb' H3=>Same H2 H3/\H3 b'=some (.tup (rowV r.row.dropLast))) ?C (λmain=>⟨_,rfl,a,_,_,_,rfl,rfl,SqT.of (s12 _ _ q1),zai (j:=3) rfl,_,rfl,_,rfl,b,_,rfl,SqT.of (s12 _ _ q2),?w1,?w2⟩) ?h
  case w2 =>
   intro hw b' hb';have s3:=Same.up (o:=.tup (cutV (rowV r.row) none (some (-1)))) hb';have e3:upd H2 b' (.tup (cutV (rowV r.row) none (some (-1)))) b'=some (.tup (cutV (rowV r.row) none (some (-1)))):=zaa;generalize upd H2 b' (.tup (cutV (rowV r.row) none (some (-1))))=H3 at s3 e3 ⊢;rw[zhz]at e3;exact main b' H3 ⟨s3,e3⟩
  case w1 =>
   intro hw;refine main b H2 ⟨Same.refl _,?_⟩
   have h0:r.row.dropLast=r.row:=by
    have h2:=hw.2;unfold HT.sIx rowV at h2;simp only[Af]at h2
    have:r.row.length=0:=by rw[if_pos (by decide)]at h2;lia
    rw[Dx.mp this];rfl
   rw[h0];exact s12 _ _ q2
  rintro b' H3 ⟨s3,hb'⟩;refine⟨b',rfl,⟨_,SqT.of hb'⟩,?_⟩
  refine zgN (K:=K) (a:=b') (xs:=rowV r.row.dropLast) (λj σ H4=>∃o2 o3 o4,σ=[some (.ref a),some (.ref l),o2,o3,o4]/\Same H H4/\KT H3 H4/\∃us,H4 l=some (.lst us)/\VR us (zat (r.x,r.y) (r.row.dropLast.take j)) cR H4)
   ⟨_,_,_,rfl,s12.trans s3,KT.refl _,_,s3 _ _ e2,hv2.mono λx v h=>h.kt (KT.of s3)⟩ (λj σ H4 _ ⟨_,_,_,_,_,k4,us,e4,_⟩=>SqT.of (k4 _ _ hb')) ?_ ?_
  .rintro j v σ H4 hj ⟨o2,o3,o4,rfl,s4,k4,us,e4,hv4⟩;unfold rowV at hj;rw[Ap]at hj;obtain⟨n,hn,rfl⟩:=AT.mp hj;have hjl:j<r.row.dropLast.length:=(Ab.mp hn).1;rw[Bt]at hjl;have hul:us.length<=481:=by rw[hv4.1,zbK,Av,Bt];lia
   have hn8:n<8:=h8 n (List.dropLast_subset _ (Ah hn));have hs4:=s4;have ks4:=k4;unfold gName tSeq tAsg tOp;refine read8 hp8 (λts lq G8 sA f8 hq=>?_);obtain⟨vt,hvt⟩:∃v,ts[n]?=some v:=⟨_,Aa (by rw[hq.1];exact hn8)⟩;obtain⟨t,rfl,ft⟩:=hq.2 n (mv n) vt (zmh hn8) hvt;refine⟨_,rfl,lq,_,_,_,rfl,rfl,SqL.of f8,zai hvt,t,_,rfl,SqT.of ft,rfl,_,_,rfl,_,_,rfl,rfl,?_⟩;obtain⟨vl,hvl,tl,rfl,ql⟩:=hv4.last (zeu _ _);have e48:=sA _ _ e4;refine⟨_,rfl,.inl ⟨rfl,_,SqL.of e48⟩,_,rfl,_,rfl,l,_,_,_,rfl,rfl,SqL.of e48,hvl,tl,_,_,_,rfl,rfl,SqT.of (sA _ _ ql),zai (j:=0) rfl,_,rfl,_,_,rfl,rfl,?_⟩;refine⟨_,rfl,_,rfl,l,_,_,_,rfl,rfl,SqL.of e48,hvl,tl,_,_,_,rfl,rfl,SqT.of (sA _ _ ql),zai (j:=1) rfl,_,rfl,_,_,rfl,rfl,two,λt9 h9=>?_⟩;have s9:=Same.up (o:=.tup [.int ((endC (r.x,r.y) (r.row.dropLast.take j)).1+(mv n).1),.int ((endC (r.x,r.y) (r.row.dropLast.take j)).2+(mv n).2)]) h9;have r9:cR (go (endC (r.x,r.y) (r.row.dropLast.take j)) n) (.ref t9) (upd G8 t9 (.tup [.int ((endC (r.x,r.y) (r.row.dropLast.take j)).1+(mv n).1),.int ((endC (r.x,r.y) (r.row.dropLast.take j)).2+(mv n).2)])):=⟨t9,rfl,zaa⟩;generalize upd G8 t9 (.tup [.int ((endC (r.x,r.y) (r.row.dropLast.take j)).1+(mv n).1),.int ((endC (r.x,r.y) (r.row.dropLast.take j)).2+(mv n).2)])=G9 at s9 r9;have e9:=s9 _ _ e48;have sB:=sA.trans s9;refine⟨l,us,_,rfl,rfl,e9,zaj (by lia),?_⟩;rw[zaq hn,zcY];exact⟨_,_,_,rfl,zap hl0 (hs4.trans sB),(ks4.trans (KT.of sB)).trans (KT.lst e9),_,zaa,hv4.snoc (λx v h=>(h.kt (KT.of sB)).kt (KT.lst e9)) (r9.kt (KT.lst e9))⟩
  .rintro σ H4 ⟨o2,o3,o4,rfl,s4,k4,us,e4,hv4⟩;rw[show (rowV r.row.dropLast).length=r.row.dropLast.length by unfold rowV;rw[Af],AW]at hv4;exact⟨_,rfl,k l H4 us hl0 s4 e4 hv4⟩
open PySem L2 RP TH
noncomputable def lsf(sp:List Cell)(p:Nat×Nat):TH.Side:=(sp.getD p.1 (0,0),sp.getD p.2 (0,0))
theorem lsd(sp:List Cell):∀ks:List Nat,(∀k∈ks,k<sp.length)->(ks.zip (ks.drop 1++[0])).map (lsf sp)=sds sp ks
 |[],_=>rfl
 |[a],_=>by
  show [lsf sp (a,0)]=[sdO sp (a,sp.length)];unfold lsf sdO;rw[Nat.mod_self]
 |a::b::r,h=>by
  have ih:=lsd sp (b::r) (λk hk=>h k (Ak _ hk));show lsf sp (a,b)::((b::r).zip ((b::r).drop 1++[0])).map (lsf sp)=sdO sp (a,b)::sds sp (b::r);rw[ih]
  congr 1
  unfold lsf sdO;rw[B9 (h b (Ak _ Aq))]
theorem Good.lt{ks:List Nat}{n:Nat}(h:Good ks n):∀k∈ks,k<n:=λk hk=>by
 obtain⟨m,hm,e⟩:=Ay hk;have h1:ks[m]?=some k:=by rw[Aa hm,e]
 have h2:m<(nxs ks n).length:=by rw[zbb h.1];exact hm
 obtain⟨l1,l2⟩:=h.2.2 m k _ h1 (Aa h2);lia
noncomputable def zbp(R:List Rnd)(TT:List (List Nat))(B:Int):Prop:=∀(m:Nat) r ks,R[m]?=some r->TT[m]?=some ks->Near (spo r) B ks
noncomputable def NoXu(L:List TH.Side)(m:Nat):Prop:=∀i j a b,i<m->j<i->L[i]?=some a->L[j]?=some b->TH.cross a b=false
theorem zls{L:List TH.Side}:NoX L ↔ NoXu L L.length:=by
 unfold NoX NoXu;rw[List.pairwise_iff_getElem];constructor
 .intro h i j a b hi hj ha hb;obtain⟨h1,rfl⟩:=Ab.mp ha;obtain⟨h2,rfl⟩:=Ab.mp hb;rw[TH.cross_comm];exact h j i h2 h1 hj
 .intro h j i h1 h2 hj;rw[TH.cross_comm];exact h i j _ _ h2 hj (Aa h2) (Aa h1)
theorem zkn(us:List V){m:Nat}(h:m<=us.length):cutV us none (some (m:Int))=us.take m:=zjv us h
theorem zkN{i s m:Nat}(h:m≠i)(ks:List Nat):lsk i s m ks=ks:=by unfold lsk;rw[List.filter_eq_self];intro k _;exact decide_eq_true λz=>h z.1
theorem zlw{i s a:Nat}{A B:List Nat}(h1:∀k∈A,k<a)(h2:a<s)(h3:∀k∈B,s<k):lsk i s i (A++a::s::B)=A++a::B:=by
 unfold lsk;have f1:A.filter (λk=>decide (¬ (i=i/\k=s)))=A:=Di.mpr λk hk=>decide_eq_true λz=>by have:=h1 k hk;lia
 have f2:B.filter (λk=>decide (¬ (i=i/\k=s)))=B:=Di.mpr λk hk=>decide_eq_true λz=>by have:=h3 k hk;lia
 rw[BC,f1,BS (by simp;lia),Bp (by simp),f2]
theorem zjf(i s:Nat):∀(T:List (List Nat)) (m:Nat),i<m->lss i s m T=T
 |[],_,_=>rfl
 |ks::T,m,h=>by
  show lsk i s m ks::lss i s (m+1) T=_;rw[zkN (by lia),zjf i s T (m+1) (by lia)]
theorem zje{s a:Nat}{A B:List Nat}(h1:∀k∈A,k<a)(h2:a<s)(h3:∀k∈B,s<k):∀(T:List (List Nat)) (m q:Nat),T[q]?=some (A++a::s::B)->lss (m+q) s m T=T.set q (A++a::B)
 |[],_,_,h=>by simp at h
 |k0::T,m,0,h=>by
  simp at h;subst h;show lsk (m+0) s m _::lss (m+0) s (m+1) T=_;rw[Nat.add_zero,zlw h1 h2 h3,zjf _ _ _ _ (by lia)];rfl
 |k0::T,m,q+1,h=>by
  show lsk (m+(q+1)) s m k0::lss (m+(q+1)) s (m+1) T=k0::T.set q _;rw[zkN (by lia),show m+(q+1)=(m+1)+q by lia,zje h1 h2 h3 T (m+1) q (by simpa using h)]
theorem zfU{sp:List Cell}{B:Int}{ks:List Nat}:Near sp B ks ↔ Strs (Str1 sp B) sp.length ks:=by
 unfold Near Strs;rw[zcE];constructor
 .rintro h ⟨i,j⟩ hp;obtain⟨m,hm,e⟩:=Ay hp;have e':(ks.zip (bhd ks sp.length))[m]?=some (i,j):=by rw[Aa hm,e]
  rw[A4]at e';exact h m i j e'.1 e'.2
 .intro h m i j h1 h2;exact h (i,j) (Ah (i:=m) (by rw[A4];exact⟨h1,h2⟩))
theorem zcu{ks:List Nat}{n:Nat}(h:Crn n ks)(hl:ks.length<=481):Good ks n:=by
 have hne:ks≠[]:=λz=>by have:=h.2.1;rw[z]at this;cases this
 refine⟨hne,hl,λm i j h1 h2=>?_⟩;have hm:=(Ab.mp h1).1;have hi:=h.2.2 i (Ah h1);unfold nxs at h2;rcases A1 m (ks.drop 1).length with z |z
 .rw[As z,BD]at h2;obtain⟨a1,rfl⟩:=Ab.mp h1;obtain⟨a2,rfl⟩:=Ab.mp h2;have:=BE.mp h.1 m (1+m) a1 a2 (by lia);have:=h.2.2 _ (A7 a2);lia
 .rw[AD z]at h2;rw[AS]at z h2;have:m-(ks.length-1)=0:=by lia
  rw[this]at h2
  cases h2
  lia
section
variable {R:List Rnd}{TT:List (List Nat)}{B:Int}{L:List Cell}{i s:Nat}{r:Rnd}{A:List Nat}{c:Nat}{Bk:List Nat}
theorem Thb.out(h:Thb R TT B L)(hC:Crnr R TT B L i s r A c Bk):Thb R (TT.set i (A++c::Bk)) B L:=by
 have hi:i<TT.length:=(Ab.mp hC.k1).1;have hcr:=h.cr i r _ hC.r1 hC.k1;have hs:s<(spo r).length:=hcr.2.2 s (by simp);have hsp:(R.map spo)[i]?=some (spo r):=by rw[Ap,hC.r1];rfl
 have hlen:(R.map spo).length=TT.length:=by rw[Af];exact h.th.len
 obtain⟨X,Y,e1,e2⟩:=zcW hsp hC.k1 hlen hs;have hg:=h.th.crn i r _ hC.r1 hC.k1
 have hcr':∀(j:Nat) r' ks,R[j]?=some r'->(TT.set i (A++c::Bk))[j]?=some ks->Crn (spo r').length ks/\ks.length<=481:=λj r' ks h1 h2=>by
  by_cases hj:i=j
  .subst hj;rw[B5 hi]at h2
   cases h2
   rw[hC.r1]at h1
   cases h1
   have:=hg.2.1;refine⟨hcr.out,?_⟩;simp only[Al,AQ]at this ⊢;lia
  .rw[Cq hj]at h2;exact⟨h.cr j r' ks h1 h2,(h.th.crn j r' ks h1 h2).2.1⟩
 refine⟨⟨?_,h.th.few,h.th.row,λj r' ks h1 h2=>zcu (hcr' j r' ks h1 h2).1 (hcr' j r' ks h1 h2).2,?_⟩,λj r' ks h1 h2=>(hcr' j r' ks h1 h2).1,h.b0,h.b1,h.dL,?_,h.pL⟩
 .rw[List.length_set];exact h.th.len
 .have:=h.th.all;rw[e1]at this;rw[e2];simp only[Al,AQ]at this ⊢;lia
 .intro t ht;rw[e2]at ht;have hsL:=h.sL;rw[e1]at hsL;have hcL:=hsL _ (by simp:((spo r).getD c (0,0),(spo r).getD s (0,0))∈_);have heL:=hsL _ (by simp:((spo r).getD s (0,0),(spo r).getD (hd2 Bk (spo r).length % (spo r).length) (0,0))∈_);rcases A2.mp ht with z |z
  .exact hsL t (by simp[z])
  .rcases Ao.mp z with z |z
   .rw[z];exact⟨hcL.1,heL.2⟩
   .exact hsL t (by simp[z])
theorem zkg(h:Thb R TT B L)(hN:zbp R TT B)(hC:Crnr R TT B L i s r A c Bk):Near (spo r) B (A++c::Bk) ↔ Str1 (spo r) B c (hd2 Bk (spo r).length):=by rw[zfU];exact Strs.out (zfU.mp (hN i r _ hC.r1 hC.k1))
theorem zkr(h:Thb R TT B L)(hC:Crnr R TT B L i s r A c Bk) :
  (allS (R.map spo) (TT.set i (A++c::Bk))).any (TH.cross (sdO (spo r) (c,hd2 Bk (spo r).length)))=(allS (R.map spo) TT).any (TH.cross (sdO (spo r) (c,hd2 Bk (spo r).length))):=by
 have hcr:=h.cr i r _ hC.r1 hC.k1;have hs:s<(spo r).length:=hcr.2.2 s (by simp);have hsp:(R.map spo)[i]?=some (spo r):=by rw[Ap,hC.r1];rfl
 have hlen:(R.map spo).length=TT.length:=by rw[Af];exact h.th.len
 exact (zlP hsp hC.k1 hlen hs).symm
theorem zlQ(h:Thb R TT B L)(hN:zbp R TT B)(hX:NoX (allS (R.map spo) TT))(hC:Crnr R TT B L i s r A c Bk)(hgo:goB R TT B (i, s)=true) :
  zbp R (TT.set i (A++c::Bk)) B/\NoX (allS (R.map spo) (TT.set i (A++c::Bk))):=by
 obtain⟨g1,g2⟩:=hC.uniq.mp hgo;have hi:i<TT.length:=(Ab.mp hC.k1).1;have hcr:=h.cr i r _ hC.r1 hC.k1;have hs:s<(spo r).length:=hcr.2.2 s (by simp);have hsp:(R.map spo)[i]?=some (spo r):=by rw[Ap,hC.r1];rfl
 have hlen:(R.map spo).length=TT.length:=by rw[Af];exact h.th.len
 refine⟨λj r' ks h1 h2=>?_,NoX.out hsp hC.k1 hlen hs hX ?_⟩
 .by_cases hj:i=j
  .subst hj;rw[B5 hi]at h2
   cases h2
   rw[hC.r1]at h1
   cases h1
   exact (zkg h hN hC).mpr g1
  .rw[Cq hj]at h2;exact hN j r' ks h1 h2
 .rw[<- g2];exact zkr h hC
end
theorem IsRnd.walk{C:Cell -> Bool}{b:Edge}{es:List Edge}{r:Rnd}(h:Closed C b es)(k:IsRnd (wk C es) r) :
  ∃es',Closed C (begE r) es'/\es'.Perm es/\r.row=(es'.map (stepB C)).filterMap id/\zfu (wk C es') r.so (begE r)/\r.so=sortS (wk C es')/\IsRnd (wk C es') r:=by
 obtain⟨r0,j,f,rf,⟨rb,rw',rl⟩,rx,ry,rr⟩:=id k;rw[zgS]at rf rb rl
 have ef:begE r=f:=by obtain⟨⟨x,y⟩,w⟩:=f;unfold begE;rw[rx,ry,r0];simp only at rw' ⊢;rw[rw']
 have h1:=h.rot j rf;have pm:=zj1 es j;have ss:=zhQ (C:=C) pm
 have hrow:r.row=((es.drop j++es.take j).map (stepB C)).filterMap id:=by rw[rr];unfold wk;rw[<- List.map_drop,<- List.map_take,<- Ax,Cc,Cc];rfl
 have hb:zfu (wk C (es.drop j++es.take j)) r.so f:=⟨by rw[zgS];exact pm.mem_iff.mpr rb,by rw[rw',r0],λg hg hw=>by rw[zgS]at hg;exact rl g (pm.mem_iff.mp hg) (by rw[hw,r0])⟩
 rw[ef];refine⟨_,h1,pm,hrow,hb,by rw[r0,ss],by rw[r0,ss],0,f,by rw[zgS];exact h1.1.1,by rw[ss,<- r0];exact hb,rx,ry,?_⟩;rw[hrow,List.drop_zero,List.take_zero,AX];unfold wk;rw[Cc,Cc];rfl
noncomputable def RndC(cs:List Cell)(r:Rnd):Prop:=SoOk r/\∃es,Closed (isIn cs) (begE r) es/\r.row=es.filterMap (stepB (isIn cs))
theorem Whole.rnd{cs:List Cell}{R R0:List Rnd}(p:R.Perm R0)(h:Whole cs R0):∀r∈R,RndC cs r:=λr hr=>by
 obtain⟨ESS,hP,_⟩:=h;obtain⟨i,hi,ei⟩:=Ay (p.mem_iff.mp hr);have hi':i<ESS.length:=by rw[<- hP.len];exact hi
 obtain⟨⟨b,hc⟩,hrn⟩:=hP.each i ESS[i] r (Aa hi') (by rw[Aa hi,ei]);obtain⟨es',k1,k2,k3,_,k5,_⟩:=IsRnd.walk hc hrn;exact⟨(by unfold SoOk;rw[k5];exact zeS _),es',k1,by rw[k3,Cc];rfl⟩
theorem ze9{C:Cell->Bool}{e:Edge}(h:stepB C e=none):(nxt C e).c=e.c:=by unfold nxt;rw[h];rfl
theorem ze8{C:Cell->Bool}{e:Edge}{s:Nat}(h:stepB C e=some s):(nxt C e).c=go e.c s:=by unfold nxt;rw[h];show (if s % 2=1 then (⟨go e.c s,(e.w+3) % 4⟩:Edge) else ⟨go e.c s,e.w⟩).c=go e.c s;split <;> rfl
theorem zgj{C:Cell->Bool}{e:Edge}{s:Nat}(he:e.w<4)(h:stepB C e=some s):s<8:=by
 unfold stepB at h;split at h
 .cases h;lia
 .split at h
  .cases h;lia
  .cases h
inductive Lnk (C:Cell->Bool):Edge->List Edge->Prop where
 |one (e:Edge):Lnk C e []
 |more {e:Edge} {es:List Edge}:Lnk C (nxt C e) es->Lnk C e (nxt C e::es)
theorem zkO{C:Cell->Bool}:∀(es:List Edge) (e:Edge),(∀(i:Nat) f g,(e::es)[i]?=some f->(e::es)[i+1]?=some g->g=nxt C f)->Lnk C e es
 |[],e,_=>.one e
 |f::es,e,h=>by
  obtain rfl:f=nxt C e:=h 0 e f rfl rfl;exact .more (zkO es _ λi a b h1 h2=>h (i+1) a b (by simpa using h1) (by simpa using h2))
theorem Lnk.at{C:Cell->Bool}{e:Edge}{es:List Edge}(h:Lnk C e es):∀m s,((e::es).filterMap (stepB C))[m]?=some s->∃f∈e::es,stepB C f=some s/\f.c=endC e.c (((e::es).filterMap (stepB C)).take m):=by
 induction h with
 |one e =>
  intro m s hm
  cases hs:stepB C e with
  |none=>rw[CB hs]at hm;simp at hm
  |some s0 =>
   rw[CC hs]at hm ⊢
   cases m with
   |zero=>simp at hm;subst hm;exact⟨e,Aq,hs,rfl⟩
   |succ m=>simp at hm
 |@more e es h ih =>
  intro m s hm
  cases hs:stepB C e with
  |none =>
   rw[CB hs]at hm ⊢;obtain⟨f,hf,h1,h2⟩:=ih m s hm;exact⟨f,Ak _ hf,h1,by rw[h2,ze9 hs]⟩
  |some s0 =>
   rw[CC hs]at hm ⊢
   cases m with
   |zero=>simp at hm;subst hm;exact⟨e,Aq,hs,rfl⟩
   |succ m =>
    obtain⟨f,hf,h1,h2⟩:=ih m s (by simpa using hm);refine⟨f,Ak _ hf,h1,?_⟩;rw[h2,ze8 hs];rfl
theorem Lnk.end{C:Cell->Bool}{e:Edge}{es:List Edge}(h:Lnk C e es):endC e.c ((e::es).filterMap (stepB C))=(nxt C ((e::es).getLast (by simp))).c:=by
 induction h with
 |one e =>
  cases hs:stepB C e with
  |none=>rw[CB hs];exact (ze9 hs).symm
  |some s0=>rw[CC hs];exact (ze8 hs).symm
 |@more e es h ih =>
  rw[List.getLast_cons (by simp),<- ih]
  cases hs:stepB C e with
  |none=>rw[CB hs,ze9 hs]
  |some s0=>rw[CC hs,ze8 hs];rfl
noncomputable def IsStp(cs:List Cell)(t:TH.Side):Prop:=t.1=t.2∨∃(f:Edge) (s:Nat),IsE (isIn cs) f/\stepB (isIn cs) f=some s/\t=(f.c,go f.c s)
theorem zcL(c:Cell):∀(l:List Nat) (m:Nat),m<=l.length->(zat c l)[m]?=some (endC c (l.take m))
 |l,0,_=>by cases l <;> rfl
 |[],m+1,h=>by simp at h
 |s::l,m+1,h=>by
  show (zat (go c s) l)[m]?=_;rw[zcL (go c s) l m (by simpa using h)];rfl
section
variable {cs:List Cell}{r:Rnd}
theorem RndC.facts(h:RndC cs r):isIn cs (r.x,r.y)=true/\endC (r.x,r.y) r.row=(r.x,r.y)/\(∀s∈r.row,s<8)/\∀m s,r.row[m]?=some s->∃f,IsE (isIn cs) f/\stepB (isIn cs) f=some s/\f.c=endC (r.x,r.y) (r.row.take m):=by
 obtain⟨_,es,⟨⟨h0,h1,h2,_⟩,l,hl,hn⟩,hrow⟩:=h
 cases es with
 |nil=>simp at h0
 |cons e es =>
  have eb:e=begE r:=by simpa using h0
  have ec:(r.x,r.y)=e.c:=by rw[eb];rfl
  have lst:(e::es).getLast (by simp)=l:=by rw[List.getLast_eq_getElem];exact (Ab.mp hl).2
  have lk:=zkO es e h1;have iE:∀f∈e::es,IsE (isIn cs) f:=h2;refine⟨by rw[ec];exact (iE e Aq).2.1,?_,λs hs=>?_,λm s hm=>?_⟩
  .rw[hrow,ec,lk.end,lst,hn,eb]
  .rw[hrow]at hs;obtain⟨f,hf,ef⟩:=List.mem_filterMap.mp hs;exact zgj (iE f hf).1 ef
  .rw[hrow]at hm ⊢;obtain⟨f,hf,k1,k2⟩:=lk.at m s hm;exact⟨f,iE f hf,k1,by rw[ec];exact k2⟩
theorem RndC.spot(h:RndC cs r):∀c∈spo r,c∈cs:=λc hc=>by
 obtain⟨f0,_,_,f3⟩:=h.facts;obtain⟨m,hm,e⟩:=Ay hc;have hm':=hm;rw[zav]at hm;have e1:(spo r)[m]?=some c:=by rw[Aa hm',e]
 unfold spo at e1;rw[zcL _ _ _ (by rw[Bt];lia)]at e1
 cases m with
 |zero =>
  simp[endC]at e1;rw[<- e1];simpa[isIn]using f0
 |succ m =>
  have hl:m+1<r.row.length:=by lia
  obtain⟨f,k1,_,k3⟩:=f3 (m+1) _ (Aa hl)
  have:(r.row.dropLast.take (m+1))=r.row.take (m+1):=by
   rw[CW,List.take_take]
   congr 1
   lia
  rw[this,<- k3]at e1
  cases e1
  simpa[isIn]using k1.2.1
theorem RndC.sides(h:RndC cs r):∀t∈sds (spo r) (AE (spo r).length),IsStp cs t:=λt ht=>by
 obtain⟨f0,f1,_,f3⟩:=h.facts;have hn:0<(spo r).length:=by rw[zav];lia
 rw[<- lsd _ _ (λk hk=>Dy.mp hk)]at ht;obtain⟨⟨i,j⟩,hp,rfl⟩:=AF.mp ht;obtain⟨m,hm,e⟩:=Ay hp;have e':((AE (spo r).length).zip ((AE (spo r).length).drop 1++[0]))[m]?=some (i,j):=by rw[Aa hm,e]
 rw[A4]at e';obtain⟨h1,h2⟩:=e';have hmn:m<(spo r).length:=by have:=(Ab.mp h1).1;rwa [A6]at this
 rw[BG hmn]at h1;have hmi:m=i:=AO h1;subst hmi;have hmn':=hmn;rw[zav]at hmn'
 have a1:(spo r).getD m (0,0)=endC (r.x,r.y) (r.row.dropLast.take m):=by rw[Am];unfold spo;rw[zcL _ _ _ (by rw[Bt];lia)];rfl
 have z0:(spo r).getD 0 (0,0)=(r.x,r.y):=by rw[Am];unfold spo;rw[zcL _ _ 0 (by lia)];rfl
 by_cases hr:r.row=[]
 .have hl1:(spo r).length=1:=by rw[zav,hr];rfl
  have hm0:m=0:=by lia
  subst hm0;rw[hl1]at h2
  cases h2
  exact .inl rfl
 have hpos:0<r.row.length:=CD.mpr hr
 have htk:r.row.dropLast.take m=r.row.take m:=by
  rw[CW,List.take_take]
  congr 1
  lia
 have hml:m<r.row.length:=by lia
 obtain⟨f,k1,k2,k3⟩:=f3 m _ (Aa hml);refine .inr ⟨f,_,k1,k2,?_⟩;rw[htk,<- k3]at a1
 have hgo:go f.c r.row[m]=endC (r.x,r.y) (r.row.take (m+1)):=by rw[k3,<- zfZ,<- zaq (Aa hml)]
 unfold lsf;rw[a1,hgo]
 congr 1
 rcases A1 (m+1) (spo r).length with z |z
 .rw[As (by rw[AS,A6];lia),BD,BG (by lia)]at h2;have hj:1+m=j:=AO h2;subst hj;have z':=z;rw[zav]at z';show (spo r).getD (1+m) (0,0)=_;rw[Am,show 1+m=m+1 by lia];unfold spo;rw[zcL _ _ _ (by rw[Bt];lia)];show endC _ _=_
  congr 1
  rw[CW,List.take_take]
  congr 1
  lia
 .rw[AD (by rw[AS,A6];lia)]at h2;have:m-((AE (spo r).length).drop 1).length=0:=by rw[AS,A6];lia
  rw[this]at h2
  cases h2
  rw[zav]at z;show (spo r).getD 0 (0,0)=_;rw[z0,AJ (by lia),f1]
end
theorem zeG{t u:TH.Side}(h:t.1=t.2):TH.cross t u=false/\TH.cross u t=false:=by
 obtain⟨a,b⟩:=t;simp only at h;subst h;have:∀x,TH.crs a a x=0:=λx=>by unfold TH.crs;simp
 have h1:TH.cross (a,a) u=false:=by unfold TH.cross parts;simp[this]
 exact⟨h1,by rw[TH.cross_comm];exact h1⟩
theorem zin{cs:List Cell}{L:List TH.Side}(h:∀t∈L,IsStp cs t):NoX L:=by
 unfold NoX;refine List.pairwise_of_forall_mem_list λt ht u hu=>?_
 rcases h t ht with z |⟨f,s,k1,k2,rfl⟩
 .exact (zeG z).1
 .rcases h u hu with z |⟨f',s',k1',k2',rfl⟩
  .exact (zeG z).2
  .exact zfv k1 k1' k2 k2' (zgj k1.1 k2) (zgj k1'.1 k2')
theorem VR.has{α:Type}{vs:List V}{l:List α}{R:α->V->Hp->Prop}{H:Hp}(h:VR vs l R H){i:Nat}{x:α}(hx:l[i]?=some x):∃v,vs[i]?=some v/\R x v H:=by
 have hi:=(Ab.mp hx).1;have hv:i<vs.length:=by rw[h.1];exact hi
 exact⟨_,Aa hv,h.2 i x _ hx (Aa hv)⟩
noncomputable def spFew(K:W.Frag):Sp:=λvs H Q _=>∃(p:Addr) (n m st:Nat),vs=[.ref p,.int m,.int st]/\HasB H p (n+(20+m))/\1<=m/\m<=60/\st<=200 /\
 ∀(g:Addr) (cs:List Cell) (R:List Rnd) (us:List V) (H':Hp),H g=none->But H H' p->HasB H' p n->H' g=some (.lst us)->VR us R rR H'->(∀r∈R,RndC cs r)->R.length<=m->(R.map (·.row.length)).sum<=st->Boxed m cs->Q (.ref g) H'
theorem zhZ (T:Txt P w K mg) (g_rounds:Fn P w K mg base 7 "rounds" ["picture"] (zg5 K)) (g__law_picture:Fn P w K mg base 3 "_law_picture" ["_law_pen", "_law_most"] (zfD K))
  (d:Df K mg "_law_few" zc8 ["_law_pen","_law_most","_law_steps"]):FnOk P w K mg base CX0 8 d.f d.fd ["_law_pen","_law_most","_law_steps"] (spFew K):=by
 refine d.F.ok zbE (λvs H Q E h=>?_) (λcdv A outer s H vs Q E hr h=>?_)
 .obtain⟨p,n,m,st,rfl,_⟩:=h;rfl
 .obtain⟨p,n,m,st,rfl,hp,hm1,hm2,hst,k⟩:=h
  refine⟨_,(zac (sE 3 zbE.nd (za0 zab))
   (zac (sE 4 zbE.nd (pv 2))
   (zac (zbI A3 rfl (zaB (pC g_rounds hr (zah (pC g__law_picture hr (pa_N (pv 0) (pa_N (pv 1) zab))) zab))) (nG 5 zbE.nd)
   (zaf (ps_if (zaD op_le (zam zan (by rfl) T.nlen (by rfl) (zah (pe_ix zay (pv 5) zae (λ_ _=>rfl)) zab)) (pv 4) (zax _))
   (zac (zcD (pe_bm Bz BL BM zbJ (pv 3) (pa_N (pv 5) zab)))
   (zaf (sE 4 zbE.nd (pe_op zaI (pv 4) (zam zan (by rfl) T.nlen (by rfl) (zah (pe_ix zay (pv 5) zae (λ_ _=>rfl)) zab))))))
   zaA)))
   (zaf (zak (pv 3)))))),?_⟩
  refine⟨(by show 0<=sizeLine;decide),λg hg=>?_⟩;have s1:=Same.up (o:=.lst []) hg;have e1:upd H g (.lst []) g=some (.lst []):=zaa;generalize upd H g (.lst [])=H1 at s1 e1 ⊢
  have hgp:g≠p:=λz=>by obtain⟨c0,t0,e0,_⟩:=hp;subst z;rw[e0]at hg;cases hg
  refine⟨_,rfl,?_⟩;refine⟨_,rfl,_,rfl,p,n,m,rfl,hp.same s1,hm1,by lia,λap cs H5 hap b5 p5 hLR hord hbox hcl hcB=>?_⟩;refine⟨ap,cs,rfl,(let ⟨vs,h1,h2⟩:=hLR;⟨vs,SqL.of h1,h2⟩),hord,by lia,λpr H8 rv R R0 hpr s8 e8 hvr hpm _ hwh=>?_⟩;have hrc:=Whole.rnd hpm hwh
  have hRl:R.length<=m:=by obtain⟨ESS,hP,_⟩:=hwh;rw[hpm.length_eq];have:=hP.few;lia
  have e8g:H8 g=some (.lst []):=s8 _ _ (b5 _ _ hgp e1);have b18:But H1 H8 p:=λz o hz h=>s8 _ _ (b5 z o hz h)
  have p8:HasB H8 p n:=p5.same s8;refine⟨pr,rfl,⟨_,SqL.of e8⟩,?_⟩
  have hprg:pr≠g:=λz=>by have:=b5 _ _ hgp e1;rw[<- z,hpr]at this;cases this
  refine zar (K:=K) (a:=pr) (xs:=rv) (λj σ H9=>∃(left:Nat) (o5:Option V) (R':List Rnd) (us:List V),σ=[some (.ref p),some (.int m),some (.int st),some (.ref g),some (.int left),o5]/\But H8 H9 g/\KT H8 H9/\H9 g=some (.lst us)/\VR us R' rR H9/\R'.Sublist (R.take j)/\(R'.map (·.row.length)).sum+left=st)
   ⟨st,_,[],[],rfl,But.refl _ _,KT.refl _,e8g,VR.nil,List.nil_sublist _,by simp⟩ (λj σ H9 _ ⟨_,_,_,_,_,b9,_⟩=>SqL.of (b9 _ _ hprg e8)) ?_ ?_
  .rintro j v σ H9 hj ⟨left,o5,R',us,rfl,b9,k9,e9,hv9,hsub,hsum⟩;obtain⟨r,hr',q,rw',rfl,q1,q2⟩:=hvr.at hj;have hjl:j<R.length:=(Ab.mp hr').1;unfold gName;refine⟨_,rfl,q,_,_,_,rfl,rfl,SqT.of (k9 _ _ q1),zai (j:=3) rfl,rw',_,rfl,.inr (SqT.of (k9 _ _ q2)),?_⟩;have hrl:(rowV r.row).length=r.row.length:=by unfold rowV;rw[Af]
   refine⟨_,rfl,_,_,rfl,rfl,_,rfl,?_⟩;have hsn:R'.Sublist (R.take (j+1)):=by rw[zaq hr'];exact hsub.trans (List.sublist_append_left _ _)
   have hR'l:R'.length<=m:=by have:=hsub.length_le;rw[Av]at this;lia
   have hus:us.length<=60:=by rw[hv9.1];lia
   refine ite2 (λhy=>?_) (λhn=>?_)
   .have hle:r.row.length<=left:=by have:=of_decide_eq_true hy;lia
    have hqg:q≠g:=λz=>by have h1:=k9 _ _ q1;rw[z,e9]at h1;cases h1
    have hrg:rw'≠g:=λz=>by have h1:=k9 _ _ q2;rw[z,e9]at h1;cases h1
    refine⟨_,rfl,.inl ⟨rfl,_,SqL.of e9⟩,_,rfl,g,us,_,rfl,rfl,e9,zaj (by lia),?_⟩;have kL:=KT.lst (o:=.lst (us++[V.ref q])) e9;have eL:upd H9 g (.lst (us++[V.ref q])) g=some (.lst (us++[V.ref q])):=zaa;have bL:But H9 (upd H9 g (.lst (us++[V.ref q]))) g:=λz o hz h=>by rw[zal hz];exact h
    generalize upd H9 g (.lst (us++[V.ref q]))=H10 at kL eL bL;have kA:=k9.trans kL;refine⟨_,rfl,_,rfl,q,_,_,_,rfl,rfl,SqT.of (kA _ _ q1),zai (j:=3) rfl,rw',_,rfl,.inr (SqT.of (kA _ _ q2)),_,_,rfl,rfl,?_⟩;refine⟨left-r.row.length,some (.ref q),R'++[r],us++[.ref q],?_,b9.trans bL,kA,eL,?_,?_,?_⟩
    .show [some (V.ref p),some (V.int m),some (V.int st),some (V.ref g),some (V.int ((left:Int)-((rowV r.row).length:Int))),some (V.ref q)]=_;rw[show (left:Int)-((rowV r.row).length:Int)=((left-r.row.length:Nat):Int) by rw[hrl];lia]
    .exact hv9.snoc (λx v h=>rR.kt h kL) ⟨q,rw',rfl,kA _ _ q1,kA _ _ q2⟩
    .rw[zaq hr'];exact List.Sublist.append hsub (List.Sublist.refl _)
    .rw[Ax,List.sum_append];simp;lia
   .exact⟨left,_,R',us,rfl,b9,k9,e9,hv9,hsn,hsum⟩
  .rintro σ H9 ⟨left,o5,R',us,rfl,b9,k9,e9,hv9,hsub,hsum⟩;have hsub':R'.Sublist R:=hsub.trans (List.take_sublist _ _);refine⟨_,rfl,k g cs R' us H9 hg (λz o hz h=>?_) ?_ e9 hv9 (λr hr=>hrc r (hsub'.subset hr)) (A8 hsub'.length_le hRl) (by lia) hbox⟩
   .exact b9 _ _ (λzz=>by rw[zz,hg]at h;cases h) (b18 z o hz (s1 _ _ h))
   .obtain⟨c0,t0,e0,q0⟩:=p8;exact⟨c0,t0,b9 _ _ (Bq hgp) e0,q0⟩
noncomputable def allK(R:List Rnd):List (List Nat):=R.map λr=>AE (spo r).length
theorem zda(sp:List Cell)(B:Int):Near sp B (AE sp.length):=λm i j h1 h2 t ht1 ht2=>by
 exfalso;have hm:m<sp.length:=by have:=(Ab.mp h1).1;rwa [A6]at this
 rw[BG hm]at h1
 cases h1
 unfold nxs at h2;rcases A1 (m+1) sp.length with z |z
 .rw[As (by rw[AS,A6];lia),BD,BG (by lia)]at h2
  cases h2
  lia
 .rw[AD (by rw[AS,A6];lia)]at h2;have:m-((AE sp.length).drop 1).length=0:=by rw[AS,A6];lia
  rw[this]at h2
  cases h2
  lia
theorem zfp{R:List Rnd}{i:Nat}{r:Rnd}{ks:List Nat}(h1:R[i]?=some r)(h2:(allK R)[i]?=some ks):ks=AE (spo r).length:=by
 unfold allK at h2;rw[Ap,h1]at h2
 cases h2;rfl
theorem zdy:∀{R:List Rnd}{t:TH.Side},t∈allS (R.map spo) (allK R)->∃r∈R,t∈sds (spo r) (AE (spo r).length)
 |[],t,h=>by cases h
 |r::R,t,h=>by
  rcases A2.mp (show t∈sds (spo r) (AE (spo r).length)++allS (R.map spo) (allK R) from h) with z |z
  .exact⟨r,Aq,z⟩
  .obtain⟨r',h1,h2⟩:=zdy z;exact⟨r',Ak _ h1,h2⟩
theorem zcI:∀R:List Rnd,(allS (R.map spo) (allK R)).length<=(R.map (·.row.length)).sum+R.length
 |[]=>AV _
 |r::R=>by
  have ih:=zcI R;have hsl:=zav r;show (sds (spo r) (AE (spo r).length)++allS (R.map spo) (allK R)).length<=_;rw[Al]
  have:(sds (spo r) (AE (spo r).length)).length=(spo r).length:=by unfold sds;rw[Af,zbC,A6]
  rw[this,Ba,CA,AQ];lia
theorem zcC:∀{R:List Rnd}{r:Rnd},r∈R->r.row.length<=(R.map (·.row.length)).sum
 |[],_,h=>by cases h
 |q::R,r,h=>by
  rw[Ba,CA];rcases Ao.mp h with z |z
  .subst z;lia
  .have:=zcC z;lia
theorem zds{sp:List Cell}{ks:List Nat}(h:∀k∈ks,k<sp.length):∀t∈sds sp ks,t.1∈sp/\t.2∈sp:=λt ht=>by obtain⟨⟨i,j⟩,hp,rfl⟩:=AF.mp ht;rw[zcE]at hp;have hi:=h i (Dm hp).1;exact⟨zbq hi,zbq (C3 _ (by lia))⟩
structure Drw (R:List Rnd) (TT:List (List Nat)) (B:Int) (L:List Cell):Prop where
 b:Thb R TT B L
 near:zbp R TT B
 nox:NoX (allS (R.map spo) TT)
theorem Drw.start{cs:List Cell}{R:List Rnd}{m st:Nat}{B:Int}(h:∀r∈R,RndC cs r)(hm:m<=60)(hl:R.length<=m)(hs:(R.map (·.row.length)).sum<=st)(hst:st<=200)(hb:Boxed m cs)(b0:0<=B)(b1:B<=1000000):Drw R (allK R) B cs:=by
 have hrow:∀r∈R,r.row.length<=200:=λr hr=>by have:=zcC hr;lia
 have hcr:∀(i:Nat) r ks,R[i]?=some r->(allK R)[i]?=some ks->Crn (spo r).length ks/\ks.length<=481:=λi r ks h1 h2=>by rw[zfp h1 h2];have h3:=hrow r (Ah h1);have h4:=zav r;exact⟨Crn.range (by lia),by rw[A6];lia⟩
 have hal:=zcI R
 have hends:∀t∈allS (R.map spo) (allK R),Dsd cs t:=λt ht=>by obtain⟨r,hr,h2⟩:=zdy ht;obtain⟨k1,k2⟩:=zds (λk hk=>Dy.mp hk) t h2;exact⟨(h r hr).spot _ k1,(h r hr).spot _ k2⟩
 refine⟨⟨⟨?_,by lia,λr hr=>⟨(h r hr).facts.2.2.1,by have:=hrow r hr;lia⟩,λi r ks h1 h2=>zcu (hcr i r ks h1 h2).1 (hcr i r ks h1 h2).2,by lia⟩,λi r ks h1 h2=>(hcr i r ks h1 h2).1,b0,b1,?_,hends,λr hr=>(h r hr).spot⟩,?_,?_⟩
 .unfold allK;rw[Af]
 .intro a ha c hc;obtain⟨k1,k2,k3,k4⟩:=hb.near ha hc;unfold Df1;lia
 .intro i r ks h1 h2;rw[zfp h1 h2];exact zda _ _
 .refine zin (cs:=cs) λt ht=>?_
  obtain⟨r,hr,h2⟩:=zdy ht;exact (h r hr).sides t h2
theorem VR.newN{g:Addr}{H0 H H':Hp}{zs:List V}{TT:List (List Nat)}{p:Addr}(h:VR zs TT (thG g H0) H)(s:Same H H')(hp:H' p=none)(hn:zs.Nodup):(zs++[V.ref p]).Nodup:=by
 rw[CZ];refine⟨hn,by simp,λa ha b hb hab=>?_⟩;have:b=.ref p:=by simpa using hb
 subst this;subst hab;obtain⟨i,hi,e⟩:=Ay ha;obtain⟨x,_,c,e',_,_,q⟩:=h.at (Aa hi);rw[e]at e'
 cases e'
 rw[s _ _ q]at hp
 cases hp
noncomputable def spLso(K:W.Frag):Sp:=λvs H Q _=>∃(b:Addr) (ts:List V) (TT:List (List Nat)) (i s:Nat),vs=[.ref b,.int i,.int s]/\H b=some (.lst ts)/\VR ts TT thR H/\TT.length<=120/\(∀ks∈TT,ks.length<=481) /\
 ∀p H' us,H p=none->Same H H'->H' p=some (.lst us)->VR us (lss i s 0 TT) (thG p H) H'->us.Nodup->Q (.ref p) H'
theorem zgD (T:Txt P w K mg) (d:Df K mg "left_out" zbB ["thinning","index","spot"]):FnOk P w K mg base CX0 1 d.f d.fd ["thinning","index","spot"] (spLso K):=by
 refine d.F.ok zgo (λvs H Q E h=>?_) (λcdv A outer s H vs Q E hr h=>?_)
 .obtain⟨b,ts,TT,i,sp,rfl,_⟩:=h;rfl
 .obtain⟨b,ts,TT,i,sp,rfl,hb,hT,hl,hl2,k⟩:=h;have hu64:=hr.units;have nb0:(["at","corners","index","spot"]:List Str).Nodup:=by decide +kernel
  have nb1:(["other","at","index","spot"]:List Str).Nodup:=by decide +kernel
  refine⟨_,(zaf (zak (ziS (osc:=zad zbB) (N:=zeM) (N':=["at","corners","index","spot"]) (sel:=[none,none,some 1,some 2]) bOC (zgx (by rfl) T.nenumerate (pa_N (pv 0) zab)) (λ_ _ _ _ _=>(za8 (K:=K) (n:=2) (by rfl) (zag (ziP (i:=0) nb0 (by rfl) (Or.inr rfl)) (zag (nG 1 nb0) zaw)))) (λ_ _ _ _ _=>zaE) (λ_ _ _ _ _=>(zaF (osc:=relS (zj2 zbB) (zad zbB)) (N:=["at","corners","index","spot"]) (N':=["other","at","index","spot"]) (sel:=[none,some 0,some 2,some 3]) bO (zdu (K:=K) (pv 1)) (λ_ _ _ _ _=>(nG 0 nb1)) (λ_ _ _ _ _=>zca (zaD (zll (K:=K) hu64) (zaV (pa_N (pv 1) (pa_N (pv 0) zab))) (zaV (pa_N (pv 2) (pa_N (pv 3) zab))) (zax _))) (λ_ _ _ _ _=>(pv 0))))))),?_⟩;refine⟨_,rfl,b,rfl,⟨_,SqL.of hb⟩,λg hg=>?_⟩
  refine zff (K:=K) (a:=b) (xs:=ts) (λm σ H3=>∃o0 o1,σ=[o0,o1,some (.int i),some (.int sp)]/\Same H H3/\∃zs,H3 g=some (.lst zs)/\VR zs (lss i sp 0 (TT.take m)) (thG g H) H3/\zs.Nodup)
   ⟨_,_,rfl,Same.up hg,[],zaa,VR.nil,List.nodup_nil⟩ (λm σ H3 _ ⟨_,_,_,s3,_⟩=>SqL.of (s3 _ _ hb)) ?_ ?_
  .rintro m y σ H3 t hy ⟨o0,o1,rfl,s3,zs,e3,hz,hnd⟩ ht;obtain⟨ks,hk1,c,rfl,hc⟩:=hT.at hy;have hmT:m<TT.length:=(Ab.mp hk1).1;have hkl:=hl2 _ (Ah hk1);have s4:=Same.up (o:=.tup [.int m,.ref c]) ht;have e4t:upd H3 t (.tup [.int m,.ref c]) t=some (.tup [.int m,.ref c]):=zaa;generalize upd H3 t (.tup [.int m,.ref c])=H4 at s4 e4t;have s04:=s3.trans s4;refine⟨t,_,rfl,SqT.of e4t,rfl,_,_,rfl,_,_,rfl,rfl,?_⟩;refine zbe ?_
   refine⟨_,rfl,c,rfl,⟨_,SqL.of (s04 _ _ hc)⟩,λp hp=>?_⟩;have hpg:g≠p:=λq=>by rw[<- q,s4 _ _ e3]at hp;cases hp
   have hgp0:H p=none:=s04.free hp
   refine zar (K:=K) (a:=c) (xs:=rowV ks) (λq σ H5=>∃o,σ=[o,some (.int m),some (.int i),some (.int sp)]/\Same H4 H5/\H5 p=some (.lst (rowV (lsk i sp m (ks.take q)))))
    ⟨_,rfl,Same.up hp,zaa⟩ (λq σ H5 _ ⟨_,_,s5,_⟩=>SqL.of (s5 _ _ (s04 _ _ hc))) ?_ ?_
   .rintro q u σ H5 hu ⟨o,rfl,s5,e5⟩;unfold rowV at hu;rw[Ap]at hu;obtain⟨kq,hkq,rfl⟩:=AT.mp hu;have hql:q<ks.length:=(Ab.mp hkq).1
    have hln:(rowV (lsk i sp m (ks.take q))).length<=481:=by have h1:=Bo (λk=>decide (¬ (m=i/\k=sp))) (ks.take q);rw[Av]at h1;unfold rowV lsk;rw[Af];lia
    unfold gName;have hsn:lsk i sp m (ks.take (q+1))=lsk i sp m (ks.take q)++lsk i sp m [kq]:=by unfold lsk;rw[zaq hkq,BC]
    rw[hsn];have yes:¬ (m=i/\kq=sp)->lsk i sp m [kq]=[kq]:=λh=>by unfold lsk;rw[BS (p:=λk=>decide (¬ (m=i/\k=sp))) (decide_eq_true h)];rfl
    have no:(m=i/\kq=sp)->lsk i sp m [kq]=[]:=λh=>by unfold lsk;rw[Bp (by simpa using h)];rfl
    refine⟨_,rfl,_,rfl,two,λta hta=>?_⟩;have sa:=Same.up (o:=.tup [.int m,.int kq]) hta;have ea:upd H5 ta (.tup [.int m,.int kq]) ta=some (.tup [.int m,.int kq]):=zaa;generalize upd H5 ta (.tup [.int m,.int kq])=Ha at sa ea;refine⟨_,rfl,_,rfl,two,λtb htb=>?_⟩;have sb:=Same.up (o:=.tup [.int i,.int sp]) htb;have eb:upd Ha tb (.tup [.int i,.int sp]) tb=some (.tup [.int i,.int sp]):=zaa;generalize upd Ha tb (.tup [.int i,.int sp])=Hb at sb eb;have s5b:=sa.trans sb;have e5b:=s5b _ _ e5;refine⟨tI [(m:Int),(kq:Int)],tI [(i:Int),(sp:Int)],.tup (SqT.of (sb _ _ ea)) (RDs.ints [(m:Int),(kq:Int)]),.tup (SqT.of eb) (RDs.ints [(i:Int),(sp:Int)]),zbX _,zbX _,_,rfl,?_⟩;rw[zhv];refine ite2 (λhy=>?_) (λhn=>?_)
    .have hne:¬ (m=i/\kq=sp):=λz=>by rw[z.1,z.2]at hy;simp at hy
     refine⟨_,rfl,_,e5b,zaj (by lia),_,rfl,zap hp (s5.trans s5b),?_⟩;rw[zaa,yes hne];unfold rowV;rw[Ax];rfl
    .have he:m=i /\ kq=sp := by simp at hn;lia
     rw[no he,AX];exact⟨_,rfl,s5.trans s5b,e5b⟩
   .rintro σ H5 ⟨o,rfl,s5,e5⟩;rw[AJ (by unfold rowV;rw[Af];exact Ai _)]at e5;have e5g:=s5 _ _ (s4 _ _ e3);have hzl:zs.length<=120:=by rw[hz.1,zez,Av];lia
    refine⟨zs,e5g,zaj (by lia),_,_,rfl,zap hg (s04.trans s5),_,zaa,?_,hz.newN s4 hp hnd⟩;rw[zhn i sp TT 0 m ks hk1];refine VR.snoc hz (λx v ⟨c',e',n',f',h'⟩=>⟨c',e',n',f',?_⟩) ⟨p,rfl,Bq hpg,hgp0,?_⟩
    .rw[zal n'];exact s5 _ _ (s4 _ _ h')
    .rw[zal (Bq hpg),Nat.zero_add];exact e5
  .rintro σ H3 ⟨o0,o1,rfl,s3,zs,e3,hz,hnd⟩;rw[AJ (by rw[hT.1];exact Ai _)]at hz;exact k g H3 zs hg s3 e3 hz hnd
theorem thG.vr{g:Addr}{H0 H:Hp}{us:List V}{TT:List (List Nat)}(h:VR us TT (thG g H0) H):VR us TT thR H:=⟨h.1,λi x v h1 h2=>let ⟨c,e,_,_,q⟩:=h.2 i x v h1 h2;⟨c,e,q⟩⟩
theorem zeH{n:Nat}{ks:List Nat}(h:Crn n ks)(s:Nat):s∈ks.drop 1 ↔ s∈ks/\0<s:=by
 obtain⟨h1,h2,_⟩:=h
 cases ks with
 |nil=>simp at h2
 |cons k0 ks =>
  have:k0=0:=by simpa using h2
  subst this;rw[AU]at h1;rw[List.drop_succ_cons,List.drop_zero,Ao];constructor
  .intro z;exact⟨.inr z,h1.1 s z⟩
  .rintro⟨z |z,l⟩
   .lia
   .exact z
theorem zkV:∀(T:List (List Nat)) (i0:Nat) (m s:Nat) (ks:List Nat),T[m]?=some ks->s∈ks.drop 1->(i0+m,s)∈cnr i0 T
 |[],_,_,_,_,h,_=>by simp at h
 |k0::T,i0,0,s,ks,h,hs=>by
  simp at h;subst h;exact Cp _ (AF.mpr ⟨s,hs,rfl⟩)
 |k0::T,i0,m+1,s,ks,h,hs=>by
  have:=zkV T (i0+1) m s ks (by simpa using h) hs;rw[show i0+1+m=i0+(m+1) by lia]at this;exact Au _ this
theorem zf1:∀(T:List (List Nat)) (i0:Nat),(∀ks∈T,ks.Nodup)->(cnr i0 T).Nodup
 |[],_,_=>List.nodup_nil
 |k0::T,i0,h=>by
  show ((k0.drop 1).map (λs=>(i0,s))++cnr (i0+1) T).Nodup;rw[CZ];refine⟨?_,zf1 T (i0+1) λks hk=>h ks (Ak _ hk),?_⟩
  .have hn:(k0.drop 1).Nodup:=(h k0 Aq).sublist (List.drop_sublist _ _);exact List.pairwise_map.mpr (hn.imp λhab z=>hab (Prod.mk.inj z).2)
  .intro a ha b hb hab;obtain⟨s,_,rfl⟩:=AF.mp ha;obtain⟨m,ks,_,h2,_⟩:=zfi T (i0+1) b hb;rw[<- hab]at h2;simp only at h2;lia
noncomputable def fre (R:List Rnd) (B:Int) (T:List (List Nat)):List (Nat×Nat):=(cnr 0 T).filter (goB R T B)
noncomputable def stp1 (R:List Rnd) (B:Int) (T:List (List Nat)) (p:Nat×Nat):List (List Nat):=if goB R T B p=true then lss p.1 p.2 0 T else T
noncomputable def zln (R:List Rnd) (B:Int) (T:List (List Nat)):List (List Nat):=(fre R B T).foldl (stp1 R B) T
noncomputable def itP (R:List Rnd) (B:Int):Nat->List (List Nat)
 | 0=>allK R
 |k+1=>zln R B (itP R B k)
noncomputable def Fin1(R:List Rnd)(B:Int)(T:List (List Nat)):Prop:=∃k,T=itP R B k/\fre R B (itP R B k)=[]/\∀j,j<k->fre R B (itP R B j)≠[]
noncomputable def cnt(R:List Rnd)(T:List (List Nat)):Nat:=(allS (R.map spo) T).length
section
variable {R:List Rnd}{T:List (List Nat)}{B:Int}{L:List Cell}
theorem Thb.mem(h:Thb R T B L)(p:Nat×Nat):p∈cnr 0 T ↔ ∃ks,T[p.1]?=some ks/\p.2∈ks/\0<p.2:=by
 have hcr:∀(i:Nat) ks,T[i]?=some ks->∃n,Crn n ks:=λi ks hk=>by
  have hi:=(Ab.mp hk).1;have hiR:i<R.length:=by rw[h.th.len];exact hi
  exact⟨_,h.cr i _ ks (Aa hiR) hk⟩
 constructor
 .intro hp;obtain⟨m,ks,h1,h2,h3⟩:=zfi T 0 p hp;have hm:p.1=m:=by lia
  obtain⟨n,hc⟩:=hcr m ks h1;exact⟨ks,by rw[hm];exact h1,(zeH hc _).mp h3⟩
 .rintro⟨ks,h1,h2,h3⟩;obtain⟨n,hc⟩:=hcr _ ks h1;have:=zkV T 0 p.1 p.2 ks h1 ((zeH hc _).mpr ⟨h2,h3⟩);rw[Nat.zero_add]at this;exact this
theorem Thb.nodup(h:Thb R T B L):(cnr 0 T).Nodup:=zf1 T 0 λks hk=>by
 obtain⟨i,hi,e⟩:=Ay hk;have hiR:i<R.length:=by rw[h.th.len];exact hi
 have:=(h.cr i _ ks (Aa hiR) (by rw[Aa hi,e])).1;exact this.imp λ{a b} hab=>by lia
theorem Drw.step(h:Drw R T B L){p:Nat×Nat}(hp:p∈cnr 0 T):Drw R (stp1 R B T p) B L/\(∀q∈cnr 0 T,q≠p->q∈cnr 0 (stp1 R B T p))/\cnt R (stp1 R B T p)<=cnt R T/\(goB R T B p=true->cnt R (stp1 R B T p)<cnt R T):=by
 unfold stp1
 by_cases hg:goB R T B p=true
 .rw[if_pos hg];obtain⟨r,A,c,Bk,hC⟩:=h.b.crnr hp;have hls:=zje hC.lt1 hC.lt2 hC.lt3 T 0 p.1 hC.k1;rw[Nat.zero_add]at hls;have hi:p.1<T.length:=(Ab.mp hC.k1).1;have hcr:=h.b.cr p.1 r _ hC.r1 hC.k1;have hs:p.2<(spo r).length:=hcr.2.2 p.2 (by simp);have hsp:(R.map spo)[p.1]?=some (spo r):=by rw[Ap,hC.r1];rfl
  have hlen:(R.map spo).length=T.length:=by rw[Af];exact h.b.th.len
  obtain⟨X,Y,e1,e2⟩:=zcW hsp hC.k1 hlen hs;obtain⟨h1,h2⟩:=zlQ h.b h.near h.nox hC hg;have hb':=h.b.out hC
  have hcn:cnt R (T.set p.1 (A++c::Bk))<cnt R T:=by unfold cnt;rw[e1,e2];simp only[Al,AQ];lia
  rw[hls];refine⟨⟨hb',h1,h2⟩,λq hq hne=>?_,CM hcn,λ_=>hcn⟩;rw[hb'.mem];obtain⟨ks,k1,k2,k3⟩:=(h.b.mem q).mp hq
  by_cases hqi:p.1=q.1
  .rw[<- hqi,hC.k1]at k1
   cases k1
   refine⟨A++c::Bk,by rw[<- hqi,B5 hi],?_,k3⟩;have hq2:q.2≠p.2:=λz=>hne (Prod.ext hqi.symm z)
   simp only[A2,Ao]at k2 ⊢;rcases k2 with z |z |z |z
   .exact .inl z
   .exact .inr (.inl z)
   .exact absurd z hq2
   .exact .inr (.inr z)
  .exact⟨ks,by rw[Cq hqi];exact k1,k2,k3⟩
 .rw[if_neg hg];exact⟨h,λq hq _=>hq,Ai _,λz=>absurd z hg⟩
end
structure Sml (R:List Rnd) (L:List Cell):Prop where
 row:∀r∈R,∀s∈r.row,s<8
 len:R.length<=60
 sum:(R.map (·.row.length)).sum<=200
 sp:∀r∈R,∀t∈spo r,t∈L
 dL:Dfs L
 nox:NoX (allS (R.map spo) (allK R))
theorem Sml.of{R:List Rnd}{cs:List Cell}{m st:Nat}(h:∀r∈R,RndC cs r)(hm:m<=60)(hl:R.length<=m)(hs:(R.map (·.row.length)).sum<=st)(hst:st<=200)(hb:Boxed m cs):Sml R cs:=by have hD:=Drw.start (B:=0) h hm hl hs hst hb (by decide) (by decide);exact⟨λr hr=>(h r hr).facts.2.2.1,by lia,by lia,λr hr=>(h r hr).spot,hD.b.dL,hD.nox⟩
theorem Sml.start{R:List Rnd}{L:List Cell}{B:Int}(h:Sml R L)(b0:0<=B)(b1:B<=1000000):Drw R (allK R) B L:=by
 have hsum:=h.sum;have hlen:=h.len;have hrow:∀r∈R,r.row.length<=200:=λr hr=>by have:=zcC hr;lia
 have hcr:∀(i:Nat) r ks,R[i]?=some r->(allK R)[i]?=some ks->Crn (spo r).length ks/\ks.length<=481:=λi r ks h1 h2=>by rw[zfp h1 h2];have h3:=hrow r (Ah h1);have h4:=zav r;exact⟨Crn.range (by lia),by rw[A6];lia⟩
 have hal:=zcI R
 have hends:∀t∈allS (R.map spo) (allK R),Dsd L t:=λt ht=>by obtain⟨r,hr,h2⟩:=zdy ht;obtain⟨k1,k2⟩:=zds (λk hk=>Dy.mp hk) t h2;exact⟨h.sp r hr _ k1,h.sp r hr _ k2⟩
 refine⟨⟨⟨?_,by lia,λr hr=>⟨h.row r hr,by have:=hrow r hr;lia⟩,λi r ks h1 h2=>zcu (hcr i r ks h1 h2).1 (hcr i r ks h1 h2).2,by lia⟩,λi r ks h1 h2=>(hcr i r ks h1 h2).1,b0,b1,h.dL,hends,h.sp⟩,?_,h.nox⟩
 .unfold allK;rw[Af]
 .intro i r ks h1 h2;rw[zfp h1 h2];exact zda _ _
noncomputable def zfB(K:W.Frag):Sp:=λvs H Q _=>∃(a:Addr) (B:Int) (cs:List Cell) (R:List Rnd) (rs:List V),vs=[.ref a,.int B]/\H a=some (.lst rs)/\VR rs R rR H/\Sml R cs/\0<=B/\B<=1000000 /\
 ∀(b:Addr) (TT:List (List Nat)) (ts:List V) (H':Hp),H b=none->Same H H'->H' b=some (.lst ts)->VR ts TT (thG b H) H'->ts.Nodup->Drw R TT B cs->Fin1 R B TT->Q (.ref b) H'
theorem zhX (T:Txt P w K mg) (g_spots_of:Fn P w K mg base 2 "spots_of" ["one"] (zb4 K)) (g_leavable:Fn P w K mg base 6 "leavable" ["some", "bound", "thinning"] (zcZ K)) (g_can_leave_out:Fn P w K mg base 5 "can_leave_out" ["some", "bound", "thinning", "index", "spot"] (spCan K))
  (g_left_out:Fn P w K mg base 1 "left_out" ["thinning","index","spot"] (spLso K)) (d:Df K mg "thinned" zcO ["some","bound"]):FnOk P w K mg base CX0 7 d.f d.fd ["some","bound"] (zfB K):=by
 refine d.F.ok zbm (λvs H Q E h=>?_) (λcdv A outer s H vs Q E hr h=>?_)
 .obtain⟨a,B,cs,R,rs,rfl,_⟩:=h;rfl
 .obtain⟨a,B,cs,R,rs,rfl,ha,hR,hS,b0,b1,k⟩:=h;have nb0:(["one"]:List Str).Nodup:=by decide +kernel
  refine⟨_,(zac (zhf (i:=2) (osc:=zad zcO) (N:=zgb) (N':=["one"]) (sel:=[none]) bO zbm.nd (by rfl) (Or.inl rfl) (zaB (pv 0)) (λ_ _ _ _ _=>(nG 0 nb0)) (λ_ _ _ _ _=>zaE) (λ_ _ _ _ _=>(zhW (by rfl) T.nlist (by rfl) T.nrange (zah (zam (zfm (K:=K)) (by rfl) T.nlen (by rfl) (zah (pC g_spots_of hr (pa_N (pv 0) zab)) zab)) zab))))
   (zac (sE 3 zbm.nd (pC g_leavable hr (pa_N (pv 0) (pa_N (pv 1) (pa_N (pv 2) zab)))))
   (zac (ze0 A3 (zhe (pv 3) (λ_=>rfl))
   (zac (zbI A3 rfl (zaB (pv 3)) (zbk (by rfl) (zag (nG 4 zbm.nd) (zag (nG 5 zbm.nd) zaw)))
   (zaf (ps_if (zbj (pC g_can_leave_out hr (pa_N (pv 0) (pa_N (pv 1) (pa_N (pv 2) (pa_N (pv 4) (pa_N (pv 5) zab)))))))
   (zaf (sE 2 zbm.nd (pC g_left_out hr (pa_N (pv 2) (pa_N (pv 4) (pa_N (pv 5) zab))))))
   zaA)))
   (zaf (sE 3 zbm.nd (pC g_leavable hr (pa_N (pv 0) (pa_N (pv 1) (pa_N (pv 2) zab))))))))
   (zaf (zak (pv 2)))))),?_⟩
  refine⟨_,rfl,a,rfl,⟨_,SqL.of ha⟩,λg hg=>?_⟩
  refine zar (K:=K) (a:=a) (xs:=rs) (λj σ H3=>∃o,σ=[o]/\Same H H3/\∃zs,H3 g=some (.lst zs)/\VR zs (allK (R.take j)) (thG g H) H3/\zs.Nodup)
   ⟨_,rfl,Same.up hg,[],zaa,VR.nil,List.nodup_nil⟩ (λj σ H3 _ ⟨_,_,s3,_⟩=>SqL.of (s3 _ _ ha)) ?_ ?_
  .rintro j v σ H3 hj ⟨o,rfl,s3,zs,e3,hz,hnd⟩;obtain⟨r,hr1,hxr⟩:=hR.at hj;have hjl:j<R.length:=(Ab.mp hr1).1;have hrl:r.row.length<=200:=by have:=zcC (Ah hr1);have:=hS.sum;lia
   have hSl:=hS.len;refine gN ?_
   refine⟨_,rfl,v,r,rfl,hxr.kt (KT.of s3),hS.row r (Ah hr1),by lia,λpS H5 us hpS s5 e5 hus=>?_⟩;have hul:=hus.1;have hspl:=zav r;have e5g:=s5 _ _ e3;refine⟨pS,us,rfl,.inl (SqL.of e5),?_⟩;refine⟨us.length,rfl,by lia,λS hS=>?_⟩;have hSg:S≠g:=λz=>by rw[z,e5g]at hS;cases hS
   have s35:=s3.trans s5;have s6:=Same.up (o:=.lst ((AE us.length).map λi:Nat=>V.int i)) hS;have e6:upd H5 S (.lst ((AE us.length).map λi:Nat=>V.int i)) S=some (.lst (rowV (AE us.length))):=zaa;generalize upd H5 S (.lst ((AE us.length).map λi:Nat=>V.int i))=H6 at s6 e6 ⊢;have e6g:=s6 _ _ e5g
   have hzl:zs.length<=60:=by rw[hz.1];unfold allK;rw[Af,Av];lia
   refine⟨zs,e6g,zaj (by lia),_,rfl,zap hg (s35.trans s6),_,zaa,?_,hz.newN s5 hS hnd⟩
   have hak:allK (R.take (j+1))=allK (R.take j)++[AE (spo r).length]:=by unfold allK;rw[zaq hr1,Ax];rfl
   rw[hak];refine VR.snoc hz (λx v ⟨c',e',n',f',h'⟩=>⟨c',e',n',f',?_⟩) ⟨S,rfl,hSg,s35.free hS,?_⟩
   .rw[zal n'];exact s6 _ _ (s5 _ _ h')
   .rw[zal hSg,<- hul];exact e6
  .rintro σ H3 ⟨o,rfl,s3,zs,e3,hz,hnd⟩;rw[AJ (by rw[hR.1];exact Ai _)]at hz;have hD:Drw R (allK R) B cs:=hS.start b0 b1;refine⟨_,rfl,_,rfl,_,rfl,a,g,rs,zs,R,allK R,B,cs,rfl,s3 _ _ ha,hR.mono (λx v h=>rR.kt h (KT.of s3)),e3,thG.vr hz,hD.b,λpf H4 fs hpf s4 e4 hvf=>?_⟩
   refine⟨λn σ H5=>∃(kk:Nat) (g pf:Addr) (zs fs:List V) (TT:List (List Nat)) (o4 o5:Option V),σ=[some (.ref a),some (.int B),some (.ref g),some (.ref pf),o4,o5]/\Same H H5/\H g=none/\H5 g=some (.lst zs)/\VR zs TT (thG g H) H5/\zs.Nodup/\Drw R TT B cs/\H5 pf=some (.lst fs)/\VR fs (fre R B TT) pR H5/\TT=itP R B kk/\(∀j,j<kk->fre R B (itP R B j)≠[])/\cnt R TT=n,
    ⟨_,0,g,pf,zs,fs,allK R,_,_,rfl,s3.trans s4,hg,s4 _ _ e3,hz.mono (λx v ⟨c,e,n,f,q⟩=>⟨c,e,n,f,s4 _ _ q⟩),hnd,hD,e4,hvf,rfl,λj hj=>absurd hj (CT _),rfl⟩,?_⟩
   clear hz hvf e4 e3;rintro n σ H5 ⟨kk,g,pf,zs,fs,TT,o4,o5,rfl,s5,hg,e5,hz,hnd,hD,e5f,hvf,hTT,hne,hcnt⟩;have hD0:=hD
   have hfl:fs.length<=900:=by rw[hvf.1];have h1:=Bo (goB R TT B) (cnr 0 TT);have h2:=zjz (R.map spo) TT 0 (by rw[Af];exact hD.b.th.len);have h3:=hD.b.th.all;unfold fre;lia
   refine⟨_,rfl,decide (0<fs.length),?tru,?_⟩
   case tru=>exact .inl ⟨fs,SqL.of e5f,by cases fs <;> simp⟩
   refine ite2 (λhy=>?_) (λhn=>?_)
   .have hfp:0<fs.length:=of_decide_eq_true hy;refine⟨λσ H6=>∃m',m'<n/\∃(kk:Nat) (g pf:Addr) (zs fs:List V) (TT:List (List Nat)) (o4 o5:Option V),σ=[some (.ref a),some (.int B),some (.ref g),some (.ref pf),o4,o5]/\Same H H6/\H g=none/\H6 g=some (.lst zs)/\VR zs TT (thG g H) H6/\zs.Nodup/\Drw R TT B cs/\H6 pf=some (.lst fs)/\VR fs (fre R B TT) pR H6/\TT=itP R B kk/\(∀j,j<kk->fre R B (itP R B j)≠[])/\cnt R TT=m',λσ' H' h=>h,?_⟩;refine⟨_,rfl,pf,rfl,⟨_,SqL.of e5f⟩,?_⟩
    refine zar (K:=K) (a:=pf) (xs:=fs) (λj σ H6=>∃(g:Addr) (zs:List V) (TJ:List (List Nat)) (o4 o5:Option V),σ=[some (.ref a),some (.int B),some (.ref g),some (.ref pf),o4,o5]/\Same H5 H6/\H g=none/\H6 g=some (.lst zs)/\VR zs TJ (thG g H) H6/\zs.Nodup/\Drw R TJ B cs/\TJ=((fre R B TT).take j).foldl (stp1 R B) TT/\(∀q∈(fre R B TT).drop j,q∈cnr 0 TJ)/\cnt R TJ<=n/\(0<j->cnt R TJ<n))
     ⟨g,zs,TT,_,_,rfl,Same.refl _,hg,e5,hz,hnd,hD,rfl,λq hq=>(Dk.mp hq).1,Nat.le_of_eq hcnt,λz=>absurd z (BI _)⟩ (λj σ H6 _ ⟨_,_,_,_,_,_,s6,_⟩=>SqL.of (s6 _ _ e5f)) ?_ ?_
    .rintro j v σ H6 hj ⟨g,zs,TJ,o4,o5,rfl,s6,hg,e6,hz,hnd,hD,hTJ,hrest,hc1,hc2⟩;obtain⟨p,hp,x,rfl,hx⟩:=hvf.at hj;have hjl:j<(fre R B TT).length:=(Ab.mp hp).1
     have hdr:(fre R B TT).drop j=p::(fre R B TT).drop (j+1):=by
      rw[Cj hjl]
      congr 1
      have:=Aa hjl;rw[hp]at this;exact (AO this).symm
     have hpc:p∈cnr 0 TJ:=hrest p (by rw[hdr];exact Aq);obtain⟨hD',hk',hc1',hc2'⟩:=hD.step hpc;obtain⟨r,A0,c0,Bk,hC⟩:=hD.b.crnr hpc;have hndF:(fre R B TT).Nodup:=(hD0.b.nodup).sublist List.filter_sublist
     have hTJ':stp1 R B TJ p=((fre R B TT).take (j+1)).foldl (stp1 R B) TT:=by rw[zaq hp,List.foldl_append,<- hTJ];rfl
     have hrest':∀q∈(fre R B TT).drop (j+1),q∈cnr 0 (stp1 R B TJ p):=λq hq=>by
      refine hk' q (hrest q (by rw[hdr];exact Ak _ hq)) λz=>?_
      have hnd2:((fre R B TT).drop j).Nodup:=hndF.sublist (List.drop_sublist _ _);rw[hdr,List.nodup_cons]at hnd2;exact hnd2.1 (z ▸ hq)
     have hfst:0<j+1->cnt R (stp1 R B TJ p)<n:=λ_=>by
      rcases Du j with z |z
      .subst z;have hTT0:TJ=TT:=by rw[hTJ];rfl
       have hgo:goB R TJ B p=true:=by rw[hTT0];exact (Dk.mp (Ah hp)).2
       have:=hc2' hgo;lia
      .have:=hc2 z;lia
     have s56:=s5.trans s6;refine⟨x,_,rfl,SqT.of (s6 _ _ hx),rfl,_,_,rfl,_,_,rfl,rfl,?_⟩;refine⟨_,rfl,_,rfl,_,rfl,_,rfl,_,rfl,a,g,rs,zs,R,TJ,B,cs,p.1,p.2,r,A0,c0,Bk,rfl,s56 _ _ ha,hR.mono (λx v h=>rR.kt h (KT.of s56)),e6,thG.vr hz,hC,λbb H7 s7 hbb=>?_⟩
     have hbg:bb=goB R TJ B p:=by rw[Cm,hbb];exact hC.uniq.symm
     refine⟨_,rfl,?_⟩;refine ite2 (λhy2=>?_) (λhn2=>?_)
     .have hst:stp1 R B TJ p=lss p.1 p.2 0 TJ:=by unfold stp1;rw[if_pos (hbg ▸ hy2)]
      have h481:∀ks'∈TJ,ks'.length<=481:=λks' hk'=>by
       obtain⟨q,hq,e⟩:=Ay hk';have hqR:q<R.length:=by rw[hD.b.th.len];exact hq
       exact (hD.b.th.crn q _ ks' (Aa hqR) (by rw[Aa hq,e])).2.1
      have hfew:=hD.b.th.few;have hTl:=hD.b.th.len;refine⟨_,rfl,_,rfl,_,rfl,g,zs,TJ,p.1,p.2,rfl,s7 _ _ e6,(thG.vr hz).mono (λx v h=>h.same s7),by lia,h481,λg2 H8 us2 hg2 s8 e8 hv8 hnd2=>?_⟩;have s08:=s56.trans (s7.trans s8);have fr:∀c,H7 c=none->H c=none:=λc f=>(s56.trans s7).free f
      refine⟨g2,us2,_,_,_,rfl,s6.trans (s7.trans s8),fr g2 hg2,e8,⟨hv8.1,λi x v h1 h2=>let ⟨c,e,n,f,q⟩:=hv8.2 i x v h1 h2;⟨c,e,n,fr c f,q⟩⟩,hnd2,?_⟩;rw[<- hst];exact⟨hD',hTJ',hrest',by lia,hfst⟩
     .have hst:stp1 R B TJ p=TJ := by unfold stp1;rw[if_neg];rw[<- hbg];exact hn2
      rw[hst]at hD' hTJ' hrest' hfst hc1';exact⟨g,zs,TJ,_,_,rfl,s6.trans s7,hg,s7 _ _ e6,hz.mono (λx v ⟨c,e,n,f,q⟩=>⟨c,e,n,f,s7 _ _ q⟩),hnd,hD',hTJ',hrest',hc1,hfst⟩
    .rintro σ H6 ⟨g,zs,TJ,o4,o5,rfl,s6,hg,e6,hz,hnd,hD,hTJ,hrest,hc1,hc2⟩;rw[hvf.1,AW]at hTJ;have hc3:=hc2 hfp;have s56:=s5.trans s6;refine⟨_,rfl,_,rfl,_,rfl,a,g,rs,zs,R,TJ,B,cs,rfl,s56 _ _ ha,hR.mono (λx v h=>rR.kt h (KT.of s56)),e6,thG.vr hz,hD.b,λpf2 H7 fs2 hpf2 s7 e7 hvf2=>?_⟩;refine⟨_,hc3,kk+1,g,pf2,zs,fs2,TJ,_,_,rfl,s56.trans s7,hg,s7 _ _ e6,hz.mono (λx v ⟨c,e,n,f,q⟩=>⟨c,e,n,f,s7 _ _ q⟩),hnd,hD,e7,hvf2,?_,λj hj=>?_,rfl⟩
     .rw[hTJ,hTT];rfl
     .rcases A1 j kk with z |z
      .exact hne j z
      .have:j=kk:=by lia
       subst this;rw[<- hTT];intro z;rw[hvf.1,z]at hfp;exact absurd hfp (by decide)
   .have hf0:fre R B TT = [] := by
     have:¬ 0<fs.length:=λz=>hn (decide_eq_true z)
     rw[hvf.1]at this;exact B3 (by lia)
    exact⟨_,rfl,k g TT zs H5 hg s5 e5 hz hnd hD ⟨kk,hTT,by rw[<- hTT];exact hf0,hne⟩⟩
noncomputable def zg3:Sp:=λvs H Q _=>∃n:Int,vs=[.int n]/\Q (.bl true) H
theorem zgG (T:Txt P w K mg) (d:Df K mg "is_whole" zc4 ["thing"]):FnOk P w K mg base CX0 1 d.f d.fd ["thing"] zg3:=by
 refine d.F.ok zgp (λvs H Q E h=>?_) (λcdv A outer s H vs Q E hr h=>?_)
 .obtain⟨n,rfl,_⟩:=h;rfl
 .obtain⟨n,rfl,k⟩:=h;refine⟨_,(zaf (zak (zfN (zam zdx (by rfl) T.nisinstance (by rfl) (pa_N (pv 0) (pa_N (ze3 (v:=.ty "int") (by rfl) T.nint (by rfl) rfl) zab))) (zfK (ziR (zam zdx (by rfl) T.nisinstance (by rfl) (pa_N (pv 0) (pa_N (ze3 (v:=.ty "bool") (by rfl) T.nbool (by rfl) rfl) zab)))))))),?_⟩;refine⟨_,rfl,_,_,_,true,rfl,TyOf.int _,rfl,_,rfl,?_⟩;refine ite2 (λ_=>?_) (λhn=>absurd rfl hn);exact⟨_,rfl,_,_,_,false,rfl,TyOf.int _,rfl,_,rfl,k⟩
noncomputable def zkE(K:W.Frag):Sp:=λvs H Q _=>∃(v:V) (r:Rnd) (c:Addr) (ks:List Nat),vs=[v,.ref c]/\rR r v H/\(∀s∈r.row,s<8)/\r.row.length<=480/\H c=some (.lst (rowV ks))/\Crn (spo r).length ks/\ks.length<=481/\∀H',Same H H'->Q (.bl true) H'
theorem zek (T:Txt P w K mg) (g_is_whole:Fn P w K mg base 1 "is_whole" ["thing"] zg3) (g_spots_of:Fn P w K mg base 2 "spots_of" ["one"] (zb4 K)) (d:Df K mg "are_corners" zbg ["one","thing"]):FnOk P w K mg base CX0 3 d.f d.fd ["one","thing"] (zkE K):=by
 refine d.F.ok zcx (λvs H Q E h=>?_) (λcdv A outer s H vs Q E hr h=>?_)
 .obtain⟨v,r,c,ks,rfl,_⟩:=h;rfl
 .obtain⟨v,r,c,ks,rfl,hv,h8,hlen,hc,hcr,hgl,k⟩:=h;have nb0:(["spot"]:List Str).Nodup:=by decide +kernel
  have nb1:(["at","thing"]:List Str).Nodup:=by decide +kernel
  refine⟨_,(zac (ps_if (pw_or (zce (zbj (zam zdx (by rfl) T.nisinstance (by rfl) (pa_N (pv 1) (pa_N (ze3 (v:=.ty "list") (by rfl) T.nlist (by rfl) rfl) zab))))) (pw_or (zce (zhe (pv 1) (λ_=>rfl))) (zhd (zce (zbj (zam (zb2 rfl) (by rfl) T.nall (by rfl) (zah (zaF (osc:=zad zbg) (N:=zcc) (N':=["spot"]) (sel:=[none]) bO (zaB (pv 1)) (λ_ _ _ _ _=>(nG 0 nb0)) (λ_ _ _ _ _=>zaE) (λ_ _ _ _ _=>(pC g_is_whole hr (pa_N (pv 0) zab)))) zab))))))).pt
   (zaf (zak pe_bl))
   zaA)
   (zac (sE 2 zcx.nd (zam (zb2 rfl) (by rfl) T.nall (by rfl) (zah (zaF (osc:=zad zbg) (N:=zcc) (N':=["at","thing"]) (sel:=[none,some 1]) bO (zdS (by rfl) T.nrange (pa_C zae (zah (zam zan (by rfl) T.nlen (by rfl) (pa_N (pv 1) zab)) zab))) (λ_ _ _ _ _=>(nG 0 nb1)) (λ_ _ _ _ _=>zaE) (λ_ _ _ _ _=>(za2 op_lt (pe_ix (zdw (K:=K)) (pv 1) (pe_op zaI (pv 0) zae) (λ_ _=>rfl)) (pe_ix (zdw (K:=K)) (pv 1) (pv 0) (λ_ _=>rfl)) (zax _)))) zab)))
   (zaf (zak (zfN (pv 2) (zfN (za2 op_eq (pe_ix zas (pv 1) zae (λ_ _=>rfl)) zae (zax _)) (zfK (za2 op_lt (pe_ix zas (pv 1) (pe_un zdA zae) (λ_ _=>rfl)) (zam zan (by rfl) T.nlen (by rfl) (zah (pC g_spots_of hr (pa_N (pv 0) zab)) zab)) (zax _))))))))),?_⟩
  have hrl:(rowV ks).length=ks.length:=by unfold rowV;rw[Af]
  have h0:=hcr.2.1;have hk0:1<=ks.length:=(Ab.mp h0).1;refine⟨_,rfl,_,_,_,true,rfl,TyOf.lst hc,rfl,_,rfl,?_⟩;refine ite2 (λhy=>absurd hy (by decide)) (λ_=>?_);refine⟨_,rfl,true,.inl ⟨_,SqL.of hc,?_⟩,?_⟩
  .cases ks with
   |nil=>simp at hk0
   |cons a r=>rfl
  refine ite2 (λhy=>absurd hy (by decide)) (λ_=>?_);refine⟨_,rfl,c,rfl,⟨_,SqL.of hc⟩,λgb hgb=>?_⟩
  refine zar (K:=K) (a:=c) (xs:=rowV ks) (λj σ H1=>∃o,σ=[o]/\Same H H1/\H1 gb=some (.lst ((CI j true).map V.bl)))
   ⟨_,rfl,Same.up hgb,zaa⟩ (λj σ H1 _ ⟨_,_,s1,_⟩=>SqL.of (s1 _ _ hc)) ?_ ?_
  .rintro j u σ H1 hj ⟨o,rfl,s1,e1⟩;have hjl:j<(rowV ks).length:=(Ab.mp hj).1;unfold rowV at hj;rw[Ap]at hj;obtain⟨kq,hkq,rfl⟩:=AT.mp hj;refine gN ?_
   refine⟨_,rfl,_,rfl,_,e1,zaj (by simp;lia),_,rfl,zap hgb s1,?_⟩;rw[zaa,List.replicate_succ',Ax];rfl
  rintro σ H1 ⟨o,rfl,s1,e1⟩;have hall:(CI (rowV ks).length true).all id=true:=by rw[Da];intro x hx;rw[Dj hx];rfl
  refine⟨gb,_,rfl,SqL.of e1,_,rfl,?_⟩;rw[hall];refine ite2 (λhy=>absurd hy (by decide)) (λ_=>?_);have c1:=s1 _ _ hc;refine⟨_,rfl,c,_,rfl,.inl (SqL.of c1),_,_,rfl,⟨by decide,by decide,by lia,by rw[hrl];lia⟩,λga hga=>?_⟩;have hn:(((rowV ks).length:Int)-1).toNat=ks.length-1:=by rw[hrl];lia
  rw[show (((rowV ks).length:Int)-1).toNat=ks.length-1 from hn]
  refine zbv (lo:=1) (n:=ks.length-1) (λq σ H2=>∃o,σ=[o,some (.ref c)]/\Same H1 H2/\H2 ga=some (.lst ((CI q true).map V.bl)))
   ⟨_,rfl,Same.up hga,zaa⟩ ?_ ?_
  .rintro q σ H2 hq ⟨o,rfl,s2,e2⟩;have h1:q<ks.length:=by lia
   have h2:1+q<ks.length:=by lia
   have hlt:=BE.mp hcr.1 q (1+q) h1 h2 (by lia);have a1:(rowV ks)[q]?=some (.int (ks[q]:Nat)):=by unfold rowV;rw[Ap,Aa h1];rfl
   have a2:(rowV ks)[1+q]?=some (.int (ks[1+q]:Nat)):=by unfold rowV;rw[Ap,Aa h2];rfl
   generalize ks[q]=k1 at hlt a1;generalize ks[1+q]=k2 at hlt a2;have c2:=s2 _ _ c1;refine gN ?_
   refine⟨_,rfl,_,rfl,_,_,rfl,rfl,c,_,_,_,rfl,rfl,SqL.of c2,(by rw[show ((1:Int)+(q:Int))-1=(q:Int) by lia];exact zai a1),_,rfl,_,rfl,c,_,_,_,rfl,rfl,SqL.of c2,(by rw[show ((1:Int)+(q:Int))=((1+q:Nat):Int) by lia];exact zai a2),_,_,rfl,rfl,_,e2,zaj (by simp;lia),_,rfl,zap hga s2,?_⟩;have hdk:(λi j:Int=>V.bl (decide (i<j))) (k1:Int) (k2:Int)=.bl true:=congrArg V.bl (decide_eq_true (by lia));rw[hdk,zaa,List.replicate_succ',Ax];rfl
  rintro σ H2 ⟨o,rfl,s2,e2⟩;have hall2:(CI (ks.length-1) true).all id=true:=by rw[Da];intro x hx;rw[Dj hx];rfl
  refine⟨ga,_,rfl,SqL.of e2,?_⟩;rw[hall2];have c2:=s2 _ _ c1;have hne:ks≠[]:=λz=>by rw[z]at hk0;simp at hk0
  have hkl:=hcr.2.2 _ (List.getLast_mem hne)
  have hlast:atI (rowV ks) (-1)=some (.int (ks.getLast hne:Nat)):=by
   have:rowV ks=rowV ks.dropLast++[.int (ks.getLast hne:Nat)]:=by unfold rowV;rw[<- List.map_singleton (f:=λn:Nat=>V.int n),<- Ax,List.dropLast_concat_getLast]
   rw[this];exact zfn _ _
  generalize ks.getLast hne=kl at hkl hlast;have at0:(rowV ks)[0]?=some (.int 0):=by unfold rowV;rw[Ap,h0];rfl
  have s02:=s1.trans s2;refine⟨_,rfl,_,rfl,?_⟩;refine ite2 (λ_=>?_) (λhn=>absurd rfl hn);refine⟨_,rfl,c,_,_,_,rfl,rfl,SqL.of c2,zai (j:=0) at0,rfl,_,rfl,?_⟩;refine ite2 (λ_=>?_) (λhn=>absurd rfl hn);refine⟨_,rfl,_,rfl,c,_,_,_,rfl,rfl,SqL.of c2,hlast,?_⟩;refine⟨_,rfl,v,r,rfl,rR.kt hv (KT.of s02),h8,hlen,λpS H3 us hpS s3 e3 hus=>⟨pS,us,rfl,.inl (SqL.of e3),_,_,rfl,rfl,?_⟩⟩;have hul:=hus.1;have hdk:(λi j:Int=>V.bl (decide (i<j))) (kl:Int) (us.length:Int)=.bl true:=congrArg V.bl (decide_eq_true (by lia));rw[hdk];exact k H3 (s02.trans s3)
theorem bigT{n:Nat}(h:n<=100000):n<sizeLine:=Nat.lt_of_le_of_lt h (by decide)
noncomputable def zbP(R:List Rnd)(TT:List (List Nat)):Prop:=∀(i:Nat) r ks,R[i]?=some r->TT[i]?=some ks->Crn (spo r).length ks
noncomputable def spThg(K:W.Frag):Sp:=λvs H Q _=>∃(a b:Addr) (rs ts:List V) (R:List Rnd) (TT:List (List Nat)),vs=[.ref a,.ref b]/\H a=some (.lst rs)/\VR rs R rR H/\H b=some (.lst ts)/\VR ts TT thR H/\Thn R TT/\zbP R TT/\∀H',Same H H'->Q (.bl true) H'
theorem zeh (T:Txt P w K mg) (g_are_corners:Fn P w K mg base 3 "are_corners" ["one","thing"] (zkE K)) (d:Df K mg "is_thinning" zby ["some","thing"]):FnOk P w K mg base CX0 4 d.f d.fd ["some","thing"] (spThg K):=by
 refine d.F.ok zec (λvs H Q E h=>?_) (λcdv A outer s H vs Q E hr h=>?_)
 .obtain⟨a,b,rs,ts,R,TT,rfl,_⟩:=h;rfl
 .obtain⟨a,b,rs,ts,R,TT,rfl,ha,hR,hb,hT,th,hcrn,k⟩:=h;have nb0:(["one","corners"]:List Str).Nodup:=by decide +kernel
  refine⟨_,(zac (ps_if (pw_or (zce (zbj (zam zdx (by rfl) T.nisinstance (by rfl) (pa_N (pv 1) (pa_N (ze3 (v:=.ty "list") (by rfl) T.nlist (by rfl) rfl) zab))))) (zhd (zaD op_ne (zam zan (by rfl) T.nlen (by rfl) (pa_N (pv 1) zab)) (zam zan (by rfl) T.nlen (by rfl) (pa_N (pv 0) zab)) (zax _)))).pt
   (zaf (zak pe_bl))
   zaA)
   (zaf (zak (zam (zb2 rfl) (by rfl) T.nall (by rfl) (zah (zaF (osc:=zad zby) (N:=zcX) (N':=["one","corners"]) (sel:=[none,none]) bO (zhg (by rfl) T.nzip (pa_N (pv 0) (pa_N (pv 1) zab))) (λ_ _ _ _ _=>(za8 (K:=K) (n:=2) (by rfl) (zag (nG 0 nb0) (zag (nG 1 nb0) zaw)))) (λ_ _ _ _ _=>zaE) (λ_ _ _ _ _=>(pC g_are_corners hr (pa_N (pv 0) (pa_N (pv 1) zab))))) zab))))),?_⟩
  have hle:rs.length=ts.length:=by rw[hR.1,hT.1,th.len]
  refine⟨_,rfl,_,_,_,true,rfl,TyOf.lst hb,rfl,_,rfl,?_⟩;refine ite2 (λhy=>absurd hy (by decide)) (λ_=>?_);refine⟨_,rfl,b,_,rfl,.inl (SqL.of hb),_,rfl,a,_,rfl,.inl (SqL.of ha),rfl,_,rfl,?_⟩;refine ite2 (λhy=>by rw[hle]at hy;simp at hy) (λ_=>?_);refine⟨_,rfl,_,rfl,a,b,rfl,⟨_,SqL.of ha⟩,⟨_,SqL.of hb⟩,λg hg=>?_⟩
  refine zfe (K:=K) (a:=a) (b:=b) (xs:=rs) (ys:=ts) (λm σ H3=>∃o0 o1,σ=[o0,o1]/\Same H H3/\H3 g=some (.lst ((CI m true).map V.bl)))
   ⟨_,_,rfl,Same.up hg,zaa⟩ (λm σ H3 _ ⟨_,_,_,s3,_⟩=>⟨SqL.of (s3 _ _ ha),SqL.of (s3 _ _ hb)⟩) hle ?_ ?_
  .rintro m x y σ H3 t hx hy ⟨o0,o1,rfl,s3,e3⟩ ht;obtain⟨r,hr1,hxr⟩:=hR.at hx;obtain⟨ks,hk1,c,rfl,hc⟩:=hT.at hy;have hgd:=th.crn m r ks hr1 hk1;have hrow:=th.row r (Ah hr1);have hml:m<R.length:=(Ab.mp hr1).1;have hfew:=th.few;have s4:=Same.up (o:=.tup [x,.ref c]) ht;have e4t:upd H3 t (.tup [x,.ref c]) t=some (.tup [x,.ref c]):=zaa;generalize upd H3 t (.tup [x,.ref c])=H4 at s4 e4t;have s04:=s3.trans s4;refine⟨t,_,rfl,SqT.of e4t,rfl,_,_,rfl,_,_,rfl,rfl,?_⟩;refine zbe ?_
   refine⟨_,rfl,_,rfl,x,r,c,ks,rfl,rR.kt hxr (KT.of s04),hrow.1,hrow.2,s04 _ _ hc,hcrn m r ks hr1 hk1,hgd.2.1,λH5 s5=>?_⟩;refine⟨_,(s4.trans s5) _ _ e3,zaj (by simp;lia),_,_,rfl,zap hg (s04.trans s5),?_⟩;rw[zaa,List.replicate_succ',Ax];rfl
  rintro σ H3 ⟨o0,o1,rfl,s3,e3⟩;have hall:(CI rs.length true).all id=true:=by rw[Da];intro x hx;rw[Dj hx];rfl
  refine⟨g,_,rfl,SqL.of e3,?_⟩;rw[hall];exact k H3 s3
noncomputable def zgm(K:W.Frag):Sp:=λvs H Q _=>∃(a b:Addr) (rs ts:List V) (R:List Rnd) (TT:List (List Nat)) (B:Int) (L:List Cell),vs=[.ref a,.int B,.ref b]/\H a=some (.lst rs)/\VR rs R rR H/\H b=some (.lst ts)/\VR ts TT thR H/\Thn R TT/\zbP R TT/\(allS (R.map spo) TT).length<=300/\0<=B/\B<=1000000/\Dfs L/\(∀t∈allS (R.map spo) TT,Dsd L t) /\
 ∀bb H',Same H H'->(bb=true ↔ zbp R TT B/\NoX (allS (R.map spo) TT))->Q (.bl bb) H'
theorem zkd (T:Txt P w K mg) (g_is_thinning:Fn P w K mg base 4 "is_thinning" ["some", "thing"] (spThg K)) (g_is_near:Fn P w K mg base 4 "is_near" ["one", "bound", "corners"] (zkC K)) (g_all_sides:Fn P w K mg base 4 "all_sides" ["some", "thinning"] (zc0 K))
    (g_do_cross:Fn P w K mg base 3 "do_cross" ["one","other"] zgn) (d:Df K mg "holds" zdO ["some","bound","thing"]):FnOk P w K mg base CX0 5 d.f d.fd ["some","bound","thing"] (zgm K):=by
  refine d.F.ok zhb (λvs H Q E h=>?_) (λcdv A outer s H vs Q E hr h=>?_)
  . obtain⟨a,b,rs,ts,R,TT,B,L,rfl,_⟩:=h;rfl
  . obtain⟨a,b,rs,ts,R,TT,B,L,rfl,ha,hR,hb,hT,th,hcrn,h300,b0,b1,dL,sL,k⟩:=h;have nb0:(["one","corners","bound"]:List Str).Nodup:=by decide +kernel
    have nb1:(["at","side","other","sides"]:List Str).Nodup:=by decide +kernel
    refine⟨_,(zac (ps_if (zce (zbj (pC g_is_thinning hr (pa_N (pv 0) (pa_N (pv 2) zab)))))
      (zaf (zak pe_bl))
      zaA)
      (zac (ps_if (zce (zbj (zam (zb2 rfl) (by rfl) T.nall (by rfl) (zah (zaF (osc:=zad zdO) (N:=zgQ) (N':=["one","corners","bound"]) (sel:=[none,none,some 1]) bO (zhg (by rfl) T.nzip (pa_N (pv 0) (pa_N (pv 2) zab))) (λ_ _ _ _ _=>(za8 (K:=K) (n:=2) (by rfl) (zag (nG 0 nb0) (zag (nG 1 nb0) zaw)))) (λ_ _ _ _ _=>zaE) (λ_ _ _ _ _=>(pC g_is_near hr (pa_N (pv 0) (pa_N (pv 2) (pa_N (pv 1) zab)))))) zab))))
      (zaf (zak pe_bl))
      zaA)
      (zac (zcQ (i:=3) zhb.nd (by rfl) (Or.inr rfl) (pC g_all_sides hr (pa_N (pv 0) (pa_N (pv 2) zab))))
      (zaf (zak (ziR (zam (zf5 rfl) (by rfl) T.nany (by rfl) (zah (zfM (osc:=zad zdO) (N:=zgQ) (N':=["at","side","other","sides"]) (sel:=[none,none,none,some 3]) bO (zgx (by rfl) T.nenumerate (pa_N (pv 3) zab)) (λ_ _ _ _ _=>(za8 (K:=K) (n:=2) (by rfl) (zag (nG 0 nb1) (zag (nG 1 nb1) zaw)))) (λ_ _ _ _ _=>zaE) (λ_ _ _ _ _=>(zdu (K:=K) (zbz (zg9 (K:=K)) (pv 3) zck (zbU (pv 0))))) (λ_ _ _ _ _=>(nG 2 nb1)) (λ_ _ _ _ _=>zaE) (λ_ _ _ _ _=>(pC g_do_cross hr (pa_N (pv 1) (pa_N (pv 2) zab)))) (λ_ _ _=>rfl)) zab)))))))),?_⟩
    have hle:rs.length=ts.length:=by rw[hR.1,hT.1,th.len]
    refine⟨_,rfl,_,rfl,a,b,rs,ts,R,TT,rfl,ha,hR,hb,hT,th,hcrn,λH0 s0=>⟨_,rfl,?_⟩⟩;refine ite2 (λhy=>absurd hy (by decide)) (λ_=>?_);refine⟨_,rfl,_,rfl,a,b,rfl,⟨_,SqL.of (s0 _ _ ha)⟩,⟨_,SqL.of (s0 _ _ hb)⟩,λg hg=>?_⟩;have hg0:H g=none:=s0.free hg
    refine zfe (K := K) (a := a) (b := b) (xs := rs) (ys := ts) (λm σ H3 => ∃o0 o1, σ = [o0, o1, some (.int B)] /\ Same H H3 /\ ∃bs:List Bool, H3 g=some (.lst (bs.map V.bl)) /\ bs.length=m /\
        (bs.all id=true ↔ ∀(q:Nat) r ks,q<m->R[q]?=some r->TT[q]?=some ks->Near (spo r) B ks))
      ⟨_,_,rfl,s0.trans (Same.up hg),[],zaa,rfl,⟨λ_ q _ _ hq=>absurd hq (CT _),λ_=>rfl⟩⟩ (λm σ H3 _ ⟨_,_,_,s3,_⟩=>⟨SqL.of (s3 _ _ ha),SqL.of (s3 _ _ hb)⟩) hle ?_ ?_
    . rintro m x y σ H3 t hx hy ⟨o0,o1,rfl,s3,bs,e3,hbl,hbs⟩ ht;obtain⟨r,hr1,hxr⟩:=hR.at hx;obtain⟨ks,hk1,c,rfl,hc⟩:=hT.at hy;have hgd:=th.crn m r ks hr1 hk1;have hrow:=th.row r (Ah hr1);have hml:m<R.length:=(Ab.mp hr1).1;have hfew:=th.few;have s4:=Same.up (o:=.tup [x,.ref c]) ht;have e4t:upd H3 t (.tup [x,.ref c]) t=some (.tup [x,.ref c]):=zaa;generalize upd H3 t (.tup [x,.ref c])=H4 at s4 e4t;have s04:=s3.trans s4;refine⟨t,_,rfl,SqT.of e4t,rfl,_,_,rfl,_,_,rfl,rfl,?_⟩;refine zbe ?_
      refine⟨_,rfl,_,rfl,_,rfl,x,r,B,c,ks,rfl,hxr.kt (KT.of s04),hrow.1,hrow.2,SqL.of (s04 _ _ hc),hgd,b0,b1,λbb H5 s5 hbb=>?_⟩;have e5:=(s4.trans s5) _ _ e3;refine⟨_,e5,zaj (by rw[Af,hbl];lia),_,_,rfl,zap hg0 (s04.trans s5),bs++[bb],(by rw[zaa,Ax];rfl),(by rw[Al,hbl];rfl),?_⟩;rw[List.all_append,BX,hbs];constructor
      . rintro⟨h1,h2⟩ q r' ks' hq e1 e2;rcases A1 q m with z |z
        . exact h1 q r' ks' z e1 e2
        . have:q=m:=by lia
          subst this;rw[hr1]at e1;rw[hk1]at e2
          cases e1;cases e2
          exact hbb.mp (by simpa using h2)
      . intro hall;refine⟨λq r' ks' hq=>hall q r' ks' (by lia),?_⟩;have:=hbb.mpr (hall m r ks (by lia) hr1 hk1);simpa using this
    . rintro σ H3 ⟨o0,o1,rfl,s3,bs,e3,hbl,hbs⟩;refine⟨g,bs,rfl,SqL.of e3,?_⟩
      have hnr:bs.all id=true ↔ zbp R TT B:=by
        rw[hbs];constructor
        . intro h m r ks h1 h2;exact h m r ks (by rw[hR.1];exact (Ab.mp h1).1) h1 h2
        . intro h q r ks _ h1 h2;exact h q r ks h1 h2
      refine⟨_,rfl,?_⟩;refine ite2 (λhy=>?_) (λhn=>?_)
      . exact k false H3 s3 ⟨λz=>absurd z (by decide),λz=>by rw[hnr.mpr z.1]at hy;exact absurd hy (by decide)⟩
      have hN:zbp R TT B:=hnr.mp (by simpa using hn);refine⟨_,rfl,_,rfl,a,b,rs,ts,R,TT,rfl,s3 _ _ ha,hR.mono (λx v h=>h.kt (KT.of s3)),s3 _ _ hb,hT.mono (λx v h=>h.same s3),th,λpS H4 zs hpS s4 e4 hz=>?_⟩;have s04:=s3.trans s4;have hzl:zs.length<=300:=by rw[hz.1];exact h300
      refine⟨_,rfl,pS,rfl,⟨_,SqL.of e4⟩,λgb hgb=>?_⟩
      refine zff (K:=K) (a:=pS) (xs:=zs) (λm σ H5=>∃o0 o1 o2,σ=[o0,o1,o2,some (.ref pS)]/\Same H4 H5/\∃bs:List Bool,H5 gb=some (.lst (bs.map V.bl))/\bs.length<=m*300/\(bs.any id=false ↔ NoXu (allS (R.map spo) TT) m))
        ⟨_,_,_,rfl,Same.up hgb,[],zaa,by simp,⟨λ_ i j _ _ hi=>absurd hi (CT _),λ_=>rfl⟩⟩ (λm σ H5 _ ⟨_,_,_,_,s5,_⟩=>SqL.of (s5 _ _ e4)) ?_ ?_
      . rintro m y σ H5 t hy ⟨o0',o1',o2',rfl,s5,bs,e5,hbl5,hno⟩ ht;obtain⟨sd,hsd,hry⟩:=hz.at hy;have hml:m<zs.length:=(Ab.mp hy).1;have s6:=Same.up (o:=.tup [.int m,y]) ht;have e6t:upd H5 t (.tup [.int m,y]) t=some (.tup [.int m,y]):=zaa;generalize upd H5 t (.tup [.int m,y])=H6 at s6 e6t;have e46:=(s5.trans s6) _ _ e4;refine⟨t,_,rfl,SqT.of e6t,rfl,_,_,rfl,_,_,rfl,rfl,?_⟩;refine zbe ?_
        refine⟨_,rfl,_,rfl,_,rfl,pS,_,rfl,SqL.of e46,λp hp=>⟨p,rfl,⟨_,SqL.of zaa⟩,?_⟩⟩;have s7:=Same.up (o:=.lst (cutV zs none (some (m:Int)))) hp;have e7:upd H6 p (.lst (cutV zs none (some (m:Int)))) p=some (.lst (cutV zs none (some (m:Int)))):=zaa;rw[zkn zs (CM hml)]at e7 s7 ⊢;generalize upd H6 p (.lst (zs.take m))=H7 at s7 e7 ⊢;have s57:=s6.trans s7;have s47:=s5.trans s57;have e7g:=s57 _ _ e5;have hgp:p≠gb:=λz=>by rw[z,s6 _ _ e5]at hp;cases hp
        have hzt:=hz.take m
        refine zar (K:=K) (a:=p) (xs:=zs.take m) (λq σ H8=>∃o2,σ=[some (.int m),some y,o2,some (.ref pS)]/\Same H4 H8/\KT H7 H8/\H8 p=some (.lst (zs.take m))/\H8 gb=some (.lst ((bs++(((allS (R.map spo) TT).take m).take q).map (TH.cross sd)).map V.bl)))
          ⟨_,rfl,s47,KT.refl _,e7,by rw[List.take_zero,Cr,AX];exact e7g⟩ (λq σ H8 _ ⟨_,_,_,_,e8,_⟩=>SqL.of e8) ?_ ?_
        . rintro q u σ H8 hu ⟨o2,rfl,s8,k8,e8p,e8⟩;obtain⟨sj,hsj,hru⟩:=hzt.at hu;have hql:q<(zs.take m).length:=(Ab.mp hu).1;rw[Av]at hql;have k48:KT H4 H8:=(KT.of s47).trans k8;refine gN ?_
          refine⟨_,rfl,_,rfl,y,u,sd,sj,L,rfl,hry.kt k48,hru.kt k48,dL,sL _ (Ah hsd),sL _ (List.mem_of_mem_take (Ah hsj)),?_⟩
          refine⟨_,e8,bigT (by
            rw[Af,Al,Af,Av];have:bs.length<=90000:=A8 hbl5 (by have:=Nat.mul_le_mul_right 300 (show m<=300 by lia);lia);lia),_,rfl,zap hgb s8,k8.trans (KT.lst e8),by rw[zal hgp];exact e8p,?_⟩
          rw[zaa,zaq hsj];simp only[Ax,Ba,Cr,Bs]
        . rintro σ H8 ⟨o2,rfl,s8,k8,e8p,e8⟩;rw[hzt.1,AW]at e8;refine⟨_,_,_,rfl,s8,_,e8,?_,?_⟩
          . rw[Al,Af,Av,Nat.succ_mul];lia
          . rw[List.any_append,Bool.or_eq_false_iff,hno,List.any_map,List.any_eq_false];constructor
            . rintro⟨h1,h2⟩ i j a' b' hi hj e1 e2;rcases A1 i m with z |z
              . exact h1 i j a' b' z hj e1 e2
              . have:i=m:=by lia
                subst this;rw[hsd]at e1
                cases e1
                have:=h2 b' (Ah (i:=j) (by rw[List.getElem?_take_of_lt hj];exact e2));simpa using this
            . intro h;refine⟨λi j a' b' hi hj e1 e2=>h i j a' b' (by lia) hj e1 e2,λx hx=>?_⟩;obtain⟨j,hj,e⟩:=Ay hx;rw[Av]at hj
              have e2:(allS (R.map spo) TT)[j]?=some x:=by rw[<- e,List.getElem_take];exact Aa (by lia)
              have:=h m j sd x (by lia) (by lia) hsd e2;simpa using this
      . rintro σ H5 ⟨o0',o1',o2',rfl,s5,bs,e5,hbl5,hno⟩;rw[hz.1,<- zls]at hno;refine⟨gb,bs,rfl,SqL.of e5,_,rfl,?_⟩;refine k _ H5 (s04.trans s5) ?_
        rw[Bool.not_eq_true',hno];exact⟨λz=>⟨hN,z⟩,λz=>z.2⟩
noncomputable def Hd(r:Rnd)(B:Int)(ks:List Nat):Prop:=zbp [r] [ks] B/\NoX (allS ([r].map spo) [ks])
theorem zjw{n:Nat}:∀(t:List Nat) (a:Nat),(a::t).Pairwise (·<·)->a<n->(∀k∈t,k<n)->t.length+a<n
 |[],a,_,h,_=>by simpa using h
 |b::t,a,h,ha,hk=>by
  rw[AU]at h;have:=zjw t b h.2 (hk b Aq) λk hk'=>hk k (Ak _ hk')
  have:=h.1 b Aq;simp only[AQ];lia
theorem zhA{n:Nat}{ks:List Nat}(h:Crn n ks):ks.length<=n:=by
 obtain⟨h1,h2,h3⟩:=h
 cases ks with
 |nil=>simp
 |cons a t =>
  have:=zjw t a h1 (h3 a Aq) λk hk=>h3 k (Ak _ hk)
  simp only[AQ];lia
theorem zeJ{α:Type}{x y:α}{i:Nat}(h:[x][i]?=some y):i=0/\y=x:=by
 cases i with
 |zero=>simp at h;exact⟨rfl,h.symm⟩
 |succ i=>simp at h
theorem thn1{r:Rnd}{ks:List Nat}(h8:∀s∈r.row,s<8)(hl:r.row.length<=10)(hc:Crn (spo r).length ks):Thn [r] [ks]/\zbP [r] [ks]/\(allS ([r].map spo) [ks]).length<=300/\Dfs (spo r)/\∀t∈allS ([r].map spo) [ks],Dsd (spo r) t:=by
 have hn:=zav r;have hkl:=zhA hc;have hal:allS ([r].map spo) [ks]=sds (spo r) ks:=AX _;have hsl:(sds (spo r) ks).length=ks.length:=by unfold sds;rw[Af,zbC]
 have hg:=zcu hc (by lia);refine⟨⟨rfl,by simp,λq hq=>?_,λi r' ks' h1 h2=>?_,?_⟩,λi r' ks' h1 h2=>?_,?_,?_,λt ht=>?_⟩
 .have:q=r:=by simpa using hq
  subst this;exact⟨h8,by lia⟩
 .obtain⟨rfl,rfl⟩:=zeJ h1;obtain⟨_,rfl⟩:=zeJ h2;exact hg
 .rw[hal,hsl];lia
 .obtain⟨rfl,rfl⟩:=zeJ h1;obtain⟨_,rfl⟩:=zeJ h2;exact hc
 .rw[hal,hsl];lia
 .intro a ha b hb;exact (zdF h8 (by lia)).df ha hb
 .rw[hal]at ht;exact zds hc.2.2 t ht
theorem zlD{cs:List Cell}{r:Rnd}(h:RndC cs r)(B:Int):Hd r B (AE (spo r).length):=by
 refine⟨λi r' ks h1 h2=>?_,zin (cs:=cs) λt ht=>?_⟩
 .obtain⟨rfl,rfl⟩:=zeJ h1;obtain⟨_,rfl⟩:=zeJ h2;exact zda _ _
 .have hal:allS ([r].map spo) [AE (spo r).length]=sds (spo r) (AE (spo r).length):=AX _;rw[hal]at ht;exact h.sides t ht
theorem zlE{α β:Type}(f:α->List β){l:List α}{j:Nat}{x:α}(h:l[j]?=some x):((l.take j).flatMap f).length+(f x).length<=(l.flatMap f).length:=by
 obtain⟨hj,e⟩:=Ab.mp h
 have:l=l.take j++x::l.drop (j+1):=by rw[<- e,<- Cj hj,List.take_append_drop]
 have e2:(l.flatMap f).length=((l.take j++x::l.drop (j+1)).flatMap f).length:=congrArg (λz=>(z.flatMap f).length) this;rw[e2,Dg,Cv,Al,Al];lia
theorem ziI{ks:List Nat}(h:ks≠[]):atI (rowV ks) (-1)=some (.int (lst 0 ks:Nat)):=by
 have e:lst 0 ks=ks.getLast h:=by unfold lst;rw[List.getLast?_eq_some_getLast h];rfl
 have:rowV ks=rowV ks.dropLast++[.int (ks.getLast h:Nat)]:=by unfold rowV;rw[<- List.map_singleton (f:=λn:Nat=>V.int n),<- Ax,List.dropLast_concat_getLast]
 rw[e,this];exact zfn _ _
noncomputable def zg7(K:W.Frag):Sp:=λvs H Q _=>∃(v:V) (r:Rnd) (B:Int) (cs:List Cell),vs=[v,.int B]/\rR r v H/\RndC cs r/\r.row.length<=10/\0<=B/\B<=1000000 /\
 ∀p ks H',H p=none->Same H H'->H' p=some (.lst (rowV ks))->Lst (spo r).length (Hd r B) ks->Q (.ref p) H'
theorem ziX (T:Txt P w K mg) (g_spots_of:Fn P w K mg base 2 "spots_of" ["one"] (zb4 K)) (g_holds:Fn P w K mg base 5 "holds" ["some","bound","thing"] (zgm K)) (d:Df K mg "fewest" zdt ["one","bound"]):FnOk P w K mg base CX0 6 d.f d.fd ["one","bound"] (zg7 K):=by
 refine d.F.ok zcf (λvs H Q E h=>?_) (λcdv A outer s H vs Q E hr h=>?_)
 .obtain⟨v,r,B,cs,rfl,_⟩:=h;rfl
 .obtain⟨v,r,B,cs,rfl,hv,hrc,hl,b0,b1,k⟩:=h;have nb0:(["corners","spot","many"]:List Str).Nodup:=by decide +kernel
  refine⟨_,(zac (zcQ (i:=2) zcf.nd (by rfl) (Or.inr rfl) (zam zan (by rfl) T.nlen (by rfl) (zah (pC g_spots_of hr (pa_N (pv 0) zab)) zab)))
   (zac (sE 3 zcf.nd (za0 (zah (za0 (pa_C zae zab)) zab)))
   (zaf (ze0 A3 (zbj pe_bl)
   (zac (zbI A3 rfl (zaB (pv 3)) (nG 4 zcf.nd)
   (zaf (ps_if (zbj (pC g_holds hr (zah (za0 (pa_N (pv 0) zab)) (pa_N (pv 1) (zah (za0 (pa_N (pv 4) zab)) zab)))))
   (zaf (zak (pv 4)))
   zaA)))
   (zaf (zdR (i:=3) (osc:=zad zdt) (N:=zhH) (N':=["corners","spot","many"]) (sel:=[none,none,some 2]) bO zcf.nd (by rfl) (Or.inl rfl) (zaB (pv 3)) (λ_ _ _ _ _=>(nG 0 nb0)) (λ_ _ _ _ _=>zaE) (λ_ _ _ _ _=>(zdS (by rfl) T.nrange (pa_B (pe_op zaL (pe_ix (zdw (K:=K)) (pv 0) (pe_un zdA zae) (λ_ _=>rfl)) zae) (pa_N (pv 2) zab)))) (λ_ _ _ _ _=>(nG 1 nb0)) (λ_ _ _ _ _=>zaE) (λ_ _ _ _ _=>(pe_op ziV (pv 0) (za0 (pa_N (pv 1) zab)))) (λ_ _ _=>rfl)))))))),?_⟩
  have h8:=hrc.facts.2.2.1;obtain⟨g,hgn⟩:∃g,(spo r).length=g+1:=⟨r.row.length-1,zav r⟩;have hn:=zav r;have hg9:g<=9:=by lia
  have h512:∀L,(lv g L).length<=512:=λL=>A8 (zmi g L) (A8 (C4 (by decide) hg9) (by decide))
  refine⟨_,rfl,v,r,rfl,hv,h8,by lia,λpS H1 us hpS s1 e1 hus=>⟨pS,us,rfl,.inl (SqL.of e1),?_⟩⟩;have hul:=hus.1;refine⟨(by show 1<=sizeLine;decide),λl0 hl0=>?_⟩;have s2:=Same.up (o:=.lst [.int 0]) hl0;have e2:upd H1 l0 (.lst [.int 0]) l0=some (.lst [.int 0]):=zaa;generalize upd H1 l0 (.lst [.int 0])=H2 at s2 e2 ⊢;refine⟨(by show 1<=sizeLine;decide),λtr htr=>?_⟩;have s3:=Same.up (o:=.lst [.ref l0]) htr;have e3:upd H2 tr (.lst [.ref l0]) tr=some (.lst [.ref l0]):=zaa;generalize upd H2 tr (.lst [.ref l0])=H3 at s3 e3 ⊢;have s03:=s1.trans (s2.trans s3);have hlv0:lv g 0=[[0]]:=by unfold lv;cases g <;> rfl
  refine⟨λn σ H5=>∃(L:Nat) (tr:Addr) (zs:List V) (o4:Option V),σ=[some v,some (.int B),some (.int us.length),some (.ref tr),o4]/\Same H H5/\H5 tr=some (.lst zs)/\VR zs (lv g L) (thF H) H5/\(∀L' ks,L'<L->ks∈lv g L'->¬ Hd r B ks)/\L<=g/\n=g-L,
   ⟨_,0,tr,[.ref l0],_,rfl,s03,e3,by rw[hlv0];exact VR.cons.mpr ⟨⟨l0,rfl,s1.free hl0,s3 _ _ e2⟩,VR.nil⟩,λL' ks hL=>absurd hL (CT _),AV _,rfl⟩,?_⟩
  clear e3 e2;rintro n σ H5 ⟨L,tr,zs,o4,rfl,s5,e5,hz,hno,hLg,hnn⟩;refine⟨_,rfl,?_⟩;refine ite2 (λ_=>?_) (λhn=>absurd rfl hn);refine⟨λσ H6=>∃m',m'<n/\∃(L:Nat) (tr:Addr) (zs:List V) (o4:Option V),σ=[some v,some (.int B),some (.int us.length),some (.ref tr),o4]/\Same H H6/\H6 tr=some (.lst zs)/\VR zs (lv g L) (thF H) H6/\(∀L' ks,L'<L->ks∈lv g L'->¬ Hd r B ks)/\L<=g/\m'=g-L,λσ' H' h=>h,?_⟩;refine⟨_,rfl,tr,rfl,⟨_,SqL.of e5⟩,?_⟩;have hzl:zs.length<=512:=by rw[hz.1];exact h512 L
  refine zar (K:=K) (a:=tr) (xs:=zs) (λj σ H6=>∃o4,σ=[some v,some (.int B),some (.int us.length),some (.ref tr),o4]/\Same H5 H6/\∀j' ks,j'<j->(lv g L)[j']?=some ks->¬ Hd r B ks)
   ⟨_,rfl,Same.refl _,λj' ks hj=>absurd hj (CT _)⟩ (λj σ H6 _ ⟨_,_,s6,_⟩=>SqL.of (s6 _ _ e5)) ?_ ?_
  .rintro j u σ H6 hj ⟨o4,rfl,s6,hno6⟩;obtain⟨ks,hk1,c,rfl,hcF,hc⟩:=hz.at hj;have hkc:=zfV.mp (Ah hk1);have hcr:Crn (spo r).length ks:=by rw[hgn];exact hkc.1
   obtain⟨t1,t2,t3,t4,t5⟩:=thn1 h8 hl hcr;unfold gName;refine⟨_,rfl,(by show 1<=sizeLine;decide),λpa hpa=>?_⟩;have s7:=Same.up (o:=.lst [v]) hpa;have e7:upd H6 pa (.lst [v]) pa=some (.lst [v]):=zaa;generalize upd H6 pa (.lst [v])=H7 at s7 e7 ⊢;refine⟨_,rfl,_,rfl,(by show 1<=sizeLine;decide),λpb hpb=>?_⟩;have s8:=Same.up (o:=.lst [.ref c]) hpb;have e8:upd H7 pb (.lst [.ref c]) pb=some (.lst [.ref c]):=zaa;generalize upd H7 pb (.lst [.ref c])=H8 at s8 e8 ⊢;have s58:=s6.trans (s7.trans s8);have s08:=s5.trans s58;refine⟨pa,pb,[v],[.ref c],[r],[ks],B,spo r,rfl,s8 _ _ e7,VR.cons.mpr ⟨rR.kt hv (KT.of s08),VR.nil⟩,e8,VR.cons.mpr ⟨⟨c,rfl,s58 _ _ hc⟩,VR.nil⟩,t1,t2,t3,b0,b1,t4,t5,λbb H9 s9 hbb=>⟨_,rfl,?_⟩⟩;have s09:=s08.trans s9;refine ite2 (λhy=>?_) (λhn=>?_)
   .refine⟨_,rfl,k c ks H9 hcF s09 ((s58.trans s9) _ _ hc) ?_⟩;rw[hgn];exact zjc hk1 (hbb.mp hy) (λj' ks' hj' he=>hno6 j' ks' hj' he) hno
   .refine⟨_,rfl,s58.trans s9,λj' ks' hj' he=>?_⟩;rcases A1 j' j with z |z
    .exact hno6 j' ks' z he
    .have:j'=j:=by lia
     subst this;rw[hk1]at he
     cases he
     exact λz=>hn (hbb.mpr z)
  .rintro σ H6 ⟨o4,rfl,s6,hno6⟩
   have hnoL:∀ks∈lv g L,¬ Hd r B ks:=λks hk=>by obtain⟨j,hj,e⟩:=Ay hk;exact hno6 j ks (by rw[hz.1];exact hj) (by rw[Aa hj,e])
   have hLlt:L<g:=by
    rcases A1 L g with z |z
    .exact z
    .have hLe:L=g:=by lia
     subst hLe;have hf:=zlD hrc B;rw[hgn]at hf;exact absurd hf (hnoL _ (zfV.mpr ⟨Crn.range (Nat.succ_pos _),by rw[A6]⟩))
   have e6:=s6 _ _ e5;have s06:=s5.trans s6;refine⟨_,rfl,tr,rfl,⟨_,SqL.of e6⟩,λgq hgq=>?_⟩;have hgq0:H gq=none:=s06.free hgq;have hz6:VR zs (lv g L) (thF H) H6:=⟨hz.1,λi x v h1 h2=>let ⟨c,e,f,q⟩:=hz.2 i x v h1 h2;⟨c,e,f,s6 _ _ q⟩⟩
   refine zar (K:=K) (a:=tr) (xs:=zs) (λj σ H7=>∃o0 o1,σ=[o0,o1,some (.int us.length)]/\Same H6 H7/\∃ws,H7 gq=some (.lst ws)/\VR ws (((lv g L).take j).flatMap (extK (g+1))) (thG gq H) H7)
    ⟨_,_,rfl,Same.up hgq,[],zaa,VR.nil⟩ (λj σ H7 _ ⟨_,_,_,s7,_⟩=>SqL.of (s7 _ _ e6)) ?_ ?_
   .rintro j u σ H7 hj ⟨o0,o1,rfl,s7,ws,e7,hw⟩;obtain⟨ks,hk1,c,rfl,hcF,hc⟩:=hz6.at hj;have hkc:=zfV.mp (Ah hk1);have hne:ks≠[]:=λz=>by have:=hkc.2;rw[z]at this;simp at this
    have hkl:ks.length<=10:=by have:=zhA hkc.1;lia
    have hlast:=ziI hne
    have hll:lst 0 ks<g+1:=by
     have:lst 0 ks=ks.getLast hne:=by unfold lst;rw[List.getLast?_eq_some_getLast hne];rfl
     rw[this];exact hkc.1.2.2 _ (List.getLast_mem hne)
    have hfl:=zlE (extK (g+1)) hk1;rw[zja]at hfl;have h5:=h512 (L+1);have hxl:(extK (g+1) ks).length=g+1-(lst 0 ks+1):=by unfold extK;rw[Af,List.length_range']
    have hxk:((lv g L).take (j+1)).flatMap (extK (g+1))=((lv g L).take j).flatMap (extK (g+1))++(List.range' (lst 0 ks+1) (g+1-(lst 0 ks+1))).map λs=>ks++[s]:=by rw[zaq hk1,Dg,Cv,List.flatMap_nil,AX];rfl
    generalize hla:lst 0 ks=la at hlast hll hxl hxk;refine gN ?_
    refine⟨_,rfl,_,rfl,c,_,_,_,rfl,rfl,SqL.of (s7 _ _ hc),hlast,_,_,rfl,rfl,_,rfl,_,_,rfl,⟨by lia,by lia,by lia,by lia⟩,?_⟩;have hcnt:((us.length:Int)-((la:Int)+1)).toNat=g+1-(la+1):=by lia
    rw[show ((us.length:Int)-((la:Int)+1)).toNat=g+1-(la+1) from hcnt]
    refine zbv (lo:=(la:Int)+1) (n:=g+1-(la+1)) (λq σ H8=>∃o1,σ=[some (.ref c),o1,some (.int us.length)]/\Same H6 H8/\∃ws,H8 gq=some (.lst ws)/\VR ws (((lv g L).take j).flatMap (extK (g+1))++(List.range' (la+1) q).map λs=>ks++[s]) (thG gq H) H8)
     ⟨_,rfl,s7,ws,e7,by rw[List.range'_zero,Cr,AX];exact hw⟩ ?_ ?_
    .rintro q σ H8 hq ⟨o1,rfl,s8,ws8,e8,hw8⟩
     have hwl:ws8.length<=512:=by have h1:=hw8.1;rw[Al,Af,List.length_range']at h1;lia
     have hrl:(rowV ks).length=ks.length:=by unfold rowV;rw[Af]
     have hc8:=s8 _ _ hc;refine gN ?_
     refine⟨_,rfl,_,rfl,(by show 1<=sizeLine;decide),λl hl'=>?_⟩;have s9:=Same.up (o:=.lst [.int ((la:Int)+1+(q:Int))]) hl';have e9:upd H8 l (.lst [.int ((la:Int)+1+(q:Int))]) l=some (.lst [.int ((la:Int)+1+(q:Int))]):=zaa;generalize upd H8 l (.lst [.int ((la:Int)+1+(q:Int))])=H9 at s9 e9 ⊢;refine⟨c,l,_,_,rfl,rfl,s9 _ _ hc8,e9,CM (zaj (by rw[hrl];simp;lia)),λS hS=>?_⟩;have s10:=Same.up (o:=.lst (rowV ks++[.int ((la:Int)+1+(q:Int))])) hS;have e10:upd H9 S (.lst (rowV ks++[.int ((la:Int)+1+(q:Int))])) S=some (.lst (rowV ks++[.int ((la:Int)+1+(q:Int))])):=zaa;generalize upd H9 S (.lst (rowV ks++[.int ((la:Int)+1+(q:Int))]))=H10 at s10 e10 ⊢;have e9g:=s9 _ _ e8;have hSg:S≠gq:=λz=>by rw[z,e9g]at hS;cases hS
     have s910:=s9.trans s10;refine⟨ws8,s10 _ _ e9g,zaj (by lia),_,rfl,zap hgq (s8.trans s910),_,zaa,?_⟩;rw[List.range'_1_concat,Ax,<- Bs];refine VR.snoc hw8 (λx v ⟨c',e',n',f',h'⟩=>⟨c',e',n',f',?_⟩) ⟨S,rfl,hSg,(s06.trans (s8.trans s9)).free hS,?_⟩
     .rw[zal n'];exact s910 _ _ h'
     .rw[zal hSg,e10];unfold rowV;rw[Ax,show (la:Int)+1+(q:Int)=((la+1+q:Nat):Int) by lia];rfl
    .rintro σ H8 ⟨o1,rfl,s8,ws8,e8,hw8⟩;rw[<- hxk]at hw8;exact⟨_,_,rfl,s8,ws8,e8,hw8⟩
   .rintro σ H7 ⟨o0,o1,rfl,s7,ws,e7,hw⟩;rw[AJ (by rw[hz.1];exact Ai _),zja]at hw;refine⟨g-(L+1),by lia,L+1,gq,ws,_,rfl,s06.trans s7,e7,⟨hw.1,λi x v h1 h2=>let ⟨c,e,_,f,q⟩:=hw.2 i x v h1 h2;⟨c,e,f,q⟩⟩,λL' ks hL' hk=>?_,by lia,rfl⟩;rcases A1 L' L with z |z
    .exact hno L' ks z hk
    .have:L'=L:=by lia
     subst this;exact hnoL ks hk
noncomputable def mvC(d:Cell)(c:Cell):Cell:=(c.1+d.1,c.2+d.2)
noncomputable def mvd(d:Cell)(r:Rnd):Rnd:={ r with x:=r.x+d.1,y:=r.y+d.2 }
theorem go_mv(d c:Cell)(s:Nat):go (mvC d c) s=mvC d (go c s):=by unfold go mvC;simp only;refine Prod.ext ?_ ?_ <;> simp only <;> lia
theorem zg0(d:Cell):∀(l:List Nat) (c:Cell),zat (mvC d c) l=(zat c l).map (mvC d)
 |[],c=>rfl
 |s::l,c=>by
  show mvC d c::zat (go (mvC d c) s) l=mvC d c::(zat (go c s) l).map (mvC d);rw[go_mv,zg0 d l]
theorem zg2(d:Cell)(r:Rnd):spo (mvd d r)=(spo r).map (mvC d):=zg0 d r.row.dropLast (r.x,r.y)
theorem zdE(d:Cell)(r:Rnd):(spo (mvd d r)).length=(spo r).length:=by rw[zg2,Af]
theorem zd1(d:Cell){sp:List Cell}{i:Nat}(h:i<sp.length):(sp.map (mvC d)).getD i (0,0)=mvC d (sp.getD i (0,0)):=by rw[Am,Ap,Am,Aa h];rfl
theorem zmu(d s a b:Cell):alg (mvC d s) (mvC d a) (mvC d b)=alg s a b:=by unfold alg mvC;simp only;rw[show a.1+d.1-(s.1+d.1)=a.1-s.1 by lia,show b.1+d.1-(s.1+d.1)=b.1-s.1 by lia,show a.2+d.2-(s.2+d.2)=a.2-s.2 by lia,show b.2+d.2-(s.2+d.2)=b.2-s.2 by lia]
theorem zkW(d s a b:Cell):acr (mvC d s) (mvC d a) (mvC d b)=acr s a b:=by unfold acr mvC;simp only;rw[show a.1+d.1-(s.1+d.1)=a.1-s.1 by lia,show b.1+d.1-(s.1+d.1)=b.1-s.1 by lia,show a.2+d.2-(s.2+d.2)=a.2-s.2 by lia,show b.2+d.2-(s.2+d.2)=b.2-s.2 by lia]
theorem zmt(d c s e:Cell)(B:Int):clo (mvC d c) (mvC d s) (mvC d e) B=clo c s e B:=by unfold clo;simp only[zmu,zkW]
theorem zmq(d p a b:Cell):TH.crs (mvC d p) (mvC d a) (mvC d b)=TH.crs p a b:=zkW d p a b
noncomputable def mvS(d:Cell)(s:TH.Side):TH.Side:=(mvC d s.1,mvC d s.2)
theorem zko(d:Cell)(s t:TH.Side):TH.cross (mvS d s) (mvS d t)=TH.cross s t:=by unfold TH.cross parts mvS;simp only[zmq]
theorem zi1{d:Cell}{r:Rnd}{B:Int}{ks:List Nat}(hg:Good ks (spo r).length):Near (spo (mvd d r)) B ks ↔ Near (spo r) B ks:=by
 unfold Near;rw[zdE]
 have key:∀(m i j:Nat),ks[m]?=some i->(nxs ks (spo r).length)[m]?=some j->(Str1 (spo (mvd d r)) B i j ↔ Str1 (spo r) B i j):=λm i j h1 h2=>by
  obtain⟨l1,l2⟩:=hg.2.2 m i j h1 h2;have hpos:0<(spo r).length:=by lia
  unfold Str1;rw[zg2,Af]
  have e:∀t,i<t->t<j->clo (((spo r).map (mvC d)).getD t (0,0)) (((spo r).map (mvC d)).getD i (0,0)) (((spo r).map (mvC d)).getD (j % (spo r).length) (0,0)) B=clo ((spo r).getD t (0,0)) ((spo r).getD i (0,0)) ((spo r).getD (j % (spo r).length) (0,0)) B:=λt t1 t2=>by rw[zd1 d (by lia),zd1 d (by lia),zd1 d (C3 _ hpos),zmt]
  constructor
  .intro h t t1 t2;rw[<- e t t1 t2];exact h t t1 t2
  .intro h t t1 t2;rw[e t t1 t2];exact h t t1 t2
 constructor
 .intro h m i j h1 h2;exact (key m i j h1 h2).mp (h m i j h1 h2)
 .intro h m i j h1 h2;exact (key m i j h1 h2).mpr (h m i j h1 h2)
theorem zl8{d:Cell}{sp:List Cell}{ks:List Nat}(h:∀k∈ks,k<sp.length):sds (sp.map (mvC d)) ks=(sds sp ks).map (mvS d):=by
 unfold sds;rw[Af,CP];refine List.map_congr_left λp hp=>?_
 obtain⟨i,j⟩:=p;rw[zcE]at hp;have hi:=h i (Dm hp).1;show sdO _ (i,j)=mvS d (sdO sp (i,j));unfold sdO mvS;simp only[Af];rw[zd1 d hi,zd1 d (C3 _ (by lia))]
theorem zd7{d:Cell}:∀{R:List Rnd}{TT:List (List Nat)},(∀(i:Nat) r ks,R[i]?=some r->TT[i]?=some ks->Good ks (spo r).length)->allS ((R.map (mvd d)).map spo) TT=(allS (R.map spo) TT).map (mvS d)
 |[],TT,_=>by cases TT <;> rfl
 |r::R,[],_=>rfl
 |r::R,ks::TT,h=>by
  have ih:=zd7 (d:=d) (R:=R) (TT:=TT) λi r' ks' h1 h2=>h (i+1) r' ks' (by simpa using h1) (by simpa using h2)
  show sds (spo (mvd d r)) ks++allS ((R.map (mvd d)).map spo) TT=(sds (spo r) ks++allS (R.map spo) TT).map (mvS d);rw[ih,Ax,zg2,zl8 (h 0 r ks rfl rfl).lt]
theorem zi0{d:Cell}{L:List TH.Side}:NoX (L.map (mvS d)) ↔ NoX L:=by unfold NoX;rw[List.pairwise_map];simp only[zko]
theorem zhl{d:Cell}{R:List Rnd}{TT:List (List Nat)}{B:Int}(hg:∀(i:Nat) r ks,R[i]?=some r->TT[i]?=some ks->Good ks (spo r).length):zbp (R.map (mvd d)) TT B ↔ zbp R TT B:=by
 unfold zbp;constructor
 .intro h m r ks h1 h2;exact (zi1 (d:=d) (hg m r ks h1 h2)).mp (h m (mvd d r) ks (by rw[Ap,h1];rfl) h2)
 .intro h m r ks h1 h2;rw[Ap]at h1;obtain⟨r',hr',rfl⟩:=AT.mp h1;exact (zi1 (hg m r' ks hr' h2)).mpr (h m r' ks hr' h2)
theorem zl0{d:Cell}{R:List Rnd}{TT:List (List Nat)}(h:Thn R TT):Thn (R.map (mvd d)) TT:=by
 refine⟨by rw[Af];exact h.len,by rw[Af];exact h.few,λr hr=>?_,λi r ks h1 h2=>?_,?_⟩
 .obtain⟨r',hr',rfl⟩:=AF.mp hr;exact h.row r' hr'
 .rw[Ap]at h1;obtain⟨r',hr',rfl⟩:=AT.mp h1;rw[zdE];exact h.crn i r' ks hr' h2
 .rw[zd7 h.crn,Af];exact h.all
theorem Df1.mv{d a b:Cell}(h:Df1 a b):Df1 (mvC d a) (mvC d b):=by unfold Df1 mvC at *;simp only;lia
theorem zmp{d:Cell}{L:List Cell}(h:Dfs L):Dfs (L.map (mvC d)):=λa ha b hb=>by obtain⟨a',ha',rfl⟩:=AF.mp ha;obtain⟨b',hb',rfl⟩:=AF.mp hb;exact (h a' ha' b' hb').mv
theorem zlS(d:Cell)(R:List Rnd):allK (R.map (mvd d))=allK R:=by
 unfold allK;rw[CP];refine List.map_congr_left λr _=>?_
 show AE (spo (mvd d r)).length=_;rw[zdE]
theorem Sml.mv{d:Cell}{R:List Rnd}{L:List Cell}(h:Sml R L):Sml (R.map (mvd d)) (L.map (mvC d)):=by
 have hD:=h.start (B:=0) (by decide) (by decide);refine⟨λr hr=>?_,by rw[Af];exact h.len,?_,λr hr t ht=>?_,zmp h.dL,?_⟩
 .obtain⟨r',hr',rfl⟩:=AF.mp hr;exact h.row r' hr'
 .rw[CP];exact h.sum
 .obtain⟨r',hr',rfl⟩:=AF.mp hr;rw[zg2]at ht;obtain⟨t',ht',rfl⟩:=AF.mp ht;exact AF.mpr ⟨t',h.sp r' hr' t' ht',rfl⟩
 .rw[zlS,zd7 hD.b.th.crn,zi0];exact h.nox
theorem zkp{c s e:Cell}{B M:Int}(hM:0<=M)(h:clo c s e B=true):clo c s e (B+M)=true:=by
 unfold clo at h ⊢;split at h
 .rename_i z
  rw[if_pos z];have:=of_decide_eq_true h;exact decide_eq_true (by lia)
 .rename_i z
  rw[if_neg z];split at h
  .rename_i z2
   rw[if_pos z2];have:=of_decide_eq_true h;exact decide_eq_true (by lia)
  .rename_i z2
   rw[if_neg z2];have:=of_decide_eq_true h;refine decide_eq_true ?_
   have h2:0<=alg s e e:=by rw[zks];exact zho s e
   have h3:=CK hM h2;rw[Int.add_mul];lia
theorem zi2{R:List Rnd}{TT:List (List Nat)}{B M:Int}(hM:0<=M)(h:zbp R TT B):zbp R TT (B+M):=λm r ks h1 h2 m' i j h3 h4 t t1 t2=>zkp hM (h m r ks h1 h2 m' i j h3 h4 t t1 t2)
theorem Drw.crnAll{R:List Rnd}{TT:List (List Nat)}{B:Int}{L:List Cell}(h:Drw R TT B L):zbP R TT:=h.b.cr
noncomputable def zit:Sp:=λvs H Q _=>∃(v:V) (r:Rnd) (dx dy:Int),vs=[v,.int dx,.int dy]/\rR r v H/\∀p H',Same H H'->rR (mvd (dx,dy) r) (.ref p) H'->Q (.ref p) H'
theorem zkc (d:Df K mg "moved" zgu ["one","dx","dy"]):FnOk P w K mg base CX0 1 d.f d.fd ["one","dx","dy"] zit:=by
 refine d.F.ok zcN (λvs H Q E h=>?_) (λcdv A outer s H vs Q E hr h=>?_)
 .obtain⟨v,r,dx,dy,rfl,_⟩:=h;rfl
 .obtain⟨v,r,dx,dy,rfl,⟨a,b,rfl,q1,q2⟩,k⟩:=h
  refine⟨_,(zac (zbw (pv 0) (zbk (by rfl) (zag (nG 3 zcN.nd) (zag (nG 4 zcN.nd) (zag (nG 5 zcN.nd) (zag (nG 6 zcN.nd) zaw))))))
   (zaf (zak (zaV (pa_N (pv 3) (pa_B (pe_op zaL (pv 4) (pv 1)) (pa_B (pe_op zaL (pv 5) (pv 2)) (pa_N (pv 6) zab)))))))),?_⟩
  refine⟨_,rfl,a,_,rfl,SqT.of q1,rfl,_,_,rfl,_,_,rfl,_,_,rfl,_,_,rfl,rfl,?_⟩;refine⟨_,rfl,_,rfl,_,rfl,_,_,rfl,rfl,_,rfl,_,rfl,_,_,rfl,rfl,_,rfl,(by show 4<=sizeLine;decide),λt ht=>?_⟩;exact k t _ (Same.up ht) ⟨t,b,rfl,zaa,Same.up ht _ _ q2⟩
noncomputable def arT(cs:List Cell)(i:Nat):Int:=acr (cs.getD 0 (0,0)) (cs.getD i (0,0)) (cs.getD ((i+1) % cs.length) (0,0))
noncomputable def ar2(cs:List Cell):Int:=((AE cs.length).map (arT cs)).sum
theorem zhG(o s:Cell):acr o s s=0:=by unfold acr;rw[Int.mul_comm];lia
theorem zjM(s q:Cell):acr s s q=0:=by unfold acr;simp
theorem zlT(o s p q:Cell):acr o s p+acr o p q=acr o s q+acr s p q:=by unfold acr;grind
noncomputable def OnL(s e c:Cell):Prop:=acr s e c=0/\(s=e->c=s)
theorem onL_s(s e:Cell):OnL s e s:=⟨by unfold acr;simp,λ_=>rfl⟩
theorem onL_e(s e:Cell):OnL s e e:=⟨zhG s e,λh=>h.symm⟩
theorem zhF{s c:Cell}(h:alg s c c<=0):c=s:=by have h1:alg s c c=llong s c:=rfl;have h2:=zho s c;exact zh5 (by lia)
theorem zkK{c s e:Cell}(h:clo c s e 0=true):OnL s e c:=by
 unfold clo at h;split at h
 .have:=of_decide_eq_true h;rw[zhF this];exact onL_s s e
 .rename_i z
  split at h
  .have:=of_decide_eq_true h;rw[zhF this];exact onL_e s e
  .have h3:=of_decide_eq_true h;rw[Int.zero_mul]at h3;refine⟨?_,λq=>?_⟩
   .have h4:acr s e c*acr s e c<=0:=by rw[show acr s e c*acr s e c=acr s e c ^ 2 by grind];exact h3
    rcases Int.lt_trichotomy (acr s e c) 0 with q |q |q
    .have:=Int.mul_pos_of_neg_of_neg q q;lia
    .exact q
    .have:=Int.mul_pos q q;lia
   .subst q;exact absurd (show alg s s c<=0 by unfold alg;simp) z
theorem zlo{s e p q:Cell}(hp:OnL s e p)(hq:OnL s e q):acr s p q=0:=by
 by_cases h:s=e
 .rw[hp.2 h];exact zjM s q
 have h1:=hp.1;have h2:=hq.1;unfold acr at h1 h2 ⊢;generalize p.1-s.1=u1 at *;generalize p.2-s.2=u2 at *;generalize q.1-s.1=v1 at *;generalize q.2-s.2=v2 at *
 have hd:e.1-s.1≠0∨e.2-s.2≠0:=by
  rcases Classical.em (e.1-s.1=0) with z |z
  .refine .inr λz2=>h (Prod.ext ?_ ?_) <;> lia
  .exact .inl z
 generalize e.1-s.1=d1 at *;generalize e.2-s.2=d2 at *;rcases hd with z |z
 .have:d1*(u1*v2-u2*v1)=0:=by grind
  rcases Int.mul_eq_zero.mp this with q |q
  .exact absurd q z
  .exact q
 .have:d2*(u1*v2-u2*v1)=0:=by grind
  rcases Int.mul_eq_zero.mp this with q |q
  .exact absurd q z
  .exact q
noncomputable def gsm(f:Nat->Int)(i k:Nat):Int:=((List.range' i k).map f).sum
theorem zfd(f:Nat->Int)(i k:Nat):gsm f i (k+1)=gsm f i k+f (i+k):=by unfold gsm;rw[List.range'_1_concat,Ax,List.sum_append];simp
theorem zjp(f:Nat->Int)(i k:Nat):∀l,gsm f i (k+l)=gsm f i k+gsm f (i+k) l
 | 0=>by unfold gsm;simp
 |l+1=>by
  rw[show k+(l+1)=(k+l)+1 by lia,zfd,zjp f i k l,zfd,show i+(k+l)=i+k+l by lia];lia
theorem zgi{sp:List Cell}{i j:Nat}(hij:i < j)(hj:j <= sp.length)(h:Str1 sp 0 i j) :
  gsm (arT sp) i (j-i)=acr (sp.getD 0 (0,0)) (sp.getD i (0,0)) (sp.getD (j % sp.length) (0,0)):=by
 have hq:∀k,k<=j-i->gsm (arT sp) i k=acr (sp.getD 0 (0,0)) (sp.getD i (0,0)) (sp.getD ((i+k) % sp.length) (0,0)):=by
  intro k
  induction k with
  |zero =>
   intro _;unfold gsm;rw[List.range'_zero,Nat.add_zero,B9 (by lia),zhG];rfl
  |succ k ih =>
   intro hk;rw[zfd,ih (by lia),B9 (show i+k<sp.length by lia)];unfold arT;rw[show i+k+1=i+(k+1) by lia,zlT]
   have on1:OnL (sp.getD i (0,0)) (sp.getD (j % sp.length) (0,0)) (sp.getD (i+k) (0,0)):=by
    rcases Du k with z |z
    .rw[z,Nat.add_zero];exact onL_s _ _
    .exact zkK (h (i+k) (by lia) (by lia))
   have on2:OnL (sp.getD i (0,0)) (sp.getD (j % sp.length) (0,0)) (sp.getD ((i+(k+1)) % sp.length) (0,0)):=by
    rcases A1 (i+(k+1)) j with z |z
    .rw[B9 (show i+(k+1)<sp.length by lia)];exact zkK (h (i+(k+1)) (by lia) z)
    .rw[show i+(k+1)=j by lia];exact onL_e _ _
   rw[zlo on1 on2,Int.add_zero]
 rw[hq (j-i) (Ai _),show i+(j-i)=j by lia]
theorem ziL(f:Nat->Int)(n:Nat):∀(ks:List Nat) (a:Nat),(a::ks).Pairwise (·<·)->(∀k∈a::ks,k<n)->((prs n (a::ks)).map λp=>gsm f p.1 (p.2-p.1)).sum=gsm f a (n-a)
 |[],a,_,_=>by show gsm f a (n-a)+0=_;lia
 |b::ks,a,h,hn=>by
  have hb:=(AU.mp h).1 b Aq;have hbn:=hn b (by simp);have ih:=ziL f n ks b (AU.mp h).2 λk hk=>hn k (Ak _ hk)
  show gsm f a (b-a)+((prs n (b::ks)).map λp=>gsm f p.1 (p.2-p.1)).sum=_;rw[ih,show n-a=(b-a)+(n-b) by lia,zjp,show a+(b-a)=b by lia]
noncomputable def zaY(sp:List Cell)(ks:List Nat):List Cell:=ks.map λk=>sp.getD k (0,0)
theorem zjJ{sp:List Cell}{ks:List Nat}(hc:Crn sp.length ks)(hN:Near sp 0 ks)(hl:ks.length<=481):ar2 (zaY sp ks)=ar2 sp:=by
 have hg:=zcu hc hl;have hne:=hg.1;have hk0:0<ks.length:=CD.mpr hne;have hn0:0<sp.length:=by have:=hc.2.2 _ (Ah hc.2.1);lia
 obtain⟨kt,hkt⟩:∃kt,ks=0::kt:=by
  have:=hc.2.1
  cases ks with
  |nil=>exact absurd rfl hne
  |cons a r=>simp at this;subst this;exact⟨r,rfl⟩
 have e1:ar2 sp=gsm (arT sp) 0 sp.length:=by unfold ar2 gsm;rw[List.range_eq_range']
 have e2:=ziL (arT sp) sp.length kt 0 (hkt ▸ hc.1) (hkt ▸ hc.2.2);rw[<- hkt,Nat.sub_zero]at e2;rw[e1,<- e2];unfold ar2;have hcl:(zaY sp ks).length=ks.length:=by unfold zaY;rw[Af]
 have gc:∀m (hm:m<ks.length),(zaY sp ks).getD m (0,0)=sp.getD ks[m] (0,0):=λm hm=>by unfold zaY;rw[Am,Ap,Aa hm];rfl
 congr 1
 refine List.ext_getElem? λm=>?_
 rw[Ap,Ap,hcl];rcases A1 m ks.length with hm |hm
 .rw[BG hm,zcE]
  have hx:(ks.zip (bhd ks sp.length))[m]?=some (ks[m],(bhd ks sp.length)[m]'(by rw[show (bhd ks sp.length).length=ks.length from zbb hne _];exact hm)):=by rw[A4];exact⟨Aa hm,Aa _⟩
  rw[hx];show some (arT (zaY sp ks) m)=some (gsm (arT sp) ks[m] _);have hj:(nxs ks sp.length)[m]?=some ((bhd ks sp.length)[m]'(by rw[show (bhd ks sp.length).length=ks.length from zbb hne _];exact hm)):=Aa _;generalize ((bhd ks sp.length)[m]'(by rw[show (bhd ks sp.length).length=ks.length from zbb hne _];exact hm))=j at hj;obtain⟨l1,l2⟩:=hg.2.2 m _ j (Aa hm) hj;rw[zgi l1 l2 (hN m _ j (Aa hm) hj)];unfold arT;rw[hcl,gc 0 hk0,gc m hm];have z0:ks[0]=0:=by simp[hkt]
  rw[z0]
  congr 2
  rcases A1 (m+1) ks.length with q |q
  .rw[B9 q,gc (m+1) q];unfold nxs at hj;rw[As (by rw[AS];lia),BD,show 1+m=m+1 by lia,Aa q]at hj;rw[AO hj,B9 (hc.2.2 j (by rw[<- AO hj];exact A7 q))]
  .rw[show m+1=ks.length by lia,Nat.mod_self,gc 0 hk0,z0];unfold nxs at hj;rw[AD (by rw[AS];lia),AS,show m-(ks.length-1)=0 by lia]at hj;have:sp.length=j:=by simpa using hj
   rw[<- this,Nat.mod_self]
 .rw[List.getElem?_eq_none (by rw[A6];exact hm),List.getElem?_eq_none (by rw[zbC];exact hm)];rfl
noncomputable def zkF(K:W.Frag):Sp:=λvs H Q _=>∃(p:Addr) (us:List V) (cs:List Cell),vs=[.ref p]/\H p=some (.lst us)/\VR us cs cR H/\cs≠[]/\cs.length<=481/\Dfs cs/\Q (.int (ar2 cs)) H
theorem zdb (T:Txt P w K mg) (d:Df K mg "_law_twice_area" zbn ["_law_cells"]):FnOk P w K mg base CX0 1 d.f d.fd ["_law_cells"] (zkF K):=by
 refine d.F.ok zau (λvs H Q E h=>?_) (λcdv A outer s H vs Q E hr h=>?_)
 .obtain⟨p,us,cs,rfl,_⟩:=h;rfl
 .obtain⟨p,us,cs,rfl,hp,hus,hne,hl,hD,k⟩:=h
  refine⟨_,(zac (sE 1 zau.nd zae)
   (zac (zbI A3 rfl (zcl (by rfl) T.nrange (zah (zam zan (by rfl) T.nlen (by rfl) (pa_N (pv 0) zab)) zab)) (nG 2 zau.nd)
   (zac (sE 3 zau.nd (pe_op zaI (pe_ix zay (pe_ix zas (pv 0) (pv 2) (λ_ _=>rfl)) zae (λ_ _=>rfl)) (pe_ix zay (pe_ix zas (pv 0) zae (λ_ _=>rfl)) zae (λ_ _=>rfl))))
   (zac (sE 4 zau.nd (pe_op zaI (pe_ix zay (pe_ix zas (pv 0) (pv 2) (λ_ _=>rfl)) zae (λ_ _=>rfl)) (pe_ix zay (pe_ix zas (pv 0) zae (λ_ _=>rfl)) zae (λ_ _=>rfl))))
   (zac (zbw (pe_ix zas (pv 0) (pe_op zbN (pe_op zaL (pv 2) zae) (zam zan (by rfl) T.nlen (by rfl) (pa_N (pv 0) zab))) (λ_ _=>rfl)) (zbk (by rfl) (zag (nG 5 zau.nd) (zag (nG 6 zau.nd) zaw))))
   (zaf (sE 1 zau.nd (pe_op zaI (pe_op zaL (pv 1) (pe_op zbl (pv 3) (pe_op zaI (pv 6) (pe_ix zay (pe_ix zas (pv 0) zae (λ_ _=>rfl)) zae (λ_ _=>rfl))))) (pe_op zbl (pv 4) (pe_op zaI (pv 5) (pe_ix zay (pe_ix zas (pv 0) zae (λ_ _=>rfl)) zae (λ_ _=>rfl)))))))))))
   (zaf (zak (pv 1))))),?_⟩
  have hul:=hus.1;have h0:0<cs.length:=CD.mpr hne;refine⟨_,rfl,p,_,rfl,.inl (SqL.of hp),_,rfl,by lia,by lia,?_⟩
  have hat:∀i,i<cs.length->∃t,us[i]?=some (.ref t)/\H t=some (.tup [.int (cs.getD i (0,0)).1,.int (cs.getD i (0,0)).2])/\cs.getD i (0,0)∈cs:=λi hi=>by
   obtain⟨v,hv,t,rfl,ht⟩:=hus.has (Aa hi);have e:cs.getD i (0,0)=cs[i]:=by rw[Am,Aa hi];rfl
   exact⟨t,hv,by rw[e];exact ht,by rw[e];exact A7 hi⟩
  obtain⟨t0,v0,q0,m0⟩:=hat 0 h0;show zbV (Itr 0 ((us.length:Int)).toNat) _ _ _ _ _;rw[show ((us.length:Int)).toNat=cs.length by lia]
  refine zbv (lo:=0) (n:=cs.length) (λi σ H1=>∃o2 o3 o4 o5 o6,σ=[some (.ref p),some (.int ((AE i).map (arT cs)).sum),o2,o3,o4,o5,o6]/\H1=H)
   ⟨_,_,_,_,_,rfl,rfl⟩ ?_ ?_
  .rintro i σ H1 hi ⟨o2,o3,o4,o5,o6,rfl,rfl⟩;obtain⟨t1,v1,q1,m1⟩:=hat i hi;have hmod:(i+1) % cs.length<cs.length:=C3 _ h0;obtain⟨t2,v2,q2,m2⟩:=hat ((i+1) % cs.length) hmod;have ei:((0:Int)+(i:Int))=(i:Int):=by lia
   have d1:=hD _ m1 _ m0;have d2:=hD _ m2 _ m0;have a1:atI us ((0:Int)+(i:Int))=some (.ref t1):=by rw[ei];exact zai v1
   refine⟨_,rfl,_,rfl,p,_,_,_,rfl,rfl,SqL.of hp,a1,t1,_,_,_,rfl,rfl,SqT.of q1,zai (j:=0) rfl,_,rfl,p,_,_,_,rfl,rfl,SqL.of hp,zai (j:=0) v0,t0,_,_,_,rfl,rfl,SqT.of q0,zai (j:=0) rfl,_,_,rfl,rfl,?_⟩;refine⟨_,rfl,_,rfl,p,_,_,_,rfl,rfl,SqL.of hp,a1,t1,_,_,_,rfl,rfl,SqT.of q1,zai (j:=1) rfl,_,rfl,p,_,_,_,rfl,rfl,SqL.of hp,zai (j:=0) v0,t0,_,_,_,rfl,rfl,SqT.of q0,zai (j:=1) rfl,_,_,rfl,rfl,?_⟩;refine⟨_,rfl,_,rfl,_,_,rfl,rfl,_,rfl,p,_,rfl,.inl (SqL.of hp),?_⟩
   have amod:atI us (((0:Int)+(i:Int)+1) % (us.length:Int))=some (.ref t2):=by rw[ei,hul,show (i:Int)+1=((i+1:Nat):Int) by lia,<- Int.natCast_emod];exact zai v2
   refine⟨_,_,rfl,rfl,(by show (0:Int)<us.length;lia),p,_,_,_,rfl,rfl,SqL.of hp,amod,t2,_,rfl,SqT.of q2,rfl,_,_,rfl,_,_,rfl,rfl,?_⟩;have c1:CMul ((cs.getD i (0,0)).1-(cs.getD 0 (0,0)).1) ((cs.getD ((i+1) % cs.length) (0,0)).2-(cs.getD 0 (0,0)).2):=.inl d1.m1;have c2:CMul ((cs.getD i (0,0)).2-(cs.getD 0 (0,0)).2) ((cs.getD ((i+1) % cs.length) (0,0)).1-(cs.getD 0 (0,0)).1):=.inl d1.m2;refine⟨_,rfl,_,rfl,_,rfl,_,rfl,p,_,_,_,rfl,rfl,SqL.of hp,zai (j:=0) v0,t0,_,_,_,rfl,rfl,SqT.of q0,zai (j:=1) rfl,_,_,rfl,rfl,_,_,rfl,rfl,c1,_,_,rfl,rfl,?_⟩;refine⟨_,rfl,_,rfl,_,rfl,p,_,_,_,rfl,rfl,SqL.of hp,zai (j:=0) v0,t0,_,_,_,rfl,rfl,SqT.of q0,zai (j:=0) rfl,_,_,rfl,rfl,_,_,rfl,rfl,c2,_,_,rfl,rfl,?_⟩
   have tot:((AE (i+1)).map (arT cs)).sum=((AE i).map (arT cs)).sum+((cs.getD i (0,0)).1-(cs.getD 0 (0,0)).1)*((cs.getD ((i+1) % cs.length) (0,0)).2-(cs.getD 0 (0,0)).2)-((cs.getD i (0,0)).2-(cs.getD 0 (0,0)).2)*((cs.getD ((i+1) % cs.length) (0,0)).1-(cs.getD 0 (0,0)).1):=by rw[List.range_succ,Ax,List.sum_append];show ((AE i).map (arT cs)).sum+(arT cs i+0)=_;unfold arT acr;lia
   show ∃o2 o3 o4 o5 o6,_=[some (V.ref p),some (V.int ((AE (i+1)).map (arT cs)).sum),o2,o3,o4,o5,o6]/\_;rw[tot];exact⟨_,_,_,_,_,rfl,rfl⟩
  .rintro σ H1 ⟨o2,o3,o4,o5,o6,rfl,rfl⟩;exact⟨_,rfl,k⟩
theorem zjL:∀{R:List Rnd}{TT:List (List Nat)}{t:TH.Side},t∈allS (R.map spo) TT->∃(i:Nat) (r:Rnd) (ks:List Nat),R[i]?=some r/\TT[i]?=some ks/\t∈sds (spo r) ks
 |[],TT,t,h=>by cases TT <;> cases h
 |r::R,[],t,h=>by cases h
 |r::R,ks::TT,t,h=>by
  rcases A2.mp (show t∈sds (spo r) ks++allS (R.map spo) TT from h) with z |z
  .exact⟨0,r,ks,rfl,rfl,z⟩
  .obtain⟨i,r',ks',h1,h2,h3⟩:=zjL z;exact⟨i+1,r',ks',by simpa using h1,by simpa using h2,h3⟩
theorem zfo:∀{R:List Rnd}{TT:List (List Nat)},zbP R TT->(allS (R.map spo) TT).length<=(R.map (·.row.length)).sum+R.length
 |[],TT,_=>by cases TT <;> exact AV _
 |r::R,[],_=>AV _
 |r::R,ks::TT,h=>by
  have ih:=zfo (R:=R) (TT:=TT) λi r' ks' h1 h2=>h (i+1) r' ks' (by simpa using h1) (by simpa using h2)
  have h1:=zhA (h 0 r ks rfl rfl);have h2:=zav r;have h3:(sds (spo r) ks).length=ks.length:=by unfold sds;rw[Af,zbC]
  show (sds (spo r) ks++allS (R.map spo) TT).length<=_;rw[Al,Ba,CA,AQ,h3];lia
theorem zjx{R:List Rnd}{TT:List (List Nat)}{L:List Cell}(h:zbP R TT)(hs:∀r∈R,∀t∈spo r,t∈L):∀t∈allS (R.map spo) TT,Dsd L t:=λt ht=>by obtain⟨i,r,ks,h1,h2,h3⟩:=zjL ht;obtain⟨k1,k2⟩:=zds (h i r ks h1 h2).2.2 t h3;exact⟨hs r (Ah h1) _ k1,hs r (Ah h1) _ k2⟩
theorem zkT{d:Cell}{R:List Rnd}{TT:List (List Nat)}:zbP (R.map (mvd d)) TT ↔ zbP R TT:=by
 unfold zbP;constructor
 .intro h i r ks h1 h2;have:=h i (mvd d r) ks (by rw[Ap,h1];rfl) h2
  rwa [zdE]at this
 .intro h i r ks h1 h2;rw[Ap]at h1;obtain⟨r',hr',rfl⟩:=AT.mp h1;rw[zdE];exact h i r' ks hr' h2
theorem zk0{R:List Rnd}{TT:List (List Nat)}{L:List Cell}(h:zbP R TT)(hl:R.length=TT.length)(hS:Sml R L):Thn R TT:=by have h1:=hS.len;have h2:=hS.sum;have h3:=zfo h;refine⟨hl,by lia,λr hr=>⟨hS.row r hr,by have:=zcC hr;lia⟩,λi r ks e1 e2=>?_,by lia⟩;have h4:=zhA (h i r ks e1 e2);have h5:=zav r;have h6:=zcC (Ah e1);exact zcu (h i r ks e1 e2) (by lia)
theorem zlG(xs:List V)(j:Nat):cutV xs none (some (j:Int))=xs.take j:=by
 rcases A1 xs.length j with h |h
 .rw[show xs.take j=xs from AJ (by lia)];unfold cutV;rw[sIx_nat,Nat.min_eq_right (by lia)];show List.take (xs.length-0) (List.drop 0 xs)=xs;simp
 .exact zjv xs h
noncomputable def zg6(K:W.Frag):Sp:=λvs H Q _=>∃(a:Addr) (B M dx:Int) (m st:Nat) (cs:List Cell) (R:List Rnd) (rs:List V),vs=[.ref a,.int B,.int M,.int dx]/\H a=some (.lst rs)/\VR rs R rR H/\(∀r∈R,RndC cs r)/\m<=60/\R.length<=m/\(R.map (·.row.length)).sum<=st/\st<=200/\Boxed m cs /\
 0<=B/\0<=M/\B+M<=1000000/\∀H',Same H H'->Q (.bl true) H'
theorem zfR (T:Txt P w K mg) (g_thinned:Fn P w K mg base 7 "thinned" ["some", "bound"] (zfB K)) (g_holds:Fn P w K mg base 5 "holds" ["some", "bound", "thing"] (zgm K)) (g_leavable:Fn P w K mg base 6 "leavable" ["some", "bound", "thinning"] (zcZ K))
  (g_moved:Fn P w K mg base 1 "moved" ["one","dx","dy"] zit) (g__law_spots:Fn P w K mg base 1 "_law_spots" ["_law_one"] (zb4 K)) (g__law_twice_area:Fn P w K mg base 1 "_law_twice_area" ["_law_cells"] (zkF K)) (g_fewest:Fn P w K mg base 6 "fewest" ["one","bound"] (zg7 K))
  (d:Df K mg "_law_right" zbt ["_law_some","_law_bound","_law_more","_law_dx"]):FnOk P w K mg base CX0 8 d.f d.fd ["_law_some","_law_bound","_law_more","_law_dx"] (zg6 K):=by
 refine d.F.ok zaQ (λvs H Q E h=>?_) (λcdv A outer s H vs Q E hr h=>?_)
 .obtain⟨a,B,M,dx,m,st,cs,R,rs,rfl,_⟩:=h;rfl
 .obtain⟨a,B,M,dx,m,st,cs,R,rs,rfl,ha,hR,hrc,hm,hRm,hsum,hst,hbox,b0,m0,bm,k⟩:=h;have hu64:=hr.units;have nb0:(["_law_one","_law_dx"]:List Str).Nodup:=by decide +kernel
  have nb1:(["_law_spot","_law_spots_here"]:List Str).Nodup:=by decide +kernel
  refine⟨_,(zac (sE 4 zaQ.nd (pC g_thinned hr (pa_N (pv 0) (pa_N (pv 1) zab))))
   (zac (ps_if (pw_or (zce (zbj (pC g_holds hr (pa_N (pv 0) (pa_N (pv 1) (pa_N (pv 4) zab)))))) (pw_or (zce (zbj (pC g_holds hr (pa_N (pv 0) (pa_B (pe_op zaL (pv 1) (pv 2)) (pa_N (pv 4) zab)))))) (zhd (zaD (ziU hu64) (pC g_leavable hr (pa_N (pv 0) (pa_N (pv 1) (pa_N (pv 4) zab)))) (za0 zab) (zax _))))).pt
   (zaf (zak pe_bl))
   zaA)
   (zac (zhf (i:=5) (osc:=zad zbt) (N:=zcp) (N':=["_law_one","_law_dx"]) (sel:=[none,some 3]) bO zaQ.nd (by rfl) (Or.inl rfl) (zaB (pv 0)) (λ_ _ _ _ _=>(nG 0 nb0)) (λ_ _ _ _ _=>zaE) (λ_ _ _ _ _=>(pC g_moved hr (pa_N (pv 0) (pa_N (pv 1) (pa_B (pe_op zaI zae (pv 1)) zab))))))
   (zac (ps_if (pw_or (zce (zbj (pC g_holds hr (pa_N (pv 5) (pa_N (pv 1) (pa_N (pv 4) zab)))))) (zhd (zce (zbj (pC g_holds hr (pa_N (pv 0) (pa_N (pv 1) (zah (pC g_thinned hr (pa_N (pv 5) (pa_N (pv 1) zab))) zab)))))))).pt
   (zaf (zak pe_bl))
   zaA)
   (zac (zbI A3 rfl (zhg (by rfl) T.nzip (pa_N (pv 0) (zah (pC g_thinned hr (pa_N (pv 0) (pa_C zae zab))) zab))) (zbk (by rfl) (zag (nG 6 zaQ.nd) (zag (nG 7 zaQ.nd) zaw)))
   (zac (zcQ (i:=8) zaQ.nd (by rfl) (Or.inr rfl) (pC g__law_spots hr (pa_N (pv 6) zab)))
   (zaf (ps_if (zaD op_ne (pC g__law_twice_area hr (zah (zaF (osc:=zad zbt) (N:=zcp) (N':=["_law_spot","_law_spots_here"]) (sel:=[none,some 8]) bO (zaB (pv 7)) (λ_ _ _ _ _=>(nG 0 nb1)) (λ_ _ _ _ _=>zaE) (λ_ _ _ _ _=>(pe_ix (zdw (K:=K)) (pv 1) (pv 0) (λ_ _=>rfl)))) zab)) (pC g__law_twice_area hr (pa_N (pv 8) zab)) (zax _))
   (zaf (zak pe_bl))
   zaA))))
   (zac (zbI A3 rfl (zaB (zbz zc1 (pv 0) zck (zbU zae))) (nG 6 zaQ.nd)
   (zaf (ps_if (zmc (zaD op_lt (zam zan (by rfl) T.nlen (by rfl) (zah (pe_ix zay (pv 6) zae (λ_ _=>rfl)) zab)) zae (zax _)) (zld (zaD op_lt (zam zan (by rfl) T.nlen (by rfl) (zah (pe_ix zas (pC g_thinned hr (zah (za0 (pa_N (pv 6) zab)) (pa_N (pv 1) zab))) zae (λ_ _=>rfl)) zab)) (zam zan (by rfl) T.nlen (by rfl) (zah (pC g_fewest hr (pa_N (pv 6) (pa_N (pv 1) zab))) zab)) (zax _)))).pt
   (zaf (zak pe_bl))
   zaA)))
   (zaf (zak pe_bl)))))))),?_⟩
  have hS:Sml R cs:=Sml.of hrc hm hRm hsum hst hbox;have b1:B<=1000000:=by lia
  have hRs:=hS.len;have hSs:=hS.sum;have h300:∀{TT},zbP R TT->(allS (R.map spo) TT).length<=300:=λh=>by have:=zfo h;lia
  refine⟨_,rfl,_,rfl,a,B,cs,R,rs,rfl,ha,hR,hS,b0,b1,λpf TT ts H1 hpf s1 e1 hv1 hnd1 hD hF=>?_⟩;have hT1:=thG.vr hv1;have hR1:VR rs R rR H1:=hR.mono λx v h=>rR.kt h (KT.of s1)
  refine⟨_,rfl,_,rfl,_,rfl,a,pf,rs,ts,R,TT,B,cs,rfl,s1 _ _ ha,hR1,e1,hT1,hD.b.th,hD.crnAll,h300 hD.crnAll,b0,b1,hD.b.dL,hD.b.sL,λbb1 H2 s2 hb1=>⟨_,rfl,?_⟩⟩;have hb1t:bb1=true:=hb1.mpr ⟨hD.near,hD.nox⟩;subst hb1t;refine ite2 (λhy=>absurd hy (by decide)) (λ_=>?_);have s02:=s1.trans s2;have hR2:VR rs R rR H2:=hR.mono λx v h=>rR.kt h (KT.of s02)
  have hT2:VR ts TT thR H2:=hT1.mono λx v h=>h.same s2
  refine⟨_,rfl,_,rfl,_,rfl,_,_,rfl,rfl,_,rfl,a,pf,rs,ts,R,TT,B+M,cs,rfl,s02 _ _ ha,hR2,s2 _ _ e1,hT2,hD.b.th,hD.crnAll,h300 hD.crnAll,by lia,bm,hD.b.dL,hD.b.sL,λbb2 H3 s3 hb2=>⟨_,rfl,?_⟩⟩;have hb2t:bb2=true:=hb2.mpr ⟨zi2 m0 hD.near,hD.nox⟩;subst hb2t;refine ite2 (λhy=>absurd hy (by decide)) (λ_=>?_);have s13:=s2.trans s3;have s03:=s1.trans s13;refine⟨_,rfl,_,rfl,_,rfl,a,pf,rs,ts,R,TT,B,cs,rfl,s03 _ _ ha,hR.mono (λx v h=>rR.kt h (KT.of s03)),s13 _ _ e1,hT1.mono (λx v h=>h.same s13),hD.b,λpl H4 ls hpl s4 e4 hv4=>?_⟩
  have hls:ls=[]:=by
   have h1:=hF;obtain⟨kk,hk1,hk2,_⟩:=h1;have h2:(cnr 0 TT).filter (goB R TT B)=[]:=by rw[hk1];exact hk2
   have:=hv4.1;rw[h2]at this;exact B3 this
  subst hls;refine⟨(by show 0<=sizeLine;decide),λl5 hl5=>?_⟩;have s5:=Same.up (o:=.lst []) hl5;have e5:upd H4 l5 (.lst []) l5=some (.lst []):=zaa;generalize upd H4 l5 (.lst [])=H5 at s5 e5 ⊢;refine⟨.list [],.list [],.lst (SqL.of (s5 _ _ e4)) .nil,.lst (SqL.of e5) .nil,rfl,rfl,_,rfl,?_⟩;refine ite2 (λhy=>absurd hy (by decide)) (λ_=>?_);have s15:=s13.trans (s4.trans s5);have s05:=s1.trans s15;have e5a:=s05 _ _ ha;have hR5:VR rs R rR H5:=hR.mono λx v h=>rR.kt h (KT.of s05)
  refine⟨_,rfl,a,rfl,⟨_,SqL.of e5a⟩,λlf hlf=>?_⟩
  refine zar (K:=K) (a:=a) (xs:=rs) (λj σ H6=>∃o,σ=[o,some (.int dx)]/\Same H5 H6/\∃zs,H6 lf=some (.lst zs)/\VR zs ((R.take j).map (mvd (dx,0-dx))) rR H6)
   ⟨_,rfl,Same.up hlf,[],zaa,VR.nil⟩ (λj σ H6 _ ⟨_,_,s6,_⟩=>SqL.of (s6 _ _ e5a)) ?_ ?_
  .rintro j v σ H6 hj ⟨o,rfl,s6,zs,e6,hz⟩;obtain⟨r,hr1,hxr⟩:=hR5.at hj;have hjl:j<R.length:=(Ab.mp hr1).1;have hzl:zs.length<=60:=by rw[hz.1,Af,Av];lia
   refine gN ?_
   refine⟨_,rfl,_,rfl,_,rfl,_,_,rfl,rfl,v,r,dx,0-dx,rfl,rR.kt hxr (KT.of s6),λp H7 s7 hp7=>?_⟩;have e7:=s7 _ _ e6;refine⟨zs,e7,zaj (by lia),_,rfl,zap hlf (s6.trans s7),_,zaa,?_⟩;rw[zaq hr1,Ax];exact hz.snoc (λx v h=>rR.kt (rR.kt h (KT.of s7)) (KT.lst e7)) (rR.kt hp7 (KT.lst e7))
  rintro σ H6 ⟨o,rfl,s6,zs,e6,hz⟩;rw[AJ (by rw[hR.1];exact Ai _)]at hz;have hSv:Sml (R.map (mvd (dx,0-dx))) (cs.map (mvC (dx,0-dx))):=hS.mv;have s16:=s15.trans s6;have s06:=s1.trans s16;have hcv:∀{TT},zbP R TT->zbP (R.map (mvd (dx,0-dx))) TT:=λh=>zkT.mpr h
  have hallv:allS ((R.map (mvd (dx,0-dx))).map spo) TT=(allS (R.map spo) TT).map (mvS (dx,0-dx)):=zd7 hD.b.th.crn;refine⟨_,rfl,_,rfl,_,rfl,lf,pf,zs,ts,R.map (mvd (dx,0-dx)),TT,B,cs.map (mvC (dx,0-dx)),rfl,e6,hz,s16 _ _ e1,hT1.mono (λx v h=>h.same s16),zl0 hD.b.th,hcv hD.crnAll,(by rw[hallv,Af];exact h300 hD.crnAll),b0,b1,hSv.dL,zjx (hcv hD.crnAll) hSv.sp,λbb3 H7 s7 hb3=>⟨_,rfl,?_⟩⟩;have hb3t:bb3=true:=hb3.mpr ⟨(zhl hD.b.th.crn).mpr hD.near,by rw[hallv,zi0];exact hD.nox⟩;subst hb3t;refine ite2 (λhy=>absurd hy (by decide)) (λ_=>?_);have s07:=s06.trans s7;refine⟨_,rfl,_,rfl,_,rfl,_,rfl,lf,B,cs.map (mvC (dx,0-dx)),R.map (mvd (dx,0-dx)),zs,rfl,s7 _ _ e6,hz.mono (λx v h=>rR.kt h (KT.of s7)),hSv,b0,b1,λpg TG tg H8 hpg s8 e8 hv8 hnd8 hDG hFG=>?_⟩;have hcG:zbP R TG:=zkT.mp hDG.crnAll;have hlG:R.length=TG.length:=by have:=hDG.b.th.len;rwa [Af]at this
  have hTG:=zk0 hcG hlG hS;have hallG:allS ((R.map (mvd (dx,0-dx))).map spo) TG=(allS (R.map spo) TG).map (mvS (dx,0-dx)):=zd7 hTG.crn;have s08:=s07.trans s8;refine⟨a,pg,rs,tg,R,TG,B,cs,rfl,s08 _ _ ha,hR.mono (λx v h=>rR.kt h (KT.of s08)),e8,thG.vr hv8,hTG,hcG,h300 hcG,b0,b1,hS.dL,zjx hcG hS.sp,λbb4 H9 s9 hb4=>⟨_,rfl,?_⟩⟩;have hb4t:bb4=true:=hb4.mpr ⟨(zhl hTG.crn).mp hDG.near,by have:=hDG.nox;rw[hallG,zi0]at this;exact this⟩;subst hb4t;refine ite2 (λhy=>absurd hy (by decide)) (λ_=>?_);have s09:=s08.trans s9;refine⟨_,rfl,_,rfl,a,0,cs,R,rs,rfl,s09 _ _ ha,hR.mono (λx v h=>rR.kt h (KT.of s09)),hS,by decide,by decide,λpz TZ tz H10 hpz s10 e10 hv10 hnd10 hDZ hFZ=>?_⟩;have s010:=s09.trans s10;have hTz:=thG.vr hv10;have hle:rs.length=tz.length:=by rw[hR.1,hTz.1,hDZ.b.th.len]
  refine⟨a,pz,rfl,⟨_,SqL.of (s010 _ _ ha)⟩,⟨_,SqL.of e10⟩,?_⟩
  refine zfe (K:=K) (a:=a) (b:=pz) (xs:=rs) (ys:=tz) (λq σ H11=>∃o6 o7 o8,σ=[some (.ref a),some (.int B),some (.int M),some (.int dx),some (.ref pf),some (.ref lf),o6,o7,o8]/\Same H10 H11)
   ⟨_,_,_,rfl,Same.refl _⟩ (λq σ H11 _ ⟨_,_,_,_,s11⟩=>⟨SqL.of ((s010.trans s11) _ _ ha),SqL.of (s11 _ _ e10)⟩) hle ?_ ?_
  .rintro q x y σ H11 t hx hy ⟨o6,o7,o8,rfl,s11⟩ ht;obtain⟨r,hr1,hxr⟩:=hR.at hx;obtain⟨ks,hk1,c,rfl,hc⟩:=hTz.at hy;have hcr:=hDZ.b.cr q r ks hr1 hk1;have hgl:=(hDZ.b.th.crn q r ks hr1 hk1).2.1;have hne:=(hDZ.b.th.crn q r ks hr1 hk1).1;have hNr:=hDZ.near q r ks hr1 hk1;have hrow:=hDZ.b.th.row r (Ah hr1);have harea:=zjJ hcr hNr hgl;have s12:=Same.up (o:=.tup [x,.ref c]) ht;have e12t:upd H11 t (.tup [x,.ref c]) t=some (.tup [x,.ref c]):=zaa;generalize upd H11 t (.tup [x,.ref c])=H12 at s12 e12t;have s1012:=s11.trans s12;have s012:=s010.trans s1012;refine⟨t,_,rfl,SqT.of e12t,rfl,_,_,rfl,_,_,rfl,rfl,?_⟩;refine⟨_,rfl,x,r,rfl,rR.kt hxr (KT.of s012),hrow.1,hrow.2,λpS H13 us hpS s13' e13 hus=>?_⟩;have hul:=hus.1;have s1013:=s1012.trans s13';have hspl:=zdD hrow.2;refine⟨_,rfl,c,rfl,⟨_,SqL.of (s1013 _ _ hc)⟩,λgc hgc=>?_⟩
   refine zar (K:=K) (a:=c) (xs:=rowV ks) (λj σ H14=>∃o,σ=[o,some (.ref pS)]/\Same H13 H14/\∃ws,H14 gc=some (.lst ws)/\VR ws (zaY (spo r) (ks.take j)) cR H14)
    ⟨_,rfl,Same.up hgc,[],zaa,VR.nil⟩ (λj σ H14 _ ⟨_,_,s14,_⟩=>SqL.of ((s1013.trans s14) _ _ hc)) ?_ ?_
   .rintro j u σ H14 hj ⟨o,rfl,s14,ws,e14,hw⟩;have hjl:j<(rowV ks).length:=(Ab.mp hj).1;unfold rowV at hj hjl;rw[Ap]at hj;rw[Af]at hjl;obtain⟨kq,hkq,rfl⟩:=AT.mp hj;have hkn:kq<us.length:=by rw[hul];exact hcr.2.2 kq (Ah hkq)
    obtain⟨ck,hck,rk⟩:=hus.at (Aa hkn)
    have hwl:ws.length<=481:=by rw[hw.1];unfold zaY;rw[Af,Av];lia
    refine gN ?_
    refine⟨_,rfl,_,rfl,pS,_,_,_,rfl,rfl,SqL.of (s14 _ _ e13),zai (Aa hkn),ws,e14,zaj (by lia),_,rfl,zap hgc s14,_,zaa,?_⟩
    have hca:zaY (spo r) (ks.take (j+1))=zaY (spo r) (ks.take j)++[ck]:=by unfold zaY;rw[zaq hkq,Ax];show _++[(spo r).getD kq (0,0)]=_;rw[Am,hck];rfl
    rw[hca];exact hw.snoc (λx v h=>h.kt (KT.lst e14)) ((rk.kt (KT.of s14)).kt (KT.lst e14))
   rintro σ H14 ⟨o,rfl,s14,ws,e14,hw⟩;rw[AJ (by unfold rowV;rw[Af];exact Ai _)]at hw;have hcne:zaY (spo r) ks≠[]:=by unfold zaY;simpa using hne
   have hcl:(zaY (spo r) ks).length<=481:=by unfold zaY;rw[Af];exact hgl
   have hcD:Dfs (zaY (spo r) ks):=λa1 h1 a2 h2=>by obtain⟨k1,hk1',rfl⟩:=AF.mp h1;obtain⟨k2,hk2',rfl⟩:=AF.mp h2;exact (zdF hrow.1 hrow.2).df (zbq (hcr.2.2 k1 hk1')) (zbq (hcr.2.2 k2 hk2'))
   have hsD:Dfs (spo r):=λa1 h1 a2 h2=>(zdF hrow.1 hrow.2).df h1 h2
   have hsne:spo r≠[]:=λz=>by have:=zav r;rw[z]at this;simp at this
   refine⟨gc,ws,zaY (spo r) ks,rfl,e14,hw,hcne,hcl,hcD,?_⟩;refine⟨_,rfl,pS,us,spo r,rfl,s14 _ _ e13,hus.mono (λx v h=>h.kt (KT.of s14)),hsne,hspl,hsD,rfl,_,rfl,?_⟩;rw[harea];refine ite2 (λhy=>by simp at hy) (λ_=>?_);exact⟨_,_,_,rfl,s1013.trans s14⟩
  rintro σ H11 ⟨o6,o7,o8,rfl,s11⟩;have s011:=s010.trans s11;have hR11:VR rs R rR H11:=hR.mono λx v h=>rR.kt h (KT.of s011)
  refine⟨_,rfl,_,rfl,a,_,rfl,SqL.of (s011 _ _ ha),λp3 hp3=>?_⟩;have s12:=Same.up (o:=.lst (cutV rs none (some 3))) hp3;have e12:upd H11 p3 (.lst (cutV rs none (some 3))) p3=some (.lst (cutV rs none (some 3))):=zaa;generalize upd H11 p3 (.lst (cutV rs none (some 3)))=H12 at s12 e12 ⊢;rw[show (some (3:Int))=some ((3:Nat):Int) from rfl,zlG]at e12;have s012:=s011.trans s12;have hR12:VR (rs.take 3) (R.take 3) rR H12:=(hR11.mono λx v h=>rR.kt h (KT.of s12)).take 3;refine⟨p3,rfl,⟨_,SqL.of e12⟩,?_⟩
  refine zar (K:=K) (a:=p3) (xs:=rs.take 3) (λj σ H13=>∃o6 o7 o8,σ=[some (.ref a),some (.int B),some (.int M),some (.int dx),some (.ref pf),some (.ref lf),o6,o7,o8]/\Same H12 H13)
   ⟨_,_,_,rfl,Same.refl _⟩ (λj σ H13 _ ⟨_,_,_,_,s13⟩=>SqL.of (s13 _ _ e12)) ?_ ?_
  .rintro j u σ H13 hj ⟨o6,o7,o8,rfl,s13⟩;obtain⟨r,hr1,hxr⟩:=hR12.at hj;have hrm:r∈R:=List.mem_of_mem_take (Ah hr1);have hx13:rR r u H13:=rR.kt hxr (KT.of s13);obtain⟨q,rw',rfl,q1,q2⟩:=id hx13;have hrl:(rowV r.row).length=r.row.length:=by unfold rowV;rw[Af]
   refine⟨_,rfl,q,_,_,_,rfl,rfl,SqT.of q1,zai (j:=3) rfl,rw',_,rfl,.inr (SqT.of q2),_,_,rfl,rfl,_,rfl,?_⟩;refine ite2 (λhy=>?_) (λhn=>?_)
   .have hr10:r.row.length<=10:=by have:=of_decide_eq_true hy;lia
    refine⟨_,rfl,(by show 1<=sizeLine;decide),λl1 hl1=>?_⟩;have s14:=Same.up (o:=.lst [.ref q]) hl1;have e14:upd H13 l1 (.lst [.ref q]) l1=some (.lst [.ref q]):=zaa;generalize upd H13 l1 (.lst [.ref q])=H14 at s14 e14 ⊢
    have hrc1:∀r'∈[r],RndC cs r':=λr' hr'=>by have e:r'=r:=(by simpa using hr');rw[e];exact hrc r hrm
    have hpos:=CO hrm;have hrs:=zcC hrm;have hS1:Sml [r] cs:=Sml.of (m:=m) (st:=st) hrc1 hm (by simp;lia) (by simp;lia) hst hbox;refine⟨_,rfl,l1,B,cs,[r],[.ref q],rfl,e14,VR.cons.mpr ⟨rR.kt hx13 (KT.of s14),VR.nil⟩,hS1,b0,b1,λb5 T5 t5 H15 hb5 s15' e15 hv15 _ hD5 _=>?_⟩;have hl5:=hD5.b.th.len
    obtain⟨k5,hk5⟩:∃k5,T5=[k5]:=by
     cases T5 with
     |nil=>simp at hl5
     |cons k5 T5 =>
      cases T5 with
      |nil=>exact⟨k5,rfl⟩
      |cons _ _=>simp at hl5
    subst hk5;obtain⟨v5,hv5,c5,rfl,_,_,hc5⟩:=hv15.has (i:=0) (x:=k5) rfl;refine⟨b5,_,_,_,rfl,rfl,SqL.of e15,zai (j:=0) hv5,c5,_,rfl,.inl (SqL.of hc5),?_⟩;have s1215:=s13.trans (s14.trans s15');refine⟨_,rfl,_,rfl,.ref q,r,B,cs,rfl,rR.kt hx13 (KT.of (s14.trans s15')),hrc r hrm,hr10,b0,b1,λpw kw H16 hpw s16' e16 hLw=>⟨pw,_,rfl,.inl (SqL.of e16),_,_,rfl,rfl,_,rfl,?_⟩⟩;have hkey:=hLw.2.2 k5 (hD5.b.cr 0 r k5 rfl rfl) ⟨hD5.near,hD5.nox⟩
    have hlen:kw.length<=k5.length:=by
     unfold key at hkey;rw[HT.lexLt_cons]at hkey
     by_cases e:(k5.length:Int)=kw.length
     .lia
     .rw[if_neg e]at hkey;have:=of_decide_eq_false hkey;lia
    refine ite2 (λhy2=>?_) (λ_=>?_)
    .exfalso;have:=of_decide_eq_true hy2;unfold rowV at this;rw[Af,Af]at this;lia
    .exact⟨_,_,_,rfl,s1215.trans s16'⟩
   .exact⟨_,_,_,rfl,s13⟩
  .rintro σ H13 ⟨o6,o7,o8,rfl,s13⟩;exact k H13 (s012.trans s13)
theorem zly:(900001:Int).natAbs.log2<9000:=(Nat.log2_lt (by decide)).mpr (AB (show (900001:Int).natAbs<2 ^ 20 by decide) (C4 (by decide) (by decide)))
theorem zlx:(100000:Int).natAbs.log2<9000:=(Nat.log2_lt (by decide)).mpr (AB (show (100000:Int).natAbs<2 ^ 20 by decide) (C4 (by decide) (by decide)))
noncomputable def spLaw(K:W.Frag):Sp:=λvs H Q _=>∃(a:Addr) (ns:List Int),vs=[.ref a]/\SqL K H a (ns.map V.int)/\ns.length<=63/\∀H',Q (.bl true) H'
theorem zmg (T:Txt P w K mg) (g__law_cell_at:Fn P w K mg base 1 "_law_cell_at" ["_law_script", "_law_k"] (zg8 K)) (g__law_take:Tk P w K mg base) (g__law_few:Fn P w K mg base 8 "_law_few" ["_law_pen", "_law_most", "_law_steps"] (spFew K))
  (g__law_right:Fn P w K mg base 8 "_law_right" ["_law_some","_law_bound","_law_more","_law_dx"] (zg6 K)) (d:Df K mg "law" s_law ["_law_script"]):FnOk P w K mg base CX0 9 d.f d.fd ["_law_script"] (spLaw K):=by
 refine d.F.ok zfG (λvs H Q E h=>?_) (λcdv A outer s H vs Q E hr h=>?_)
 .obtain⟨a,ns,rfl,_⟩:=h;rfl
 .obtain⟨a,ns,rfl,hS,hlen,k⟩:=h
  refine⟨_,(zac (zbI A3 rfl (zcl (by rfl) T.nrange (zah (zam (zjH rfl) (by rfl) T.nmax (by rfl) (pa_C zae (zah (zam (zjF rfl) (by rfl) T.nmin (by rfl) (pa_C zae (zah (zam zan (by rfl) T.nlen (by rfl) (pa_N (pv 0) zab)) zab))) zab))) zab)) (nG 1 zfG.nd)
   (zac (sE 2 zfG.nd (za0 (zah (pC g__law_cell_at hr (pa_N (pv 0) (pa_N (pv 1) zab))) (pa_C zae zab))))
   (zac (sE 3 zfG.nd (pC g__law_few hr (pa_N (pv 2) (pa_C zae (zah (pe_ix zas (za0 (pa_C zae (pa_C zae zab))) (zdT zf4 (by rfl) T.nint (by rfl) (zah (za2 op_gt (pv 1) zae (zax _)) zab)) (λ_ _=>rfl)) zab)))))
   (zac (sE 4 zfG.nd (pe_ix zas (za0 (pa_C zae (zah (pC g__law_take hr (pa_N (pv 2) (pa_C zae zab))) (zah (pC g__law_take hr (pa_N (pv 2) (pa_C zae zab))) (zah (pC g__law_take hr (pa_N (pv 2) (pa_C zae zab))) zab))))) (pC g__law_take hr (pa_N (pv 2) (pa_C zae zab))) (λ_ _=>rfl)))
   (zaf (ps_if (zce (zbj (pC g__law_right hr (pa_N (pv 3) (pa_N (pv 4) (zah (pC g__law_take hr (pa_N (pv 2) (pa_C zae zab))) (pa_B (pe_op zaI (pC g__law_take hr (pa_N (pv 2) (pa_C zae zab))) zae) zab)))))))
   (zaf (zak pe_bl))
   zaA))))))
   (zaf (zak pe_bl))),?_⟩
  refine⟨_,rfl,a,_,rfl,.inl hS,_,_,rfl,_,_,rfl,_,rfl,?_,?_,?_⟩
  .split <;> lia
  .split
   .split <;> lia
   .decide
  refine zbv (lo:=0) (λi σ H5=>∃o1 o2 o3 o4,σ=[some (.ref a),o1,o2,o3,o4]/\Same H H5) ⟨_,_,_,_,rfl,Same.refl _⟩ ?_ ?_
  .rintro i σ H5 hi ⟨o1,o2,o3,o4,rfl,s5⟩;refine⟨_,rfl,_,rfl,a,ns,i,(by rw[show ((0:Int)+(i:Int))=(i:Int) by lia];rfl),s5.seq hS,λc=>⟨two,λp hp=>?_⟩⟩;have hp0:H p=none:=s5.free hp;have sp:Same H (upd H5 p (.lst [.int c,.int 0])):=s5.trans (Same.up hp);have pen0:HasB (upd H5 p (.lst [.int c,.int 0])) p 200000:=⟨c,0,zaa,by decide,by decide⟩;generalize upd H5 p (.lst [.int c,.int 0])=H6 at sp pen0;refine⟨_,rfl,two,λl hl=>?_⟩;have s7:=Same.up (o:=.lst [.int 24,.int 12]) hl;have e7:upd H6 l (.lst [.int 24,.int 12]) l=some (.lst [.int 24,.int 12]):=zaa;generalize upd H6 l (.lst [.int 24,.int 12])=H7 at s7 e7 ⊢;refine⟨_,rfl,_,_,rfl,rfl,.inr ⟨_,rfl,?_⟩⟩
   obtain⟨v,hv,st,rfl,hst⟩:∃v,atI [V.int 24,V.int 12] (if decide ((0:Int)<0+(i:Int))=true then 1 else 0)=some v/\∃st:Nat,v=.int st/\st<=200:=by
    by_cases hz:decide ((0:Int)<0+(i:Int))=true
    .rw[if_pos hz];exact⟨_,rfl,12,rfl,by decide⟩
    .rw[if_neg hz];exact⟨_,rfl,24,rfl,by decide⟩
   refine⟨l,_,_,_,rfl,rfl,SqL.of e7,hv,p,100000,60,st,rfl,(pen0.same s7).le (by lia),by decide,by decide,hst,λg cs R us H8 hg b8 p8 e8 hv8 hrc hRl hsum hbox=>?_⟩;have s08:Same H H8:=λz o h=>b8 z o (zao h hp0) ((sp.trans s7) z o h)
   have hgp:g≠p:=λz=>by obtain⟨c0,t0,e0,_⟩:=pen0.same s7;rw[z,e0]at hg;cases hg
   refine⟨_,rfl,p,99999,5,rfl,p8.le (by lia),by decide,zaJ (by decide) (by decide),λr1 H9 r10 r11 b9 p9=>?_⟩;refine⟨_,rfl,p,99998,60,rfl,p9.le (by lia),by decide,zaJ (by decide) (by decide),λr2 H10 r20 r21 b10 p10=>?_⟩;refine⟨_,rfl,p,99997,900001,rfl,p10.le (by lia),by decide,zly,λr3 H11 r30 r31 b11 p11=>?_⟩;refine⟨(by show 4<=sizeLine;decide),λl4 hl4=>?_⟩;have s12:=Same.up (o:=.lst [.int 0,.int r1,.int r2,.int r3]) hl4;have e12:upd H11 l4 (.lst [.int 0,.int r1,.int r2,.int r3]) l4=some (.lst [.int 0,.int r1,.int r2,.int r3]):=zaa;generalize upd H11 l4 (.lst [.int 0,.int r1,.int r2,.int r3])=H12 at s12 e12 ⊢
   have hl4p:l4≠p:=λz=>by obtain⟨c0,t0,e0,_⟩:=p11;rw[z,e0]at hl4;cases hl4
   refine⟨_,rfl,p,99996,4,rfl,(p11.same s12).le (by lia),by decide,zaJ (by decide) (by decide),λq H13 q0 q1 b13 p13=>?_⟩
   obtain⟨B,hB,B0,B1⟩:∃B:Int,atI [V.int 0,V.int r1,V.int r2,V.int r3] q=some (.int B)/\0<=B/\B<=900000:=by
    have:q=0∨q=1∨q=2∨q=3:=by lia
    rcases this with rfl |rfl |rfl |rfl
    .exact⟨0,rfl,by lia,by lia⟩
    .exact⟨r1,rfl,by lia,by lia⟩
    .exact⟨r2,rfl,by lia,by lia⟩
    .exact⟨r3,rfl,by lia,by lia⟩
   refine⟨l4,_,_,_,rfl,rfl,SqL.of (b13 _ _ hl4p e12),hB,?_⟩;have b813:But H8 H13 p:=λz o hz h=>b13 _ _ hz (s12 _ _ (b11 _ _ hz (b10 _ _ hz (b9 _ _ hz h))))
   have e13:=b813 _ _ hgp e8;have hv13:VR us R rR H13:=hv8.mono λx v h=>rR.kt h (b813.kt p8)
   have s13:Same H H13:=λz o h=>b813 _ _ (zao h hp0) (s08 _ _ h)
   refine⟨_,rfl,_,rfl,_,rfl,p,99995,100000,rfl,p13.le (by lia),by decide,zlx,λmr H14 mr0 mr1 b14 p14=>?_⟩;refine⟨_,rfl,p,99994,201,rfl,p14.le (by lia),by decide,zaJ (by decide) (by decide),λdr H15 dr0 dr1 b15 p15=>?_⟩;have b1315:=b14.trans b15;have s15:Same H H15:=λz o h=>b1315 _ _ (zao h hp0) (s13 _ _ h)
   refine⟨_,_,rfl,rfl,g,B,mr,dr-100,60,st,cs,R,us,rfl,b1315 _ _ hgp e13,hv13.mono (λx v h=>rR.kt h (b1315.kt p13)),hrc,by decide,hRl,hsum,hst,hbox,B0,mr0,by lia,λH16 s16=>⟨_,rfl,?_⟩⟩;refine ite2 (λhy=>absurd hy (by decide)) (λ_=>?_);exact⟨_,_,_,_,rfl,s15.trans s16⟩
  .rintro σ H5 ⟨o1,o2,o3,o4,rfl,s5⟩;exact k H5
end
theorem all_mk {l:W.OpenLaw}{w:AZ}{K:W.Frag}{h:Heap}{mg:Str -> Option Ad}{fa:Addr}(X:K.In h) (G:h.Ns AI mg) (hfa:mg "law" = some (.ref fa)){fx51:Addr}{od51 an51:Option Addr}{sl51:Array (Option Ad)}{oc51 kV51 dc51 pm51 ct51 cd51:Ad}
  (h0:DA K "cell_order" zcj)
  (h1:DA K "ask_picture" zb8)
  (h2:DA K "gone" ziF)
  (h3:DA K "cell_table" zbM)
  (h4:DA K "gap_beside" zci)
  (h5:DA K "all_edges" zbG)
  (h6:DA K "straight_step" zbF)
  (h7:DA K "slant_step" zch)
  (h8:DA K "step_behind" zb5)
  (h9:DA K "is_slant" zc5)
  (h10:DA K "edge_behind" zb7)
  (h11:DA K "walk_from" zcA)
  (h12:DA K "lefts_and_slants" zaK)
  (h13:DA K "lefts_less_slants" za7)
  (h14:DA K "sort_of" zdN)
  (h15:DA K "begin_of" zcr)
  (h16:DA K "round_of" zbA)
  (h17:DA K "round_order" zb6)
  (h18:DA K "rounds_along" zbR)
  (h19:DA K "rounds" zeX)
  (h20:DA K "is_whole" zc4)
  (h21:DA K "along" zgv)
  (h22:DA K "across" zeY)
  (h23:DA K "is_close" zc6)
  (h24:DA K "do_part" zdQ)
  (h25:DA K "do_cross" zc7)
  (h26:DA K "spots_of" zc3)
  (h27:DA K "ends_of" zdP)
  (h28:DA K "side_between" zbQ)
  (h29:DA K "is_stretch_near" zaZ)
  (h30:DA K "is_near" zcP)
  (h31:DA K "sides_of" zcq)
  (h32:DA K "all_sides" zb9)
  (h33:DA K "are_corners" zbg)
  (h34:DA K "is_thinning" zby)
  (h35:DA K "holds" zdO)
  (h36:DA K "can_leave_out" zaM)
  (h37:DA K "leavable" zbY)
  (h38:DA K "left_out" zbB)
  (h39:DA K "thinned" zcO)
  (h40:DA K "fewest" zdt)
  (h41:DA K "moved" zgu)
  (h42:DA K "_law_cell_at" zbT)
  (h43:DA K "_law_take" zcB)
  (h44:DA K "_law_far" zc9)
  (h45:DA K "_law_is_there" zbH)
  (h46:DA K "_law_picture" zbS)
  (h47:DA K "_law_spots" zaO)
  (h48:DA K "_law_few" zc8)
  (h49:DA K "_law_twice_area" zbn)
  (h50:DA K "_law_right" zbt)
  (a51:CQ K AI "law" = some (some (.ref fx51))) (l51:K.lookup fx51=some ⟨oc51,od51,.func (Cy "law" "law" (zaN s_law) (zaC s_law) (zad s_law) .none kV51 dc51 pm51 an51 cd51 ct51),sl51⟩) (c51:W.codeIn K cd51 "law" = true) (k51:W.keepIn K (.ref fx51)=true)
  {M m0 m1 m2 m3 m4 m5 m6 m7:Addr}{odM:Option Addr}{nM:Nat}{slM:Array (Option Ad)}
  (aM:CQ K AI "MOVES" = some (some (.ref M))) (lM:K.lookup M=some ⟨.type "tuple",odM,.seq #[.ref m0,.ref m1,.ref m2,.ref m3,.ref m4,.ref m5,.ref m6,.ref m7] nM,slM⟩)
  {odm0:Option Addr}{nm0:Nat}{slm0:Array (Option Ad)}{tm0 um0:Tok} (x0:K.lookup m0=some ⟨.type "tuple",odm0,.seq #[.int (1) tm0,.int (0) um0] nm0,slm0⟩)
  {odm1:Option Addr}{nm1:Nat}{slm1:Array (Option Ad)}{tm1 um1:Tok} (x1:K.lookup m1=some ⟨.type "tuple",odm1,.seq #[.int (1) tm1,.int (1) um1] nm1,slm1⟩)
  {odm2:Option Addr}{nm2:Nat}{slm2:Array (Option Ad)}{tm2 um2:Tok} (x2:K.lookup m2=some ⟨.type "tuple",odm2,.seq #[.int (0) tm2,.int (1) um2] nm2,slm2⟩)
  {odm3:Option Addr}{nm3:Nat}{slm3:Array (Option Ad)}{tm3 um3:Tok} (x3:K.lookup m3=some ⟨.type "tuple",odm3,.seq #[.int (-1) tm3,.int (1) um3] nm3,slm3⟩)
  {odm4:Option Addr}{nm4:Nat}{slm4:Array (Option Ad)}{tm4 um4:Tok} (x4:K.lookup m4=some ⟨.type "tuple",odm4,.seq #[.int (-1) tm4,.int (0) um4] nm4,slm4⟩)
  {odm5:Option Addr}{nm5:Nat}{slm5:Array (Option Ad)}{tm5 um5:Tok} (x5:K.lookup m5=some ⟨.type "tuple",odm5,.seq #[.int (-1) tm5,.int (-1) um5] nm5,slm5⟩)
  {odm6:Option Addr}{nm6:Nat}{slm6:Array (Option Ad)}{tm6 um6:Tok} (x6:K.lookup m6=some ⟨.type "tuple",odm6,.seq #[.int (0) tm6,.int (-1) um6] nm6,slm6⟩)
  {odm7:Option Addr}{nm7:Nat}{slm7:Array (Option Ad)}{tm7 um7:Tok} (x7:K.lookup m7=some ⟨.type "tuple",odm7,.seq #[.int (1) tm7,.int (-1) um7] nm7,slm7⟩)
  {B:Addr}{t1 t2 t3 t4:Tok}{nB:Nat} (aB:CQ K AI "BEGIN_WAYS" = some (some (.ref B))) (lB:K.lookup B=some ⟨.type "dict",none,.dict #[⟨Cf w.params "rim",.str "rim" t1,.int 0 t2⟩,⟨Cf w.params "hole",.str "hole" t3,.int 2 t4⟩] nB,#[]⟩)
  (z_any:CQ K AI "any" = some none)
  (z_enumerate:CQ K AI "enumerate" = some none)
  (z_range:CQ K AI "range" = some none)
  (z_len:CQ K AI "len" = some none)
  (z_min:CQ K AI "min" = some none)
  (z_max:CQ K AI "max" = some none)
  (z_sorted:CQ K AI "sorted" = some none)
  (z_tuple:CQ K AI "tuple" = some none)
  (z_int:CQ K AI "int" = some none)
  (z_bool:CQ K AI "bool" = some none)
  (z_abs:CQ K AI "abs" = some none)
  (z_all:CQ K AI "all" = some none)
  (z_isinstance:CQ K AI "isinstance" = some none)
  (z_list:CQ K AI "list" = some none)
  (z_zip:CQ K AI "zip" = some none) :
  ∃fd:Bu,(∀(s:Ae) (v:Ad),BindsTo s fd ⟨[v],[]⟩ [("_law_script",v)])/\∀base:Heap,K.In base->base.Ns AI mg->FnOk l.prog w K mg base CX0 9 fa fd ["_law_script"] (spLaw K):=by
 have e:=hfa.symm.trans (W.mg_of X G a51)
 cases e
 have moves:∃M,mg "MOVES" = some (.ref M)/\∀H,∃ms:List Addr,SqT K H M (ms.map V.ref)/\ms.length=8/\∀(i:Nat) a,ms[i]?=some a->SqT K H a [.int (mv i).1,.int (mv i).2]:=by
  refine⟨M,W.mg_of X G aM,λH=>⟨[m0,m1,m2,m3,m4,m5,m6,m7],.inr ⟨_,_,_,lM,rfl,rfl,(by show 8<=sizeLine;decide),.cons rfl (.cons rfl (.cons rfl (.cons rfl (.cons rfl (.cons rfl (.cons rfl (.cons rfl .nil)))))))⟩,rfl,λi a e=>?_⟩⟩
  match i,e with
  | 0,e=>cases e;exact .inr ⟨_,_,_,x0,rfl,rfl,(by show 2<=sizeLine;decide),.cons ⟨_,rfl⟩ (.cons ⟨_,rfl⟩ .nil)⟩
  | 1,e=>cases e;exact .inr ⟨_,_,_,x1,rfl,rfl,(by show 2<=sizeLine;decide),.cons ⟨_,rfl⟩ (.cons ⟨_,rfl⟩ .nil)⟩
  | 2,e=>cases e;exact .inr ⟨_,_,_,x2,rfl,rfl,(by show 2<=sizeLine;decide),.cons ⟨_,rfl⟩ (.cons ⟨_,rfl⟩ .nil)⟩
  | 3,e=>cases e;exact .inr ⟨_,_,_,x3,rfl,rfl,(by show 2<=sizeLine;decide),.cons ⟨_,rfl⟩ (.cons ⟨_,rfl⟩ .nil)⟩
  | 4,e=>cases e;exact .inr ⟨_,_,_,x4,rfl,rfl,(by show 2<=sizeLine;decide),.cons ⟨_,rfl⟩ (.cons ⟨_,rfl⟩ .nil)⟩
  | 5,e=>cases e;exact .inr ⟨_,_,_,x5,rfl,rfl,(by show 2<=sizeLine;decide),.cons ⟨_,rfl⟩ (.cons ⟨_,rfl⟩ .nil)⟩
  | 6,e=>cases e;exact .inr ⟨_,_,_,x6,rfl,rfl,(by show 2<=sizeLine;decide),.cons ⟨_,rfl⟩ (.cons ⟨_,rfl⟩ .nil)⟩
  | 7,e=>cases e;exact .inr ⟨_,_,_,x7,rfl,rfl,(by show 2<=sizeLine;decide),.cons ⟨_,rfl⟩ (.cons ⟨_,rfl⟩ .nil)⟩
  |i+8,e=>exact absurd (Ab.mp e).1 (by simp)
 have ways:Ways l.prog w K mg:=⟨⟨B,t1,t2,t3,t4,nB,W.mg_of X G aB,lB⟩⟩;have T:Txt l.prog w K mg:={ moves:=moves,ways:=ways,nany:=Bx X G z_any,nenumerate:=Bx X G z_enumerate,nrange:=Bx X G z_range,nlen:=Bx X G z_len,nmin:=Bx X G z_min,nmax:=Bx X G z_max,nsorted:=Bx X G z_sorted,ntuple:=Bx X G z_tuple,nint:=Bx X G z_int,nbool:=Bx X G z_bool,nabs:=Bx X G z_abs,nall:=Bx X G z_all,nisinstance:=Bx X G z_isinstance,nlist:=Bx X G z_list,nzip:=Bx X G z_zip };obtain⟨d'0⟩:=h0.d1 X G (p0:="cell");obtain⟨d'1⟩:=h1.d1 X G (p0:="picture");obtain⟨d'2⟩:=h2.d3 X G (p0:="x") (p1:="y") (p2:="step");obtain⟨d'3⟩:=h3.d1 X G (p0:="picture");obtain⟨d'4⟩:=h4.d1 X G (p0:="edge");obtain⟨d'5⟩:=h5.d1 X G (p0:="picture");obtain⟨d'6⟩:=h6.d1 X G (p0:="way");obtain⟨d'7⟩:=h7.d1 X G (p0:="way");obtain⟨d'8⟩:=h8.d2 X G (p0:="table") (p1:="edge");obtain⟨d'9⟩:=h9.d1 X G (p0:="step");obtain⟨d'a⟩:=h10.d2 X G (p0:="edge") (p1:="step");obtain⟨d'b⟩:=h11.d2 X G (p0:="table") (p1:="begin");obtain⟨d'c⟩:=h12.d1 X G (p0:="walk");obtain⟨d'd⟩:=h13.d1 X G (p0:="walk");obtain⟨d'e⟩:=h14.d1 X G (p0:="walk");obtain⟨d'f⟩:=h15.d2 X G (p0:="walk") (p1:="sort");obtain⟨d'10⟩:=h16.d1 X G (p0:="walk");obtain⟨d'11⟩:=h17.d1 X G (p0:="one");obtain⟨d'12⟩:=h18.d2 X G (p0:="table") (p1:="edges");obtain⟨d'13⟩:=h19.d1 X G (p0:="picture");obtain⟨d'14⟩:=h20.d1 X G (p0:="thing");obtain⟨d'15⟩:=h21.d3 X G (p0:="start") (p1:="one") (p2:="other");obtain⟨d'16⟩:=h22.d3 X G (p0:="start") (p1:="one") (p2:="other");obtain⟨d'17⟩:=h23.d3 X G (p0:="cell") (p1:="side") (p2:="bound");obtain⟨d'18⟩:=h24.d3 X G (p0:="side") (p1:="one") (p2:="other");obtain⟨d'19⟩:=h25.d2 X G (p0:="one") (p1:="other");obtain⟨d'1a⟩:=h26.d1 X G (p0:="one");obtain⟨d'1b⟩:=h27.d2 X G (p0:="spots") (p1:="corners");obtain⟨d'1c⟩:=h28.d3 X G (p0:="spots") (p1:="start") (p2:="end");obtain⟨d'1d⟩:=h29.d4 X G (p0:="spots") (p1:="bound") (p2:="start") (p3:="end");obtain⟨d'1e⟩:=h30.d3 X G (p0:="one") (p1:="bound") (p2:="corners");obtain⟨d'1f⟩:=h31.d2 X G (p0:="one") (p1:="corners");obtain⟨d'20⟩:=h32.d2 X G (p0:="some") (p1:="thinning");obtain⟨d'21⟩:=h33.d2 X G (p0:="one") (p1:="thing");obtain⟨d'22⟩:=h34.d2 X G (p0:="some") (p1:="thing");obtain⟨d'23⟩:=h35.d3 X G (p0:="some") (p1:="bound") (p2:="thing");obtain⟨d'24⟩:=h36.d5 X G (p0:="some") (p1:="bound") (p2:="thinning") (p3:="index") (p4:="spot");obtain⟨d'25⟩:=h37.d3 X G (p0:="some") (p1:="bound") (p2:="thinning");obtain⟨d'26⟩:=h38.d3 X G (p0:="thinning") (p1:="index") (p2:="spot");obtain⟨d'27⟩:=h39.d2 X G (p0:="some") (p1:="bound");obtain⟨d'28⟩:=h40.d2 X G (p0:="one") (p1:="bound");obtain⟨d'29⟩:=h41.d3 X G (p0:="one") (p1:="dx") (p2:="dy");obtain⟨d'2a⟩:=h42.d2 X G (p0:="_law_script") (p1:="_law_k");obtain⟨d'2b⟩:=h43.d2 X G (p0:="_law_pen") (p1:="_law_base");obtain⟨d'2c⟩:=h44.d1 X G (p0:="_law_pen");obtain⟨d'2d⟩:=h45.d6 X G (p0:="_law_pen") (p1:="_law_way") (p2:="_law_x") (p3:="_law_y") (p4:="_law_wide") (p5:="_law_high");obtain⟨d'2e⟩:=h46.d2 X G (p0:="_law_pen") (p1:="_law_most");obtain⟨d'2f⟩:=h47.d1 X G (p0:="_law_one");obtain⟨d'30⟩:=h48.d3 X G (p0:="_law_pen") (p1:="_law_most") (p2:="_law_steps");obtain⟨d'31⟩:=h49.d1 X G (p0:="_law_cells");obtain⟨d'32⟩:=h50.d4 X G (p0:="_law_some") (p1:="_law_bound") (p2:="_law_more") (p3:="_law_dx");have F51:=zb1 (st:=s_law) l51 c51 k51;have b51:=F51.b1 (p0:="_law_script");refine⟨Cy "law" "law" (zaN s_law) (zaC s_law) (zad s_law) .none kV51 dc51 pm51 an51 cd51 ct51,λs v=>.of_eq rfl,λbase _ _=>?_⟩;have fn:∀{k:Nat}{x:Str}{s:Stmt}{ps:List Str}{sp:Sp} (d:Df K mg x s ps),FnOk l.prog w K mg base CX0 k d.f d.fd ps sp->Fn l.prog w K mg base k x ps sp:=λd h=>d.fn h
 have g'33:=fn d'0 (ze7 d'0);have g'34:=fn d'2 (zlp T d'2);have g'35:=fn d'6 (zdn d'6);have g'36:=fn d'7 (ze4 d'7);have g'37:=fn d'9 (zgH d'9);have g'38:=fn d'4 (ze5 g'34 d'4);have g'39:=fn d'1 (zej T g'33 d'1);have g'3a:=fn d'3 (ze6 d'3);have g'3b:=fn d'8 (zed g'34 g'36 g'35 d'8);have g'3c:=fn d'a (zei g'34 g'37 d'a);have g'3d:=fn d'5 (zfT T g'3a g'38 d'5);have g'3e:=fn d'b (zfP g'3b g'3c d'b);have g'3f:=fn d'c (zcF T g'37 d'c);have g'40:=fn d'd (zcv g'3f d'd);have g'41:=fn d'e (zhY g'40 d'e);have g'42:=fn d'f (zgK T g'33 d'f);have g'43:=fn d'10 (zgC T g'41 g'42 d'10);have g'44:=fn d'11 (zee d'11);have g'45:=fn d'12 (zdV T g'3e g'43 g'44 d'12);have g'46:=fn d'13 (ziW T g'39 g'3a g'3d g'45 d'13);have g'47:=fn d'15 (zke d'15);have g'48:=fn d'16 (ziY d'16);have g'49:=fn d'17 (zgI g'47 g'48 d'17);have g'4a:=fn d'1a (zgA g'34 d'1a);have g'4b:=fn d'1b (zh2 T d'1b);have g'4c:=fn d'1c (zdU T d'1c);have g'4d:=fn d'1d (zcR T g'4c g'49 d'1d);have g'4e:=fn d'1e (zh1 T g'4a g'4d g'4b d'1e);have g'4f:=fn d'18 (zh3 g'48 d'18);have g'50:=fn d'19 (zgJ g'4f d'19);have g'51:=fn d'1f (zgB T g'4a g'4b g'4c d'1f);have g'52:=fn d'20 (zfS T g'51 d'20);have g'53:=fn d'14 (zgG T d'14);have g'54:=fn d'21 (zek T g'53 g'4a d'21);have g'55:=fn d'22 (zeh T g'54 d'22);have g'56:=fn d'23 (zkd T g'55 g'4e g'52 g'50 d'23);have g'57:=fn d'24 (zdo T g'4a g'4d g'4c g'52 g'50 d'24);have g'58:=fn d'25 (zgE T g'57 d'25);have g'59:=fn d'26 (zgD T d'26);have g'5a:=fn d'27 (zhX T g'4a g'58 g'57 g'59 d'27);have g'5b:=fn d'28 (ziX T g'4a g'56 d'28);have g'5c:=fn d'29 (zkc d'29);have g'5d:=fn d'2a (zeg T d'2a);have g'5e:=fn d'2b (tk_of (zgF T d'2b));have g'5f:=fn d'2c (zh0 g'5e d'2c);have g'60:=fn d'2d (zdW T g'5e d'2d);have g'61:=fn d'2e (zef T g'5e g'5f g'60 d'2e);have g'62:=fn d'2f (zfQ d'2f);have g'63:=fn d'30 (zhZ T g'46 g'61 d'30);have g'64:=fn d'31 (zdb T d'31);have g'65:=fn d'32 (zfR T g'5a g'56 g'58 g'5c g'62 g'64 g'5b d'32);exact zmg T g'5d g'5e g'63 g'65 ⟨_,_,F51,W.mg_of X G a51,b51⟩
theorem walk{l:W.OpenLaw}{q:AH}{loose:List Str}{XP:(Str -> Option Ad) -> Heap -> Prop}{YP:AZ -> Heap -> Prop}{d:DefRec}{K:Params -> W.Frag}(hn:l.most=some 63)(hdf:d.params.defaults = [])
  (hY:∀(w:AZ) (h:Heap),YP w h->(K w.params).In h)
  (F:∀(w:AZ) (mg:Str->Option Ad) (fa:Addr) (h:Heap),(K w.params).In h->h.Ns AI mg->mg d.name=some (.ref fa) ->
   ∃fd:Bu,(∀(s:Ae) (u:Ad),BindsTo s fd ⟨[u],[]⟩ [("_law_script",u)])/\∀base:Heap,(K w.params).In base->base.Ns AI mg->FnOk l.prog w (K w.params) mg base CX0 9 fa fd ["_law_script"] (spLaw (K w.params))) :
  W.WalkO q loose XP YP l.row.toRowW d [] (λf vs=>PySem.call f vs) :=
 L2.walk_of (n:=63) (k:=9) (x:="_law_script") (CX:=λ_=>CX0) (sp:=λw=>spLaw (K w.params)) hn (by decide) hdf ⟨rfl,by decide,by decide⟩ hY F (λ_ _ a ns hl _ hS=>⟨a,ns,rfl,hS,hl,λ_=>rfl⟩) λ_ _ _ _ _ z=>z
end RR
namespace PySem.W.Fast
noncomputable def tw14857218921154976906:=()
noncomputable def tw12471990527924332829:=()
noncomputable def tw13972131565639323551:=()
noncomputable def tw12200405645488213181:=()
noncomputable def tw8208719147347462128:=()
noncomputable def tw11641188495063997520:=()
noncomputable def tw15340427977304146245:=()
noncomputable def tw16913912312653119338:=()
noncomputable def tw11162746398329339501:=()
noncomputable def tw13234817345791613660:=()
noncomputable def tw1684421062775277740:=()
noncomputable def tw18037499907191180045:=()
noncomputable def tw5899206285270577109:=()
noncomputable def tw12649144983552762031:=()
noncomputable def tw11885015703826639503:=()
noncomputable def tw15306227580718700381:=()
noncomputable def tw13499570640420185457:=()
noncomputable def tw6339520719194508904:=()
noncomputable def tw11158106992332669920:=()
noncomputable def tw15806024047531270222:=()
noncomputable def tw7396464325491808625:=()
noncomputable def tw13930350367603160043:=()
noncomputable def tw12388680724880955437:=()
noncomputable def tw9930613210838237021:=()
noncomputable def tw17548534310743656053:=()
noncomputable def tw5485183176107114065:=()
noncomputable def tw6981430336713545100:=()
noncomputable def tw17604712740322138079:=()
noncomputable def tw7282279251328267138:=()
noncomputable def tw17818115615263049434:=()
noncomputable def tw15536417503548366039:=()
noncomputable def tw8442668597710674455:=()
noncomputable def tw4911757665266565199:=()
noncomputable def tw1889345909604353970:=()
noncomputable def tw14400932706825843587:=()
noncomputable def tw13784184175721860948:=()
noncomputable def tw17613754178145247626:=()
noncomputable def tw8840373863331266504:=()
noncomputable def tw6100450598776418159:=()
noncomputable def tw613497291127840998:=()
noncomputable def tw3792982190980015604:=()
noncomputable def tw2613357894311712785:=()
noncomputable def tw13543323101544507569:=()
noncomputable def tw10432451897700715544:=()
noncomputable def tw11569957703190129053:=()
noncomputable def tw10586937081169641519:=()
noncomputable def tw13369381468377798453:=()
noncomputable def tw11887116295725346905:=()
noncomputable def tw1525242921620224138:=()
noncomputable def tw16931688301878471477:=()
noncomputable def tw17108977527202585312:=()
noncomputable def tw2653623030915493639:=()
noncomputable def tw7348041677369627066:=()
noncomputable def tw13099926012004481592:=()
noncomputable def tw8707665841849082420:=()
noncomputable def tw15967678767602327422:=()
noncomputable def tw3584583044988480996:=()
noncomputable def tw4881618201437263369:=()
noncomputable def tw17442114873464998180:=()
noncomputable def tw16556939428537929323:=()
noncomputable def tw14077964085632547050:=()
noncomputable def tw11933089090021894443:=()
noncomputable def tw4925949409744548481:=()
noncomputable def tw14399459486285271223:=()
noncomputable def tw1038827995786910981:=()
noncomputable def tw17895291391124151394:=()
noncomputable def tw723161099565070571:=()
noncomputable def tw11618337627513956352:=()
noncomputable def tw11334851315026893297:=()
noncomputable def tw7006795381415225764:=()
noncomputable def tw3258629915465404684:=()
noncomputable def tw11916503563025677057:=()
noncomputable def tw8394685701486214878:=()
noncomputable def tw13410902573665306688:=()
noncomputable def tw3911765532568122181:=()
noncomputable def tw13386045439479592195:=()
noncomputable def tw12821876028162136030:=()
noncomputable def tw10913332872039647741:=()
noncomputable def tw11000967182220863091:=()
noncomputable def tw17166720964319653153:=()
noncomputable def tw10767736312930838520:=()
noncomputable def tw5512229258335987654:=()
noncomputable def tw9620990231060417438:=()
noncomputable def tw12897245793689458102:=()
noncomputable def tw11975187831680383064:=()
noncomputable def tw15361175669883927053:=()
noncomputable def tw17444594686973756686:=()
noncomputable def tw4282092623969246354:=()
noncomputable def tw15790679123314778423:=()
noncomputable def tw13147376278585087550:=()
noncomputable def tw10867031392900688383:=()
noncomputable def tw10632157195121551275:=()
noncomputable def tw8434577683784060779:=()
noncomputable def tw2206058950566469253:=()
noncomputable def tw13721801697584817280:=()
noncomputable def tw8885149251371113112:=()
noncomputable def tw4228295661913890403:=()
noncomputable def tw17297748497725199714:=()
noncomputable def tw11553642274297904468:=()
noncomputable def tw11572756605908643124:=()
noncomputable def tw6481559205873899007:=()
noncomputable def tw4807708471549979400:=()
noncomputable def tw11895525366365849414:=()
noncomputable def tw14415186612047950068:=()
noncomputable def tw11217436922847044508:=()
noncomputable def tw772541705673759750:=()
noncomputable def tw10670393251263267356:=()
noncomputable def tw17163644956321127438:=()
noncomputable def tw5443498225700475774:=()
noncomputable def tw4566349588022433397:=()
noncomputable def tw17721253721016039867:=()
noncomputable def tw858119972782506012:=()
noncomputable def tw7524418485244765300:=()
noncomputable def tw1420461925959068614:=()
noncomputable def tw13987690201883194172:=()
noncomputable def tw8382455177049492202:=()
noncomputable def tw8871975185312071773:=()
noncomputable def tw7408575334370616124:=()
noncomputable def tw8448648732212184058:=()
noncomputable def tw9070528518601077526:=()
noncomputable def tw8570929496399310244:=()
noncomputable def tw16506041780071155755:=()
noncomputable def tw10073959598192450533:=()
noncomputable def tw10471791807410781000:=()
noncomputable def tw631224612768296670:=()
noncomputable def tw1704106821835384219:=()
noncomputable def tw8982418896639204303:=()
noncomputable def tw4816786399902511000:=()
noncomputable def tw14810077660068444840:=()
noncomputable def tw16619537072223612057:=()
noncomputable def tw13295692039796442007:=()
noncomputable def tw1717438899896429670:=()
noncomputable def tw8622026250329302508:=()
noncomputable def tw16692883570214127815:=()
noncomputable def tw1196094126466703156:=()
noncomputable def tw1100000823310915364:=()
noncomputable def tw4692818490788295883:=()
noncomputable def tw3609231205675135832:=()
noncomputable def tw4073818834017945419:=()
noncomputable def tw12226840266109715362:=()
noncomputable def tw16745353154416817344:=()
noncomputable def tw7878487728286194332:=()
noncomputable def tw1033068517329543919:=()
noncomputable def tw6284951844427760443:=()
noncomputable def tw10418097841515703356:=()
noncomputable def tw3838572566219526145:=()
noncomputable def tw11430294619410552858:=()
noncomputable def tw1843564373324039043:=()
noncomputable def tw5889825651186931230:=()
noncomputable def tw18164290261526998630:=()
noncomputable def tw12380919060508744680:=()
noncomputable def tw17541770035463628996:=()
noncomputable def tw9602331758240073606:=()
noncomputable def tw7824124362604706403:=()
noncomputable def tw11475716218080819458:=()
noncomputable def tw17894306025928482587:=()
noncomputable def tw313241408643776564:=()
noncomputable def tw14361825604876330693:=()
noncomputable def tw659735823237664783:=()
noncomputable def tw16818314207060346110:=()
noncomputable def tw15294188413918341877:=()
noncomputable def tw13560786616000542269:=()
noncomputable def tw976398726080965821:=()
noncomputable def tw1696337747635660643:=()
noncomputable def tw6612269881528176231:=()
noncomputable def tw3522945976132137243:=()
noncomputable def tw17540636817939425018:=()
noncomputable def tw13521525830380311716:=()
noncomputable def tw16853755299513215315:=()
noncomputable def tw4083389410067864150:=()
noncomputable def tw2516163136903968844:=()
noncomputable def tw12757757874906941944:=()
noncomputable def tw6169538661678740102:=()
noncomputable def tw8189138693300911825:=()
noncomputable def tw15090021321067630615:=()
noncomputable def tw10320085908827797960:=()
noncomputable def tw4055534875820360449:=()
noncomputable def tw3692072566059250517:=()
noncomputable def tw3035397801364887917:=()
noncomputable def tw12705609044513464648:=()
noncomputable def tw1573111213822490109:=()
noncomputable def tw6535973914515293884:=()
noncomputable def tw18294810555743411571:=()
noncomputable def tw6194997777781068518:=()
noncomputable def tw3301920234236326573:=()
noncomputable def tw10653989870794650960:=()
noncomputable def tw2889312848924330690:=()
noncomputable def tw439870973285767365:=()
noncomputable def tw16786319479563825329:=()
noncomputable def tw16835086560904500016:=()
noncomputable def tw4313622102412956723:=()
noncomputable def tw12789884862031341492:=()
noncomputable def tw6980788615303496147:=()
noncomputable def tw6254827860963154527:=()
noncomputable def tw8087214598191061455:=()
noncomputable def tw6783106175790254190:=()
noncomputable def tw11402482217094249338:=()
noncomputable def tw3949488799404375086:=()
noncomputable def tw15062336710845415870:=()
noncomputable def tw13858814493498144530:=()
noncomputable def tw2187578581615612554:=()
noncomputable def tw8825240585320302349:=()
noncomputable def tw11476652785184115117:=()
noncomputable def tw16411414068915682289:=()
noncomputable def tw9194451385841273736:=()
noncomputable def tw14527640770702824467:=()
noncomputable def tw15364084990067742242:=()
noncomputable def tw8372917939054445560:=()
noncomputable def tw6999678350419546717:=()
noncomputable def tw8261778047090582608:=()
noncomputable def tw8539991176443760207:=()
noncomputable def tw4975464187638062907:=()
noncomputable def tw8673761975405486332:=()
noncomputable def tw6254546594383876880:=()
noncomputable def tw4722637052260314606:=()
noncomputable def tw10440771042919009200:=()
noncomputable def tw13694190592584000551:=()
noncomputable def tw12200612825290570973:=()
noncomputable def tw17122350423001599403:=()
noncomputable def tw12498130441669384763:=()
noncomputable def tw162799619839122495:=()
noncomputable def tw4456761808383044727:=()
noncomputable def tw2545636928622178625:=()
noncomputable def tw17612052231024484756:=()
noncomputable def tw12672448132125264644:=()
noncomputable def tw7235366509114916418:=()
noncomputable def tw6586796708472948517:=()
noncomputable def tw8716935582971329260:=()
noncomputable def tw2181622632295087012:=()
noncomputable def tw16829641707081865400:=()
noncomputable def tw16476543992407536849:=()
noncomputable def tw7156013710145217862:=()
noncomputable def tw7074269658926012302:=()
noncomputable def tw14774285892918457045:=()
noncomputable def tw18418940400516626471:=()
noncomputable def tw4041450451345132559:=()
noncomputable def tw2950379601166668272:=()
noncomputable def tw8444043165357725965:=()
noncomputable def tw8552051483725854954:=()
noncomputable def tw861799424338651716:=()
noncomputable def tw8331301482343630464:=()
noncomputable def tw14625545947865515741:=()
noncomputable def tw16762224641497749994:=()
noncomputable def tw3001004654933286978:=()
noncomputable def tw81223080925486400:=()
noncomputable def tw11855844806591846215:=()
noncomputable def tw5212001622947122724:=()
noncomputable def tw11352241344083247193:=()
noncomputable def tw3263131384914600797:=()
noncomputable def tw4050907535262597315:=()
noncomputable def tw5655748554611323613:=()
noncomputable def tw14358495518604713980:=()
noncomputable def tw12480090364121006057:=()
noncomputable def tw10607185874013037117:=()
noncomputable def tw8650324156335971846:=()
noncomputable def tw15858721056901738677:=()
end PySem.W.Fast
open PySem PySem.W PyProof.Rows
set_option maxRecDepth 100000 in
set_option maxHeartbeats 0 in
theorem PySem.Challenge.cw_rimsteps_k70_whole_thinned_rounds_holds : PySem.Challenge.rw_rimsteps_k70_whole_thinned_rounds.Holds := by
 w_on;o_law;k_head;(case hw=>w_witness2)
 k_fill
 refine RR.walk (l:=PySem.Challenge.rw_rimsteps_k70_whole_thinned_rounds) rfl rfl (λw h Y=>W.kIn_of Y) ?F
 case F =>
  intro w mg fa h KX G hmg
  refine' RR.all_mk KX G hmg (.mk ?a0 ?l0 ?c0 ?k0) (.mk ?a1 ?l1 ?c1 ?k1) (.mk ?a2 ?l2 ?c2 ?k2) (.mk ?a3 ?l3 ?c3 ?k3) (.mk ?a4 ?l4 ?c4 ?k4) (.mk ?a5 ?l5 ?c5 ?k5) (.mk ?a6 ?l6 ?c6 ?k6) (.mk ?a7 ?l7 ?c7 ?k7) (.mk ?a8 ?l8 ?c8 ?k8) (.mk ?a9 ?l9 ?c9 ?k9) (.mk ?a10 ?l10 ?c10 ?k10) (.mk ?a11 ?l11 ?c11 ?k11) (.mk ?a12 ?l12 ?c12 ?k12) (.mk ?a13 ?l13 ?c13 ?k13) (.mk ?a14 ?l14 ?c14 ?k14) (.mk ?a15 ?l15 ?c15 ?k15) (.mk ?a16 ?l16 ?c16 ?k16) (.mk ?a17 ?l17 ?c17 ?k17) (.mk ?a18 ?l18 ?c18 ?k18) (.mk ?a19 ?l19 ?c19 ?k19) (.mk ?a20 ?l20 ?c20 ?k20) (.mk ?a21 ?l21 ?c21 ?k21) (.mk ?a22 ?l22 ?c22 ?k22) (.mk ?a23 ?l23 ?c23 ?k23) (.mk ?a24 ?l24 ?c24 ?k24) (.mk ?a25 ?l25 ?c25 ?k25) (.mk ?a26 ?l26 ?c26 ?k26) (.mk ?a27 ?l27 ?c27 ?k27) (.mk ?a28 ?l28 ?c28 ?k28) (.mk ?a29 ?l29 ?c29 ?k29) (.mk ?a30 ?l30 ?c30 ?k30) (.mk ?a31 ?l31 ?c31 ?k31) (.mk ?a32 ?l32 ?c32 ?k32) (.mk ?a33 ?l33 ?c33 ?k33) (.mk ?a34 ?l34 ?c34 ?k34) (.mk ?a35 ?l35 ?c35 ?k35) (.mk ?a36 ?l36 ?c36 ?k36) (.mk ?a37 ?l37 ?c37 ?k37) (.mk ?a38 ?l38 ?c38 ?k38) (.mk ?a39 ?l39 ?c39 ?k39) (.mk ?a40 ?l40 ?c40 ?k40) (.mk ?a41 ?l41 ?c41 ?k41) (.mk ?a42 ?l42 ?c42 ?k42) (.mk ?a43 ?l43 ?c43 ?k43) (.mk ?a44 ?l44 ?c44 ?k44) (.mk ?a45 ?l45 ?c45 ?k45) (.mk ?a46 ?l46 ?c46 ?k46) (.mk ?a47 ?l47 ?c47 ?k47) (.mk ?a48 ?l48 ?c48 ?k48) (.mk ?a49 ?l49 ?c49 ?k49) (.mk ?a50 ?l50 ?c50 ?k50) ?a51 ?l51 ?c51 ?k51 ?aM ?lM ?x0 ?x1 ?x2 ?x3 ?x4 ?x5 ?x6 ?x7 ?aB ?lB ?z_any ?z_enumerate ?z_range ?z_len ?z_min ?z_max ?z_sorted ?z_tuple ?z_int ?z_bool ?z_abs ?z_all ?z_isinstance ?z_list ?z_zip
  (case a0=>k_is)
  (case l0=>k_is)
  (case c0=>k_is)
  (case k0=>k_is)
  (case a1=>k_is)
  (case l1=>k_is)
  (case c1=>k_is)
  (case k1=>k_is)
  (case a2=>k_is)
  (case l2=>k_is)
  (case c2=>k_is)
  (case k2=>k_is)
  (case a3=>k_is)
  (case l3=>k_is)
  (case c3=>k_is)
  (case k3=>k_is)
  (case a4=>k_is)
  (case l4=>k_is)
  (case c4=>k_is)
  (case k4=>k_is)
  (case a5=>k_is)
  (case l5=>k_is)
  (case c5=>k_is)
  (case k5=>k_is)
  (case a6=>k_is)
  (case l6=>k_is)
  (case c6=>k_is)
  (case k6=>k_is)
  (case a7=>k_is)
  (case l7=>k_is)
  (case c7=>k_is)
  (case k7=>k_is)
  (case a8=>k_is)
  (case l8=>k_is)
  (case c8=>k_is)
  (case k8=>k_is)
  (case a9=>k_is)
  (case l9=>k_is)
  (case c9=>k_is)
  (case k9=>k_is)
  (case a10=>k_is)
  (case l10=>k_is)
  (case c10=>k_is)
  (case k10=>k_is)
  (case a11=>k_is)
  (case l11=>k_is)
  (case c11=>k_is)
  (case k11=>k_is)
  (case a12=>k_is)
  (case l12=>k_is)
  (case c12=>k_is)
  (case k12=>k_is)
  (case a13=>k_is)
  (case l13=>k_is)
  (case c13=>k_is)
  (case k13=>k_is)
  (case a14=>k_is)
  (case l14=>k_is)
  (case c14=>k_is)
  (case k14=>k_is)
  (case a15=>k_is)
  (case l15=>k_is)
  (case c15=>k_is)
  (case k15=>k_is)
  (case a16=>k_is)
  (case l16=>k_is)
  (case c16=>k_is)
  (case k16=>k_is)
  (case a17=>k_is)
  (case l17=>k_is)
  (case c17=>k_is)
  (case k17=>k_is)
  (case a18=>k_is)
  (case l18=>k_is)
  (case c18=>k_is)
  (case k18=>k_is)
  (case a19=>k_is)
  (case l19=>k_is)
  (case c19=>k_is)
  (case k19=>k_is)
  (case a20=>k_is)
  (case l20=>k_is)
  (case c20=>k_is)
  (case k20=>k_is)
  (case a21=>k_is)
  (case l21=>k_is)
  (case c21=>k_is)
  (case k21=>k_is)
  (case a22=>k_is)
  (case l22=>k_is)
  (case c22=>k_is)
  (case k22=>k_is)
  (case a23=>k_is)
  (case l23=>k_is)
  (case c23=>k_is)
  (case k23=>k_is)
  (case a24=>k_is)
  (case l24=>k_is)
  (case c24=>k_is)
  (case k24=>k_is)
  (case a25=>k_is)
  (case l25=>k_is)
  (case c25=>k_is)
  (case k25=>k_is)
  (case a26=>k_is)
  (case l26=>k_is)
  (case c26=>k_is)
  (case k26=>k_is)
  (case a27=>k_is)
  (case l27=>k_is)
  (case c27=>k_is)
  (case k27=>k_is)
  (case a28=>k_is)
  (case l28=>k_is)
  (case c28=>k_is)
  (case k28=>k_is)
  (case a29=>k_is)
  (case l29=>k_is)
  (case c29=>k_is)
  (case k29=>k_is)
  (case a30=>k_is)
  (case l30=>k_is)
  (case c30=>k_is)
  (case k30=>k_is)
  (case a31=>k_is)
  (case l31=>k_is)
  (case c31=>k_is)
  (case k31=>k_is)
  (case a32=>k_is)
  (case l32=>k_is)
  (case c32=>k_is)
  (case k32=>k_is)
  (case a33=>k_is)
  (case l33=>k_is)
  (case c33=>k_is)
  (case k33=>k_is)
  (case a34=>k_is)
  (case l34=>k_is)
  (case c34=>k_is)
  (case k34=>k_is)
  (case a35=>k_is)
  (case l35=>k_is)
  (case c35=>k_is)
  (case k35=>k_is)
  (case a36=>k_is)
  (case l36=>k_is)
  (case c36=>k_is)
  (case k36=>k_is)
  (case a37=>k_is)
  (case l37=>k_is)
  (case c37=>k_is)
  (case k37=>k_is)
  (case a38=>k_is)
  (case l38=>k_is)
  (case c38=>k_is)
  (case k38=>k_is)
  (case a39=>k_is)
  (case l39=>k_is)
  (case c39=>k_is)
  (case k39=>k_is)
  (case a40=>k_is)
  (case l40=>k_is)
  (case c40=>k_is)
  (case k40=>k_is)
  (case a41=>k_is)
  (case l41=>k_is)
  (case c41=>k_is)
  (case k41=>k_is)
  (case a42=>k_is)
  (case l42=>k_is)
  (case c42=>k_is)
  (case k42=>k_is)
  (case a43=>k_is)
  (case l43=>k_is)
  (case c43=>k_is)
  (case k43=>k_is)
  (case a44=>k_is)
  (case l44=>k_is)
  (case c44=>k_is)
  (case k44=>k_is)
  (case a45=>k_is)
  (case l45=>k_is)
  (case c45=>k_is)
  (case k45=>k_is)
  (case a46=>k_is)
  (case l46=>k_is)
  (case c46=>k_is)
  (case k46=>k_is)
  (case a47=>k_is)
  (case l47=>k_is)
  (case c47=>k_is)
  (case k47=>k_is)
  (case a48=>k_is)
  (case l48=>k_is)
  (case c48=>k_is)
  (case k48=>k_is)
  (case a49=>k_is)
  (case l49=>k_is)
  (case c49=>k_is)
  (case k49=>k_is)
  (case a50=>k_is)
  (case l50=>k_is)
  (case c50=>k_is)
  (case k50=>k_is)
  (case a51=>k_is)
  (case l51=>k_is)
  (case c51=>k_is)
  (case k51=>k_is)
  (case aM=>k_is)
  (case lM=>k_is)
  (case x0=>k_is)
  (case x1=>k_is)
  (case x2=>k_is)
  (case x3=>k_is)
  (case x4=>k_is)
  (case x5=>k_is)
  (case x6=>k_is)
  (case x7=>k_is)
  (case aB=>k_is)
  (case lB=>k_is)
  (case z_any=>k_is)
  (case z_enumerate=>k_is)
  (case z_range=>k_is)
  (case z_len=>k_is)
  (case z_min=>k_is)
  (case z_max=>k_is)
  (case z_sorted=>k_is)
  (case z_tuple=>k_is)
  (case z_int=>k_is)
  (case z_bool=>k_is)
  (case z_abs=>k_is)
  (case z_all=>k_is)
  (case z_isinstance=>k_is)
  (case z_list=>k_is)
  (case z_zip=>k_is)

import PyProof.Rows.All
import Wide.All
import OpenK.AllK
import Wide.FinOn
import Lean
import PyProof.EqAt
import PyProof.EqKinds
import PyProof.TupleCall
import PySem.Challenge.RW_rimsteps_k75_rows_of_the_greater
set_option Elab.async false
set_option linter.all false
set_option maxRecDepth 100000
open List renaming getElem?_eq_getElem → Aa,getElem?_eq_some_iff → Ae,replicate → Af,mem_of_getElem? → Ag,length_append → Ai,length_map → Am,size_toArray → Ap,mem_singleton → Ar,mem_cons_of_mem → As,append_assoc → At,mem_append_right → Au,mem_cons_self → Av,getElem?_map → Ax,getElem?_append_left → Ay,map_append → AE,getElem?_append_right → AK,length_take → AL,getElem_of_mem → AN,pairwise_append → AO,length_replicate → AR,mem_append → AT,length_cons → AV,mem_cons → AW,append_nil → AX,range → A0,getD_eq_getElem?_getD → A6,getElem_mem → A9,take_length → Bb,replicate_succ → Bd,map_cons → Bf,mem_map → Bg,lookup_cons → Bk,flatten_cons → Bl,mem_of_mem_drop → Bs,take_of_length_le → Bz,mem_range → BA,getElem?_eq_none → BF,mem_of_mem_take → BJ,filterMap_append → BS,length_nil → BU,take_sublist → BZ,extract_eq_take_drop → B5,pairwise_iff_getElem → B6,toArray → Cd,mem_append_left → Ce,replicate_succ' → Cf,drop_sublist → Cg,filterMap_map → Cp,length_singleton → Ct,perm_append_comm → Cu,nodup_cons → Cy,length_range → CF,getElem?_inj → CH,length_filterMap_le → CO,filterMap_cons → CP,getElem?_range → CQ,filter_append → C3,find?_cons → C4,sum_cons → C9,map_drop → Da,map_take → Db,take_append_drop → Dc,length_filter_le → Dd,ext_getElem? → Dg,take_succ → Dk,flatten_append → Dp,map_eq_nil_iff → Dq,zip_cons_cons → DD,getElem?_drop → DE
open PySem renaming Value → Ab,Shared → Ac,wpAny_bind → Ad,wpAny_pure → Aj,wpAny → Aw,model → Az,Program → AH,mainGlobals → AI,Around → AQ,World → Bc,wpAny_holding → Bo,starEach → Bq,Spec → Bt,foldedSetIterable → Bw,FuncData → Bx,wpAny_mono → By,wpAny_newObj_type → BG,compareOp → BH,wpAny_truthy_bool → BQ,wpAny_loadPart' → B4,mem_of_lookup → Ch,keywordEach → Ck,sysModules → Cn,wpAny_passesOwn → Cw,codeAny → CB,wpAny_standAt → CJ,wpAny_comprehension_free → CM,wpAny_rule → CN,binaryOp → CS,compEnvC → CT,wpAny_Call_Name_kw → CW,wpAny_tryCatch → Dj,backToKw → Ds,holding → Dw,letOwnedTupleGo → Dx,assignEach → DB,tupleKind_room_in1 → DC,sliceBounds → DH
open PyProof.Rows renaming wpS_bind → Ah,wpS_pure → Ao,arrOf → Aq,SortSt → AF,pendingOf → AG,seqObj → A7,wpS_forRange → Bn,slot_tuple_getitem → Bu,getElem?_mirror_all → BC,wpS_modify → BE,failedOf → BX,wpS_mono → B7,IntsAre → Ci,SortKind → Cr,get?_update_seq → CA,listUpdate_at → C8,callWith_type1 → De,wpS_get → Dm
open PySem.Heap renaming get?_push_of_some → Ak,lt_size → AD,get?_push_size → AM,SameBut → CV,get?_update_other → CY
open Nat renaming le_refl → An,le_trans → AS,zero_le → AU,lt_or_ge → AY,lt_of_lt_of_le → AZ,ne_of_lt → A4,le_of_lt → Bm,zero_add → BV,mod_lt → Ca,le_succ → Cm,lt_irrefl → CI,lt_of_le_of_lt → CZ,eq_zero_or_pos → DF
open Bool renaming false_ne_true → AA,and_eq_true → BL,false_eq_true → B8,eq_iff_iff → Dy
open PySem.Obj renaming mapSeq → AB
open Array renaming length_toList → AC,getElem?_toList → A5,toList_append → Ba,getElem?_eq_some_iff → Bh,perm_iff_toList_perm → Bv,getElem?_eq_getElem → BP,size_extract → B9,toList_push → CC,toList_extract → CD
open Option.some renaming inj → AJ
open PySem.F renaming plainAttrs_list → A3,slot_list_append → Bi,type_list_append → Bj,plain_min_loop → BO,args_tuple_add_2 → Dt,entry_tuple_add → DG
open Option renaming map_eq_some_iff → A8,map_some → Cz
open PySem.PassesOwn renaming never → Be
open PySem.NameKind renaming free → Bp,cell → C7
open PySem.Str renaming ofString → Br
open PySem.Heap.SameBut renaming update → BB
open False renaming elim → BD
open PySem.W renaming kas_item → BI,mg_none_of → BW,nsIn → C1,kia_one → C6,fnOf → Dh
open PySem.PyData renaming keyHash → BK,depth → BN,canLayAll0 → B3,eqv → Cq,canLay0 → CU,depthAll → C5,int → Di,eqvAll → Du
open PySem.SeqAt renaming shaped → BM,canLay_of_shaped → C0
open Int renaming mul_le_mul_of_nonneg_left → BR
open PySem.Value renaming none → BY
open Ne renaming symm → Cb
open Lean renaming maxHeartbeats → Cc
open PySem.Builtin.Builtins renaming bindParams → Cj
open True renaming intro → Co
open Break.runK renaming match_1 → Cs
open PySem.Builtin.Slice renaming slicePlaces → Cv,sliceAdjust → Do
open PySem.Builtin.Tuple renaming tupleExact → CK
open PySem.Builtin.List renaming listTooLong → CL
open Sum renaming inl → Dl
open PySem.Paired renaming length → Dr
open List.Pairwise renaming imp_of_mem → Dv
open Array.Perm renaming refl → Dz
namespace L2
open PySem PySem.Spec PyProof.Rows
noncomputable abbrev Key:=Sum Int Str
noncomputable def keyIs:Key->Ab->Bool
 |.inl k,v=>Value.isInt k v
 |.inr x,v=>Value.isStrOf x v
noncomputable def keyH(w:Bc):Key->Int
 |.inl k=>hashInt k
 |.inr x=>hashStr w x
theorem zaP:∀{k:Key}{v:Ab},keyIs k v=true->(∃i t,k=Dl i/\v=Value.int i t)∨(∃x t,k=Sum.inr x/\v=Value.str x t)
 |.inl i,v,h=>by
  obtain⟨t,e⟩:=Value.isInt_shape (k:=i) (v:=v) h;exact .inl ⟨i,t,rfl,e⟩
 |.inr x,v,h=>by
  obtain⟨t,e⟩:=Value.isStrOf_shape (x:=x) (v:=v) h;exact .inr ⟨x,t,rfl,e⟩
theorem ziY(i:Int)(t:Tok):keyIs (.inl i) (.int i t)=true:=by simp[keyIs,Value.isInt]
theorem ziX(x:Str)(t:Tok):keyIs (.inr x) (.str x t)=true:=by simp[keyIs,Value.isStrOf]
theorem zlL(a b:Int):decide ((Dl a:Key)=Dl b)=(a == b):=by
 by_cases e:a=b
 .subst e;simp
 .have h:¬ (Dl a:Key)=Dl b:=λq=>e (Sum.inl.inj q)
  rw[decide_eq_false h];exact (beq_eq_false_iff_ne.mpr e).symm
theorem zlI(a b:Str):decide ((Sum.inr a:Key)=Sum.inr b)=decide (a=b):=by
 by_cases e:a=b
 .subst e;simp
 .have h:¬ (Sum.inr a:Key)=Sum.inr b:=λq=>e (Sum.inr.inj q)
  rw[decide_eq_false h,decide_eq_false e]
theorem zlK(a:Int)(b:Str):decide ((Dl a:Key)=Sum.inr b)=false:=decide_eq_false (λq=>nomatch q)
theorem zlJ(a:Str)(b:Int):decide ((Sum.inr a:Key)=Dl b)=false:=decide_eq_false (λq=>nomatch q)
noncomputable def zaO(prog:AH)(w:Bc):PySem.KeyKind prog w Key where
 is:=keyIs
 hash:=keyH w
 inj:=λv a b ha hb=>by
  rcases zaP ha with⟨i,t,rfl,rfl⟩ |⟨x,t,rfl,rfl⟩
  .rcases zaP hb with⟨j,u,rfl,e⟩ |⟨y,u,rfl,e⟩
   .injection e with e1 _;rw[e1]
   .exact nomatch e
  .rcases zaP hb with⟨j,u,rfl,e⟩ |⟨y,u,rfl,e⟩
   .exact nomatch e
   .injection e with e1 _;rw[e1]
 byValue:=λk v h=>by rcases zaP h with⟨i,t,rfl,rfl⟩ |⟨x,t,rfl,rfl⟩ <;> rfl
 pyHash:=λhv h=>by
  rcases zaP hv with⟨i,t,rfl,rfl⟩ |⟨x,t,rfl,rfl⟩
  .exact wpAny_pyHash_int h
  .exact wpAny_pyHash_str h
 eqBool:=λhu hv h=>by
  rcases zaP hu with⟨i,t,rfl,rfl⟩ |⟨x,t,rfl,rfl⟩
  .rcases zaP hv with⟨j,u,rfl,rfl⟩ |⟨y,u,rfl,rfl⟩
   .rw[zlL]at h;exact wpAny_eqBool_int h
   .rw[zlK]at h;exact SeqAt.EqAt.int_str i t y u _ _ _ _ h
  .rcases zaP hv with⟨j,u,rfl,rfl⟩ |⟨y,u,rfl,rfl⟩
   .rw[zlJ]at h;exact SeqAt.EqAt.str_int x t j u _ _ _ _ h
   .rw[zlI]at h;exact wpAny_eqBool_str h
 «strs»:=λk x t v h=>by
  rcases zaP h with⟨i,u,rfl,e⟩ |⟨y,u,rfl,e⟩
  .exact nomatch e
  .injection e with e1 _;subst e1
   cases v <;> rfl
theorem zgX(prog:AH)(w:Bc)(i:Int)(t:Tok):(zaO prog w).is (.inl i) (.int i t)=true:=ziY i t
theorem zbI(prog:AH)(w:Bc)(x:Str)(t:Tok):(zaO prog w).is (.inr x) (.str x t)=true:=ziX x t
inductive V where
 |non |bl (b:Bool) |int (i:Int) |str (x:Str) |byt (b:Array UInt8) |flt (b:UInt64) |ref (a:Addr) |ty (n:String)
 deriving DecidableEq
noncomputable def RelV:V->Ab->Prop
 |.non,u=>u=BY
 |.bl b,u=>u=Value.bool b
 |.int i,u=>∃t,u=Value.int i t
 |.str x,u=>∃t,u=Value.str x t
 |.byt b,u=>∃t,u=Value.bytes b t
 |.flt b,u=>∃t,u=Value.float b t
 |.ref a,u=>u=Value.ref a
 |.ty n,u=>u=Value.type n
noncomputable abbrev Vals:List V->List Ab->Prop:=Paired RelV
theorem Vals.length{xs:List V}{us:List Ab}(r:Vals xs us):xs.length=us.length:=Dr r
theorem Vals.get:∀{xs:List V}{us:List Ab}{i:Nat}{x:V},Vals xs us->xs[i]?=some x->∃u,us[i]?=some u/\RelV x u
 |_,_,_,_,.nil,e=>by simp at e
 |_,_,0,_,.cons r _,e=>by simp at e;subst e;exact⟨_,rfl,r⟩
 |_,_,i+1,x,.cons _ t,e=>by
  obtain⟨u,h1,h2⟩:=Vals.get (i:=i) (x:=x) t (by simpa using e);exact⟨u,by simpa using h1,h2⟩
theorem Vals.set{x:V}{u:Ab}(r:RelV x u):∀{xs:List V}{us:List Ab}(i:Nat),Vals xs us->Vals (xs.set i x) (us.set i u)
 |_,_,_,.nil=>.nil
 |_,_,0,.cons _ t=>.cons r t
 |_,_,i+1,.cons q t=>.cons q (Vals.set r i t)
theorem Vals.append:∀{xs ys:List V}{us ws:List Ab},Vals xs us->Vals ys ws->Vals (xs++ys) (us++ws)
 |_,_,_,_,.nil,s=>s
 |_,_,_,_,.cons r t,s=>.cons r (Vals.append t s)
theorem Vals.take:∀{xs:List V}{us:List Ab}(n:Nat),Vals xs us->Vals (xs.take n) (us.take n)
 |_,_,0,_=>.nil
 |_,_,_+1,.nil=>.nil
 |_,_,n+1,.cons r t=>.cons r (Vals.take n t)
theorem Vals.drop:∀{xs:List V}{us:List Ab}(n:Nat),Vals xs us->Vals (xs.drop n) (us.drop n)
 |_,_,0,r=>r
 |_,_,_+1,.nil=>.nil
 |_,_,n+1,.cons _ t=>Vals.drop n t
noncomputable def RelO:Option V->Option Ab->Prop
 |some v,some u=>RelV v u
 |none,none=>True
 |_,_=>False
noncomputable def KV{κ:Type}:List (κ×V)->List (κ×Ab)->Prop:=Paired λ(p:κ×V) (q:κ×Ab)=>p.1=q.1/\RelV p.2 q.2
noncomputable def kV:Key->V
 |.inl i=>.int i
 |.inr x=>.str x
inductive HO where
 /-- a list -/
 |lst (xs:List V)
 /-- a tuple (never changes) -/
 |tup (xs:List V)
 /-- a dict whose keys are ints and texts;one whose keys are tuples of ints and texts (the empty one is both) -/
 |dK (kvs:List (Key×V)) |dT (kvs:List (List Key×V))
 /-- a set of ints: its members,its size -/
 |set (S:Int->Bool) (n:Nat)
 /-- an instance of the class at C,its dict at dx,its attributes -/
 |ins (C dx:Addr) (fs:List (Str×V))
 /-- the dict of the instance at x -/
 |own (x:Addr)
 /-- the dict of an exception -/
 |xd (fs:List (Str×V))
 /-- a bound method,f of x -/
 |met (f x:Addr)
 /-- a range object lo,lo+1,.. below hi -/
 |rng (lo hi:Int)
 /-- a thing that is known to the object (the script;a dict while a loop walks it): read,never written while it is so -/
 |frz (o:Obj) (u:HO)
 /-- a code object's table -/
 |tbl (ps:Array Ab)
 /-- any other thing,by what is true of its one object (a def of one's own: SetO a S n:=HO.ext λh=>..) -/
 |ext (φ:Heap->Prop)
noncomputable abbrev Hp:=Addr->Option HO
noncomputable def upd(H:Hp)(a:Addr)(o:HO):Hp:=λb=>if b=a then some o else H b
theorem zaa{H:Hp}{a:Addr}{o:HO}:upd H a o a=some o:=by unfold upd;rw[if_pos rfl]
theorem zak{H:Hp}{a b:Addr}{o:HO}(h:b≠a):upd H a o b=H b:=by unfold upd;rw[if_neg h]
theorem zkz{H:Hp}{a:Addr}{o u:HO}:upd (upd H a o) a u=upd H a u:=by
 funext b;unfold upd;split <;> rfl
theorem ne_of{H:Hp}{a b:Addr}{o u:HO}(h:H a=some o)(h':H b=some u)(d:o≠u):a≠b:=by intro e;subst e;rw[h]at h';exact d (AJ h')
theorem zal{H:Hp}{a b:Addr}{o:HO}(h:H a=some o)(h':H b=none):a≠b:=by intro e;subst e;rw[h]at h';cases h'
section
variable (P:AH) (w:Bc)
noncomputable def ObjOk(H:Hp)(h:Heap)(a:Addr):HO->Prop
  |.lst xs=>xs.length<=sizeLine/\∃(its:List Ab) (n:Nat),Vals xs its/\h.get? a=some { cls:=.type "list",data:=.seq its.toArray n }
  |.tup xs=>xs.length<=sizeLine/\∃its:List Ab,Vals xs its/\IsTup h a its.toArray
  |.dK kvs=>kvs.length<=sizeLine/\(a == Cn)=false/\∃vs,KV kvs vs/\h.DictOf (zaO P w) a vs
  |.dT kvs => kvs.length <= sizeLine /\ (a == Cn)=false /\ ∃xs:List (List Key × Addr × Ab),
      Paired (λ(p:List Key×V) (q:List Key×Addr×Ab)=>p.1=q.1/\H q.2.1=some (.tup (p.1.map kV))/\RelV p.2 q.2.2) kvs xs /\
      ∃o es ep,h.get? a=some o/\o.ExactDict/\o.data=.dict es ep/\es.toList=xs.map (entryOfKey (tupleKind (zaO P w)))/\(xs.map (·.1)).Nodup
  |.set S n=>h.SetOf (intKind P w) a S n
  |.ins C dx fs => H dx=some (.own a) /\ fs.length <= 1000 /\ dx ≠ a /\ h.get? a=some (W.instObj C dx) /\
      ∃mA,h.Ns1 dx mA/\(∀f,RelO (fs.lookup f) (mA f))/\PySem.Within mA (fs.map (·.1))
  |.own _=>∃o,h.get? a=some o
  |.xd fs=>∃mA,h.Ns1 a mA/\∀f,RelO (fs.lookup f) (mA f)
  |.rng lo hi=>∃t u v,h.get? a=some { cls:=.type "range",data:=.fields #[.int lo t,.int hi u,.int 1 v] }
  |.frz o u=>h.get? a=some o/\ObjOk H h a u
  |.tbl ps=>h.get? a=some { cls:=.none,data:=.fields ps }
  |.met f x=>h.get? a=some (W.methodObj (.ref f) (.ref x))
  |.ext φ=>φ h/\(∃o,h.get? a=some o)/\∀h1 h2:Heap,φ h1->(∀o,h1.get? a=some o->h2.get? a=some o)->φ h2
noncomputable def HOk(H:Hp)(h:Heap):Prop:=∀a o,H a=some o->ObjOk P w H h a o
end
section
variable {P:AH}{w:Bc}{H H':Hp}{h h':Heap}{a:Addr}{o:HO}
theorem ObjOk.lt(x:ObjOk P w H h a o):a<h.objs.size:=by
 cases o with
 |lst xs=>obtain⟨_,_,_,_,e⟩:=x;exact AD e
 |tup xs=>obtain⟨_,_,_,p⟩:=x;exact p.lt
 |dK kvs=>obtain⟨_,_,_,_,o,_,_,e,_⟩:=x;exact AD e
 |dT kvs=>obtain⟨_,_,_,_,o,_,_,e,_⟩:=x;exact AD e
 |set S n=>obtain⟨o,_,_,_,e,_⟩:=x;exact AD e
 |ins C dx fs=>obtain⟨_,_,_,e,_⟩:=x;exact AD e
 |own y=>obtain⟨_,e⟩:=x;exact AD e
 |xd fs=>obtain⟨_,⟨_,_,_,e,_⟩,_⟩:=x;exact AD e
 |rng lo hi=>obtain⟨_,_,_,e⟩:=x;exact AD e
 |frz ob u=>obtain⟨e,_⟩:=x;exact AD e
 |tbl ps=>exact AD (show h.get? a=some _ from x)
 |met f y=>exact AD (show h.get? a=some _ from x)
 |ext φ=>obtain⟨_,⟨_,e⟩,_⟩:=x;exact AD e
theorem Paired.mapP{α β:Type}{F G:α->β->Prop}:∀{l₁:List α}{l₂:List β},Paired F l₁ l₂->(∀a b,F a b->G a b)->Paired G l₁ l₂
 |_,_,.nil,_=>.nil
 |_,_,.cons r t,f=>.cons (f _ _ r) (Paired.mapP t f)
theorem ObjOk.stay(x:ObjOk P w H h a o)(k:∀b u, (b=a ∨ H b=some (.own a)) -> h.get? b=some u -> h'.get? b=some u)
  (ho:∀b,H b=some (.own a)->H' b=some (.own a)) (ht:∀b xs,H b=some (.tup xs)->H' b=some (.tup xs)):ObjOk P w H' h' a o:=by
 induction o with
 |lst xs=>obtain⟨z,its,n,r,e⟩:=x;exact⟨z,its,n,r,k _ _ (.inl rfl) e⟩
 |tup xs=>obtain⟨z,its,r,ob,e,c⟩:=x;exact⟨z,its,r,ob,k _ _ (.inl rfl) e,c⟩
 |dK kvs=>obtain⟨z,y,vs,r,ob,es,ep,e,c⟩:=x;exact⟨z,y,vs,r,ob,es,ep,k _ _ (.inl rfl) e,c⟩
 |dT kvs =>
  obtain⟨z,y,xs,r,ob,es,ep,e,c⟩:=x;exact⟨z,y,xs,Paired.mapP r λp q z=>⟨z.1,ht _ _ z.2.1,z.2.2⟩,ob,es,ep,k _ _ (.inl rfl) e,c⟩
 |set S n=>obtain⟨ob,es,ep,t,e,c⟩:=x;exact⟨ob,es,ep,t,k _ _ (.inl rfl) e,c⟩
 |ins C dx fs =>
  obtain⟨d,z,ne,e,mA,⟨od,es,ep,e2,c⟩,r⟩:=x;exact⟨ho _ d,z,ne,k _ _ (.inl rfl) e,mA,⟨od,es,ep,k _ _ (.inr d) e2,c⟩,r⟩
 |own y=>obtain⟨ob,e⟩:=x;exact⟨ob,k _ _ (.inl rfl) e⟩
 |xd fs=>obtain⟨mA,⟨od,es,ep,e,c⟩,r⟩:=x;exact⟨mA,⟨od,es,ep,k _ _ (.inl rfl) e,c⟩,r⟩
 |rng lo hi=>obtain⟨t,u,v,e⟩:=x;exact⟨t,u,v,k _ _ (.inl rfl) e⟩
 |frz ob u ih=>obtain⟨e,q⟩:=x;exact⟨k _ _ (.inl rfl) e,ih q⟩
 |tbl ps =>
  have e:h.get? a=some { cls:=.none,data:=.fields ps }:=x;show h'.get? a=some { cls:=.none,data:=.fields ps };exact k a _ (.inl rfl) e
 |met f y =>
  have e:h.get? a=some (W.methodObj (.ref f) (.ref y)):=x;show h'.get? a=some (W.methodObj (.ref f) (.ref y));exact k a _ (.inl rfl) e
 |ext φ=>obtain⟨p,⟨o,e⟩,st⟩:=x;exact⟨st _ _ p λo q=>k _ _ (.inl rfl) q,⟨o,k _ _ (.inl rfl) e⟩,st⟩
theorem HOk.lt(x:HOk P w H h)(e:H a=some o):a<h.objs.size:=(x a o e).lt
theorem HOk.fresh(x:HOk P w H h)(e:h.objs.size<=a):H a=none:=by
 cases q:H a with
 |none=>rfl
 |some u=>exact absurd (AZ (x.lt q) e) (CI _)
theorem HOk.kept(x:HOk P w H h)(k:∀b u,h.get? b=some u->h'.get? b=some u):HOk P w H h':=λa o e =>
 (x a o e).stay (λb u _ q=>k b u q) (λ_ q=>q) λ_ _ q=>q
theorem HOk.laid(x:HOk P w H h)(k:∀b u,h.get? b=some u->h'.get? b=some u)(hp:h.objs.size<=a)(new:ObjOk P w (upd H a o) h' a o):HOk P w (upd H a o) h':=λb u e=>by
 have hn:=x.fresh hp
 by_cases hb:b=a
 .subst hb;rw[zaa]at e;cases e;exact new
 .rw[zak hb]at e;exact (x b u e).stay (λc v _ q=>k c v q) (λc q=>by rw[zak (zal q hn)];exact q) λc xs q=>by rw[zak (zal q hn)];exact q
end
noncomputable def Rd(H:Hp)(a:Addr)(u:HO):Prop:=H a=some u∨∃o,H a=some (.frz o u)
theorem Rd.of{H:Hp}{a:Addr}{u:HO}(h:H a=some u):Rd H a u:=.inl h
theorem Rd.ok{P:AH}{w:Bc}{H:Hp}{h:Heap}{a:Addr}{u:HO}(r:Rd H a u)(x:HOk P w H h):ObjOk P w H h a u:=by
 rcases r with r |⟨o,r⟩
 .exact x a u r
 .obtain⟨_,q⟩:=x a _ r;exact q
noncomputable def Mut:Option HO->Prop
 |some (.lst _)=>True
 |some (.dK _)=>True
 |some (.dT _)=>True
 |some (.set _ _)=>True
 |some (.ins _ _ _)=>True
 |some (.ext _)=>True
 |_=>False
section
variable {P:AH}{w:Bc}{H:Hp}{h h':Heap}{x e:Addr}{o':HO}
theorem HOk.write(ok:HOk P w H h)(mu:Mut (H x))(he:e=x ∨ H e=some (.own x))(k:∀b u, b ≠ e -> h.get? b=some u -> h'.get? b=some u)(heo:∃u, h'.get? e=some u)
  (new:ObjOk P w (upd H x o') h' x o'):HOk P w (upd H x o') h':=λb u q=>by
 have nown:∀c y,H c=some (.own y)->c≠x:=λc y r z=>by subst z;rw[r]at mu;exact mu
 have ntup:∀c xs,H c=some (.tup xs)->c≠x:=λc xs r z=>by subst z;rw[r]at mu;exact mu
 by_cases hb:b=x
 .subst hb;rw[zaa]at q;cases q;exact new
 .rw[zak hb]at q
  by_cases hbe:b=e
  .have q':H b=some (.own x) := by
    rcases he with z |z
    .exact absurd (hbe.trans z) hb
    .rw[hbe];exact z
   rw[q]at q';cases q';obtain⟨v,hv⟩:=heo;exact⟨v,by rw[hbe];exact hv⟩
  .refine (ok b u q).stay (λc v hc r=>k c v ?_ r) (λc r=>by rw[zak (nown c b r)];exact r) λc xs r=>by rw[zak (ntup c xs r)];exact r
   rcases hc with rfl |hc
   .exact hbe
   .rintro rfl;rcases he with z |z
    .exact nown c b hc z
    .rw[hc]at z;cases z;exact hb rfl
end
structure Un (fs ex:List Addr) (H H':Hp) (h h':Heap):Prop where
 keep:∀b o,h.get? b=some o->H b=none->b ∉ fs->b ∉ ex->h'.get? b=some o
 slot:∀b o,h.get? b=some o->H b=none->b∈fs->b ∉ ex->∃sl,h'.get? b=some { o with slots:=sl }
 free:∀b o,h.get? b=some o->H b=none->b ∉ ex->H' b=none
 there:∀b o,h.get? b=some o->b ∉ ex->∃o',h'.get? b=some o'
 tups:∀b xs,H b=some (.tup xs)->H' b=some (.tup xs)
 frzs:∀b o u,H b=some (.frz o u)->H' b=some (.frz o u)
 tbls:∀b ps,H b=some (.tbl ps)->∃more,H' b=some (.tbl (ps++more))
section
variable {fs fs' ex ex':List Addr}{H H1 H2:Hp}{h h1 h2 h':Heap}{a x e:Addr}{o:HO}
theorem Un.any(u:Un fs ex H H1 h h1){b:Addr}{ob:Obj}(q:h.get? b=some ob)(n:H b=none)(hx:b ∉ ex):∃sl,h1.get? b=some { ob with slots:=sl }:=by
 by_cases hb:b∈fs
 .exact u.slot b ob q n hb hx
 .exact⟨ob.slots,u.keep b ob q n hb hx⟩
theorem Un.kept(k:∀b u,h.get? b=some u->h'.get? b=some u):Un fs ex H H h h' :=
 ⟨λb ob q _ _ _=>k b ob q,λb ob q _ _ _=>⟨ob.slots,k b ob q⟩,λ_ _ _ n _=>n,λb ob q _=>⟨ob,k b ob q⟩,λ_ _ q=>q,λ_ _ _ q=>q,λ_ ps q=>⟨#[],by rw[q];simp⟩⟩
theorem Un.refl:Un fs ex H H h h:=Un.kept λ_ _ q=>q
theorem Un.laid(k:∀b u,h.get? b=some u->h'.get? b=some u)(hp:h.objs.size<=a)(hn:H a=none):Un fs ex H (upd H a o) h h' where
 keep:=λb u q _ _ _=>k b u q
 slot:=λb u q _ _ _=>⟨u.slots,k b u q⟩
 free:=λb u q n _=>by rw[zak (A4 (AZ (AD q) hp))];exact n
 there:=λb u q _=>⟨u,k b u q⟩
 tups:=λb xs q=>by rw[zak (zal q hn)];exact q
 frzs:=λb u xs q=>by rw[zak (zal q hn)];exact q
 tbls:=λb ps q=>⟨#[],by rw[zak (zal q hn),q];simp⟩
theorem Un.write(mu:Mut (H x))(he:e=x∨H e=some (.own x))(k:∀b u,b≠e->h.get? b=some u->h'.get? b=some u)(heo:∃u,h'.get? e=some u):Un fs ex H (upd H x o) h h':=by
 have hx:∀b,H b=none->b≠x:=λb n z=>by subst z;rw[n]at mu;exact mu
 have hb:∀b,H b=none->b≠e:=λb n z=>by
  subst z;rcases he with r |r
  .exact hx b n r
  .rw[n]at r;cases r
 have hm:∀b u,H b=some u->¬ Mut (some u)->b≠x:=λb u q nm z=>by subst z;rw[q]at mu;exact nm mu
 refine⟨λb u q n _ _=>k b u (hb b n) q,λb u q n _ _=>⟨u.slots,k b u (hb b n) q⟩,λb u q n _=>by rw[zak (hx b n)];exact n,λb u q _=>?_,
  λb xs q=>by rw[zak (hm b _ q λz=>z)];exact q,λb u xs q=>by rw[zak (hm b _ q λz=>z)];exact q,λb ps q=>⟨#[],by rw[zak (hm b _ q λz=>z),q];simp⟩⟩
 by_cases hbe:b=e
 .subst hbe;exact heo
 .exact⟨u,k b u hbe q⟩
end
noncomputable def trk(h:Heap)(H:Hp):List Addr:=(A0 h.objs.size).filter λa=>(H a).isSome
noncomputable def hidT(h:Heap)(H:Hp):Heap:=W.hideAll h (trk h H)
theorem zi4(h:Heap)(H:Hp):(hidT h H).objs.size=h.objs.size:=W.hideAll_size _ _
theorem zjU{h:Heap}{H:Hp}{b:Addr}{o:Obj}(e:h.get? b=some o)(n:H b=none):(hidT h H).get? b=some o :=
 W.hideAll_get _ e λhm=>by have q:(H b).isSome=true:=(List.mem_filter.mp hm).2;rw[n]at q;simp at q
theorem zkX{h:Heap}{H:Hp}{b:Addr}{o:Obj}(e:(hidT h H).get? b=some o):h.get? b=some o/\H b=none:=by
 have e':h.get? b=some o:=W.of_hideAll (trk h H) e;refine⟨e',?_⟩
 cases q:H b with
 |none=>rfl
 |some x =>
  have hm:b∈trk h H:=List.mem_filter.mpr ⟨List.mem_range.mpr (AD e'),by simp[q]⟩;have z:(hidT h H).get? b=none:=W.hideAll_none (trk h H) hm;rw[z]at e;cases e
noncomputable def zlc(g h:Heap)(L:Addr):List (Addr×Obj):=(A0 h.objs.size).filterMap λa=>if a=L∨(g.get? a).isSome=true then none else (h.get? a).map λo=>(a,o)
noncomputable def rest(g h:Heap)(L d:Addr):List (Addr×Obj):=(zlc g h L).filter λp=>decide (p.1≠d)
structure Mod (K:W.Frag) (mg:Str->Option Ab) (base:Heap):Prop where
 kin:K.In base
 glob:base.Ns AI mg
 blt:∃mb,base.Ns builtinsNs mb/\∀x:Str,x ≠ "__name__" -> mb x=bootBuiltins x
 nolimit:base.NoLimit
structure Cx where
 prog:AH
 w:Bc
 K:W.Frag
 mg:Str->Option Ab
 base:Heap
 A:AQ
 N:List Str
 s₀:Ac
 H₀:Hp
 env:Env
 outer:List Env
 stack:List Env
 ex:List Addr
 fn:Str->Bool
 calm:Bool
 pn:List (Addr×Obj)
 xe:Ab->Ac->Prop
noncomputable def frs(l:List Env):List Addr:=l.filterMap (·.frame)
noncomputable abbrev Cx.fs(X:Cx):List Addr:=frs X.outer
noncomputable def Vis(sc:Scope)(x:Str):Prop:=sc.names.lookup x=some .local∨sc.names.lookup x=some .cell∨sc.names.lookup x=some .free
noncomputable def Loc(sc:Scope)(x:Str):Prop:=sc.names.lookup x=some .local∨sc.names.lookup x=some .cell
noncomputable def Look(env:Env)(h:Heap)(m:Str->Option Ab)(x:Str)(u:Ab):Prop :=
 (env.kindOf x=some .local/\m x=some u)∨((env.kindOf x=some .cell∨env.kindOf x=some .free)/\∃c,env.cells.lookup x=some c/\h.IsCell c (some u))
structure Cx.Ok (X:Cx):Prop where
 mod:Mod X.K X.mg X.base
 kind:X.env.scope.kind=.function
 glob:X.env.globals=AI
 blt:X.env.builtins=builtinsNs
 above:X.s₀.heap.objs.size<=X.env.locals
 inj:∀x y c,X.env.cells.lookup x=some c->X.env.cells.lookup y=some c->x=y
 has:∀x,(X.env.kindOf x=some .cell∨X.env.kindOf x=some .free)->∃c,X.env.cells.lookup x=some c
 cab:∀x c,X.fn x=true->X.env.cells.lookup x=some c->X.s₀.heap.objs.size<=c
 hd:X.calm=true->X.A.handled=none
 frames:X.A.frames=some X.stack
 stk:X.stack=X.outer∨(X.stack=X.env::X.outer/\X.env.frame=some X.env.locals)
 exf:∀b∈X.ex,b≠X.env.locals/\∀x c,X.env.cells.lookup x=some c->c≠b
 bs:∀b o,X.base.get? b=some o->X.s₀.heap.get? b=some o/\X.H₀ b=none
 bsz:X.base.objs.size<=X.s₀.heap.objs.size
 noex:∀b o,X.base.get? b=some o->b ∉ X.ex
 exfs:∀b∈X.ex,b ∉ X.fs
 funs:X.s₀.heap.FunFrames X.base X.outer
 frf:∀b∈X.fs,X.H₀ b=none
structure Inv (X:Cx) (pins:List (Addr×Obj)) (σ:List (Option V)) (H:Hp) (s:Ac):Prop where
 ok:X.Ok
 os:s.os=X.s₀.os
 bare:AllBare s.gens
 base:Un X.fs X.ex X.H₀ H X.s₀.heap s.heap
 loc:∃m,s.heap.Ns X.env.locals m/\∀(i:Nat) (x:Str) (v:V),X.N[i]?=some x->σ[i]?=some (some v)->Vis X.env.scope x->∃u,RelV v u/\Look X.env s.heap m x u
 cell:∀x c,X.env.cells.lookup x=some c->∃v,s.heap.IsCell c v
 free:H X.env.locals=none
 freeC:∀x c,X.env.cells.lookup x=some c->H c=none
 pin:∀p∈X.pn++pins,s.heap.get? p.1=some p.2/\H p.1=none/\p.1≠X.env.locals/\p.1 ∉ X.fs/\∀v,p.2.data≠.cell v
 hok:HOk X.prog X.w H s.heap
 len:σ.length=X.N.length
section
variable {X:Cx}{pins:List (Addr×Obj)}{σ:List (Option V)}{H H':Hp}{s:Ac}{h':Heap}
theorem Cx.Ok.nofr(ok:X.Ok){b:Addr}{o:Obj}(e:X.base.get? b=some o):b ∉ X.fs:=λhb=>by have:=(ok.funs.mem hb).1;rw[e]at this;cases this
theorem Inv.bs(I:Inv X pins σ H s):∀b o,X.base.get? b=some o->s.heap.get? b=some o/\H b=none:=λb o e =>
 ⟨I.base.keep b o (I.ok.bs b o e).1 (I.ok.bs b o e).2 (I.ok.nofr e) (I.ok.noex b o e),I.base.free b o (I.ok.bs b o e).1 (I.ok.bs b o e).2 (I.ok.noex b o e)⟩
theorem Inv.bk(I:Inv X pins σ H s):∀b o,X.base.get? b=some o->s.heap.get? b=some o:=λb o e=>(I.bs b o e).1
theorem Inv.mod(I:Inv X pins σ H s):Mod X.K X.mg X.base:=I.ok.mod
theorem Inv.kIn(I:Inv X pins σ H s):X.K.In s.heap:=I.ok.mod.kin.keeps I.bk
theorem Inv.lt(I:Inv X pins σ H s):X.env.locals<s.heap.objs.size:=let ⟨_,hn,_⟩:=I.loc;hn.lt
theorem Inv.sz(I:Inv X pins σ H s):X.s₀.heap.objs.size<=s.heap.objs.size:=AS I.ok.above (Bm I.lt)
theorem Inv.nofs(I:Inv X pins σ H s){a:Addr}(h:s.heap.objs.size<=a):a ∉ X.fs:=λhb=>by obtain⟨_,o,ho,_⟩:=I.ok.funs.mem hb;exact absurd (AZ (AD ho) (AS I.sz h)) (CI _)
theorem Inv.cne(I:Inv X pins σ H s):∀x c,X.env.cells.lookup x=some c->c≠X.env.locals:=λx c e z=>by obtain⟨v,o,ho,hd⟩:=I.cell x c e;obtain⟨m,⟨o',es,ep,ho',hd',_⟩,_⟩:=I.loc;rw[z,ho']at ho;cases ho;rw[hd']at hd;cases hd
theorem Inv.funs(I:Inv X pins σ H s):s.heap.FunFrames X.base X.outer:=by
 have all:∀(l:List Env),(∀b∈frs l,b∈X.fs)->X.s₀.heap.FunFrames X.base l->s.heap.FunFrames X.base l:=by
  intro l
  induction l with
  |nil=>intro _ _;trivial
  |cons env r ih =>
   intro hs hl;obtain⟨hk,⟨L,o,hf,hn,ho,hd⟩,hr⟩:=hl;have hL:L∈X.fs:=hs L (by unfold frs;rw[CP,hf];exact Av);obtain⟨sl,e⟩:=I.base.slot L o ho (I.ok.frf L hL) hL λz=>I.ok.exfs L z hL
   exact⟨hk,⟨L,_,hf,hn,e,hd⟩,ih (λb hb=>hs b (by unfold frs;rw[CP,hf];exact As _ hb)) hr⟩
 exact all X.outer (λ_ hb=>hb) I.ok.funs
theorem Inv.stack(I:Inv X pins σ H s):s.heap.FunFrames X.base X.stack:=by
 rcases I.ok.stk with e |⟨e,hf⟩
 .rw[e];exact I.funs
 .rw[e];obtain⟨m,hn,_⟩:=I.loc;refine .cons (by rw[I.ok.kind];decide) hf hn ?_ I.funs;exact Heap.get?_none_of_le (AS I.ok.bsz I.ok.above)
theorem Inv.stkSub(I:Inv X pins σ H s):∀b∈frs X.stack,b∈X.env.locals::X.fs:=λb hb=>by
 rcases I.ok.stk with e |⟨e,hf⟩
 .rw[e]at hb;exact As _ hb
 .rw[e]at hb;unfold frs at hb;rw[CP,hf]at hb;exact hb
theorem Inv.stkFree(I:Inv X pins σ H s):∀b∈frs X.stack,H b=none:=λb hb=>by
 rcases AW.mp (I.stkSub b hb) with e |hb
 .rw[e];exact I.free
 .obtain⟨_,o,ho,_⟩:=I.ok.funs.mem hb;exact I.base.free b o ho (I.ok.frf b hb) λz=>I.ok.exfs b z hb
theorem Inv.step{g':Array GenState}{t':Nat}{d':Drawn}{ch:List Addr}(I:Inv X pins σ H s)
  (hch:∀b∈ch,(b∈X.ex∨X.s₀.heap.objs.size<=b)/\b≠X.env.locals/\(∀x c,X.env.cells.lookup x=some c->c≠b)/\∀p∈X.pn++pins,p.1≠b)
  (keep:∀b o,b≠X.env.locals->b ∉ X.fs->b ∉ ch->s.heap.get? b=some o->H b=none->h'.get? b=some o)
  (slot:∀b o,b≠X.env.locals->b∈X.fs->b ∉ ch->s.heap.get? b=some o->H b=none->∃sl,h'.get? b=some { o with slots:=sl }) (free:∀b o,b ∉ ch->s.heap.get? b=some o->H b=none->H' b=none)
  (there:∀b o,b ∉ ch->s.heap.get? b=some o->∃o',h'.get? b=some o')
  (tups:∀b xs,H b=some (.tup xs)->H' b=some (.tup xs)) (frzs:∀b o u,H b=some (.frz o u)->H' b=some (.frz o u)) (tbls:∀b ps,H b=some (.tbl ps)->∃more,H' b=some (.tbl (ps++more)))
  (ns:∀m,s.heap.Ns X.env.locals m->h'.Ns X.env.locals m) (hok:HOk X.prog X.w H' h') (hg:AllBare g') :
  Inv X pins σ H' { s with heap:=h',gens:=g',drawn:=d',toks:=t' }:=by
 have neL:∀b o,X.s₀.heap.get? b=some o->b≠X.env.locals:=λb o e=>A4 (AZ (AD e) I.ok.above)
 have neC:∀b o,X.s₀.heap.get? b=some o->b ∉ X.ex->b ∉ ch:=λb o e hx hb=>by
  rcases (hch b hb).1 with z |z
  .exact hx z
  .exact absurd (AZ (AD e) z) (CI _)
 have cellK:∀x c,X.env.cells.lookup x=some c->∀v,s.heap.IsCell c v->h'.IsCell c v:=λx c e v ⟨o,ho,hd⟩=>by
  have nch:c ∉ ch:=λz=>(hch c z).2.2.1 x c e rfl
  by_cases hc:c∈X.fs
  .obtain⟨sl,q⟩:=slot c o (I.cne x c e) hc nch ho (I.freeC x c e);exact⟨_,q,hd⟩
  .exact⟨o,keep c o (I.cne x c e) hc nch ho (I.freeC x c e),hd⟩
 refine⟨I.ok,I.os,hg,⟨λb o e n hb hx=>?_,λb o e n hb hx=>?_,λb o e n hx=>?_,λb o e hx=>?_,λb xs e=>tups b xs (I.base.tups b xs e),λb o xs e=>frzs b o xs (I.base.frzs b o xs e),λb ps e=>?_⟩,?_,λx c e=>?_,?_,λx c e=>?_,λp hp=>?_,hok,I.len⟩
 .exact keep b o (neL b o e) hb (neC b o e hx) (I.base.keep b o e n hb hx) (I.base.free b o e n hx)
 .obtain⟨sl,e1⟩:=I.base.slot b o e n hb hx;obtain⟨sl',e2⟩:=slot b _ (neL b o e) hb (neC b o e hx) e1 (I.base.free b o e n hx);exact⟨sl',e2⟩
 .obtain⟨o',e1⟩:=I.base.there b o e hx;exact free b o' (neC b o e hx) e1 (I.base.free b o e n hx)
 .obtain⟨o',e1⟩:=I.base.there b o e hx;exact there b o' (neC b o e hx) e1
 .obtain⟨m1,e1⟩:=I.base.tbls b ps e;obtain⟨m2,e2⟩:=tbls b _ e1;exact⟨m1++m2,by rw[e2,Array.append_assoc]⟩
 .obtain⟨m,hn,hl⟩:=I.loc;refine⟨m,ns m hn,λi x v e1 e2 e3=>?_⟩;obtain⟨u,r,l⟩:=hl i x v e1 e2 e3;refine⟨u,r,?_⟩;rcases l with l |⟨k,c,e,z⟩
  .exact .inl l
  .exact .inr ⟨k,c,e,cellK x c e _ z⟩
 .obtain⟨v,z⟩:=I.cell x c e;exact⟨v,cellK x c e v z⟩
 .obtain⟨m,⟨o,_,_,ho,_⟩,_⟩:=I.loc;exact free _ o (λz=>(hch _ z).2.1 rfl) ho I.free
 .obtain⟨v,o,ho,hd⟩:=I.cell x c e;exact free c o (λz=>(hch c z).2.2.1 x c e rfl) ho (I.freeC x c e)
 .obtain⟨e,n,ne,nf,d⟩:=I.pin p hp;have nch:p.1 ∉ ch:=λz=>(hch p.1 z).2.2.2 p hp rfl
  exact⟨keep p.1 p.2 ne nf nch e n,free p.1 p.2 nch e n,ne,nf,d⟩
theorem Inv.un{t':Nat}(I:Inv X pins σ H s)(u:Un X.fs [] H H' s.heap h')(hok:HOk X.prog X.w H' h'):Inv X pins σ H' { s with heap:=h',toks:=t' }:=by
 obtain⟨m,⟨o,es,ep,ho,r⟩,_⟩:=id I.loc;obtain⟨sl,hL⟩:=u.any ho I.free (by simp)
 exact I.step (g':=s.gens) (d':=s.drawn) (ch:=[]) (λ_ z=>nomatch z) (λb o _ hb _ e n=>u.keep b o e n hb (by simp)) (λb o _ hb _ e n=>u.slot b o e n hb (by simp)) (λb o _ e n=>u.free b o e n (by simp)) (λb o _ e=>u.there b o e (by simp)) u.tups u.frzs u.tbls (λm' hm=>by obtain⟨o',es',ep',ho',r'⟩:=hm;rw[ho]at ho';cases ho';exact⟨_,es',ep',hL,r'⟩) hok I.bare
theorem Inv.call{g':Array GenState}{t':Nat}{d':Drawn}{ch:List Addr}(I:Inv X pins σ H s)(u:Un (frs X.stack) ch H H' s.heap h')(hok:HOk X.prog X.w H' h')(hg:AllBare g')
  (hch:∀b∈ch,(b∈X.ex∨X.s₀.heap.objs.size<=b)/\b≠X.env.locals/\(∀x c,X.env.cells.lookup x=some c->c≠b)/\∀p∈X.pn++pins,p.1≠b) :
  Inv X pins σ H' { s with heap:=h',gens:=g',drawn:=d',toks:=t' }:=by
 obtain⟨m,⟨o,es,ep,ho,r⟩,_⟩:=id I.loc;obtain⟨sl,hL⟩:=u.any ho I.free λz=>(hch _ z).2.1 rfl
 exact I.step (ch:=ch) hch (λb o hL hb hc e n=>u.keep b o e n (λz=>(AW.mp (I.stkSub b z)).elim hL hb) hc) (λb o _ _ hc e n=>u.any e n hc) (λb o hc e n=>u.free b o e n hc) (λb o hc e=>u.there b o e hc) u.tups u.frzs u.tbls (λm' hm=>by obtain⟨o',es',ep',ho',r'⟩:=hm;rw[ho]at ho';cases ho';exact⟨_,es',ep',hL,r'⟩) hok hg
theorem Inv.turned{t':Nat}{it:Addr}(I:Inv X pins σ H s)(k:∀b o, b ≠ it -> s.heap.get? b=some o -> h'.get? b=some o)(hn:H it=none)(hL:it ≠ X.env.locals)
  (h1:it∈X.ex∨X.s₀.heap.objs.size<=it) (h2:∀x c,X.env.cells.lookup x=some c->c≠it) (h3:∀p∈X.pn++pins,p.1≠it):Inv X pins σ H { s with heap:=h',toks:=t' }:=by
 have nit:∀b u,H b=some u->b≠it:=λb u e z=>by rw[z,hn]at e;cases e
 refine I.step (g':=s.gens) (d':=s.drawn) (ch:=[it]) (λb hb=>?_) (λb o _ _ hc e _=>k b o (λz=>hc (by simp[z])) e) (λb o _ _ hc e _=>⟨o.slots,k b o (λz=>hc (by simp[z])) e⟩) (λ_ _ _ _ n=>n)
  (λb o hc e=>⟨o,k b o (λz=>hc (by simp[z])) e⟩) (λ_ _ e=>e) (λ_ _ _ e=>e) (λb ps e=>⟨#[],by rw[e];simp⟩) (λm hm=>?_) (λb u e=>?_) I.bare
 .have e:b=it:=by simpa using hb
  subst e;exact⟨h1,hL,h2,h3⟩
 .obtain⟨o,es,ep,ho,r⟩:=hm;exact⟨o,es,ep,k _ o (Cb hL) ho,r⟩
 .refine (I.hok b u e).stay (λc v hc q=>k c v ?_ q) (λ_ q=>q) λ_ _ q=>q
  rcases hc with z |z
  .rw[z];exact nit b u e
  .exact nit c _ z
theorem Inv.tok(I:Inv X pins σ H s)(t:Nat):Inv X pins σ H { s with toks:=t }:=I.un (h':=s.heap) (t':=t) Un.refl I.hok
theorem Inv.kept{t':Nat}(I:Inv X pins σ H s)(k:∀b u,s.heap.get? b=some u->h'.get? b=some u):Inv X pins σ H { s with heap:=h',toks:=t' }:=I.un (Un.kept k) (I.hok.kept k)
theorem Inv.laid{a:Addr}{o:HO}{t':Nat}(I:Inv X pins σ H s)(k:∀b u, s.heap.get? b=some u -> h'.get? b=some u)(hp:s.heap.objs.size <= a)(new:ObjOk X.prog X.w (upd H a o) h' a o) :
  Inv X pins σ (upd H a o) { s with heap:=h',toks:=t' }:=I.un (Un.laid k hp (I.hok.fresh hp)) (I.hok.laid k hp new)
theorem Inv.write{x e:Addr}{o:HO}{t':Nat}(I:Inv X pins σ H s)(mu:Mut (H x))(he:e=x ∨ H e=some (.own x))(k:∀b u, b ≠ e -> s.heap.get? b=some u -> h'.get? b=some u)(heo:∃u, h'.get? e=some u)
  (new:ObjOk X.prog X.w (upd H x o) h' x o):Inv X pins σ (upd H x o) { s with heap:=h',toks:=t' }:=I.un (Un.write mu he k heo) (I.hok.write mu he k heo new)
theorem Inv.pins_of{pins':List (Addr×Obj)}(I:Inv X pins σ H s)(h:∀p∈pins',s.heap.get? p.1=some p.2/\H p.1=none/\p.1≠X.env.locals/\p.1 ∉ X.fs/\∀v,p.2.data≠.cell v):Inv X pins' σ H s :=
 ⟨I.ok,I.os,I.bare,I.base,I.loc,I.cell,I.free,I.freeC,λp hp=>(AT.mp hp).elim (λz=>I.pin p (Ce _ z)) (h p),I.hok,I.len⟩
theorem zht{N:List Str}(hN:N.Nodup){i j:Nat}{x:Str}(a:N[i]?=some x)(b:N[j]?=some x):i=j:=by obtain⟨h1,e1⟩:=Ae.mp a;obtain⟨h2,e2⟩:=Ae.mp b;exact (List.getElem_inj hN).mp (e1.trans e2.symm)
theorem zdD{M:Model}{A:AQ}{E:Ab -> Ac -> Prop}{i:Nat}{x:Str}{v:V}{u:Ab}{Q:Unit -> Ac -> Prop}(I:Inv X pins σ H s)(hN:X.N.Nodup)(hi:X.N[i]? = some x)(hx:Loc X.env.scope x)(r:RelV v u)
  (h:∀s',Inv X pins (σ.set i (some v)) H s'->(∃a,CV a s.heap s'.heap/\(a=X.env.locals∨X.env.cells.lookup x=some a))->Q () s') (hf:X.fn x=true∨X.env.scope.names.lookup x=some .local:=by first |exact .inl rfl |exact .inr rfl |assumption):Aw M A (storeName X.env x u) Q E s:=by
 obtain⟨m,hn,hl⟩:=id I.loc;have hcls:(X.env.scope.kind == .class || (X.env.scope.kind == .module && X.env.locals != X.env.globals))=false:=by rw[I.ok.kind];rfl
 have hiσ:i<σ.length:=by rw[I.len];exact (Ae.mp hi).1
 have cne:=I.cne
 have tracked:∀{a:Addr} {h':Heap},(∃o,s.heap.get? a=some o/\H a=none)->CV a s.heap h'->HOk X.prog X.w H h':=λ{a h'} ha hs b ob e=>by
  obtain⟨_,_,hfree⟩:=ha;refine (I.hok b ob e).stay (λc w' hc q=>(hs.2 c ?_).trans q) (λ_ q=>q) λ_ _ q=>q
  rintro rfl;rcases hc with rfl |hc
  .rw[hfree]at e;cases e
  .rw[hfree]at hc;cases hc
 rcases hx with hk |hk
 .refine wpAny_storeName_local hk hn (λh' hn' hs=>?_) hcls;obtain⟨oL,_,_,hoL,_⟩:=id hn;refine h _ ⟨I.ok,I.os,I.bare,⟨λb o e n hb hx=>?_,λb o e n hb hx=>?_,I.base.free,λb o e hx=>?_,I.base.tups,I.base.frzs,I.base.tbls⟩,⟨_,hn',λj y v' e1 e2 e3=>?_⟩,λy c e=>?_,I.free,I.freeC,λp hp=>?_,tracked ⟨oL,hoL,I.free⟩ hs,by simpa using I.len⟩ ⟨_,hs,.inl rfl⟩
  .exact (hs.2 b (A4 (AZ (AD e) I.ok.above))).trans (I.base.keep b o e n hb hx)
  .obtain⟨sl,e1⟩:=I.base.slot b o e n hb hx;exact⟨sl,(hs.2 b (A4 (AZ (AD e) I.ok.above))).trans e1⟩
  .obtain⟨o',e1⟩:=I.base.there b o e hx;exact⟨o',(hs.2 b (A4 (AZ (AD e) I.ok.above))).trans e1⟩
  .by_cases hj:j=i
   .subst hj;rw[hi]at e1;cases e1;rw[List.getElem?_set_self hiσ]at e2
    cases e2
    exact⟨u,r,.inl ⟨hk,by simp⟩⟩
   .rw[List.getElem?_set_ne (Cb hj)]at e2;obtain⟨u',r',q⟩:=hl j y v' e1 e2 e3;refine⟨u',r',?_⟩;rcases q with⟨k,e⟩ |⟨k,c,e,z⟩
    .refine .inl ⟨k,?_⟩;have:y≠x:=λe=>hj (zht hN e1 (e ▸ hi))
     simp[this,e]
    .exact .inr ⟨k,c,e,z.sameBut hs (cne y c e)⟩
  .obtain⟨w',z⟩:=I.cell y c e;exact⟨w',z.sameBut hs (cne y c e)⟩
  .obtain⟨e,n,ne,nf,d⟩:=I.pin p hp;exact⟨(hs.2 p.1 ne).trans e,n,ne,nf,d⟩
 .have hfn:X.fn x=true := by
   rcases hf with z |z
   .exact z
   .rw[z]at hk;cases hk
  obtain⟨c,hc⟩:=I.ok.has x (.inl hk);obtain⟨w',z⟩:=I.cell x c hc;refine wpAny_storeName_cell I.ok.kind hk hc z (λh' hc' hs=>?_);obtain⟨oc,hoc,hocd⟩:=id z;refine h { s with heap:=h' } ⟨I.ok,I.os,I.bare,⟨λb o e n hb hx=>?_,λb o e n hb hx=>?_,I.base.free,λb o e hx=>?_,I.base.tups,I.base.frzs,I.base.tbls⟩,⟨m,hn.sameBut hs (Cb (cne x c hc)),λj y v' e1 e2 e3=>?_⟩,λy c' e=>?_,I.free,I.freeC,λp hp=>?_,tracked ⟨oc,hoc,I.freeC x c hc⟩ hs,by simpa using I.len⟩ ⟨c,hs,.inr hc⟩
  .exact (hs.2 b (A4 (AZ (AD e) (I.ok.cab x c hfn hc)))).trans (I.base.keep b o e n hb hx)
  .obtain⟨sl,e1⟩:=I.base.slot b o e n hb hx;exact⟨sl,(hs.2 b (A4 (AZ (AD e) (I.ok.cab x c hfn hc)))).trans e1⟩
  .obtain⟨o',e1⟩:=I.base.there b o e hx;exact⟨o',(hs.2 b (A4 (AZ (AD e) (I.ok.cab x c hfn hc)))).trans e1⟩
  .by_cases hj:j=i
   .subst hj;rw[hi]at e1;cases e1;rw[List.getElem?_set_self hiσ]at e2
    cases e2
    exact⟨u,r,.inr ⟨.inl hk,c,hc,hc'⟩⟩
   .rw[List.getElem?_set_ne (Cb hj)]at e2;obtain⟨u',r',q⟩:=hl j y v' e1 e2 e3;refine⟨u',r',?_⟩;rcases q with q |⟨k,c',e,z'⟩
    .exact .inl q
    .refine .inr ⟨k,c',e,z'.sameBut hs ?_⟩;rintro rfl;exact hj (zht hN e1 (I.ok.inj _ _ _ e hc ▸ hi))
  .by_cases hcc:c'=c
   .subst hcc;exact⟨_,hc'⟩
   .obtain⟨w2,z2⟩:=I.cell y c' e;exact⟨w2,z2.sameBut hs hcc⟩
  .obtain⟨e,n,ne,nf,d⟩:=I.pin p hp;refine⟨(hs.2 p.1 ?_).trans e,n,ne,nf,d⟩;intro q;rw[q,hoc]at e;have q':oc=p.2:=AJ e;exact d w' (by rw[<- q'];exact hocd)
theorem ze3{M:Model}{A:AQ}{E:Ab -> Ac -> Prop}{i:Nat}{x:Str}{v:V}{u:Ab}{Q:Unit -> Ac -> Prop}(I:Inv X pins σ H s)(hN:X.N.Nodup)(hi:X.N[i]? = some x)(hx:Loc X.env.scope x)(r:RelV v u)
  (h:∀s',Inv X pins (σ.set i (some v)) H s'->Q () s') (hf:X.fn x=true∨X.env.scope.names.lookup x=some .local:=by first |exact .inl rfl |exact .inr rfl |assumption):Aw M A (storeName X.env x u) Q E s :=
 zdD I hN hi hx r (λs' I' _=>h s' I') hf
theorem Inv.call'{s':Ac}{ch:List Addr}(I:Inv X pins σ H s)(ho:s'.os=s.os)(u:Un (frs X.stack) ch H H' s.heap s'.heap)(hok:HOk X.prog X.w H' s'.heap)(hg:AllBare s'.gens)
  (hch:∀b∈ch,(b∈X.ex∨X.s₀.heap.objs.size<=b)/\b≠X.env.locals/\(∀x c,X.env.cells.lookup x=some c->c≠b)/\∀p∈X.pn++pins,p.1≠b):Inv X pins σ H' s':=by
 obtain⟨h',g',d',t',o'⟩:=s';have e:o'=s.os:=ho;subst e;exact I.call (g':=g') (t':=t') (d':=d') u hok hg hch
end
noncomputable abbrev XK:=Ab->Option Addr->Hp->Prop
noncomputable abbrev St:=List (Option V)
noncomputable abbrev VK:=V->Hp->Prop
noncomputable abbrev TE:=St->Hp->VK->Prop
noncomputable abbrev TT:=St->Hp->(Bool->Hp->Prop)->Prop
noncomputable abbrev TA:=St->Hp->(List V->Hp->Prop)->Prop
structure Ends where
 nx:St->Hp->Prop
 rt:VK
 bk:St->Hp->Prop:=λ_ _=>False
 ct:St->Hp->Prop:=λ_ _=>False
noncomputable abbrev TS:=Ends->St->Hp->Prop
noncomputable def EP(X:Cx)(pins:List (Addr×Obj))(σ:St)(Q:VK)(u:Ab)(s':Ac):Prop:=∃v H',Inv X pins σ H' s'/\RelV v u/\Q v H'
noncomputable def TP(X:Cx)(pins:List (Addr×Obj))(σ:St)(Q:Bool->Hp->Prop)(b:Bool)(s':Ac):Prop:=∃H',Inv X pins σ H' s'/\Q b H'
noncomputable def AP(X:Cx)(pins:List (Addr×Obj))(σ:St)(Q:List V->Hp->Prop)(us:List Ab)(s':Ac):Prop:=∃vs H',Inv X pins σ H' s'/\Vals vs us/\Q vs H'
noncomputable def SP(X:Cx)(pins:List (Addr×Obj))(D:Ends)(f:Flow)(s':Ac):Prop :=
 match f with
 |.next=>∃ σ' H',Inv X pins σ' H' s'/\D.nx σ' H'
 |.brk=>∃ σ' H',Inv X pins σ' H' s'/\D.bk σ' H'
 |.cont=>∃ σ' H',Inv X pins σ' H' s'/\D.ct σ' H'
 |.ret u=>∃v σ' H',Inv X pins σ' H' s'/\RelV v u/\D.rt v H'
noncomputable def PE(X:Cx)(e:Expr)(t:TE):Prop :=
 ∀(pins:List (Addr×Obj)) (s:Ac) (σ:St) (H:Hp) (Q:VK),Inv X pins σ H s->t σ H Q->Aw (Az X.prog X.w) X.A (eval e X.env) (EP X pins σ Q) X.xe s
noncomputable def PT(X:Cx)(e:Expr)(t:TT):Prop :=
 ∀(pins:List (Addr×Obj)) (s:Ac) (σ:St) (H:Hp) (Q:Bool->Hp->Prop),Inv X pins σ H s->t σ H Q->Aw (Az X.prog X.w) X.A (isTrue e X.env (eval e X.env)) (TP X pins σ Q) X.xe s
noncomputable def PW(X:Cx)(e:Expr)(t:TT):Prop :=
 ∀(whole:Sem Ab) (pins:List (Addr×Obj)) (s:Ac) (σ:St) (H:Hp) (Q:Bool->Hp->Prop),Inv X pins σ H s->t σ H Q->Aw (Az X.prog X.w) X.A (isTrue e X.env whole) (TP X pins σ Q) X.xe s
theorem PW.pt{X:Cx}{e:Expr}{t:TT}(h:PW X e t):PT X e t:=h _
noncomputable def PA(X:Cx)(es:List Expr)(t:TA):Prop :=
 ∀(pos:Pos) (pins:List (Addr×Obj)) (s:Ac) (σ:St) (H:Hp) (Q:List V->Hp->Prop),Inv X pins σ H s->t σ H Q->Aw (Az X.prog X.w) X.A (spliced (backTo pos (Bq es X.env))) (AP X pins σ Q) X.xe s
noncomputable def PS(X:Cx)(st:Stmt)(t:TS):Prop :=
 ∀(pins:List (Addr×Obj)) (s:Ac) (σ:St) (H:Hp) (D:Ends),Inv X pins σ H s->t D σ H->Aw (Az X.prog X.w) X.A (exec st X.env) (SP X pins D) X.xe s
noncomputable def PSs(X:Cx)(st:List Stmt)(t:TS):Prop :=
 ∀(pins:List (Addr×Obj)) (s:Ac) (σ:St) (H:Hp) (D:Ends),Inv X pins σ H s->t D σ H->Aw (Az X.prog X.w) X.A (execs st X.env) (SP X pins D) X.xe s
theorem thn{α:Type}{t:Sem α}{Q Q':α->Ac->Prop}{M:Model}{A:AQ}{E:Ab->Ac->Prop}{s:Ac}(h:Aw M A t Q E s)(hQ:∀a s,Q a s->Q' a s):Aw M A t Q' E s:=By h hQ λ_ _ x=>x
section
variable {X:Cx}
noncomputable def tVar(i:Nat):TE:=λσ H Q=>∃v,σ[i]?=some (some v)/\Q v H
noncomputable def tC(v:V):TE:=λ_ H Q=>Q v H
theorem zlz {i:Nat}{x:Str}{pos:Pos}(hN:X.N[i]?=some x) (hv:Vis X.env.scope x) (hd:(x == ("__debug__" : Str))=false:=by decide) (hcd:(x == ("__classdict__" : Str))=false:=by decide):PE X (.Name x pos) (tVar i):=by
 intro pins s σ H Q I h;obtain⟨v,e,h⟩:=h;obtain⟨m,hn,hl⟩:=I.loc;obtain⟨u,r,l⟩:=hl i x v hN e hv;have fin:EP X pins σ Q u s:=⟨v,H,I,r,h⟩;rcases l with⟨hk,hm⟩ |⟨hk,c,hc,hcell⟩
 .exact wpAny_Name (wpAny_loadName_local I.ok.kind hk hn hm fin) hd
 .rcases hk with hk |hk
  .exact wpAny_Name (wpAny_loadName_cell I.ok.kind hk hc hcell fin) hd
  .exact wpAny_Name (wpAny_loadName_free I.ok.kind hk hc hcell fin hcd) hd
theorem zad{i j pos}:PE X (.Constant (.int i) j pos) (tC (.int i)):=λ_ _ _ H _ I h=>wpAny_Constant_int ⟨.int i,H,I.tok _,⟨_,rfl⟩,h⟩
theorem pe_bl{b j pos}:PE X (.Constant (.bool b) j pos) (tC (.bl b)):=λ_ _ _ H _ I h=>Constant_bool ⟨.bl b,H,I,rfl,h⟩
theorem zcr{j pos}:PE X (.Constant .none j pos) (tC .non):=λ_ _ _ H _ I h=>Constant_none ⟨.non,H,I,rfl,h⟩
theorem zcV{x j pos}:PE X (.Constant (.str x) j pos) (tC (.str x)):=λ_ _ _ H _ I h=>Calls.Constant_str ⟨.str x,H,I.tok _,⟨_,rfl⟩,h⟩
noncomputable def Gl(X:Cx)(x:Str):Prop:=X.env.kindOf x=some .globalImplicit
theorem ziW{E:Ab -> Ac -> Prop}{pins:List (Addr × Obj)}{s:Ac}{σ : St}{H:Hp}{x:Str}{u:Ab}{pos:Pos}{Q:Ab -> Ac -> Prop}(I:Inv X pins σ H s)(hg:Gl X x)(hm:X.mg x=some u)(h:Q u s)
  (hd:(x == ("__debug__" : Str))=false:=by decide):Aw (Az X.prog X.w) X.A (eval (.Name x pos) X.env) Q E s :=
 Calls.Name_function_global I.ok.kind hg (Calls.loadGlobal_global (by rw[I.ok.glob];exact I.mod.glob.keeps I.bk) hm h) hd
theorem zd5{E:Ab -> Ac -> Prop}{pins:List (Addr × Obj)}{s:Ac}{σ : St}{H:Hp}{x:Str}{u:Ab}{pos:Pos}{Q:Ab -> Ac -> Prop}(I:Inv X pins σ H s)(hg:Gl X x)(hm:X.mg x=none)(hv:bootBuiltins x=some u)(h:Q u s)
  (hn:x ≠ "__name__":=by decide) (hd:(x == ("__debug__" : Str))=false:=by decide):Aw (Az X.prog X.w) X.A (eval (.Name x pos) X.env) Q E s:=by
 obtain⟨mb,h1,h2⟩:=I.mod.blt;exact Calls.Name_function_global I.ok.kind hg (Calls.loadGlobal_builtin (by rw[I.ok.glob];exact I.mod.glob.keeps I.bk) hm (by rw[I.ok.blt];exact h1.keeps I.bk) ((h2 x hn).trans hv) h) hd
theorem zdb {x:Str}{v:V}{u:Ab}{pos:Pos}(hg:Gl X x) (hm:X.mg x=some u) (r:RelV v u) (hd:(x == ("__debug__" : Str))=false:=by decide):PE X (.Name x pos) (tC v) :=
 λ_ _ _ H _ I h=>ziW I hg hm ⟨v,H,I,r,h⟩ hd
theorem zdW {x:Str}{v:V}{u:Ab}{pos:Pos}(hg:Gl X x) (hm:X.mg x=none) (hv:bootBuiltins x=some u) (r:RelV v u) (hn:x ≠ "__name__":=by decide) (hd:(x == ("__debug__" : Str))=false:=by decide):PE X (.Name x pos) (tC v) :=
 λ_ _ _ H _ I h=>zd5 I hg hm hv ⟨v,H,I,r,h⟩ hn hd
variable {a b:Expr}{ta tb:TE}{pos:Pos}
noncomputable def PC(X:Cx)(op:CmpOp)(a b:Expr)(t:TE):Prop :=
 ∀(pins:List (Addr×Obj)) (s:Ac) (σ:St) (H:Hp) (Q:VK),Inv X pins σ H s->t σ H Q ->
  Aw (Az X.prog X.w) X.A (eval a X.env) (λv s₁=>Aw (Az X.prog X.w) X.A (eval b X.env) (λu s₂=>Aw (Az X.prog X.w) X.A (BH op v u) (EP X pins σ Q) X.xe s₂) X.xe s₁) X.xe s
noncomputable def tB(t:TE):TT:=λσ H Q=>t σ H λx H1=>∃c,x=.bl c/\Q c H1
theorem ziC{op:CmpOp}{t:TE}(h:PC X op a b t)(h1:behindInMarks op b=false:=by first |exact nobehind _ (by decide) (by decide) |rfl):PT X (.Compare a [op] [b] pos) (tB t):=by
 intro pins s σ H Q I hw;refine wpAny_isTrue_Compare1 (thn (h pins s σ H _ I hw) λv s1 h1=>thn h1 λu s2 h2=>thn h2 λc s3 ⟨x,H1,I1,r1,q1⟩=>?_) h1;obtain⟨d,rfl,q⟩:=q1
 cases r1
 exact BQ ⟨H1,I1,q⟩
theorem zcF{e:Expr}{t:TE}(h:PE X e t)(he:∀whole,isTrue e X.env whole=(do let v <- whole;standAt e.pos;Dw [v] (truthy v)):=by intro _;rfl):PT X e (tB t):=by
 intro pins s σ H Q I hw;refine isTrue_plain (thn (h pins s σ H _ I hw) λv s1 ⟨x,H1,I1,r1,q1⟩=>?_) (he _);obtain⟨d,rfl,q⟩:=q1
 cases r1
 exact BQ ⟨H1,I1,q⟩
variable {tA tB':TT}{rest:List Expr}
noncomputable def tOr(t u:TT):TT:=λσ H Q=>t σ H λc H1=>if c=true then Q true H1 else u σ H1 Q
noncomputable def tNot(t:TT):TT:=λσ H Q=>t σ H λc H1=>Q (!c) H1
theorem zhk(ha:PT X a tA):PW X (.BoolOp .Or [a] pos) tA:=by
 intro wh pins s σ H Q I h;refine isTrue_or (thn (ha pins s σ H Q I h) λc s1 e=>?_)
 cases c with
 |false=>exact isTrue_or_nil e
 |true=>exact e
theorem pw_or(ha:PT X a tA)(hb:PW X (.BoolOp .Or (b::rest) pos) tB'):PW X (.BoolOp .Or (a::b::rest) pos) (tOr tA tB'):=by
 intro wh pins s σ H Q I h;refine isTrue_or (thn (ha pins s σ H _ I h) λc s1 ⟨H1,I1,q1⟩=>?_)
 cases c with
 |true=>exact⟨H1,I1,q1⟩
 |false=>exact hb wh pins s1 σ H1 Q I1 q1
theorem zdV(ha:PT X a tA):PT X (.UnaryOp .Not a pos) (tNot tA):=by intro pins s σ H Q I h;exact isTrue_not (ha pins s σ H (λc H1=>Q (!c) H1) I h)
noncomputable def tAndV(ta tb:TE):TE:=λσ H Q=>ta σ H λx H1=>∃c,x=.bl c/\if c=true then tb σ H1 Q else Q (.bl false) H1
noncomputable def tOrV(ta tb:TE):TE:=λσ H Q=>ta σ H λx H1=>∃c,x=.bl c/\if c=true then Q (.bl true) H1 else tb σ H1 Q
noncomputable def tNotV(ta:TE):TE:=λσ H Q=>ta σ H λx H1=>∃c,x=.bl c/\Q (.bl (!c)) H1
theorem zf3{op}{t:TE}(h:PE X a t):PE X (.BoolOp op [a] pos) t:=λpins s σ H Q I hw=>BoolOp_one (h pins s σ H Q I hw)
theorem zhp(ha:PE X a ta)(hb:PE X (.BoolOp .And (b::rest) pos) tb):PE X (.BoolOp .And (a::b::rest) pos) (tAndV ta tb):=by
 intro pins s σ H Q I h;refine BoolOp_and (thn (ha pins s σ H _ I h) λv s1 ⟨x,H1,I1,r1,q1⟩=>?_);obtain⟨c,rfl,q1⟩:=q1
 cases r1
 refine BQ ?_
 cases c with
 |true=>exact hb pins s1 σ H1 Q I1 q1
 |false=>exact⟨.bl false,H1,I1,rfl,q1⟩
theorem pe_or(ha:PE X a ta)(hb:PE X (.BoolOp .Or (b::rest) pos) tb):PE X (.BoolOp .Or (a::b::rest) pos) (tOrV ta tb):=by
 intro pins s σ H Q I h;refine BoolOp_or (thn (ha pins s σ H _ I h) λv s1 ⟨x,H1,I1,r1,q1⟩=>?_);obtain⟨c,rfl,q1⟩:=q1
 cases r1
 refine BQ ?_
 cases c with
 |false=>exact hb pins s1 σ H1 Q I1 q1
 |true=>exact⟨.bl true,H1,I1,rfl,q1⟩
theorem zlB(ha:PE X a ta):PE X (.UnaryOp .Not a pos) (tNotV ta):=by
 intro pins s σ H Q I h;refine UnaryOp_ (thn (ha pins s σ H _ I h) λv s1 ⟨x,H1,I1,r1,q1⟩=>?_);obtain⟨c,rfl,q1⟩:=q1
 cases r1
 exact not_of (BQ ⟨.bl (!c),H1,I1,rfl,q1⟩)
noncomputable def tIf(t:TT)(ta tb:TE):TE:=λσ H Q=>t σ H λc H1=>if c=true then ta σ H1 Q else tb σ H1 Q
theorem zfg{c:Expr}(hc:PT X c tA)(ha:PE X a ta)(hb:PE X b tb):PE X (.IfExp c a b pos) (tIf tA ta tb):=by
 intro pins s σ H Q I h;refine wpAny_IfExp (thn (hc pins s σ H _ I h) λd s1 ⟨H1,I1,q1⟩=>?_)
 cases d with
 |true=>exact ha pins s1 σ H1 Q I1 q1
 |false=>exact hb pins s1 σ H1 Q I1 q1
end
noncomputable def SqL(K:W.Frag)(H:Hp)(a:Addr)(xs:List V):Prop :=
 Rd H a (.lst xs) ∨
  ∃(o:Obj) (its:Array Ab) (n:Nat),K.lookup a=some o/\o.cls=.type "list" /\ o.dict=none/\o.data=.seq its n/\its.size<=sizeLine/\Vals xs its.toList
noncomputable def SqT(K:W.Frag)(H:Hp)(a:Addr)(xs:List V):Prop :=
 Rd H a (.tup xs) ∨
  ∃(o:Obj) (its:Array Ab) (n:Nat),K.lookup a=some o/\o.cls=.type "tuple" /\ o.data=.seq its n/\its.size<=sizeLine/\Vals xs its.toList
noncomputable def absV:Ab->Option V
 |.none=>some .non
 |.bool b=>some (.bl b)
 |.int i _=>some (.int i)
 |.str x _=>some (.str x)
 |.bytes b _=>some (.byt b)
 |.float b _=>some (.flt b)
 |.ref a=>some (.ref a)
 |.type n=>some (.ty n)
 |_=>none
theorem RelV.abs{x:V}{u:Ab}(r:RelV x u):absV u=some x:=by
 cases x with
 |non=>cases r;rfl
 |bl _=>cases r;rfl
 |int _=>obtain⟨t,rfl⟩:=r;rfl
 |str _=>obtain⟨t,rfl⟩:=r;rfl
 |byt _=>obtain⟨t,rfl⟩:=r;rfl
 |flt _=>obtain⟨t,rfl⟩:=r;rfl
 |ref _=>cases r;rfl
 |ty _=>cases r;rfl
theorem RelV.inj{x y:V}{u:Ab}(r:RelV x u)(q:RelV y u):x=y:=AJ (r.abs.symm.trans q.abs)
theorem Vals.inj:∀{xs ys:List V}{us:List Ab},Vals xs us->Vals ys us->xs=ys
 |_,_,_,.nil,.nil=>rfl
 |_,_,_,.cons r t,.cons r' t'=>by rw[r.inj r',Vals.inj t t']
section
variable {X:Cx}{pins:List (Addr×Obj)}{σ:St}{H:Hp}{s:Ac}{a:Addr}{xs ys:List V}
theorem SqL.of{K:W.Frag}(h:H a=some (.lst xs)):SqL K H a xs:=.inl (.inl h)
theorem SqT.of{K:W.Frag}(h:H a=some (.tup xs)):SqT K H a xs:=.inl (.inl h)
theorem Inv.list(I:Inv X pins σ H s)(h:SqL X.K H a xs):∃its:List Ab,Vals xs its/\PlainL s.heap a its.toArray/\xs.length<=sizeLine:=by
 rcases h with h |⟨o,its,n,hk,hc,hd,hs,hz,r⟩
 .obtain⟨z,its,n,r,e⟩:=h.ok I.hok;exact⟨its,r,⟨_,n,e,rfl,rfl,rfl⟩,z⟩
 .refine⟨its.toList,r,⟨o,n,I.kIn a o hk,hc,hd,by simpa using hs⟩,?_⟩;have e:=r.length;simp only[AC]at e;lia
theorem Inv.tuple(I:Inv X pins σ H s)(h:SqT X.K H a xs):∃its:List Ab,Vals xs its/\IsTup s.heap a its.toArray/\xs.length<=sizeLine:=by
 rcases h with h |⟨o,its,n,hk,hc,hs,hz,r⟩
 .obtain⟨z,its,r,p⟩:=h.ok I.hok;exact⟨its,r,p,z⟩
 .refine⟨its.toList,r,⟨o,I.kIn a o hk,hc,n,by simpa using hs⟩,?_⟩;have e:=r.length;simp only[AC]at e;lia
theorem Inv.list_inj(I:Inv X pins σ H s)(h:SqL X.K H a xs)(h':SqL X.K H a ys):xs=ys:=by
 obtain⟨its,r,⟨o,n,e,_,_,d⟩,_⟩:=I.list h;obtain⟨its',r',⟨o',n',e',_,_,d'⟩,_⟩:=I.list h';rw[e]at e';cases e';rw[d]at d';injection d' with d1 _;have:its=its':=by simpa using congrArg Array.toList d1
 subst this;exact r.inj r'
theorem Inv.tuple_inj(I:Inv X pins σ H s)(h:SqT X.K H a xs)(h':SqT X.K H a ys):xs=ys:=by
 obtain⟨its,r,⟨o,e,_,n,d⟩,_⟩:=I.tuple h;obtain⟨its',r',⟨o',e',_,n',d'⟩,_⟩:=I.tuple h';rw[e]at e';cases e';rw[d]at d';injection d' with d1 _;have:its=its':=by simpa using congrArg Array.toList d1
 subst this;exact r.inj r'
end
noncomputable abbrev Cx.wish(X:Cx)(E:Ab->Ac->Prop):Cx:={ X with xe:=E }
noncomputable abbrev Cx.nox(X:Cx):Cx:=X.wish λ_ _=>False
theorem Cx.Ok.wish{X:Cx}(ok:X.Ok)(E:Ab->Ac->Prop):(X.wish E).Ok :=
 ⟨ok.mod,ok.kind,ok.glob,ok.blt,ok.above,ok.inj,ok.has,ok.cab,ok.hd,ok.frames,ok.stk,ok.exf,ok.bs,ok.bsz,ok.noex,ok.exfs,ok.funs,ok.frf⟩
theorem Cx.Ok.unwish{X:Cx}{E:Ab->Ac->Prop}(ok:(X.wish E).Ok):X.Ok :=
 ⟨ok.mod,ok.kind,ok.glob,ok.blt,ok.above,ok.inj,ok.has,ok.cab,ok.hd,ok.frames,ok.stk,ok.exf,ok.bs,ok.bsz,ok.noex,ok.exfs,ok.funs,ok.frf⟩
section
variable {X:Cx}{pins:List (Addr×Obj)}{σ:St}{H:Hp}{s:Ac}{E:Ab->Ac->Prop}
theorem Inv.wish(I:Inv X pins σ H s)(E:Ab->Ac->Prop):Inv (X.wish E) pins σ H s:=⟨I.ok.wish E,I.os,I.bare,I.base,I.loc,I.cell,I.free,I.freeC,I.pin,I.hok,I.len⟩
theorem Inv.unwish(I:Inv (X.wish E) pins σ H s):Inv X pins σ H s:=⟨I.ok.unwish,I.os,I.bare,I.base,I.loc,I.cell,I.free,I.freeC,I.pin,I.hok,I.len⟩
theorem SP.unwish{D:Ends}{f:Flow}{s':Ac}(h:SP (X.wish E) pins D f s'):SP X pins D f s':=by
 cases f with
 |next=>obtain⟨σ',H',I,q⟩:=h;exact⟨σ',H',I.unwish,q⟩
 |brk=>obtain⟨σ',H',I,q⟩:=h;exact⟨σ',H',I.unwish,q⟩
 |cont=>obtain⟨σ',H',I,q⟩:=h;exact⟨σ',H',I.unwish,q⟩
 |ret u=>obtain⟨v,σ',H',I,r,q⟩:=h;exact⟨v,σ',H',I.unwish,r,q⟩
theorem PSs.nox{st:List Stmt}{t:TS}(h:PSs X.nox st t):PSs X st t:=λpins s σ H D I hw =>
 By (h pins s σ H D (I.wish _) hw) (λ_ _ q=>q.unwish) λ_ _ z=>BD z
end
section
variable {X:Cx}{st:Stmt}{rest:List Stmt}{t u:TS}{e:Expr}{te:TE}{pos:Pos}
noncomputable def tNext:TS:=λD σ H=>D.nx σ H
noncomputable def tSeq(t u:TS):TS:=λD σ H=>t { D with nx:=u D } σ H
theorem zaw:PSs X [] tNext:=λ_ _ σ H _ I h=>wpAny_execs_nil ⟨σ,H,I,h⟩
theorem zab(h1:PS X st t)(h2:PSs X rest u):PSs X (st::rest) (tSeq t u):=by
 intro pins s σ H D I h;refine wpAny_execs_cons (thn (h1 pins s σ H { D with nx:=u D } I h) λf s1 q=>?_)
 cases f with
 |next =>
  obtain⟨σ',H',I',q⟩:=q;exact h2 pins s1 σ' H' D I' q
 |ret v=>exact q
 |brk=>exact q
 |cont=>exact q
theorem zaf(h1:PS X st t):PSs X [st] t:=by
 intro pins s σ H D I h;refine wpAny_execs_cons (thn (h1 pins s σ H D I h) λf s1 q=>?_)
 cases f with
 |next=>exact wpAny_execs_nil q
 |ret v=>exact q
 |brk=>exact q
 |cont=>exact q
theorem Inv.quiet{pins:List (Addr×Obj)}{σ:St}{H:Hp}{s:Ac}(I:Inv X pins σ H s):interactive X.env=false:=by simp[interactive,I.ok.kind]
noncomputable def tDrop(te:TE):TS:=λD σ H=>te σ H λ_ H1=>D.nx σ H1
theorem zbv(he:PE X e te)(hs:swapsWith e none pos.line X.env=pure false:=by rfl):PS X (.Expr e pos) (tDrop te):=by intro pins s σ H D I h;exact wpAny_Expr_any (thn (he pins s σ H _ I h) λv s1 ⟨x,H1,I1,r1,q1⟩=>⟨σ,H1,I1,q1⟩) I.quiet hs
noncomputable def tRet(te:TE):TS:=λD σ H=>te σ H D.rt
theorem zaj(he:PE X e te):PS X (.Return (some e) pos) (tRet te):=by intro pins s σ H D I h;exact wpAny_Return_some (thn (he pins s σ H _ I h) λv s1 ⟨x,H1,I1,r1,q1⟩=>⟨x,σ,H1,I1,r1,q1⟩)
noncomputable def tIfS(c:TT)(t u:TS):TS:=λD σ H=>c σ H λb H1=>if b=true then t D σ H1 else u D σ H1
theorem ps_if{c:Expr}{a b:List Stmt}{tc:TT}(hc:PT X c tc)(ha:PSs X a t)(hb:PSs X b u):PS X (.If c a b pos) (tIfS tc t u):=by
 intro pins s σ H D I h;refine wpAny_If (thn (hc pins s σ H _ I h) λd s1 ⟨H1,I1,q1⟩=>?_)
 cases d with
 |true=>exact ha pins s1 σ H1 D I1 q1
 |false=>exact hb pins s1 σ H1 D I1 q1
noncomputable def zlj:TS:=λ_ _ _=>False
theorem zff:PS X st zlj:=λ_ _ _ _ _ _ h=>h.elim
end
noncomputable abbrev TG:=V->St->Hp->(St->Hp->Prop)->Prop
noncomputable abbrev TGs:=List V->St->Hp->(St->Hp->Prop)->Prop
noncomputable def PG(X:Cx)(target:Expr)(t:TG):Prop :=
 ∀(pins:List (Addr×Obj)) (s:Ac) (σ:St) (H:Hp) (v:V) (u:Ab) (Q:St->Hp->Prop),Inv X pins σ H s->RelV v u->t v σ H Q ->
  Aw (Az X.prog X.w) X.A (assign target X.env u) (λ_ s'=>∃ σ' H',Inv X pins σ' H' s'/\Q σ' H') X.xe s
noncomputable def PGs(X:Cx)(ts:List Expr)(t:TGs):Prop :=
 ∀(pins:List (Addr×Obj)) (s:Ac) (σ:St) (H:Hp) (vs:List V) (us:List Ab) (Q:St->Hp->Prop),Inv X pins σ H s->Vals vs us->t vs σ H Q ->
  Aw (Az X.prog X.w) X.A (assignInOrder ((DB ts X.env).map (·.2)) us) (λ_ s'=>∃ σ' H',Inv X pins σ' H' s'/\Q σ' H') X.xe s
noncomputable abbrev TSet:=V->V->V->Hp->(Hp->Prop)->Prop
noncomputable def PSet(X:Cx)(t:TSet):Prop :=
 ∀(pins:List (Addr×Obj)) (s:Ac) (σ:St) (H:Hp) (o i v:V) (ov iv u:Ab) (Q:Hp->Prop),Inv X pins σ H s->RelV o ov->RelV i iv->RelV v u->t o i v H Q ->
  Aw (Az X.prog X.w) X.A (setItem ov iv u) (λ_ s'=>∃H',Inv X pins σ H' s'/\Q H') X.xe s
noncomputable abbrev TIp:=V->V->Hp->VK->Prop
noncomputable def PIp(X:Cx)(op:Operator)(t:TIp):Prop :=
 ∀(pins:List (Addr×Obj)) (s:Ac) (σ:St) (H:Hp) (x y:V) (v u:Ab) (Q:VK),Inv X pins σ H s->RelV x v->RelV y u->t x y H Q ->
  Aw (Az X.prog X.w) X.A (inplaceOp op v u) (EP X pins σ Q) X.xe s
section
variable {X:Cx}{pos:Pos}
noncomputable def gName(i:Nat):TG:=λv σ H Q=>Q (σ.set i (some v)) H
theorem zkQ{i:Nat}{x:Str}(hN:X.N.Nodup)(hi:X.N[i]?=some x)(hx:Loc X.env.scope x)(hf:X.fn x=true∨X.env.scope.names.lookup x=some .local:=by first |exact .inl rfl |exact .inr rfl |assumption):PG X (.Name x pos) (gName i):=by intro pins s σ H v u Q I r h;exact wpAny_assign_Name (ze3 I hN hi hx r (λs' I'=>⟨_,H,I',h⟩) hf)
noncomputable def gNil:TGs:=λvs σ H Q=>vs=[]/\Q σ H
noncomputable def gCons(t:TG)(u:TGs):TGs:=λvs σ H Q=>∃v r,vs=v::r/\t v σ H λσ' H'=>u r σ' H' Q
theorem zay:PGs X [] gNil:=by
 intro pins s σ H vs us Q I r h;obtain⟨e,h⟩:=h;subst e
 cases r
 exact assignInOrder_nil ⟨σ,H,I,h⟩
theorem zag{e:Expr}{es:List Expr}{t:TG}{u:TGs}(h1:PG X e t)(h2:PGs X es u)
  (hs:(DB (e::es) X.env).map (·.2)=assign e X.env::(DB es X.env).map (·.2):=by rfl):PGs X (e::es) (gCons t u):=by
 intro pins s σ H vs us Q I r h;obtain⟨v,vr,e1,h⟩:=h;subst e1
 cases r with
 |cons r rr =>
  rw[hs];refine assignInOrder_cons (thn (h1 pins s σ H _ _ _ I r h) λ_ s1 ⟨σ1,H1,I1,q1⟩=>?_);exact h2 pins s1 σ1 H1 _ _ Q I1 rr q1
noncomputable def gTup(K:W.Frag)(n:Nat)(t:TGs):TG:=λv σ H Q=>∃a xs,v=.ref a/\SqT K H a xs/\xs.length=n/\t xs σ H Q
theorem zbl{es:List Expr}{k:Nat}{t:TGs}{n:Nat}(hc:X.calm=true)(h:PGs X es t)
  (hn:(DB es X.env).length=n:=by rfl) (hst:(DB es X.env).findIdx? (·.1)=none:=by rfl):PG X (.Tuple es k pos) (gTup X.K n t):=by
 intro pins s σ H v u Q I r hw;obtain⟨a,xs,e1,hq,hl,hw⟩:=hw;subst e1
 cases r
 obtain⟨its,rv,ht,hz⟩:=I.tuple hq;refine assign_Tuple_tuple (I.ok.hd hc) ht (by simp[hn,<- hl,rv.length]) hst λh' hx=>?_
 have I1:Inv X pins σ H { s with heap:=h' }:=I.kept (t':=s.toks) λb o e=>hx b o (A4 (AD e)) e
 exact h pins _ σ H xs _ Q I1 (by simpa using rv) hw
noncomputable def gSub(to ti:TE)(t:TSet):TG:=λv σ H Q=>to σ H λo H1=>ti σ H1 λi H2=>t o i v H2 λH3=>Q σ H3
theorem zkl{o i:Expr}{to ti:TE}{t:TSet}(ho:PE X o to)(hi:PE X i ti)(hs:PSet X t)
  (ha:∀v,assign (.Subscript o i pos) X.env v=(do
   let ov <- Dw [v] (eval o X.env)
   let iv <- Dw [v,ov] (eval i X.env)
   standAt pos
   Dw [v,ov,iv] (setItem ov iv v)
   release [v,ov,iv] []):=by intro _;rfl):PG X (.Subscript o i pos) (gSub to ti t):=by
 intro pins s σ H v u Q I r h;rw[ha];refine Ad (Bo (thn (ho pins s σ H _ I h) λov s1 ⟨x,H1,I1,r1,q1⟩=>?_));refine Ad (Bo (thn (hi pins s1 σ H1 _ I1 q1) λiv s2 ⟨y,H2,I2,r2,q2⟩=>?_));refine Ad (CJ (Ad (Bo (thn (hs pins s2 σ H2 x y v ov iv u _ I2 r1 r2 r q2) λ_ s3 ⟨H3,I3,q3⟩=>?_))));exact wpAny_release ⟨σ,H3,I3,q3⟩
noncomputable def tAsg(te:TE)(g:TG):TS:=λD σ H=>te σ H λx H1=>g x σ H1 D.nx
theorem zbG{tg e:Expr}{te:TE}{g:TG}(he:PE X e te)(hg:PG X tg g)(hs:swapsWithSole [tg] e pos.line X.env=pure false := by rfl)(hw:swappedStores [tg] e X.env=pure none := by rfl)
  (h1:(DB [tg] X.env).map (·.2)=[assign tg X.env]:=by rfl):PS X (.Assign [tg] e pos) (tAsg te g):=by
 intro pins s σ H D I h;refine wpAny_Assign_stores (thn (he pins s σ H _ I h) λv s1 ⟨x,H1,I1,r1,q1⟩=>?_) hs hw;rw[h1];exact thn (hg pins s1 σ H1 x v _ I1 r1 q1) λ_ s2 q=>q
theorem ziD{i:Nat}{x:Str}{e:Expr}{te:TE}{pos':Pos}(hN:X.N.Nodup)(hi:X.N[i]? = some x)(hx:Loc X.env.scope x)(he:PE X e te)(hs:swapsWith e (some (.Name x pos')) pos.line X.env=pure false := by rfl)(hf:X.fn x=true ∨ X.env.scope.names.lookup x=some .local := by first |exact .inl rfl |exact .inr rfl |assumption) :
  PS X (.Assign [.Name x pos'] e pos) (tAsg te (gName i)):=by
 intro pins s σ H D I h;refine wpAny_Assign_Name (thn (he pins s σ H _ I h) λv s1 ⟨y,H1,I1,r1,q1⟩=>?_) hs;exact ze3 I1 hN hi hx r1 (λs2 I2=>⟨_,H1,I2,q1⟩) hf
noncomputable def tAug(i:Nat)(te:TE)(ti:TIp):TS:=λD σ H=>∃x,σ[i]?=some (some x)/\te σ H λy H1=>ti x y H1 λz H2=>D.nx (σ.set i (some z)) H2
theorem zly{i:Nat}{x:Str}{e:Expr}{te:TE}{op:Operator}{ti:TIp}{pos':Pos}(hN:X.N.Nodup)(hi:X.N[i]? = some x)(hx:Loc X.env.scope x)(he:PE X e te)(ho:PIp X op ti)(hf:X.fn x=true ∨ X.env.scope.names.lookup x=some .local := by first |exact .inl rfl |exact .inr rfl |assumption) :
  PS X (.AugAssign (.Name x pos') op e pos) (tAug i te ti):=by
 intro pins s σ H D I h;obtain⟨v,e1,h⟩:=h;obtain⟨m,hn,hl⟩:=I.loc;have vis:Vis X.env.scope x:=by rcases hx with k |k;exact .inl k;exact .inr (.inl k)
 obtain⟨u,r,l⟩:=hl i x v hi e1 vis;refine wpAny_AugAssign_Name ?_
 have go:Aw (Az X.prog X.w) X.A (eval e X.env) (λw s₂=>Aw (Az X.prog X.w) X.A (inplaceOp op u w) (λr s₃=>Aw (Az X.prog X.w) X.A (storeName X.env x r) (λ_=>SP X pins D .next) X.xe s₃) X.xe s₂) X.xe s:=by
  refine thn (he pins s σ H _ I h) λw s1 ⟨y,H1,I1,r1,q1⟩=>?_
  refine thn (ho pins s1 σ H1 v y u w _ I1 r r1 q1) λz s2 ⟨zv,H2,I2,r2,q2⟩=>?_
  exact ze3 I2 hN hi hx r2 (λs3 I3=>⟨_,H2,I3,q2⟩) hf
 rcases l with⟨hk,hm⟩ |⟨hk,c,hc,hcell⟩
 .exact wpAny_loadName_local I.ok.kind hk hn hm go
 .rcases hk with hk |hk
  .exact wpAny_loadName_cell I.ok.kind hk hc hcell go
  .rcases hx with k |k
   .have:X.env.scope.names.lookup x=some .free:=hk;rw[k]at this;cases this
   .have:X.env.scope.names.lookup x=some .free:=hk;rw[k]at this;cases this
noncomputable def ipI(f:Int->Int->Int):TIp:=λx y H Q=>∃i j,x=.int i/\y=.int j/\Q (.int (f i j)) H
theorem zlO:PIp X .Add (ipI λi j=>i+j):=by intro pins s σ H x y v u Q I r1 r2 h;obtain⟨i,j,e1,e2,q⟩:=h;subst e1;subst e2;obtain⟨t,rfl⟩:=r1;obtain⟨t',rfl⟩:=r2;exact iadd_int ⟨.int _,H,I.tok _,⟨_,rfl⟩,q⟩
end
section
variable {X:Cx}{pos:Pos}
noncomputable def zkc(c:TT)(tb:TS):TS:=λD σ H=>∃W:Nat->St->Hp->Prop,(∃m,W m σ H)/\∀m σ H,W m σ H ->
 c σ H λb H1=>if b=true then ∃N:St->Hp->Prop,(∀ σ' H',N σ' H'->∃m',m'<m/\W m' σ' H')/\tb { D with nx:=N,ct:=N,bk:=D.nx } σ H1 else D.nx σ H1
theorem zhl{c:Expr}{body:List Stmt}{tc:TT}{tb:TS}(hp:PassesOwn (Az X.prog X.w) X.A X.env X.xe)(hc:PT X c tc)(hb:PSs X body tb):PS X (.While c body [] pos) (zkc tc tb):=by
 intro pins s σ H D I h;obtain⟨W,⟨m0,w0⟩,turn⟩:=h;refine wpAny_While (codeAny_whileLoop (λn s'=>∃ σ' H',Inv X pins σ' H' s'/\W n σ' H') ?_ m0 ⟨σ,H,I,w0⟩);rintro n s1 ⟨σ1,H1,I1,w1⟩;refine Cw hp (thn (hc pins s1 σ1 H1 _ I1 (turn n σ1 H1 w1)) λb s2 ⟨H2,I2,q2⟩=>?_)
 cases b with
 |true =>
  obtain⟨N,hN,q2⟩:=q2;rw[if_pos rfl];refine Cw hp (thn (hb pins s2 σ1 H2 _ I2 q2) λf s3 q3=>?_)
  cases f with
  |next =>
   obtain⟨σ3,H3,I3,n3⟩:=q3;obtain⟨m',hm,w3⟩:=hN σ3 H3 n3;exact⟨m',hm,σ3,H3,I3,w3⟩
  |cont =>
   obtain⟨σ3,H3,I3,n3⟩:=q3;obtain⟨m',hm,w3⟩:=hN σ3 H3 n3;exact⟨m',hm,σ3,H3,I3,w3⟩
  |brk=>exact q3
  |ret v=>exact q3
 |false =>
  rw[if_neg AA];exact wpAny_execs_nil ⟨σ1,H2,I2,q2⟩
end
structure It where
 go:Nat->Hp->Prop
 yld:Nat->Hp->V->Hp->Prop
 stop:Nat->Hp->Prop
noncomputable def FpOk(X:Cx)(pins:List (Addr×Obj))(H:Hp)(b:Addr):Prop :=
 H b=none/\b≠X.env.locals/\b ∉ X.fs/\(b∈X.ex∨X.s₀.heap.objs.size<=b)/\(∀x c,X.env.cells.lookup x=some c->c≠b)/\∀p∈X.pn++pins,p.1≠b
theorem Inv.fpOk{X:Cx}{pins:List (Addr×Obj)}{σ:St}{H H':Hp}{s:Ac}{b:Addr}(I:Inv X pins σ H s)(hb:s.heap.objs.size<=b)(hn:H' b=none):FpOk X pins H' b:=by
 refine⟨hn,Nat.ne_of_gt (AZ I.lt hb),I.nofs hb,.inr (AS I.sz hb),λx c e z=>?_,λp hp z=>?_⟩
 .obtain⟨v,q⟩:=I.cell x c e;exact absurd (AZ q.lt (by rw[z];exact hb)) (CI _)
 .exact absurd (AZ (AD (I.pin p hp).1) (by rw[z];exact hb)) (CI _)
structure Turn (P:AH) (w:Bc) (K:W.Frag) (tg:Expr) (J:It) (fp:List Addr) (it:Addr) (tn:Nat->Heap->Prop):Prop where
 mem:it∈fp
 obj:∀i h,tn i h->∀b∈fp,∃o,h.get? b=some o/\∀v,o.data≠.cell v
 keep:∀i h h',tn i h->(∀b∈fp,∀o,h.get? b=some o->h'.get? b=some o)->tn i h'
 item:∀(X:Cx),X.prog=P->X.w=w->X.K=K->X.calm=true->∀(i:Nat) (pins:List (Addr×Obj)) (s:Ac) (σ:St) (H:Hp) (E:Ab->Ac->Prop),Inv X pins σ H s->(∀b∈fp,FpOk X pins H b)->tn i s.heap->J.go i H ->
  Aw (Az P w) X.A (pyNext (.ref it)) (λr s1=>∃u,r=some u /\
   Aw (Az P w) X.A (Dx tg (.ref it) u) (λ_ s2=>∃x H',Inv X pins σ H' s2/\RelV x u/\J.yld i H x H'/\tn (i+1) s2.heap/\∀b∈fp,H' b=none) E s1) E s
 done:∀(X:Cx),X.prog=P->X.w=w->X.K=K->X.calm=true->∀(i:Nat) (pins:List (Addr×Obj)) (s:Ac) (σ:St) (H:Hp) (E:Ab->Ac->Prop),Inv X pins σ H s->(∀b∈fp,FpOk X pins H b)->tn i s.heap->J.stop i H ->
  Aw (Az P w) X.A (pyNext (.ref it)) (λr s1=>r=none/\Inv X pins σ H s1) E s
 self:∀(A:AQ) (i:Nat) (s:Ac) (Q:Ab->Ac->Prop) (E:Ab->Ac->Prop),tn i s.heap->Q (.ref it) s->Aw (Az P w) A (pyIter (.ref it)) Q E s
noncomputable abbrev TI:=St->Hp->(It->Hp->Prop)->Prop
noncomputable def PIE(X:Cx)(pins:List (Addr×Obj))(σ:St)(tg:Expr)(R:It->Hp->Prop)(itv:Ab)(s2:Ac):Prop :=
 ∃(it:Addr) (fp:List Addr) (tn:Nat->Heap->Prop) (J:It) (H':Hp),itv=.ref it/\Inv X pins σ H' s2/\Turn X.prog X.w X.K tg J fp it tn/\tn 0 s2.heap/\(∀b∈fp,FpOk X pins H' b)/\R J H'
noncomputable def PI(X:Cx)(tg iter:Expr)(wi:TI):Prop :=
 ∀(pins:List (Addr×Obj)) (s:Ac) (σ:St) (H:Hp) (R:It->Hp->Prop),Inv X pins σ H s->wi σ H R ->
  Aw (Az X.prog X.w) X.A (eval iter X.env) (λv s1=>Aw (Az X.prog X.w) X.A (pyIter v) (PIE X pins σ tg R) X.xe s1) X.xe s
theorem go_of {M : Model}{A : AQ}{E : Ab → Ac → Prop}{s : Ac}{tg : Expr}{it : Addr}{u : Ab}{o : Obj}{n : String}{vs : Array Ab}{Q : Unit → Ac → Prop}(ho : s.heap.get? it = some o) (hc : o.cls = .type n) (hd : o.data = .fields vs)
    (hn:["enumerate","zip","dict_itemiterator","dict_reverseitemiterator","odict_iterator","itertools.zip_longest","itertools.pairwise"].contains n=false) (hQ:Q () s):Aw M A (Dx tg (.ref it) u) Q E s:=by
  unfold Dx
  cases tg <;> first
    | exact Aj hQ
    | (cases u <;> first
        | exact Aj hQ
        | (refine Ad (wpAny_load ho ?_)
           rw[hc,hd]
           show Aw M A (if (["enumerate","zip","dict_itemiterator","dict_reverseitemiterator","odict_iterator","itertools.zip_longest","itertools.pairwise"].contains n && vs[0]? == some (rawInt _))=true then _ else _) Q E s
           rw[if_neg (by intro h;rw[hn,Bool.false_and] at h;cases h)]
           exact Aj hQ))
noncomputable def Itl(K:W.Frag)(a:Addr):It :=
 ⟨λi H=>∃xs x,SqL K H a xs/\xs[i]?=some x,λi H x H'=>H'=H/\∀xs,SqL K H a xs->xs[i]?=some x,λi H=>∃xs,SqL K H a xs/\xs.length<=i⟩
noncomputable def Itt(K:W.Frag)(a:Addr):It :=
 ⟨λi H=>∃xs x,SqT K H a xs/\xs[i]?=some x,λi H x H'=>H'=H/\∀xs,SqT K H a xs->xs[i]?=some x,λi H=>∃xs,SqT K H a xs/\xs.length<=i⟩
noncomputable def Itr(lo:Int)(n:Nat):It:=⟨λi _=>i<n,λi H x H'=>H'=H/\x=.int (lo+i),λi _=>n<=i⟩
theorem zil{P:AH}{w:Bc}{K:W.Frag}{tg:Expr}(a it:Addr):Turn P w K tg (Itl K a) [it] it (λi h=>h.IsListIter it a i) where
 mem:=by simp
 obj:=λi h st b hb=>by
  have e:b=it:=by simpa using hb
  subst e;obtain⟨o,e,c,d⟩:=st;exact⟨o,e,λv z=>by rw[d]at z;cases z⟩
 keep:=λi h h' st k=>st.at λo e=>k it (by simp) o e
 item:=by
  intro X hP hw hK hc i pins s σ H E I hf st hg;subst hP hw hK;obtain⟨xs,x,hq,hx⟩:=hg;obtain⟨its,rv,p,hz⟩:=I.list hq;obtain⟨u,hu,ru⟩:=rv.get hx;obtain⟨f0,f1,f2,f3,f4,f5⟩:=hf it (by simp);refine wpAny_pyNext_list_item st p.isList (x:=u) (by simpa using hu) λh' st' sb=>?_
  have I1:Inv X pins σ H { s with heap:=h' }:=I.turned (t':=s.toks) (λb o hb e=>(sb.2 b hb).trans e) f0 f1 f3 f4 f5;obtain⟨o,e,c,d⟩:=id st';exact⟨u,rfl,go_of (s:={ s with heap:=h' }) e c d (by decide) ⟨x,H,I1,ru,⟨rfl,λys hy=>by rw[I.list_inj hy hq];exact hx⟩,st',λb hb=>(hf b hb).1⟩⟩
 done:=by intro X hP hw hK hc i pins s σ H E I hf st hg;subst hP hw hK;obtain⟨xs,hq,hx⟩:=hg;obtain⟨its,rv,p,hz⟩:=I.list hq;obtain⟨f0,f1,f2,f3,f4,f5⟩:=hf it (by simp);have hl:=rv.length;exact wpAny_pyNext_list_end (I.ok.hd hc) st p.isList (by simp;lia) λh' eb=>⟨rfl,I.turned (t':=s.toks) (λb o hb e=>eb b o hb e) f0 f1 f3 f4 f5⟩
 self:=λ_ _ _ _ _ st h=>wpAny_pyIter_listiter st h
theorem zhR{P:AH}{w:Bc}{K:W.Frag}{tg:Expr}(a it:Addr):Turn P w K tg (Itt K a) [it] it (λi h=>h.IsTupleIter it a i) where
 mem:=by simp
 obj:=λi h st b hb=>by
  have e:b=it:=by simpa using hb
  subst e;obtain⟨o,e,c,d⟩:=st;exact⟨o,e,λv z=>by rw[d]at z;cases z⟩
 keep:=λi h h' st k=>st.at λo e=>k it (by simp) o e
 item:=by
  intro X hP hw hK hc i pins s σ H E I hf st hg;subst hP hw hK;obtain⟨xs,x,hq,hx⟩:=hg;obtain⟨its,rv,p,hz⟩:=I.tuple hq;obtain⟨u,hu,ru⟩:=rv.get hx;obtain⟨f0,f1,f2,f3,f4,f5⟩:=hf it (by simp);refine wpAny_pyNext_tuple_item st (show s.heap.IsTuple a its.toArray from p) (x:=u) (by simpa using hu) λh' st' sb=>?_
  have I1:Inv X pins σ H { s with heap:=h' }:=I.turned (t':=s.toks) (λb o hb e=>(sb.2 b hb).trans e) f0 f1 f3 f4 f5;obtain⟨o,e,c,d⟩:=id st';exact⟨u,rfl,go_of (s:={ s with heap:=h' }) e c d (by decide) ⟨x,H,I1,ru,⟨rfl,λys hy=>by rw[I.tuple_inj hy hq];exact hx⟩,st',λb hb=>(hf b hb).1⟩⟩
 done:=by intro X hP hw hK hc i pins s σ H E I hf st hg;subst hP hw hK;obtain⟨xs,hq,hx⟩:=hg;obtain⟨its,rv,p,hz⟩:=I.tuple hq;obtain⟨f0,f1,f2,f3,f4,f5⟩:=hf it (by simp);have hl:=rv.length;exact wpAny_pyNext_tuple_end (I.ok.hd hc) st (show s.heap.IsTuple a its.toArray from p) (by simp;lia) λh' eb=>⟨rfl,I.turned (t':=s.toks) (λb o hb e=>eb b o hb e) f0 f1 f3 f4 f5⟩
 self:=λ_ _ _ _ _ st h=>wpAny_pyIter_tupleiter st h
theorem zhS{P:AH}{w:Bc}{K:W.Frag}{tg:Expr}(it:Addr)(lo:Int)(n:Nat):Turn P w K tg (Itr lo n) [it] it (λi h=>IsRangeIter h it (lo+(i:Nat)*1) ((n:Int)-(i:Nat)) 1) where
 mem:=by simp
 obj:=λi h st b hb=>by
  have e:b=it:=by simpa using hb
  subst e
  exact⟨_,st,λv z=>by
   have z':Data.fields _=Data.cell v:=z
   cases z'⟩
 keep:=λi h h' st k=>k it (by simp) _ st
 item:=by
  intro X hP hw hK hc i pins s σ H E I hf st hg;subst hP hw hK;obtain⟨f0,f1,f2,f3,f4,f5⟩:=hf it (by simp);have W:=Walks.range (prog:=X.prog) (w:=X.w) (I.ok.hd hc) it lo 1 n;refine W.item i s _ _ hg st λv h' tk hv st' kk=>?_
  obtain⟨t,rfl⟩:=hv;have I1:Inv X pins σ H { s with heap:=h',toks:=tk }:=I.turned (λb o hb e=>kk b o (by simpa using hb) e) f0 f1 f3 f4 f5;refine⟨_,rfl,go_of (s:={ s with heap:=h',toks:=tk }) (n:="range_iterator") st' rfl rfl (by decide) ⟨.int (lo+i),H,I1,⟨t,?_⟩,⟨rfl,rfl⟩,st',λb hb=>(hf b hb).1⟩⟩;rw[Int.mul_one]
 done:=by intro X hP hw hK hc i pins s σ H E I hf st hg;subst hP hw hK;obtain⟨f0,f1,f2,f3,f4,f5⟩:=hf it (by simp);exact wpAny_pyNext_range_end (I.ok.hd hc) st (by have:n<=i:=hg;lia) λh' eb=>⟨rfl,I.turned (t':=s.toks) (λb o hb e=>eb b o hb e) f0 f1 f3 f4 f5⟩
 self:=λ_ _ _ _ _ st h=>wpAny_pyIter_rangeiter st h
section
variable {X:Cx}{tg:Expr}
noncomputable def iList(K:W.Frag)(tl:TE):TI:=λσ H R=>tl σ H λx H1=>∃a,x=.ref a/\(∃xs,SqL K H1 a xs)/\R (Itl K a) H1
noncomputable def iTup(K:W.Frag)(tl:TE):TI:=λσ H R=>tl σ H λx H1=>∃a,x=.ref a/\(∃xs,SqT K H1 a xs)/\R (Itt K a) H1
theorem zaN{l:Expr}{tl:TE}(hl:PE X l tl):PI X tg l (iList X.K tl):=by
 intro pins s σ H R I h;refine thn (hl pins s σ H _ I h) λv s1 ⟨x,H1,I1,r1,q1⟩=>?_
 obtain⟨a,e,⟨xs,hq⟩,q⟩:=q1;subst e
 cases r1
 obtain⟨its,rv,p,hz⟩:=I1.list hq;refine wpAny_pyIter_list p.isList ?_
 refine⟨s1.heap.objs.size,[s1.heap.objs.size],_,_,H1,rfl,I1.kept (t':=s1.toks) λb o e=>Ak _ e,zil a _,⟨_,AM _ rfl,rfl,rfl⟩,λb hb=>?_,q⟩;have e:b=s1.heap.objs.size:=by simpa using hb
 subst e;exact I1.fpOk (An _) (I1.hok.fresh (An _))
theorem zhm{l:Expr}{tl:TE}(hl:PE X l tl):PI X tg l (iTup X.K tl):=by
 intro pins s σ H R I h;refine thn (hl pins s σ H _ I h) λv s1 ⟨x,H1,I1,r1,q1⟩=>?_
 obtain⟨a,e,⟨xs,hq⟩,q⟩:=q1;subst e
 cases r1
 obtain⟨its,rv,p,hz⟩:=I1.tuple hq;refine wpAny_pyIter_tuple (show s1.heap.IsTuple a its.toArray from p) ?_
 refine⟨s1.heap.objs.size,[s1.heap.objs.size],_,_,H1,rfl,I1.kept (t':=s1.toks) λb o e=>Ak _ e,zhR a _,⟨_,AM _ rfl,rfl,rfl⟩,λb hb=>?_,q⟩;have e:b=s1.heap.objs.size:=by simpa using hb
 subst e;exact I1.fpOk (An _) (I1.hok.fresh (An _))
theorem zhj{pins:List (Addr × Obj)}{σ : St}{H:Hp}{s:Ac}{R:It -> Hp -> Prop}{E:Ab -> Ac -> Prop}{lo hi:Int}{t u v:Tok}{tk:Nat}(I:Inv X pins σ H s)(h1 : -(2 ^ 62) <= lo)(h2:lo < 2 ^ 62)(h3 : -(2 ^ 62) <= hi)(h4:hi < 2 ^ 62)
  (q:R (Itr lo (hi-lo).toNat) H):Aw (Az X.prog X.w) X.A (pyIter (.ref s.heap.objs.size)) (PIE X pins σ tg R) E { s with heap:=s.heap.push { cls:=.type "range",data:=.fields #[.int lo t,.int hi u,.int 1 v] },toks:=tk }:=by
 refine wpAny_pyIter_range (IsRange.new ..) (small_one h1 h2 h3 h4) ?_
 have I1:Inv X pins σ H { s with heap:=s.heap.push { cls:=.type "range",data:=.fields #[.int lo t,.int hi u,.int 1 v] },toks:=tk }:=I.kept λb o e=>Ak _ e
 refine⟨(s.heap.push { cls:=.type "range",data:=.fields #[.int lo t,.int hi u,.int 1 v] }).objs.size,[(s.heap.push { cls:=.type "range",data:=.fields #[.int lo t,.int hi u,.int 1 v] }).objs.size],_,_,H,rfl,
  I1.kept (t':=tk) λb o e=>Ak _ e,zhS _ lo (hi-lo).toNat,?_,λb hb=>?_,q⟩
 .have e1:lo+((0:Nat):Int)*1=lo:=by simp
  have e2:(((hi-lo).toNat:Nat):Int)-((0:Nat):Int)=Builtin.Range.rangeSize lo hi 1:=by rw[rangeSize_one];split <;> lia
  show IsRangeIter _ _ (lo+((0:Nat):Int)*1) ((((hi-lo).toNat:Nat):Int)-((0:Nat):Int)) 1;rw[e1,e2];exact AM _ rfl
 .have e:b=(s.heap.push { cls:=.type "range",data:=.fields #[.int lo t,.int hi u,.int 1 v] }).objs.size:=by simpa using hb
  subst e;exact I1.fpOk (An _) (I1.hok.fresh (An _))
noncomputable def iRng1(ta:TA):TI:=λσ H R=>ta σ H λvs H1=>∃j:Int,vs=[.int j]/\-(2 ^ 62)<=j/\j<2 ^ 62/\R (Itr 0 j.toNat) H1
noncomputable def iRng2(ta:TA):TI:=λσ H R=>ta σ H λvs H1=>∃i j:Int,vs=[.int i,.int j]/\(-(2 ^ 62)<=i/\i<2 ^ 62/\-(2 ^ 62)<=j/\j<2 ^ 62)/\R (Itr i (j-i).toNat) H1
theorem zcq {a:Expr}{ta:TA}{p pos:Pos}(hg:Gl X "range") (hm:X.mg "range" = none) (ha:PA X [a] ta) (hs:Bq [a] X.env=[(false,eval a X.env)]:=by rfl):PI X tg (.Call (.Name "range" p) [a] [] pos) (iRng1 ta):=by
 intro pins s σ H R I h;refine Call_ (zd5 I hg hm boot_range (De (thn (ha pos pins s σ H _ I h) λus s1 ⟨vs,H1,I1,r1,q1⟩=>?_) hs rfl));obtain⟨j,e,q1,q2,q⟩:=q1;subst e
 cases r1 with
 |cons r rr =>
  cases rr
  obtain⟨t,rfl⟩:=r;exact call_range_1 (zhj I1 (by lia) (by lia) q1 q2 (by simpa using q))
theorem ziI {a b:Expr}{ta:TA}{p pos:Pos}(hg:Gl X "range") (hm:X.mg "range" = none) (ha:PA X [a, b] ta) (hs:Bq [a, b] X.env = [(false, eval a X.env), (false, eval b X.env)] := by rfl) (hs2:Bq [b] X.env = [(false, eval b X.env)] := by rfl) :
  PI X tg (.Call (.Name "range" p) [a,b] [] pos) (iRng2 ta):=by
 intro pins s σ H R I h;refine Call_ (zd5 I hg hm boot_range (De (thn (ha pos pins s σ H _ I h) λus s1 ⟨vs,H1,I1,r1,q1⟩=>?_) (by rw[hs,hs2]) (by rw[hs2];rfl)));obtain⟨i,j,e,⟨q1,q2,q3,q4⟩,q⟩:=q1;subst e
 cases r1 with
 |cons r rr =>
  cases rr with
  |cons r' rr =>
   cases rr
   obtain⟨t,rfl⟩:=r;obtain⟨t',rfl⟩:=r';exact call_range_2 (zhj I1 q1 q2 q3 q4 q)
noncomputable def tFor(wi:TI)(g:TG)(tb:TS):TS:=λD σ H=>wi σ H λJ H1=>∃W:Nat->Nat->St->Hp->Prop,(∃m,W 0 m σ H1)/\∀i m σ H,W i m σ H ->
 (J.stop i H/\D.nx σ H)∨(J.go i H/\∃N:St->Hp->Prop,(∀ σ' H',N σ' H'->∃m',m'<m/\W (i+1) m' σ' H')/\∀x H',J.yld i H x H'->g x σ H' λσ2 H2=>tb { D with nx:=N,ct:=N,bk:=D.nx } σ2 H2)
noncomputable def zdk(fp:List Addr)(h:Heap):List (Addr×Obj):=fp.filterMap λb=>(h.get? b).map λo=>(b,o)
theorem zaS{fp:List Addr}{h:Heap}{b:Addr}{o:Obj}(hb:b∈fp)(e:h.get? b=some o):(b,o)∈zdk fp h:=List.mem_filterMap.mpr ⟨b,hb,by rw[e];rfl⟩
theorem ziQ{fp:List Addr}{h:Heap}{p:Addr×Obj}(hp:p∈zdk fp h):p.1∈fp/\h.get? p.1=some p.2:=by
 obtain⟨b,hb,e⟩:=List.mem_filterMap.mp hp
 cases q:h.get? b with
 |none=>rw[q]at e;cases e
 |some o =>
  rw[q]at e;have e':(b,o)=p:=AJ e;subst e';exact⟨hb,q⟩
theorem Inv.pinned{pins:List (Addr×Obj)}{σ:St}{H:Hp}{s:Ac}{fp:List Addr}(I:Inv X pins σ H s)(hf:∀b∈fp,FpOk X pins H b)(ho:∀b∈fp,∃o,s.heap.get? b=some o/\∀v,o.data≠.cell v):Inv X (pins++zdk fp s.heap) σ H s :=
 I.pins_of λp hp=>(AT.mp hp).elim (λz=>I.pin p (Au _ z)) λz=>by obtain⟨hb,e⟩:=ziQ z;obtain⟨f0,f1,f2,_⟩:=hf p.1 hb;obtain⟨o,e',d⟩:=ho p.1 hb;rw[e]at e';cases e';exact⟨e,f0,f1,f2,d⟩
theorem Inv.unpinned{pins pl:List (Addr×Obj)}{σ:St}{H:Hp}{s:Ac}(I:Inv X (pins++pl) σ H s):Inv X pins σ H s:=I.pins_of λp hp=>I.pin p (Au _ (Ce _ hp))
theorem zbF{iter:Expr}{body:List Stmt}{wi:TI}{g:TG}{tb:TS}{pos:Pos}(hp:PassesOwn (Az X.prog X.w) X.A X.env X.xe)(hc:X.calm=true)(hi:PI X tg iter wi)(hg:PG X tg g)(hb:PSs X body tb)
  (hs:∀x,Bw iter X.env x=pure x:=by intro _;rfl):PS X (.For tg iter body [] pos) (tFor wi g tb):=by
 intro pins s σ H D I h;refine wpAny_For (thn (hi pins s σ H _ I h) λv s1 h1=>thn h1 λitv s2 h2=>?_) hs;obtain⟨it,fp,tn,J,H2,e,I2,T,st2,f2,W,⟨m0,w0⟩,turn⟩:=h2;subst e;have stat:∀{H':Hp},(∀b∈fp,H' b=none)->∀b∈fp,FpOk X pins H' b:=λhn b hb=>⟨hn b hb,(f2 b hb).2⟩
 refine codeAny_forLoop_any (λn s'=>∃i σ' H',Inv X pins σ' H' s'/\tn i s'.heap/\(∀b∈fp,H' b=none)/\W i n σ' H') ?_ m0 ⟨0,σ,H2,I2,st2,λb hb=>(f2 b hb).1,w0⟩;rintro n s3 ⟨i,σ3,H3,I3,st3,fr3,w3⟩;rcases turn i n σ3 H3 w3 with⟨stop,qn⟩ |⟨go,N,hN,step⟩
 .refine Cw hp (thn (T.done X rfl rfl rfl hc i pins s3 σ3 H3 X.xe I3 (stat fr3) st3 stop) λr s4 ⟨hr,I4⟩=>?_);subst hr;exact wpAny_execs_nil ⟨σ3,H3,I4,qn⟩
 .refine Cw hp (thn (T.item X rfl rfl rfl hc i pins s3 σ3 H3 X.xe I3 (stat fr3) st3 go) λr s4 ⟨u,hr,h4⟩=>?_);subst hr;refine Cw hp (thn h4 λ_ s5 ⟨x,H5,I5,r5,y5,st5,fr5⟩=>?_);have I5':=I5.pinned (stat fr5) (T.obj _ _ st5);refine Cw hp (thn (hg _ s5 σ3 H5 x u _ I5' r5 (step x H5 y5)) λ_ s6 ⟨σ6,H6,I6,q6⟩=>?_);refine Cw hp (thn (hb _ s6 σ6 H6 _ I6 q6) λf s7 q7=>?_)
  have again:∀{σ7:St} {H7:Hp},Inv X (pins++zdk fp s5.heap) σ7 H7 s7->N σ7 H7->∃m,m<n/\∃i σ' H',Inv X pins σ' H' s7/\tn i s7.heap/\(∀b∈fp,H' b=none)/\W i m σ' H':=λ{σ7 H7} I7 n7=>by obtain⟨m',hm,w7⟩:=hN σ7 H7 n7;refine⟨m',hm,i+1,σ7,H7,I7.unpinned,T.keep _ _ _ st5 λb hb o e=>(I7.pin (b,o) (Au _ (Au _ (zaS hb e)))).1,λb hb=>?_,w7⟩;obtain⟨o,e,d⟩:=T.obj _ _ st5 b hb;exact (I7.pin (b,o) (Au _ (Au _ (zaS hb e)))).2.1
  cases f with
  |next=>obtain⟨σ7,H7,I7,n7⟩:=q7;exact again I7 n7
  |cont=>obtain⟨σ7,H7,I7,n7⟩:=q7;exact again I7 n7
  |brk=>obtain⟨σ7,H7,I7,q7⟩:=q7;exact⟨σ7,H7,I7.unpinned,q7⟩
  |ret v=>obtain⟨x7,σ7,H7,I7,r7,q7⟩:=q7;exact⟨x7,σ7,H7,I7.unpinned,r7,q7⟩
end
theorem zax{K:W.Frag}{a:Addr}{xs:List V}{g:TG}{tb:TS}{D:Ends}{σ : St}{H:Hp}(Pv:Nat -> St -> Hp -> Prop)(h0:Pv 0 σ H)(hl:∀i σ H, i <= xs.length -> Pv i σ H -> SqL K H a xs)
  (hs:∀i x σ H,xs[i]?=some x->Pv i σ H->g x σ H λσ2 H2=>tb { D with nx:=Pv (i+1),ct:=Pv (i+1),bk:=D.nx } σ2 H2) (hd:∀ σ H,Pv xs.length σ H->D.nx σ H) :
  ∃W:Nat->Nat->St->Hp->Prop,(∃m,W 0 m σ H)/\∀i m σ H,W i m σ H ->
   ((Itl K a).stop i H/\D.nx σ H)∨((Itl K a).go i H/\∃N:St->Hp->Prop,(∀ σ' H',N σ' H'->∃m',m'<m/\W (i+1) m' σ' H')/\∀x H',(Itl K a).yld i H x H'->g x σ H' λσ2 H2=>tb { D with nx:=N,ct:=N,bk:=D.nx } σ2 H2):=by
 refine⟨λi m σ H=>m=xs.length-i/\i<=xs.length/\Pv i σ H,⟨xs.length,by simp,AU _,h0⟩,?_⟩;rintro i m σ H ⟨rfl,hi,p⟩;have q:=hl i σ H hi p
 by_cases hlt:i<xs.length
 .refine .inr ⟨⟨xs,xs[i],q,by simp[hlt]⟩,Pv (i+1),λσ' H' p'=>⟨xs.length-(i+1),by lia,rfl,hlt,p'⟩,λx H' y=>?_⟩;obtain⟨e,y⟩:=y;subst e;exact hs i x σ _ (y xs q) p
 .have e:i=xs.length:=by lia
  subst e;exact .inl ⟨⟨xs,q,An _⟩,hd σ H p⟩
theorem zfB{K:W.Frag}{a:Addr}{xs:List V}{g:TG}{tb:TS}{D:Ends}{σ : St}{H:Hp}(Pv:Nat -> St -> Hp -> Prop)(h0:Pv 0 σ H)(hl:∀i σ H, i <= xs.length -> Pv i σ H -> SqT K H a xs)
  (hs:∀i x σ H,xs[i]?=some x->Pv i σ H->g x σ H λσ2 H2=>tb { D with nx:=Pv (i+1),ct:=Pv (i+1),bk:=D.nx } σ2 H2) (hd:∀ σ H,Pv xs.length σ H->D.nx σ H) :
  ∃W:Nat->Nat->St->Hp->Prop,(∃m,W 0 m σ H)/\∀i m σ H,W i m σ H ->
   ((Itt K a).stop i H/\D.nx σ H)∨((Itt K a).go i H/\∃N:St->Hp->Prop,(∀ σ' H',N σ' H'->∃m',m'<m/\W (i+1) m' σ' H')/\∀x H',(Itt K a).yld i H x H'->g x σ H' λσ2 H2=>tb { D with nx:=N,ct:=N,bk:=D.nx } σ2 H2):=by
 refine⟨λi m σ H=>m=xs.length-i/\i<=xs.length/\Pv i σ H,⟨xs.length,by simp,AU _,h0⟩,?_⟩;rintro i m σ H ⟨rfl,hi,p⟩;have q:=hl i σ H hi p
 by_cases hlt:i<xs.length
 .refine .inr ⟨⟨xs,xs[i],q,by simp[hlt]⟩,Pv (i+1),λσ' H' p'=>⟨xs.length-(i+1),by lia,rfl,hlt,p'⟩,λx H' y=>?_⟩;obtain⟨e,y⟩:=y;subst e;exact hs i x σ _ (y xs q) p
 .have e:i=xs.length:=by lia
  subst e;exact .inl ⟨⟨xs,q,An _⟩,hd σ H p⟩
theorem zb1{lo:Int}{n:Nat}{g:TG}{tb:TS}{D:Ends}{σ : St}{H:Hp}(Pv:Nat -> St -> Hp -> Prop)(h0:Pv 0 σ H)
  (hs:∀i σ H,i<n->Pv i σ H->g (.int (lo+i)) σ H λσ2 H2=>tb { D with nx:=Pv (i+1),ct:=Pv (i+1),bk:=D.nx } σ2 H2) (hd:∀ σ H,Pv n σ H->D.nx σ H) :
  ∃W:Nat->Nat->St->Hp->Prop,(∃m,W 0 m σ H)/\∀i m σ H,W i m σ H ->
   ((Itr lo n).stop i H/\D.nx σ H)∨((Itr lo n).go i H/\∃N:St->Hp->Prop,(∀ σ' H',N σ' H'->∃m',m'<m/\W (i+1) m' σ' H')/\∀x H',(Itr lo n).yld i H x H'->g x σ H' λσ2 H2=>tb { D with nx:=N,ct:=N,bk:=D.nx } σ2 H2):=by
 refine⟨λi m σ H=>m=n-i/\i<=n/\Pv i σ H,⟨n,by simp,AU _,h0⟩,?_⟩;rintro i m σ H ⟨rfl,hi,p⟩
 by_cases hlt:i<n
 .refine .inr ⟨hlt,Pv (i+1),λσ' H' p'=>⟨n-(i+1),by lia,rfl,hlt,p'⟩,λx H' y=>?_⟩;obtain⟨e,y⟩:=y;subst e y;exact hs i σ _ hlt p
 .have e:i=n:=by lia
  subst e;exact .inl ⟨An _,hd σ H p⟩
theorem zg5{c:TT}{tb:TS}{D:Ends}{σ : St}{H:Hp}(Pv:St -> Hp -> Prop)(μ : St -> Hp -> Nat)(h0:Pv σ H)
  (hs:∀ σ H,Pv σ H->c σ H λb H1=>if b=true then tb { D with nx:=λσ' H'=>Pv σ' H'/\μ σ' H'<μ σ H,ct:=λσ' H'=>Pv σ' H'/\μ σ' H'<μ σ H,bk:=D.nx } σ H1 else D.nx σ H1)
  (mono:∀ σ H Q Q',(∀b H1,Q b H1->Q' b H1)->c σ H Q->c σ H Q'):zkc c tb D σ H:=by
 refine⟨λm σ H=>m=μ σ H/\Pv σ H,⟨_,rfl,h0⟩,?_⟩;rintro m σ H ⟨rfl,p⟩;refine mono σ H _ _ (λb H1 q=>?_) (hs σ H p)
 cases b with
 |true=>exact⟨_,λσ' H' ⟨p',l⟩=>⟨_,l,rfl,p'⟩,q⟩
 |false=>exact q
noncomputable abbrev R2:=V->V->Hp->VK->Prop
noncomputable def OpR(X:Cx)(f:Ab->Ab->Sem Ab)(r:R2):Prop :=
 ∀(pins:List (Addr×Obj)) (s:Ac) (σ:St) (H:Hp) (x y:V) (v u:Ab) (Q:VK),Inv X pins σ H s->RelV x v->RelV y u->r x y H Q ->
  Aw (Az X.prog X.w) X.A (f v u) (EP X pins σ Q) X.xe s
noncomputable def UnR(X:Cx)(f:Ab->Sem Ab)(r:V->Hp->VK->Prop):Prop :=
 ∀(pins:List (Addr×Obj)) (s:Ac) (σ:St) (H:Hp) (x:V) (v:Ab) (Q:VK),Inv X pins σ H s->RelV x v->r x H Q ->
  Aw (Az X.prog X.w) X.A (f v) (EP X pins σ Q) X.xe s
noncomputable def CallR(X:Cx)(f:Ab)(r:List V->Hp->VK->Prop):Prop :=
 ∀(pins:List (Addr×Obj)) (s:Ac) (σ:St) (H:Hp) (xs:List V) (us:List Ab) (Q:VK),Inv X pins σ H s->Vals xs us->r xs H Q ->
  Aw (Az X.prog X.w) X.A (call f us) (EP X pins σ Q) X.xe s
noncomputable def TruR(X:Cx)(r:V->Hp->(Bool->Hp->Prop)->Prop):Prop :=
 ∀(pins:List (Addr×Obj)) (s:Ac) (σ:St) (H:Hp) (x:V) (v:Ab) (Q:Bool->Hp->Prop),Inv X pins σ H s->RelV x v->r x H Q ->
  Aw (Az X.prog X.w) X.A (truthy v) (TP X pins σ Q) X.xe s
noncomputable def tOp(r:R2)(ta tb:TE):TE:=λσ H Q=>ta σ H λx H1=>tb σ H1 λy H2=>r x y H2 Q
noncomputable def tUn(r:V->Hp->VK->Prop)(ta:TE):TE:=λσ H Q=>ta σ H λx H1=>r x H1 Q
noncomputable def rI(C:Int->Int->Prop)(g:Int->Int->V):R2:=λx y H Q=>∃i j,x=.int i/\y=.int j/\C i j/\Q (g i j) H
noncomputable def rI0(g:Int->Int->V):R2:=λx y H Q=>∃i j,x=.int i/\y=.int j/\Q (g i j) H
noncomputable def rU(g:Int->V):V->Hp->VK->Prop:=λx H Q=>∃i,x=.int i/\Q (g i) H
section
variable {X:Cx}{a b c:Expr}{ta tb tc:TE}{pos:Pos}
theorem binT(ha:PE X a ta)(hb:PE X b tb){pins:List (Addr × Obj)}{s:Ac}{σ : St}{H:Hp}{R:V -> V -> Hp -> Prop}(I:Inv X pins σ H s)
  (h:ta σ H λx H1=>tb σ H1 λy H2=>R x y H2) {Q:Ab->Ac->Prop} {f:Ab->Ab->Sem Ab}
  (hf:∀v u s2 x y H2,Inv X pins σ H2 s2->RelV x v->RelV y u->R x y H2->Aw (Az X.prog X.w) X.A (f v u) Q X.xe s2) :
  Aw (Az X.prog X.w) X.A (eval a X.env) (λv s₁=>Aw (Az X.prog X.w) X.A (eval b X.env) (λu s₂=>Aw (Az X.prog X.w) X.A (f v u) Q X.xe s₂) X.xe s₁) X.xe s:=by
 refine thn (ha pins s σ H _ I h) λv s1 ⟨x,H1,I1,r1,q1⟩=>?_
 refine thn (hb pins s1 σ H1 _ I1 q1) λu s2 ⟨y,H2,I2,r2,q2⟩=>?_
 exact hf v u s2 x y H2 I2 r1 r2 q2
theorem pe_op{op:Operator}{r:R2}(ho:OpR X (CS op) r)(ha:PE X a ta)(hb:PE X b tb):PE X (.BinOp a op b pos) (tOp r ta tb):=by intro pins s σ H Q I h;exact wpAny_BinOp (binT ha hb I h λv u s2 x y H2 I2 rx ry q=>ho pins s2 σ H2 x y v u Q I2 rx ry q)
theorem pe_un{op:UnaryOp}{r:V->Hp->VK->Prop}(ho:UnR X (unaryOp op) r)(ha:PE X a ta):PE X (.UnaryOp op a pos) (tUn r ta):=by intro pins s σ H Q I h;exact UnaryOp_ (thn (ha pins s σ H _ I h) λv s1 ⟨x,H1,I1,r1,q1⟩=>ho pins s1 σ H1 x v Q I1 r1 q1)
theorem opI{f:Ab -> Ab -> Sem Ab}{C:Int -> Int -> Prop}{g:Int -> Int -> Int}
  (rule:∀(i j:Int) (t u:Tok) (s:Ac) (Q:Ab->Ac->Prop) (E:Ab->Ac->Prop),C i j->Q (.int (g i j) s.toks) { s with toks:=s.toks+1 }->Aw (Az X.prog X.w) X.A (f (.int i t) (.int j u)) Q E s) :
  OpR X f (rI C λi j=>.int (g i j)):=by
 intro pins s σ H x y v u Q I rx ry h;obtain⟨i,j,rfl,rfl,hc,q⟩:=h;obtain⟨t,rfl⟩:=rx;obtain⟨t',rfl⟩:=ry;exact rule i j t t' s _ _ hc ⟨.int (g i j),H,I.tok _,⟨_,rfl⟩,q⟩
theorem opI0{f:Ab -> Ab -> Sem Ab}{g:Int -> Int -> Int}
  (rule:∀(i j:Int) (t u:Tok) (s:Ac) (Q:Ab->Ac->Prop) (E:Ab->Ac->Prop),Q (.int (g i j) s.toks) { s with toks:=s.toks+1 }->Aw (Az X.prog X.w) X.A (f (.int i t) (.int j u)) Q E s) :
  OpR X f (rI0 λi j=>.int (g i j)):=by
 intro pins s σ H x y v u Q I rx ry h;obtain⟨i,j,rfl,rfl,q⟩:=h;obtain⟨t,rfl⟩:=rx;obtain⟨t',rfl⟩:=ry;exact rule i j t t' s _ _ ⟨.int (g i j),H,I.tok _,⟨_,rfl⟩,q⟩
theorem opB0{f:Ab -> Ab -> Sem Ab}{g:Int -> Int -> Bool}
  (rule:∀(i j:Int) (t u:Tok) (s:Ac) (Q:Ab->Ac->Prop) (E:Ab->Ac->Prop),Q (.bool (g i j)) s->Aw (Az X.prog X.w) X.A (f (.int i t) (.int j u)) Q E s) :
  OpR X f (rI0 λi j=>.bl (g i j)):=by
 intro pins s σ H x y v u Q I rx ry h;obtain⟨i,j,rfl,rfl,q⟩:=h;obtain⟨t,rfl⟩:=rx;obtain⟨t',rfl⟩:=ry;exact rule i j t t' s _ _ ⟨.bl (g i j),H,I,rfl,q⟩
noncomputable def CDiv(i j:Int):Prop:=0<j/\j<1073741824
noncomputable def CPow(i j:Int):Prop:=0<=j/\j<=1000000/\i.natAbs<2 ^ 64
noncomputable def CMul(i j:Int):Prop:=(-(2 ^ 64)<i/\i<2 ^ 64)∨(-(2 ^ 64)<j/\j<2 ^ 64)
theorem CMul.ok{i j:Int}(h:CMul i j):IntMulOk i j:=by
 rcases h with⟨h1,h2⟩ |⟨h1,h2⟩
 .exact .of_left (intBits_le_64 h1 h2)
 .exact .of_right (intBits_le_64 h1 h2)
theorem zaH:OpR X (CS .Add) (rI0 λi j=>.int (i+j)):=opI0 λ_ _ _ _ _ _ _ q=>add_int q
theorem zaE:OpR X (CS .Sub) (rI0 λi j=>.int (i-j)):=opI0 λ_ _ _ _ _ _ _ q=>sub_int q
theorem zaZ:OpR X (CS .Mult) (rI CMul λi j=>.int (i*j)):=opI λ_ _ _ _ _ _ _ hc q=>mul_int q hc.ok
theorem zdc:OpR X (CS .FloorDiv) (rI CDiv λi j=>.int (i / j)):=opI λi j _ _ _ _ _ hc q=>by have h1:(0:Int)<j:=hc.1;have h2:j<1073741824:=hc.2;exact floordiv_int (by lia) (by rw[Int.fdiv_eq_ediv_of_nonneg i (by lia)];exact q) (.inl (PyProof.noPylong_small (by lia)))
theorem za6:OpR X (CS .Mod) (rI (λ_ j=>0<j) λi j=>.int (i % j)):=opI λi j _ _ _ _ _ hc q=>by have h1:(0:Int)<j:=hc;exact mod_int' (by lia) (by rw[Int.fmod_eq_emod_of_nonneg i (by lia)];exact q)
theorem zf6:OpR X (CS .Pow) (rI CPow λi j=>.int (i ^ j.toNat)):=opI λ_ _ _ _ _ _ _ hc q=>pow_int_small hc.1 hc.2.1 hc.2.2 q
theorem unI{f:Ab -> Sem Ab}{g:Int -> Int}
  (rule:∀(i:Int) (t:Tok) (s:Ac) (Q:Ab->Ac->Prop) (E:Ab->Ac->Prop),Q (.int (g i) s.toks) { s with toks:=s.toks+1 }->Aw (Az X.prog X.w) X.A (f (.int i t)) Q E s) :
  UnR X f (rU λi=>.int (g i)):=by
 intro pins s σ H x v Q I rx h;obtain⟨i,rfl,q⟩:=h;obtain⟨t,rfl⟩:=rx;exact rule i t s _ _ ⟨.int (g i),H,I.tok _,⟨_,rfl⟩,q⟩
theorem zlf:UnR X (unaryOp .USub) (rU λi=>.int (-i)):=unI λ_ _ _ _ _ q=>neg_int q
end
noncomputable def scal:V->V->Bool
 |.non,.non=>true |.non,.int _=>true |.int _,.non=>true |.non,.bl _=>true |.bl _,.non=>true |.non,.str _=>true |.str _,.non=>true
 |.int _,.int _=>true |.bl _,.bl _=>true |.str _,.str _=>true |.byt _,.byt _=>true
 |.int _,.str _=>true |.str _,.int _=>true |.bl _,.str _=>true |.str _,.bl _=>true
 |_,_=>false
noncomputable def rEq:R2:=λx y H Q=>scal x y=true/\Q (.bl (decide (x=y))) H
noncomputable def rNe:R2:=λx y H Q=>scal x y=true/\Q (.bl (!decide (x=y))) H
theorem zje{i j:Int}:decide (V.int i=V.int j)=(i == j):=by rw[Dy];simp
theorem zku{i j:Bool}:decide (V.bl i=V.bl j)=(i == j):=by rw[Dy];simp
theorem zjd{i j:Str}:decide (V.str i=V.str j)=(i == j):=by rw[Dy];simp
theorem zjf{i j:Array UInt8}:decide (V.byt i=V.byt j)=(i.toList == j.toList):=by
 rw[Dy]
 cases i
 cases j
 simp
section
variable {X:Cx}{a b c:Expr}{ta tb tc:TE}{pos:Pos}
theorem zaB{pins:List (Addr×Obj)}{σ:St}{H:Hp}{s:Ac}{Q:VK}{k k':Bool}(I:Inv X pins σ H s)(q:Q (.bl k) H)(e:k=k'):EP X pins σ Q (.bool k') s:=by subst e;exact⟨.bl k,H,I,rfl,q⟩
theorem op_eq:OpR X (BH .Eq) rEq:=by
 intro pins s σ H x y v u Q I rx ry h;obtain⟨hs,q⟩:=h
 cases x with
 |non =>
  cases rx
  cases y with
  |non=>cases ry;exact PySem.EqNone.eq_none_none (zaB I q (by simp))
  |bl j=>cases ry;exact PySem.EqNone.eq_none_bool (zaB I q (by simp))
  |int j=>obtain⟨t',rfl⟩:=ry;exact PySem.EqNone.eq_none_int (zaB I q (by simp))
  |str j=>obtain⟨t',rfl⟩:=ry;exact PySem.EqNone.eq_none_str (zaB I q (by simp))
  |_=>exact absurd (show false=true from hs) AA
 |bl i =>
  cases rx
  cases y with
  |non=>cases ry;exact PySem.EqNone.eq_bool_none (zaB I q (by simp))
  |bl j=>cases ry;exact eq_bool (zaB I q zku)
  |str j=>obtain⟨t',rfl⟩:=ry;exact PySem.EqMixed.eq_bool_str (zaB I q (by simp))
  |_=>exact absurd (show false=true from hs) AA
 |int i =>
  obtain⟨t,rfl⟩:=rx
  cases y with
  |non=>cases ry;exact PySem.EqNone.eq_int_none (zaB I q (by simp))
  |int j=>obtain⟨t',rfl⟩:=ry;exact eq_int (zaB I q zje)
  |str j=>obtain⟨t',rfl⟩:=ry;exact PySem.EqMixed.eq_int_str (zaB I q (by simp))
  |_=>exact absurd (show false=true from hs) AA
 |str i =>
  obtain⟨t,rfl⟩:=rx
  cases y with
  |non=>cases ry;exact PySem.EqNone.eq_str_none (zaB I q (by simp))
  |bl j=>cases ry;exact PySem.EqMixed.eq_str_bool (zaB I q (by simp))
  |int j=>obtain⟨t',rfl⟩:=ry;exact PySem.EqMixed.eq_str_int (zaB I q (by simp))
  |str j=>obtain⟨t',rfl⟩:=ry;exact eq_str (zaB I q zjd)
  |_=>exact absurd (show false=true from hs) AA
 |byt i =>
  obtain⟨t,rfl⟩:=rx
  cases y with
  |byt j=>obtain⟨t',rfl⟩:=ry;exact W.eq_bytes (zaB I q zjf)
  |_=>exact absurd (show false=true from hs) AA
 |_=>cases y <;> exact absurd (show false=true from hs) AA
theorem op_ne:OpR X (BH .NotEq) rNe:=by
 intro pins s σ H x y v u Q I rx ry h;obtain⟨hs,q⟩:=h
 cases x with
 |non =>
  cases rx
  cases y with
  |non=>cases ry;exact PySem.EqNone.ne_none_none (zaB I q (by simp))
  |bl j=>cases ry;exact PySem.EqNone.ne_none_bool (zaB I q (by simp))
  |int j=>obtain⟨t',rfl⟩:=ry;exact PySem.EqNone.ne_none_int (zaB I q (by simp))
  |str j=>obtain⟨t',rfl⟩:=ry;exact PySem.EqNone.ne_none_str (zaB I q (by simp))
  |_=>exact absurd (show false=true from hs) AA
 |bl i =>
  cases rx
  cases y with
  |non=>cases ry;exact PySem.EqNone.ne_bool_none (zaB I q (by simp))
  |bl j=>cases ry;exact ne_bool (zaB I q (congrArg not zku))
  |str j=>obtain⟨t',rfl⟩:=ry;exact PySem.EqMixed.ne_bool_str (zaB I q (by simp))
  |_=>exact absurd (show false=true from hs) AA
 |int i =>
  obtain⟨t,rfl⟩:=rx
  cases y with
  |non=>cases ry;exact PySem.EqNone.ne_int_none (zaB I q (by simp))
  |int j=>obtain⟨t',rfl⟩:=ry;exact ne_int (zaB I q (congrArg not zje))
  |str j=>obtain⟨t',rfl⟩:=ry;exact PySem.EqMixed.ne_int_str (zaB I q (by simp))
  |_=>exact absurd (show false=true from hs) AA
 |str i =>
  obtain⟨t,rfl⟩:=rx
  cases y with
  |non=>cases ry;exact PySem.EqNone.ne_str_none (zaB I q (by simp))
  |bl j=>cases ry;exact PySem.EqMixed.ne_str_bool (zaB I q (by simp))
  |int j=>obtain⟨t',rfl⟩:=ry;exact PySem.EqMixed.ne_str_int (zaB I q (by simp))
  |str j=>obtain⟨t',rfl⟩:=ry;exact ne_str (zaB I q (congrArg not zjd))
  |_=>exact absurd (show false=true from hs) AA
 |byt i =>
  obtain⟨t,rfl⟩:=rx
  cases y with
  |byt j=>obtain⟨t',rfl⟩:=ry;exact W.ne_bytes (zaB I q (congrArg not zjf))
  |_=>exact absurd (show false=true from hs) AA
 |_=>cases y <;> exact absurd (show false=true from hs) AA
theorem op_lt:OpR X (BH .Lt) (rI0 λi j=>.bl (decide (i<j))):=opB0 λ_ _ _ _ _ _ _ q=>lt_int q
theorem op_gt:OpR X (BH .Gt) (rI0 λi j=>.bl (decide (j<i))):=opB0 λ_ _ _ _ _ _ _ q=>gt_int q
theorem op_ge:OpR X (BH .GtE) (rI0 λi j=>.bl (decide (j<=i))):=opB0 λ_ _ _ _ _ _ _ q=>ge_int q
theorem ziM:OpR X (BH .Is) (λx y H Q=>y=.non/\Q (.bl (decide (x=.non))) H):=by
 intro pins s σ H x y v u Q I rx ry h;obtain⟨rfl,q⟩:=h
 cases ry
 refine is_none_gen (zaB I q ?_)
 cases x <;> first
  | (cases rx;rfl)
  | (obtain⟨t,rfl⟩:=rx;rfl)
theorem zfh:OpR X (BH .IsNot) (λx y H Q=>y=.non/\Q (.bl (!decide (x=.non))) H):=by
 intro pins s σ H x y v u Q I rx ry h;obtain⟨rfl,q⟩:=h
 cases ry
 refine isnot_none_gen (zaB I q ?_)
 cases x <;> first
  | (cases rx;rfl)
  | (obtain⟨t,rfl⟩:=rx;rfl)
theorem zap(b:Expr){op:CmpOp}(h:op≠.In:=by decide)(h2:op≠.NotIn:=by decide):behindInMarks op b=false:=by
 have e1:(op == CmpOp.In)=false:=by cases op <;> first |rfl |exact absurd rfl h
 have e2:(op == CmpOp.NotIn)=false:=by cases op <;> first |rfl |exact absurd rfl h2
 cases b <;> simp[behindInMarks,e1,e2]
theorem za1{op:CmpOp}{r:R2}(ho:OpR X (BH op) r)(ha:PE X a ta)(hb:PE X b tb)(hm:behindInMarks op b=false):PE X (.Compare a [op] [b] pos) (tOp r ta tb):=by intro pins s σ H Q I h;exact wpAny_Compare1 (binT ha hb I h λv u s2 x y H2 I2 rx ry q=>ho pins s2 σ H2 x y v u Q I2 rx ry q) hm
noncomputable def tTest(t:TE):TT:=λσ H Q=>t σ H λx H'=>∃k,x=.bl k/\Q k H'
theorem zau{op:CmpOp}{r:R2}(ho:OpR X (BH op) r)(ha:PE X a ta)(hb:PE X b tb)(hm:behindInMarks op b=false):PT X (.Compare a [op] [b] pos) (tTest (tOp r ta tb)):=by
 intro pins s σ H Q I h
 refine wpAny_isTrue_Compare1 (thn (ha pins s σ H _ I h) λv s1 ⟨x,H1,I1,r1,q1⟩=>thn (hb pins s1 σ H1 _ I1 q1) λu s2 ⟨y,H2,I2,r2,q2⟩ =>
  thn (ho pins s2 σ H2 x y v u _ I2 r1 r2 q2) λc s3 ⟨z,H3,I3,r3,k,e,q3⟩=>?_) hm
 subst e
 cases r3
 exact BQ ⟨H3,I3,q3⟩
noncomputable def TruV(K:W.Frag)(x:V)(H:Hp)(k:Bool):Prop :=
 match x with
 |.non=>k=false
 |.bl b=>k=b
 |.int i=>k=(i != 0)
 |.str y=>y.length<=sizeLine/\k=((y.length:Int) != 0)
 |.byt y=>y.size<=sizeLine/\k=((y.size:Int) != 0)
 |.ref p=>(∃xs,SqL K H p xs/\k=!xs.isEmpty)∨(∃xs,SqT K H p xs/\k=!xs.isEmpty)∨∃kvs,H p=some (.dK kvs)/\k=!kvs.isEmpty
 |_=>False
theorem zh8{κ:Type}{kvs:List (κ×V)}{vs:List (κ×Ab)}(r:KV kvs vs):(!vs.isEmpty)=!kvs.isEmpty:=by
 cases r <;> rfl
theorem zeS{xs:List V}{its:List Ab}(r:Vals xs its):(!its.toArray.isEmpty)=!xs.isEmpty:=by
 cases r <;> simp
theorem zgh:(sizeLine:Nat)<2 ^ 63:=by rw[sizeLine_eq];decide
theorem zlh:TruR X (λx H Q=>∃k,TruV X.K x H k/\Q k H):=by
 intro pins s σ H x v Q I rx h;obtain⟨k,e,q⟩:=h;have hl:=zgh;have hs:sizeLine=16777216:=sizeLine_eq
 cases x with
 |non =>
  cases rx
  have e':k=false:=e;subst e';exact truthy_none ⟨H,I,q⟩
 |bl b =>
  cases rx
  have e':k=b:=e;subst e';exact BQ ⟨H,I,q⟩
 |int i =>
  obtain⟨t,rfl⟩:=rx;have e':k=(i != 0):=e;subst e';exact PySem.P.truthy_int ⟨H,I,q⟩
 |str y =>
  obtain⟨t,rfl⟩:=rx;obtain⟨hy,e'⟩:y.length<=sizeLine/\k=((y.length:Int) != 0):=e;subst e';exact PySem.P.truthy_str (by lia) ⟨H,I.tok _,q⟩
 |byt y =>
  obtain⟨t,rfl⟩:=rx;obtain⟨hy,e'⟩:y.size<=sizeLine/\k=((y.size:Int) != 0):=e;subst e';exact W.truthy_bytes (by lia) ⟨H,I.tok _,q⟩
 |ref p =>
  cases rx
  have e':(∃xs,SqL X.K H p xs/\k=!xs.isEmpty)∨(∃xs,SqT X.K H p xs/\k=!xs.isEmpty)∨∃kvs,H p=some (.dK kvs)/\k=!kvs.isEmpty:=e;rcases e' with⟨xs,hx,e'⟩ |⟨xs,hx,e'⟩ |⟨kvs,hx,e'⟩
  .subst e';obtain⟨its,r,pl,hz⟩:=I.list hx;have hlen:=r.length;exact wpAny_truthy_list pl.isList (by simp only[Ap];lia) ⟨H,I.tok _,by rw[zeS r];exact q⟩
  .subst e';obtain⟨its,r,pl,hz⟩:=I.tuple hx;have hlen:=r.length;exact truthy_tuple pl (by simp only[Ap];lia) ⟨H,I.tok _,by rw[zeS r];exact q⟩
  .subst e';obtain⟨hz,hS,vs,r,m⟩:kvs.length<=sizeLine/\(p == Cn)=false/\∃vs,KV kvs vs/\s.heap.DictOf (zaO X.prog X.w) p vs:=I.hok p _ hx;have hlen:kvs.length=vs.length:=Dr r;exact wpAny_truthy_dict hS m (by lia) ⟨H,I.tok _,by rw[zh8 r];exact q⟩
 |_=>exact (show False from e).elim
theorem zjG(ha:PE X a ta)(he:∀whole, isTrue a X.env whole=(do let v <- whole; standAt a.pos; Dw [v] (truthy v))) :
  PT X a (λσ H Q=>ta σ H λx H'=>∃k,TruV X.K x H' k/\Q k H'):=by
 intro pins s σ H Q I h;exact isTrue_plain (thn (ha pins s σ H _ I h) λv s1 ⟨x,H1,I1,r1,q1⟩=>zlh pins s1 σ H1 x v Q I1 r1 q1) (he _)
theorem vals1{x:V}{us:List Ab}(r:Vals [x] us):∃u,us=[u]/\RelV x u:=by
 cases r with
 |cons r1 r2=>cases r2;exact⟨_,rfl,r1⟩
theorem vals2{x y:V}{us:List Ab}(r:Vals [x,y] us):∃u w',us=[u,w']/\RelV x u/\RelV y w':=by
 cases r with
 |cons r1 r2 =>
  cases r2 with
  |cons r3 r4=>cases r4;exact⟨_,_,rfl,r1,r3⟩
theorem zhO:CallR X (.builtin "abs") (λxs H Q=>∃i,xs=[.int i]/\Q (.int (if i<0 then -i else i)) H):=by intro pins s σ H xs us Q I r h;obtain⟨i,rfl,q⟩:=h;obtain⟨u,rfl,t,rfl⟩:=vals1 r;exact call_abs_int λu tk=>⟨.int (if i<0 then -i else i),H,I.tok _,⟨_,rfl⟩,q⟩
theorem zjp (hc:X.calm=true):CallR X (.builtin "max") (λxs H Q=>∃i j,xs=[.int i,.int j]/\Q (.int (if j > i then j else i)) H):=by
 intro pins s σ H xs us Q I r h;obtain⟨i,j,rfl,q⟩:=h;obtain⟨u,w',rfl,⟨t,rfl⟩,⟨t',rfl⟩⟩:=vals2 r;refine max_two_ints (I.ok.hd hc) λh' tk k=>⟨_,H,I.kept k,?_,q⟩
 by_cases hj:j > i
 .rw[if_pos hj,if_pos hj];exact⟨_,rfl⟩
 .rw[if_neg hj,if_neg hj];exact⟨_,rfl⟩
theorem zjo (hc:X.calm=true):CallR X (.builtin "min") (λxs H Q=>∃i j,xs=[.int i,.int j]/\Q (.int (if j<i then j else i)) H):=by
 intro pins s σ H xs us Q I r h;obtain⟨i,j,rfl,q⟩:=h;obtain⟨u,w',rfl,⟨t,rfl⟩,⟨t',rfl⟩⟩:=vals2 r;refine min_two_ints (I.ok.hd hc) λh' tk k=>⟨_,H,I.kept k,?_,q⟩
 by_cases hj:j<i
 .rw[if_pos hj,if_pos hj];exact⟨_,rfl⟩
 .rw[if_neg hj,if_neg hj];exact⟨_,rfl⟩
theorem zcv:CallR X (.type "int") (λxs H Q=>(∃i,xs=[.int i]/\Q (.int i) H)∨∃k,xs=[.bl k]/\Q (.int (if k then 1 else 0)) H):=by
 intro pins s σ H xs us Q I r h;rcases h with⟨i,rfl,q⟩ |⟨k,rfl,q⟩
 .obtain⟨u,rfl,t,rfl⟩:=vals1 r;exact call_int_int ⟨.int i,H,I,⟨_,rfl⟩,q⟩
 .obtain⟨u,rfl,r1⟩:=vals1 r
  cases r1
  exact call_int_bool ⟨.int (if k then 1 else 0),H,I.tok _,⟨_,rfl⟩,q⟩
end
structure ObjM (h:Heap) (x dx C:Addr) (mA:Str->Option Ab):Prop where
 obj:h.get? x=some (W.instObj C dx)
 ns:h.Ns1 dx mA
 ne:dx≠x
theorem ziV{h:Heap}{dx:Addr}{mA:Str->Option Ab}(n:h.Ns1 dx mA):∃od,h.get? dx=some od/\∀name,W.lookIn name od=some (mA name):=by
 obtain⟨o,es,ep,ho,hd,hk,_,hm⟩:=n;refine⟨o,ho,λname=>?_⟩;have e:=hm name;unfold nsFind findBy at e;rw[<- Array.find?_toList]at e;unfold W.lookIn;rw[hd];dsimp only;split
 .rename_i y q
  rw[q]at e;exact congrArg some e
 .rename_i q
  rw[q]at e
  have a:es.toList.any (·.refKey)=false:=by rw[List.any_eq_false];intro y hy;obtain⟨z,t,hkey⟩:=hk y (Array.mem_toList_iff.mp hy);simp[DictEntry.refKey,hkey]
  have a':¬ es.toList.any (·.refKey)=true:=by rw[a];exact AA
  rw[if_neg a'];exact congrArg some e
theorem ObjM.look{h:Heap}{x dx C:Addr}{mA:Str->Option Ab}(I:ObjM h x dx C mA):∃od,W.InstAt h x (W.instObj C dx) C (some od)/\∀name,W.lookIn name od=some (mA name) :=
 let ⟨od,ho,hl⟩:=ziV I.ns
 ⟨od,⟨I.obj,rfl,rfl,ho⟩,hl⟩
section
variable {prog:AH}{w:Bc}{A:AQ}{E:Ab->Ac->Prop}{s:Ac}{K:W.Frag}{x dx C f:Addr}{mA:Str->Option Ab}{name:Str}{v:Ab}
end
section
variable {P:AH}{w:Bc}{H H':Hp}{h h':Heap}{a C dx:Addr}{fs fs':List (Str×V)}
theorem zk4(hok:HOk P w H h)(e:H a=some (.ins C dx fs)):∃mA,ObjM h a dx C mA/\(∀f,RelO (fs.lookup f) (mA f))/\PySem.Within mA (fs.map (·.1))/\fs.length<=1000/\H dx=some (.own a):=by obtain⟨d,z,ne,ob,mA,n,r,q⟩:=(show ObjOk P w H h a (.ins C dx fs) from hok a _ e);exact⟨mA,⟨ob,n,ne⟩,r,q,z,d⟩
end
structure Cls (K:W.Frag) (C:Addr):Prop where
 pg:W.plainGet K C Str.empty=true
 hd:W.hasDictIn K C=true
 po:W.plainOver K C=true
 sa:W.findIn K (.ref C) "__setattr__" = some (some (.builtin "object.__setattr__"))
theorem Cls.get{K:W.Frag}{C:Addr}(c:Cls K C)(f:Str):W.plainGet K C f=true:=c.pg
structure Con (K:W.Frag) (C:Addr) (f:Str) (v:V) (u:Ab):Prop where
 at_:W.findIn K (.ref C) f=some (some u)
 rel:RelV v u
 get:W.specialIn K u "__get__" = some none
 cp:W.copiedNames.contains f=false
structure Meth (K:W.Frag) (C:Addr) (m:Str) (f:Addr):Prop where
 at_:W.findIn K (.ref C) m=some (some (.ref f))
 fn:W.isFn K (.ref f)=true
 kp:W.keepIn K (.ref f)=true
section
variable {X:Cx}{pins:List (Addr×Obj)}{σ:St}{H:Hp}{s:Ac}{a C dx:Addr}{fs:List (Str×V)}{f:Str}{v:V}{A:AQ}{E:Ab->Ac->Prop}
end
section
variable {X:Cx}{o e value:Expr}{f:Str}{pos pos' tpos:Pos}{ta tv:TE}
end
section
variable {X:Cx}{pins:List (Addr×Obj)}{σ:St}{H:Hp}{s:Ac}{A:AQ}{E:Ab->Ac->Prop}{Q:Ab->Ac->Prop}{c:Ab}{b:Bool}
inductive TyOf (K:W.Frag) (H:Hp):V->Ab->Prop where
  |non:TyOf K H .non (.type "NoneType")
  |bl (x:Bool):TyOf K H (.bl x) (.type "bool")
  |int (i:Int):TyOf K H (.int i) (.type "int")
  |str (x:Str):TyOf K H (.str x) (.type "str")
  |flt (x:UInt64):TyOf K H (.flt x) (.type "float")
  |lst {a:Addr} {xs:List V} (e:H a=some (.lst xs)):TyOf K H (.ref a) (.type "list")
  |frz {a:Addr} {o:Obj} {xs:List V} (e:H a=some (.frz o (.lst xs))):TyOf K H (.ref a) (.type "list")
  |tup {a:Addr} {xs:List V} (e:H a=some (.tup xs)):TyOf K H (.ref a) (.type "tuple")
  |dK {a:Addr} {kvs:List (Key×V)} (e:H a=some (.dK kvs)):TyOf K H (.ref a) (.type "dict")
  |dT {a:Addr} {kvs:List (List Key×V)} (e:H a=some (.dT kvs)):TyOf K H (.ref a) (.type "dict")
  |ins {a C dx:Addr} {fs:List (Str × V)} (e:H a=some (.ins C dx fs)) (cl:Cls K C) (ha:W.findIn K (.ref C) "__class__" = some (some (.builtin "object.__class__")))
      (hn:W.specialIn K (.builtin "object.__class__") "__get__" = some (some (.builtin "getset_descriptor.__get__"))) (htk:W.takesIn K (.builtin "object.__class__")=some true)
      (hm:W.mroIn K C (.type "object")=some true):TyOf K H (.ref a) (.ref C)
theorem zi2{x:V}{u t:Ab}(I:Inv X pins σ H s)(rx:RelV x u)(ty:TyOf X.K H x t)(e:W.kitOne X.K t c=some b)(h:∀tk, Q (.bool b) { s with toks := tk }) :
  Aw (Az X.prog X.w) A (call (.builtin "isinstance") [u,c]) Q E s:=by
 cases ty with
 |non=>cases (show u=BY from rx);exact C6 W.kitx_none I.kIn Co e (λz=>nomatch z) h
 |bl y=>cases (show u=Value.bool y from rx);exact C6 W.kitx_bool I.kIn Co e (λz=>nomatch z) h
 |int i=>obtain⟨t,q⟩:=(show ∃t,u=Value.int i t from rx);cases q;exact C6 W.kitx_int I.kIn Co e (λz=>nomatch z) h
 |str y=>obtain⟨t,q⟩:=(show ∃t,u=Value.str y t from rx);cases q;exact C6 W.kitx_str I.kIn Co e (λz=>nomatch z) h
 |flt y=>obtain⟨t,q⟩:=(show ∃t,u=Value.float y t from rx);cases q;exact C6 W.kitx_float I.kIn Co e (λz=>nomatch z) h
 |@lst a xs ea =>
  cases (show u=Value.ref a from rx)
  obtain⟨_,_,n,_,h1⟩:=(show ObjOk X.prog X.w H s.heap a (.lst xs) from I.hok a _ ea);exact C6 W.kitx_list I.kIn ⟨_,h1,rfl⟩ e (λz=>nomatch z) h
 |@frz a ob xs ea =>
  cases (show u=Value.ref a from rx)
  obtain⟨_,_,_,n,_,h1⟩:=(show ObjOk X.prog X.w H s.heap a (.frz ob (.lst xs)) from I.hok a _ ea);exact C6 W.kitx_list I.kIn ⟨_,h1,rfl⟩ e (λz=>nomatch z) h
 |@tup a xs ea =>
  cases (show u=Value.ref a from rx)
  obtain⟨_,_,_,p⟩:=(show ObjOk X.prog X.w H s.heap a (.tup xs) from I.hok a _ ea);obtain⟨o,h1,h2,_⟩:=p;exact C6 W.kitx_tuple I.kIn ⟨o,h1,h2⟩ e (λz=>nomatch z) h
 |@dK a kvs ea =>
  cases (show u=Value.ref a from rx)
  obtain⟨_,_,vs,_,p⟩:=(show ObjOk X.prog X.w H s.heap a (.dK kvs) from I.hok a _ ea);obtain⟨o,es,ep,h1,h2,_⟩:=p;exact C6 W.kitx_dict I.kIn ⟨o,h1,h2.1⟩ e (λz=>nomatch z) h
 |@dT a kvs ea =>
  cases (show u=Value.ref a from rx)
  obtain⟨_,_,xs,_,o,es,ep,h1,h2,_⟩:=(show ObjOk X.prog X.w H s.heap a (.dT kvs) from I.hok a _ ea);exact C6 W.kitx_dict I.kIn ⟨o,h1,h2.1⟩ e (λz=>nomatch z) h
 |@ins a C dx fs ea cl ha hn htk hm =>
  cases (show u=Value.ref a from rx)
  obtain⟨mA,O,_⟩:=zk4 I.hok ea;obtain⟨od,J,_⟩:=O.look;exact C6 (W.kitx_own (cl.get _) cl.hd ha hn htk hm) I.kIn J e (λz=>nomatch z) h
end
structure Room (k:Nat) (A:AQ):Prop where
 hd:A.handled=none
 dp:A.depth+3*k+5<recursionLimit
 un:A.units+16*k+200<cLine
theorem Room.mono{j k:Nat}{A:AQ}(r:Room k A)(h:j<=k):Room j A:=⟨r.hd,by have:=r.dp;lia,by have:=r.un;lia⟩
theorem Room.deeper{k:Nat}{A:AQ}(r:Room (k+1) A)(env:Env):Room k (A.deeper env) :=
 ⟨r.hd,by have:=r.dp;show A.depth+1+3*k+5<_;lia,by have:=r.un;show A.units+3+16*k+200<_;lia⟩
theorem Room.in1{k:Nat}{A:AQ}(r:Room (k+1) A):Room k A.in1 :=
 ⟨r.hd,by have:=r.dp;show A.depth+3*k+5<_;lia,by have:=r.un;show A.units+1+16*k+200<_;lia⟩
theorem Room.depth{k:Nat}{A:AQ}(r:Room k A):A.depth<recursionLimit:=by have:=r.dp;lia
theorem Room.units{k:Nat}{A:AQ}(r:Room k A):A.units+64<cLine:=by have:=r.un;lia
theorem Room.units0{k:Nat}{A:AQ}(r:Room k A):A.units<cLine:=by have:=r.un;lia
noncomputable def tNil:TA:=λ_ H Q=>Q [] H
noncomputable def tCons(ta:TE)(tr:TA):TA:=λσ H Q=>ta σ H λx H1=>tr σ H1 λxs H2=>Q (x::xs) H2
section
variable {X:Cx}{e:Expr}{es:List Expr}{te:TE}{t:TA}{pos:Pos}
theorem zac:PA X [] tNil:=λ_ _ _ _ H Q I h=>Calls.spliced_nil ⟨[],H,I,.nil,h⟩
theorem zah(ha:PE X e te)(hr:PA X es t)(hs:Bq (e::es) X.env=(false,eval e X.env)::Bq es X.env:=by rfl):PA X (e::es) (tCons te t):=by intro pos pins s σ H Q I h;rw[hs];show Aw _ _ (spliced ((false,eval e X.env)::backTo pos (Bq es X.env))) _ _ s;refine Calls.spliced_cons (thn (ha pins s σ H _ I h) λu s1 ⟨x,H1,I1,r1,q1⟩=>?_);exact thn (hr pos pins s1 σ H1 _ I1 q1) λus s2 ⟨xs,H2,I2,r2,q2⟩=>⟨x::xs,H2,I2,.cons r1 r2,q2⟩
noncomputable def tTup(t:TA):TE:=λσ H Q=>t σ H λxs H1=>xs.length<=sizeLine/\∀p,H1 p=none->Q (.ref p) (upd H1 p (.tup xs))
noncomputable def tLst(t:TA):TE:=λσ H Q=>t σ H λxs H1=>xs.length<=sizeLine/\∀p,H1 p=none->Q (.ref p) (upd H1 p (.lst xs))
theorem zaK{x1}(h:PA X es t):PE X (.Tuple es x1 pos) (tTup t):=by intro pins s σ H Q I hq;refine wpAny_Tuple_spliced (thn (h pos pins s σ H _ I hq) λus s1 ⟨xs,H1,I1,r,z,q⟩=>⟨by rw[<- r.length];exact z,?_⟩);have hf:H1 s1.heap.objs.size=none:=I1.hok.fresh (An _);refine⟨.ref s1.heap.objs.size,upd H1 s1.heap.objs.size (.tup xs),I1.laid (t':=s1.toks) (λb u e=>Ak _ e) (An _) ?_,rfl,q _ hf⟩;exact⟨z,us,r,⟨_,AM _ rfl,rfl,_,rfl⟩⟩
theorem zaU(h:PA X es t):PE X (.List es pos) (tLst t):=by intro pins s σ H Q I hq;refine wpAny_List_spliced (thn (h pos pins s σ H _ I hq) λus s1 ⟨xs,H1,I1,r,z,q⟩=>⟨by rw[<- r.length];exact z,?_⟩);have hf:H1 s1.heap.objs.size=none:=I1.hok.fresh (An _);refine⟨.ref s1.heap.objs.size,upd H1 s1.heap.objs.size (.lst xs),I1.laid (t':=s1.toks) (λb u e=>Ak _ e) (An _) ?_,rfl,q _ hf⟩;exact⟨z,us,0,r,AM _ rfl⟩
end
noncomputable abbrev Sp:=List V->Hp->VK->XK->Prop
noncomputable abbrev CXT:=List Env->Hp->Ac->XK->Ab->Ac->Prop
structure Env0 (P:AH) (w:Bc) (K:W.Frag) (mg:Str->Option Ab) (base:Heap) (A:AQ) (outer:List Env) (s:Ac) (H:Hp):Prop where
 frames:A.frames=some outer
 mod:Mod K mg base
 bs:∀b o,base.get? b=some o->s.heap.get? b=some o/\H b=none
 bsz:base.objs.size<=s.heap.objs.size
 funs:s.heap.FunFrames base outer
 frf:∀b∈frs outer,H b=none
 hok:HOk P w H s.heap
 bare:AllBare s.gens
noncomputable def CE(outer:List Env)(P:AH)(w:Bc)(H:Hp)(s:Ac)(Q:VK)(u:Ab)(s':Ac):Prop :=
 ∃v H',s'.os=s.os/\AllBare s'.gens/\Un (frs outer) [] H H' s.heap s'.heap/\HOk P w H' s'.heap/\RelV v u/\Q v H'
noncomputable def CR(CX:CXT)(outer:List Env)(P:AH)(w:Bc)(H:Hp)(s:Ac)(Q:VK)(E:XK)(r:Result)(s':Ac):Prop :=
 match r with
 |.ok (.ret u)=>CE outer P w H s Q u s'
 |.ok _=>False
 |.error e=>CX outer H s E e s'
structure FnOk (P:AH) (w:Bc) (K:W.Frag) (mg:Str->Option Ab) (base:Heap) (CX:CXT) (k:Nat) (f:Addr) (fd:Bx) (ps:List Str) (sp:Sp):Prop where
 len:∀vs H Q E,sp vs H Q E->vs.length=ps.length
 run:∀(A:AQ) (outer:List Env) (s:Ac) (H:Hp) (args:Args) (us:List Ab) (vs:List V) (Q:VK) (E:XK),Room k A->Env0 P w K mg base A outer s H->BindsTo s fd args (ps.zip us)->Vals vs us->sp vs H Q E ->
  CB (Az P w) A (.call (.ref f) args) (CR CX outer P w H s Q E) s
theorem FnOk.imp{P:AH}{w:Bc}{K:W.Frag}{mg:Str -> Option Ab}{base:Heap}{CX:CXT}{k:Nat}{f:Addr}{fd:Bx}{ps:List Str}{sp sp':Sp}(F:FnOk P w K mg base CX k f fd ps sp)
  (h:∀vs H Q E,sp' vs H Q E->sp vs H Q E):FnOk P w K mg base CX k f fd ps sp' :=
 ⟨λvs H Q E q=>F.len vs H Q E (h _ _ _ _ q),λA outer s H args us vs Q E hr he hb hv hs=>F.run A outer s H args us vs Q E hr he hb hv (h _ _ _ _ hs)⟩
theorem Env0.in1{P:AH}{w:Bc}{K:W.Frag}{mg:Str -> Option Ab}{base:Heap}{A:AQ}{outer:List Env}{s:Ac}{H:Hp}(e:Env0 P w K mg base A outer s H) :
  Env0 P w K mg base A.in1 outer s H:=⟨e.frames,e.mod,e.bs,e.bsz,e.funs,e.frf,e.hok,e.bare⟩
section
variable {X:Cx}{pins:List (Addr×Obj)}{σ:St}{H:Hp}{s s':Ac}
theorem Inv.env0(I:Inv X pins σ H s):Env0 X.prog X.w X.K X.mg X.base X.A X.stack s H :=
 ⟨I.ok.frames,I.ok.mod,I.bs,AS I.ok.bsz I.sz,I.stack,I.stkFree,I.hok,I.bare⟩
theorem Inv.after{Q:VK}{u:Ab}(I:Inv X pins σ H s)(h:CE X.stack X.prog X.w H s Q u s'):EP X pins σ Q u s':=by obtain⟨v,H',os,bare,un,hok,r,q⟩:=h;obtain⟨hh,g,d,t,os'⟩:=s';obtain rfl:os'=s.os:=os;exact⟨v,H',I.call (h':=hh) (g':=g) (d':=d) (t':=t) (ch:=[]) un hok bare (λb z=>absurd z (by simp)),r,q⟩
end
noncomputable def tCall(sp:Sp)(dvs:List V)(E:XK)(t:TA):TE:=λσ H Q=>t σ H λvs H1=>sp (vs++dvs) H1 Q E
noncomputable def Binds(K:W.Frag)(fd:Bx)(ps:List Str)(ds:List Ab):Prop :=
 ∀(s:Ac) (us:List Ab),K.In s.heap->(us++ds).length=ps.length->BindsTo s fd ⟨us,[]⟩ (ps.zip (us++ds))
theorem Binds.all{K:W.Frag}{fd:Bx}{ps:List Str}(h:∀us:List Ab,us.length=ps.length->bindArgs fd ⟨us,[]⟩=pure (ps.zip us)):Binds K fd ps []:=λs us _ hl=>by rw[AX]at hl ⊢;exact .of_eq (h us hl)
noncomputable def zjr(CX:CXT)(X:Cx)(E:XK):Prop:=∀(pins:List (Addr×Obj)) (σ:St) (H:Hp) (s:Ac) (e:Ab) (s':Ac),Inv X pins σ H s->CX X.stack H s E e s'->X.xe e s'
section
variable {X:Cx}{CX:CXT}{k:Nat}{f C:Addr}{fd:Bx}{ps:List Str}{sp:Sp}{dvs:List V}{ds:List Ab}{E:XK}{x m:Str}{p pos apos:Pos}{e o:Expr}{es:List Expr}{ta:TE}{t:TA}
theorem zlx{pins:List (Addr × Obj)}{σ : St}{H:Hp}{s:Ac}{Q:VK}{us:List Ab}{vs:List V}(F:FnOk X.prog X.w X.K X.mg X.base CX k f fd ps sp)(hr:Room k X.A)(hb:Binds X.K fd ps ds)(hd:Vals dvs ds)(hx:zjr CX X E)
  (I:Inv X pins σ H s) (r:Vals vs us) (h:sp (vs++dvs) H Q E):Aw (Az X.prog X.w) X.A (call (.ref f) us) (EP X pins σ Q) X.xe s:=by
 have r2:Vals (vs++dvs) (us++ds):=r.append hd;have hl:(us++ds).length=ps.length:=by rw[<- r2.length];exact F.len _ _ _ _ h
 refine wpAny_call (codeAny_mono (F.run X.A X.stack s H ⟨us,[]⟩ (us++ds) (vs++dvs) Q E hr I.env0 (hb s us I.kIn hl) r2 h) λr s' hq=>?_)
 cases r with
 |error e=>exact hx pins σ H s e s' I hq
 |ok fl =>
  cases fl with
  |ret u=>exact I.after hq
  |next=>exact BD hq
  |brk=>exact BD hq
  |cont=>exact BD hq
theorem zkS(F:FnOk X.prog X.w X.K X.mg X.base CX k f fd ps sp)(hr:Room k X.A)(hg:Gl X x)(hm:X.mg x=some (.ref f))(hk:W.keepIn X.K (.ref f)=true)(hb:Binds X.K fd ps ds)(hd:Vals dvs ds)(hx:zjr CX X E)
  (ha:PA X (e::es) t) (hdb:(x == ("__debug__" : Str))=false:=by decide) (he:Bq (e::es) X.env=(false,eval e X.env)::Bq es X.env:=by rfl) (hpl:(backTo pos (Bq es X.env)).any (·.1)=false:=by rfl) :
  PE X (.Call (.Name x p) (e::es) [] pos) (tCall sp dvs E t):=by
 intro pins s σ H Q I h;refine CW (ziW I hg hm ?_ hdb);refine W.callWith_K (h₀:=X.base) I.ok.mod.kin hk (thn (ha pos pins s σ H _ I h) λus s1 ⟨vs,H1,I1,r,q⟩=>⟨I1.kIn,?_⟩) he hpl;exact zlx F hr hb hd hx I1 r q
structure Mk (K:W.Frag) (C f:Addr):Prop where
 makes:W.makesIn K C=true
 init:W.findIn K (.ref C) "__init__" = some (some (.ref f))
 fn:W.isFn K (.ref f)=true
 kp:W.keepIn K (.ref C)=true
end
noncomputable def PK(X:Cx)(kws:List Keyword)(t:TA):Prop :=
 ∀(pos:Pos) (pins:List (Addr×Obj)) (s:Ac) (σ:St) (H:Hp) (Q:List V->Hp->Prop),Inv X pins σ H s->t σ H Q->Aw (Az X.prog X.w) X.A (evalAll ((Ds pos (Ck kws X.env)).map (·.2))) (AP X pins σ Q) X.xe s
section
variable {X:Cx}{CX:CXT}{k:Nat}{f C:Addr}{fd:Bx}{ps ks:List Str}{sp:Sp}{E:XK}{x m:Str}{p pos apos kpos:Pos}{e o:Expr}{es:List Expr}{kws:List Keyword}{te ta:TE}{t tk:TA}{nm:Option Str}
theorem zkk:PK X [] tNil:=λ_ _ _ _ H Q I h=>wpAny_evalAll_nil ⟨[],H,I,.nil,h⟩
theorem ziH(ha:PE X e te)(hr:PK X kws t):PK X (⟨nm,e,kpos⟩::kws) (tCons te t):=by intro pos pins s σ H Q I h;show Aw _ _ (evalAll ((do let v <- eval e X.env;standAt pos;pure v)::(Ds pos (Ck kws X.env)).map (·.2))) _ _ s;refine wpAny_evalAll_cons (Ad (thn (ha pins s σ H _ I h) λu s1 ⟨x,H1,I1,r1,q1⟩=>Ad (CJ (Aj ?_))));exact thn (hr pos pins s1 σ H1 _ I1 q1) λus s2 ⟨xs,H2,I2,r2,q2⟩=>⟨x::xs,H2,I2,.cons r1 r2,q2⟩
structure KBinds (K:W.Frag) (fd:Bx) (ps ks:List Str) (g:List Ab->List Ab->List Ab) (gV:List V->List V->List V):Prop where
 to:∀(s:Ac) (us ws:List Ab),K.In s.heap->(g us ws).length=ps.length->BindsTo s fd ⟨us,ks.zip ws⟩ (ps.zip (g us ws))
 rel:∀{vs:List V} {us:List Ab} {zs:List V} {ws:List Ab},Vals vs us->Vals zs ws->Vals (gV vs zs) (g us ws)
variable {g:List Ab->List Ab->List Ab}{gV:List V->List V->List V}
end
structure FnScope (N P:List Str) (sc:Scope):Prop where
 kind:sc.kind=.function
 co:sc.isCoroutine=false
 gen:sc.isGenerator=false
 nd:N.Nodup
 pre:N.take P.length=P
 par:∀x∈P,sc.names.lookup x=some .local∨sc.names.lookup x=some .cell
 nofree:∀y∈sc.names,y.2≠.free
theorem zgr{kindOf:Str->Option NameKind}{x:Str}:∀{binds:List (Str×Ab)}{m:Str->Option Ab},(∀v,(x,v) ∉ binds)->bindL kindOf binds m x=m x
 |[],_,_=>rfl
 | (n,v)::r,m,h=>by
  unfold bindL;rw[zgr λw hw=>h w (As _ hw)];split
  .have:x≠n:=by rintro rfl;exact h v Av
   simp[this]
  .rfl
theorem zgt{kindOf:Str->Option NameKind}{x:Str}:∀{binds:List (Str×Ab)}{m:Str->Option Ab},(∀v,(x,v) ∉ binds)->bindC kindOf binds m x=m x
 |[],_,_=>rfl
 | (n,v)::r,m,h=>by
  unfold bindC;rw[zgt λw hw=>h w (As _ hw)];split
  .rfl
  .have:x≠n:=by rintro rfl;exact h v Av
   simp[this]
theorem zgs{kindOf:Str -> Option NameKind}{x:Str}{v:Ab} : ∀{P:List Str}{vs:List Ab}{i:Nat}{m:Str -> Option Ab}, P.Nodup -> P[i]? = some x -> vs[i]? = some v -> kindOf x=some .local ->
  bindL kindOf (P.zip vs) m x=some v
 |[],_,_,_,_,h,_,_=>by simp at h
 |_::_,[],_,_,_,_,h,_=>by simp at h
 |p::P,w::vs,0,m,nd,h1,h2,hk=>by
  simp at h1 h2;subst h1;subst h2;show bindL kindOf ((p,w)::P.zip vs) m p=_;unfold bindL;rw[zgr λv hv=>(Cy.mp nd).1 (List.of_mem_zip hv).1,if_pos hk];simp
 |p::P,w::vs,i+1,m,nd,h1,h2,hk=>by
  show bindL kindOf ((p,w)::P.zip vs) m x=_;unfold bindL;exact zgs (i:=i) (Cy.mp nd).2 (by simpa using h1) (by simpa using h2) hk
theorem zgu{kindOf:Str -> Option NameKind}{x:Str}{v:Ab} : ∀{P:List Str}{vs:List Ab}{i:Nat}{m:Str -> Option Ab}, P.Nodup -> P[i]? = some x -> vs[i]? = some v -> kindOf x ≠ some .local ->
  bindC kindOf (P.zip vs) m x=some v
 |[],_,_,_,_,h,_,_=>by simp at h
 |_::_,[],_,_,_,_,h,_=>by simp at h
 |p::P,w::vs,0,m,nd,h1,h2,hk=>by
  simp at h1 h2;subst h1;subst h2;show bindC kindOf ((p,w)::P.zip vs) m p=_;unfold bindC;rw[zgt λv hv=>(Cy.mp nd).1 (List.of_mem_zip hv).1,if_neg hk];simp
 |p::P,w::vs,i+1,m,nd,h1,h2,hk=>by
  show bindC kindOf ((p,w)::P.zip vs) m x=_;unfold bindC;exact zgu (i:=i) (Cy.mp nd).2 (by simpa using h1) (by simpa using h2) hk
noncomputable def start(N:List Str)(vs:List V):St:=vs.map some++Af (N.length-vs.length) none
noncomputable def cxOf(CX:CXT)(P:AH)(w:Bc)(K:W.Frag)(mg:Str->Option Ab)(base:Heap)(N:List Str)(qual:Str)(scope:Scope)(f:Addr)(cd:Ab)(A:AQ)(outer:List Env)(s:Ac)(H:Hp)(E:XK):Cx where
 prog:=P
 w:=w
 K:=K
 mg:=mg
 base:=base
 A:=A.deeper (envOfC qual scope s.heap.objs.size f cd)
 N:=N
 s₀:=s
 H₀:=H
 env:=envOfC qual scope s.heap.objs.size f cd
 outer:=outer
 stack:=envOfC qual scope s.heap.objs.size f cd::outer
 ex:=[]
 calm:=true
 fn:=λ_=>true
 pn:=[]
 xe:=λe s'=>Aw (Az P w) (A.deeper (envOfC qual scope s.heap.objs.size f cd)) (leaving (envOfC qual scope s.heap.objs.size f cd) e) (λ_ s''=>CX outer H s E e s'') (λe' s''=>CX outer H s E e' s'') s'
theorem zhN{sc:Scope}{n:Nat}{x:Str}(h:sc.names.lookup x=some .cell):∃c,(cellsFrom n sc.names []).lookup x=some c:=by have q:=W.cellsFrom_some sc.names n [] (.inl h);exact Option.isSome_iff_exists.mp q
theorem zi3{CX:CXT}{P:AH}{w:Bc}{K:W.Frag}{mg:Str -> Option Ab}{base:Heap}{N ps:List Str}{qual:Str}{scope:Scope}{f:Addr}{cd:Ab}{A:AQ}{outer:List Env}{s s1:Ac}{H:Hp}{E:XK}{us:List Ab}{vs:List V}
  (S:FnScope N ps scope) (hd:A.handled=none) (e0:Env0 P w K mg base A outer s H) (hl:vs.length=ps.length) (r:Vals vs us)
  (x:InCallC s s.heap.objs.size (bindL (envOfC qual scope s.heap.objs.size f cd).kindOf (ps.zip us) λ_=>none) (cellsFrom (s.heap.objs.size+1) scope.names []) (bindC (envOfC qual scope s.heap.objs.size f cd).kindOf (ps.zip us) λ_=>none) s1) :
  Inv (cxOf CX P w K mg base N qual scope f cd A outer s H E) [] (start N vs) H s1:=by
 have hpl:ps.length<=N.length:=by have:=congrArg List.length S.pre;rw[AL]at this;lia
 obtain⟨h1,tk,rfl,hk⟩:=x.done;have noA:∀b:Addr,b ∉ (cxOf CX P w K mg base N qual scope f cd A outer s H E).ex:=λb z=>absurd (show b∈([]:List Addr) from z) (by simp)
 refine⟨⟨e0.mod,S.kind,rfl,rfl,An _,λy z c h1 h2=>?_,λy hy=>?_,λy c _ h=>?_,λ_=>hd,Around.frames_deeper e0.frames,.inr ⟨rfl,rfl⟩,λb z=>absurd z (noA b),e0.bs,e0.bsz,λb _ _=>noA b,λb z=>absurd z (noA b),e0.funs,e0.frf⟩,
  rfl,e0.bare,Un.kept hk,⟨_,x.toInCall.ns,λi y v h1 h2 h3=>?_⟩,λy c h=>⟨_,x.cell y c h⟩,e0.hok.fresh (An _),λy c h=>?_,λp hp=>absurd (show p∈([]:List (Addr×Obj)) from hp) (by simp),e0.hok.kept hk,?_⟩
 .exact name_of_addr x.apart (Ch h1) (Ch h2)
 .have hy:scope.names.lookup y=some .cell∨scope.names.lookup y=some .free:=hy;rcases hy with hy |hy
  .exact zhN hy
  .exact absurd rfl (S.nofree _ (Ch hy))
 .exact Bm (x.above y c (Ch h))
 .have hi:i < vs.length := by
   unfold start at h2
   by_cases hi:i<vs.length
   .exact hi
   .rw[AK (by simpa using hi)]at h2;rw[List.getElem?_replicate]at h2;split at h2 <;> cases h2
  have ha:vs[i]?=some v:=by
   unfold start at h2;rw[Ay (by simpa using hi),Ax]at h2
   cases e:vs[i]? with
   |none=>rw[e]at h2;cases h2
   |some a=>rw[e]at h2;cases h2;rfl
  obtain⟨u,hu,rv⟩:=r.get ha
  have hp:ps[i]?=some y:=by rw[<- S.pre,List.getElem?_take_of_lt (by lia)];exact h1
  have ndP:ps.Nodup:=by rw[<- S.pre];exact S.nd.sublist (BZ _ _)
  refine⟨u,rv,?_⟩;rcases S.par y (Ag hp) with k |k
  .exact .inl ⟨k,zgs ndP hp hu k⟩
  .obtain⟨c,e⟩:=zhN (n:=s.heap.objs.size+1) k;refine .inr ⟨.inl k,c,e,?_⟩;have q:=x.cell y c e;rw[zgu ndP hp hu (by show scope.names.lookup y≠_;rw[k];decide)]at q;exact q
 .exact e0.hok.fresh (Bm (x.above y c (Ch h)))
 .unfold start;show _=N.length;rw[Ai,Am,AR];lia
theorem fn_of{CX:CXT}{P:AH}{w:Bc}{K:W.Frag}{mg:Str -> Option Ab}{base:Heap}{k:Nat}{f:Addr}{name qual:Str}{params:Arguments}{body:List Stmt}{scope:Scope}{dV kV doc pm cdv ct oc:Ab}{an od:Option Addr}
  {osl:Array (Option Ab)} {N ps:List Str} {sp:Sp} (lk:K.lookup f=some ⟨oc,od,.func (Dh name qual params body scope dV kV doc pm an cdv ct),osl⟩) (hcd:W.codeIn K cdv qual=true) (S:FnScope N ps scope)
  (len:∀vs H Q E,sp vs H Q E->vs.length=ps.length)
  (hbody:∀(A:AQ) (outer:List Env) (s:Ac) (H:Hp) (vs:List V) (Q:VK) (E:XK),Room k (A.deeper (envOfC qual scope s.heap.objs.size f cdv))->sp vs H Q E ->
   ∃t,PSs (cxOf CX P w K mg base N qual scope f cdv A outer s H E) body t/\t { nx:=λ_ H'=>Q .non H',rt:=Q } (start N vs) H) :
  FnOk P w K mg base CX (k+1) f (Dh name qual params body scope dV kV doc pm an cdv ct) ps sp:=by
 refine⟨len,λA outer s H args us vs Q E hr e0 hb r hsp=>?_⟩;have hl:=len _ _ _ _ hsp;have KX:K.In s.heap:=e0.mod.kin.keeps λb o e=>(e0.bs b o e).1
 have lim:s.heap.NoLimit:=e0.mod.nolimit.keeps λb o e=>(e0.bs b o e).1
 have hkind:∀y∈ps.zip us,scope.names.lookup y.1=some .local∨(scope.names.lookup y.1=some .cell/\((cellsFrom (s.heap.objs.size+1) scope.names []).lookup y.1).isSome=true):=λ⟨n,v⟩ hy=>by
  rcases S.par n (List.of_mem_zip hy).1 with q |q
  .exact .inl q
  .exact .inr ⟨q,W.cellsFrom_some _ _ _ (.inl q)⟩
 refine codeAny_call_function hr.depth (KX _ _ lk) rfl S.co S.gen rfl (W.codeRec_of KX hcd) (hb _ _ _ _ ?_);refine wpAny_newFunctionEnv_cells S.kind hkind λenv he s1 x=>?_
 subst he;refine⟨lim.keeps x.toInCall.keep,codeAny_func ?_⟩;obtain⟨t,ht,hq⟩:=hbody A outer s H vs Q E (hr.deeper _) hsp;have I:Inv (cxOf CX P w K mg base N qual scope f cdv A outer s H E) [] (start N vs) H s1:=zi3 S hr.hd e0 hl r x;refine By (ht [] s1 (start N vs) H _ I hq) (λfl s' hs=>?_) λe s' hs=>hs
 have fin:∀{σ':St} {H':Hp} {v:V} {u:Ab},Inv (cxOf CX P w K mg base N qual scope f cdv A outer s H E) [] σ' H' s'->RelV v u->Q v H'->CE outer P w H s Q u s' :=
  λ{σ' H' v u} J rv q=>⟨v,H',J.os,J.bare,J.base,J.hok,rv,q⟩
 cases fl with
 |ret u =>
  obtain⟨v,σ',H',J,rv,q⟩:=hs;exact fin J rv q
 |next =>
  obtain⟨σ',H',J,q⟩:=hs;exact fin (v:=V.non) (u:=BY) J rfl q
 |brk =>
  obtain⟨_,_,_,q⟩:=hs;exact BD q
 |cont =>
  obtain⟨_,_,_,q⟩:=hs;exact BD q
section
variable {X:Cx}{x:Str}{p pos:Pos}{e:Expr}{es:List Expr}{t:TA}{id T:String}{r:List V->Hp->VK->Prop}
noncomputable def tCB(r:List V->Hp->VK->Prop)(t:TA):TE:=λσ H Q=>t σ H λvs H1=>r vs H1 Q
theorem zaq (hc:CallR X (.builtin id) r) (hg:Gl X x) (hm:X.mg x=none) (hv:bootBuiltins x=some (.builtin id)) (ha:PA X (e :: es) t) (hn:x ≠ "__name__" := by decide) (hdb:(x == ("__debug__" : Str))=false := by decide)
  (he:Bq (e::es) X.env=(false,eval e X.env)::Bq es X.env:=by rfl) (hpl:(backTo pos (Bq es X.env)).any (·.1)=false:=by rfl):PE X (.Call (.Name x p) (e::es) [] pos) (tCB r t):=by
 intro pins s σ H Q I h;refine CW (zd5 I hg hm hv ?_ hn hdb);exact PyProof.Rows.callWith_builtin1 (thn (ha pos pins s σ H _ I h) λus s1 ⟨vs,H1,I1,r1,q1⟩=>hc pins s1 σ H1 vs us Q I1 r1 q1) he hpl
theorem zbH (hc:CallR X (.type T) r) (hg:Gl X x) (hm:X.mg x=none) (hv:bootBuiltins x=some (.type T)) (ha:PA X (e :: es) t) (hn:x ≠ "__name__" := by decide) (hdb:(x == ("__debug__" : Str))=false := by decide)
  (he:Bq (e::es) X.env=(false,eval e X.env)::Bq es X.env:=by rfl) (hpl:(backTo pos (Bq es X.env)).any (·.1)=false:=by rfl):PE X (.Call (.Name x p) (e::es) [] pos) (tCB r t):=by
 intro pins s σ H Q I h;refine CW (zd5 I hg hm hv ?_ hn hdb);exact De (thn (ha pos pins s σ H _ I h) λus s1 ⟨vs,H1,I1,r1,q1⟩=>hc pins s1 σ H1 vs us Q I1 r1 q1) he hpl
end
section
variable {κ:Type} [DecidableEq κ]
noncomputable def valV(kvs:List (κ×V))(k:κ):Option V:=(kvs.find? λkv=>decide (kv.1=k)).map (·.2)
noncomputable def putK(kvs:List (κ×V))(k:κ)(v:V):List (κ×V) :=
 if (kvs.any λkv=>decide (kv.1=k))=true then kvs.map (λkv=>if kv.1=k then (kv.1,v) else kv) else kvs++[(k,v)]
theorem zbf{p:κ×V}{r:List (κ×V)}{k:κ}(e:p.1=k):valV (p::r) k=some p.2:=by simp[valV,C4,e]
theorem zbg{p:κ×V}{r:List (κ×V)}{k:κ}(e:¬ p.1=k):valV (p::r) k=valV r k:=by simp[valV,C4,e]
theorem zdu(k:κ):∀kvs:List (κ×V),(kvs.any λkv=>decide (kv.1=k))=(valV kvs k).isSome
 |[]=>rfl
 |p::r=>by
  rw[List.any_cons]
  by_cases e:p.1=k
  .simp only[zbf e,decide_eq_true e,Bool.true_or,Option.isSome_some]
  .rw[zbg e,decide_eq_false e,Bool.false_or];exact zdu k r
theorem zg7(k j:κ)(y:V):∀kvs:List (κ×V),valV (kvs.map λkv=>if kv.1=k then (kv.1,y) else kv) j=(valV kvs j).map λx=>if j=k then y else x
 |[]=>rfl
 |p::r=>by
  have ih:=zg7 k j y r;rw[Bf]
  by_cases h:p.1=k
  .rw[if_pos h]
   by_cases e:p.1=j
   .rw[zbf (p:=(p.1,y)) e,zbf e,Cz,if_pos (e.symm.trans h)]
   .rw[zbg (p:=(p.1,y)) e,zbg e,ih]
  .rw[if_neg h]
   by_cases e:p.1=j
   .rw[zbf (p:=p) e,zbf e,Cz,if_neg (λz=>h (e.trans z))]
   .rw[zbg (p:=p) e,zbg e,ih]
theorem zfR(k j:κ)(y:V):∀kvs:List (κ×V),valV kvs k=none->valV (kvs++[(k,y)]) j=if j=k then some y else valV kvs j
 |[],_=>by
  by_cases e:k=j
  .rw[if_pos e.symm];exact zbf (p:=(k,y)) e
  .rw[if_neg (λz=>e z.symm)];exact zbg (p:=(k,y)) e
 |p::r,hn=>by
  rw[List.cons_append];have hk:¬ p.1=k:=λz=>by rw[zbf z]at hn;cases hn
  rw[zbg hk]at hn;have ih:=zfR k j y r hn
  by_cases e:p.1=j
  .rw[zbf e,zbf e,if_neg (λz=>hk (e.trans z))]
  .rw[zbg e,zbg e,ih]
theorem zeY(kvs:List (κ×V))(k j:κ)(y:V):valV (putK kvs k y) j=if j=k then some y else valV kvs j:=by
 unfold putK
 by_cases a:(kvs.any λkv=>decide (kv.1=k))=true
 .rw[if_pos a,zg7];rw[zdu]at a
  by_cases e:j=k
  .obtain⟨x,hx⟩:=Option.isSome_iff_exists.mp a;rw[if_pos e,e,hx,Cz,if_pos rfl]
  .rw[if_neg e]
   cases valV kvs j with
   |none=>rfl
   |some x=>rw[Cz,if_neg e]
 .rw[if_neg a];refine zfR k j y kvs ?_
  rw[zdu]at a
  cases q:valV kvs k with
  |none=>rfl
  |some x=>rw[q]at a;exact (a rfl).elim
theorem zaV(kvs:List (κ×V))(k:κ)(v:V):(putK kvs k v).length<=kvs.length+1:=by
 unfold putK;split
 .rw[Am];lia
 .rw[Ai,AV,BU];lia
theorem RelO.isSome_eq{o:Option V}{u:Option Ab}(r:RelO o u):o.isSome=u.isSome:=by
 cases o with
 |none=>cases u with
  |none=>rfl
  |some _=>exact (show False from r).elim
 |some _=>cases u with
  |none=>exact (show False from r).elim
  |some _=>rfl
theorem KV.val{kvs:List (κ×V)}{vs:List (κ×Ab)}(r:KV kvs vs)(k:κ):RelO (valV kvs k) (valueAt vs k):=by
 unfold KV at r
 induction r with
 |nil=>exact Co
 |@cons p q ps qs h t ih =>
  obtain⟨h1,h2⟩:=h
  by_cases e:p.1=k
  .have e':q.1=k:=h1.symm.trans e;have b:valueAt (q::qs) k=some q.2:=by simp[valueAt,C4,e']
   rw[zbf e,b];exact h2
  .have e':¬ q.1=k:=λz=>e (h1.trans z)
   have b:valueAt (q::qs) k=valueAt qs k:=by simp[valueAt,C4,e']
   rw[zbg e,b];exact ih
theorem KV.any{kvs:List (κ×V)}{vs:List (κ×Ab)}(r:KV kvs vs)(k:κ):(kvs.any λkv=>decide (kv.1=k))=vs.any λkv=>decide (kv.1=k):=by
 unfold KV at r
 induction r with
 |nil=>rfl
 |cons h t ih=>rw[List.any_cons,List.any_cons,ih,h.1]
theorem KV.repl{kvs:List (κ × V)}{vs:List (κ × Ab)}(r:KV kvs vs)(k : κ){y:V}{u:Ab}(ry:RelV y u) :
  KV (kvs.map λkv=>if kv.1=k then (kv.1,y) else kv) (vs.map λkv=>if kv.1=k then (kv.1,u) else kv):=by
 unfold KV at r ⊢
 induction r with
 |nil=>exact .nil
 |@cons p q ps qs h t ih =>
  rw[Bf,Bf];refine .cons ?_ ih;obtain⟨h1,h2⟩:=h
  by_cases e:p.1=k
  .rw[if_pos e,if_pos (h1.symm.trans e)];exact⟨h1,ry⟩
  .rw[if_neg e,if_neg (λz=>e (h1.trans z))];exact⟨h1,h2⟩
theorem KV.put{kvs:List (κ×V)}{vs:List (κ×Ab)}(r:KV kvs vs)(k:κ){y:V}{u:Ab}(ry:RelV y u):KV (putK kvs k y) (stored vs k u):=by
 unfold putK stored;rw[r.any k]
 by_cases e:(vs.any λkv=>decide (kv.1=k))=true
 .rw[if_pos e,if_pos e];exact r.repl k ry
 .rw[if_neg e,if_neg e];exact Paired.snoc r ⟨rfl,ry⟩
theorem KV.length{kvs:List (κ×V)}{vs:List (κ×Ab)}(r:KV kvs vs):kvs.length=vs.length:=Dr r
end
theorem kV_is{P:AH}{w:Bc}{k:Key}{u:Ab}(r:RelV (kV k) u):(zaO P w).is k u=true:=by
 cases k with
 |inl i=>obtain⟨t,e⟩:=(show ∃t,u=Value.int i t from r);subst e;exact zgX P w i t
 |inr x=>obtain⟨t,e⟩:=(show ∃t,u=Value.str x t from r);subst e;exact zbI P w x t
theorem zgj{P:AH}{w:Bc}:∀{ks:List Key}{us:List Ab},Vals (ks.map kV) us->ItemsAre (zaO P w) ks us
 |[],_,r=>by rw[List.map_nil]at r;cases r;exact .nil
 |k::ks,_,r=>by
  rw[Bf]at r
  cases r with
  |cons h t=>exact .cons (kV_is h) (zgj t)
noncomputable abbrev KT(H:Hp):List (List Key×V)->List (List Key×Addr×Ab)->Prop:=Paired λp q=>p.1=q.1/\H q.2.1=some (.tup (p.1.map kV))/\RelV p.2 q.2.2
theorem KT.val{H:Hp}{kvs:List (List Key×V)}{xs:List (List Key×Addr×Ab)}(r:KT H kvs xs)(k:List Key):RelO (valV kvs k) ((atKey xs k).map (·.2)):=by
 induction r with
 |nil=>exact Co
 |@cons p q ps qs h t ih =>
  obtain⟨h1,_,h2⟩:=h
  by_cases e:p.1=k
  .have e':q.1=k:=h1.symm.trans e;have b:atKey (q::qs) k=some q.2:=by simp[atKey,C4,e']
   rw[zbf e,b];exact h2
  .have e':¬ q.1=k:=λz=>e (h1.trans z)
   have b:atKey (q::qs) k=atKey qs k:=by simp[atKey,C4,e']
   rw[zbg e,b];exact ih
theorem KT.repl{H:Hp}{kvs:List (List Key × V)}{xs:List (List Key × Addr × Ab)}(r:KT H kvs xs)(k:List Key){y:V}{u:Ab}(ry:RelV y u) :
  KT H (kvs.map λkv=>if kv.1=k then (kv.1,y) else kv) (xs.map (putAt k u)):=by
 induction r with
 |nil=>exact .nil
 |@cons p q ps qs h t ih =>
  rw[Bf,Bf];refine .cons ?_ ih;obtain⟨h1,h2,h3⟩:=h;unfold putAt
  by_cases e:p.1=k
  .rw[if_pos e,if_pos (h1.symm.trans e)];exact⟨h1,h2,ry⟩
  .rw[if_neg e,if_neg (λz=>e (h1.trans z))];exact⟨h1,h2,h3⟩
theorem KT.put{H:Hp}{kvs:List (List Key × V)}{xs:List (List Key × Addr × Ab)}(r:KT H kvs xs)(k:List Key){b:Addr}{y:V}{u:Ab}(hb:H b=some (.tup (k.map kV)))(ry:RelV y u) :
  KT H (putK kvs k y) (storedH xs k b u):=by
 have e:(kvs.any λkv=>decide (kv.1=k))=(atKey xs k).isSome:=by rw[zdu,(r.val k).isSome_eq,Option.isSome_map]
 unfold putK storedH;rw[e]
 by_cases q:(atKey xs k).isSome=true
 .rw[if_pos q,if_pos q];exact r.repl k ry
 .rw[if_neg q,if_neg q];exact Paired.snoc r ⟨rfl,hb,ry⟩
theorem KT.keeps{H H':Hp}{kvs:List (List Key×V)}{xs:List (List Key×Addr×Ab)}(r:KT H kvs xs)(ht:∀b ys,H b=some (.tup ys)->H' b=some (.tup ys)):KT H' kvs xs :=
 Paired.mapP r λ_ _ z=>⟨z.1,ht _ _ z.2.1,z.2.2⟩
section
variable {P:AH}{w:Bc}{H:Hp}{h:Heap}{a:Addr}
theorem rd_of{u:HO}(ok:HOk P w H h)(e:Rd H a u):ObjOk P w H h a u:=e.ok ok
theorem dk_rd{kvs:List (Key×V)}(ok:HOk P w H h)(e:Rd H a (.dK kvs)):kvs.length<=sizeLine/\(a == Cn)=false/\∃vs,KV kvs vs/\h.DictOf (zaO P w) a vs :=
 show ObjOk P w H h a (.dK kvs) from rd_of ok e
theorem dk_of{kvs:List (Key×V)}(ok:HOk P w H h)(e:H a=some (.dK kvs)):kvs.length<=sizeLine/\(a == Cn)=false/\∃vs,KV kvs vs/\h.DictOf (zaO P w) a vs:=dk_rd ok (.inl e)
theorem zeR{ks:List Key}(ok:HOk P w H h)(e:H a=some (.tup (ks.map kV))):(tupleKind (zaO P w)).is h ks a:=by obtain⟨_,its,r,o,h1,h2,n,h3⟩:=(show ObjOk P w H h a (.tup (ks.map kV)) from ok a _ e);exact⟨o,its.toArray,n,h1,h2,h3,by simpa using zgj r⟩
theorem dt_rd{kvs:List (List Key × V)}(ok:HOk P w H h)(e:Rd H a (.dT kvs)):kvs.length <= sizeLine /\ (a == Cn)=false /\
  ∃xs,KT H kvs xs/\h.DictOfH (tupleKind (zaO P w)) a xs:=by
 obtain⟨z,y,xs,r,o,es,ep,h1,h2,h3,h4,h5⟩:=(show ObjOk P w H h a (.dT kvs) from rd_of ok e);refine⟨z,y,xs,r,o,es,ep,h1,h2,h3,h4,λx hx=>?_,h5⟩
 have all:∀{l:List (List Key×V)} {m:List (List Key×Addr×Ab)},KT H l m->∀x∈m,(tupleKind (zaO P w)).is h x.1 x.2.1:=by
  intro l m q
  induction q with
  |nil=>intro x hx;exact nomatch hx
  |@cons p q ps qs hq t ih =>
   intro x hx;rcases AW.mp hx with e |hx
   .subst e;exact zeR ok (by rw[<- hq.1];exact hq.2.1)
   .exact ih x hx
 exact all r x hx
theorem dt_of{kvs:List (List Key × V)}(ok:HOk P w H h)(e:H a=some (.dT kvs)):kvs.length <= sizeLine /\ (a == Cn)=false /\
  ∃xs,KT H kvs xs/\h.DictOfH (tupleKind (zaO P w)) a xs:=dt_rd ok (.inl e)
end
noncomputable def DGet(H:Hp)(a:Addr)(y:V)(r:Option V):Prop :=
 (∃kvs k,Rd H a (.dK kvs)/\y=kV k/\r=valV kvs k)∨∃kvs k b,Rd H a (.dT kvs)/\y=.ref b/\H b=some (.tup (k.map kV))/\r=valV kvs k
noncomputable def DPut(H:Hp)(a:Addr)(y v:V)(H':Hp):Prop :=
 (∃kvs k,H a=some (.dK kvs)/\y=kV k/\kvs.length<sizeLine/\H'=upd H a (.dK (putK kvs k v))) ∨
 ∃kvs k b,H a=some (.dT kvs)/\y=.ref b/\H b=some (.tup (k.map kV))/\kvs.length<sizeLine/\H'=upd H a (.dT (putK kvs k v))
section
variable {X:Cx}{pins:List (Addr×Obj)}{σ:St}{H:Hp}{s:Ac}{a:Addr}{y v:V}{u r:Ab}{o:Option V}{A:AQ}{E:Ab->Ac->Prop}
theorem Inv.big(I:Inv X pins σ H s):Cn<s.heap.objs.size:=by have h:AI<s.heap.objs.size:=(I.mod.glob.keeps I.bk).lt;exact Nat.lt_trans (by decide) h
theorem d_in{Q:Ab -> Ac -> Prop}(hu:A.units + 1 < cLine)(I:Inv X pins σ H s)(g:DGet H a y o)(ry:RelV y u)(h:∀s', Inv X pins σ H s' -> Q (.bool o.isSome) s') :
  Aw (Az X.prog X.w) A (BH .In u (.ref a)) Q E s:=by
 rcases g with⟨kvs,k,e,ey,l⟩ |⟨kvs,k,b,e,ey,eb,l⟩
 .subst ey;obtain⟨z,hd,vs,rel,dd⟩:=dk_rd I.hok e;refine wpAny_in_of (kV_is ry) hd dd.mapOf ?_
  rw[<- (rel.val k).isSome_eq,<- l];exact h _ (I.tok _)
 .subst ey
  cases (show u=Value.ref b from ry)
  obtain⟨z,hd,xs,rel,dd⟩:=dt_rd I.hok e;refine wpAny_in_heap (DC hu) (zeR I.hok eb) hd dd ?_
  have q:=(rel.val k).isSome_eq;rw[Option.isSome_map]at q;rw[<- q,<- l];exact h _ (I.tok _)
theorem zk9{Q:Ab -> Ac -> Prop}(hu:A.units + 1 < cLine)(I:Inv X pins σ H s)(g:DGet H a y o)(ry:RelV y u)(h:∀s', Inv X pins σ H s' -> Q (.bool (!o.isSome)) s') :
  Aw (Az X.prog X.w) A (BH .NotIn u (.ref a)) Q E s:=by
 rcases g with⟨kvs,k,e,ey,l⟩ |⟨kvs,k,b,e,ey,eb,l⟩
 .subst ey;obtain⟨z,hd,vs,rel,dd⟩:=dk_rd I.hok e;refine wpAny_notIn_of (kV_is ry) hd dd.mapOf ?_
  rw[<- (rel.val k).isSome_eq,<- l];exact h _ (I.tok _)
 .subst ey
  cases (show u=Value.ref b from ry)
  obtain⟨z,hd,xs,rel,dd⟩:=dt_rd I.hok e;refine wpAny_notIn_heap (DC hu) (zeR I.hok eb) hd dd ?_
  have q:=(rel.val k).isSome_eq;rw[Option.isSome_map]at q;rw[<- q,<- l];exact h _ (I.tok _)
theorem zed{h':Heap}{t':Nat}{ob:HO}(I:Inv X pins σ H s)(mu:Mut (H a))(hs:CV a s.heap h')(he:∃q, h'.get? a=some q)(new:ObjOk X.prog X.w (upd H a ob) h' a ob) :
  Inv X pins σ (upd H a ob) { s with heap:=h',toks:=t' } :=
 I.write (x:=a) (e:=a) mu (.inl rfl) (λb q hb z=>(hs.2 b hb).trans z) he new
theorem zkt{P:AH}{w:Bc}{H':Hp}{h':Heap}{kvs:List (Key × V)}{vs:List (Key × Ab)}(z:kvs.length <= sizeLine)(hd:(a == Cn)=false)(rel:KV kvs vs)(dd:h'.DictOf (zaO P w) a vs) :
  ObjOk P w H' h' a (.dK kvs):=⟨z,hd,vs,rel,dd⟩
theorem zjg{H':Hp}{Q:Unit -> Ac -> Prop}(hu:A.units + 1 < cLine)(I:Inv X pins σ H s)(g:DPut H a y v H')(ry:RelV y u)(rv:RelV v r)(h:∀s', Inv X pins σ H' s' -> Q () s') :
  Aw (Az X.prog X.w) A (setItem (.ref a) u r) Q E s:=by
 rcases g with⟨kvs,k,e,ey,l,eH⟩ |⟨kvs,k,b,e,ey,eb,l,eH⟩
 .subst ey eH;obtain⟨z,hd,vs,rel,dd⟩:=dk_of I.hok e;have hz:vs.length<=sizeLine:=by rw[<- rel.length];exact z
  have hl:(putK kvs k v).length<=sizeLine:=by have:=zaV kvs k v;lia
  refine wpAny_setItem_pairs (hsz:=hz) (kV_is ry) dd λh' dd' hs=>h _ ?_
  have he:∃q,h'.get? a=some q:=let ⟨q,_,_,hq,_⟩:=dd';⟨q,hq⟩
  exact zed I (by rw[e];exact Co) hs he (zkt hl hd (rel.put k rv) dd')
 .subst ey eH
  cases (show u=Value.ref b from ry)
  obtain⟨z,hd,xs,rel,dd⟩:=dt_of I.hok e;have hz:xs.length<=sizeLine:=by rw[<- Dr rel];exact z
  have hl:(putK kvs k v).length<=sizeLine:=by have:=zaV kvs k v;lia
  refine wpAny_setItem_heap (hsz:=hz) (DC hu) (zeR I.hok eb) dd λh' dd' hs=>h _ ?_
  obtain⟨q,es,ep,hq,h2,h3,h4,_,h5⟩:=dd';refine zed I (by rw[e];exact Co) hs ⟨q,hq⟩ ⟨hl,hd,_,(rel.put k eb rv).keeps λc ys ec=>?_,q,es,ep,hq,h2,h3,h4,h5⟩;rw[zak (ne_of ec e (λz=>nomatch z))];exact ec
end
section
variable {X:Cx}{pins:List (Addr×Obj)}{σ:St}{H:Hp}{s:Ac}{a:Addr}{kvs:List (Key×V)}{k:Key}{u:Ab}{A:AQ}{E:Ab->Ac->Prop}
end
noncomputable def NoSl(i:Expr):Prop:=∀ov iv,subscripted i false ov iv=operate [ov,iv] (getItem ov iv)
theorem zim{prog:AH}{w:Bc}{A:AQ}{E:Ab -> Ac -> Prop}{s:Ac}{env:Env}{value slice:Expr}{pos:Pos}{T id:String}{Q:Ab -> Ac -> Prop}
  (hl:typeLookup (.type T) "__getitem__" = pure (some (.builtin id))) (hs:NoSl slice)
  (h:Aw (Az prog w) A (eval value env) (λo s₁=>Aw (Az prog w) A (eval slice env) (λi s₂=>s₂.TypeIs o T/\Aw (Az prog w) A (getItem o i) Q E s₂) E s₁) E s) :
  Aw (Az prog w) A (eval (.Subscript value slice pos) env) Q E s:=by
 refine Subscript_ (By h (λo s₁ h₁=>By h₁ (λi s₂ h₂=>?_) λ_ _ x=>x) λ_ _ x=>x);obtain⟨hT,h₂⟩:=h₂;unfold subscriptTail;refine Ad ?_
 rw[getitemInPython_of_ne hT.not_modules];refine Ad (wpAny_specialOf hT hl ?_)
 have fin:Aw (Az prog w) A (subscripted slice false o i) (λr s₃=>Aw (Az prog w) A (letTemporaryGo value o r >>= λ_=>pure r) Q E s₃) E s₂:=by rw[hs o i];exact wpAny_operating (By h₂ (λr s₃ h₃=>Ad (wpAny_letTemporaryGo (Aj h₃))) λ_ _ x=>x)
 first
  |exact Aj (Ad fin)
  |exact Ad (Aj (Ad fin))
  |exact Ad fin
noncomputable def tDIn(ty td:TE):TE:=λσ H Q=>ty σ H λy H1=>td σ H1 λx H2=>∃a o,x=.ref a/\DGet H2 a y o/\Q (.bl o.isSome) H2
noncomputable def zkB(ty td:TE):TE:=λσ H Q=>ty σ H λy H1=>td σ H1 λx H2=>∃a o,x=.ref a/\DGet H2 a y o/\Q (.bl (!o.isSome)) H2
noncomputable def sDPut(td ty tv:TE):TS:=λD σ H=>tv σ H λv H1=>td σ H1 λx H2=>ty σ H2 λy H3=>∃a H4,x=.ref a/\DPut H3 a y v H4/\D.nx σ H4
section
variable {X:Cx}{o i e value:Expr}{pos pos' tpos:Pos}{td ty tv:TE}
theorem zlC(hu:X.A.units+1<cLine)(hi:PE X i ty)(ho:PE X o td):PC X .In i o (tDIn ty td):=by
 intro pins s σ H Q I h;refine thn (hi pins s σ H _ I h) λiv s1 ⟨y,H1,I1,ry,q1⟩=>thn (ho pins s1 σ H1 _ I1 q1) λu s2 ⟨x,H2,I2,rx,a,ov,ex,g,q2⟩=>?_
 subst ex;obtain rfl:u=Value.ref a:=rx;exact d_in hu I2 g ry λs3 I3=>⟨.bl ov.isSome,H2,I3,rfl,q2⟩
theorem zf4(hu:X.A.units+1<cLine)(hi:PE X i ty)(ho:PE X o td):PC X .NotIn i o (zkB ty td):=by
 intro pins s σ H Q I h;refine thn (hi pins s σ H _ I h) λiv s1 ⟨y,H1,I1,ry,q1⟩=>thn (ho pins s1 σ H1 _ I1 q1) λu s2 ⟨x,H2,I2,rx,a,ov,ex,g,q2⟩=>?_
 subst ex;obtain rfl:u=Value.ref a:=rx;exact zk9 hu I2 g ry λs3 I3=>⟨.bl (!ov.isSome),H2,I3,rfl,q2⟩
theorem zkN(hu:X.A.units + 1 < cLine)(ho:PE X o td)(hi:PE X i ty)(hv:PE X value tv)(hs:swapsWith value (some (.Subscript o i pos')) pos.line X.env=pure false) :
  PS X (.Assign [.Subscript o i pos'] value pos) (sDPut td ty tv):=by
 intro pins s σ H D I h;refine wpAny_Assign_Subscript (thn (hv pins s σ H _ I h) λr s1 ⟨v,H1,I1,rv,q1⟩=>thn (ho pins s1 σ H1 _ I1 q1) λu s2 ⟨x,H2,I2,rx,q2⟩=>thn (hi pins s2 σ H2 _ I2 q2) λiv s3 ⟨y,H3,I3,ry,a,H4,ex,g,q3⟩=>?_) hs;subst ex;obtain rfl:u=Value.ref a:=rx;exact zjg hu I3 g ry rv λs4 I4=>⟨σ,H4,I4,q3⟩
end
theorem zhJ {P:AH}{w:Bc}{H:Hp}(h:Heap) (hb:Cn<h.objs.size):ObjOk P w H (h.push { cls:=.type "dict",data:=.dict #[] }) h.objs.size (.dT []) :=
 ⟨AU _,beq_eq_false_iff_ne.mpr (Cb (A4 hb)),[],.nil,_,#[],0,AM _ rfl,⟨rfl,rfl,rfl⟩,rfl,rfl,List.nodup_nil⟩
noncomputable def zll:TE:=λ_ H Q=>∀p,H p=none->Q (.ref p) (upd H p (.dT []))
section
variable {X:Cx}{pos:Pos}
theorem zho:PE X (.Dict [] [] pos) zll:=λpins s σ H Q I h =>
 wpAny_Dict_empty ⟨.ref s.heap.objs.size,_,I.laid (a:=s.heap.objs.size) (o:=.dT []) (t':=s.toks) (λ_ _ q=>Ak _ q) (An _) (zhJ s.heap I.big),rfl,h _ (I.hok.fresh (An _))⟩
end
structure M1 (X:Cx) (o:Expr) (m:Str) (apos:Pos) (e:Expr) (cpos:Pos):Prop where
 base:attributeBase o m X.env (eval o X.env)=eval o X.env
 few:((backTo cpos (Bq [e] X.env)).all (λx=>!x.1) && (Ds cpos (Ck [] X.env)).all (λx=>x.1.isSome)
  && decide (([e]:List Expr).length+([]:List Keyword).length+(if ([]:List Keyword).isEmpty then 0 else 1)<30))=true
 line:(apos.endLine == cpos.line)=true
 trees:backTo cpos (Bq [e] X.env)=[(false,eval e X.env)]
structure M2 (X:Cx) (o:Expr) (m:Str) (apos:Pos) (e f:Expr) (cpos:Pos):Prop where
 base:attributeBase o m X.env (eval o X.env)=eval o X.env
 few:((backTo cpos (Bq [e,f] X.env)).all (λx=>!x.1) && (Ds cpos (Ck [] X.env)).all (λx=>x.1.isSome)
  && decide (([e,f]:List Expr).length+([]:List Keyword).length+(if ([]:List Keyword).isEmpty then 0 else 1)<30))=true
 line:(apos.endLine == cpos.line)=true
 trees:backTo cpos (Bq [e,f] X.env)=[(false,eval e X.env),(false,eval f X.env)]
noncomputable def IsD(H:Hp)(a:Addr):Prop:=(∃kvs,Rd H a (.dK kvs))∨∃kvs,Rd H a (.dT kvs)
theorem zlN{X:Cx}{pins:List (Addr × Obj)}{σ : St}{H:Hp}{s:Ac}{a:Addr}(I:Inv X pins σ H s)(d:IsD H a) :
  s.TypeIs (.ref a) "dict" /\ (∀b,Value.ref a=.ref b->∃ob,s.heap.get? b=some ob/\ob.dict=none)/\(a == Cn)=false:=by
 rcases d with⟨kvs,e⟩ |⟨kvs,e⟩
 .obtain⟨_,hd,vs,_,dd⟩:=dk_rd I.hok e;refine⟨dd.typeIs,λb q=>?_,hd⟩
  cases q
  obtain⟨ob,_,_,h1,h2,_⟩:=dd;exact⟨ob,h1,h2.2.1⟩
 .obtain⟨_,hd,xs,_,dd⟩:=dt_rd I.hok e;refine⟨dd.typeIs,λb q=>?_,hd⟩
  cases q
  obtain⟨ob,_,_,h1,h2,_⟩:=dd;exact⟨ob,h1,h2.2.1⟩
section
variable {X:Cx}{pins:List (Addr×Obj)}{σ:St}{H:Hp}{s:Ac}{a:Addr}{y d:V}{u r:Ab}{o:Option V}{A:AQ}{E:Ab->Ac->Prop}
end
section
variable {X:Cx}{o e f:Expr}{apos cpos:Pos}{td ty tx:TE}
end
section
variable {X:Cx}{pins:List (Addr×Obj)}{σ:St}{H:Hp}{s:Ac}{a:Addr}{kvs:List (Key×V)}{A:AQ}{E:Ab->Ac->Prop}
end
section
variable {X:Cx}{pins:List (Addr×Obj)}{σ:St}{H:Hp}{s:Ac}{a:Addr}{y:V}{u:Ab}{A:AQ}{E:Ab->Ac->Prop}
end
end L2
namespace HT
open PySem PyProof.Rows
noncomputable def lexLt:List Int->List Int->Bool
 |[],[]=>false
 |[],_::_=>true
 |_::_,[]=>false
 |x::xs,y::ys=>if x=y then lexLt xs ys else decide (x<y)
theorem lexLt_cons(x y:Int)(xs ys:List Int):lexLt (x::xs) (y::ys)=if x=y then lexLt xs ys else decide (x<y):=rfl
theorem zfu:lexLt [] []=false:=rfl
theorem zev(y:Int)(ys:List Int):lexLt [] (y::ys)=true:=rfl
theorem zew(x:Int)(xs:List Int):lexLt (x::xs) []=false:=rfl
theorem zhG(A:AQ)(s:Ac)(a:Int)(t:Tok)(c:Int)(u:Tok):∃e,SeqAt.EqAt A s (.int a t) (.int c u) e/\(e=true ↔ a=c) :=
 ⟨(a == c),SeqAt.EqAt.int_int a t c u,by simp⟩
theorem zjD(A:AQ)(s:Ac)(a:Int)(t:Tok)(c:Int)(u:Tok)(prog:AH)(w:Bc)(E:Ab -> Ac -> Prop)(Q:Ab -> Ac -> Prop)(h:Q (.bool (decide (a < c))) s) :
  Aw (Az prog w) A (richCompare .Lt (.int a t) (.int c u)) Q E s :=
 (PyProof.Rows.lt_int h:Aw (Az prog w) A (BH .Lt (.int a t) (.int c u)) Q E s)
section
open PySem.SeqAt
open PySem.AutoSeq1 (wpAny_loadPart')
open PySem.MeetsSeq PySem.MeetsSeq2 PySem.MeetsSeq3
theorem zeZ(l b:Addr)(items items2:Array Ab)(n n2:Nat)(dd dd2:Option Addr)(sl sl2:Array (Option Ab))(ns ms:List Int)(hi:Ci items.toList ns)(hj:Ci items2.toList ms) :
  Meets (Builtin.«tuple.__lt__» ⟨[.ref l,.ref b],[]⟩)
   (λ_ R s=>s.heap.get? l=some { cls:=.type "tuple",dict:=dd,data:=.seq items n,slots:=sl }/\s.heap.get? b=some { cls:=.type "tuple",dict:=dd2,data:=.seq items2 n2,slots:=sl2 } /\
    R (.ok (.ret (.bool (lexLt ns ms)))) s) :=
 .of_wp λprog w A R s h=>by
  obtain⟨hp,g,d,tk,os⟩:=s;obtain⟨hl,hb,h⟩:=h;have f2:=AutoSeq1.sub_tuple_tuple;have z1:items.size=ns.length:=by rw[<- hi.length];simp
  have z2:items2.size=ms.length:=by rw[<- hj.length];simp
  wp_walk using B4 hl,B4 hb,wpAny_forIn_list _ (λrest b s'=>b.1=none/\s'=⟨hp,g,d,tk,os⟩/\∃(vs ws:List Ab) (ns' ms':List Int),rest=vs.zip ws /\
   Ci vs ns'/\Ci ws ms'/\ns'.length+items2.size=ms'.length+items.size/\R (.ok (.ret (.bool (lexLt ns' ms')))) ⟨hp,g,d,tk,os⟩) _
  case turn =>
   rintro⟨y,x⟩ rest b s' ⟨hb',rfl,vs,ws,ns',ms',hz,hvi,hwi,hlen,hR⟩
   cases hvi with
   |nil=>rw[List.zip_nil_left]at hz;cases hz
   |cons a t hvi' =>
    cases hwi with
    |nil=>rw[List.zip_nil_right]at hz;cases hz
    |cons c u hwi' =>
     rw[DD]at hz;injection hz with hyx hrest;injection hyx with hy hx;subst hy hx;rw[lexLt_cons]at hR;simp only[AV]at hlen;obtain⟨e,he,hiff⟩:=zhG A.in1 ⟨hp,g,d,tk,os⟩ a t c u;refine Ad (he prog w _ _ ?_)
     cases e with
     |true =>
      rw[if_pos (hiff.mp rfl)]at hR
      wp_walk
      exact⟨rfl,rfl,_,_,_,_,hrest,hvi',hwi',by lia,hR⟩
     |false =>
      rw[if_neg (λq=>absurd (hiff.mpr q) AA)]at hR;have hri:=zjD A.in1 ⟨hp,g,d,tk,os⟩ a t c u prog w
      wp_walk using hri
      exact⟨_,rfl,by simpa using hR⟩
  case fin =>
   rintro⟨b1,b2⟩ s' ⟨hb',rfl,vs,ws,ns',ms',hz,hvi,hwi,hlen,hR⟩;simp only at hb';subst hb'
   have hv:lexLt ns' ms'=decide (items.size<items2.size):=by
    cases hvi with
    |nil =>
     cases hwi with
     |nil =>
      simp only[BU]at hlen;rw[zfu];exact (decide_eq_false (by lia)).symm
     |cons c u hw =>
      simp only[BU,AV]at hlen;rw[zev];exact (decide_eq_true (by lia)).symm
    |cons a t hv =>
     cases hwi with
     |nil =>
      simp only[BU,AV]at hlen;rw[zew];exact (decide_eq_false (by lia)).symm
     |cons c u hw =>
      rw[DD]at hz
      cases hz
   rw[hv]at hR
   wp_walk
   exact⟨_,rfl,by simpa[Builtin.Tuple.tupleCompareSizes]using hR⟩
  case h =>
   exact⟨rfl,rfl,items.toList,items2.toList,ns,ms,rfl,hi,hj,by lia,h⟩
end
section
variable {prog:AH}{w:Bc}{A:AQ}{E:Ab->Ac->Prop}{s:Ac}
theorem lt_tupInts{l b:Addr}{items items2:Array Ab}{ns ms:List Int}{Q:Ab -> Ac -> Prop}(hl:IsTup s.heap l items)(hb:IsTup s.heap b items2)(hi:Ci items.toList ns)(hj:Ci items2.toList ms)
  (hu:A.units<cLine) (h:Q (.bool (lexLt ns ms)) s):Aw (Az prog w) A (BH .Lt (.ref l) (.ref b)) Q E s:=by
 obtain⟨⟨cls,dd,data,sl⟩,ho,hc,n,hd⟩:=id hl;obtain⟨⟨cls2,dd2,data2,sl2⟩,ho2,hc2,n2,hd2⟩:=id hb;simp only at hc hd hc2 hd2;subst hc hd hc2 hd2
 exact richCompare_meets_room (op:=.Lt) ⟨_,ho,rfl⟩ ⟨_,ho2,rfl⟩ PySem.F.slot_tuple_lt PySem.F.entry_tuple_lt (PySem.F.args_tuple_lt_2 _ _) (zeZ l b items items2 n n2 dd dd2 sl sl2 ns ms hi hj)
  ⟨ho,ho2,show Value.bool (lexLt ns ms)≠Value.notImplemented/\Q (.bool (lexLt ns ms)) s from ⟨(λx=>nomatch x),h⟩⟩ hu
theorem cat_tup{t b:Addr}{vs ws:List Ab}{Q:Ab -> Ac -> Prop}(ht:IsTup s.heap t vs.toArray)(hb:IsTup s.heap b ws.toArray)(hv:vs ≠ [])
  (h1:ws=[]->Q (.ref t) s) (h2:ws≠[]->Q (.ref s.heap.objs.size) { s with heap:=s.heap.push { cls:=.type "tuple",data:=.seq (vs++ws).toArray } })
  (hsz:vs.length+ws.length<=sizeLine):Aw (Az prog w) A (CS .Add (.ref t) (.ref b)) Q E s:=by
 obtain⟨⟨cls,dd,data,sl⟩,ho,hc,n,hd⟩:=id ht;obtain⟨⟨cls2,dd2,data2,sl2⟩,ho2,hc2,n2,hd2⟩:=id hb;simp only at hc hd hc2 hd2;subst hc hd hc2 hd2;have e:vs.toArray++ws.toArray=(vs++ws).toArray:=by simp
 by_cases hw:ws=[]
 .exact concat_meets ⟨_, ho, rfl⟩ ⟨_, ho2, rfl⟩ noFill_tuple_add seq_tuple_add PySem.F.slot_tuple_add DG (Dt _ _)
   (tuple_addW1 t b vs.toArray ws.toArray n n2 dd dd2 sl sl2 (by simpa using hv) (by simp[hw])) ⟨ho,ho2,h1 hw⟩
 .refine concat_meets ⟨_, ho, rfl⟩ ⟨_, ho2, rfl⟩ noFill_tuple_add seq_tuple_add PySem.F.slot_tuple_add DG (Dt _ _)
   (tuple_addW2 t b vs.toArray ws.toArray n n2 dd dd2 sl sl2 (by simpa using hv) (by simpa using hw) (by rw[Ap,Ap];exact hsz)) ⟨ho,ho2,?_⟩
  rw[e];exact h2 hw
noncomputable def sIx(n d:Nat):Option Int->Nat
 |none=>d
 |some v=>if v<0 then (v+(n:Int)).toNat else min v.toNat n
theorem zlu(n d:Nat)(hd:d<=n)(o:Option Int):sIx n d o<=n:=by
 cases o with
 |none=>exact hd
 |some v =>
  show (if v<0 then (v+(n:Int)).toNat else min v.toNat n)<=n
  by_cases hv:v<0
  .rw[if_pos hv];lia
  .rw[if_neg hv];exact Nat.min_le_right _ _
theorem zjj(v:Int)(n d:Nat):(if v<0 then max (v+(n:Int)) 0 else min v (n:Int))=((sIx n d (some v):Nat):Int):=by
 show (if v<0 then max (v+(n:Int)) 0 else min v (n:Int))=(((if v<0 then (v+(n:Int)).toNat else min v.toNat n):Nat):Int)
 by_cases hv:v<0
 .simp only[if_pos hv];lia
 .simp only[if_neg hv];lia
theorem zid(lo hi:Option Int)(n:Nat):Do lo hi 1 (n:Int)=(((sIx n 0 lo:Nat):Int),((sIx n n hi:Nat):Int)):=by
 have h1:¬ ((1:Int)<0):=by lia
 unfold Do;simp only[h1,if_false];refine Prod.ext ?_ ?_
 .cases lo with
  |none=>rfl
  |some v=>exact zjj v n 0
 .cases hi with
  |none=>rfl
  |some v=>exact zjj v n n
theorem zhX(i j:Nat):Cv (i:Int) (j:Int) 1=j-i:=by
 unfold Cv;have h1:(1:Int) > 0:=by lia
 simp only[h1,if_true,Int.ediv_one];split <;> lia
theorem zeK{v:Ab}{o:Option Int}{Q:Option Int->Ac->Prop}(p:IsPart v o)(h:Q o s):Aw (Az prog w) A (Builtin.Slice.slicePartIndex v) Q E s:=by
 cases p with
 |none=>exact slicePart_none h
 |int i t=>exact slicePart_int h
theorem zcb{sl:Addr}{vl vu:Ab}{lo hi:Option Int}{n:Nat}{Q:Int × Int × Nat -> Ac -> Prop}(hs:s.heap.IsSliceOf sl vl vu .none)(pl:IsPart vl lo)(pu:IsPart vu hi)
  (h:Q (((sIx n 0 lo:Nat):Int),1,sIx n n hi-sIx n 0 lo) s):Aw (Az prog w) A (Builtin.Slice.sliceApplied (.ref sl) (pure (n:Int))) Q E s:=by
 obtain⟨os,hos,hcs,hds⟩:=id hs;unfold Builtin.Slice.sliceApplied Builtin.Slice.sliceFields;refine Ad (Ad (wpAny_field hos hds (x:=vl) rfl (Ad (wpAny_field hos hds (x:=vu) rfl (Ad (wpAny_field hos hds (x:=.none) rfl (Aj ?_)))))));refine Ad (slicePart_none ?_);show Aw _ _ (if ((1:Int) == 0)=true then _ else _) _ _ s;rw[if_neg (by decide)];refine Ad (zeK pl (Ad (zeK pu (Ad (Aj ?_)))));show Aw _ _ (match Do lo hi 1 (n:Int) with | (lo,hi)=>pure (lo,(1:Int),Cv lo hi 1)) _ _ s;rw[zid lo hi n];show Aw _ _ (pure (((sIx n 0 lo:Nat):Int),(1:Int),Cv ((sIx n 0 lo:Nat):Int) ((sIx n n hi:Nat):Int) 1)) _ _ s;rw[zhX];exact Aj h
theorem zjI(xs:Array Ab)(i k:Nat):((A0 k).filterMap λ(m:Nat)=>xs[((i:Int)+(m:Int)*1).toNat]?).toArray=((xs.toList.drop i).take k).toArray:=by
 have e:(λ(m:Nat)=>xs[((i:Int)+(m:Int)*1).toNat]?)=λm=>xs[i+m]?:=by
  funext m
  have:((i:Int)+(m:Int)*1).toNat=i+m:=by lia
  rw[this]
 rw[e];have:=pick_run xs i k;rw[Cp]at this;have e2:((λx=>xs[x]?) ∘ λx=>i+x)=λm=>xs[i+m]?:=rfl
 rw[e2]at this;rw[this]
theorem getItem_tuple_cut{t sl:Addr}{items:Array Ab}{vl vu:Ab}{lo hi:Option Int}{Q:Ab -> Ac -> Prop}(ht:IsTup s.heap t items)(hs:s.heap.IsSliceOf sl vl vu .none)(pl:IsPart vl lo)(pu:IsPart vu hi)
  (hw:¬ (sIx items.size 0 lo=0/\sIx items.size items.size hi=items.size))
  (h:Q (.ref s.heap.objs.size) { s with heap:=s.heap.push { cls:=.type "tuple",data:=.seq ((items.toList.drop (sIx items.size 0 lo)).take (sIx items.size items.size hi-sIx items.size 0 lo)).toArray } })
  (hsz:items.size<=sizeLine):Aw (Az prog w) A (getItem (.ref t) (.ref sl)) Q E s:=by
 have htake:sizeOk (.seq ((items.toList.drop (sIx items.size 0 lo)).take (sIx items.size items.size hi-sIx items.size 0 lo)).toArray):=by show ((items.toList.drop (sIx items.size 0 lo)).take (sIx items.size items.size hi-sIx items.size 0 lo)).toArray.size<=sizeLine;rw[Ap,AL,List.length_drop,AC];lia
 have hj:sIx items.size items.size hi<=items.size:=zlu _ _ (An _) hi;obtain⟨os,hos,hcs,hds⟩:=id hs;have hTs:s.TypeIs (.ref sl) "slice":=⟨os,hos,hcs⟩;unfold getItem
 try with_reducible refine Bo ?_
 first |refine Ad (Aj ?_) |skip
 refine Ad (wpAny_sequenceKey ht.typeIs (by decide) ?_)
 refine Ad (wpAny_callSpecial?_slot (name:=Br "__getitem__") ht.typeIs Bu
  (wpAny_call_entry Bu ht.typeIs entry_tuple_getitem ?_ (args_tuple_getitem _ _)))
 show Aw _ _ (Builtin.Tuple.tupleItemsOf (.ref t) >>= _) _ _ s;refine Ad (tupleItemsOf_ ht ?_);refine Ad (wpAny_typeOf hTs ?_);rw[if_pos (by decide)];refine Ad (zcb hs pl pu ?_)
 have hno:¬ ((((sIx items.size 0 lo:Nat):Int) == 0 && (1:Int) == 1 && (sIx items.size items.size hi-sIx items.size 0 lo) == items.size)=true):=by intro q;rw[BL,BL]at q;have q1:((sIx items.size 0 lo:Nat):Int)=0:=eq_of_beq q.1.1;have q2:sIx items.size items.size hi-sIx items.size 0 lo=items.size:=eq_of_beq q.2;exact hw ⟨by lia,by lia⟩
 show Aw _ _ (if (((sIx items.size 0 lo:Nat):Int) == 0 && (1:Int) == 1 && (sIx items.size items.size hi-sIx items.size 0 lo) == items.size)=true then _ else _) _ _ s;rw[if_neg hno,zjI]
 first
  |exact Ad (m:=CK _) (BG (Aj ⟨_,rfl,Aj h⟩) htake)
  |exact Ad (m:=CK _) (BG (Ad (Aj (Aj ⟨_,rfl,Aj h⟩))) htake)
  |exact Ad (Ad (m:=CK _) (BG (Aj (Aj ⟨_,rfl,Aj h⟩)) htake))
  |exact Ad (Ad (m:=CK _) (BG (Aj ⟨_,rfl,Aj h⟩) htake))
end
end HT
namespace L2
open PySem PySem.Spec PyProof.Rows
noncomputable abbrev TO:=St->Hp->(Option Int->Hp->Prop)->Prop
noncomputable def PO(X:Cx)(e:Option Expr)(t:TO):Prop :=
 ∀(pins:List (Addr×Obj)) (s:Ac) (σ:St) (H:Hp) (Q:Option Int->Hp->Prop),Inv X pins σ H s->t σ H Q ->
  Aw (Az X.prog X.w) X.A (evalPart e X.env) (λu s'=>∃o H',Inv X pins σ H' s'/\IsPart u o/\Q o H') X.xe s
noncomputable def zgD:TO:=λ_ H Q=>Q none H
noncomputable def tPart(t:TE):TO:=λσ H Q=>t σ H λx H1=>∃i,x=.int i/\Q (some i) H1
theorem zbA{ns:List Int}:∀{us:List Ab},Vals (ns.map V.int) us->Ci us ns:=by
 induction ns with
 |nil=>intro us r;rw[List.map_nil]at r;cases r;exact .nil
 |cons n ns ih =>
  intro us r;rw[Bf]at r
  cases r with
  |cons r1 r2 =>
   obtain⟨t,e⟩:=r1;subst e;exact .cons n t (ih r2)
section
variable {X:Cx}{e:Expr}{te:TE}{lo hi:Option Expr}{tl th:TO}{pos p2:Pos}
theorem zc9:PO X none zgD:=by intro pins s σ H Q I h;rw[evalPart_none];exact Aj ⟨none,H,I,.none,h⟩
theorem zbT(h:PE X e te):PO X (some e) (tPart te):=by
 intro pins s σ H Q I hw;rw[evalPart_some];refine thn (h pins s σ H _ I hw) λu s1 ⟨x,H1,I1,r1,q1⟩=>?_
 obtain⟨i,rfl,q⟩:=q1;obtain⟨t,rfl⟩:=r1;exact⟨some i,H1,I1,.int i t,q⟩
noncomputable def SlR(X:Cx)(r:V->Option Int->Option Int->Hp->VK->Prop):Prop :=
 ∀(pins:List (Addr×Obj)) (s:Ac) (σ:St) (H:Hp) (x:V) (v vl vu:Ab) (lo hi:Option Int) (sl:Addr) (Q:VK),Inv X pins σ H s->RelV x v->s.heap.IsSliceOf sl vl vu .none->IsPart vl lo->IsPart vu hi->r x lo hi H Q ->
  ∃T id,typeLookup (.type T) "__getitem__" = pure (some (.builtin id))/\s.TypeIs v T/\Aw (Az X.prog X.w) X.A (getItem v (.ref sl)) (EP X pins σ Q) X.xe s
noncomputable def tSl(r:V->Option Int->Option Int->Hp->VK->Prop)(te:TE)(tl th:TO):TE:=λσ H Q=>te σ H λx H1=>tl σ H1 λl H2=>th σ H2 λu H3=>r x l u H3 Q
theorem zbN{r:V->Option Int->Option Int->Hp->VK->Prop}(hr:SlR X r)(he:PE X e te)(hl:PO X lo tl)(hu:PO X hi th):PE X (.Subscript e (.Slice lo hi none p2) pos) (tSl r te tl th):=by
 intro pins s σ H Q I h;refine Subscript_ (thn (he pins s σ H _ I h) λv s1 ⟨x,H1,I1,r1,q1⟩=>?_);refine wpAny_Slice (thn (hl pins s1 σ H1 _ I1 q1) λvl s2 ⟨l,H2,I2,pl,q2⟩=>thn (hu pins s2 σ H2 _ I2 q2) λvu s3 ⟨u,H3,I3,pu,q3⟩=>?_);rw[evalPart_none];refine Aj ?_
 have I4:Inv X pins σ H3 { s3 with heap:=s3.heap.push { cls:=.type "slice",data:=.fields #[vl,vu,.none] } }:=I3.kept (t':=s3.toks) λb ob q=>Ak _ q
 obtain⟨T,id,hT,ht,hg⟩:=hr pins { s3 with heap:=s3.heap.push { cls:=.type "slice",data:=.fields #[vl,vu,.none] } } σ H3 x v vl vu l u s3.heap.objs.size Q I4 r1 (Heap.IsSliceOf.new ..) pl pu q3;show Aw (Az X.prog X.w) X.A (subscriptTail e (.Slice lo hi none p2) v (.ref s3.heap.objs.size)) (EP X pins σ Q) X.xe { s3 with heap:=s3.heap.push { cls:=.type "slice",data:=.fields #[vl,vu,.none] } };exact tail_any (ops:=[.ref s3.heap.objs.size,v]) ht hT hg (by with_unfolding_all rfl)
noncomputable def cutV(xs:List V)(lo hi:Option Int):List V:=(xs.drop (HT.sIx xs.length 0 lo)).take (HT.sIx xs.length xs.length hi-HT.sIx xs.length 0 lo)
theorem zef(xs:List V)(lo hi:Option Int):(cutV xs lo hi).length<=xs.length:=by unfold cutV;rw[AL,List.length_drop];lia
noncomputable def rSlT(K:W.Frag):V->Option Int->Option Int->Hp->VK->Prop:=λx lo hi H Q=>∃a xs,x=.ref a/\SqT K H a xs /\
 ¬ (HT.sIx xs.length 0 lo=0/\HT.sIx xs.length xs.length hi=xs.length)/\∀p,H p=none->Q (.ref p) (upd H p (.tup (cutV xs lo hi)))
theorem zlo:SlR X (rSlT X.K):=by
 intro pins s σ H x v vl vu lo hi sl Q I rx hs pl pu h;obtain⟨a,xs,rfl,hx,hw,q⟩:=h
 cases rx
 obtain⟨its,r,ht,hz⟩:=I.tuple hx;have hlen:its.toArray.size=xs.length:=by rw[Ap];exact r.length.symm
 refine⟨"tuple",_,Bu.lookup,ht.typeIs,?_⟩;refine HT.getItem_tuple_cut ht hs pl pu (by rw[hlen];exact hw) ?_ (by rw[hlen];exact hz)
 rw[hlen];refine⟨.ref s.heap.objs.size,_,I.laid (t':=s.toks) (o:=.tup (cutV xs lo hi)) (λb ob q=>Ak _ q) (An _) ?_,rfl,q _ (I.hok.fresh (An _))⟩;exact⟨AS (zef xs lo hi) hz,_,(r.drop (HT.sIx xs.length 0 lo)).take (HT.sIx xs.length xs.length hi-HT.sIx xs.length 0 lo),IsTup.new _ _⟩
noncomputable def rCatT(K:W.Frag):R2:=λx y H Q=>∃a b xs ys,x=.ref a/\y=.ref b/\SqT K H a xs/\SqT K H b ys/\xs≠[]/\xs.length+ys.length<=sizeLine /\
 (ys=[]->Q (.ref a) H)/\(ys≠[]->∀p,H p=none->Q (.ref p) (upd H p (.tup (xs++ys))))
theorem Vals.nil_iff{xs:List V}{us:List Ab}(r:Vals xs us):us=[] ↔ xs=[]:=by
 cases r with
 |nil=>simp
 |cons _ _=>simp
theorem ziO:OpR X (CS .Add) (rCatT X.K):=by
 intro pins s σ H x y v u Q I rx ry h;obtain⟨a,b,xs,ys,rfl,rfl,ha,hb,hx,hz,q1,q2⟩:=h
 cases rx
 cases ry
 obtain⟨its,r1,p1,_⟩:=I.tuple ha;obtain⟨its2,r2,p2,_⟩:=I.tuple hb;refine HT.cat_tup p1 p2 (λz=>hx (r1.nil_iff.mp z)) (λz=>⟨.ref a,H,I,rfl,q1 (r2.nil_iff.mp z)⟩) (λz=>?_) (by rw[<- r1.length,<- r2.length];exact hz);refine⟨.ref s.heap.objs.size,_,I.laid (t':=s.toks) (o:=.tup (xs++ys)) (λb ob q=>Ak _ q) (An _) ?_,rfl,q2 (λw=>z (r2.nil_iff.mpr w)) _ (I.hok.fresh (An _))⟩;exact⟨by rw[Ai];exact hz,_,r1.append r2,IsTup.new _ _⟩
end
noncomputable def ixN(n:Nat)(i:Int):Option Nat:=if 0<=i then (if i<n then some i.toNat else none) else if -(n:Int)<=i then some (i+n).toNat else none
noncomputable def atI{α:Type}(xs:List α)(i:Int):Option α:=(ixN xs.length i).bind λj=>xs[j]?
theorem zi1{n:Nat}{i:Int}{j:Nat}(h:ixN n i=some j):seqIndex? i n=some j/\j<n/\-(n:Int)<=i/\i<n:=by
 unfold ixN at h
 by_cases h0:0<=i
 .rw[if_pos h0]at h
  by_cases h1:i<n
  .rw[if_pos h1]at h;have e:i.toNat=j:=AJ h;exact⟨by rw[seqIndex_of h0 h1,e],by lia,by lia,h1⟩
  .rw[if_neg h1]at h;cases h
 .rw[if_neg h0]at h
  by_cases h1:-(n:Int)<=i
  .rw[if_pos h1]at h;have e:(i+n).toNat=j:=AJ h;exact⟨by rw[seqIndex_neg (by lia) h1,e],by lia,h1,by lia⟩
  .rw[if_neg h1]at h;cases h
theorem zjq{α:Type}{xs:List α}{i:Int}{v:α}(h:atI xs i=some v):∃j,seqIndex? i xs.length=some j/\xs[j]?=some v/\j<xs.length/\-(xs.length:Int)<=i/\i<xs.length:=by
 unfold atI at h
 cases e:ixN xs.length i with
 |none=>rw[e]at h;cases h
 |some j =>
  rw[e]at h;obtain⟨h1,h2,h3,h4⟩:=zi1 e;exact⟨j,h1,h,h2,h3,h4⟩
theorem zai{α:Type}{xs:List α}{j:Nat}{v:α}(h:xs[j]?=some v):atI xs (j:Int)=some v:=by
 have hj:j<xs.length:=(Ae.mp h).1
 have e:ixN xs.length (j:Int)=some j:=by unfold ixN;rw[if_pos (by lia),if_pos (by lia)];simp
 unfold atI;rw[e];exact h
noncomputable def zld(b:Expr):Prop:=∀o i,subscripted b false o i=operate [o,i] (getItem o i)
noncomputable def IxR(X:Cx)(r:R2):Prop :=
 ∀(value slice:Expr) (pins:List (Addr×Obj)) (s:Ac) (σ:St) (H:Hp) (x y:V) (v u:Ab) (Q:VK),Inv X pins σ H s->RelV x v->RelV y u->r x y H Q ->
  subscripted slice false v u=operate [v,u] (getItem v u)->Aw (Az X.prog X.w) X.A (subscriptTail value slice v u) (EP X pins σ Q) X.xe s
noncomputable def MtR(X:Cx)(id:String)(r:V->List V->Hp->VK->Prop):Prop :=
 ∀(pins:List (Addr×Obj)) (s:Ac) (σ:St) (H:Hp) (x:V) (xs:List V) (v:Ab) (us:List Ab) (Q:VK),Inv X pins σ H s->RelV x v->Vals xs us->r x xs H Q ->
  Aw (Az X.prog X.w) X.A (call (.builtin id) (v::us)) (EP X pins σ Q) X.xe s
section
variable {X:Cx}{a b:Expr}{ta tb:TE}{pos:Pos}
theorem pe_ix{r:R2}(hr:IxR X r)(ha:PE X a ta)(hb:PE X b tb)(hs:zld b):PE X (.Subscript a b pos) (tOp r ta tb):=by intro pins s σ H Q I h;exact Subscript_ (binT ha hb I h λv u s2 x y H2 I2 rx ry q=>hr a b pins s2 σ H2 x y v u Q I2 rx ry q (hs _ _))
noncomputable def rIxL(K:W.Frag):R2:=λx y H Q=>∃p xs i v,x=.ref p/\y=.int i/\SqL K H p xs/\atI xs i=some v/\Q v H
noncomputable def rIxT(K:W.Frag):R2:=λx y H Q=>∃p xs i v,x=.ref p/\y=.int i/\SqT K H p xs/\atI xs i=some v/\Q v H
theorem zaz:IxR X (rIxL X.K):=by
 intro value slice pins s σ H x y v u Q I rx ry h hs;obtain⟨p,xs,i,z,rfl,rfl,hq,he,q⟩:=h
 cases rx
 obtain⟨t,rfl⟩:=ry;obtain⟨its,r,pl,hz⟩:=I.list hq;obtain⟨j,h1,h2,h3,h4,h5⟩:=zjq he;obtain⟨w,ew,rw'⟩:=r.get h2;have hl:=r.length;have hn:=zgh;have fin:EP X pins σ Q w s:=⟨z,H,I,rw',q⟩
 by_cases h0:0<=i
 .have hj:i.toNat=j := by rw[seqIndex_of h0 h5]at h1;exact AJ h1
  exact item_listR pl.isList h0 (by lia) (by rw[hj];simpa using ew) fin hs
 .have hj:(i + (its.toArray.size:Int)).toNat=j := by rw[seqIndex_neg (by lia) h4]at h1;rw[Ap,<- hl];exact AJ h1
  exact subscriptTail_builtinR (x:=w) pl.isList.typeIs slot_list_getitem.lookup
   (wpAny_getItem_list_neg (Q:=λr s'=>r=w/\EP X pins σ Q r s') pl.isList (by lia) (by rw[Ap] <;> lia) (by lia) (by rw[hj];simpa using ew) ⟨rfl,fin⟩) hs
theorem zaI:IxR X (rIxT X.K):=by
 intro value slice pins s σ H x y v u Q I rx ry h hs;obtain⟨p,xs,i,z,rfl,rfl,hq,he,q⟩:=h
 cases rx
 obtain⟨t,rfl⟩:=ry;obtain⟨its,r,pl,hz⟩:=I.tuple hq;obtain⟨j,h1,h2,h3,h4,h5⟩:=zjq he;obtain⟨w,ew,rw'⟩:=r.get h2;have hl:=r.length;have hn:=zgh;have fin:EP X pins σ Q w s:=⟨z,H,I,rw',q⟩
 exact subscriptTail_builtinR (x:=w) pl.typeIs slot_tuple_getitem.lookup
  (getItem_tuple (j:=j) (Q:=λr s'=>r=w/\EP X pins σ Q r s') pl (by lia) (by lia) (by rw[Ap,<- hl];exact h1) (by simpa using ew) ⟨rfl,fin⟩) hs
theorem zh7 (its:List Ab) (n j:Nat) (u:Ab):AB (·.setIfInBounds j u) { cls:=.type "list",data:=.seq its.toArray n }={ cls:=.type "list",data:=.seq (its.set j u).toArray n }:=by simp[AB]
theorem Inv.lst{pins:List (Addr × Obj)}{σ : St}{H:Hp}{s:Ac}{p:Addr}{xs:List V}(I:Inv X pins σ H s)(h:H p=some (.lst xs)) :
  ∃(its:List Ab) (n:Nat),Vals xs its/\s.heap.get? p=some { cls:=.type "list",data:=.seq its.toArray n }/\xs.length<=sizeLine:=by
 obtain⟨z,its,n,r,e⟩:=I.hok p _ h;exact⟨its,n,r,e,z⟩
theorem Inv.lstUpd{pins:List (Addr × Obj)}{σ : St}{H:Hp}{s:Ac}{p:Addr}{xs ys:List V}{its its':List Ab}{n n':Nat}{f:Obj -> Obj}(I:Inv X pins σ H s)(h:H p=some (.lst xs))
  (ho:s.heap.get? p=some { cls:=.type "list",data:=.seq its.toArray n }) (hf:f { cls:=.type "list",data:=.seq its.toArray n }={ cls:=.type "list",data:=.seq its'.toArray n' }) (r:Vals ys its') (hz:ys.length<=sizeLine) (t:Nat) :
  Inv X pins σ (upd H p (.lst ys)) { s with heap:=s.heap.update p f,toks:=t }:=by
 have e:(s.heap.update p f).get? p=some { cls:=.type "list",data:=.seq its'.toArray n' }:=by rw[Heap.get?_update_self f ho (by rw[hf] <;> rfl),hf]
 refine I.write (x:=p) (e:=p) (by rw[h];trivial) (.inl rfl) (λb u hb q=>(CY _ _ (Cb hb)).trans q) ⟨_,e⟩ ?_
 exact⟨hz,its',n',r,e⟩
noncomputable def rSetL:V->V->V->Hp->(Hp->Prop)->Prop:=λo i v H Q=>∃p xs k j,o=.ref p/\i=.int k/\H p=some (.lst xs)/\ixN xs.length k=some j/\Q (upd H p (.lst (xs.set j v)))
theorem zhh:PSet X rSetL:=by
 intro pins s σ H o i v ov iv u Q I ro ri rv h;obtain⟨p,xs,k,j,rfl,rfl,hp,hj,q⟩:=h
 cases ro
 obtain⟨t,rfl⟩:=ri;obtain⟨its,n,r,ho,hz⟩:=I.lst hp;obtain⟨h1,h2,h3,h4⟩:=zi1 hj;have hl:=r.length;have hn:=zgh
 have I':Inv X pins σ (upd H p (.lst (xs.set j v))) { s with heap:=s.heap.update p (AB (·.setIfInBounds j u)) } :=
  I.lstUpd hp ho (zh7 its n j u) (r.set rv j) (by rw[List.length_set];exact hz) s.toks
 by_cases h0:0<=k
 .have hk:k.toNat=j := by rw[seqIndex_of h0 h4]at h1;exact AJ h1
  exact W.ki_setAt ho h0 (by lia) (by rw[Ap,<- hl];exact h4) (by rw[hk];exact⟨_,I',q⟩)
 .have hk:(k + (its.toArray.size:Int)).toNat=j := by rw[seqIndex_neg (by lia) h3]at h1;rw[Ap,<- hl];exact AJ h1
  exact W.ki_setBack ho (by lia) (by rw[Ap,<- hl];exact h3) (by lia) (by rw[hk];exact⟨_,I',q⟩)
theorem zfX(lo hi:Option Int)(n:Nat):(DH lo hi none n).1=((HT.sIx n 0 lo:Nat):Int)/\(DH lo hi none n).2.1=((HT.sIx n n hi:Nat):Int)/\(DH lo hi none n).2.2=1:=by
 refine⟨?_,?_,rfl⟩
 .cases lo with
  |none=>simp[DH,HT.sIx]
  |some i =>
   simp only[DH,HT.sIx,Option.getD_none,show (1:Int) > 0 by decide,if_true]
   by_cases h:i<0
   .simp only[h,if_true] <;> lia
   .simp only[h,if_false] <;> lia
 .cases hi with
  |none=>simp[DH,HT.sIx]
  |some i =>
   simp only[DH,HT.sIx,Option.getD_none,show (1:Int) > 0 by decide,if_true]
   by_cases h:i<0
   .simp only[h,if_true] <;> lia
   .simp only[h,if_false] <;> lia
theorem ze6(its:List Ab)(lo hi:Option Int):slicePick its.toArray lo hi none=((its.drop (HT.sIx its.length 0 lo)).take (HT.sIx its.length its.length hi-HT.sIx its.length 0 lo)).toArray:=by obtain⟨h1,h2,h3⟩:=zfX lo hi its.toArray.size;unfold slicePick;rw[h1,h2,h3];simp only[sliceRange_one,pick_run,Ap] <;> rfl
noncomputable def rSlL(K:W.Frag):V->Option Int->Option Int->Hp->VK->Prop:=λx lo hi H Q=>∃a xs,x=.ref a/\SqL K H a xs/\∀p,H p=none->Q (.ref p) (upd H p (.lst (cutV xs lo hi)))
theorem zgJ:SlR X (rSlL X.K):=by
 intro pins s σ H x v vl vu lo hi sl Q I rx hs pl pu h;obtain⟨a,xs,rfl,hx,q⟩:=h
 cases rx
 obtain⟨its,r,ht,hz⟩:=I.list hx;have hlen:=r.length;refine⟨"list",_,slot_list_getitem.lookup,ht.isList.typeIs,?_⟩;refine wpAny_getItem_list_slice ht.isList hs pl pu .none (by simp) ?_ (by rw[Ap] <;> lia)
 rw[ze6,<- hlen];refine⟨.ref s.heap.objs.size,_,I.laid (t':=s.toks) (o:=.lst (cutV xs lo hi)) (λb ob q=>Ak _ q) (An _) ?_,rfl,q _ (I.hok.fresh (An _))⟩;exact⟨AS (zef xs lo hi) hz,_,0,(r.drop (HT.sIx xs.length 0 lo)).take (HT.sIx xs.length xs.length hi-HT.sIx xs.length 0 lo),AM _ rfl⟩
noncomputable def flatV:V->Bool
 |.non=>true
 |.bl _=>true
 |.int _=>true
 |.str _=>true
 |_=>false
noncomputable def eqV:V->V->Bool
 |.non,.non=>true
 |.bl a,.bl b=>a == b
 |.bl a,.int b=>(if a then 1 else 0) == b
 |.int a,.bl b=>a == (if b then 1 else 0)
 |.int a,.int b=>a == b
 |.str a,.str b=>a == b
 |_,_=>false
theorem zlX{A:AQ}{s:Ac}{y x:V}{u v:Ab}(ry:RelV y u)(rx:RelV x v)(fy:flatV y=true)(fx:flatV x=true):SeqAt.EqAt A s u v (eqV y x):=by
 cases y with
 |non =>
  cases ry
  cases x with
  |non=>cases rx;exact SeqAt.EqAt.same _
  |bl b=>cases rx;exact SeqAt.EqAt.none_bool b
  |int b=>obtain⟨t,rfl⟩:=rx;exact SeqAt.EqAt.none_int b t
  |str b=>obtain⟨t,rfl⟩:=rx;exact SeqAt.EqAt.none_str b t
  |_=>exact absurd (show false=true from fx) AA
 |bl a =>
  cases ry
  cases x with
  |non=>cases rx;exact SeqAt.EqAt.bool_none a
  |bl b=>cases rx;exact SeqAt.EqAt.bool_bool a b
  |int b=>obtain⟨t,rfl⟩:=rx;exact SeqAt.EqAt.bool_int a b t
  |str b=>obtain⟨t,rfl⟩:=rx;exact SeqAt.EqAt.bool_str a b t
  |_=>exact absurd (show false=true from fx) AA
 |int a =>
  obtain⟨t',rfl⟩:=ry
  cases x with
  |non=>cases rx;exact SeqAt.EqAt.int_none a t'
  |bl b=>cases rx;exact SeqAt.EqAt.int_bool a t' b
  |int b=>obtain⟨t,rfl⟩:=rx;exact SeqAt.EqAt.int_int a t' b t
  |str b=>obtain⟨t,rfl⟩:=rx;exact SeqAt.EqAt.int_str a t' b t
  |_=>exact absurd (show false=true from fx) AA
 |str a =>
  obtain⟨t',rfl⟩:=ry
  cases x with
  |non=>cases rx;exact SeqAt.EqAt.str_none a t'
  |bl b=>cases rx;exact SeqAt.EqAt.str_bool a t' b
  |int b=>obtain⟨t,rfl⟩:=rx;exact SeqAt.EqAt.str_int a t' b t
  |str b=>obtain⟨t,rfl⟩:=rx;exact SeqAt.EqAt.str_str a t' b t
  |_=>exact absurd (show false=true from fx) AA
 |_=>exact absurd (show false=true from fy) AA
noncomputable def eqU(x:V)(u:Ab):Bool:=match u with
 |.none=>eqV .non x
 |.bool b=>eqV (.bl b) x
 |.int i _=>eqV (.int i) x
 |.str z _=>eqV (.str z) x
 |_=>false
theorem zkr{x y:V}{u:Ab}(r:RelV y u)(f:flatV y=true):eqU x u=eqV y x:=by
 cases y with
 |non=>cases r;rfl
 |bl b=>cases r;rfl
 |int i=>obtain⟨t,rfl⟩:=r;rfl
 |str z=>obtain⟨t,rfl⟩:=r;rfl
 |_=>exact absurd (show false=true from f) AA
theorem zg0{x:V}:∀{xs:List V}{us:List Ab},Vals xs us->xs.all flatV=true->us.any (eqU x)=xs.any λy=>eqV y x
 |_,_,.nil,_=>rfl
 |y::xs,u::us,.cons r t,f=>by
  rw[List.all_cons,BL]at f;rw[List.any_cons,List.any_cons,zkr r f.1,zg0 t f.2]
theorem zfs{A:AQ}{s:Ac}{x:V}{v:Ab}(rx:RelV x v)(fx:flatV x=true):∀{xs:List V}{us:List Ab},Vals xs us->xs.all flatV=true->∀u∈us,SeqAt.EqAt A s u v (eqU x u)
 |_,_,.nil,_=>λu hu=>by cases hu
 |y::xs,u::us,.cons r t,f=>λu' hu=>by
  rw[List.all_cons,BL]at f;rcases AW.mp hu with rfl |hu
  .rw[zkr r f.1];exact zlX r rx f.1 fx
  .exact zfs rx fx t f.2 u' hu
noncomputable def inV(x:V)(xs:List V):Bool:=xs.any λy=>eqV y x
noncomputable def rIn(K:W.Frag)(neg:Bool):R2:=λx y H Q=>∃p xs,y=.ref p/\(SqL K H p xs∨SqT K H p xs)/\flatV x=true/\xs.all flatV=true/\Q (.bl (if neg then !inV x xs else inV x xs)) H
theorem zf7:OpR X (BH .NotIn) (rIn X.K true):=by
 intro pins s σ H x y v u Q I rx ry h;obtain⟨p,xs,rfl,hq,fx,fs,q⟩:=h
 cases ry
 rcases hq with hq |hq
 .obtain⟨its,r,pl,hz⟩:=I.list hq;refine SeqAt.notIn_listAt (eqU x) pl.isList (λw hw=>zfs rx fx r fs w (by simpa using hw)) ⟨.bl _,H,I,rfl,?_⟩;rw[show its.toArray.any (eqU x)=its.any (eqU x) by simp,zg0 r fs];exact q
 .obtain⟨its,r,pl,hz⟩:=I.tuple hq;refine SeqAt.notIn_tupleAt (eqU x) pl (λw hw=>zfs rx fx r fs w (by simpa using hw)) ⟨.bl _,H,I,rfl,?_⟩;rw[show its.toArray.any (eqU x)=its.any (eqU x) by simp,zg0 r fs];exact q
theorem zaJ:CallR X (.builtin "len") (λxs H Q=>∃p ys,xs=[.ref p]/\(SqL X.K H p ys∨SqT X.K H p ys)/\Q (.int ys.length) H):=by
 intro pins s σ H xs us Q I r h;obtain⟨p,ys,rfl,hq,q⟩:=h;obtain⟨u,rfl,rx⟩:=vals1 r
 cases rx
 have hn:=zgh;rcases hq with hq |hq
 .obtain⟨its,r',pl,hz⟩:=I.list hq;have hlen:=r'.length;exact Calls.call_len_list pl.isList (by simp only[Ap] <;> lia) ⟨.int ys.length,H,I.tok _,⟨s.toks+1,by rw[Ap,hlen]⟩,q⟩
 .obtain⟨its,r',pl,hz⟩:=I.tuple hq;have hlen:=r'.length;exact len_tuple pl (by simp only[Ap] <;> lia) ⟨.int ys.length,H,I.tok _,⟨s.toks+1,by rw[Ap,hlen]⟩,q⟩
theorem zc4:CallR X (.type "tuple") (λxs H Q=>∃p ys,xs=[.ref p]/\((SqL X.K H p ys/\∀l,H l=none->Q (.ref l) (upd H l (.tup ys)))∨(SqT X.K H p ys/\Q (.ref p) H))):=by
 intro pins s σ H xs us Q I r h;obtain⟨p,ys,rfl,h⟩:=h;obtain⟨u,rfl,rx⟩:=vals1 r
 cases rx
 rcases h with⟨hq,q⟩ |⟨hq,q⟩
 .obtain⟨its,r',pl,hz⟩:=I.list hq;have hlen:=r'.length;refine call_tuple_list pl.isList (λh' kp=>?_) (by simp only[Ap] <;> lia);have I1:Inv X pins σ H { s with heap:=h' }:=I.kept (t':=s.toks) kp
  have I2:Inv X pins σ (upd H h'.objs.size (.tup ys)) { s with heap:=h'.push { cls:=.type "tuple",data:=.seq its.toArray } } :=
   I1.laid (t':=s.toks) (λb o e=>Ak _ e) (An _) (show ObjOk X.prog X.w _ _ _ (.tup ys) from ⟨hz,its,r',IsTup.new _ _⟩)
  exact⟨.ref h'.objs.size,_,I2,rfl,q _ (I1.hok.fresh (An _))⟩
 .obtain⟨its,r',pl,hz⟩:=I.tuple hq;exact call_tuple_same pl ⟨.ref p,H,I,rfl,q⟩
noncomputable def tyV(K:W.Frag)(T:String)(x:V)(H:Hp):Prop:=match x with
  |.str _=>T = "str"
  |.int _=>T = "int"
  |.ref p => (T = "list" /\ ∃xs, SqL K H p xs) ∨ (T = "tuple" /\ ∃o, K.lookup p=some o /\ o.cls = .type "tuple" /\ o.dict=none) ∨
      (T = "dict" /\ ((∃kvs,H p=some (.dK kvs))∨∃kvs,H p=some (.dT kvs)))∨(T = "set" /\ ∃S n,H p=some (.set S n))
  |_=>False
theorem zlg{pins:List (Addr × Obj)}{σ : St}{H:Hp}{s:Ac}{T:String}{x:V}{v:Ab}(I:Inv X pins σ H s)(r:RelV x v)(ty:tyV X.K T x H) :
  s.TypeIs v T/\∀a,v=.ref a->∃ob,s.heap.get? a=some ob/\ob.dict=none:=by
 cases x with
 |str z =>
  obtain⟨t,rfl⟩:=r
  cases (show T = "str" from ty)
  exact⟨typeIs_str s z t,λ_ e=>nomatch e⟩
 |int i =>
  obtain⟨t,rfl⟩:=r
  cases (show T = "int" from ty)
  exact⟨typeIs_int s i t,λ_ e=>nomatch e⟩
 |ref p =>
  cases r
  rcases ty with⟨rfl,xs,hq⟩ |⟨rfl,o,hk,hc,hd⟩ |⟨rfl,hk⟩ |⟨rfl,S,n,hk⟩
  .obtain⟨its,_,pl,_⟩:=I.list hq;refine⟨pl.isList.typeIs,λa e=>?_⟩
   cases e
   obtain⟨o,n,e,c,hd,_⟩:=pl;exact⟨o,e,hd⟩
  .refine⟨⟨o,I.kIn p o hk,hc⟩,λa e=>?_⟩
   cases e
   exact⟨o,I.kIn _ o hk,hd⟩
  .have z:∃o, s.heap.get? p=some o /\ o.ExactDict := by
    rcases hk with⟨kvs,hk⟩ |⟨kvs,hk⟩
    .obtain⟨_,_,_,_,o,_,_,e,ex,_⟩:=I.hok p _ hk;exact⟨o,e,ex⟩
    .obtain⟨_,_,_,_,o,_,_,e,ex,_⟩:=I.hok p _ hk;exact⟨o,e,ex⟩
   obtain⟨o,e,ex⟩:=z;refine⟨⟨o,e,ex.1⟩,λa e2=>?_⟩
   cases e2
   exact⟨o,e,ex.2.1⟩
  .obtain⟨o,_,_,_,e,ex,_⟩:=I.hok p _ hk;refine⟨⟨o,e,ex.1⟩,λa e2=>?_⟩
   cases e2
   exact⟨o,e,ex.2.1⟩
 |_=>exact BD ty
noncomputable def tBM(K:W.Frag)(T:String)(r:V->List V->Hp->VK->Prop)(to:TE)(t:TA):TE:=λσ H Q=>to σ H λx H1=>tyV K T x H1/\t σ H1 λxs H2=>r x xs H2 Q
variable {o e:Expr}{es:List Expr}{to:TE}{t:TA}{name:Str}{apos cpos:Pos}{T id:String}{r:V->List V->Hp->VK->Prop}
theorem pe_bm (pa:PlainAttrs T) (slot:Slot T name id) (hty:typeOf (.builtin id)=pure (.type "method_descriptor")) (hm:MtR X id r) (ho:PE X o to) (ha:PA X (e :: es) t)
  (hbase:attributeBase o name X.env (eval o X.env)=eval o X.env:=by rfl)
  (hfew:((backTo cpos (Bq (e::es) X.env)).all (λx=>!x.1) && (Ds cpos (Ck [] X.env)).all (λx=>x.1.isSome)
   && decide ((e::es).length+([]:List Keyword).length+(if ([]:List Keyword).isEmpty then 0 else 1)<30))=true:=by rfl)
  (hline:(apos.endLine == cpos.line)=true:=by rfl) (hs:Bq (e::es) X.env=(false,eval e X.env)::Bq es X.env:=by rfl) (hplain:(backTo cpos (Bq es X.env)).any (·.1)=false:=by rfl) :
  PE X (.Call (.Attribute o name apos) (e::es) [] cpos) (tBM X.K T r to t):=by
 intro pins s σ H Q I h;refine wpAny_Call_method_late hbase hfew hline rfl (thn (ho pins s σ H _ I h) λv s1 ⟨x,H1,I1,r1,ty,q1⟩=>?_);obtain⟨h1,h2⟩:=zlg I1 r1 ty;refine⟨T,id,pa,slot,hty,h1,h2,?_⟩;have hA:=ha cpos pins s1 σ H1 _ I1 q1;rw[hs]at hA ⊢;refine Calls.callWith_builtin (by show (false || (backTo cpos (Bq es X.env)).any (·.1))=false;rw[hplain] <;> rfl) (Calls.evalArgs_plain ?_);exact thn hA λus s2 ⟨vs,H2,I2,r2,q2⟩=>hm pins s2 σ H2 x vs v us Q I2 r1 r2 q2
/- xs.append(e),list.index on a module's tuple .. are MtR facts of 06m -/
end
noncomputable def MtM(X:Cx)(id:String)(r:V->List V->Hp->VK->Prop):Prop :=
 ∀(pins:List (Addr×Obj)) (s:Ac) (σ:St) (H:Hp) (x:V) (xs:List V) (v:Ab) (us:List Ab) (Q:VK),Inv X pins σ H s->RelV x v->Vals xs us->r x xs H Q ->
  Aw (Az X.prog X.w) X.A (call (.builtin id) (v::us)) (EP X pins σ Q) X.xe s
theorem Vals.one:∀{x:V}{us:List Ab},Vals [x] us->∃u,us=[u]/\RelV x u
 |_,_,.cons r .nil=>⟨_,rfl,r⟩
theorem Vals.rep{xs:List V}{us:List Ab}(h:Vals xs us):∀k:Nat,Vals (Af k xs).flatten (Af k us).flatten
 | 0=>.nil
 |k+1=>by
  rw[Bd,Bd,Bl,Bl];exact Vals.append h (Vals.rep h k)
theorem zgl(its:List Ab):∀(k:Nat) (acc:List Ab),
  List.foldl (λx1 x2=>x1++x2) acc.toArray (Af k its.toArray)=(acc++(Af k its).flatten).toArray
 | 0,acc=>by simp
 |k+1,acc=>by
  have e:acc.toArray++its.toArray=(acc++its).toArray:=by simp
  have e2:(acc++its)++(Af k its).flatten=acc++(Af (k+1) its).flatten:=by rw[Bd,Bl,At]
  rw[<- e2,<- zgl its k (acc++its),<- e,Bd,List.foldl_cons]
section
variable {X:Cx}{pins:List (Addr×Obj)}{σ:St}{H:Hp}{s:Ac}{l b:Addr}{xs ys zs:List V}
theorem Inv.lset{its its':List Ab}{n:Nat}{f:Array Ab -> Array Ab}{t':Nat}(I:Inv X pins σ H s)(hH:H l=some (.lst xs))
  (e:s.heap.get? l=some { cls:=.type "list",data:=.seq its.toArray n }) (hf:f its.toArray=its'.toArray) (hv:Vals ys its') (hz:ys.length<=sizeLine) :
  Inv X pins σ (upd H l (.lst ys)) { s with heap:=s.heap.update l (AB f),toks:=t' }:=by
 have q:=PySem.IsL.update e f;rw[hf]at q;refine I.write (x:=l) (e:=l) (by rw[hH];exact trivial) (.inl rfl) (λb' u hb hu=>(CY s.heap (AB f) (Cb hb)).trans hu) ⟨_,q⟩ ?_
 exact⟨hz,its',_,hv,q⟩
theorem Inv.lnew{its:List Ab}{t':Nat}(I:Inv X pins σ H s)(hv:Vals ys its)(hz:ys.length <= sizeLine) :
  Inv X pins σ (upd H s.heap.objs.size (.lst ys)) { s with heap:=s.heap.push { cls:=.type "list",data:=.seq its.toArray },toks:=t' } :=
 I.laid (λ_ _ q=>Ak _ q) (An _) ⟨hz,its,0,hv,AM _ rfl⟩
theorem Inv.fresh(I:Inv X pins σ H s):H s.heap.objs.size=none:=I.hok.fresh (An _)
theorem Inv.lstM (I:Inv X pins σ H s) (hH:H l=some (.lst xs)):xs.length<=sizeLine/\∃(its:List Ab) (n:Nat),Vals xs its/\xs.length=its.length/\s.heap.get? l=some { cls:=.type "list",data:=.seq its.toArray n }:=by obtain⟨z,its,n,r,e⟩:=I.hok l _ hH;exact⟨z,its,n,r,r.length,e⟩
theorem zhr{n:Nat}(h:n<=sizeLine):CL n=false:=by unfold CL;exact decide_eq_false (by lia)
end
section
variable {X:Cx}
noncomputable def zkM:V->List V->Hp->VK->Prop:=λx vs H Q=>∃l xs y,x=.ref l/\vs=[y]/\H l=some (.lst xs)/\xs.length<sizeLine/\Q .non (upd H l (.lst (xs++[y])))
theorem za8:MtM X "list.append" zkM:=by
 intro pins s σ H x vs v us Q I rx rv h;obtain⟨l,xs,y,rfl,rfl,hH,hz,q⟩:=h
 cases rx
 obtain⟨u,rfl,ru⟩:=rv.one;obtain⟨z,its,n,r,hl,e⟩:=I.lstM hH;refine call_meets F.slot_list_append ⟨_,e,rfl⟩ F.entry_list_append (F.args_list_append_2 _ _) (PySem.list_append l its.toArray n u (by rw[Ap];lia)) ⟨e,?_⟩;refine⟨.non,_,I.lset (its':=its++[u]) hH e (by simp) (r.append (.cons ru .nil)) ?_,rfl,q⟩;rw[Ai,Ct];lia
noncomputable def zkL:V->List V->Hp->VK->Prop:=λx vs H Q=>∃l b xs zs,x=.ref l/\vs=[.ref b]/\H l=some (.lst xs)/\H b=some (.lst zs)/\xs.length+zs.length<=sizeLine/\Q .non (upd H l (.lst (xs++zs)))
theorem zgd:MtM X "list.extend" zkL:=by
 intro pins s σ H x vs v us Q I rx rv h;obtain⟨l,b,xs,zs,rfl,rfl,hH,hB,hz,q⟩:=h
 cases rx
 obtain⟨u,rfl,ru⟩:=rv.one
 cases ru
 obtain⟨z,its,n,r,hl,e⟩:=I.lstM hH;obtain⟨z2,its2,n2,r2,hl2,e2⟩:=I.lstM hB;have hsz:its.toArray.size+its2.toArray.size<=sizeLine:=by rw[Ap,Ap];lia
 have hlong:¬ (!its.toArray.isEmpty && CL (its.toArray.size+its2.toArray.size))=true:=by rw[zhr hsz,Bool.and_false];exact AA
 refine call_meets F.slot_list_extend ⟨_,e,rfl⟩ F.entry_list_extend (F.args_list_extend_2 _ _)
  (AutoSeq1.list_extend_list_list_0 l its.toArray n b its2.toArray n2 hlong (by rw[Ap];lia) (by lia)) ⟨e,e2,?_⟩
 refine⟨.non,_,I.lset (its':=its++its2) hH e (by simp) (r.append r2) ?_,rfl,q⟩;rw[Ai];lia
noncomputable def rCat:R2:=λx y H Q=>∃l b xs zs,x=.ref l/\y=.ref b/\H l=some (.lst xs)/\H b=some (.lst zs)/\xs.length+zs.length<=sizeLine/\∀p,H p=none->Q (.ref p) (upd H p (.lst (xs++zs)))
theorem zeO:OpR X (CS .Add) rCat:=by
 intro pins s σ H x y v u Q I rx ry h;obtain⟨l,b,xs,zs,rfl,rfl,hH,hB,hz,q⟩:=h
 cases rx
 cases ry
 obtain⟨z,its,n,r,hl,e⟩:=I.lstM hH;obtain⟨z2,its2,n2,r2,hl2,e2⟩:=I.lstM hB;refine PySem.P.add_list e e2 ?_ (by rw[Ap,Ap];lia)
 have ea:its.toArray++its2.toArray=(its++its2).toArray:=by simp
 rw[ea];exact⟨.ref _,_,I.lnew (t':=s.toks) (r.append r2) (by rw[Ai];lia),rfl,q _ I.fresh⟩
noncomputable def rRep:R2:=λx y H Q=>∃l k xs,x=.ref l/\y=.int k/\H l=some (.lst xs)/\-(2 ^ 63)<=k/\k<2 ^ 63/\xs.length*k.toNat<=sizeLine /\
 ∀p,H p=none->Q (.ref p) (upd H p (.lst (Af k.toNat xs).flatten))
theorem zk2{α:Type}(xs:List α)(k:Nat):(Af k xs).flatten.length=k*xs.length:=by
 induction k with
 |zero=>simp
 |succ k ih=>rw[Bd,Bl,Ai,ih,Nat.succ_mul,Nat.add_comm]
theorem zdY:OpR X (CS .Mult) rRep:=by
 intro pins s σ H x y v u Q I rx ry h;obtain⟨l,k,xs,rfl,rfl,hH,h1,h2,hz,q⟩:=h
 cases rx
 obtain⟨t,rfl⟩:=ry;obtain⟨z,its,n,r,hl,e⟩:=I.lstM hH;have hlen:its.toArray.size*k.toNat<=sizeLine:=by rw[Ap,<- hl];exact hz
 have hcap:¬ its.toArray.size*k.toNat > (2 ^ 63-1) / 8:=by
  have:(sizeLine:Nat)<=(2 ^ 63-1) / 8:=by decide
  lia
 have hfit:¬ (!Builtin.List.listFitsIndex k)=true:=by rw[fitsIndex_both h1 h2];exact AA
 have hlong:¬ CL (its.toArray.size*k.toNat)=true:=by rw[zhr hlen];exact AA
 have hnew:List.foldl (λx1 x2=>x1++x2) #[] (Af (if its.toArray.isEmpty=true then 0 else k.toNat) its.toArray)=(Af k.toNat its).flatten.toArray:=by
  have f0:∀m:Nat,List.foldl (λx1 x2=>x1++x2) #[] (Af m its.toArray)=(Af m its).flatten.toArray:=λm=>by have:=zgl its m [];rw[List.nil_append]at this;exact this
  rw[f0]
  cases its with
  |nil=>simp
  |cons a r'=>rw[if_neg (by simp)]
 refine wpAny_binaryOp_repeat_ref (T:="list") (U:="int") (by decide) ⟨_,e,rfl⟩ (λs'=>typeIs_int s' k t) noFill_list_mul F.fills_int_mul F.slot_int_rmul repeat_list F.slot_int_index.lookup
  (call_meets F.slot_int_rmul (typeIs_int s k t) F.entry_int_rmul (F.args_int_rmul_2 _ _) (int___rmul___int_list k t l its.toArray n)
   ⟨e,rfl,⟨_,e,rfl⟩,call_meets F.slot_list_mul ⟨_,e,rfl⟩ F.entry_list_mul (F.args_list_mul_2 _ _) (AutoListH.list___mul___list_int_3 l its.toArray n k t hfit hcap hlong) ⟨e,?_⟩⟩)
 rw[hnew];exact⟨.ref _,_,I.lnew (t':=s.toks) (r.rep k.toNat) (by rw[zk2,Nat.mul_comm];exact hz),rfl,q _ I.fresh⟩
end
section
variable {prog:AH}{w:Bc}{A:AQ}{E:Ab->Ac->Prop}{s:Ac}
end
section
variable {X:Cx}
end
end L2
namespace Att
open PySem PySem.W PySem.Calls PyProof.Rows
theorem zd6{P:Params}{h:Heap}:∀(ns:List Int) (vs:List Ab),WellAll P h vs (ns.map WData.int)->Ci vs ns:=by
 intro ns
 induction ns with
 |nil =>
  intro vs w;rw[List.map_nil]at w
  cases w
  exact .nil
 |cons n ns ih =>
  intro vs w;rw[Bf]at w
  cases w with
  |cons a b =>
   cases a
   exact .cons _ _ (ih _ b)
theorem ziw{l:OpenLaw}{n:Nat}(hn:l.most=some n){P:Params}{h:Heap}{args:List WData}{vals:List Ab}
  (hpre:l.row.toRowW.claim.pre args=true) (hwl:WellAll P h vals args) :
  ∃a vs ns,vals=[Value.ref a]/\args=[WData.list (ns.map WData.int)]/\h.get? a=some { cls:=.type "list",data:=.seq vs.toArray }/\Ci vs ns/\ns.length<=n:=by
 have hsh:WShape.hasAll [] args [.list .int]=true:=(pre_splitW hpre).1;have hc:l.pre.holds [] { args:=args }=true:=(pre_splitW hpre).2;obtain⟨d,r,rfl,h1,h2⟩:=hasAllW_cons hsh;obtain rfl:=hasAllW_nil h2;obtain⟨xs,rfl,h3⟩:=hasW_list h1;obtain⟨ns,rfl⟩:=items_int h3
 have hlen:ns.length<=n:=by
  unfold OpenLaw.pre at hc
  have h4:(WTm.not (.lt (.lit (.int (n:Int))) (.len (.arg 0)))).holds [] { args:=[.list (ns.map .int)] }=true:=by have h4:=(holds_andW hc).1;rw[hn]at h4;exact h4
  have h5:=condW_of h4 (w_not (w_lt w_lit (w_len_list (w_arg rfl))));rw[Am]at h5;refine Nat.le_of_not_lt λq=>?_
  have q':(n:Int)<((ns.length:Nat):Int):=by lia
  first
   | (rw[decide_eq_true q']at h5;exact absurd h5 (by decide))
   | (simp at h5;lia)
 cases hwl with
 |cons w1 w2 =>
  cases w2
  cases w1 with
  |list ho hall=>exact⟨_,_,ns,rfl,rfl,ho,zd6 ns _ hall,hlen⟩
theorem ziG(l:OpenLaw)(args:List WData):l.row.toRowW.claim.post args (.bool true) args=true :=
 postW_of (r:=l.row.toRowW) (X:=(true == true))
  (show WShape.has [] (.bool true) .bool=true by first |rfl |decide |simp[WShape.has,WShape.arms,WShape.armsAll])
  (show (WTm.eq .res (.lit (.bool true))).value [] { args:=args,res:=some (.bool true),after:=args }=some (.bool (true == true)) from w_eq_bool (w_res rfl) w_lit) rfl
theorem attach_call{l:OpenLaw}{n:Nat}{q:AH}{loose:List Str}{XP:(Str -> Option Ab) -> Heap -> Prop}{YP:Bc -> Heap -> Prop}{d:DefRec}
  (hn:l.most=some n) (hdf:d.params.defaults=[])
  (call:∀(w:Bc) (s₀ s₁:Ac) (mg mb:Str->Option Ab) (fa:Addr) (o:Obj) (pm cd doc:Ab) (a:Addr) (vs:List Ab) (ns:List Int),
   Ground q loose [] XP w s₀ mg mb s₁.heap->YP w s₁.heap ->
   s₁.heap.get? fa=some o->o.data=.func (docDef d.name d.params d.body d.scope pm cd doc)->s₁.heap.CodeRec cd d.name->mg d.name=some (.ref fa) ->
   s₁.heap.get? a=some { cls:=.type "list",data:=.seq vs.toArray }->Ci vs ns->ns.length<=n->s₁.gens=#[] ->
   CB (Az l.prog w) callerA (.call (.ref fa) ⟨[.ref a],[]⟩) (λr s'=>r=.ok (.ret (.bool true))/\OldK s₁.heap s'.heap/\s'.os=s₁.os/\AllBare s'.gens) s₁) :
  WalkO q loose XP YP l.row.toRowW d [] (λf vs=>PySem.call f vs):=by
 intro w s₀ s₁ mg mb G Y fa o pm cd doc dV kV ho hd hcd hD hmg hg args vals as hpre hlay hrd hwl hlo;obtain rfl:dV=.none:=Dflts.none hD hdf;obtain rfl:kV=.none:=Dflts.noKw hD;obtain⟨a,vs,ns,rfl,rfl,hobj,hints,hlen⟩:=ziw hn hpre hwl;refine enter_call (codeAny_mono (call w s₀ s₁ mg mb fa o pm cd doc a vs ns G Y ho (fd_plain hd) hcd hmg hobj hints hlen hg) λr s' hq=>?_);obtain⟨rfl,h2,h3,h4⟩:=hq;exact⟨.inl ⟨.bool true,.bool true,[],rfl,λ_=>rfl,.bool true,ziG l _,λ_=>⟨List.Pairwise.nil,λ_ hm=>(nomatch hm)⟩⟩,h2,h3,h4⟩
section
variable {prog:AH}{w:Bc}{A:AQ}{E:Ab->Ac->Prop}{s:Ac}{K:Frag}
noncomputable def zl6(h:Heap)(L d:Addr):List (Addr×Obj):=(A0 h.objs.size).filterMap λa=>if a=L∨a=d then none else (h.get? a).map λo=>(a,o)
end
end Att
namespace L2
open PySem PySem.Spec PyProof.Rows
theorem zfQ:∀{vs:List Ab}{ns:List Int},Ci vs ns->Vals (ns.map V.int) vs
 |_,_,.nil=>.nil
 |_,_,.cons n t h=>.cons ⟨t,rfl⟩ (zfQ h)
noncomputable def Only(H:Hp):Prop:=∀b,H b=none∨∃o xs,H b=some (.frz o (.lst xs))
theorem zjT{P:AH}{w:Bc}{K:W.Frag}{mg mb:Str -> Option Ab}{CX:CXT}{k:Nat}{fa a:Addr}{fd:Bx}{x:Str}{sp:Sp}{s₁ : Ac}{vs:List Ab}{ns:List Int}
    (KX:K.In s₁.heap) (hns:s₁.heap.Ns AI mg) (hb:s₁.heap.Ns builtinsNs mb) (hbb:∀x:Str,x ≠ "__name__" -> mb x=bootBuiltins x) (hlim:s₁.heap.NoLimit) (hg:s₁.gens=#[])
    (ha:s₁.heap.get? a=some { cls:=.type "list",data:=.seq vs.toArray }) (hi:Ci vs ns) (hl:ns.length<=sizeLine) (hr:Room k callerA)
    (F:∀base:Heap,K.In base->base.Ns AI mg->FnOk P w K mg base CX k fa fd [x] sp) (hbind:∀(s:Ac) (u:Ab),BindsTo s fd ⟨[u],[]⟩ [(x,u)])
    (hsp:∀H:Hp,Only H->SqL K H a (ns.map V.int)->sp [.ref a] H (λv _=>v=.bl true) λ_ _ _=>False)
    (hCX:∀H e s',CX [] H s₁ (λ_ _ _=>False) e s'->False) :
    CB (Az P w) callerA (.call (.ref fa) ⟨[.ref a],[]⟩) (λr s'=>r=.ok (.ret (.bool true))/\OldK s₁.heap s'.heap/\s'.os=s₁.os/\AllBare s'.gens) s₁:=by
  have rv:=zfQ hi;have lenV:=hi.length
  have core:∀H:Hp, Only H -> SqL K H a (ns.map V.int) -> HOk P w H s₁.heap -> (∀b, H b ≠ none -> b=a) -> (H a ≠ none -> K.lookup a=none) ->
      CB (Az P w) callerA (.call (.ref fa) ⟨[.ref a],[]⟩) (λr s'=>r=.ok (.ret (.bool true))/\OldK s₁.heap s'.heap/\s'.os=s₁.os/\AllBare s'.gens) s₁:=by
    intro H hO hS hok hA hK;have base_of:∀{b:Addr} {o:Obj},s₁.heap.get? b=some o->H b=none->(hidT s₁.heap H).get? b=some o:=λe n=>zjU e n
    have noA:∀{b:Addr} {o:Obj} {es:Array DictEntry} {ep:Nat},s₁.heap.get? b=some o->o.data=.dict es ep->H b=none:=λ{b o es ep} e d=>by
      cases q:H b with
      |none=>rfl
      |some u =>
        have e':b=a:=hA b (by rw[q];simp);subst e';rw[ha]at e;cases e;have d':Data.seq vs.toArray _=Data.dict es ep:=d
        cases d'
    have nsK:∀{b:Addr} {m:Str->Option Ab},s₁.heap.Ns b m->(hidT s₁.heap H).Ns b m:=λ{b m} ⟨o,es,ep,e,d,r⟩=>⟨o,es,ep,base_of e (noA e d),d,r⟩
    have hKb:K.In (hidT s₁.heap H):=λb o e=>base_of (KX b o e) (by
      cases q:H b with
      |none=>rfl
      |some u =>
        have e':b=a:=hA b (by rw[q];simp);subst e';rw[hK (by rw[q];simp)]at e;cases e)
    have hM:Mod K mg (hidT s₁.heap H):=⟨hKb,nsK hns,⟨mb,nsK hb,hbb⟩,let ⟨mc,h1,h2⟩:=hlim;⟨mc,nsK h1,h2⟩⟩;have e0:Env0 P w K mg (hidT s₁.heap H) callerA [] s₁ H:=⟨rfl,hM,λb o e=>zkX e,Nat.le_of_eq (zi4 _ _),trivial,λb hb=>absurd (show b∈([]:List Addr) from hb) (by simp),hok,.of_eq hg⟩;refine codeAny_mono ((F _ hKb (nsK hns)).run callerA [] s₁ H ⟨[.ref a],[]⟩ [.ref a] [.ref a] _ _ hr e0 (hbind s₁ (.ref a)) (.cons rfl .nil) (hsp H hO hS)) λr s' h=>?_
    cases r with
    |error e=>exact (hCX H e s' h).elim
    |ok fl =>
      cases fl with
      |next=>exact BD h
      |brk=>exact BD h
      |cont=>exact BD h
      |ret u =>
        obtain⟨v,H',os,bare,un,hok',r',q⟩:=h;have q':v=.bl true:=q;subst q';obtain rfl:u=Value.bool true:=r';refine⟨rfl,OldK.of_keep λb o e=>?_,os,bare⟩
        cases q:H b with
        |none=>exact un.keep b o e q (by intro z;exact absurd (show b∈([]:List Addr) from z) (by simp)) (by simp)
        |some u =>
          rcases hO b with z |⟨ob,xs,z⟩
          . rw[q]at z;cases z
          . have z2:=un.frzs b ob _ z;obtain⟨e1,_⟩:=hok b _ z;obtain⟨e2,_⟩:=hok' b _ z2;rw[e]at e1;cases e1;exact e2
  cases hk:K.lookup a with
  |some o =>
    have e:=KX a o hk;rw[ha]at e
    cases e
    refine core (λ_=>none) (λ_=>.inl rfl) (.inr ⟨_,vs.toArray,_,hk,rfl,rfl,rfl,by rw[Ap,lenV];exact hl,by simpa using rv⟩) (λb u z=>by have z':(none:Option HO)=some u:=z;cases z') (λb z=>absurd rfl z) λz=>absurd rfl z
  |none =>
    refine core (λb=>if b=a then some (.frz { cls:=.type "list",data:=.seq vs.toArray } (.lst (ns.map V.int))) else none) (λb=>?_) (.inl (.inr ⟨{ cls:=.type "list",data:=.seq vs.toArray },if_pos rfl⟩)) (λb u z=>?_) (λb z=>?_) λ_=>hk
    . by_cases hb:b=a
      . exact .inr ⟨_,_,if_pos hb⟩
      . exact .inl (if_neg hb)
    . by_cases hb:b=a
      . have z':=(if_pos hb).symm.trans z
        cases z'
        subst hb;exact⟨ha,by rw[Am];exact hl,vs,_,rv,ha⟩
      . have z':=(if_neg hb).symm.trans z
        cases z'
    . by_cases hb:b=a
      . exact hb
      . exact absurd (if_neg hb) z
noncomputable abbrev KOf{K:W.Frag}{h:Heap}(_:K.In h):W.Frag:=K
theorem walk_of{l:W.OpenLaw}{n k:Nat}{q:AH}{loose:List Str}{XP:(Str -> Option Ab) -> Heap -> Prop}{YP:Bc -> Heap -> Prop}{d:DefRec}{K:Params -> W.Frag}{CX:Bc -> CXT}{sp:Bc -> Sp}{x:Str}
  (hn:l.most=some n) (hn2:n<=sizeLine) (hdf:d.params.defaults=[]) (hr:Room k callerA)
  (hY:∀(w:Bc) (h:Heap),YP w h->(K w.params).In h)
  (F:∀(w:Bc) (mg:Str->Option Ab) (fa:Addr) (h:Heap),(K w.params).In h->h.Ns AI mg->mg d.name=some (.ref fa) ->
   ∃fd:Bx,(∀(s:Ac) (u:Ab),BindsTo s fd ⟨[u],[]⟩ [(x,u)]) /\
    ∀base:Heap,(K w.params).In base->base.Ns AI mg->FnOk l.prog w (K w.params) mg base (CX w) k fa fd [x] (sp w))
  (hsp:∀(w:Bc) (H:Hp) (a:Addr) (ns:List Int),ns.length<=n->Only H->SqL (K w.params) H a (ns.map V.int)->sp w [.ref a] H (λv _=>v=.bl true) λ_ _ _=>False)
  (hCX:∀(w:Bc) (H:Hp) (s:Ac) (e:Ab) (s':Ac),CX w [] H s (λ_ _ _=>False) e s'->False) :
  W.WalkO q loose XP YP l.row.toRowW d [] (λf vs=>PySem.call f vs):=by
 refine Att.attach_call hn hdf λw s₀ s₁ mg mb fa o pm cd doc a vs ns G Y ho hd hcd hmg hobj hints hlen hg=>?_
 have KX:=hY w _ Y;obtain⟨fd,hb,hF⟩:=F w mg fa _ KX G.T.g hmg;exact zjT KX G.T.g G.T.b G.T.builtins G.T.nolimit hg hobj hints (AS hlen hn2) hr hF hb (λH hO hS=>hsp w H a ns hlen hO hS) λH e s'=>hCX w H s₁ e s'
end L2
/- THE LAST THEOREM (shape; LID, My.* are yours):
  My.Adr: a structure of the addresses that your layer names (classes,functions);My.Txt K t: a structure (Prop) of the equations over K;
  My.txt_mk:{K} {implicit addresses ..} (e1:nsIn K AI "law" = some (some (.ref f))) (e2:K.lookup f=some ⟨oc,od,.func (fnOf "law" "law" params body scope dV kV doc pm an cdv ct),sl⟩) (e3:codeIn K cdv "law" = true) ..:∃t,My.Txt K t
set_option maxRecDepth 100000 in
set_option maxHeartbeats 0 in
theorem PySem.Challenge.cw_LID_holds : PySem.Challenge.rw_LID.Holds := by
 w_on;o_law;k_head;(case hw=>w_witness2)
 k_fill
 refine L2.walk_of (l:=PySem.Challenge.rw_LID) (n:=63) (k:=40) (x:="script") (CX:=λw=>..) (sp:=λ_=>My.sp_law) rfl (by decide) rfl ⟨rfl,by decide,by decide⟩ (λw h Y=>W.kIn_of Y) ?F ?S ?C
 case F =>
  intro w mg fa h KX G hmg
  have T:∃ t,My.Txt (L2.KOf KX) t:=by
   dsimp only[L2.KOf]                          -- K must stand as «<heap const> w.params» for k_is
   refine' My.txt_mk ?e1 ?e2 ?e3 ..
   (case e1=>W.k_is)                    -- in the order: a name -> its address -> its object -> its parts
   (case e2=>W.k_is)
   ..
  obtain⟨t,T⟩:=T
  have e0:=hmg.symm.trans (W.mg_of KX G T.law)
  cases e0                                       -- fa is the law's own address
  exact⟨_,λs u=>.of_eq rfl,λbase kb nb=>My.law_fn T kb nb⟩     -- if «.of_eq rfl» comes too early: refine' ⟨_,?b,λbase kb nb=>My.law_fn T kb nb⟩;exact λs u=>.of_eq rfl
 case S=>exact λw H a ns hl hO hS=>..
 case C=>exact ..
(the tactic k_is has no namespace: write k_is) -/
namespace L2
open PySem PySem.Spec PyProof.Rows
noncomputable def za2(s:Stmt):Arguments:=match s with
 |.FunctionDef _ a _ _ _ _ _ _ _ _=>a
 |_=>{ posonlyargs:=[],args:=[],vararg:=none,kwonlyargs:=[],kw_defaults:=[],kwarg:=none,defaults:=[] }
noncomputable def zaW(s:Stmt):List Stmt:=match s with
 |.FunctionDef _ _ b _ _ _ _ _ _ _=>b
 |_=>[]
noncomputable def zae(s:Stmt):Scope:=match s with
 |.FunctionDef _ _ _ _ _ _ sc _ _ _=>sc
 |_=>{ kind:=.function,names:=[],isGenerator:=false,isCoroutine:=false }
noncomputable abbrev CX0:CXT:=λ_ _ _ _ _ _=>False
noncomputable abbrev E0:XK:=λ_ _ _=>False
theorem pass0{X:Cx}:zjr CX0 X E0:=λ_ _ _ _ _ _ _ h=>h.elim
structure Fun (K:W.Frag) (x qual:Str) (st:Stmt) (f:Addr) (fd:Bx):Prop where
 ex:∃(oc:Ab) (od:Option Addr) (kV doc pm:Ab) (an:Option Addr) (cdv ct:Ab) (osl:Array (Option Ab)),
  fd=Dh x qual (za2 st) (zaW st) (zae st) .none kV doc pm an cdv ct/\K.lookup f=some ⟨oc,od,.func fd,osl⟩/\W.codeIn K cdv qual=true
 kp:W.keepIn K (.ref f)=true
section
variable {P:AH}{w:Bc}{K:W.Frag}{mg:Str->Option Ab}{base:Heap}
theorem Fun.ok{x qual:Str}{st:Stmt}{f:Addr}{fd:Bx}{N ps:List Str}{k:Nat}{sp:Sp}(F:Fun K x qual st f fd)(S:FnScope N ps (zae st))(len:∀vs H Q E, sp vs H Q E -> vs.length=ps.length)
  (hbody:∀(cdv:Ab) (A:AQ) (outer:List Env) (s:Ac) (H:Hp) (vs:List V) (Q:VK) (E:XK),Room k (A.deeper (envOfC qual (zae st) s.heap.objs.size f cdv))->sp vs H Q E ->
   ∃t,PSs (cxOf CX0 P w K mg base N qual (zae st) f cdv A outer s H E).nox (zaW st) t/\t { nx:=λ_ H'=>Q .non H',rt:=Q } (start N vs) H):FnOk P w K mg base CX0 (k+1) f fd ps sp:=by
 obtain⟨oc,od,kV,doc,pm,an,cdv,ct,osl,rfl,lk,hcd⟩:=F.ex;refine fn_of lk hcd S len λA outer s H vs Q E hr hsp=>?_
 obtain⟨t,h,q⟩:=hbody cdv A outer s H vs Q E hr hsp;exact⟨t,h.nox,q⟩
theorem Fun.binds{x qual:Str}{st:Stmt}{f:Addr}{fd:Bx}{ps:List Str}(F:Fun K x qual st f fd)
  (h:∀(kV doc pm:Ab) (an:Option Addr) (cdv ct:Ab) (us:List Ab),us.length=ps.length->bindArgs (Dh x qual (za2 st) (zaW st) (zae st) .none kV doc pm an cdv ct) ⟨us,[]⟩=pure (ps.zip us)):Binds K fd ps []:=by
 obtain⟨oc,od,kV,doc,pm,an,cdv,ct,osl,rfl,lk,hcd⟩:=F.ex;exact .all (h kV doc pm an cdv ct)
theorem zcY{x qual:Str}{st:Stmt}{f:Addr}{oc:Ab}{od an:Option Addr}{osl:Array (Option Ab)}{kV doc pm cdv ct:Ab}(l:K.lookup f=some ⟨oc, od, .func (Dh x qual (za2 st) (zaW st) (zae st) .none kV doc pm an cdv ct), osl⟩)
  (c:W.codeIn K cdv qual=true) (k:W.keepIn K (.ref f)=true):Fun K x qual st f (Dh x qual (za2 st) (zaW st) (zae st) .none kV doc pm an cdv ct):=⟨⟨oc,od,kV,doc,pm,an,cdv,ct,osl,rfl,l,c⟩,k⟩
end
theorem hu_of{A:AQ}{k:Nat}(hr:Room k A):A.units+1<cLine:=CZ (Nat.add_le_add_left (by decide:1<=64) _) hr.units
theorem zaF{n:Nat}(h:n<=1000):n<sizeLine:=CZ h (by decide)
section
variable {X:Cx}
theorem pv (i:Nat){x:Str}{pos:Pos}(hN:X.N[i]? = some x := by rfl) (hv:Vis X.env.scope x := by first |exact Or.inl rfl |exact Or.inr (Or.inl rfl) |exact Or.inr (Or.inr rfl)) (hd:(x == ("__debug__" : Str))=false := by decide)
  (hcd:(x == ("__classdict__" : Str))=false:=by decide):PE X (.Name x pos) (tVar i):=zlz hN hv hd hcd
end
theorem iteF{A B:Prop}(h:B):if false=true then A else B:=by rw[if_neg AA];exact h
theorem iteT{A B:Prop}(h:A):if true=true then A else B:=by rw[if_pos rfl];exact h
theorem ite2{c A B:Prop} [Decidable c](h1:c->A)(h2:¬ c->B):if c then A else B:=by
 by_cases h:c
 .rw[if_pos h];exact h1 h
 .rw[if_neg h];exact h2 h
noncomputable def Same(H H':Hp):Prop:=∀b o,H b=some o->H' b=some o
theorem Same.refl(H:Hp):Same H H:=λ_ _ h=>h
theorem Same.trans{H H1 H2:Hp}(a:Same H H1)(b:Same H1 H2):Same H H2:=λc o h=>b c o (a c o h)
theorem Same.free{H H':Hp}(e:Same H H'){l:Addr}(h:H' l=Option.none):H l=Option.none:=by
 cases q:H l with
 |none=>rfl
 |some o =>
  rw[e l o q]at h
  cases h
theorem Same.seq{K:W.Frag}{H H':Hp}{a:Addr}{xs:List V}(e:Same H H')(h:SqL K H a xs):SqL K H' a xs:=by
 rcases h with (h |⟨o,h⟩) |h
 .exact .inl (.inl (e _ _ h))
 .exact .inl (.inr ⟨o,e _ _ h⟩)
 .exact .inr h
section
variable {κ:Type} [DecidableEq κ]
end
end L2
set_option maxHeartbeats 4000000
namespace L2
open PySem PySem.Spec PyProof.Rows
noncomputable def zcc(J:It)(g:TG)(tb:TS):TS:=λD σ H=>∃W:Nat->Nat->St->Hp->Prop,(∃m,W 0 m σ H)/\∀i m σ H,W i m σ H ->
 (J.stop i H/\D.nx σ H)∨(J.go i H/\∃N:St->Hp->Prop,(∀ σ' H',N σ' H'->∃m',m'<m/\W (i+1) m' σ' H')/\∀x H',J.yld i H x H'->g x σ H' λσ2 H2=>tb { D with nx:=N,ct:=N,bk:=D.nx } σ2 H2)
noncomputable def PTs(X:Cx)(ifs:List Expr)(t:TT):Prop :=
 ∀(pins:List (Addr×Obj)) (s:Ac) (σ:St) (H:Hp) (Q:Bool->Hp->Prop),Inv X pins σ H s->t σ H Q ->
  Aw (Az X.prog X.w) X.A (forIn ifs true λc r=>if r=true then do let ok <- isTrue c X.env (eval c X.env);pure (ForInStep.yield ok) else pure (ForInStep.yield r)) (TP X pins σ Q) X.xe s
theorem zbS{X:Cx}:PTs X [] (λ_ H Q=>Q true H):=λpins s σ H Q I h=>Aj ⟨H,I,h⟩
theorem zdU{X:Cx}{c:Expr}{t:TT}(hc:PT X c t):PTs X [c] t:=λpins s σ H Q I h=>wpAny_tests_one (hc pins s σ H Q I h)
noncomputable def PB(X:Cx)(inner:Sem Unit)(t:TS):Prop :=
 ∀(pins:List (Addr×Obj)) (s:Ac) (σ:St) (H:Hp) (D:Ends),Inv X pins σ H s->t D σ H->Aw (Az X.prog X.w) X.A inner (λ_ s'=>∃ σ' H',Inv X pins σ' H' s'/\D.nx σ' H') X.xe s
noncomputable def tIfs(tt:TT)(tb:TS):TS:=λD σ H=>tt σ H λb H1=>if b=true then tb D σ H1 else D.nx σ H1
theorem zc1{X:Cx}{e tg:Expr}{d:Nat}{ifs:List Expr}{p:Pos}{acc:Ab}{inner:Sem Unit}{g:TG}{tt:TT}{tb:TS}{it:Addr}{fp:List Addr}{tn:Nat -> Heap -> Prop}{J:It}
  {pins:List (Addr×Obj)} {s:Ac} {σ:St} {H:Hp} {D:Ends} {R:Result->Ac->Prop}
  (hq:(Code.compLoop e d (.ref it) acc X.env).quiet=true)
  (hden:(Az X.prog X.w).den (.compLoop e d (.ref it) acc X.env)=(compTurn e d (.ref it) acc X.env).onRaise (λx=>do noteFrame x X.env;theTreesLotGoes x))
  (hT:compTurn e d (.ref it) acc X.env=(do
   standAt p
   match <- pyNext (.ref it) with
   |none=>pure (.done .next)
   |some v =>
    Dx tg (.ref it) v
    assign tg X.env v
    let mut ok:=true
    for c in ifs do
     if ok then ok <- isTrue c X.env (eval c X.env)
    if ok then
     inner
    again (.compLoop e d (.ref it) acc X.env)))
  (hA:∀(B:AQ) {α:Type} {t:Sem α} {Q:α->Ac->Prop} {E:Ab->Ac->Prop} {s:Ac},B=X.A.under (.compLoop e d (.ref it) acc X.env)->Aw (Az X.prog X.w) X.A t Q E s->Aw (Az X.prog X.w) B t Q E s)
  (hc:X.calm=true) (hx:X.xe=λ_ _=>False) (hg:PG X tg g) (ht:PTs X ifs tt) (hb:PB X inner tb)
  (I:Inv X pins σ H s) (T:Turn X.prog X.w X.K tg J fp it tn) (st:tn 0 s.heap) (f:∀b∈fp,FpOk X pins H b) (W:zcc J g (tIfs tt tb) D σ H)
  (hR:∀fl s',(∃ σ' H',Inv X pins σ' H' s'/\(∀b∈fp,H' b=none)/\D.nx σ' H')->R (.ok fl) s') :
  CB (Az X.prog X.w) X.A (.compLoop e d (.ref it) acc X.env) R s:=by
 obtain⟨W,⟨m0,w0⟩,turn⟩:=W;have stat:∀{H':Hp},(∀b∈fp,H' b=none)->∀b∈fp,FpOk X pins H' b:=λhn b hb=>⟨hn b hb,(f b hb).2⟩
 refine codeAny_loop hq (λn s'=>∃i σ' H',Inv X pins σ' H' s'/\tn i s'.heap/\(∀b∈fp,H' b=none)/\W i n σ' H') ?_ m0 ⟨0,σ,H,I,st,λb hb=>(f b hb).1,w0⟩;rintro n s3 ⟨i,σ3,H3,I3,st3,fr3,w3⟩;refine hA _ rfl ?_
 rw[hden];refine wpAny_noted (wpAny_noRaise ?_);rw[hT];refine Ad (CJ ?_)
 have nx:∀{α:Type} {t:Sem α} {Q:α->Ac->Prop} {s:Ac},Aw (Az X.prog X.w) X.A t Q X.xe s->Aw (Az X.prog X.w) X.A t Q (λ_ _=>False) s:=λ{α t Q s} h=>by rw[hx]at h;exact h
 rcases turn i n σ3 H3 w3 with⟨stop,qn⟩ |⟨go,N,hN,step⟩
 .refine Ad (thn (T.done X rfl rfl rfl hc i pins s3 σ3 H3 _ I3 (stat fr3) st3 stop) λr s4 ⟨hr,I4⟩=>?_);subst hr;exact Aj (hR _ _ ⟨σ3,H3,I4,fr3,qn⟩)
 .refine Ad (thn (T.item X rfl rfl rfl hc i pins s3 σ3 H3 _ I3 (stat fr3) st3 go) λr s4 ⟨u,hr,h4⟩=>?_);subst hr;refine Ad (thn h4 λ_ s5 ⟨x,H5,I5,r5,y5,st5,fr5⟩=>?_);have I5':=I5.pinned (stat fr5) (T.obj _ _ st5)
  have again:∀{σ7:St} {H7:Hp} {s7:Ac},Inv X (pins++zdk fp s5.heap) σ7 H7 s7->N σ7 H7->∃m,m<n/\∃i σ' H',Inv X pins σ' H' s7/\tn i s7.heap/\(∀b∈fp,H' b=none)/\W i m σ' H':=λ{σ7 H7 s7} I7 n7=>by obtain⟨m',hm,w7⟩:=hN σ7 H7 n7;refine⟨m',hm,i+1,σ7,H7,I7.unpinned,T.keep _ _ _ st5 λb hb o e=>(I7.pin (b,o) (Au _ (Au _ (zaS hb e)))).1,λb hb=>?_,w7⟩;obtain⟨o,e,d⟩:=T.obj _ _ st5 b hb;exact (I7.pin (b,o) (Au _ (Au _ (zaS hb e)))).2.1
  refine Ad (thn (nx (hg _ s5 σ3 H5 x u _ I5' r5 (step x H5 y5))) λ_ s6 ⟨σ6,H6,I6,q6⟩=>?_);refine Ad (thn (nx (ht _ s6 σ6 H6 _ I6 q6)) λok s7 ⟨H7,I7,q7⟩=>?_)
  cases ok with
  |false =>
   exact Aj ⟨rfl,again I7 q7⟩
  |true =>
   refine Ad (thn (nx (hb _ s7 σ6 H7 _ I7 q7)) λ_ s8 ⟨σ8,H8,I8,q8⟩=>?_);exact Aj ⟨rfl,again I8 q8⟩
noncomputable abbrev blk(X:Cx)(sc:Scope)(cl:List (Str×Addr))(C:Addr)(N':List Str)(s0:Ac)(H0:Hp)(ex:List Addr):Cx :=
 { X with N:=N',s₀:=s0,H₀:=H0,env:=CT sc cl C X.env,outer:=X.stack,stack:=X.stack,ex:=ex,fn:=λ_=>false,pn:=[],xe:=λ_ _=>False }
structure BlkOk (osc:Scope) (N:List Str) (sc:Scope) (N':List Str) (sel:List (Option Nat)):Prop where
 kind:sc.kind=.function
 nocell:∀y∈sc.names,y.2≠.cell
 names:∀y∈sc.names,y.2=.local->sc.names.lookup y.1=some .local
 free:∀y∈sc.names,y.2=.free->osc.names.lookup y.1=some .cell∨osc.names.lookup y.1=some .free
 len:sel.length=N'.length
 sel:∀p∈sel.zip N',∀i∈p.1,N[i]?=some p.2/\sc.names.lookup p.2=some .free
noncomputable def selSt(sel:List (Option Nat))(σ:St):St:=sel.map λo=>o.bind λi=>(σ[i]?).join
theorem zcO{env:Env} : ∀(names:List (Str × NameKind)) (acc:List (Str × Addr)), (∀y ∈ names, y.2 = .free -> ∃c, env.cells.lookup y.1=some c) ->
  ∃cl,(forIn names acc λ(x:Str×NameKind) (r:List (Str×Addr))=>(if (x.2 == .free)=true then do let c <- cellOf env x.1;pure (ForInStep.yield ((x.1,c)::r)) else pure (ForInStep.yield r):Sem (ForInStep (List (Str×Addr)))))=pure cl /\
   (∀x c,cl.lookup x=some c->acc.lookup x=some c∨(env.cells.lookup x=some c/\(x,Bp)∈names))/\(∀y∈names,y.2=.free->∃c,cl.lookup y.1=some c)/\(∀x c,acc.lookup x=some c->∃c',cl.lookup x=some c')
 |[],acc,_=>⟨acc,rfl,λ_ _ h=>.inl h,(λ_ h=>nomatch h),λx c h=>⟨c,h⟩⟩
 | (n,k)::r,acc,h=>by
  by_cases hk:k=.free
  .subst hk;obtain⟨c,hc⟩:=h (n,.free) Av rfl;obtain⟨cl,e,h1,h2,h3⟩:=zcO r ((n,c)::acc) λy hy=>h y (As _ hy)
   refine⟨cl,?_,λx c' hx=>?_,λy hy hf=>?_,λx c' hx=>?_⟩
   .rw[List.forIn_cons];have e1:cellOf env n=pure c:=by unfold cellOf;rw[hc]
    simp only[beq_self_eq_true,if_true,e1,pure_bind];exact e
   .rcases h1 x c' hx with q |⟨q,m⟩
    .by_cases hn:x=n
     .subst hn;rw[Bk,beq_self_eq_true]at q
      cases q
      exact .inr ⟨hc,Av⟩
     .have hb:(x == n)=false:=by simpa using hn
      rw[Bk,hb]at q;exact .inl q
    .exact .inr ⟨q,As _ m⟩
   .rcases AW.mp hy with z |z
    .subst z;exact h3 n c (by rw[Bk,beq_self_eq_true])
    .exact h2 y z hf
   .by_cases hn:x=n
    .subst hn;exact h3 x c (by rw[Bk,beq_self_eq_true])
    .have hb:(x == n)=false:=by simpa using hn
     exact h3 x c' (by rw[Bk,hb];exact hx)
  .obtain⟨cl,e,h1,h2,h3⟩:=zcO r acc λy hy=>h y (As _ hy)
   refine⟨cl,?_,λx c' hx=>?_,λy hy hf=>?_,h3⟩
   .rw[List.forIn_cons];have hb:(k == Bp)=false:=by simpa using hk
    simp only[hb,B8,if_false,pure_bind];exact e
   .rcases h1 x c' hx with q |⟨q,m⟩
    .exact .inl q
    .exact .inr ⟨q,As _ m⟩
   .rcases AW.mp hy with z |z
    .subst z;exact absurd hf hk
    .exact h2 y z hf
structure Clo (env:Env) (sc:Scope) (cl:List (Str×Addr)):Prop where
 run:closureFor sc env=pure cl
 old:∀x c,cl.lookup x=some c->env.cells.lookup x=some c/\(x,Bp)∈sc.names
 has:∀y∈sc.names,y.2=.free->∃c,cl.lookup y.1=some c
theorem zhM{X:Cx}{osc:Scope}{N:List Str}{sc:Scope}{N':List Str}{sel:List (Option Nat)}(ok:X.Ok)(B:BlkOk osc N sc N' sel)(ho:X.env.scope=osc):∃cl,Clo X.env sc cl:=by
 have hc:∀y∈sc.names,y.2=.free->∃c,X.env.cells.lookup y.1=some c:=λy hy hf=>ok.has y.1 (by
  show X.env.scope.names.lookup y.1=_∨X.env.scope.names.lookup y.1=_;rw[ho];exact B.free y hy hf)
 obtain⟨cl,e,h1,h2,_⟩:=zcO (env:=X.env) sc.names [] hc;refine⟨cl,?_,λx c h=>?_,h2⟩
 .unfold closureFor;have e':=e;show (do let r <- forIn sc.names [] _;pure r)=_;simp only[bind_pure];exact e'
 .rcases h1 x c h with q |q
  .cases q
  .exact q
theorem zbU{env:Env} : ∀{names:List (Str × NameKind)}{x:Str}{k:NameKind}, (names.map λ(n, k) => if (k == Bp && env.scope.kind == .function && env.kindOf n == some .cell) then (n, C7) else (n, k)).lookup x=some k ->
  ∃k',(x,k')∈names/\(k=k'∨(k=.cell/\k'=.free))
 |[],x,k,h=>nomatch h
 | (n,j)::r,x,k,h=>by
  have ih:=@zbU env r x k;have h:List.lookup x ((if (j == Bp && env.scope.kind == .function && env.kindOf n == some .cell)=true then (n,C7) else (n,j))::_)=some k:=h
  by_cases hx:x=n
  .subst hx
   by_cases hc:(j == Bp && env.scope.kind == .function && env.kindOf x == some .cell)=true
   .rw[if_pos hc,Bk,beq_self_eq_true]at h
    cases h
    refine⟨j,Av,.inr ⟨rfl,?_⟩⟩;simp only[BL,beq_iff_eq]at hc;exact hc.1.1
   .rw[if_neg hc,Bk,beq_self_eq_true]at h
    cases h
    exact⟨j,Av,.inl rfl⟩
  .have hb:(x == n)=false:=by simpa using hx
   have h':List.lookup x (r.map λ(n,k)=>if (k == Bp && env.scope.kind == .function && env.kindOf n == some .cell) then (n,C7) else (n,k))=some k:=by
    by_cases hc:(j == Bp && env.scope.kind == .function && env.kindOf n == some .cell)=true
    .rw[if_pos hc,Bk,hb]at h;exact h
    .rw[if_neg hc,Bk,hb]at h;exact h
   obtain⟨k',m,e⟩:=ih h';exact⟨k',As _ m,e⟩
theorem zbJ{env:Env} : ∀{names:List (Str × NameKind)}{x:Str}, names.lookup x=some .free ->
  (names.map λ(n,k)=>if (k == Bp && env.scope.kind == .function && env.kindOf n == some .cell) then (n,C7) else (n,k)).lookup x=some .cell ∨
  (names.map λ(n,k)=>if (k == Bp && env.scope.kind == .function && env.kindOf n == some .cell) then (n,C7) else (n,k)).lookup x=some .free
 |[],x,h=>nomatch h
 | (n,j)::r,x,h=>by
  have ih:=@zbJ env r x;rw[Bk]at h;show List.lookup x ((if (j == Bp && env.scope.kind == .function && env.kindOf n == some .cell)=true then (n,C7) else (n,j))::_)=_∨List.lookup x ((if (j == Bp && env.scope.kind == .function && env.kindOf n == some .cell)=true then (n,C7) else (n,j))::_)=_
  cases hx:x == n with
  |true =>
   rw[hx]at h
   cases h
   by_cases hc:(Bp == Bp && env.scope.kind == .function && env.kindOf n == some .cell)=true
   .rw[if_pos hc,Bk,hx];exact .inl rfl
   .rw[if_neg hc,Bk,hx];exact .inr rfl
  |false =>
   rw[hx]at h
   by_cases hc:(j == Bp && env.scope.kind == .function && env.kindOf n == some .cell)=true
   .rw[if_pos hc,Bk,hx];exact ih h
   .rw[if_neg hc,Bk,hx];exact ih h
section
variable {X:Cx}{osc:Scope}{N:List Str}{sc:Scope}{N':List Str}{sel:List (Option Nat)}{cl:List (Str×Addr)}{pins:List (Addr×Obj)}{σ:St}{H:Hp}{s:Ac}{fp:List Addr}
theorem zk3{h':Heap}{ob:Obj}{tk:Nat}(B:BlkOk osc N sc N' sel)(ho:X.env.scope=osc)(hN:X.N=N)(Cl:Clo X.env sc cl)(I:Inv X pins σ H s)
    (f:∀b∈fp,FpOk X pins H b) (fo:∀b∈fp,∃o,s.heap.get? b=some o) (hns:h'.Ns s.heap.objs.size (λ_=>none)) (hsb:CV s.heap.objs.size (s.heap.push ob) h') :
    Inv (blk X sc cl s.heap.objs.size N' s H fp) [] (selSt sel σ) H { s with heap:=h',toks:=tk }:=by
  have old:∀b o,s.heap.get? b=some o->h'.get? b=some o:=λb o e=>(hsb.2 b (A4 (AD e))).trans (Ak _ e)
  have bel:∀b∈fp,b<s.heap.objs.size:=λb hb=>by obtain⟨o,e⟩:=fo b hb;exact AD e
  have kk:∀x,(CT sc cl s.heap.objs.size X.env).kindOf x=some .cell∨(CT sc cl s.heap.objs.size X.env).kindOf x=some .free->(x,Bp)∈sc.names:=λx hx=>by
    rcases hx with hx |hx
    . obtain⟨k',m,e⟩:=zbU hx;rcases e with e |⟨_,e⟩
      . subst e;exact absurd rfl (B.nocell _ m)
      . subst e;exact m
    . obtain⟨k',m,e⟩:=zbU hx;rcases e with e |⟨e,_⟩
      . subst e;exact m
      . cases e
  refine⟨⟨I.mod, B.kind, I.ok.glob, I.ok.blt, An _, λx y c e1 e2 => I.ok.inj x y c (Cl.old x c e1).1 (Cl.old y c e2).1, λx hx => Cl.has _ (kk x hx) rfl, λx c z => absurd z (by intro q; cases q), I.ok.hd, I.ok.frames, .inl rfl,
      λb hb=>⟨A4 (bel b hb),λx c e=>(f b hb).2.2.2.2.1 x c (Cl.old x c e).1⟩,I.bs,AS I.ok.bsz I.sz,λb o e hb=>?_,λb hb hs=>?_,I.stack,I.stkFree⟩,
    rfl,I.bare,Un.kept old,⟨_,hns,λj x v e1 e2 e3=>?_⟩,λx c e=>?_,I.hok.fresh (An _),λx c e=>I.freeC x c (Cl.old x c e).1,λp hp=>absurd (show p∈([]:List (Addr×Obj)) from hp) (by simp),I.hok.kept old,?_⟩
  . rcases (f b hb).2.2.2.1 with z |z
    . exact I.ok.noex b o e z
    . exact absurd (AZ (AD e) (AS I.ok.bsz z)) (CI _)
  . obtain⟨_,f1,f2,_⟩:=f b hb;rcases AW.mp (I.stkSub b hs) with z |z
    . exact f1 z
    . exact f2 z
  . have e2':((sel[j]?).map λo => o.bind λi => (σ[i]?).join)=some (some v) := by have:=e2;unfold selSt at this;rw[Ax]at this;exact this
    cases hj:sel[j]? with
    |none=>rw[hj]at e2';cases e2'
    |some o =>
      rw[hj]at e2'
      cases o with
      |none=>cases e2'
      |some i =>
        have e4:(σ[i]?).join=some v:=AJ e2'
        have e5:σ[i]?=some (some v):=by
          cases q:σ[i]? with
          |none=>rw[q]at e4;cases e4
          |some z=>rw[q]at e4;exact congrArg some e4
        have hz:(some i,x)∈sel.zip N':=by
          refine Ag (i:=j) ?_
          rw[List.getElem?_zip_eq_some];exact⟨hj,e1⟩
        obtain⟨g1,g2⟩:=B.sel _ hz i rfl;obtain⟨m,hn,hl⟩:=I.loc;have m2:(x,Bp)∈sc.names:=Ch g2
        have k2:X.env.kindOf x=some .cell∨X.env.kindOf x=some .free:=by show X.env.scope.names.lookup x=_∨X.env.scope.names.lookup x=_;rw[ho];exact B.free _ m2 rfl
        have v2:Vis X.env.scope x:=by
          rcases k2 with z |z
          . exact .inr (.inl z)
          . exact .inr (.inr z)
        obtain⟨u,r,l⟩:=hl i x v (by rw[hN];exact g1) e5 v2;refine⟨u,r,?_⟩;rcases l with⟨l,_⟩ |⟨_,c,e6,hc⟩
        . rcases k2 with z |z <;> (rw[l]at z;cases z)
        . obtain⟨c',hc'⟩:=Cl.has _ m2 rfl;have e7:=(Cl.old x c' hc').1;rw[e6]at e7
          cases e7
          exact .inr ⟨zbJ g2,c,hc',hc.keeps old⟩
  . obtain⟨v,hc⟩:=I.cell x c (Cl.old x c e).1;exact⟨v,hc.keeps old⟩
  . show (selSt sel σ).length=N'.length;unfold selSt;rw[Am,B.len]
theorem zlb{C:Addr}{H':Hp}{σ':St}{s':Ac}(I:Inv X pins σ H s)(f:∀b∈fp,FpOk X pins H b)(I':Inv (blk X sc cl C N' s H fp) [] σ' H' s'):Inv X pins σ H' s' :=
 I.call' (ch:=fp) I'.os I'.base I'.hok I'.bare λb hb=>by obtain⟨_,f1,_,f3,f4,f5⟩:=f b hb;exact⟨f3,f1,f4,f5⟩
end
section
variable {X:Cx}
noncomputable def zcd(p:Addr)(te:TE):TS:=λD σ H=>te σ H λv H1=>∃xs,H1 p=some (.lst xs)/\xs.length<sizeLine/\D.nx σ (upd H1 p (.lst (xs++[v])))
theorem ziK {p:Addr}{elt:Expr}{te:TE}(he:PE X elt te):PB X (do let _ <- call (.builtin "list.append") [.ref p,<- eval elt X.env]) (zcd p te):=by intro pins s σ H D I h;refine Ad (thn (he pins s σ H _ I h) λv s1 ⟨x,H1,I1,r1,xs,e1,hl,q⟩=>?_);refine Ad (thn (za8 pins s1 σ H1 (.ref p) [x] (.ref p) [v] (λz H2=>D.nx σ H2) I1 rfl (.cons r1 .nil) ⟨p,xs,x,rfl,rfl,e1,hl,q⟩) λu s2 ⟨z,H2,I2,_,q2⟩=>?_);exact Aj ⟨σ,H2,I2,q2⟩
noncomputable def zg9(p:Addr)(tk tv:TE):TS:=λD σ H=>tk σ H λy H1=>tv σ H1 λv H2=>∃H3,DPut H2 p y v H3/\D.nx σ H3
theorem d_set{pins:List (Addr × Obj)}{σ : St}{H H':Hp}{s:Ac}{a:Addr}{y v:V}{u r:Ab}{A:AQ}{E:Ab -> Ac -> Prop}{Q:Unit -> Ac -> Prop}(hu:A.units + 1 < cLine)(I:Inv X pins σ H s)(g:DPut H a y v H')(ry:RelV y u)(rv:RelV v r)(h:∀s', Inv X pins σ H' s' -> Q () s') :
  Aw (Az X.prog X.w) A (dictSet a u r) Q E s:=by
 rcases g with⟨kvs,k,e,ey,l,eH⟩ |⟨kvs,k,b,e,ey,eb,l,eH⟩
 .subst ey eH;obtain⟨z,hd,vs,rel,dd⟩:=dk_of I.hok e;have hz:vs.length<=sizeLine:=by rw[<- rel.length];exact z
  have hl:(putK kvs k v).length<=sizeLine:=by have:=zaV kvs k v;lia
  refine wpAny_dictSet_pairs (hsz:=hz) (kV_is ry) dd λh' dd' hs=>h _ ?_
  have he:∃q,h'.get? a=some q:=let ⟨q,_,_,hq,_⟩:=dd';⟨q,hq⟩
  exact zed I (by rw[e];exact Co) hs he (zkt hl hd (rel.put k rv) dd')
 .subst ey eH
  cases (show u=Value.ref b from ry)
  obtain⟨z,hd,xs,rel,dd⟩:=dt_of I.hok e;have hz:xs.length<=sizeLine:=by rw[<- Dr rel];exact z
  have hl:(putK kvs k v).length<=sizeLine:=by have:=zaV kvs k v;lia
  have hr:(tupleKind (zaO X.prog X.w)).room A:=by show A.units<cLine;lia
  refine wpAny_dictSet_heap (hsz:=hz) hr (zeR I.hok eb) dd λh' dd' hs=>h _ ?_
  obtain⟨q,es,ep,hq,h2,h3,h4,_,h5⟩:=dd';refine zed I (by rw[e];exact Co) hs ⟨q,hq⟩ ⟨hl,hd,_,(rel.put k eb rv).keeps λc ys ec=>?_,q,es,ep,hq,h2,h3,h4,h5⟩;rw[zak (ne_of ec e (λz=>nomatch z))];exact ec
theorem zkU{p:Addr}{kx vx:Expr}{tk tv:TE}(hu:X.A.units + 1 < cLine)(hk:PE X kx tk)(hv:PE X vx tv) :
    PB X (do
        let kv <- eval kx X.env
        let vv <- Dw [kv] (eval vx X.env)
        match Value.ref p with
        |.ref d=>do
          standAt { kx.pos with endLine:=vx.pos.endLine,endCol:=vx.pos.endCol }
          Dw [kv,vv] (dictSet d kv vv)
        |_=>unsupported "internal:dictcomp") (zg9 p tk tv):=by
  intro pins s σ H D I h;refine Ad (thn (hk pins s σ H _ I h) λkv s1 ⟨y,H1,I1,r1,q1⟩=>?_);refine Ad (Bo (thn (hv pins s1 σ H1 _ I1 q1) λvv s2 ⟨v,H2,I2,r2,H3,g,q⟩=>?_));refine Ad (CJ (Bo (d_set hu I2 g r1 r2 λs3 I3=>⟨σ,H3,I3,q⟩)))
end
section
variable {X:Cx}{osc:Scope}{N:List Str}{sc:Scope}{N':List Str}{sel:List (Option Nat)}{pos:Pos}{elt kx vx tg iter:Expr}{ifs:List Expr}{wi:TI}{g:TG}{tt:TT}{te tk tv:TE}
noncomputable def InBlk(X:Cx)(sc:Scope)(N':List Str)(P:Cx->Prop):Prop:=∀cl C s0 H0 ex,P (blk X sc cl C N' s0 H0 ex)
theorem zc2{e:Expr}{inner:Env -> Addr -> Sem Unit}{tb:Addr -> TS}{use:Option (Ab -> Sem Unit)}{pins:List (Addr × Obj)}{s:Ac}{σ : St}{H:Hp}{J:It}{it:Addr}{fp:List Addr}{tn:Nat -> Heap -> Prop}{o0:HO}{ob:Obj}
    {D:Addr->Ends} {Q:Ab->Ac->Prop}
    (B:BlkOk osc N sc N' sel) (ho:X.env.scope=osc) (hN:X.N=N) (hc:X.calm=true)
    (hstart:∀(acc:Ab) (env:Env) (R:Result->Ac->Prop) (s:Ac),CB (Az X.prog X.w) X.A (.compLoop e 0 (.ref it) acc env) R s->Aw (Az X.prog X.w) X.A (pyIter (.ref it)) (λit' s'=>CB (Az X.prog X.w) X.A (.compLoop e 0 it' acc env) R s') (notedBy (Az X.prog X.w) X.A env λx s'=>R (.error x) s') s->CB (Az X.prog X.w) X.A (.compStart e 0 (.ref it) acc env) R s)
    (hloop:∀cl C s0 H0 ex p pins s σ H Dn R,Inv (blk X sc cl C N' s0 H0 ex) pins σ H s->tn 0 s.heap->(∀b∈fp,FpOk (blk X sc cl C N' s0 H0 ex) pins H b)->zcc J g (tIfs tt (tb p)) Dn σ H ->
      (∀fl s',(∃ σ' H',Inv (blk X sc cl C N' s0 H0 ex) pins σ' H' s'/\(∀b∈fp,H' b=none)/\Dn.nx σ' H')->R (.ok fl) s')->CB (Az X.prog X.w) X.A (.compLoop e 0 (.ref it) (.ref p) (CT sc cl C X.env)) R s)
    (I:Inv X pins σ H s) (T:Turn X.prog X.w X.K tg J fp it tn) (st:tn 0 s.heap) (f:∀b∈fp,FpOk X pins H b)
    (hnew:ObjOk X.prog X.w (upd H s.heap.objs.size o0) (s.heap.push ob) s.heap.objs.size o0) (hfree:ob.isFreed=false)
    (h:zcc J g (tIfs tt (tb s.heap.objs.size)) (D s.heap.objs.size) (selSt sel σ) (upd H s.heap.objs.size o0))
    (hend:∀C H' s',Inv X pins σ H' s'->FpOk X pins H' C->(∃m,s'.heap.Ns C m)->(∃ σ',(D s.heap.objs.size).nx σ' H')->compPost (Az X.prog X.w) X.A X.xe use Q (.ref s.heap.objs.size) C (.ok .next) s') (tk:Nat)
    (cl:List (Str×Addr)) (Cl:Clo X.env sc cl) (E:Ab->Ac->Prop) :
    Aw (Az X.prog X.w) X.A (newFunctionEnv sc X.env.globals cl [] X.env.qual none .none (some X.env)) (λcenv s₄ =>
        CB (Az X.prog X.w) X.A (.compStart e 0 (.ref it) (.ref s.heap.objs.size) { cenv with scope:=relabel sc X.env }) (compPost (Az X.prog X.w) X.A X.xe use Q (.ref s.heap.objs.size) cenv.locals) s₄) E { s with heap:=s.heap.push ob,toks:=tk }:=by
  have grow:∀b o,s.heap.get? b=some o->(s.heap.push ob).get? b=some o:=λ_ _ q=>Ak _ q
  have I1:Inv X pins σ (upd H s.heap.objs.size o0) { s with heap:=s.heap.push ob,toks:=tk }:=I.laid grow (An _) hnew;have bel:∀b∈fp,∃o,s.heap.get? b=some o:=λb hb=>let ⟨o,e,_⟩:=T.obj _ _ st b hb;⟨o,e⟩
  have f1:∀b∈fp,FpOk X pins (upd H s.heap.objs.size o0) b:=λb hb=>by obtain⟨o,e⟩:=bel b hb;refine⟨?_,(f b hb).2⟩;rw[zak (A4 (AD e))];exact (f b hb).1
  refine wpAny_newFunctionEnv (s:={ s with heap:=s.heap.push ob,toks:=tk }) B.nocell (by intro x hx;cases hx) (λh1 hns hsb=>?_) B.kind;have I2:=zk3 (tk:=tk) B ho hN Cl I1 f1 (λb hb=>let ⟨o,e⟩:=bel b hb;⟨o,grow b o e⟩) hns hsb;have old:∀b o,s.heap.get? b=some o->h1.get? b=some o:=λb o e=>(hsb.2 b (A4 (AD (grow b o e)))).trans (Ak _ (grow b o e))
  have st1:tn 0 h1:=T.keep _ _ _ st λb _ o e=>old b o e
  have f2:∀b∈fp,FpOk (blk X sc cl (s.heap.push ob).objs.size N' { s with heap:=s.heap.push ob,toks:=tk } (upd H s.heap.objs.size o0) fp) [] (upd H s.heap.objs.size o0) b:=λb hb=>by
    obtain⟨g0,g1,g2,g3,g4,g5⟩:=f1 b hb;obtain⟨o,e⟩:=bel b hb;refine⟨g0,A4 (AD (grow b o e)),λz=>?_,.inl hb,λx c e=>g4 x c (Cl.old x c e).1,λp hp=>absurd (show p∈([]:List (Addr×Obj)) from hp) (by simp)⟩;rcases AW.mp (I1.stkSub b z) with q |q
    . exact g1 q
    . exact g2 q
  have loop:=hloop cl _ _ _ _ s.heap.objs.size [] _ _ _ (D s.heap.objs.size) (compPost (Az X.prog X.w) X.A X.xe use Q (.ref s.heap.objs.size) (s.heap.push ob).objs.size) I2 st1 f2 h λfl s' ⟨σ',H',I',fr',q'⟩=>by
    have I3:=zlb I1 f1 I';have hC:FpOk X pins H' (s.heap.push ob).objs.size:=I1.fpOk (An _) I'.free;obtain⟨m,hn,_⟩:=I'.loc;have:=hend _ H' s' I3 hC ⟨m,hn⟩ ⟨σ',q'⟩
    cases use <;> exact this
  exact hstart _ _ _ _ loop (T.self _ 0 _ _ _ st1 loop)
end
section
variable {X:Cx}{osc:Scope}{N:List Str}{sc:Scope}{N':List Str}{sel:List (Option Nat)}{pos:Pos}{elt kx vx tg iter:Expr}{ifs:List Expr}{wi:TI}{g:TG}{tt:TT}{te tk tv:TE}
theorem zeT{it:Addr}{fp:List Addr}{tn:Nat -> Heap -> Prop}{J:It}(T:Turn X.prog X.w X.K tg J fp it tn)(hc:X.calm=true)(hg:InBlk X sc N' λY => PG Y tg g)(ht:InBlk X sc N' λY => PTs Y ifs tt)(he:InBlk X sc N' λY => PE Y elt te) :
  ∀cl C s0 H0 ex p pins s σ H Dn R,Inv (blk X sc cl C N' s0 H0 ex) pins σ H s->tn 0 s.heap->(∀b∈fp,FpOk (blk X sc cl C N' s0 H0 ex) pins H b)->zcc J g (tIfs tt (zcd p te)) Dn σ H ->
   (∀fl s',(∃ σ' H',Inv (blk X sc cl C N' s0 H0 ex) pins σ' H' s'/\(∀b∈fp,H' b=none)/\Dn.nx σ' H')->R (.ok fl) s')->CB (Az X.prog X.w) X.A (.compLoop (.ListComp elt [⟨tg,iter,ifs,0⟩] sc pos) 0 (.ref it) (.ref p) (CT sc cl C X.env)) R s :=
 λcl C s0 H0 ex p pins s σ H Dn R I st f W hR =>
  zc1 (X:=blk X sc cl C N' s0 H0 ex) (p:=iter.pos) (inner:=do let _ <- call (.builtin "list.append") [.ref p,<- eval elt (CT sc cl C X.env)]) rfl rfl rfl (λB {α t Q E s} h w=>by subst h;exact w) hc rfl (hg _ _ _ _ _) (ht _ _ _ _ _) (ziK (he _ _ _ _ _)) I T st f W hR
noncomputable def zlm(wi:TI)(sel:List (Option Nat))(g:TG)(tt:TT)(te:TE):TE:=λσ H Q=>wi σ H λJ H1=>∀p,H1 p=none ->
 zcc J g (tIfs tt (zcd p te)) { nx:=λ_ H'=>Q (.ref p) H',rt:=λ_ _=>False } (selSt sel σ) (upd H1 p (.lst []))
theorem Inv.let_go{pins:List (Addr×Obj)}{σ:St}{H:Hp}{s:Ac}{C:Addr}{h':Heap}(I:Inv X pins σ H s)(f:FpOk X pins H C)(hs:CV C s.heap h'):Inv X pins σ H { s with heap:=h' }:=by obtain⟨f0,f1,_,f3,f4,f5⟩:=f;exact I.turned (t':=s.toks) (λb o hb e=>(hs.2 b hb).trans e) f0 f1 f3 f4 f5
theorem zgY {P:AH}{w:Bc}{H:Hp}{h:Heap}:ObjOk P w (upd H h.objs.size (.lst [])) (h.push { cls:=.type "list",dict:=none,data:=.seq ([]:List Ab).toArray }) h.objs.size (.lst []) :=
 ⟨AU _,[],_,.nil,AM _ rfl⟩
theorem zbm(B:BlkOk osc N sc N' sel)(hi:PI X tg iter wi)(hg:InBlk X sc N' λY => PG Y tg g)(ht:InBlk X sc N' λY => PTs Y ifs tt)(he:InBlk X sc N' λY => PE Y elt te)
  (ho:X.env.scope=osc:=by rfl) (hN:X.N=N:=by rfl) (hc:X.calm=true:=by rfl) (hs:∀x,Bw iter X.env x=pure x:=by intro _;rfl) :
  PE X (.ListComp elt [⟨tg,iter,ifs,0⟩] sc pos) (zlm wi sel g tt te):=by
 intro pins s σ H Q I h;obtain⟨cl,Cl⟩:=zhM I.ok B ho;rw[eval_ListComp];refine CM (use:=none) rfl hs Cl.run B.kind B.names (thn (hi pins s σ H _ I h) λv s1 h1=>thn h1 λitv s2 h2=>?_);obtain⟨it,fp,tn,J,H2,e,I2,T,st2,f2,h2⟩:=h2;subst e
 refine BG (zc2 (e:=.ListComp elt [⟨tg,iter,ifs,0⟩] sc pos) (inner:=λ_ _=>pure ()) (D:=λp=>{ nx:=λ_ H'=>Q (.ref p) H',rt:=λ_ _=>False }) (tb:=λp=>zcd p te) (use:=none) B ho hN hc (λacc env R s a b=>codeAny_compStart_list a b)
  (zeT (iter:=iter) (pos:=pos) T hc hg ht he) I2 T st2 f2 zgY rfl (h2 _ (I2.hok.fresh (An _))) (λC H' s' I3 fC hn hq=>?_) s2.toks cl Cl X.xe)
 obtain⟨m,hn⟩:=hn;obtain⟨_,hq⟩:=hq;exact⟨m,hn,λh' hs'=>⟨.ref s2.heap.objs.size,H',I3.let_go fC hs',rfl,hq⟩⟩
noncomputable def zlw(wi:TI)(sel:List (Option Nat))(g:TG)(tt:TT)(te:TE)(i:Nat):TS:=λD σ H=>wi σ H λJ H1=>∀p,H1 p=none ->
 zcc J g (tIfs tt (zcd p te)) { nx:=λ_ H'=>D.nx (σ.set i (some (.ref p))) H',rt:=λ_ _=>False } (selSt sel σ) (upd H1 p (.lst []))
theorem zjH{i:Nat}{x:Str}{px spos:Pos}(B:BlkOk osc N sc N' sel)(hnd:X.N.Nodup)(hi':X.N[i]? = some x)(hx:Loc X.env.scope x)(hi:PI X tg iter wi)(hg:InBlk X sc N' λY => PG Y tg g)(ht:InBlk X sc N' λY => PTs Y ifs tt)(he:InBlk X sc N' λY => PE Y elt te)
  (hsw:swapsWith (.ListComp elt [⟨tg,iter,ifs,0⟩] sc pos) (some (.Name x px)) spos.line X.env=pure true:=by rfl)
  (ho:X.env.scope=osc:=by rfl) (hN:X.N=N:=by rfl) (hc:X.calm=true:=by rfl) (hs:∀x,Bw iter X.env x=pure x:=by intro _;rfl)
  (hf:X.fn x=true∨X.env.scope.names.lookup x=some .local:=by first |exact .inl rfl |exact .inr rfl |assumption) :
  PS X (.Assign [.Name x px] (.ListComp elt [⟨tg,iter,ifs,0⟩] sc pos) spos) (zlw wi sel g tt te i):=by
 intro pins s σ H D I h;obtain⟨cl,Cl⟩:=zhM I.ok B ho;rw[exec_Assign_Name_used _ _ _ _ hsw];refine Ad (CJ (Ad ?_));show Aw _ X.A (do let _ <- comprehension (.ListComp elt [⟨tg,iter,ifs,0⟩] sc pos) sc X.env _ (newList []) false (eval iter X.env) (some (assign (.Name x px) X.env))) _ _ s;refine Ad (thn (CM (use:=some (assign (.Name x px) X.env)) (Q:=λ_ s'=>SP X pins D .next s') rfl hs Cl.run B.kind B.names (thn (hi pins s σ H _ I h) λv s1 h1=>thn h1 λitv s2 h2=>?_)) λ_ s' hq=>Aj (Aj hq));obtain⟨it,fp,tn,J,H2,e,I2,T,st2,f2,h2⟩:=h2;subst e
 refine BG (zc2 (e:=.ListComp elt [⟨tg,iter,ifs,0⟩] sc pos) (inner:=λ_ _=>pure ()) (D:=λp=>{ nx:=λ_ H'=>D.nx (σ.set i (some (.ref p))) H',rt:=λ_ _=>False }) (tb:=λp=>zcd p te) (use:=some (assign (.Name x px) X.env)) B ho hN hc (λacc env R s a b=>codeAny_compStart_list a b)
  (zeT (iter:=iter) (pos:=pos) T hc hg ht he) I2 T st2 f2 zgY rfl (h2 _ (I2.hok.fresh (An _))) (λC H' s' I3 fC hn hq=>?_) s2.toks cl Cl X.xe)
 obtain⟨m,hn⟩:=hn;obtain⟨_,hq⟩:=hq;show Aw _ X.A (assign (.Name x px) X.env (.ref s2.heap.objs.size)) _ _ _;refine wpAny_assign_Name (zdD I3 hnd hi' hx (v:=.ref s2.heap.objs.size) rfl (λs4 I4 hch=>?_) hf);obtain⟨a,sb,ha⟩:=hch
 have nC:C≠a:=by
  rcases ha with z |z
  .rw[z];exact fC.2.1
  .exact λq=>fC.2.2.2.2.1 x a z q.symm
 refine⟨m,hn.sameBut sb nC,λh' hs'=>⟨_,H',I4.let_go fC hs',hq⟩⟩
theorem zia{it:Addr}{fp:List Addr}{tn:Nat -> Heap -> Prop}{J:It}(hu:X.A.units + 1 < cLine)(T:Turn X.prog X.w X.K tg J fp it tn)(hc:X.calm=true)(hg:InBlk X sc N' λY => PG Y tg g)(ht:InBlk X sc N' λY => PTs Y ifs tt)(hk:InBlk X sc N' λY => PE Y kx tk)(hv:InBlk X sc N' λY => PE Y vx tv) :
  ∀cl C s0 H0 ex p pins s σ H Dn R,Inv (blk X sc cl C N' s0 H0 ex) pins σ H s->tn 0 s.heap->(∀b∈fp,FpOk (blk X sc cl C N' s0 H0 ex) pins H b)->zcc J g (tIfs tt (zg9 p tk tv)) Dn σ H ->
   (∀fl s',(∃ σ' H',Inv (blk X sc cl C N' s0 H0 ex) pins σ' H' s'/\(∀b∈fp,H' b=none)/\Dn.nx σ' H')->R (.ok fl) s')->CB (Az X.prog X.w) X.A (.compLoop (.DictComp kx vx [⟨tg,iter,ifs,0⟩] sc pos) 0 (.ref it) (.ref p) (CT sc cl C X.env)) R s :=
 λcl C s0 H0 ex p pins s σ H Dn R I st f W hR =>
  zc1 (X:=blk X sc cl C N' s0 H0 ex) (p:=iter.pos) rfl rfl rfl (λB {α t Q E s} h w=>by subst h;exact w) hc rfl (hg _ _ _ _ _) (ht _ _ _ _ _) (zkU (X:=blk X sc cl C N' s0 H0 ex) hu (hk _ _ _ _ _) (hv _ _ _ _ _)) I T st f W hR
noncomputable def zln(wi:TI)(sel:List (Option Nat))(g:TG)(tt:TT)(tk tv:TE):TE:=λσ H Q=>wi σ H λJ H1=>∀p,H1 p=none ->
 zcc J g (tIfs tt (zg9 p tk tv)) { nx:=λ_ H'=>Q (.ref p) H',rt:=λ_ _=>False } (selSt sel σ) (upd H1 p (.dT []))
theorem zjK(hu:X.A.units + 1 < cLine)(B:BlkOk osc N sc N' sel)(hi:PI X tg iter wi)(hg:InBlk X sc N' λY => PG Y tg g)(ht:InBlk X sc N' λY => PTs Y ifs tt)(hk:InBlk X sc N' λY => PE Y kx tk)(hv:InBlk X sc N' λY => PE Y vx tv)
  (ho:X.env.scope=osc:=by rfl) (hN:X.N=N:=by rfl) (hc:X.calm=true:=by rfl) (hs:∀x,Bw iter X.env x=pure x:=by intro _;rfl) :
  PE X (.DictComp kx vx [⟨tg,iter,ifs,0⟩] sc pos) (zln wi sel g tt tk tv):=by
 intro pins s σ H Q I h;obtain⟨cl,Cl⟩:=zhM I.ok B ho;show Aw _ X.A (comprehension (.DictComp kx vx [⟨tg,iter,ifs,0⟩] sc pos) sc X.env _ newDict false (eval iter X.env)) _ _ s;refine CM (use:=none) rfl hs Cl.run B.kind B.names (thn (hi pins s σ H _ I h) λv s1 h1=>thn h1 λitv s2 h2=>?_);obtain⟨it,fp,tn,J,H2,e,I2,T,st2,f2,h2⟩:=h2;subst e
 refine BG (zc2 (e:=.DictComp kx vx [⟨tg,iter,ifs,0⟩] sc pos) (inner:=λ_ _=>pure ()) (D:=λp=>{ nx:=λ_ H'=>Q (.ref p) H',rt:=λ_ _=>False }) (tb:=λp=>zg9 p tk tv) (use:=none) B ho hN hc (λacc env R s a b=>codeAny_compStart_dict a b)
  (zia (iter:=iter) (pos:=pos) hu T hc hg ht hk hv) I2 T st2 f2 (zhJ s2.heap I2.big) rfl (h2 _ (I2.hok.fresh (An _))) (λC H' s' I3 fC hn hq=>?_) s2.toks cl Cl X.xe)
 obtain⟨m,hn⟩:=hn;obtain⟨_,hq⟩:=hq;exact⟨m,hn,λh' hs'=>⟨.ref s2.heap.objs.size,H',I3.let_go fC hs',rfl,hq⟩⟩
end
mutual
inductive RD (K:W.Frag) (H:Hp):V->PyData->Prop where
 |non:RD K H .non .none
 |bl (b:Bool):RD K H (.bl b) (.bool b)
 |int (i:Int):RD K H (.int i) (.int i)
 |str (x:Str):RD K H (.str x) (.str x)
 |lst {a:Addr} {xs:List V} {ds:List PyData}:SqL K H a xs->RDs K H xs ds->RD K H (.ref a) (.list ds)
 |tup {a:Addr} {xs:List V} {ds:List PyData}:SqT K H a xs->RDs K H xs ds->RD K H (.ref a) (.tuple ds)
inductive RDs (K:W.Frag) (H:Hp):List V->List PyData->Prop where
 |nil:RDs K H [] []
 |cons {x:V} {xs:List V} {d:PyData} {ds:List PyData}:RD K H x d->RDs K H xs ds->RDs K H (x::xs) (d::ds)
end
section
variable {X:Cx}{pins:List (Addr×Obj)}{σ:St}{H:Hp}{s:Ac}
mutual
theorem Inv.reads(I:Inv X pins σ H s):∀{v:V}{d:PyData}{u:Ab},RD X.K H v d->RelV v u->∃as,Reads s.heap u d as
 |_,_,_,.non,r=>by cases (show _=BY from r);exact⟨_,.none⟩
 |_,_,_,.bl b,r=>by cases (show _=Value.bool b from r);exact⟨_,.bool b⟩
 |_,_,_,.int i,r=>by obtain⟨t,rfl⟩:=r;exact⟨_,.int i t⟩
 |_,_,_,.str x,r=>by obtain⟨t,rfl⟩:=r;exact⟨_,.str x t⟩
 |_,_,_,.lst (a:=a) hq hs,r=>by
  cases (show _=Value.ref a from r)
  obtain⟨its,rv,p,hz⟩:=I.list hq;obtain⟨as,ra⟩:=I.readsAll hs rv;obtain⟨o,ho,hc,n,hd⟩:=p.isList;exact⟨_,.list ho hc hd (by simpa using ra)⟩
 |_,_,_,.tup (a:=a) hq hs,r=>by
  cases (show _=Value.ref a from r)
  obtain⟨its,rv,p,hz⟩:=I.tuple hq;obtain⟨as,ra⟩:=I.readsAll hs rv;obtain⟨o,ho,hc,n,hd⟩:=p;exact⟨_,.tuple ho hc hd (by simpa using ra)⟩
theorem Inv.readsAll(I:Inv X pins σ H s):∀{vs:List V}{ds:List PyData}{us:List Ab},RDs X.K H vs ds->Vals vs us->∃as,ReadsAll s.heap us ds as
 |_,_,_,.nil,r=>by cases r;exact⟨_,.nil⟩
 |_,_,_,.cons h t,.cons r rr=>by
  obtain⟨as,h1⟩:=I.reads h r;obtain⟨bs,h2⟩:=I.readsAll t rr;exact⟨_,.cons h1 h2⟩
end
end
theorem RDs.ints{K:W.Frag}{H:Hp}:∀(ns:List Int),RDs K H (ns.map V.int) (ns.map Di)
 |[]=>.nil
 |n::r=>.cons (.int n) (RDs.ints r)
mutual
theorem RD.mono{K:W.Frag}{H H':Hp}(hl:∀a xs,SqL K H a xs->SqL K H' a xs)(ht:∀a xs,SqT K H a xs->SqT K H' a xs):∀{v:V}{d:PyData},RD K H v d->RD K H' v d
 |_,_,.non=>.non
 |_,_,.bl b=>.bl b
 |_,_,.int i=>.int i
 |_,_,.str x=>.str x
 |_,_,.lst h t=>.lst (hl _ _ h) (RDs.mono hl ht t)
 |_,_,.tup h t=>.tup (ht _ _ h) (RDs.mono hl ht t)
theorem RDs.mono{K:W.Frag}{H H':Hp}(hl:∀a xs,SqL K H a xs->SqL K H' a xs)(ht:∀a xs,SqT K H a xs->SqT K H' a xs):∀{v:List V}{d:List PyData},RDs K H v d->RDs K H' v d
 |_,_,.nil=>.nil
 |_,_,.cons h t=>.cons (RD.mono hl ht h) (RDs.mono hl ht t)
end
noncomputable def rEqD(K:W.Frag):R2:=λx y H Q=>∃d e,RD K H x d/\RD K H y e/\BM d=true/\BM e=true/\Q (.bl (Cq d e)) H
noncomputable def rNeD(K:W.Frag):R2:=λx y H Q=>∃d e,RD K H x d/\RD K H y e/\BM d=true/\BM e=true/\Q (.bl (!PyData.eqv d e)) H
section
variable {X:Cx}
theorem ziN(hu:X.A.units+64<cLine):OpR X (BH .Eq) (rEqD X.K):=by intro pins s σ H x y v u Q I rx ry h;obtain⟨d,e,hd,he,sd,se,q⟩:=h;obtain⟨as,ra⟩:=I.reads hd rx;obtain⟨bs,rb⟩:=I.reads he ry;exact SeqAt.compareEq_shaped ra rb sd se hu ⟨.bl _,H,I,rfl,q⟩
theorem zf8(hu:X.A.units+64<cLine):OpR X (BH .NotEq) (rNeD X.K):=by intro pins s σ H x y v u Q I rx ry h;obtain⟨d,e,hd,he,sd,se,q⟩:=h;obtain⟨as,ra⟩:=I.reads hd rx;obtain⟨bs,rb⟩:=I.reads he ry;exact SeqAt.compareNe_shaped ra rb sd se hu ⟨.bl _,H,I,rfl,q⟩
theorem zgp{ds:List PyData}(h:∀e∈ds,BM e=true):B3 ds=true:=by
 induction ds with
 |nil=>rfl
 |cons d r ih=>rw[B3,C0 (h d Av),ih λe he=>h e (As _ he)];rfl
theorem zd9:∀ns ms:List Int,Du (ns.map Di) (ms.map Di)=decide (ns=ms)
 |[],[]=>rfl
 |[],_::_=>rfl
 |_::_,[]=>rfl
 |n::r,m::t=>by
  show (n == m && Du (r.map Di) (t.map Di))=_;rw[zd9 r t]
  by_cases e:n=m
  .subst e;by_cases e2:r=t <;> simp[e2]
  .simp[e]
theorem zby:∀ns:List Int,C5 (ns.map Di)=0
 |[]=>rfl
 |n::r=>by show max 0 (C5 (r.map Di))=0;rw[zby r];rfl
theorem zcH:∀ns:List Int,B3 (ns.map Di)=true
 |[]=>rfl
 |n::r=>by show (true && B3 (r.map Di))=true;rw[zcH r];rfl
noncomputable def tI(ns:List Int):PyData:=.tuple (ns.map .int)
theorem zcu(ns ms:List Int):Cq (tI ns) (tI ms)=decide (ns=ms):=zd9 ns ms
theorem zav(ns:List Int):BM (tI ns)=true:=by unfold BM tI;rw[CU,zcH,BN,zby];rfl
end
section
variable {prog:AH}{w:Bc}{A:AQ}{E:Ab->Ac->Prop}{s:Ac}
end
section
variable {X:Cx}{pos:Pos}
noncomputable def CDivB(i j:Int):Prop:=0<j/\j.natAbs.log2<9000
theorem zhq:OpR X (CS .FloorDiv) (rI CDivB λi j=>.int (i / j)):=opI λi j _ _ _ _ _ hc q=>by have e:i.fdiv j=i / j:=Int.fdiv_eq_ediv_of_nonneg i (Int.le_of_lt hc.1);rw[<- e]at q;exact floordiv_int (by have:=hc.1;lia) q (.inl (PyProof.noPylong_of_log2 hc.2))
theorem zeg (hh:X.calm=true):CallR X (.builtin "all") (λxs H Q=>∃(p:Addr) (bs:List Bool),xs=[.ref p]/\SqL X.K H p (bs.map V.bl)/\Q (.bl (bs.all id)) H):=by
 intro pins s σ H xs us Q I r h;obtain⟨p,bs,rfl,hq,q⟩:=h;obtain⟨u,rfl,ru⟩:=vals1 r
 cases (show u=Value.ref p from ru)
 obtain⟨its,rv,pl,hz⟩:=I.list hq;have hlp:p<s.heap.objs.size:=by obtain⟨o,ho,_⟩:=pl.isList;exact AD ho
 have hlen:its.length=bs.length:=by have:=rv.length;simpa using this.symm
 refine call_all_walk (wpAny_pyIter_list pl.isList ?_);refine⟨_,_,_,_,_,_,λi=>bs.getD i true,rfl,Walks.list (A:=X.A.in1) (I.ok.hd hh) s.heap.objs.size p (A4 hlp) its.toArray,⟨⟨_,AM _ rfl,rfl,rfl⟩,pl.isList.push _⟩,?_,λh' tk hk=>?_⟩
 .intro i v s1 Q1 E1 hv hQ;have hv':its[i]?=some v:=by simpa using hv
  have hi:i<its.length:=(Ae.mp hv').1;obtain⟨w',hw,rw'⟩:=rv.get (i:=i) (x:=V.bl (bs[i]'(by lia))) (by simp[Aa,show i<bs.length by lia]);rw[hv']at hw
  cases hw
  cases (show v=Value.bool _ from rw')
  refine BQ ?_
  have e:bs.getD i true=bs[i]'(by lia):=by simp[A6,show i<bs.length by lia]
  rw[<- e];exact hQ
 .have I1:Inv X pins σ H { s with heap:=h',toks:=tk }:=I.kept λb o e=>hk b o (by simp;exact A4 (AD e)) (Ak _ e)
  refine⟨.bl _,H,I1,rfl,?_⟩
  have e:(A0 its.toArray.size).all (λi=>bs.getD i true)=bs.all id:=by
   rw[show its.toArray.size=bs.length by simpa using hlen];rw[Dy];simp only[List.all_eq_true,List.mem_range,id];constructor
   .intro h b hb;obtain⟨i,hi,e⟩:=AN hb;have:=h i hi;simpa[A6,hi,e]using this
   .intro h i hi;have:=h bs[i] (A9 hi);simpa[A6,hi]using this
  rw[e];exact q
end
section
variable {X:Cx}
theorem zdz:CallR X (.builtin "isinstance") (λxs H Q=>∃x T t b,xs=[x,.ty T]/\TyOf X.K H x t/\W.kitOne X.K t (.type T)=some b/\Q (.bl b) H):=by
 intro pins s σ H xs us Q I r h;obtain⟨x,T,t,b,rfl,ty,e,q⟩:=h;obtain⟨u,w',rfl,ru,rw'⟩:=vals2 r
 cases (show w'=Value.type T from rw')
 exact zi2 I ru ty e λtk=>⟨.bl b,H,I.tok tk,rfl,q⟩
theorem zgi (K:W.Frag):W.kitOne K (.type "int") (.type "bool")=some false:=by rfl
theorem zdv(K:W.Frag)(T:String):W.kitOne K (.type T) (.type T)=some true:=by unfold W.kitOne;rw[if_pos (by simp)]
end
end L2
namespace HT
open PySem PyProof.Rows
noncomputable def lexLe:List Int->List Int->Bool
 |[],[]=>true
 |[],_::_=>true
 |_::_,[]=>false
 |x::xs,y::ys=>if x=y then lexLe xs ys else decide (x<=y)
theorem zeQ(x y:Int)(xs ys:List Int):lexLe (x::xs) (y::ys)=if x=y then lexLe xs ys else decide (x<=y):=rfl
theorem zfv:lexLe [] []=true:=rfl
theorem zex(y:Int)(ys:List Int):lexLe [] (y::ys)=true:=rfl
theorem zey(x:Int)(xs:List Int):lexLe (x::xs) []=false:=rfl
theorem zjE(A:AQ)(s:Ac)(a:Int)(t:Tok)(c:Int)(u:Tok)(prog:AH)(w:Bc)(E:Ab -> Ac -> Prop)(Q:Ab -> Ac -> Prop)(h:Q (.bool (decide (a <= c))) s) :
  Aw (Az prog w) A (richCompare .LtE (.int a t) (.int c u)) Q E s :=
 (PyProof.Rows.le_int h:Aw (Az prog w) A (BH .LtE (.int a t) (.int c u)) Q E s)
section
open PySem.SeqAt
open PySem.AutoSeq1 (wpAny_loadPart')
open PySem.MeetsSeq PySem.MeetsSeq2 PySem.MeetsSeq3
theorem ze0(l b:Addr)(items items2:Array Ab)(n n2:Nat)(dd dd2:Option Addr)(sl sl2:Array (Option Ab))(ns ms:List Int)(hi:Ci items.toList ns)(hj:Ci items2.toList ms) :
  Meets (Builtin.«tuple.__le__» ⟨[.ref l,.ref b],[]⟩)
   (λ_ R s=>s.heap.get? l=some { cls:=.type "tuple",dict:=dd,data:=.seq items n,slots:=sl }/\s.heap.get? b=some { cls:=.type "tuple",dict:=dd2,data:=.seq items2 n2,slots:=sl2 } /\
    R (.ok (.ret (.bool (lexLe ns ms)))) s) :=
 .of_wp λprog w A R s h=>by
  obtain⟨hp,g,d,tk,os⟩:=s;obtain⟨hl,hb,h⟩:=h;have f2:=AutoSeq1.sub_tuple_tuple;have z1:items.size=ns.length:=by rw[<- hi.length];simp
  have z2:items2.size=ms.length:=by rw[<- hj.length];simp
  wp_walk using B4 hl,B4 hb,wpAny_forIn_list _ (λrest b s'=>b.1=none/\s'=⟨hp,g,d,tk,os⟩/\∃(vs ws:List Ab) (ns' ms':List Int),rest=vs.zip ws /\
   Ci vs ns'/\Ci ws ms'/\ns'.length+items2.size=ms'.length+items.size/\R (.ok (.ret (.bool (lexLe ns' ms')))) ⟨hp,g,d,tk,os⟩) _
  case turn =>
   rintro⟨y,x⟩ rest b s' ⟨hb',rfl,vs,ws,ns',ms',hz,hvi,hwi,hlen,hR⟩
   cases hvi with
   |nil=>rw[List.zip_nil_left]at hz;cases hz
   |cons a t hvi' =>
    cases hwi with
    |nil=>rw[List.zip_nil_right]at hz;cases hz
    |cons c u hwi' =>
     rw[DD]at hz;injection hz with hyx hrest;injection hyx with hy hx;subst hy hx;rw[zeQ]at hR;simp only[AV]at hlen;obtain⟨e,he,hiff⟩:=zhG A.in1 ⟨hp,g,d,tk,os⟩ a t c u;refine Ad (he prog w _ _ ?_)
     cases e with
     |true =>
      rw[if_pos (hiff.mp rfl)]at hR
      wp_walk
      exact⟨rfl,rfl,_,_,_,_,hrest,hvi',hwi',by lia,hR⟩
     |false =>
      rw[if_neg (λq=>absurd (hiff.mpr q) AA)]at hR;have hri:=zjE A.in1 ⟨hp,g,d,tk,os⟩ a t c u prog w
      wp_walk using hri
      exact⟨_,rfl,by simpa using hR⟩
  case fin =>
   rintro⟨b1,b2⟩ s' ⟨hb',rfl,vs,ws,ns',ms',hz,hvi,hwi,hlen,hR⟩;simp only at hb';subst hb'
   have hv:lexLe ns' ms'=decide (items.size<=items2.size):=by
    cases hvi with
    |nil =>
     cases hwi with
     |nil =>
      simp only[BU]at hlen;rw[zfv];exact (decide_eq_true (by lia)).symm
     |cons c u hw =>
      simp only[BU,AV]at hlen;rw[zex];exact (decide_eq_true (by lia)).symm
    |cons a t hv =>
     cases hwi with
     |nil =>
      simp only[BU,AV]at hlen;rw[zey];exact (decide_eq_false (by lia)).symm
     |cons c u hw =>
      rw[DD]at hz
      cases hz
   rw[hv]at hR
   wp_walk
   exact⟨_,rfl,by simpa[Builtin.Tuple.tupleCompareSizes]using hR⟩
  case h =>
   exact⟨rfl,rfl,items.toList,items2.toList,ns,ms,rfl,hi,hj,by lia,h⟩
end
section
variable {prog:AH}{w:Bc}{A:AQ}{E:Ab->Ac->Prop}{s:Ac}
theorem le_tupInts{l b:Addr}{items items2:Array Ab}{ns ms:List Int}{Q:Ab -> Ac -> Prop}(hl:IsTup s.heap l items)(hb:IsTup s.heap b items2)(hi:Ci items.toList ns)(hj:Ci items2.toList ms)
  (hu:A.units<cLine) (h:Q (.bool (lexLe ns ms)) s):Aw (Az prog w) A (BH .LtE (.ref l) (.ref b)) Q E s:=by
 obtain⟨⟨cls,dd,data,sl⟩,ho,hc,n,hd⟩:=id hl;obtain⟨⟨cls2,dd2,data2,sl2⟩,ho2,hc2,n2,hd2⟩:=id hb;simp only at hc hd hc2 hd2;subst hc hd hc2 hd2
 exact richCompare_meets_room (op:=.LtE) ⟨_,ho,rfl⟩ ⟨_,ho2,rfl⟩ PySem.F.slot_tuple_le PySem.F.entry_tuple_le (PySem.F.args_tuple_le_2 _ _) (ze0 l b items items2 n n2 dd dd2 sl sl2 ns ms hi hj)
  ⟨ho,ho2,show Value.bool (lexLe ns ms)≠Value.notImplemented/\Q (.bool (lexLe ns ms)) s from ⟨(λx=>nomatch x),h⟩⟩ hu
end
end HT
namespace L2
open PySem PySem.Spec PyProof.Rows
section
variable {X:Cx}
noncomputable def rLeT(K:W.Frag):R2:=λx y H Q=>∃a b ns ms,x=.ref a/\y=.ref b/\SqT K H a (ns.map V.int)/\SqT K H b (ms.map V.int)/\Q (.bl (HT.lexLe ns ms)) H
theorem zlD(hu:X.A.units<cLine):OpR X (BH .LtE) (rLeT X.K):=by
 intro pins s σ H x y v u Q I rx ry h;obtain⟨a,b,ns,ms,rfl,rfl,ha,hb,q⟩:=h
 cases rx
 cases ry
 obtain⟨its,r1,p1,_⟩:=I.tuple ha;obtain⟨its2,r2,p2,_⟩:=I.tuple hb;have i1:Ci its.toArray.toList ns:=zbA r1;have i2:Ci its2.toArray.toList ms:=zbA r2;exact HT.le_tupInts p1 p2 i1 i2 hu ⟨.bl (HT.lexLe ns ms),H,I,rfl,q⟩
end
section
variable {X:Cx}
noncomputable def zkK(K:W.Frag):V->List V->Hp->VK->Prop:=λx vs H Q=>∃p xs y d ds j e,x=.ref p/\vs=[y]/\SqL K H p xs/\RD K H y d/\RDs K H xs ds/\BM d=true/\(∀e∈ds,BM e=true) /\
 ds[j]?=some e/\Cq e d=true/\(∀m e',m<j->ds[m]?=some e'->Cq e' d=false)/\Q (.int (j:Nat)) H
theorem ziR (hu:X.A.units+65<cLine):MtR X "list.index" (zkK X.K):=by
 intro pins s σ H x vs v us Q I rx rv h;obtain⟨p,xs,y,d,ds,j,e,rfl,rfl,hq,hd,hds,sd,sds,hj,he,hno,q⟩:=h
 cases rx
 obtain⟨u,rfl,ru⟩:=rv.one;obtain⟨its,r,pl,hz⟩:=I.list hq;obtain⟨as,ra⟩:=I.reads hd ru;obtain⟨bs,rb⟩:=I.readsAll hds r;have hlay:=zgp sds;have hmap:=SeqAt.readsAll_map ds _ _ hlay rb;have hlen:its.length=ds.length:=by rw[<- hmap,Am]
 have hj':j<ds.length:=(Ae.mp hj).1
 have rd:∀m (hm:m<its.length),ds[m]?=some (SeqAt.readOf s.heap its[m]):=λm hm=>by rw[<- hmap,Ax,Aa hm];rfl
 obtain⟨⟨cls,dd,data,sl⟩,ho,hc,n,hdat⟩:=pl.isList;simp only at hc hdat
 subst hc hdat
 have hsz:xs.length<=sizeLine:=hz;have hl2:its.length=xs.length:=r.length.symm
 refine call_meets PySem.F.slot_list_index ⟨_,ho,rfl⟩ PySem.F.entry_list_index (PySem.F.args_list_index_2 _ _)
  (SeqAt.list_indexAt p its.toArray n dd sl u (λz=>Cq (SeqAt.readOf s.heap z) d) j (by simpa[hlen]using hj') (by have:=sizeLine_eq;lia) ?_ ?_)
  ⟨ho,SeqAt.items_eqAt (vs:=its.toArray) rb ra hlay (C0 sd) (PyProof.Rows.room_in_shaped sd hu),?_⟩
 .have:=rd j (by lia);rw[hj]at this;have e1:=AJ this;show Cq (SeqAt.readOf s.heap its[j]) d=true;rw[<- e1];exact he
 .intro m hm hlt;have hm':m<its.length:=by simpa using hm
  exact hno m _ hlt (rd m hm')
 .exact⟨.int (j:Nat),H,I.tok _,⟨_,rfl⟩,q⟩
end
section
variable {X:Cx}{k:Nat}{f:Addr}{fd:Bx}{ps:List Str}{sp:Sp}{pins:List (Addr×Obj)}{σ:St}
theorem ziz{H:Hp}{s:Ac}{Q:VK}{us:List Ab}{vs:List V}{E:Ab -> Ac -> Prop}(F:FnOk X.prog X.w X.K X.mg X.base CX0 k f fd ps sp)(hr:Room (k + 1) X.A)(hb:Binds X.K fd ps [])
  (I:Inv X pins σ H s) (r:Vals vs us) (h:sp vs H Q E0):Aw (Az X.prog X.w) X.A.in1 (call (.ref f) us) (EP X pins σ Q) E s:=by
 have hl:(us++[]).length=ps.length:=by rw[AX,<- r.length];exact F.len _ _ _ _ h
 have hb':=hb s us I.kIn hl;rw[AX]at hb';refine wpAny_call (codeAny_mono (F.run X.A.in1 X.stack s H ⟨us,[]⟩ us vs Q E0 hr.in1 I.env0.in1 hb' r h) λr s' hq=>?_)
 cases r with
 |error e=>exact BD hq
 |ok fl =>
  cases fl with
  |ret u=>exact I.after hq
  |next=>exact BD hq
  |brk=>exact BD hq
  |cont=>exact BD hq
theorem Inv.moved{H:Hp}{s:Ac}{b:Addr}{h':Heap}{t':Nat}(I:Inv X pins σ H s)(fb:FpOk X pins H b)(hk:∀c o,c ∉ [b]->s.heap.get? c=some o->h'.get? c=some o):Inv X pins σ H { s with heap:=h',toks:=t' } :=
 I.turned (λc o hc e=>hk c o (λz=>hc (Ar.mp z)) e) fb.1 fb.2.1 fb.2.2.2.1 fb.2.2.2.2.1 fb.2.2.2.2.2
theorem FpOk.again{H H':Hp}{b:Addr}(fb:FpOk X pins H b)(hn:H' b=none):FpOk X pins H' b:=⟨hn,fb.2⟩
structure MK (X:Cx) (pins:List (Addr×Obj)) (σ:St) (H:Hp) (s:Ac) (it st l:Addr) (j:Nat) (vb kb:Ab):Prop where
 inv:Inv X pins σ H s
 fi:FpOk X pins H it
 fs:FpOk X pins H st
 ne:st≠it
 iter:s.heap.IsListIter it l j
 hold:∃c,s.heap.get? st=some (A7 "list" #[vb,kb] c)
noncomputable def Least(κ:Nat->List Int)(n i:Nat):Prop:=∀j,j<n->HT.lexLt (κ j) (κ i)=false/\(j<i->HT.lexLt (κ i) (κ j)=true)
end
end L2
namespace HT
theorem lexLt_irrefl:∀a:List Int,lexLt a a=false
 |[]=>rfl
 |x::r=>by rw[lexLt_cons,if_pos rfl];exact lexLt_irrefl r
theorem lexLt_trans:∀{a b c:List Int},lexLt a b=true->lexLt b c=true->lexLt a c=true
 |[],[],_,h,_=>by cases h
 |[],_::_,[],_,h=>by cases h
 |[],_::_,_::_,_,_=>rfl
 |_::_,[],_,h,_=>by cases h
 |_::_,_::_,[],_,h=>by cases h
 |x::a,y::b,z::c,h,g=>by
  rw[lexLt_cons]at h g ⊢
  by_cases e1:x=y
  .subst e1;rw[if_pos rfl]at h
   by_cases e2:x=z
   .subst e2;rw[if_pos rfl]at g ⊢;exact lexLt_trans h g
   .rw[if_neg e2]at g ⊢;exact g
  .rw[if_neg e1]at h;have h':x<y:=by simpa using h
   by_cases e2:y=z
   .subst e2;rw[if_neg e1];exact h
   .rw[if_neg e2]at g;have g':y<z:=by simpa using g
    rw[if_neg (by lia)];exact decide_eq_true (by lia)
theorem lexLt_total:∀{a b:List Int},lexLt a b=false->lexLt b a=false->a=b
 |[],[],_,_=>rfl
 |[],_::_,h,_=>by cases h
 |_::_,[],_,h=>by cases h
 |x::a,y::b,h,g=>by
  rw[lexLt_cons]at h g
  by_cases e:x=y
  .subst e;rw[if_pos rfl]at h g;rw[lexLt_total h g]
  .rw[if_neg e]at h;rw[if_neg (Cb e)]at g;have h':¬ x<y:=by simpa using h
   have g':¬ y<x:=by simpa using g
   lia
theorem lexLe_eq:∀a b:List Int,lexLe a b=!lexLt b a
 |[],[]=>rfl
 |[],_::_=>rfl
 |_::_,[]=>rfl
 |x::a,y::b=>by
  rw[zeQ,lexLt_cons]
  by_cases e:x=y
  .subst e;rw[if_pos rfl,if_pos rfl];exact lexLe_eq a b
  .rw[if_neg e,if_neg (Cb e)]
   by_cases g:x<=y
   .rw[decide_eq_true g,decide_eq_false (by lia)];rfl
   .rw[decide_eq_false g,decide_eq_true (by lia)];rfl
theorem lexLt_of_not_lt_lt{a b c:List Int}(h:lexLt b a=false)(g:lexLt b c=true):lexLt a c=true:=by
 cases e:lexLt a b with
 |true=>exact lexLt_trans e g
 |false=>rw[lexLt_total e h];exact g
theorem lexLt_asym{a b:List Int}(h:lexLt a b=true):lexLt b a=false:=by
 cases e:lexLt b a with
 |false=>rfl
 |true=>have:=lexLt_trans h e;rw[lexLt_irrefl]at this;cases this
end HT
namespace L2
open PySem PySem.Spec PyProof.Rows
section
variable {X:Cx}{k:Nat}{f:Addr}{fd:Bx}{ps:List Str}{sp:Sp}{pins:List (Addr×Obj)}{σ:St}{H0:Hp}{Q:VK}{l it st:Addr}{xs:List V}{κ:Nat->List Int}
noncomputable def MKR(X:Cx)(pins:List (Addr×Obj))(σ:St)(Q:VK):Result->Ac->Prop:=λr s'=>match r with
 |.ok (.ret v)=>EP X pins σ Q v s'
 |.ok _=>False
 |.error e=>X.xe e s'
theorem zcB {xs:Array Ab}{c:Nat}:∀v,(A7 "list" xs c).data≠.cell v:=λv h=>by cases h
theorem zd3{h:Heap}{it l:Addr}{j:Nat}(hi:h.IsListIter it l j):∃o,h.get? it=some o/\∀v,o.data≠.cell v:=by obtain⟨o,ho,_,hd⟩:=hi;exact⟨o,ho,λv z=>by rw[hd]at z;cases z⟩
theorem zjz{H:Hp}{s:Ac}{Q1:VK}{u:Ab}{x:V}{E:Ab -> Ac -> Prop}{j:Nat}{vb kb:Ab}(F:FnOk X.prog X.w X.K X.mg X.base CX0 k f fd ps sp)(hr:Room (k + 1) X.A)(hb:Binds X.K fd ps [])
    (M:MK X pins σ H s it st l j vb kb) (r:RelV x u) (h:sp [x] H Q1 E0):Aw (Az X.prog X.w) X.A.in1 (call (.ref f) [u]) (λv s'=>∃y H',RelV y v/\Q1 y H'/\MK X pins σ H' s' it st l j vb kb) E s:=by
  obtain⟨c,hc⟩:=M.hold;obtain⟨oi,hoi,ci,di⟩:=id M.iter
  have I1:Inv X (pins ++ zdk [it, st] s.heap) σ H s := M.inv.pinned (λb hb => by
      rcases AW.mp hb with rfl |hb
      . exact M.fi
      . rw[Ar.mp hb];exact M.fs) (λb hb=>by
      rcases AW.mp hb with rfl |hb
      . exact zd3 M.iter
      . rw[Ar.mp hb];exact⟨_,hc,zcB⟩)
  refine By (ziz F hr hb I1 (.cons r .nil) h) (λv s' hv=>?_) λ_ _ e=>e
  obtain⟨y,H',I2,ry,q⟩:=hv;have p1:=I2.pin (it,oi) (Au _ (Au _ (zaS (by simp) hoi)));have p2:=I2.pin (st,A7 "list" #[vb,kb] c) (Au _ (Au _ (zaS (by simp) hc)));exact⟨y,H',ry,q,I2.unpinned,M.fi.again p1.2.1,M.fs.again p2.2.1,M.ne,⟨oi,p1.1,ci,di⟩,c,p2.1⟩
theorem zk1{H:Hp}{s:Ac}{a b:Addr}{ns ms:List Int}{E:Ab -> Ac -> Prop}{Q1:Ab -> Ac -> Prop}(hu:X.A.units + 1 < cLine)(I:Inv X pins σ H s)(ha:SqT X.K H a (ns.map V.int))(hb:SqT X.K H b (ms.map V.int))(q:Q1 (.bool (HT.lexLt ns ms)) s) :
  Aw (Az X.prog X.w) X.A.in1 (richCompare .Lt (.ref a) (.ref b)) Q1 E s:=by
 obtain⟨its,r1,p1,_⟩:=I.tuple ha;obtain⟨its2,r2,p2,_⟩:=I.tuple hb;exact (HT.lt_tupInts p1 p2 (zbA r1) (zbA r2) hu q:Aw (Az X.prog X.w) X.A.in1 (BH .Lt (.ref a) (.ref b)) Q1 E s)
theorem MK.set{H:Hp}{s:Ac}{j:Nat}{vb kb v kv:Ab}(M:MK X pins σ H s it st l j vb kb):MK X pins σ H { s with heap:=s.heap.update st (AB λ_=>#[v,kv]) } it st l j v kv:=by obtain⟨c,hc⟩:=M.hold;have sb:=BB s.heap st (AB λ_=>#[v,kv]);obtain⟨oi,hoi,ci,di⟩:=id M.iter;exact⟨M.inv.moved (t':=s.toks) M.fs (λb o hb e=>(sb.2 b λz=>hb (by simp[z])).trans e),M.fi,M.fs,M.ne,⟨oi,(sb.2 it M.ne.symm).trans hoi,ci,di⟩,_,CA hc λ_=>#[v,kv]⟩
theorem Least.next{n i:Nat}(h:Least κ n i)(e:HT.lexLt (κ n) (κ i)=false)(hi:i<n):Least κ (n+1) i:=λj hj=>by
 by_cases z:j=n
 .subst z;exact⟨e,λq=>absurd q (by lia)⟩
 .exact h j (by lia)
theorem Least.take{n i:Nat}(h:Least κ n i)(e:HT.lexLt (κ n) (κ i)=true)(hi:i<n):Least κ (n+1) n:=λj hj=>by
 by_cases z:j=n
 .subst z;exact⟨HT.lexLt_irrefl _,λq=>absurd q (by lia)⟩
 .have g:=(h j (by lia)).1
  have t:HT.lexLt (κ n) (κ j)=true:=by
   cases q:HT.lexLt (κ i) (κ j) with
   |true=>exact HT.lexLt_trans e q
   |false=>rw[<- HT.lexLt_total q g];exact e
  exact⟨HT.lexLt_asym t,λ_=>t⟩
theorem Room.un1{n:Nat}{A:AQ}(r:Room n A):A.units+1<cLine:=by have:=r.units;lia
theorem Same.seqT{K:W.Frag}{H H':Hp}{a:Addr}{xs:List V}(e:Same H H')(h:SqT K H a xs):SqT K H' a xs:=by
 rcases h with (h |⟨o,h⟩) |h
 .exact .inl (.inl (e _ _ h))
 .exact .inl (.inr ⟨o,e _ _ h⟩)
 .exact .inr h
theorem ziS(hh:X.A.handled=none)(F:FnOk X.prog X.w X.K X.mg X.base CX0 k f fd ps sp)(hr:Room (k + 1) X.A)(hb:Binds X.K fd ps [])
  (turn:∀i x H,xs[i]?=some x->Same H0 H->sp [x] H (λv H'=>Same H H'/\∃a,v=.ref a/\SqT X.K H' a ((κ i).map V.int)) E0)
  (hl:SqL X.K H0 l xs) (hli:l≠it) (hQ:∀i x H',xs[i]?=some x->Least κ xs.length i->Same H0 H'->Q x H') :
  ∀(r j i:Nat) (H:Hp) (s:Ac) (vb:Ab) (xb:V) (b:Addr),xs.length-(j+1)=r->j+1<=xs.length->Same H0 H->MK X pins σ H s it st l (j+1) vb (.ref b)->xs[i]?=some xb->RelV xb vb->SqT X.K H b ((κ i).map V.int)->i<=j->Least κ (j+1) i ->
   CB (Az X.prog X.w) X.A (.builtin "min.loop" ⟨[.ref it,.ref f,.ref st],[]⟩) (MKR X pins σ Q) s:=by
 have nm:(toString "min" ++ toString ".loop" : String) = "min.loop":=by decide
 intro r
 induction r with
 |zero =>
  intro j i H s vb xb b hr0 hj hS M hxb rb kb' hij best;have hend:j+1=xs.length:=by lia
  obtain⟨its,rv,pl,hz⟩:=M.inv.list (hS.seq hl);have hlen:its.length=xs.length:=rv.length.symm;have W:=Walks.list (prog:=X.prog) (w:=X.w) (A:=X.A.in1) hh it l hli its.toArray;obtain⟨c,hc⟩:=M.hold;refine codeAny_builtin PySem.F.entry_min_loop ?_
  rw[Around.under_plainId BO _];show Aw _ X.A.in1 (seqItems? (.ref st) >>= _) _ _ _;refine Ad (wpAny_seqItems hc rfl ?_);show Aw _ X.A.in1 (tryCatch (pyNext (.ref it)) _ >>= _) _ _ _;refine Ad (Dj (W.done _ _ _ ⟨by rw[Ap,hlen,<- hend];exact M.iter,pl.isList⟩ λh1 tk1 hk1=>?_));have I1:=M.inv.moved (t':=tk1) M.fi hk1;have hc1:=hk1 st _ (by simpa using M.ne) hc;have sb:=BB h1 st (AB λ_=>(#[]:Array Ab));show Aw _ X.A.in1 (updateSeq st (λ_=>#[]) >>= _) _ _ _;refine Ad ?_
  refine wpAny_updateSeq hc1 rfl (Ad (wpAny_letGo (Aj ?_)));have I2:Inv X pins σ H { s with heap:=h1.update st (AB λ_=>(#[]:Array Ab)),toks:=tk1 }:=I1.moved (s:={ s with heap:=h1,toks:=tk1 }) (t':=tk1) M.fs (λb o hb e=>(sb.2 b λz=>hb (by simp[z])).trans e);exact⟨xb,H,I2,rb,hQ i xb H hxb (by rw[<- hend];exact best) hS⟩
 |succ r ih =>
  intro j i H s vb xb b hr0 hj hS M hxb rb kb' hij best;have hlt:j+1<xs.length:=by lia
  obtain⟨its,rv,pl,hz⟩:=M.inv.list (hS.seq hl);have hlen:its.length=xs.length:=rv.length.symm;have W:=Walks.list (prog:=X.prog) (w:=X.w) (A:=X.A.in1) hh it l hli its.toArray;obtain⟨c,hc⟩:=M.hold;refine codeAny_builtin PySem.F.entry_min_loop ?_
  rw[Around.under_plainId BO _];show Aw _ X.A.in1 (seqItems? (.ref st) >>= _) _ _ _;refine Ad (wpAny_seqItems hc rfl ?_);show Aw _ X.A.in1 (tryCatch (pyNext (.ref it)) _ >>= _) _ _ _;refine Ad (Dj (W.item (j+1) _ _ _ (by rw[Ap,hlen];exact hlt) ⟨M.iter,pl.isList⟩ λv h1 tk1 hP hst1 hk1=>?_));have hv:its[j+1]?=some v:=by simpa using hP
  obtain⟨x,hx⟩:∃x,xs[j+1]?=some x:=⟨_,Aa hlt⟩;obtain⟨v',hv',rx⟩:=rv.get hx;rw[hv]at hv'
  cases hv'
  have M1:MK X pins σ H { s with heap:=h1,toks:=tk1 } it st l (j+1+1) vb (.ref b):=⟨M.inv.moved (t':=tk1) M.fi hk1,M.fi,M.fs,M.ne,hst1.1,c,hk1 st _ (by simpa using M.ne) hc⟩;show Aw _ X.A.in1 (tryCatch (Dw [v] (call (.ref f) [v])) _ >>= _) _ _ _;refine Ad (Dj (Bo (By (zjz F hr hb M1 rx (turn (j+1) x H hx hS) (E:=λ_ _=>False)) (λkv s2 he=>?_) λ_ _ hF=>hF.elim)));obtain⟨y,H2,ry,⟨hS2,a2,ey,ka2⟩,M2⟩:=he;subst ey
  cases (show kv=Value.ref a2 from ry)
  have hS3:=hS.trans hS2;have kb2:SqT X.K H2 b ((κ i).map V.int):=hS2.seqT kb';show Aw _ X.A.in1 (tryCatch (Dw [v,.ref a2] (richCompare .Lt (.ref a2) (.ref b) >>= _)) _ >>= _) _ _ _;refine Ad (Dj (Bo (Ad (zk1 hr.un1 M2.inv ka2 kb2 ?_))));refine Ad (Bo (BQ ?_));refine Ad (wpAny_letGo (Aj ?_));obtain⟨c2,hc2⟩:=M2.hold
  by_cases hbt:HT.lexLt (κ (j+1)) (κ i)=true
  .simp only[hbt,if_true];refine Ad ?_
   refine wpAny_updateSeq hc2 rfl (Ad (wpAny_letGo ?_));rw[nm];exact Aj ⟨plainId_quiet BO _,ih (j+1) (j+1) H2 _ v _ a2 (by lia) hlt hS3 M2.set hx rx ka2 (An _) (best.take hbt (by lia))⟩
  .have hbf:HT.lexLt (κ (j+1)) (κ i)=false:=by simpa using hbt
   simp only[hbf,B8,if_false];refine Ad (wpAny_letGo ?_);rw[nm];exact Aj ⟨plainId_quiet BO _,ih (j+1) i H2 _ vb _ b (by lia) hlt hS3 M2 hxb rb kb2 (by lia) (best.next hbf (by lia))⟩
end
section
variable {X:Cx}{k:Nat}{f:Addr}{fd:Bx}{ps:List Str}{sp:Sp}{pins:List (Addr×Obj)}{σ:St}{H0:Hp}{Q:VK}{l it st:Addr}{xs:List V}{κ:Nat->List Int}
structure MK0 (X:Cx) (pins:List (Addr×Obj)) (σ:St) (H:Hp) (s:Ac) (it st l:Addr) (j:Nat):Prop where
 inv:Inv X pins σ H s
 fi:FpOk X pins H it
 fs:FpOk X pins H st
 ne:st≠it
 iter:s.heap.IsListIter it l j
 hold:∃c,s.heap.get? st=some (A7 "list" #[] c)
theorem ziA{H:Hp}{s:Ac}{Q1:VK}{u:Ab}{x:V}{E:Ab -> Ac -> Prop}{j:Nat}(F:FnOk X.prog X.w X.K X.mg X.base CX0 k f fd ps sp)(hr:Room (k + 1) X.A)(hb:Binds X.K fd ps [])
    (M:MK0 X pins σ H s it st l j) (r:RelV x u) (h:sp [x] H Q1 E0):Aw (Az X.prog X.w) X.A.in1 (call (.ref f) [u]) (λv s'=>∃y H',RelV y v/\Q1 y H'/\MK0 X pins σ H' s' it st l j) E s:=by
  obtain⟨c,hc⟩:=M.hold;obtain⟨oi,hoi,ci,di⟩:=id M.iter
  have I1:Inv X (pins ++ zdk [it, st] s.heap) σ H s := M.inv.pinned (λb hb => by
      rcases AW.mp hb with rfl |hb
      . exact M.fi
      . rw[Ar.mp hb];exact M.fs) (λb hb=>by
      rcases AW.mp hb with rfl |hb
      . exact zd3 M.iter
      . rw[Ar.mp hb];exact⟨_,hc,zcB⟩)
  refine By (ziz F hr hb I1 (.cons r .nil) h) (λv s' hv=>?_) λ_ _ e=>e
  obtain⟨y,H',I2,ry,q⟩:=hv;have p1:=I2.pin (it,oi) (Au _ (Au _ (zaS (by simp) hoi)));have p2:=I2.pin (st,A7 "list" #[] c) (Au _ (Au _ (zaS (by simp) hc)));exact⟨y,H',ry,q,I2.unpinned,M.fi.again p1.2.1,M.fs.again p2.2.1,M.ne,⟨oi,p1.1,ci,di⟩,c,p2.1⟩
theorem MK0.set{H:Hp}{s:Ac}{j:Nat}{v kv:Ab}(M:MK0 X pins σ H s it st l j):MK X pins σ H { s with heap:=s.heap.update st (AB λ_=>#[v,kv]) } it st l j v kv:=by obtain⟨c,hc⟩:=M.hold;have sb:=BB s.heap st (AB λ_=>#[v,kv]);obtain⟨oi,hoi,ci,di⟩:=id M.iter;exact⟨M.inv.moved (t':=s.toks) M.fs (λb o hb e=>(sb.2 b λz=>hb (by simp[z])).trans e),M.fi,M.fs,M.ne,⟨oi,(sb.2 it M.ne.symm).trans hoi,ci,di⟩,_,CA hc λ_=>#[v,kv]⟩
theorem zjm{s:Ac}(hh:X.A.handled=none)(F:FnOk X.prog X.w X.K X.mg X.base CX0 k f fd ps sp)(hr:Room (k + 1) X.A)(hb:Binds X.K fd ps [])
  (turn:∀i x H,xs[i]?=some x->Same H0 H->sp [x] H (λv H'=>Same H H'/\∃a,v=.ref a/\SqT X.K H' a ((κ i).map V.int)) E0)
  (hl:SqL X.K H0 l xs) (hne:0<xs.length) (hQ:∀i x H',xs[i]?=some x->Least κ xs.length i->Same H0 H'->Q x H') (I:Inv X pins σ H0 s) :
  Aw (Az X.prog X.w) X.A (call (.builtin "min") [.ref l] [(Br "key",.ref f)]) (EP X pins σ Q) X.xe s:=by
 have nm:(toString "min" ++ toString ".loop" : String) = "min.loop":=by decide
 obtain⟨its,rv,pl,hz⟩:=I.list hl;have hlen:its.length=xs.length:=rv.length.symm;have hll:l<s.heap.objs.size:=by obtain⟨o,ho,_⟩:=pl.isList;exact AD ho
 refine kmk_tree PySem.F.kind_min PySem.F.plain_min PySem.F.entry_min (kmk_min_key _ _) ?_
 show Aw _ X.A.in1 (Cj "min" ["key","default"] 0 ⟨[],[(Br "key",.ref f)]⟩ >>= _) _ _ s;refine Ad (wpAny_of_eq (show Cj "min" ["key","default"] 0 ⟨[],[(Br "key",.ref f)]⟩=pure [some (.ref f),none] from rfl) ?_);refine Ad (Aj ?_);refine Ad (wpAny_pyIter_list pl.isList ?_);refine Ad (wpAny_newList ?_ (AU _));rw[nm];refine Aj ⟨plainId_quiet BO _,?_⟩;have keep:∀b o,s.heap.get? b=some o->((s.heap.push { cls:=.type "list_iterator",data:=.fields #[.ref l,.int 0 0] }).push (A7 "list" #[] 0)).get? b=some o:=λb o e=>Ak _ (Ak _ e)
 have gi:((s.heap.push { cls:=.type "list_iterator",data:=.fields #[.ref l,.int 0 0] }).push (A7 "list" #[] 0)).get? s.heap.objs.size=some { cls:=.type "list_iterator",data:=.fields #[.ref l,.int 0 0] }:=Ak _ (AM _ rfl);have hsS:(s.heap.push { cls:=.type "list_iterator",data:=.fields #[.ref l,.int 0 0] }).objs.size=s.heap.objs.size+1:=size_push' ..;have gs:((s.heap.push { cls:=.type "list_iterator",data:=.fields #[.ref l,.int 0 0] }).push (A7 "list" #[] 0)).get? (s.heap.objs.size+1)=some (A7 "list" #[] 0):=by rw[<- hsS];exact AM _ rfl
 rw[hsS];have I1:Inv X pins σ H0 { s with heap:=(s.heap.push { cls:=.type "list_iterator",data:=.fields #[.ref l,.int 0 0] }).push (A7 "list" #[] 0) }:=I.kept (t':=s.toks) keep;have fi:FpOk X pins H0 s.heap.objs.size:=I.fpOk (An _) (I.hok.fresh (An _));have fs:FpOk X pins H0 (s.heap.objs.size+1):=I.fpOk (Cm _) (I.hok.fresh (Cm _));have M0:MK0 X pins σ H0 _ s.heap.objs.size (s.heap.objs.size+1) l 0:=⟨I1,fi,fs,Nat.ne_of_gt (Nat.lt_succ_self _),⟨_,gi,rfl,rfl⟩,⟨0,gs⟩⟩;have hli:l≠s.heap.objs.size:=A4 hll;have W:=Walks.list (prog:=X.prog) (w:=X.w) (A:=X.A.in1) hh s.heap.objs.size l hli its.toArray;refine codeAny_builtin PySem.F.entry_min_loop ?_
 rw[Around.under_plainId BO _];show Aw _ X.A.in1 (seqItems? (.ref _) >>= _) _ _ _;refine Ad (wpAny_seqItems gs rfl ?_);show Aw _ X.A.in1 (tryCatch (pyNext (.ref s.heap.objs.size)) _ >>= _) _ _ _;obtain⟨its2,rv2,pl2,_⟩:=I1.list hl;refine Ad (Dj (W.item 0 _ _ _ (by rw[Ap,hlen];exact hne) ⟨M0.iter,pl.isList.at λo e=>keep _ _ e⟩ λv h1 tk1 hP hst1 hk1=>?_));have hv:its[0]?=some v:=by simpa using hP
 obtain⟨x,hx⟩:∃x,xs[0]?=some x:=⟨_,Aa hne⟩;obtain⟨v',hv',rx⟩:=rv.get hx;rw[hv]at hv'
 cases hv'
 have M1:MK0 X pins σ H0 { s with heap:=h1,toks:=tk1 } s.heap.objs.size (s.heap.objs.size+1) l 1:=⟨I1.moved (t':=tk1) fi hk1,fi,fs,M0.ne,hst1.1,0,hk1 _ _ (by simp) gs⟩;show Aw _ X.A.in1 (tryCatch (Dw [v] (call (.ref f) [v])) _ >>= _) _ _ _;refine Ad (Dj (Bo (By (ziA F hr hb M1 rx (turn 0 x H0 hx (Same.refl _)) (E:=λ_ _=>False)) (λkv s2 he=>?_) λ_ _ hF=>hF.elim)));obtain⟨y,H2,ry,⟨hS2,a2,ey,ka2⟩,M2⟩:=he;subst ey
 cases (show kv=Value.ref a2 from ry)
 obtain⟨c2,hc2⟩:=M2.hold;show Aw _ X.A.in1 (updateSeq (s.heap.objs.size+1) (λ_=>#[v,.ref a2]) >>= _) _ _ _;refine Ad ?_
 refine wpAny_updateSeq hc2 rfl ?_
 rw[nm];refine Aj ⟨plainId_quiet BO _,?_⟩
 exact codeAny_mono (ziS hh F hr hb turn hl hli hQ _ 0 0 H2 _ v _ a2 rfl hne hS2 M2.set hx rx ka2 (An _) (λj hj=>by
  have e:j=0:=by lia
  subst e;exact⟨HT.lexLt_irrefl _,λz=>absurd z (CI _)⟩)) λr s' hr'=>hr'
end
end L2
namespace RK
open PySem PySem.W PyProof.Rows
variable {n:Nat}{ans:Nat->Nat->Bool}
noncomputable def Pm(n:Nat)(p:Array Nat):Prop:=p.Perm (Cd (A0 n))
inductive Col:Ab->Ab->Int->Int->Prop where
 |int (a:Int) (t:Tok) (b:Int) (u:Tok):Col (.int a t) (.int b u) a b
 |bl (p q:Bool):Col (.bool p) (.bool q) (b2i p) (b2i q)
inductive Cols:List Ab->List Ab->List Int->List Int->Prop where
 |nil:Cols [] [] [] []
 |cons {u v:Ab} {us vs:List Ab} {a b:Int} {as bs:List Int}:Col u v a b->Cols us vs as bs->Cols (u::us) (v::vs) (a::as) (b::bs)
section
variable {prog:AH}{w:Bc}{A:AQ}{s:Ac}{Q:Bool->Ac->Prop}
theorem col_eq{u v:Ab}{a b:Int}(c:Col u v a b){E:Ab->Ac->Prop}(h:Q (decide (a=b)) s):Aw (Az prog w) A (eqBool u v) Q E s:=by
 cases c with
 |int _ t _ u =>
  refine wpAny_eqBool_int ?_
  rw[show (a == b)=decide (a=b) from by rw[Bool.beq_eq_decide_eq]];exact h
 |bl p q =>
  refine SeqAt.EqAt.bool_bool p q prog w E Q ?_
  have e:(p == q)=decide (b2i p=b2i q):=by cases p <;> cases q <;> decide
  rw[e];exact h
theorem col_lt{u v:Ab}{a b:Int}(c:Col u v a b){E:Ab->Ac->Prop}(h:Q (decide (a<b)) s):Aw (Az prog w) A (oneLt' false u v) Q E s:=by
 cases c with
 |int _ t _ u=>exact kat_one _ _ (lt_int (show W.BoolBack Q (.bool (decide (a<b))) s from h))
 |bl p q=>exact kat_one _ _ (lt_bool (show W.BoolBack Q (.bool (decide (b2i p<b2i q))) s from h))
theorem zhy{bb:Bool}:∀{us vs:List Ab}{as bs:List Int}(i:Nat),Cols us vs as bs->Q (HT.lexLt as bs) s->KatLex prog w A bb false Q (us.zip vs) (i+1) s
 |_,_,_,_,_,.nil,h=>kat_nil h
 |_,_,_,_,i,.cons (a:=a) (b:=b) (as:=as) (bs:=bs) c r,h=>by
  rw[HT.lexLt_cons]at h;refine kat_cons (col_eq c ?_)
  by_cases e:a=b
  .rw[decide_eq_true e];rw[if_pos e]at h;exact kat_yes (zhy (i+1) r h)
  .rw[decide_eq_false e];rw[if_neg e]at h;refine kat_no ?_
   rw[show (bb && (i+1 == 0))=false by simp];exact col_lt c h
theorem kat_cols0{us vs:List Ab}{as bs:List Int}{a b:Int}{t u:Tok}(r:Cols us vs as bs)(h:Q (HT.lexLt (a::as) (b::bs)) s):KatLex prog w A true false Q ((Value.int a t::us).zip (Value.int b u::vs)) 0 s:=by
 rw[HT.lexLt_cons]at h;refine kat_cons (col_eq (.int a t b u) ?_)
 by_cases e:a=b
 .rw[decide_eq_true e];rw[if_pos e]at h;exact kat_yes (zhy 0 r h)
 .rw[decide_eq_false e];rw[if_neg e]at h;exact kat_no (oneLt_int h)
end
end RK
namespace L2
open PySem PySem.Spec PyProof.Rows
section
variable {X:Cx}{k:Nat}{f:Addr}{fd:Bx}{ps:List Str}{sp:Sp}{pins:List (Addr×Obj)}{σ:St}{H0:Hp}{Q:VK}
theorem Inv.adopt{H:Hp}{s:Ac}{D:Addr}{o:HO}{h':Heap}{t':Nat}(I:Inv X pins σ H s)(fb:FpOk X pins H D)(hk:∀b u, b ≠ D -> s.heap.get? b=some u -> h'.get? b=some u)(heo:∃u, h'.get? D=some u)
  (new:ObjOk X.prog X.w (upd H D o) h' D o):Inv X pins σ (upd H D o) { s with heap:=h',toks:=t' }:=by
 have hn:=fb.1;have nit:∀b u,H b=some u->b≠D:=λb u e z=>by rw[z,hn]at e;cases e
 refine I.step (g':=s.gens) (d':=s.drawn) (ch:=[D]) (λb hb=>?_) (λb u _ _ hc e _=>hk b u (λz=>hc (by simp[z])) e) (λb u _ _ hc e _=>⟨u.slots,hk b u (λz=>hc (by simp[z])) e⟩)
  (λb u hc _ n=>by rw[zak (λz=>hc (by simp[z]))];exact n)
  (λb u hc e=>⟨u,hk b u (λz=>hc (by simp[z])) e⟩) (λb xs e=>by rw[zak (nit _ _ e)];exact e) (λb u xs e=>by rw[zak (nit _ _ e)];exact e) (λb ps e=>⟨#[],by rw[zak (nit _ _ e),e];simp⟩) (λm hm=>?_) (λb u e=>?_) I.bare
 .have e:b=D:=by simpa using hb
  subst e;exact⟨fb.2.2.2.1,fb.2.1,fb.2.2.2.2.1,fb.2.2.2.2.2⟩
 .obtain⟨u,es,ep,ho,r⟩:=hm;exact⟨u,es,ep,hk _ u (Cb fb.2.1) ho,r⟩
 .by_cases hb:b=D
  .subst hb;rw[zaa]at e;cases e;exact new
  .rw[zak hb]at e;refine (I.hok b u e).stay (λc v hc q=>hk c v ?_ q) (λc q=>by rw[zak (nit _ _ q)];exact q) λc xs q=>by rw[zak (nit _ _ q)];exact q
   rcases hc with z |z
   .rw[z];exact nit b u e
   .exact nit c _ z
theorem zkH{H:Hp}{s:Ac}{Q:VK}{us:List Ab}{vs:List V}{E:Ab -> Ac -> Prop}(F:FnOk X.prog X.w X.K X.mg X.base CX0 k f fd ps sp)(hr:Room (k + 1 + 1) X.A)(hb:Binds X.K fd ps [])
  (I:Inv X pins σ H s) (r:Vals vs us) (h:sp vs H Q E0):Aw (Az X.prog X.w) X.A.in1.in1 (call (.ref f) us) (EP X pins σ Q) E s:=by
 have hl:(us++[]).length=ps.length:=by rw[AX,<- r.length];exact F.len _ _ _ _ h
 have hb':=hb s us I.kIn hl;rw[AX]at hb';refine wpAny_call (codeAny_mono (F.run X.A.in1.in1 X.stack s H ⟨us,[]⟩ us vs Q E0 hr.in1.in1 I.env0.in1.in1 hb' r h) λr s' hq=>?_)
 cases r with
 |error e=>exact BD hq
 |ok fl =>
  cases fl with
  |ret u=>exact I.after hq
  |next=>exact BD hq
  |brk=>exact BD hq
  |cont=>exact BD hq
noncomputable def zhQ(X:Cx)(σ:St)(H0:Hp)(f:Addr)(xs:List V)(κV:Nat->List V):Prop:=∀(pins:List (Addr×Obj)) (i:Nat) (x:V) (u:Ab) (H:Hp) (s:Ac),xs[i]?=some x->Same H0 H->Inv X pins σ H s->RelV x u ->
 Aw (Az X.prog X.w) X.A.in1.in1 (call (.ref f) [u]) (EP X pins σ λv H'=>Same H H'/\∃a,v=.ref a/\SqT X.K H' a (κV i)) (λ_ _=>False) s
theorem zlM{xs:List V}{κV:Nat -> List V}(F:FnOk X.prog X.w X.K X.mg X.base CX0 k f fd ps sp)(hr:Room (k + 1 + 1) X.A)(hb:Binds X.K fd ps [])
  (turn:∀i x H,xs[i]?=some x->Same H0 H->sp [x] H (λv H'=>Same H H'/\∃a,v=.ref a/\SqT X.K H' a (κV i)) E0):zhQ X σ H0 f xs κV :=
 λ_ i x _ H _ hx hS I ru=>zkH F hr hb I (.cons ru .nil) (turn i x H hx hS)
inductive VCol:V->V->Int->Int->Prop where
 |int (a b:Int):VCol (.int a) (.int b) a b
 |bl (p q:Bool):VCol (.bl p) (.bl q) (b2i p) (b2i q)
inductive VCols:List V->List V->List Int->List Int->Prop where
 |nil:VCols [] [] [] []
 |cons {x y:V} {xs ys:List V} {a b:Int} {as bs:List Int}:VCol x y a b->VCols xs ys as bs->VCols (x::xs) (y::ys) (a::as) (b::bs)
theorem VCols.vals:∀{xs ys:List V}{as bs:List Int}{us vs:List Ab},VCols xs ys as bs->Vals xs us->Vals ys vs->RK.Cols us vs as bs
  |_,_,_,_,_,_,.nil,.nil,.nil=>.nil
  |_, _, _, _, _, _, .cons c r, .cons h t, .cons g q => .cons (by
      cases c with
      |int a b=>obtain⟨t,rfl⟩:=h;obtain⟨u,rfl⟩:=g;exact .int _ _ _ _
      |bl p q=>cases h;cases g;exact .bl _ _) (r.vals t q)
structure SK (X:Cx) (pins:List (Addr×Obj)) (σ:St) (H:Hp) (s:Ac) (D st:Addr) (e:Nat) (κV:Nat->List V) (ks:List Addr):Prop where
 inv:Inv X pins σ H s
 fd:FpOk X pins H D
 fs:FpOk X pins H st
 ne:st≠D
 hd:s.heap.get? D=some (A7 "list" #[] e)
 hs:∃c,s.heap.get? st=some (A7 "list" (ks.map Value.ref).toArray c)
 hk:∀i a,ks[i]?=some a->SqT X.K H a (κV i)
theorem zhC{M:Model}{A:AQ}{E:Ab -> Ac -> Prop}{body:Ab -> PUnit -> Sem (ForInStep PUnit)}{vs:List Ab}(P:Nat -> Ac -> Prop)
  (hb:∀i x s,vs[i]?=some x->P i s->Aw M A (body x ⟨⟩) (λr s'=>r=.yield ⟨⟩/\P (i+1) s') E s):∀(r:List Ab) (i:Nat) (s:Ac),vs.drop i=r->i<=vs.length->P i s ->
   Aw M A (forIn r PUnit.unit body) (λ_ s'=>P vs.length s') E s
 |[],i,s,hr,hi,h=>by
  rw[List.forIn_nil];have:vs.length<=i:=List.drop_eq_nil_iff.mp hr;exact Aj (by rw[show vs.length=i by lia];exact h)
 |x::r,i,s,hr,hi,h=>by
  have hx:vs[i]?=some x:=by have:=congrArg (·[0]?) hr;simpa using this
  have hlt:i<vs.length:=(Ae.mp hx).1;have hr':vs.drop (i+1)=r:=by rw[<- List.tail_drop,hr];rfl
  rw[List.forIn_cons];refine Ad (By (hb i x s hx h) (λq s' hq=>?_) λ_ _ e=>e);obtain⟨rfl,h'⟩:=hq;exact zhC P hb r (i+1) s' hr' hlt h'
end
section
variable {X:Cx}{pins:List (Addr×Obj)}{σ:St}{H:Hp}{s:Ac}{D st:Addr}{e:Nat}{κV:Nat->List V}{ks:List Addr}{E:Ab->Ac->Prop}
noncomputable def zek(X:Cx)(G:Array Nat->Prop)(ks vs:List Ab)(E:Ab->Ac->Prop)(s:Ac):Prop :=
 Aw (Az X.prog X.w) X.A.in1.in1 (keyKind' ks.toArray) (λκ s0=>s0=s /\
  Aw (Az X.prog X.w) X.A.in1.in1 ((sortRuns').run (SortSt.mk' κ (ks.toArray.zip vs.toArray) #[] 7 none)) (λr s'=>s'=s/\BX r.2=none/\∃p:Array Nat,G p/\p.size=vs.length/\Aq r.2=p.map (BI (ks.toArray.zip vs.toArray))) E s) E s
theorem ziZ{as:List Addr}(I:Inv X pins σ H s):∀{ks:List Addr}{vs:List (List V)}{ns:List Int}, (∀(i:Nat) (a:Addr), ks[i]? = some a -> ∃n r, ns[i]? = some n /\ SqT X.K H a (.int n :: r)) -> ns.length=ks.length ->
  ∃fs:List Ab,W.KatTups s.heap (ks.map Value.ref) fs/\fs.length=ks.length/\∀v∈fs,∃n t,v=Value.int n t
 |[],_,_,_,_=>⟨[],.nil,rfl,λ_ h=>nomatch h⟩
 |a::r,vs,[],_,h=>by cases h
 |a::r,vs,n::ns,hk,h=>by
  obtain⟨m,q,e1,hq⟩:=hk 0 a rfl;obtain⟨fs,t,hl,hi⟩:=ziZ (as:=as) (vs:=vs) I (ks:=r) (ns:=ns) (λi b hb=>by simpa using hk (i+1) b (by simpa using hb)) (by simpa using h);obtain⟨its,rv,⟨o,ho,hc,c,hd⟩,_⟩:=I.tuple hq
  cases rv with
  |cons rx rr =>
   obtain⟨t1,rfl⟩:=rx;refine⟨Value.int m t1::fs,.cons ho hc hd (by simp) t,by simp[hl],λv hv=>?_⟩;rcases AW.mp hv with rfl |hv
   .exact⟨_,_,rfl⟩
   .exact hi v hv
end
section
variable {X:Cx}{k:Nat}{f:Addr}{fd:Bx}{ps:List Str}{sp:Sp}{pins:List (Addr×Obj)}{σ:St}{H0 H:Hp}{s:Ac}{D st l:Addr}{e:Nat}{κV:Nat->List V}{ks:List Addr}{E:Ab->Ac->Prop}{G:Array Nat->Prop}{xs:List V}{vs:List Ab}{Q:VK}
noncomputable def outV(xs:List V)(p:Array Nat):List V:=p.toList.map λi=>xs.getD i .non
theorem zij{xs:List V}{vs:List Ab}(r:Vals xs vs)(i:Nat)(hi:i<xs.length):RelV (xs.getD i .non) (vs.getD i BY):=by
 have hx:xs[i]?=some xs[i]:=by simp[hi]
 obtain⟨u,hu,ru⟩:=r.get hx;rw[A6,hx,A6,hu];exact ru
theorem zeX{xs:List V}{vs:List Ab}(r:Vals xs vs):∀(l:List Nat),(∀i∈l,i<xs.length)->Vals (l.map λi=>xs.getD i .non) (l.map λi=>vs.getD i BY)
 |[],_=>.nil
 |i::t,h=>.cons (zij r i (h i Av)) (zeX r t λj hj=>h j (As _ hj))
theorem zdX{p:Array Nat}:(outV xs p).length=p.size:=by unfold outV;simp
theorem zkE{P:PySem.Fin -> Ac -> Prop}{so:AF}{out:List Ab}{ys:List V}(K:SK X pins σ H s D st e κV ks)(hks:ks.length <= sizeLine)(ho:(Aq so).map (·.2)=out.toArray)(ry:Vals ys out)(hz:ys.length <= sizeLine)(hf:BX so=none)
  (h:∀s',Inv X pins σ (upd H D (.lst ys)) s'->P (.done (.ret .none)) s'):Aw (Az X.prog X.w) X.A.in1.in1 (ksk_tail D false e (.ref st) so) P E s:=by
 obtain⟨c,hc⟩:=K.hs;have hzo:out.length<=sizeLine:=by rw[<- ry.length];exact hz
 have s1:=BB s.heap st (AB λ_=>(#[]:Array Ab));have hd1:(s.heap.update st (AB λ_=>(#[]:Array Ab))).get? D=some (A7 "list" #[] e):=(s1.2 D K.ne.symm).trans K.hd;have s2:=BB (s.heap.update st (AB λ_=>(#[]:Array Ab))) D (AB λ_=>out.toArray);obtain⟨c2,hc2⟩:∃c2,((s.heap.update st (AB λ_=>(#[]:Array Ab))).update D (AB λ_=>out.toArray)).get? D=some (A7 "list" out.toArray c2):=⟨_,CA hd1 λ_=>out.toArray⟩;unfold ksk_tail
 try dsimp only
 rw[ho];refine Ad (C8 hc rfl ?_ (by simpa using hks) (AU _));refine Ad (wpAny_letGo ?_);refine Ad (seqEpoch_at hd1 rfl ?_);simp only[B8,if_false];refine Ad (C8 hd1 rfl ?_ (AU _) (by simp;lia));rw[hf];simp only[bne_self_eq_false,B8,if_false];refine Aj (h _ ?_);have I1:Inv X pins σ H { s with heap:=s.heap.update st (AB λ_=>(#[]:Array Ab)) }:=K.inv.moved (t':=s.toks) K.fs (λb o hb e=>(s1.2 b λz=>hb (by simp[z])).trans e);exact I1.adopt (t':=s.toks) K.fd (λb u hb q=>(s2.2 b hb).trans q) ⟨_,hc2⟩ ⟨hz,out,c2,ry,hc2⟩
theorem zlp{P:PySem.Fin -> Ac -> Prop}(K:SK X pins σ H s D st e κV ks)(hl:ks.length=vs.length)(r:Vals xs vs)(hz:xs.length <= sizeLine)(hG:∀p, G p -> ∀i ∈ p.toList, i < xs.length)
  (h0:vs.length<2->G (Cd (A0 vs.length))) (core:2<=vs.length->zek X G (ks.map Value.ref) vs E s)
  (h:∀p s',G p->p.size=xs.length->Inv X pins σ (upd H D (.lst (outV xs p))) s'->P (.done (.ret .none)) s'):Aw (Az X.prog X.w) X.A.in1.in1 (ksk_end D false vs.toArray e (.ref st) (ks.map Value.ref).toArray) P E s:=by
 have hlx:xs.length=vs.length:=r.length;have hl':(ks.map Value.ref).length=vs.length:=by simp[hl]
 have fin:∀(p:Array Nat) (so:AF),G p->p.size=vs.length->Aq so=p.map (BI ((ks.map Value.ref).toArray.zip vs.toArray))->BX so=none->Aw (Az X.prog X.w) X.A.in1.in1 (ksk_tail D false e (.ref st) so) P E s:=λp so g hp ha hf =>
  zkE K (by lia) (W.kat_snds hl' ha) (ys:=outV xs p) (zeX r _ (hG p g)) (by rw[zdX];lia) hf λs' I'=>h p s' g (by lia) I'
 unfold ksk_end
 try dsimp only
 simp only[B8,if_false]
 by_cases h2:vs.length<2
 .have h2':vs.toArray.size<2:=by simpa using h2
  rw[if_pos h2',if_pos h2'];refine Ad (Aj ?_);show Aw (Az X.prog X.w) X.A.in1.in1 (pure ((),SortSt.mk' general' ((ks.map Value.ref).toArray.zip vs.toArray) #[] 7 none) >>= _) P E s;refine Ad (Aj ?_)
  try dsimp only
  refine fin (Cd (A0 vs.length)) _ (h0 h2) (by simp) ?_ rfl;have:=W.kas_range ((ks.map Value.ref).toArray.zip vs.toArray);rw[show ((ks.map Value.ref).toArray.zip vs.toArray).size=vs.length by simp[hl]]at this;exact this.symm
 .have h2':¬ vs.toArray.size<2:=by simpa using h2
  rw[if_neg h2',if_neg h2'];refine Ad (By (core (by lia)) (λκ s0 hk=>?_) λ_ _ z=>z);obtain⟨rfl,hk⟩:=hk;refine Ad (By hk (λr' s' hr=>?_) λ_ _ z=>z);obtain⟨rfl,hf,p,g,hp,ha⟩:=hr;obtain⟨⟨⟩,so⟩:=r'
  try dsimp only
  exact fin p so g hp ha hf
theorem zkF{P:PySem.Fin -> Ac -> Prop}(F:zhQ X σ H0 f xs κV)
    (K:SK X pins σ H0 s D st e κV []) (r:Vals xs vs) (hz:xs.length<=sizeLine)
    (h:∀H' s' ks,ks.length=vs.length->Same H0 H'->SK X pins σ H' s' D st e κV ks->Aw (Az X.prog X.w) X.A.in1.in1 (ksk_end D false vs.toArray e (.ref st) (ks.map Value.ref).toArray) P E s') :
    Aw (Az X.prog X.w) X.A.in1.in1 (ksk_rest D (.ref f) false vs.toArray e (.ref st)) P E s:=by
  have hlx:xs.length=vs.length:=r.length;unfold ksk_rest;refine Ad (CN ?_);rw[List.forIn_toArray];refine Ad (By (zhC (vs:=vs) (λi s'=>∃H' ks,ks.length=i/\Same H0 H'/\SK X pins σ H' s' D st e κV ks) (λi x s1 hx hP=>?_) vs 0 s rfl (AU _) ⟨H0,[],rfl,Same.refl _,K⟩) (λ_ s' hd=>?_) λ_ _ z=>z)
  . obtain⟨H1,ks,hkl,hS,K1⟩:=hP;have hi:i<xs.length:=by rw[hlx];exact (Ae.mp hx).1
    have hxx:xs[i]?=some xs[i]:=by simp[hi]
    obtain⟨u,hu,ru⟩:=r.get hxx;rw[hx]at hu
    cases hu
    obtain⟨c,hc⟩:=K1.hs
    have I1:Inv X (pins ++ zdk [D, st] s1.heap) σ H1 s1 := K1.inv.pinned (λb hb => by
        rcases AW.mp hb with rfl |hb
        . exact K1.fd
        . rw[Ar.mp hb];exact K1.fs) (λb hb=>by
        rcases AW.mp hb with rfl |hb
        . exact⟨_,K1.hd,zcB⟩
        . rw[Ar.mp hb];exact⟨_,hc,zcB⟩)
    refine Ad (wpAny_attempt (By (F _ i _ _ H1 _ hxx hS I1 ru) (λv s2 hv=>?_) λ_ _ hF=>hF.elim));obtain⟨y,H2,I2,ry,hS2,a,ey,ka⟩:=hv;subst ey
    cases (show v=Value.ref a from ry)
    have p1:=I2.pin (D,A7 "list" #[] e) (Au _ (Au _ (zaS (by simp) K1.hd)));have p2:=I2.pin (st,A7 "list" (ks.map Value.ref).toArray c) (Au _ (Au _ (zaS (by simp) hc)));have sb:=BB s2.heap st (AB (·.push (Value.ref a)));have ea:(ks.map Value.ref).toArray.push (Value.ref a)=((ks++[a]).map Value.ref).toArray:=by simp
    obtain⟨c2,hc2⟩:∃c2,(s2.heap.update st (AB (·.push (Value.ref a)))).get? st=some (A7 "list" ((ks++[a]).map Value.ref).toArray c2):=⟨_,by rw[<- ea];exact CA p2.1 (·.push (Value.ref a))⟩
    try dsimp only
    refine Ad (C8 p2.1 rfl ?_ (by simp;lia) (by simp;lia));refine Aj ⟨rfl,H2,ks++[a],by simp[hkl],hS.trans hS2,I2.unpinned.moved (t':=s2.toks) (K1.fs.again p2.2.1) (λb o hb e=>(sb.2 b λz=>hb (by simp[z])).trans e),K1.fd.again p1.2.1,K1.fs.again p2.2.1,K1.ne,(sb.2 D K1.ne.symm).trans p1.1,⟨c2,hc2⟩,λj b hj=>?_⟩;rcases AY j ks.length with hjl |hjl
    . rw[Ay hjl]at hj;exact hS2.seqT (K1.hk j b hj)
    . rw[AK hjl]at hj
      have hj0:j-ks.length=0:=by have:=(Ae.mp hj).1;simp at this;lia
      rw[hj0]at hj
      cases AJ hj
      rw[show j=i by lia];exact ka
  . obtain⟨H',ks,hkl,hS,K'⟩:=hd;obtain⟨c,hc⟩:=K'.hs
    try dsimp only
    refine Ad (listItems_at hc rfl ?_);exact h H' s' ks hkl hS K'
theorem zkD{P:PySem.Fin -> Ac -> Prop}{c0:Nat}(F:zhQ X σ H0 f xs κV)
  (I:Inv X pins σ H0 s) (fb:FpOk X pins H0 D) (hd:s.heap.get? D=some (A7 "list" vs.toArray c0)) (r:Vals xs vs) (hz:xs.length<=sizeLine)
  (h:∀e H' s' ks st,ks.length=vs.length->Same H0 H'->SK X pins σ H' s' D st e κV ks->Aw (Az X.prog X.w) X.A.in1.in1 (ksk_end D false vs.toArray e (.ref st) (ks.map Value.ref).toArray) P E s') :
  Aw (Az X.prog X.w) X.A.in1.in1 (ksk_tree D (.ref f) false) P E s:=by
 have hlx:xs.length=vs.length:=r.length;have s1:=BB s.heap D (AB λ_=>(#[]:Array Ab));obtain⟨e1,ho1⟩:∃e1,(s.heap.update D (AB λ_=>(#[]:Array Ab))).get? D=some (A7 "list" #[] e1):=⟨_,CA hd λ_=>#[]⟩;have hDl:D<s.heap.objs.size:=AD hd;unfold ksk_tree;refine Ad (listItems_at hd rfl ?_);refine Ad (C8 hd rfl ?_ (by simp;lia) (AU _));refine Ad (seqEpoch_at ho1 rfl ?_);refine Ad (wpAny_newTuple ?_ (by simp;lia));refine Ad (wpAny_newList ?_ (AU _));refine Bo ?_
 have I1:Inv X pins σ H0 { s with heap:=s.heap.update D (AB λ_=>(#[]:Array Ab)) }:=I.moved (t':=s.toks) fb (λb o hb e=>(s1.2 b λz=>hb (by simp[z])).trans e);have keep:∀b o,(s.heap.update D (AB λ_=>(#[]:Array Ab))).get? b=some o->(((s.heap.update D (AB λ_=>(#[]:Array Ab))).push (A7 "tuple" vs.toArray.toList.toArray 0)).push (A7 "list" #[] 0)).get? b=some o:=λb o q=>Ak _ (Ak _ q)
 have hsz:((s.heap.update D (AB λ_=>(#[]:Array Ab))).push (A7 "tuple" vs.toArray.toList.toArray 0)).objs.size=s.heap.objs.size+1:=by rw[size_push',Heap.size_update]
 have I2:Inv X pins σ H0 { s with heap:=((s.heap.update D (AB λ_=>(#[]:Array Ab))).push (A7 "tuple" vs.toArray.toList.toArray 0)).push (A7 "list" #[] 0) }:=I1.kept (t':=s.toks) keep;show Aw (Az X.prog X.w) X.A.in1.in1 (ksk_rest D (.ref f) false vs.toArray _ (.ref ((s.heap.update D (AB λ_=>(#[]:Array Ab))).push (A7 "tuple" vs.toArray.toList.toArray 0)).objs.size)) P E { s with heap:=((s.heap.update D (AB λ_=>(#[]:Array Ab))).push (A7 "tuple" vs.toArray.toList.toArray 0)).push (A7 "list" #[] 0) };rw[hsz];have hss:(((s.heap.update D (AB λ_=>(#[]:Array Ab))).push (A7 "tuple" vs.toArray.toList.toArray 0)).push (A7 "list" #[] 0)).get? (s.heap.objs.size+1)=some (A7 "list" #[] 0):=by rw[<- hsz];exact AM _ rfl
 exact zkF F ⟨I2,fb,I.fpOk (Cm _) (I.hok.fresh (Cm _)),Nat.ne_of_gt (Nat.lt_succ_of_lt hDl),keep _ _ ho1,⟨0,by simpa using hss⟩,λi a ha=>by simp at ha⟩ r hz λH' s' ks a b c=>h _ H' s' ks _ a b c
end
section
variable {X:Cx}{k:Nat}{f:Addr}{fd:Bx}{ps:List Str}{sp:Sp}{pins:List (Addr×Obj)}{σ:St}{H0:Hp}{s:Ac}{l:Addr}{κV:Nat->List V}{G:Array Nat->Prop}{xs:List V}{Q:VK}
theorem zic(F:zhQ X σ H0 f xs κV)
  (hl:SqL X.K H0 l xs) (hG:∀p,G p->∀i∈p.toList,i<xs.length) (h0:xs.length<2->G (Cd (A0 xs.length)))
  (core:∀{vs:List Ab} {ks:List Addr} {H':Hp} {s':Ac} {D st:Addr} {e:Nat},Vals xs vs->SK X pins σ H' s' D st e κV ks->ks.length=vs.length->2<=vs.length->zek X G (ks.map Value.ref) vs X.xe s')
  (hQ:∀p D H',G p->p.size=xs.length->H0 D=none->Same H0 H'->H' D=some (.lst (outV xs p))->Q (.ref D) H') (I:Inv X pins σ H0 s) :
  Aw (Az X.prog X.w) X.A (call (.builtin "sorted") [.ref l] [(Br "key",.ref f)]) (EP X pins σ Q) X.xe s:=by
 obtain⟨vs,r,pl,hz⟩:=I.list hl;have hlx:xs.length=vs.length:=r.length;refine call_function_entry_kw kind_sorted plain_sorted entry_sorted (ksk_s1 _ _) ?_
 unfold Builtin.«sorted»;refine Ad (m:=checkCount "sorted" 1 1 _) (Aj ?_);refine Ad (collect_list pl.isList ?_ (by first |lia | (rw[Ap];lia) | (simp;lia)));refine Ad (wpAny_newList ?_ (by first |lia | (rw[Ap];lia) | (simp;lia)));have hsz:((s.heap.push (A7 "list" #[] 0)).update s.heap.objs.size (AB (·++vs.toArray))).objs.size=s.heap.objs.size+1:=by rw[Heap.size_update,size_push']
 have hoL:(((s.heap.push (A7 "list" #[] 0)).update s.heap.objs.size (AB (·++vs.toArray))).push (A7 "list" vs.toArray 0)).get? (s.heap.objs.size+1)=some (A7 "list" vs.toArray 0):=by rw[<- hsz];exact AM _ rfl
 have keep:∀b o,s.heap.get? b=some o->(((s.heap.push (A7 "list" #[] 0)).update s.heap.objs.size (AB (·++vs.toArray))).push (A7 "list" vs.toArray 0)).get? b=some o:=λb o q=>by have hlt:b<s.heap.objs.size:=AD q;rw[Heap.get?_push_ne _ _ _ (by rw[hsz];exact A4 (Nat.lt_succ_of_lt hlt)),Heap.get?_update_ne _ _ _ _ (A4 hlt),Heap.get?_push_ne _ _ _ (A4 hlt)];exact q
 show Aw _ _ _ _ _ { s with heap:=((s.heap.push (A7 "list" #[] 0)).update s.heap.objs.size (AB (·++vs.toArray))).push (A7 "list" vs.toArray 0) };rw[hsz];refine Ad (Bo (wpAny_call_entry_kw slot_list_sort ⟨_,hoL,rfl⟩ entry_list_sort ?body (ksk_l1 _ _)))
 case body =>
  show Aw (Az X.prog X.w) X.A.in1.in1 (Builtin.«list.sort» ⟨[.ref (s.heap.objs.size+1)],[(Br "key",.ref f)]⟩) _ _ _;rw[ksk_t1];have I1:Inv X pins σ H0 { s with heap:=((s.heap.push (A7 "list" #[] 0)).update s.heap.objs.size (AB (·++vs.toArray))).push (A7 "list" vs.toArray 0) }:=I.kept (t':=s.toks) keep;have hDn:H0 (s.heap.objs.size+1)=none:=I.hok.fresh (Cm _);refine zkD F I1 (I.fpOk (Cm _) hDn) hoL r hz λe H' s' ks st hks hS K=>?_
  refine zlp K hks r hz hG (λh2=>by rw[<- hlx];exact h0 (by lia)) (core r K hks) λp s2 g hp I2=>⟨_,rfl,?_⟩
  refine Aj ⟨_,rfl,.ref (s.heap.objs.size+1),_,I2,rfl,hQ p _ _ g hp hDn (λb o q=>?_) zaa⟩;rw[zak (zal q hDn)];exact hS b o q
end
section
variable {X:Cx}{x:Str}{p pos kp kpos:Pos}{e:Expr}{te:TE}{k:Nat}{f:Addr}{fd:Bx}{ps:List Str}{sp:Sp}{fn:Str}
noncomputable def tMinK(K:W.Frag)(te:TE)(sp:Sp):TE:=λσ H Q=>te σ H λv H1=>∃l xs,∃ κ:Nat->List Int,[v]=[V.ref l]/\SqL K H1 l xs/\0<xs.length /\
 (∀i x H2,xs[i]?=some x->Same H1 H2->sp [x] H2 (λv H'=>Same H2 H'/\∃a,v=.ref a/\SqT K H' a ((κ i).map V.int)) E0)/\∀i x H',xs[i]?=some x->Least κ xs.length i->Same H1 H'->Q x H'
theorem zkR (F:FnOk X.prog X.w X.K X.mg X.base CX0 k f fd ps sp) (hr:Room (k + 1) X.A) (hb:Binds X.K fd ps []) (hg:Gl X "min") (hm:X.mg "min" = none) (hgf:Gl X fn) (hmf:X.mg fn=some (.ref f)) (he:PE X e te)
  (hdb:(fn == ("__debug__" : Str))=false:=by decide) (hse:Bq [e] X.env=[(false,eval e X.env)]:=by rfl) (hh:X.calm=true:=by rfl)
  (hall:(Ds pos (Ck [⟨some "key",.Name fn kp,kpos⟩] X.env)).all (·.1.isSome)=true:=by rfl) (hkw:(Ds pos (Ck [⟨some "key",.Name fn kp,kpos⟩] X.env)).any (·.1.isNone)=false:=by rfl)
  (hks:(Ds pos (Ck [⟨some "key",.Name fn kp,kpos⟩] X.env)).filterMap (·.1)=[Br "key"]:=by rfl) :
  PE X (.Call (.Name "min" p) [e] [⟨some "key",.Name fn kp,kpos⟩] pos) (tMinK X.K te sp):=by
 intro pins s σ H Q I h;refine CW (zd5 I hg hm boot_min ?_ (by decide) (by decide))
 refine callWith_kw (thn (zah he zac (hs:=hse) pos pins s σ H (λvs H1=>∃l xs,∃ κ:Nat->List Int,vs=[V.ref l]/\SqL X.K H1 l xs/\0<xs.length /\
  (∀i x H2,xs[i]?=some x->Same H1 H2->sp [x] H2 (λv H'=>Same H2 H'/\∃a,v=.ref a/\SqT X.K H' a ((κ i).map V.int)) E0)/\∀i x H',xs[i]?=some x->Least κ xs.length i->Same H1 H'->Q x H') I ?_) λus s1 ⟨vs,H1,I1,r,q⟩=>?_) (by rw[hse];rfl) (by rw[hse];rfl) hall hkw
 .show te σ H _;exact h
 .obtain⟨l,xs,κ,rfl,hq,hne,turn,hQ⟩:=q;obtain⟨u,rfl,ru⟩:=Vals.one r
  cases (show u=Value.ref l from ru)
  refine thn (ziH (nm:=some "key") (kpos:=kpos) (zdb (v:=.ref f) hgf hmf rfl hdb) zkk pos pins s1 σ H1 (λzs H2=>zs=[.ref f]/\H2=H1) I1 ⟨rfl,rfl⟩) λws s2 ⟨zs,H2,I2,rz,q2⟩=>?_
  obtain⟨rfl,rfl⟩:=q2;obtain⟨u2,rfl,ru2⟩:=Vals.one rz
  cases (show u2=Value.ref f from ru2)
  rw[hks];exact zjm (I1.ok.hd hh) F hr hb turn hq hne hQ I2
end
end L2
namespace TS
open PySem PyProof.Rows
noncomputable def zca:Bool->Keyed->Array Keyed->Nat->Nat->Nat->StateT AF Sem (Option Nat):=sortPriv% PySem.Builtin.gallop
noncomputable def zfq:Array Keyed->Array Keyed->StateT AF Sem (Array Keyed):=sortPriv% PySem.Builtin.mergeLo
noncomputable def zfr:Array Keyed->Array Keyed->StateT AF Sem (Array Keyed):=sortPriv% PySem.Builtin.mergeHi
structure LtOk (M:Model) (A:AQ) (E:Ab->Ac->Prop) (s:Ac) (kd:Cr) (S:Keyed->Prop) (L:Keyed->Keyed->Bool):Prop where
 lt:∀x y,S x->S y->∀(st:AF) (Q:Option Bool->AF->Prop),kindOf st=kd->Q (some (L x y)) st->wpS M A E s (lt' x y) Q st
 tr:∀x y z,S x->S y->S z->L y x=false->L z y=false->L z x=false
 as:∀x y,S x->S y->L x y=true->L y x=false
section
variable {M:Model}{A:AQ}{E:Ab->Ac->Prop}{s:Ac}{kd:Cr}{S:Keyed->Prop}{L:Keyed->Keyed->Bool}
theorem zas{arr:Array Keyed}{i:Nat}{x:Keyed}{st:AF}{Q:Keyed->AF->Prop}(h:arr[i]?=some x)(q:Q x st):wpS M A E s (elem' arr i) Q st:=by rw[elem'_eq,h];exact Ao q
theorem zbr (O : LtOk M A E s kd S L){left : Bool}{key : Keyed}{arr : Array Keyed}{base n hint : Nat}{b : Nat → Bool}{Q : Option Nat → AF → Prop}{st : AF}(hk : kindOf st = kd) (hS : S key)
    (hb:∀ i,i<n→∃ x,arr[base+i]?=some x∧S x∧(if left=true then L x key else !L key x)=b i) (mono:∀ i j,i≤j→j<n→b j=true→b i=true) (hh:hint<n)
    (hQ:∀ k,k≤n→(∀ i,i<k→b i=true)→(∀ i,k≤i→i<n→b i=false)→Q (some k) st):wpS M A E s (zca left key arr base n hint) Q st:=by
  have bey : ∀ i, i < n → ∀ (Q' : Option Bool → AF → Prop), Q' (some (b i)) st → wpS M A E s ((λi => do
        let x ← elem' arr (base+i)
        if left=true then lt' x key
          else do
            let r ← lt' key x
            pure (Option.map (λx=>!x) r)) i) Q' st:=λi hi Q' q=>by
    obtain⟨x,e,sx,eb⟩:=hb i hi
    refine Ah (zas e ?_)
    cases left with
    | true =>
      rw[if_pos rfl] at eb ⊢
      exact O.lt x key sx hS st Q' hk (by rw[eb];exact q)
    | false =>
      rw[if_neg (by simp)] at eb ⊢
      refine Ah (O.lt key x hS sx st _ hk (Ao ?_))
      show Q' (some (!L key x)) st
      rw[eb];exact q
  refine Ah (bey hint hh _ ?_)
  dsimp only
  cases hbh:b hint with
  | true =>
    rw[if_pos rfl]
    refine Ah (B7 (Bn (I:=λx c st'=>st'=st∧∃ la of,c=(none,la,of)∧la<n - hint∧la<of∧x+1≤of∧b (hint+la)=true)
      (Q:=λc st'=>st'=st∧∃ la of,c=(none,la,of)∧la<n - hint∧la<of∧b (hint+la)=true∧(of<n - hint→b (hint+of)=false)) ?_ ?_ ⟨rfl,0,1,rfl,by lia,by lia,by lia,hbh⟩) ?_)
    . rintro x c st' _ hx ⟨rfl,la,of,rfl,g1,g2,g3,g4⟩
      dsimp only
      by_cases hge:of ≥ n - hint
      . rw[if_pos hge]
        exact Ao ⟨rfl,la,of,rfl,g1,g2,g4,λz=>absurd z (by lia)⟩
      . rw[if_neg hge]
        refine Ah (bey (hint+of) (by lia) _ ?_)
        dsimp only
        cases hbo:b (hint+of) with
        | true =>
          rw[if_neg (by simp)]
          exact Ao ⟨rfl,of,2*of+1,rfl,by lia,by lia,by lia,hbo⟩
        | false =>
          rw[if_pos (by simp)]
          exact Ao ⟨rfl,la,of,rfl,g1,g2,g4,λ_=>hbo⟩
    . rintro c st' ⟨rfl,la,of,rfl,g1,g2,g3,g4⟩
      exact⟨rfl,la,of,rfl,g1,g2,g4,λz=>absurd z (by simp at g3;lia)⟩
    . rintro c st' ⟨rfl,la,of,rfl,g1,g2,g3,g4⟩
      dsimp only
      have hlo:∀ i,i<hint+la+1→b i=true:=λi hi=>mono i (hint+la) (by lia) (by lia) g3
      have hhi:∀ i,hint+min of (n - hint)≤i→i<n→b i=false:=λi h1 h2=>by
        by_cases ho:of<n - hint
        . cases q:b i with
          | false=>rfl
          | true =>
            have:=mono (hint+of) i (by lia) h2 q
            rw[g4 ho] at this;cases this
        . exact absurd h2 (by lia)
      refine Ah (B7 (Bn (I:=λx c z=>z=st'∧∃ lo hi,c=(none,lo,hi)∧lo≤hi∧hi≤n∧(hi - lo)+x≤n∧(∀ i,i<lo→b i=true)∧∀ i,hi≤i→i<n→b i=false)
        (Q:=λc z=>z=st'∧∃ k,c=(none,k,k)∧k≤n∧(∀ i,i<k→b i=true)∧∀ i,k≤i→i<n→b i=false) ?_ ?_ ⟨rfl,hint+la+1,hint+min of (n - hint),rfl,by lia,by lia,by lia,hlo,hhi⟩) ?_)
      . rintro x c st'' _ hx ⟨rfl,lo,hi,rfl,g1,g2,g3,g4,g5⟩
        dsimp only
        by_cases hge:lo ≥ hi
        . rw[if_pos hge]
          have e:lo=hi:=by lia
          subst e
          exact Ao ⟨rfl,lo,rfl,g2,g4,g5⟩
        . rw[if_neg hge]
          have hm:lo+(hi - lo) / 2<n:=by lia
          refine Ah (bey _ hm _ ?_)
          dsimp only
          cases hbm:b (lo+(hi - lo) / 2) with
          | true =>
            rw[if_pos rfl]
            refine Ao ⟨rfl,_,_,rfl,by lia,g2,by lia,λi hi'=>?_,g5⟩
            exact mono i _ (by lia) hm hbm
          | false =>
            rw[if_neg (by simp)]
            refine Ao ⟨rfl,_,_,rfl,by lia,by lia,by lia,g4,λi hi1 hi2=>?_⟩
            cases q:b i with
            | false=>rfl
            | true=>rw[mono _ i hi1 hi2 q] at hbm;cases hbm
      . rintro c st'' ⟨rfl,lo,hi,rfl,g1,g2,g3,g4,g5⟩
        have e:lo=hi:=by simp at g3;lia
        subst e
        exact⟨rfl,lo,rfl,g2,g4,g5⟩
      . rintro c st'' ⟨rfl,k,rfl,g1,g2,g3⟩
        exact Ao (hQ k g1 g2 g3)
  | false =>
    rw[if_neg (by simp)]
    refine Ah (B7 (Bn (I:=λx c st'=>st'=st∧∃ la of,c=(none,la,of)∧la<hint+1∧la<of∧x+1≤of∧b (hint - la)=false)
      (Q:=λc st'=>st'=st∧∃ la of,c=(none,la,of)∧la<hint+1∧la<of∧b (hint - la)=false∧(of<hint+1→b (hint - of)=true)) ?_ ?_ ⟨rfl,0,1,rfl,by lia,by lia,by lia,hbh⟩) ?_)
    . rintro x c st' _ hx ⟨rfl,la,of,rfl,g1,g2,g3,g4⟩
      dsimp only
      by_cases hge:of ≥ hint+1
      . rw[if_pos hge]
        exact Ao ⟨rfl,la,of,rfl,g1,g2,g4,λz=>absurd z (by lia)⟩
      . rw[if_neg hge]
        refine Ah (bey (hint - of) (by lia) _ ?_)
        dsimp only
        cases hbo:b (hint - of) with
        | true =>
          rw[if_pos rfl]
          exact Ao ⟨rfl,la,of,rfl,g1,g2,g4,λ_=>hbo⟩
        | false =>
          rw[if_neg (by simp)]
          exact Ao ⟨rfl,of,2*of+1,rfl,by lia,by lia,by lia,hbo⟩
    . rintro c st' ⟨rfl,la,of,rfl,g1,g2,g3,g4⟩
      exact⟨rfl,la,of,rfl,g1,g2,g4,λz=>absurd z (by simp at g3;lia)⟩
    . rintro c st' ⟨rfl,la,of,rfl,g1,g2,g3,g4⟩
      dsimp only
      have hlo:∀ i,i<hint+1 - min of (hint+1)→b i=true:=λi hi=>by
        by_cases ho:of<hint+1
        . exact mono i (hint - of) (by lia) (by lia) (g4 ho)
        . exact absurd hi (by lia)
      have hhi:∀ i,hint - la≤i→i<n→b i=false:=λi h1 h2=>by
        cases q:b i with
        | false=>rfl
        | true =>
          have:=mono (hint - la) i (by lia) h2 q
          rw[g3] at this;cases this
      refine Ah (B7 (Bn (I:=λx c z=>z=st'∧∃ lo hi,c=(none,lo,hi)∧lo≤hi∧hi≤n∧(hi - lo)+x≤n∧(∀ i,i<lo→b i=true)∧∀ i,hi≤i→i<n→b i=false)
        (Q:=λc z=>z=st'∧∃ k,c=(none,k,k)∧k≤n∧(∀ i,i<k→b i=true)∧∀ i,k≤i→i<n→b i=false) ?_ ?_ ⟨rfl,hint+1 - min of (hint+1),hint - la,rfl,by lia,by lia,by lia,hlo,hhi⟩) ?_)
      . rintro x c st'' _ hx ⟨rfl,lo,hi,rfl,g1,g2,g3,g4,g5⟩
        dsimp only
        by_cases hge:lo ≥ hi
        . rw[if_pos hge]
          have e:lo=hi:=by lia
          subst e
          exact Ao ⟨rfl,lo,rfl,g2,g4,g5⟩
        . rw[if_neg hge]
          have hm:lo+(hi - lo) / 2<n:=by lia
          refine Ah (bey _ hm _ ?_)
          dsimp only
          cases hbm:b (lo+(hi - lo) / 2) with
          | true =>
            rw[if_pos rfl]
            refine Ao ⟨rfl,_,_,rfl,by lia,g2,by lia,λi hi'=>?_,g5⟩
            exact mono i _ (by lia) hm hbm
          | false =>
            rw[if_neg (by simp)]
            refine Ao ⟨rfl,_,_,rfl,by lia,by lia,by lia,g4,λi hi1 hi2=>?_⟩
            cases q:b i with
            | false=>rfl
            | true=>rw[mono _ i hi1 hi2 q] at hbm;cases hbm
      . rintro c st'' ⟨rfl,lo,hi,rfl,g1,g2,g3,g4,g5⟩
        have e:lo=hi:=by simp at g3;lia
        subst e
        exact⟨rfl,lo,rfl,g2,g4,g5⟩
      . rintro c st'' ⟨rfl,k,rfl,g1,g2,g3⟩
        exact Ao (hQ k g1 g2 g3)
end
end TS
namespace TS
section
variable {α:Type}{le:α->α->Prop}
structure MI (le:α->α->Prop) (a b out:List α) (ia ib:Nat):Prop where
 ha:ia<=a.length
 hb:ib<=b.length
 perm:(out++a.drop ia++b.drop ib).Perm (a++b)
 sorted:out.Pairwise le
 lea:∀x∈out,∀y∈a.drop ia,le x y
 leb:∀x∈out,∀y∈b.drop ib,le x y
theorem zcC(a:List α)(i k:Nat):a.drop i=(a.drop i).take k++a.drop (i+k):=by rw[<- List.drop_drop,Dc]
theorem MI.takeA{a b out:List α}{ia ib:Nat}(m:MI le a b out ia ib)(sa:a.Pairwise le)(k:Nat)(hk:ia + k <= a.length)(h:∀x ∈ (a.drop ia).take k, ∀y ∈ b.drop ib, le x y) :
  MI le a b (out++(a.drop ia).take k) (ia+k) ib:=by
 have e:=zcC a ia k;have sd:((a.drop ia).take k++a.drop (ia+k)).Pairwise le:=by rw[<- e];exact sa.sublist (Cg _ _)
 obtain⟨s1,s2,s3⟩:=AO.mp sd;refine⟨hk,m.hb,?_,AO.mpr ⟨m.sorted,s1,λx hx y hy=>m.lea x hx y ?_⟩,λx hx y hy=>?_,λx hx y hy=>?_⟩
 .have:=m.perm;rw[e]at this;simpa[At]using this
 .rw[e];exact Ce _ hy
 .rcases AT.mp hx with q |q
  .exact m.lea x q y (by rw[e];exact Au _ hy)
  .exact s3 x q y hy
 .rcases AT.mp hx with q |q
  .exact m.leb x q y hy
  .exact h x q y hy
theorem MI.takeB{a b out:List α}{ia ib:Nat}(m:MI le a b out ia ib)(sb:b.Pairwise le)(k:Nat)(hk:ib + k <= b.length)(h:∀x ∈ (b.drop ib).take k, ∀y ∈ a.drop ia, le x y) :
  MI le a b (out++(b.drop ib).take k) ia (ib+k):=by
 have e:=zcC b ib k;have sd:((b.drop ib).take k++b.drop (ib+k)).Pairwise le:=by rw[<- e];exact sb.sublist (Cg _ _)
 obtain⟨s1,s2,s3⟩:=AO.mp sd;refine⟨m.ha,hk,?_,AO.mpr ⟨m.sorted,s1,λx hx y hy=>m.leb x hx y ?_⟩,λx hx y hy=>?_,λx hx y hy=>?_⟩
 .have:=m.perm;rw[e]at this;refine List.Perm.trans ?_ this;rw[At,At,At,<- At ((b.drop ib).take k),<- At (a.drop ia)];exact List.Perm.append_left _ (List.Perm.append_right _ Cu)
 .rw[e];exact Ce _ hy
 .rcases AT.mp hx with q |q
  .exact m.lea x q y hy
  .exact h x q y hy
 .rcases AT.mp hx with q |q
  .exact m.leb x q y (by rw[e];exact Au _ hy)
  .exact s3 x q y hy
noncomputable def Res(le:α->α->Prop)(a b r:List α):Prop:=r.Perm (a++b)/\r.Pairwise le
theorem MI.done{a b out:List α}{ia ib:Nat}(m:MI le a b out ia ib)(sa:a.Pairwise le)(h:b.length<=ib):Res le a b (out++a.drop ia++b.drop ib):=by refine⟨m.perm,?_⟩;rw[List.drop_of_length_le h,AX];exact AO.mpr ⟨m.sorted,sa.sublist (Cg _ _),m.lea⟩
theorem MI.lastA{a b out:List α}{ia ib:Nat}(m:MI le a b out ia ib)(sa:a.Pairwise le)(sb:b.Pairwise le)(h:∀x∈b.drop ib,∀y∈a.drop ia,le x y):Res le a b (out++b.drop ib++a.drop ia):=by
 refine⟨?_,?_⟩
 .refine List.Perm.trans ?_ m.perm;rw[At,At];exact List.Perm.append_left _ Cu
 .refine AO.mpr ⟨AO.mpr ⟨m.sorted,sb.sublist (Cg _ _),m.leb⟩,sa.sublist (Cg _ _),λx hx y hy=>?_⟩;rcases AT.mp hx with q |q
  .exact m.lea x q y hy
  .exact h x q y hy
theorem MI.start{a b:List α}{y:α}(sb:b.Pairwise le)(h0:b[0]?=some y)(h:∀x∈a,le y x):MI le a b [y] 0 1:=by
 cases b with
 |nil=>cases h0
 |cons z r =>
  cases h0
  obtain⟨s1,s2⟩:=List.pairwise_cons.mp sb;refine⟨AU _,by simp,?_,by simp,λx hx w hw=>?_,λx hx w hw=>?_⟩
  .show ([y]++a++r).Perm (a++y::r);exact List.perm_middle.symm
  .rw[Ar.mp hx];exact h w hw
  .rw[Ar.mp hx];exact s1 w hw
end
end TS
namespace TS
open PySem PyProof.Rows
noncomputable def Like(st st':AF):Prop:=kindOf st'=kindOf st/\Aq st'=Aq st/\AG st'=AG st/\BX st'=BX st
theorem Like.refl(st:AF):Like st st:=⟨rfl,rfl,rfl,rfl⟩
noncomputable abbrev leOf(L:Keyed->Keyed->Bool):Keyed->Keyed->Prop:=λx y=>L y x=false
section
variable {M:Model}{A:AQ}{E:Ab->Ac->Prop}{s:Ac}{kd:Cr}{S:Keyed->Prop}{L:Keyed->Keyed->Bool}
theorem LtOk.rf(O:LtOk M A E s kd S L){x:Keyed}(h:S x):L x x=false:=by
 cases q:L x x with
 |false=>rfl
 |true=>rw[O.as x x h h q]at q;cases q
structure Two (S:Keyed->Prop) (L:Keyed->Keyed->Bool) (a b:Array Keyed):Prop where
 sa:a.toList.Pairwise (leOf L)
 sb:b.toList.Pairwise (leOf L)
 Sa:∀x∈a.toList,S x
 Sb:∀x∈b.toList,S x
theorem zam{a:Array Keyed}{i:Nat}{x:Keyed}(h:a[i]?=some x):x∈a.toList:=by
 have:a.toList[i]?=some x:=by simpa using h
 exact Ag this
theorem zbV{a:Array Keyed}{i:Nat}{x:Keyed}(h:a[i]?=some x):a.toList.drop i=x::a.toList.drop (i+1):=by
 have hl:i<a.toList.length:=by have:=(Bh.mp h).1;simpa using this
 rw[List.drop_eq_getElem_cons hl]
 congr 1
 have:=(Bh.mp h).2;simpa using this
theorem zcs{a:Array Keyed}(O:LtOk M A E s kd S L)(sa:a.toList.Pairwise (leOf L))(Sa:∀x∈a.toList,S x){i:Nat}{x y:Keyed}(h:a[i]?=some x)(hy:y∈a.toList.drop i):leOf L x y:=by
 rw[zbV h]at hy;rcases AW.mp hy with e |q
 .rw[e];exact O.rf (Sa x (zam h))
 .have:=sa.sublist (Cg i _);rw[zbV h]at this;exact (List.pairwise_cons.mp this).1 y q
variable {a b:Array Keyed}{out:Array Keyed}{ia ib:Nat}
theorem one_B(O:LtOk M A E s kd S L)(T:Two S L a b)(m:MI (leOf L) a.toList b.toList out.toList ia ib){x y:Keyed}(hb:b[ib]? = some x)(ha:a[ia]? = some y)(h:L x y=true) :
  MI (leOf L) a.toList b.toList (out.push x).toList ia (ib+1):=by
 have e:(b.toList.drop ib).take 1=[x]:=by rw[zbV hb];rfl
 have hl:ib+1<=b.toList.length:=by have:=(Bh.mp hb).1;rw[AC];exact this
 have:=m.takeB T.sb 1 hl λz hz w hw=>by rw[e]at hz;rw[Ar.mp hz];have h1:leOf L x y:=O.as x y (T.Sb x (zam hb)) (T.Sa y (zam ha)) h;exact O.tr x y w (T.Sb x (zam hb)) (T.Sa y (zam ha)) (T.Sa w (Bs hw)) h1 (zcs O T.sa T.Sa ha hw)
 rw[e]at this;rw[CC];exact this
theorem one_A(O:LtOk M A E s kd S L)(T:Two S L a b)(m:MI (leOf L) a.toList b.toList out.toList ia ib){x y:Keyed}(hb:b[ib]? = some x)(ha:a[ia]? = some y)(h:L x y=false) :
  MI (leOf L) a.toList b.toList (out.push y).toList (ia+1) ib:=by
 have e:(a.toList.drop ia).take 1=[y]:=by rw[zbV ha];rfl
 have hl:ia+1<=a.toList.length:=by have:=(Bh.mp ha).1;rw[AC];exact this
 have:=m.takeA T.sa 1 hl λz hz w hw=>by rw[e]at hz;rw[Ar.mp hz];exact O.tr y x w (T.Sa y (zam ha)) (T.Sb x (zam hb)) (T.Sb w (Bs hw)) h (zcs O T.sb T.Sb hb hw)
 rw[e]at this;rw[CC];exact this
theorem zcx(a:Array Keyed)(i k:Nat):(a.extract i (i+k)).toList=(a.toList.drop i).take k:=by rw[CD,B5,Nat.add_sub_cancel_left]
theorem zft{a:Array Keyed}{i k:Nat}{x:Keyed}(h:x∈(a.toList.drop i).take k):∃j,j<k/\a[i+j]?=some x:=by
 obtain⟨j,hj,e⟩:=AN h
 have hk:j<k:=by have:=hj;rw[AL]at this;lia
 refine⟨j,hk,?_⟩;have h1:((a.toList.drop i).take k)[j]?=some x:=by rw[Aa hj,e]
 rw[List.getElem?_take_of_lt hk,DE]at h1;simpa using h1
theorem blk_A(O:LtOk M A E s kd S L)(T:Two S L a b)(m:MI (leOf L) a.toList b.toList out.toList ia ib){x:Keyed}(hb:b[ib]? = some x)(k:Nat)(hk:ia + k <= a.size)(h:∀j y, j < k -> a[ia + j]? = some y -> L x y=false) :
  MI (leOf L) a.toList b.toList (out++a.extract ia (ia+k)).toList (ia+k) ib:=by
 rw[Ba,zcx];refine m.takeA T.sa k (by rw[AC];exact hk) λz hz w hw=>?_
 obtain⟨j,hj,e⟩:=zft hz;exact O.tr z x w (T.Sa z (zam e)) (T.Sb x (zam hb)) (T.Sb w (Bs hw)) (h j z hj e) (zcs O T.sb T.Sb hb hw)
theorem blk_B(O:LtOk M A E s kd S L)(T:Two S L a b)(m:MI (leOf L) a.toList b.toList out.toList ia ib){y:Keyed}(ha:a[ia]? = some y)(k:Nat)(hk:ib + k <= b.size)(h:∀j x, j < k -> b[ib + j]? = some x -> L x y=true) :
  MI (leOf L) a.toList b.toList (out++b.extract ib (ib+k)).toList ia (ib+k):=by
 rw[Ba,zcx];refine m.takeB T.sb k (by rw[AC];exact hk) λz hz w hw=>?_
 obtain⟨j,hj,e⟩:=zft hz;exact O.tr z y w (T.Sb z (zam e)) (T.Sa y (zam ha)) (T.Sa w (Bs hw)) (O.as z y (T.Sb z (zam e)) (T.Sa y (zam ha)) (h j z hj e)) (zcs O T.sa T.Sa ha hw)
theorem zlr(O:LtOk M A E s kd S L)(T:Two S L a b){st:AF}(hk:kindOf st=kd){x:Keyed}(Sx:S x)(hi:ia < a.size){Q:Option Nat -> AF -> Prop}
  (hQ:∀k,ia+k<=a.size->(∀j y,j<k->a[ia+j]?=some y->L x y=false)->(∀j y,k<=j->a[ia+j]?=some y->L x y=true)->Q (some k) st) {hint:Nat} (hh:hint<a.size-ia) :
  wpS M A E s (zca false x a ia (a.size-ia) hint) Q st:=by
 have at_:∀i,i<a.size-ia->∃y,a[ia+i]?=some y:=λi h=>⟨a[ia+i],by simp[show ia+i<a.size by lia]⟩
 refine zbr (b:=λi=>!(a[ia+i]?.elim false λy=>L x y)) O hk Sx (λi h=>?_) (λi j hij hj q=>?_) hh λk h1 h2 h3=>?_
 .obtain⟨y,e⟩:=at_ i h;exact⟨y,e,T.Sa y (zam e),by rw[if_neg (by simp),e];rfl⟩
 .obtain⟨y,e⟩:=at_ j hj;obtain⟨z,e2⟩:=at_ i (by lia);rw[e]at q;rw[e2];have q1:L x y=false:=by simpa using q
  have le1:leOf L z y:=zcs O T.sa T.Sa e2 (by
   have:y∈(a.toList.drop (ia+i)).drop (j-i):=by rw[List.drop_drop,show ia+i+(j-i)=ia+j by lia,zbV e];exact Av
   exact Bs this)
  have:L x z=false:=O.tr z y x (T.Sa z (zam e2)) (T.Sa y (zam e)) Sx le1 q1;simpa using this
 .refine hQ k (by lia) (λj y hj e=>?_) (λj y hj e=>?_)
  .have:=h2 j hj;rw[e]at this;simpa using this
  .have hlt:j < a.size-ia := by have:=(Bh.mp e).1;lia
   have:=h3 j hj hlt;rw[e]at this;simpa using this
theorem zlq(O:LtOk M A E s kd S L)(T:Two S L a b){st:AF}(hk:kindOf st=kd){y:Keyed}(Sy:S y)(hi:ib < b.size){Q:Option Nat -> AF -> Prop}
  (hQ:∀k,ib+k<=b.size->(∀j x,j<k->b[ib+j]?=some x->L x y=true)->(∀j x,k<=j->b[ib+j]?=some x->L x y=false)->Q (some k) st) {hint:Nat} (hh:hint<b.size-ib) :
  wpS M A E s (zca true y b ib (b.size-ib) hint) Q st:=by
 have at_:∀i,i<b.size-ib->∃x,b[ib+i]?=some x:=λi h=>⟨b[ib+i],by simp[show ib+i<b.size by lia]⟩
 refine zbr (b:=λi=>b[ib+i]?.elim false λx=>L x y) O hk Sy (λi h=>?_) (λi j hij hj q=>?_) hh λk h1 h2 h3=>?_
 .obtain⟨x,e⟩:=at_ i h;exact⟨x,e,T.Sb x (zam e),by rw[if_pos rfl,e];rfl⟩
 .obtain⟨x,e⟩:=at_ j hj;obtain⟨z,e2⟩:=at_ i (by lia);rw[e]at q;rw[e2];have q1:L x y=true:=q;show L z y=true
  have le1:leOf L z x:=zcs O T.sb T.Sb e2 (by
   have:x∈(b.toList.drop (ib+i)).drop (j-i):=by rw[List.drop_drop,show ib+i+(j-i)=ib+j by lia,zbV e];exact Av
   exact Bs this)
  cases w:L z y with
  |true=>rfl
  |false =>
   have:L x y=false:=O.tr y z x Sy (T.Sb z (zam e2)) (T.Sb x (zam e)) w le1;rw[this]at q1;cases q1
 .refine hQ k (by lia) (λj x hj e=>?_) (λj x hj e=>?_)
  .have:=h2 j hj;rw[e]at this;exact this
  .have hlt:j < b.size-ib := by have:=(Bh.mp e).1;lia
   have:=h3 j hj hlt;rw[e]at this;exact this
end
end TS
set_option maxHeartbeats 8000000
namespace TS
open PySem PyProof.Rows
section
variable {M:Model}{A:AQ}{E:Ab->Ac->Prop}{s:Ac}{kd:Cr}{S:Keyed->Prop}{L:Keyed->Keyed->Bool}{a b out:Array Keyed}{ia ib:Nat}
theorem zbq(a:Array Keyed)(i:Nat):(a.extract i a.size).toList=a.toList.drop i:=by rw[CD,B5,Bz (by simp)]
theorem zdx(T:Two S L a b)(m:MI (leOf L) a.toList b.toList out.toList ia ib)(h:b.size<=ib):Res (leOf L) a.toList b.toList (out++a.extract ia a.size++b.extract ib b.size).toList:=by rw[Ba,Ba,zbq,zbq];exact m.done T.sa (by rw[AC];exact h)
theorem zjc(T:Two S L a b)(m:MI (leOf L) a.toList b.toList out.toList ia ib)(h:a.size<=ia):Res (leOf L) a.toList b.toList (out++a.extract ia a.size++b.extract ib b.size).toList:=by rw[Ba,Ba,zbq,zbq];have e:a.toList.drop ia=[]:=List.drop_of_length_le (by rw[AC];exact h);refine⟨m.perm,?_⟩;rw[e,AX];exact AO.mpr ⟨m.sorted,T.sb.sublist (Cg _ _),m.leb⟩
theorem zdw(T:Two S L a b)(hl:∀z,a[a.size-1]?=some z->∀x∈b.toList,leOf L x z)(m:MI (leOf L) a.toList b.toList out.toList ia ib)(h:ia+1=a.size):Res (leOf L) a.toList b.toList (out++b.extract ib b.size++a.extract ia a.size).toList:=by
 rw[Ba,Ba,zbq,zbq];have hlt:ia<a.size:=by lia
 have e:a[ia]?=some a[ia]:=by simp[hlt]
 refine m.lastA T.sa T.sb λx hx y hy=>?_
 rw[zbV e,List.drop_of_length_le (by rw[AC];lia)]at hy;rw[Ar.mp hy];exact hl _ (by rw[show a.size-1=ia by lia];exact e) x (Bs hx)
theorem Like.tr{x y z:AF}(h:Like x y)(k:Like y z):Like x z:=⟨k.1.trans h.1,k.2.1.trans h.2.1,k.2.2.1.trans h.2.2.1,k.2.2.2.trans h.2.2.2⟩
noncomputable def zeM:Nat->StateT AF Sem Unit:=sortPriv% PySem.Builtin.setMinGallop
noncomputable abbrev LH:=Option (Array Keyed)×Array Keyed×Nat×Nat×Nat×Nat×Nat
noncomputable def loC(a b out:Array Keyed)(ia ib mg ac bc:Nat):StateT AF Sem (ForInStep LH) :=
 elem' a ia >>= λx =>
  if (ia+1+1 == a.size)=true then pure (.done (some (out.push x++b.extract ib b.size++a.extract (ia+1) a.size),out.push x,ia+1,ib,mg,ac,bc))
  else if (decide (ac<7) && decide (bc<7))=true then pure (.done (none,out.push x,ia+1,ib,mg,ac,bc))
  else pure (.yield (none,out.push x,ia+1,ib,mg,ac,bc))
noncomputable def loB(a b out:Array Keyed)(ia ib mg ac bc:Nat):StateT AF Sem (ForInStep LH) :=
 elem' b ib >>= λx =>
  if (ib+1 == b.size)=true then pure (.done (some (out.push x++a.extract ia a.size++b.extract (ib+1) b.size),out.push x,ia,ib+1,mg,ac,bc))
  else elem' a ia >>= λy=>zca true y b (ib+1) (b.size-(ib+1)) 0 >>= λw =>
   match w with
   |some k =>
    if k > 0 then
     if (ib+1+k == b.size)=true then pure (.done (some (out.push x++b.extract (ib+1) (ib+1+k)++a.extract ia a.size++b.extract (ib+1+k) b.size),out.push x++b.extract (ib+1) (ib+1+k),ia,ib+1+k,mg,ac,k))
     else loC a b (out.push x++b.extract (ib+1) (ib+1+k)) ia (ib+1+k) mg ac k
    else loC a b (out.push x) ia (ib+1) mg ac k
   |_=>pure (.done (some (out.push x++a.extract ia a.size++b.extract (ib+1) b.size),out.push x,ia,ib+1,mg,ac,bc))
noncomputable def loA(a b out:Array Keyed)(ia ib mg ac bc:Nat):StateT AF Sem (ForInStep LH) :=
 elem' b ib >>= λx=>zca false x a ia (a.size-ia) 0 >>= λw =>
  match w with
  |some k =>
   if k > 0 then
    if (ia+k+1 == a.size)=true then pure (.done (some (out++a.extract ia (ia+k)++b.extract ib b.size++a.extract (ia+k) a.size),out++a.extract ia (ia+k),ia+k,ib,mg,k,bc))
    else if (ia+k == a.size)=true then pure (.done (some (out++a.extract ia (ia+k)++a.extract (ia+k) a.size++b.extract ib b.size),out++a.extract ia (ia+k),ia+k,ib,mg,k,bc))
    else loB a b (out++a.extract ia (ia+k)) (ia+k) ib mg k bc
   else loB a b out ia ib mg k bc
  |_=>pure (.done (some (out++a.extract ia a.size++b.extract ib b.size),out,ia,ib,mg,ac,bc))
noncomputable def loG(a b:Array Keyed)(c:LH):StateT AF Sem (ForInStep LH) :=
 if c.2.2.2.2.1 > 1 then zeM (c.2.2.2.2.1-1) >>= λ_=>loA a b c.2.1 c.2.2.1 c.2.2.2.1 (c.2.2.2.2.1-1) c.2.2.2.2.2.1 c.2.2.2.2.2.2
 else zeM c.2.2.2.2.1 >>= λ_=>loA a b c.2.1 c.2.2.1 c.2.2.2.1 c.2.2.2.2.1 c.2.2.2.2.2.1 c.2.2.2.2.2.2
noncomputable abbrev LI:=Option (Array Keyed)×Array Keyed×Nat×Nat×Nat×Nat
noncomputable def loI(a b:Array Keyed)(mg:Nat)(c:LI):StateT AF Sem (ForInStep LI) :=
 elem' b c.2.2.2.1 >>= λx=>elem' a c.2.2.1 >>= λy=>lt' x y >>= λw =>
  match w with
  |some v =>
   if v=true then elem' b c.2.2.2.1 >>= λx =>
    if (c.2.2.2.1+1 == b.size)=true then pure (.done (some (c.2.1.push x++a.extract c.2.2.1 a.size++b.extract (c.2.2.2.1+1) b.size),c.2.1.push x,c.2.2.1,c.2.2.2.1+1,0,c.2.2.2.2.2+1))
    else if c.2.2.2.2.2+1 ≥ mg then pure (.done (none,c.2.1.push x,c.2.2.1,c.2.2.2.1+1,0,c.2.2.2.2.2+1))
    else pure (.yield (none,c.2.1.push x,c.2.2.1,c.2.2.2.1+1,0,c.2.2.2.2.2+1))
   else elem' a c.2.2.1 >>= λy =>
    if (c.2.2.1+1+1 == a.size)=true then pure (.done (some (c.2.1.push y++b.extract c.2.2.2.1 b.size++a.extract (c.2.2.1+1) a.size),c.2.1.push y,c.2.2.1+1,c.2.2.2.1,c.2.2.2.2.1+1,0))
    else if c.2.2.2.2.1+1 ≥ mg then pure (.done (none,c.2.1.push y,c.2.2.1+1,c.2.2.2.1,c.2.2.2.2.1+1,0))
    else pure (.yield (none,c.2.1.push y,c.2.2.1+1,c.2.2.2.1,c.2.2.2.2.1+1,0))
  |_=>pure (.done (some (c.2.1++a.extract c.2.2.1 a.size++b.extract c.2.2.2.1 b.size),c.2.1,c.2.2.1,c.2.2.2.1,c.2.2.2.2.1,c.2.2.2.2.2))
noncomputable abbrev LO:=Option (Array Keyed)×Array Keyed×Nat×Nat×Nat
noncomputable def loP(a b:Array Keyed)(mg:Nat)(c:LI):StateT AF Sem (ForInStep LO) :=
 Cs (λ_=>StateT AF Sem (ForInStep LO)) c.1 (λr=>pure (.done (some r,c.2.1,c.2.2.1,c.2.2.2.1,mg))) λ_=>(liftM (rule "list.sort.gallop"):StateT AF Sem Unit) >>= λ_=>forIn [:a.size+b.size] ((none,c.2.1,c.2.2.1,c.2.2.2.1,mg+1,c.2.2.2.2.1,c.2.2.2.2.2):LH) (λ_ c=>loG a b c) >>= λc =>
  Cs (λ_=>StateT AF Sem (ForInStep LO)) c.1 (λr=>pure (.done (some r,c.2.1,c.2.2.1,c.2.2.2.1,c.2.2.2.2.1))) λ_=>zeM (c.2.2.2.2.1+1) >>= λ_=>pure (.yield (none,c.2.1,c.2.2.1,c.2.2.2.1,c.2.2.2.2.1+1))
noncomputable def loO(a b:Array Keyed)(c:LO):StateT AF Sem (ForInStep LO) :=
 forIn [:a.size+b.size] ((none,c.2.1,c.2.2.1,c.2.2.2.1,0,0):LI) (λ_ d=>loI a b c.2.2.2.2 d) >>= λd=>loP a b c.2.2.2.2 d
noncomputable def zjM(a b:Array Keyed):StateT AF Sem (Array Keyed) :=
 (liftM (rule "list.sort.merge-lo"):StateT AF Sem Unit) >>= λ_=>elem' b 0 >>= λx =>
  if (1 == b.size)=true then pure (#[x]++a.extract 0 a.size++b.extract 1 b.size)
  else if (0+1 == a.size)=true then pure (#[x]++b.extract 1 b.size++a.extract 0 a.size)
  else get >>= λs=>forIn [:a.size+b.size] ((none,#[x],0,1,gallopOf s):LO) (λ_ c=>loO a b c) >>= λc =>
   Cs (λ_=>StateT AF Sem (Array Keyed)) c.1 (λr=>pure r) λ_=>unsupported "internal:list.sort.merge-bound"
theorem zh5(a b:Array Keyed):zfq a b=zjM a b:=rfl
variable {Q:ForInStep LH->AF->Prop}{z:AF}{N mg ac bc:Nat}{x y:Keyed}
theorem zhv(O:LtOk M A E s kd S L)(T:Two S L a b)(hl:∀z, a[a.size-1]? = some z -> ∀x ∈ b.toList, leOf L x z)(hD:∀r out ia ib mg ac bc, Res (leOf L) a.toList b.toList r.toList -> Q (.done (some r, out, ia, ib, mg, ac, bc)) z)
  (hN:∀out ia ib mg ac bc,MI (leOf L) a.toList b.toList out.toList ia ib->ia+1<a.size->ib<b.size->N<=ia+ib->Q (.done (none,out,ia,ib,mg,ac,bc)) z/\Q (.yield (none,out,ia,ib,mg,ac,bc)) z)
  (m:MI (leOf L) a.toList b.toList out.toList ia ib) (ea:a[ia]?=some y) (eb:b[ib]?=some x) (hw:L x y=false) (g1:ia+1<a.size) (g2:ib<b.size) (g3:N<=ia+ib) :
  wpS M A E s (loC a b out ia ib mg ac bc) Q z:=by
 have n4:=one_A O T m eb ea hw;refine Ah (zas ea ?_)
 by_cases e:ia+1+1=a.size
 .rw[if_pos (by simp[e])];exact Ao (hD _ _ _ _ _ _ _ (zdw T hl n4 (by lia)))
 rw[if_neg (by simp[e])];have h:=hN _ _ _ mg ac bc n4 (by lia) g2 (by lia);split
 .exact Ao h.1
 .exact Ao h.2
theorem zhw(O:LtOk M A E s kd S L)(T:Two S L a b)(hk:kindOf z=kd)(hl:∀z, a[a.size-1]? = some z -> ∀x ∈ b.toList, leOf L x z)(hD:∀r out ia ib mg ac bc, Res (leOf L) a.toList b.toList r.toList -> Q (.done (some r, out, ia, ib, mg, ac, bc)) z)
  (hN:∀out ia ib mg ac bc,MI (leOf L) a.toList b.toList out.toList ia ib->ia+1<a.size->ib<b.size->N<=ia+ib->Q (.done (none,out,ia,ib,mg,ac,bc)) z/\Q (.yield (none,out,ia,ib,mg,ac,bc)) z)
  (m:MI (leOf L) a.toList b.toList out.toList ia ib) (ea:a[ia]?=some y) (eb:b[ib]?=some x) (hw:L x y=true) (g1:ia+1<a.size) (g2:ib<b.size) (g3:N<=ia+ib) :
  wpS M A E s (loB a b out ia ib mg ac bc) Q z:=by
 have n2:=one_B O T m eb ea hw;refine Ah (zas eb ?_)
 by_cases e3:ib+1=b.size
 .rw[if_pos (by simp[e3])];exact Ao (hD _ _ _ _ _ _ _ (zdx T n2 (by lia)))
 rw[if_neg (by simp[e3])];refine Ah (zas ea ?_);refine Ah (zlq O T hk (T.Sa _ (zam ea)) (by lia) (λk r1 r2 r3=>?_) (by lia));dsimp only
 by_cases hk1:k > 0
 .rw[if_pos hk1];have n3:=blk_B O T n2 ea k r1 r2
  by_cases e4:ib+1+k=b.size
  .rw[if_pos (by simp[e4])];exact Ao (hD _ _ _ _ _ _ _ (zdx T n3 (by lia)))
  rw[if_neg (by simp[e4])];have hb:ib+1+k<b.size:=by lia
  exact zhv O T hl hD hN n3 ea (by simp[hb]) (r3 k b[ib+1+k] (An _) (by simp[hb])) g1 hb (by lia)
 rw[if_neg hk1];have hb:ib+1<b.size:=by lia
 have kz:k=0:=by lia
 subst kz;exact zhv O T hl hD hN n2 ea (by simp[hb]) (r3 0 b[ib+1] (An _) (by simp[hb])) g1 hb (by lia)
theorem zjS(O:LtOk M A E s kd S L)(T:Two S L a b)(hk:kindOf z=kd)(hl:∀z, a[a.size-1]? = some z -> ∀x ∈ b.toList, leOf L x z)(hD:∀r out ia ib mg ac bc, Res (leOf L) a.toList b.toList r.toList -> Q (.done (some r, out, ia, ib, mg, ac, bc)) z)
  (hN:∀out ia ib mg ac bc,MI (leOf L) a.toList b.toList out.toList ia ib->ia+1<a.size->ib<b.size->N<=ia+ib->Q (.done (none,out,ia,ib,mg,ac,bc)) z/\Q (.yield (none,out,ia,ib,mg,ac,bc)) z)
  (m:MI (leOf L) a.toList b.toList out.toList ia ib) (g1:ia+1<a.size) (g2:ib<b.size) (g3:N<=ia+ib) :
  wpS M A E s (loA a b out ia ib mg ac bc) Q z:=by
 have eb:b[ib]?=some b[ib]:=by simp[g2]
 refine Ah (zas eb ?_);refine Ah (zlr O T hk (T.Sb _ (zam eb)) (by lia) (λk q1 q2 q3=>?_) (by lia));dsimp only
 by_cases hk0:k > 0
 .rw[if_pos hk0];have n1:=blk_A O T m eb k q1 q2
  by_cases e1:ia+k+1=a.size
  .rw[if_pos (by simp[e1])];exact Ao (hD _ _ _ _ _ _ _ (zdw T hl n1 e1))
  rw[if_neg (by simp[e1])]
  by_cases e2:ia+k=a.size
  .rw[if_pos (by simp[e2])];exact Ao (hD _ _ _ _ _ _ _ (zjc T n1 (by lia)))
  rw[if_neg (by simp[e2])];have ha:ia+k<a.size:=by lia
  exact zhw O T hk hl hD hN n1 (by simp[ha]) eb (q3 k a[ia+k] (An _) (by simp[ha])) (by lia) g2 (by lia)
 rw[if_neg hk0];have ha:ia<a.size:=by lia
 have kz:k=0:=by lia
 subst kz;exact zhw O T hk hl hD hN m (by simp[ha]) eb (q3 0 a[ia] (An _) (by simp[ha])) g1 g2 g3
theorem zjQ{Q:ForInStep LI -> AF -> Prop}(O:LtOk M A E s kd S L)(T:Two S L a b)(hk:kindOf z=kd)(hl:∀z, a[a.size-1]? = some z -> ∀x ∈ b.toList, leOf L x z)(m:MI (leOf L) a.toList b.toList out.toList ia ib)(g1:ia + 1 < a.size)(g2:ib < b.size)
  (hD:∀r out ia ib ac bc,Res (leOf L) a.toList b.toList r.toList->Q (.done (some r,out,ia,ib,ac,bc)) z)
  (hN:∀out ia' ib' ac bc,MI (leOf L) a.toList b.toList out.toList ia' ib'->ia'+1<a.size->ib'<b.size->ia+ib+1<=ia'+ib'->Q (.done (none,out,ia',ib',ac,bc)) z/\Q (.yield (none,out,ia',ib',ac,bc)) z) :
  wpS M A E s (loI a b mg (none,out,ia,ib,ac,bc)) Q z:=by
 obtain⟨xb,eb⟩:∃x,b[ib]?=some x:=⟨b[ib]'(by lia),by simp[g2]⟩;obtain⟨xa,ea⟩:∃x,a[ia]?=some x:=⟨a[ia]'(by lia),by simp[show ia<a.size by lia]⟩;refine Ah (zas eb (Ah (zas ea (Ah (O.lt xb xa (T.Sb _ (zam eb)) (T.Sa _ (zam ea)) _ _ hk ?_)))));dsimp only
 cases hw:L xb xa with
 |true =>
  rw[if_pos rfl];have m2:=one_B O T m eb ea hw;refine Ah (zas eb ?_)
  by_cases e:ib+1=b.size
  .rw[if_pos (by simp[e])];exact Ao (hD _ _ _ _ _ _ (zdx T m2 (by lia)))
  rw[if_neg (by simp[e])];have h:=hN _ _ _ 0 (bc+1) m2 g1 (by lia) (by lia);split
  .exact Ao h.1
  .exact Ao h.2
 |false =>
  rw[if_neg (by simp)];have m2:=one_A O T m eb ea hw;refine Ah (zas ea ?_)
  by_cases e:ia+1+1=a.size
  .rw[if_pos (by simp[e])];exact Ao (hD _ _ _ _ _ _ (zdw T hl m2 (by lia)))
  rw[if_neg (by simp[e])];have h:=hN _ _ _ (ac+1) 0 m2 (by lia) g2 (by lia);split
  .exact Ao h.1
  .exact Ao h.2
theorem zjR(O:LtOk M A E s kd S L)(T:Two S L a b)(hk:kindOf z=kd)(hl:∀z, a[a.size-1]? = some z -> ∀x ∈ b.toList, leOf L x z)(hD:∀z', Like z z' -> ∀r out ia ib mg ac bc, Res (leOf L) a.toList b.toList r.toList -> Q (.done (some r, out, ia, ib, mg, ac, bc)) z')
  (hN:∀z',Like z z'->∀out ia ib mg ac bc,MI (leOf L) a.toList b.toList out.toList ia ib->ia+1<a.size->ib<b.size->N<=ia+ib->Q (.done (none,out,ia,ib,mg,ac,bc)) z'/\Q (.yield (none,out,ia,ib,mg,ac,bc)) z')
  (m:MI (leOf L) a.toList b.toList out.toList ia ib) (g1:ia+1<a.size) (g2:ib<b.size) (g3:N<=ia+ib) :
  wpS M A E s (loG a b (none,out,ia,ib,mg,ac,bc)) Q z:=by
 have key:∀z',Like z z'->∀mg,wpS M A E s (loA a b out ia ib mg ac bc) Q z':=λz' h mg=>zjS O T (h.1.trans hk) hl (hD z' h) (hN z' h) m g1 g2 g3
 unfold loG;split
 .exact Ah (BE (key _ (by exact Like.refl z) _))
 .exact Ah (BE (key _ (by exact Like.refl z) _))
theorem zjO{Q:ForInStep LO -> AF -> Prop}(O:LtOk M A E s kd S L)(T:Two S L a b)(hk:kindOf z=kd)(hl:∀z, a[a.size-1]? = some z -> ∀x ∈ b.toList, leOf L x z)(m:MI (leOf L) a.toList b.toList out.toList ia ib)(g1:ia + 1 < a.size)(g2:ib < b.size)(g3:N <= ia + ib)
  (hD:∀z',Like z z'->∀r out ia ib mg,Res (leOf L) a.toList b.toList r.toList->Q (.done (some r,out,ia,ib,mg)) z')
  (hN:∀z',Like z z'->∀out ia ib mg,MI (leOf L) a.toList b.toList out.toList ia ib->ia+1<a.size->ib<b.size->N<=ia+ib->Q (.yield (none,out,ia,ib,mg)) z') :
  wpS M A E s (loP a b mg (none,out,ia,ib,ac,bc)) Q z:=by
 refine Ah (wpS_lift (CN ⟨rfl,?_⟩))
 refine Ah (B7 (Bn (I:=λy c w=>Like z w/\∃out ia ib mg ac bc,c=(none,out,ia,ib,mg,ac,bc)/\MI (leOf L) a.toList b.toList out.toList ia ib/\ia+1<a.size/\ib<b.size/\N<=ia+ib)
  (Q:=λc w=>Like z w/\((∃r,c.1=some r/\Res (leOf L) a.toList b.toList r.toList)∨∃out ia ib mg ac bc,c=(none,out,ia,ib,mg,ac,bc)/\MI (leOf L) a.toList b.toList out.toList ia ib/\ia+1<a.size/\ib<b.size/\N<=ia+ib)) ?_ ?_ ⟨Like.refl _,_,_,_,_,_,_,rfl,m,g1,g2,g3⟩) ?_)
 .rintro y c w _ hy ⟨lk,out,ia,ib,mg,ac,bc,rfl,m,k1,k2,k3⟩;exact zjR O T (lk.1.trans hk) hl (λw' h r _ _ _ _ _ _ e=>⟨Like.tr lk h,.inl ⟨r,rfl,e⟩⟩) (λw' h _ _ _ _ _ _ e u1 u2 u3=>⟨⟨Like.tr lk h,.inr ⟨_,_,_,_,_,_,rfl,e,u1,u2,u3⟩⟩,Like.tr lk h,_,_,_,_,_,_,rfl,e,u1,u2,u3⟩) m k1 k2 k3
 .rintro c w ⟨lk,r⟩;exact⟨lk,.inr r⟩
 .rintro c w ⟨lk,hc⟩;rcases hc with⟨r,e,res⟩ |⟨out,ia,ib,mg,ac,bc,rfl,m,k1,k2,k3⟩
  .rw[e];exact Ao (hD w lk _ _ _ _ _ res)
  .exact Ah (BE (Ao (hN _ (by exact lk) _ _ _ _ m k1 k2 k3)))
theorem zjP{Q:ForInStep LO -> AF -> Prop}(O:LtOk M A E s kd S L)(T:Two S L a b)(hk:kindOf z=kd)(hl:∀z, a[a.size-1]? = some z -> ∀x ∈ b.toList, leOf L x z)(m:MI (leOf L) a.toList b.toList out.toList ia ib)(g1:ia + 1 < a.size)(g2:ib < b.size)
  (hD:∀z',Like z z'->∀r out ia ib mg,Res (leOf L) a.toList b.toList r.toList->Q (.done (some r,out,ia,ib,mg)) z')
  (hN:∀z',Like z z'->∀out ia' ib' mg,MI (leOf L) a.toList b.toList out.toList ia' ib'->ia'+1<a.size->ib'<b.size->ia+ib+1<=ia'+ib'->Q (.yield (none,out,ia',ib',mg)) z') :
  wpS M A E s (loO a b (none,out,ia,ib,mg)) Q z:=by
 refine Ah (B7 (Bn (I:=λy c w=>w=z/\∃out ia' ib' ac bc,c=(none,out,ia',ib',ac,bc)/\MI (leOf L) a.toList b.toList out.toList ia' ib'/\ia'+1<a.size/\ib'<b.size/\ia+ib+y<=ia'+ib')
  (Q:=λc w=>w=z/\((∃r,c.1=some r/\Res (leOf L) a.toList b.toList r.toList)∨∃out ia' ib' ac bc,c=(none,out,ia',ib',ac,bc)/\MI (leOf L) a.toList b.toList out.toList ia' ib'/\ia'+1<a.size/\ib'<b.size/\ia+ib+1<=ia'+ib')) ?_ ?_ ⟨rfl,_,_,_,_,_,rfl,m,g1,g2,by lia⟩) ?_)
 .rintro y c w _ hy ⟨rfl,out',ia',ib',ac,bc,rfl,m',j1,j2,j3⟩;exact zjQ O T hk hl m' j1 j2 (λr _ _ _ _ _ e=>⟨rfl,.inl ⟨r,rfl,e⟩⟩) λ_ _ _ _ _ e u1 u2 u3=>⟨⟨rfl,.inr ⟨_,_,_,_,_,rfl,e,u1,u2,by lia⟩⟩,rfl,_,_,_,_,_,rfl,e,u1,u2,by lia⟩
 .rintro c w ⟨rfl,out',ia',ib',ac,bc,rfl,m',j1,j2,j3⟩;exact⟨rfl,.inr ⟨out',ia',ib',ac,bc,rfl,m',j1,j2,by lia⟩⟩
 .rintro c w ⟨rfl,hc⟩;rcases hc with⟨r,e,res⟩ |⟨out',ia',ib',ac,bc,rfl,m',j1,j2,j3⟩
  .unfold loP;rw[e];exact Ao (hD _ (Like.refl _) _ _ _ _ _ res)
  .exact zjO (N:=ia'+ib') O T hk hl m' j1 j2 (An _) hD λz' h _ _ _ _ e u1 u2 u3=>hN z' h _ _ _ _ e u1 u2 (by lia)
end
section
variable {M:Model}{A:AQ}{E:Ab->Ac->Prop}{s:Ac}{kd:Cr}{S:Keyed->Prop}{L:Keyed->Keyed->Bool}{a b:Array Keyed}
theorem zge(O:LtOk M A E s kd S L)(T:Two S L a b){st:AF}{Q:Array Keyed -> AF -> Prop}(hk:kindOf st=kd)(ha : 0 < a.size)(hb : 0 < b.size)(h0:∀y, b[0]? = some y -> ∀x ∈ a.toList, leOf L y x)
  (hl:∀z,a[a.size-1]?=some z->∀x∈b.toList,leOf L x z) (hQ:∀r st',Res (leOf L) a.toList b.toList r.toList->Like st st'->Q r st'):wpS M A E s (zfq a b) Q st:=by
 rw[zh5];have atA:∀i,i<a.size->∃x,a[i]?=some x:=λi h=>⟨a[i],by simp[h]⟩
 have atB:∀i,i<b.size->∃x,b[i]?=some x:=λi h=>⟨b[i],by simp[h]⟩
 obtain⟨b0,e0⟩:=atB 0 hb;have m0:MI (leOf L) a.toList b.toList (#[b0]:Array Keyed).toList 0 1:=MI.start T.sb (by simpa using e0) (h0 b0 e0);refine Ah (wpS_lift (CN ⟨rfl,?_⟩));refine Ah (zas e0 ?_)
 by_cases hb1:b.size=1
 .rw[if_pos (by simp[hb1])];exact Ao (hQ _ _ (zdx T m0 (by lia)) (Like.refl _))
 rw[if_neg (by simp;lia)]
 by_cases ha1:a.size=1
 .rw[if_pos (by simp[ha1])];exact Ao (hQ _ _ (zdw T hl m0 (by lia)) (Like.refl _))
 rw[if_neg (by simp;lia)];refine Ah (Dm ?_)
 refine Ah (B7 (Bn (I:=λx c st'=>Like st st'/\∃out ia ib mg,c=(none,out,ia,ib,mg)/\MI (leOf L) a.toList b.toList out.toList ia ib/\ia+1<a.size/\ib<b.size/\x+1<=ia+ib)
  (Q:=λc st'=>Like st st'/\∃r,c.1=some r/\Res (leOf L) a.toList b.toList r.toList) ?step ?fin ⟨Like.refl _,_,_,_,_,rfl,m0,by lia,by lia,by lia⟩) ?post)
 case fin =>
  rintro c st' ⟨_,out,ia,ib,mg,rfl,m,g1,g2,g3⟩;exact absurd g3 (by lia)
 case post =>
  rintro c st' ⟨lk,r,e,res⟩;rw[e];exact Ao (hQ r st' res lk)
 case step =>
  rintro x c st' _ hx ⟨lk,out,ia,ib,mg,rfl,m,g1,g2,g3⟩;exact zjP O T (lk.1.trans hk) hl m g1 g2 (λz' h r _ _ _ _ e=>⟨Like.tr lk h,r,rfl,e⟩) λz' h _ _ _ _ e u1 u2 u3=>⟨Like.tr lk h,_,_,_,_,rfl,e,u1,u2,by lia⟩
end
end TS
set_option maxHeartbeats 8000000
namespace TS
open PySem PyProof.Rows
section
variable {α:Type}{le:α->α->Prop}
structure MJ (le:α->α->Prop) (a b r:List α) (na nb:Nat):Prop where
 ha:na<=a.length
 hb:nb<=b.length
 perm:(a.take na++b.take nb++r).Perm (a++b)
 sorted:r.Pairwise le
 lea:∀x∈a.take na,∀y∈r,le x y
 leb:∀x∈b.take nb,∀y∈r,le x y
theorem zeF(a:List α)(i n:Nat)(h:i<=n):a.take n=a.take i++(a.drop i).take (n-i):=by rw[<- List.take_add,show i+(n-i)=n by lia]
theorem MJ.takeA{a b r:List α}{na nb:Nat}(m:MJ le a b r na nb)(sa:a.Pairwise le)(i:Nat)(hi:i <= na)(h:∀x ∈ b.take nb, ∀y ∈ (a.drop i).take (na-i), le x y) :
  MJ le a b ((a.drop i).take (na-i)++r) i nb:=by
 have e:=zeF a i na hi;have sd:(a.take i++(a.drop i).take (na-i)).Pairwise le:=by rw[<- e];exact sa.sublist (BZ _ _)
 obtain⟨s1,s2,s3⟩:=AO.mp sd;refine⟨AS hi m.ha,m.hb,?_,AO.mpr ⟨s2,m.sorted,λx hx y hy=>m.lea x (by rw[e];exact Au _ hx) y hy⟩,λx hx y hy=>?_,λx hx y hy=>?_⟩
 .have:=m.perm;rw[e]at this;refine List.Perm.trans ?_ this;rw[At,At,At,<- At (b.take nb),<- At ((a.drop i).take (na-i))];exact List.Perm.append_left _ (List.Perm.append_right _ Cu)
 .rcases AT.mp hy with q |q
  .exact s3 x hx y q
  .exact m.lea x (by rw[e];exact Ce _ hx) y q
 .rcases AT.mp hy with q |q
  .exact h x hx y q
  .exact m.leb x hx y q
theorem MJ.takeB{a b r:List α}{na nb:Nat}(m:MJ le a b r na nb)(sb:b.Pairwise le)(i:Nat)(hi:i <= nb)(h:∀x ∈ a.take na, ∀y ∈ (b.drop i).take (nb-i), le x y) :
  MJ le a b ((b.drop i).take (nb-i)++r) na i:=by
 have e:=zeF b i nb hi;have sd:(b.take i++(b.drop i).take (nb-i)).Pairwise le:=by rw[<- e];exact sb.sublist (BZ _ _)
 obtain⟨s1,s2,s3⟩:=AO.mp sd;refine⟨m.ha,AS hi m.hb,?_,AO.mpr ⟨s2,m.sorted,λx hx y hy=>m.leb x (by rw[e];exact Au _ hx) y hy⟩,λx hx y hy=>?_,λx hx y hy=>?_⟩
 .have:=m.perm;rw[e]at this;simpa[At]using this
 .rcases AT.mp hy with q |q
  .exact h x hx y q
  .exact m.lea x hx y q
 .rcases AT.mp hy with q |q
  .exact s3 x hx y q
  .exact m.leb x (by rw[e];exact Ce _ hx) y q
theorem MJ.doneB{a b r:List α}{nb:Nat}(m:MJ le a b r 0 nb)(sb:b.Pairwise le):Res le a b (a.take 0++b.take nb++r) :=
 ⟨m.perm,by rw[List.take_zero,List.nil_append];exact AO.mpr ⟨sb.sublist (BZ _ _),m.sorted,m.leb⟩⟩
theorem MJ.doneA{a b r:List α}{na:Nat}(m:MJ le a b r na 0)(sa:a.Pairwise le):Res le a b (a.take na++b.take 0++r) :=
 ⟨m.perm,by rw[List.take_zero,AX];exact AO.mpr ⟨sa.sublist (BZ _ _),m.sorted,m.lea⟩⟩
theorem MJ.firstB{a b r:List α}{na nb:Nat}(m:MJ le a b r na nb)(sa:a.Pairwise le)(sb:b.Pairwise le)(h:∀x∈b.take nb,∀y∈a.take na,le x y):Res le a b (b.take nb++a.take na++r):=by
 refine⟨List.Perm.trans (List.Perm.append_right _ Cu) m.perm,?_⟩;refine AO.mpr ⟨AO.mpr ⟨sb.sublist (BZ _ _),sa.sublist (BZ _ _),h⟩,m.sorted,λx hx y hy=>?_⟩;rcases AT.mp hx with q |q
 .exact m.leb x q y hy
 .exact m.lea x q y hy
end
end TS
set_option maxHeartbeats 8000000
namespace TS
open PySem PyProof.Rows
section
variable {M:Model}{A:AQ}{E:Ab->Ac->Prop}{s:Ac}{kd:Cr}{S:Keyed->Prop}{L:Keyed->Keyed->Bool}{a b out:Array Keyed}{na nb:Nat}
theorem zfw{a:Array Keyed}(O:LtOk M A E s kd S L)(sa:a.toList.Pairwise (leOf L))(Sa:∀x∈a.toList,S x){i:Nat}{x y:Keyed}(h:a[i]?=some x)(hy:y∈a.toList.take (i+1)):leOf L y x:=by
 have hi:i<a.toList.length:=by have:=(Bh.mp h).1;rw[AC];exact this
 have e:a.toList.take (i+1)=a.toList.take i++[x]:=by
  rw[Dk];have:a.toList[i]?=some x:=by simpa using h
  rw[this];rfl
 rw[e]at hy;rcases AT.mp hy with q |q
 .have:=sa.sublist (BZ (i+1) _);rw[e]at this;exact (AO.mp this).2.2 y q x Av
 .rw[Ar.mp q];exact O.rf (Sa x (zam h))
theorem zee{a:Array Keyed}{i:Nat}{x:Keyed}(h:a[i]?=some x):(a.toList.drop i).take (i+1-i)=[x]:=by rw[zbV h,show i+1-i=1 by lia];rfl
theorem zlH(O:LtOk M A E s kd S L)(T:Two S L a b)(m:MJ (leOf L) a.toList b.toList out.reverse.toList (na + 1) (nb + 1)){x y:Keyed}(hb:b[nb]? = some x)(ha:a[na]? = some y)(h:L x y=true) :
  MJ (leOf L) a.toList b.toList (out.push y).reverse.toList na (nb+1):=by
 have:=m.takeA T.sa na (Cm _) λz hz w hw=>by rw[zee ha]at hw;rw[Ar.mp hw];exact O.tr z x y (T.Sb z (BJ hz)) (T.Sb x (zam hb)) (T.Sa y (zam ha)) (zfw O T.sb T.Sb hb hz) (O.as x y (T.Sb x (zam hb)) (T.Sa y (zam ha)) h)
 rw[zee ha]at this;simpa using this
theorem zlG(O:LtOk M A E s kd S L)(T:Two S L a b)(m:MJ (leOf L) a.toList b.toList out.reverse.toList (na + 1) (nb + 1)){x y:Keyed}(hb:b[nb]? = some x)(ha:a[na]? = some y)(h:L x y=false) :
  MJ (leOf L) a.toList b.toList (out.push x).reverse.toList (na+1) nb:=by
 have:=m.takeB T.sb nb (Cm _) λz hz w hw=>by rw[zee hb]at hw;rw[Ar.mp hw];exact O.tr z y x (T.Sa z (BJ hz)) (T.Sa y (zam ha)) (T.Sb x (zam hb)) (zfw O T.sa T.Sa ha hz) h
 rw[zee hb]at this;simpa using this
theorem zl0(O:LtOk M A E s kd S L)(T:Two S L a b)(m:MJ (leOf L) a.toList b.toList out.reverse.toList na (nb + 1)){x:Keyed}(hb:b[nb]? = some x)(i:Nat)(hi:i <= na)(h:∀j y, i <= j -> j < na -> a[j]? = some y -> L x y=true) :
  MJ (leOf L) a.toList b.toList (out++(a.extract i na).reverse).reverse.toList i (nb+1):=by
 have:=m.takeA T.sa i hi λz hz w hw=>by obtain⟨j,hj,e⟩:=zft hw;exact O.tr z x w (T.Sb z (BJ hz)) (T.Sb x (zam hb)) (T.Sa w (zam e)) (zfw O T.sb T.Sb hb hz) (O.as x w (T.Sb x (zam hb)) (T.Sa w (zam e)) (h (i+j) w (by lia) (by lia) e))
 have e2:(out++(a.extract i na).reverse).reverse.toList=(a.toList.drop i).take (na-i)++out.reverse.toList:=by simp[CD,B5]
 rw[e2];exact this
theorem zlZ(O:LtOk M A E s kd S L)(T:Two S L a b)(m:MJ (leOf L) a.toList b.toList out.reverse.toList (na + 1) nb){y:Keyed}(ha:a[na]? = some y)(i:Nat)(hi:i <= nb)(h:∀j x, i <= j -> j < nb -> b[j]? = some x -> L x y=false) :
  MJ (leOf L) a.toList b.toList (out++(b.extract i nb).reverse).reverse.toList (na+1) i:=by
 have:=m.takeB T.sb i hi λz hz w hw=>by obtain⟨j,hj,e⟩:=zft hw;exact O.tr z y w (T.Sa z (BJ hz)) (T.Sa y (zam ha)) (T.Sb w (zam e)) (zfw O T.sa T.Sa ha hz) (h (i+j) w (by lia) (by lia) e)
 have e2:(out++(b.extract i nb).reverse).reverse.toList=(b.toList.drop i).take (nb-i)++out.reverse.toList:=by simp[CD,B5]
 rw[e2];exact this
end
end TS
set_option maxHeartbeats 8000000
namespace TS
open PySem PyProof.Rows
section
variable {M:Model}{A:AQ}{E:Ab->Ac->Prop}{s:Ac}{kd:Cr}{S:Keyed->Prop}{L:Keyed->Keyed->Bool}{a b out:Array Keyed}{na nb:Nat}
theorem zlt(O:LtOk M A E s kd S L)(T:Two S L a b){st:AF}(hk:kindOf st=kd){x:Keyed}(Sx:S x){n:Nat}(hn:n <= a.size){Q:Option Nat -> AF -> Prop}
  (hQ:∀k,k<=n->(∀j y,j<k->a[j]?=some y->L x y=false)->(∀j y,k<=j->j<n->a[j]?=some y->L x y=true)->Q (some k) st) {hint:Nat} (hh:hint<n) :
  wpS M A E s (zca false x a 0 n hint) Q st:=by
 have at_:∀i,i<n->∃y,a[0+i]?=some y:=λi h=>⟨a[0+i]'(by lia),by simp[show i<a.size by lia]⟩
 refine zbr (b:=λi=>!(a[0+i]?.elim false λy=>L x y)) O hk Sx (λi h=>?_) (λi j hij hj q=>?_) hh λk h1 h2 h3=>?_
 .obtain⟨y,e⟩:=at_ i h;exact⟨y,e,T.Sa y (zam e),by rw[if_neg (by simp),e];rfl⟩
 .obtain⟨y,e⟩:=at_ j hj;obtain⟨z,e2⟩:=at_ i (by lia);rw[e]at q;rw[e2];have q1:L x y=false:=by simpa using q
  have le1:leOf L z y:=zcs O T.sa T.Sa e2 (by
   have:y∈(a.toList.drop (0+i)).drop (j-i):=by rw[List.drop_drop,show 0+i+(j-i)=0+j by lia,zbV e];exact Av
   exact Bs this)
  have:L x z=false:=O.tr z y x (T.Sa z (zam e2)) (T.Sa y (zam e)) Sx le1 q1;simpa using this
 .refine hQ k h1 (λj y hj e=>?_) (λj y hj hjn e=>?_)
  .have:=h2 j hj;rw[BV,e]at this;simpa using this
  .have:=h3 j hj hjn;rw[BV,e]at this;simpa using this
theorem zls(O:LtOk M A E s kd S L)(T:Two S L a b){st:AF}(hk:kindOf st=kd){y:Keyed}(Sy:S y){n:Nat}(hn:n <= b.size){Q:Option Nat -> AF -> Prop}
  (hQ:∀k,k<=n->(∀j x,j<k->b[j]?=some x->L x y=true)->(∀j x,k<=j->j<n->b[j]?=some x->L x y=false)->Q (some k) st) {hint:Nat} (hh:hint<n) :
  wpS M A E s (zca true y b 0 n hint) Q st:=by
 have at_:∀i,i<n->∃x,b[0+i]?=some x:=λi h=>⟨b[0+i]'(by lia),by simp[show i<b.size by lia]⟩
 refine zbr (b:=λi=>b[0+i]?.elim false λx=>L x y) O hk Sy (λi h=>?_) (λi j hij hj q=>?_) hh λk h1 h2 h3=>?_
 .obtain⟨x,e⟩:=at_ i h;exact⟨x,e,T.Sb x (zam e),by rw[if_pos rfl,e];rfl⟩
 .obtain⟨x,e⟩:=at_ j hj;obtain⟨z,e2⟩:=at_ i (by lia);rw[e]at q;rw[e2];have q1:L x y=true:=q;show L z y=true
  have le1:leOf L z x:=zcs O T.sb T.Sb e2 (by
   have:x∈(b.toList.drop (0+i)).drop (j-i):=by rw[List.drop_drop,show 0+i+(j-i)=0+j by lia,zbV e];exact Av
   exact Bs this)
  cases w:L z y with
  |true=>rfl
  |false =>
   have:L x y=false:=O.tr y z x Sy (T.Sb z (zam e2)) (T.Sb x (zam e)) w le1;rw[this]at q1;cases q1
 .refine hQ k h1 (λj x hj e=>?_) (λj x hj hjn e=>?_)
  .have:=h2 j hj;rw[BV,e]at this;exact this
  .have:=h3 j hj hjn;rw[BV,e]at this;exact this
theorem zbp(a:Array Keyed)(i:Nat):(a.extract 0 i).toList=a.toList.take i:=by rw[CD,B5,List.drop_zero,Nat.sub_zero]
theorem end_A(T:Two S L a b)(m:MJ (leOf L) a.toList b.toList out.reverse.toList 0 nb):Res (leOf L) a.toList b.toList (a.extract 0 0++b.extract 0 nb++out.reverse).toList:=by rw[Ba,Ba,zbp,zbp];exact m.doneB T.sb
theorem zlY(T:Two S L a b)(m:MJ (leOf L) a.toList b.toList out.reverse.toList na 0):Res (leOf L) a.toList b.toList (a.extract 0 na++b.extract 0 0++out.reverse).toList:=by rw[Ba,Ba,zbp,zbp];exact m.doneA T.sa
theorem end_B (T:Two S L a b) (h0:∀ y,b[0]?=some y→∀ x∈a.toList,leOf L y x) (m:MJ (leOf L) a.toList b.toList out.reverse.toList na 1):Res (leOf L) a.toList b.toList (b.extract 0 1++a.extract 0 na++out.reverse).toList:=by
  rw[Ba,Ba,zbp,zbp]
  refine m.firstB T.sa T.sb λx hx y hy=>?_
  cases hb:b.toList with
  | nil=>rw[hb] at hx;cases hx
  | cons z r =>
    rw[hb] at hx
    have e:x=z:=Ar.mp hx
    subst e
    exact h0 x (by have : b.toList[0]? = some x := by rw[hb]; rfl
                   simpa using this) y (BJ hy)
end
end TS
set_option maxHeartbeats 8000000
namespace TS
open PySem PyProof.Rows
section
variable {M:Model}{A:AQ}{E:Ab->Ac->Prop}{s:Ac}{kd:Cr}{S:Keyed->Prop}{L:Keyed->Keyed->Bool}{a b out:Array Keyed}{na nb:Nat}
theorem lastA(O:LtOk M A E s kd S L)(T:Two S L a b)(h1:0<na)(h2:0<nb)(m:MJ (leOf L) a.toList b.toList out.reverse.toList na nb){x y:Keyed}(hb:b[nb-1]?=some x)(ha:a[na-1]?=some y)(h:L x y=true):MJ (leOf L) a.toList b.toList (out.push y).reverse.toList (na-1) nb:=by obtain⟨p,rfl⟩:∃p,na=p+1:=⟨na-1,by lia⟩;obtain⟨q,rfl⟩:∃q,nb=q+1:=⟨nb-1,by lia⟩;exact zlH O T m hb ha h
theorem lastB(O:LtOk M A E s kd S L)(T:Two S L a b)(h1:0<na)(h2:0<nb)(m:MJ (leOf L) a.toList b.toList out.reverse.toList na nb){x y:Keyed}(hb:b[nb-1]?=some x)(ha:a[na-1]?=some y)(h:L x y=false):MJ (leOf L) a.toList b.toList (out.push x).reverse.toList na (nb-1):=by obtain⟨p,rfl⟩:∃p,na=p+1:=⟨na-1,by lia⟩;obtain⟨q,rfl⟩:∃q,nb=q+1:=⟨nb-1,by lia⟩;exact zlG O T m hb ha h
theorem backA(O:LtOk M A E s kd S L)(T:Two S L a b)(h2:0<nb)(m:MJ (leOf L) a.toList b.toList out.reverse.toList na nb){x:Keyed}(hb:b[nb-1]?=some x)(i:Nat)(hi:i<=na)(h:∀j y,i<=j->j<na->a[j]?=some y->L x y=true):MJ (leOf L) a.toList b.toList (out++(a.extract i na).reverse).reverse.toList i nb:=by obtain⟨q,rfl⟩:∃q,nb=q+1:=⟨nb-1,by lia⟩;exact zl0 O T m hb i hi h
theorem backB(O:LtOk M A E s kd S L)(T:Two S L a b)(h1:0<na)(m:MJ (leOf L) a.toList b.toList out.reverse.toList na nb){y:Keyed}(ha:a[na-1]?=some y)(i:Nat)(hi:i<=nb)(h:∀j x,i<=j->j<nb->b[j]?=some x->L x y=false):MJ (leOf L) a.toList b.toList (out++(b.extract i nb).reverse).reverse.toList na i:=by obtain⟨p,rfl⟩:∃p,na=p+1:=⟨na-1,by lia⟩;exact zlZ O T m ha i hi h
noncomputable abbrev RH:=Option (Array Keyed)×Nat×Nat×Array Keyed×Nat×Nat×Nat
noncomputable def hiC(a b:Array Keyed)(na nb:Nat)(out:Array Keyed)(mg ac bc:Nat):StateT AF Sem (ForInStep RH) :=
 elem' a (na-1) >>= λx =>
  if (na-1 == 0)=true then pure (.done (some (a.extract 0 (na-1)++b.extract 0 nb++(out.push x).reverse),na-1,nb,out.push x,mg,ac,bc))
  else if (decide (ac<7) && decide (bc<7))=true then pure (.done (none,na-1,nb,out.push x,mg,ac,bc))
  else pure (.yield (none,na-1,nb,out.push x,mg,ac,bc))
noncomputable def hiB(a b:Array Keyed)(na nb:Nat)(out:Array Keyed)(mg ac bc:Nat):StateT AF Sem (ForInStep RH) :=
 elem' b (nb-1) >>= λx =>
  if (nb-1 == 1)=true then pure (.done (some (b.extract 0 (nb-1)++a.extract 0 na++(out.push x).reverse),na,nb-1,out.push x,mg,ac,bc))
  else elem' a (na-1) >>= λy=>zca true y b 0 (nb-1) (nb-1-1) >>= λw =>
   match w with
   |some t =>
    if nb-1-t > 0 then
     if (t == 1)=true then pure (.done (some (b.extract 0 t++a.extract 0 na++(out.push x++(b.extract t (nb-1)).reverse).reverse),na,t,out.push x++(b.extract t (nb-1)).reverse,mg,ac,nb-1-t))
     else if (t == 0)=true then pure (.done (some (a.extract 0 na++b.extract 0 t++(out.push x++(b.extract t (nb-1)).reverse).reverse),na,t,out.push x++(b.extract t (nb-1)).reverse,mg,ac,nb-1-t))
     else hiC a b na t (out.push x++(b.extract t (nb-1)).reverse) mg ac (nb-1-t)
    else hiC a b na (nb-1) (out.push x) mg ac (nb-1-t)
   |_=>pure (.done (some (a.extract 0 na++b.extract 0 (nb-1)++(out.push x).reverse),na,nb-1,out.push x,mg,ac,bc))
noncomputable def hiA(a b:Array Keyed)(na nb:Nat)(out:Array Keyed)(mg ac bc:Nat):StateT AF Sem (ForInStep RH) :=
 elem' b (nb-1) >>= λx=>zca false x a 0 na (na-1) >>= λw =>
  match w with
  |some t =>
   if na-t > 0 then
    if (t == 0)=true then pure (.done (some (a.extract 0 t++b.extract 0 nb++(out++(a.extract t na).reverse).reverse),t,nb,out++(a.extract t na).reverse,mg,na-t,bc))
    else hiB a b t nb (out++(a.extract t na).reverse) mg (na-t) bc
   else hiB a b na nb out mg (na-t) bc
  |_=>pure (.done (some (a.extract 0 na++b.extract 0 nb++out.reverse),na,nb,out,mg,ac,bc))
noncomputable def hiG(a b:Array Keyed)(c:RH):StateT AF Sem (ForInStep RH) :=
 if c.2.2.2.2.1 > 1 then zeM (c.2.2.2.2.1-1) >>= λ_=>hiA a b c.2.1 c.2.2.1 c.2.2.2.1 (c.2.2.2.2.1-1) c.2.2.2.2.2.1 c.2.2.2.2.2.2
 else zeM c.2.2.2.2.1 >>= λ_=>hiA a b c.2.1 c.2.2.1 c.2.2.2.1 c.2.2.2.2.1 c.2.2.2.2.2.1 c.2.2.2.2.2.2
noncomputable abbrev RI:=Option (Array Keyed)×Nat×Nat×Array Keyed×Nat×Nat
noncomputable def hiI(a b:Array Keyed)(mg:Nat)(c:RI):StateT AF Sem (ForInStep RI) :=
 elem' b (c.2.2.1-1) >>= λx=>elem' a (c.2.1-1) >>= λy=>lt' x y >>= λw =>
  match w with
  |some v =>
   if v=true then elem' a (c.2.1-1) >>= λy =>
    if (c.2.1-1 == 0)=true then pure (.done (some (a.extract 0 (c.2.1-1)++b.extract 0 c.2.2.1++(c.2.2.2.1.push y).reverse),c.2.1-1,c.2.2.1,c.2.2.2.1.push y,c.2.2.2.2.1+1,0))
    else if c.2.2.2.2.1+1 ≥ mg then pure (.done (none,c.2.1-1,c.2.2.1,c.2.2.2.1.push y,c.2.2.2.2.1+1,0))
    else pure (.yield (none,c.2.1-1,c.2.2.1,c.2.2.2.1.push y,c.2.2.2.2.1+1,0))
   else elem' b (c.2.2.1-1) >>= λx =>
    if (c.2.2.1-1 == 1)=true then pure (.done (some (b.extract 0 (c.2.2.1-1)++a.extract 0 c.2.1++(c.2.2.2.1.push x).reverse),c.2.1,c.2.2.1-1,c.2.2.2.1.push x,0,c.2.2.2.2.2+1))
    else if c.2.2.2.2.2+1 ≥ mg then pure (.done (none,c.2.1,c.2.2.1-1,c.2.2.2.1.push x,0,c.2.2.2.2.2+1))
    else pure (.yield (none,c.2.1,c.2.2.1-1,c.2.2.2.1.push x,0,c.2.2.2.2.2+1))
  |_=>pure (.done (some (a.extract 0 c.2.1++b.extract 0 c.2.2.1++c.2.2.2.1.reverse),c.2.1,c.2.2.1,c.2.2.2.1,c.2.2.2.2.1,c.2.2.2.2.2))
noncomputable abbrev RO:=Option (Array Keyed)×Nat×Nat×Array Keyed×Nat
noncomputable def hiP(a b:Array Keyed)(mg:Nat)(c:RI):StateT AF Sem (ForInStep RO) :=
 Cs (λ_=>StateT AF Sem (ForInStep RO)) c.1 (λr=>pure (.done (some r,c.2.1,c.2.2.1,c.2.2.2.1,mg))) λ_=>(liftM (rule "list.sort.gallop"):StateT AF Sem Unit) >>= λ_=>forIn [:a.size+b.size] ((none,c.2.1,c.2.2.1,c.2.2.2.1,mg+1,c.2.2.2.2.1,c.2.2.2.2.2):RH) (λ_ c=>hiG a b c) >>= λc =>
  Cs (λ_=>StateT AF Sem (ForInStep RO)) c.1 (λr=>pure (.done (some r,c.2.1,c.2.2.1,c.2.2.2.1,c.2.2.2.2.1))) λ_=>zeM (c.2.2.2.2.1+1) >>= λ_=>pure (.yield (none,c.2.1,c.2.2.1,c.2.2.2.1,c.2.2.2.2.1+1))
noncomputable def hiO(a b:Array Keyed)(c:RO):StateT AF Sem (ForInStep RO) :=
 forIn [:a.size+b.size] ((none,c.2.1,c.2.2.1,c.2.2.2.1,0,0):RI) (λ_ d=>hiI a b c.2.2.2.2 d) >>= λd=>hiP a b c.2.2.2.2 d
noncomputable def zjN(a b:Array Keyed):StateT AF Sem (Array Keyed) :=
 (liftM (rule "list.sort.merge-hi"):StateT AF Sem Unit) >>= λ_=>elem' a (a.size-1) >>= λx =>
  if (a.size-1 == 0)=true then pure (a.extract 0 (a.size-1)++b.extract 0 b.size++#[x].reverse)
  else if (b.size == 1)=true then pure (b.extract 0 b.size++a.extract 0 (a.size-1)++#[x].reverse)
  else get >>= λs=>forIn [:a.size+b.size] ((none,a.size-1,b.size,#[x],gallopOf s):RO) (λ_ c=>hiO a b c) >>= λc =>
   Cs (λ_=>StateT AF Sem (Array Keyed)) c.1 (λr=>pure r) λ_=>unsupported "internal:list.sort.merge-bound"
theorem zh6(a b:Array Keyed):zfr a b=zjN a b:=rfl
variable {Q:ForInStep RH->AF->Prop}{z:AF}{N mg ac bc:Nat}{x y:Keyed}
theorem zhz(O:LtOk M A E s kd S L)(T:Two S L a b)(hD:∀r na nb out mg ac bc, Res (leOf L) a.toList b.toList r.toList -> Q (.done (some r, na, nb, out, mg, ac, bc)) z)
  (hN:∀na nb out mg ac bc,MJ (leOf L) a.toList b.toList out.reverse.toList na nb->0<na->1<nb->na+nb<=N->na<=a.size->nb<=b.size->Q (.done (none,na,nb,out,mg,ac,bc)) z/\Q (.yield (none,na,nb,out,mg,ac,bc)) z)
  (m:MJ (leOf L) a.toList b.toList out.reverse.toList na nb) (ea:a[na-1]?=some y) (eb:b[nb-1]?=some x) (hw:L x y=true) (g1:0<na) (g2:1<nb) (g3:na+nb<=N) (g4:na<=a.size) (g5:nb<=b.size) :
  wpS M A E s (hiC a b na nb out mg ac bc) Q z:=by
 have n4:=lastA O T g1 (by lia) m eb ea hw;refine Ah (zas ea ?_)
 by_cases e:na-1=0
 .rw[if_pos (by simp[e])];rw[e]at n4;rw[e];exact Ao (hD _ _ _ _ _ _ _ (end_A T n4))
 rw[if_neg (by simp[e])];have h:=hN _ _ _ mg ac bc n4 (by lia) g2 (by lia) (by lia) g5;split
 .exact Ao h.1
 .exact Ao h.2
theorem zhA(O:LtOk M A E s kd S L)(T:Two S L a b)(hk:kindOf z=kd)(h0:∀y, b[0]? = some y -> ∀x ∈ a.toList, leOf L y x)(hD:∀r na nb out mg ac bc, Res (leOf L) a.toList b.toList r.toList -> Q (.done (some r, na, nb, out, mg, ac, bc)) z)
  (hN:∀na nb out mg ac bc,MJ (leOf L) a.toList b.toList out.reverse.toList na nb->0<na->1<nb->na+nb<=N->na<=a.size->nb<=b.size->Q (.done (none,na,nb,out,mg,ac,bc)) z/\Q (.yield (none,na,nb,out,mg,ac,bc)) z)
  (m:MJ (leOf L) a.toList b.toList out.reverse.toList na nb) (ea:a[na-1]?=some y) (eb:b[nb-1]?=some x) (hw:L x y=false) (g1:0<na) (g2:1<nb) (g3:na+nb<=N) (g4:na<=a.size) (g5:nb<=b.size) :
  wpS M A E s (hiB a b na nb out mg ac bc) Q z:=by
 have n2:=lastB O T g1 (by lia) m eb ea hw;refine Ah (zas eb ?_)
 by_cases e3:nb-1=1
 .rw[if_pos (by simp[e3])];rw[e3]at n2;rw[e3];exact Ao (hD _ _ _ _ _ _ _ (end_B T h0 n2))
 rw[if_neg (by simp[e3])];refine Ah (zas ea ?_);refine Ah (zls O T hk (T.Sa _ (zam ea)) (by lia) (λt r1 r2 r3=>?_) (by lia));dsimp only
 by_cases hk1:nb-1-t > 0
 .rw[if_pos hk1];have n3:=backB O T g1 n2 ea t r1 r3
  by_cases e4:t=1
  .rw[if_pos (by simp[e4])];rw[e4]at n3;rw[e4];exact Ao (hD _ _ _ _ _ _ _ (end_B T h0 n3))
  rw[if_neg (by simp[e4])]
  by_cases e6:t=0
  .rw[if_pos (by simp[e6])];rw[e6]at n3;rw[e6];exact Ao (hD _ _ _ _ _ _ _ (zlY T n3))
  rw[if_neg (by simp[e6])];have hl:t-1<b.size:=by lia
  exact zhz O T hD hN n3 ea (by simp[hl]) (r2 (t-1) b[t-1] (by lia) (by simp[hl])) g1 (by lia) (by lia) g4 (by lia)
 rw[if_neg hk1];have hl:nb-1-1<b.size:=by lia
 exact zhz O T hD hN n2 ea (by simp[hl]) (r2 (nb-1-1) b[nb-1-1] (by lia) (by simp[hl])) g1 (by lia) (by lia) g4 (by lia)
theorem zjZ(O:LtOk M A E s kd S L)(T:Two S L a b)(hk:kindOf z=kd)(h0:∀y, b[0]? = some y -> ∀x ∈ a.toList, leOf L y x)(hD:∀r na nb out mg ac bc, Res (leOf L) a.toList b.toList r.toList -> Q (.done (some r, na, nb, out, mg, ac, bc)) z)
  (hN:∀na nb out mg ac bc,MJ (leOf L) a.toList b.toList out.reverse.toList na nb->0<na->1<nb->na+nb<=N->na<=a.size->nb<=b.size->Q (.done (none,na,nb,out,mg,ac,bc)) z/\Q (.yield (none,na,nb,out,mg,ac,bc)) z)
  (m:MJ (leOf L) a.toList b.toList out.reverse.toList na nb) (g1:0<na) (g2:1<nb) (g3:na+nb<=N) (g4:na<=a.size) (g5:nb<=b.size) :
  wpS M A E s (hiA a b na nb out mg ac bc) Q z:=by
 have hb:nb-1<b.size:=by lia
 have eb:b[nb-1]?=some b[nb-1]:=by simp[hb]
 refine Ah (zas eb ?_);refine Ah (zlt O T hk (T.Sb _ (zam eb)) g4 (λt q1 q2 q3=>?_) (by lia));dsimp only
 by_cases hk0:na-t > 0
 .rw[if_pos hk0];have n1:=backA O T (by lia) m eb t q1 q3
  by_cases e1:t=0
  .rw[if_pos (by simp[e1])];rw[e1]at n1;rw[e1];exact Ao (hD _ _ _ _ _ _ _ (end_A T n1))
  rw[if_neg (by simp[e1])];have hl:t-1<a.size:=by lia
  exact zhA O T hk h0 hD hN n1 (by simp[hl]) eb (q2 (t-1) a[t-1] (by lia) (by simp[hl])) (by lia) g2 (by lia) (by lia) g5
 rw[if_neg hk0];have hl:na-1<a.size:=by lia
 exact zhA O T hk h0 hD hN m (by simp[hl]) eb (q2 (na-1) a[na-1] (by lia) (by simp[hl])) g1 g2 g3 g4 g5
theorem zjX{Q:ForInStep RI -> AF -> Prop}(O:LtOk M A E s kd S L)(T:Two S L a b)(hk:kindOf z=kd)(h0:∀y, b[0]? = some y -> ∀x ∈ a.toList, leOf L y x)(m:MJ (leOf L) a.toList b.toList out.reverse.toList na nb)(g1 : 0 < na)(g2 : 1 < nb)(g4:na <= a.size)(g5:nb <= b.size)
  (hD:∀r na nb out ac bc,Res (leOf L) a.toList b.toList r.toList->Q (.done (some r,na,nb,out,ac,bc)) z)
  (hN:∀na' nb' out ac bc,MJ (leOf L) a.toList b.toList out.reverse.toList na' nb'->0<na'->1<nb'->na'+nb'+1<=na+nb->na'<=a.size->nb'<=b.size->Q (.done (none,na',nb',out,ac,bc)) z/\Q (.yield (none,na',nb',out,ac,bc)) z) :
  wpS M A E s (hiI a b mg (none,na,nb,out,ac,bc)) Q z:=by
 obtain⟨xb,eb⟩:∃x,b[nb-1]?=some x:=⟨b[nb-1]'(by lia),by simp[show nb-1<b.size by lia]⟩;obtain⟨xa,ea⟩:∃x,a[na-1]?=some x:=⟨a[na-1]'(by lia),by simp[show na-1<a.size by lia]⟩;refine Ah (zas eb (Ah (zas ea (Ah (O.lt xb xa (T.Sb _ (zam eb)) (T.Sa _ (zam ea)) _ _ hk ?_)))));dsimp only
 cases hw:L xb xa with
 |true =>
  rw[if_pos rfl];have m2:=lastA O T g1 (by lia) m eb ea hw;refine Ah (zas ea ?_)
  by_cases e:na-1=0
  .rw[if_pos (by simp[e])];rw[e]at m2;rw[e];exact Ao (hD _ _ _ _ _ _ (end_A T m2))
  rw[if_neg (by simp[e])];have h:=hN _ _ _ (ac+1) 0 m2 (by lia) g2 (by lia) (by lia) g5;split
  .exact Ao h.1
  .exact Ao h.2
 |false =>
  rw[if_neg (by simp)];have m2:=lastB O T g1 (by lia) m eb ea hw;refine Ah (zas eb ?_)
  by_cases e:nb-1=1
  .rw[if_pos (by simp[e])];rw[e]at m2;rw[e];exact Ao (hD _ _ _ _ _ _ (end_B T h0 m2))
  rw[if_neg (by simp[e])];have h:=hN _ _ _ 0 (bc+1) m2 g1 (by lia) (by lia) g4 (by lia);split
  .exact Ao h.1
  .exact Ao h.2
theorem zjY(O:LtOk M A E s kd S L)(T:Two S L a b)(hk:kindOf z=kd)(h0:∀y, b[0]? = some y -> ∀x ∈ a.toList, leOf L y x)(hD:∀z', Like z z' -> ∀r na nb out mg ac bc, Res (leOf L) a.toList b.toList r.toList -> Q (.done (some r, na, nb, out, mg, ac, bc)) z')
  (hN:∀z',Like z z'->∀na nb out mg ac bc,MJ (leOf L) a.toList b.toList out.reverse.toList na nb->0<na->1<nb->na+nb<=N->na<=a.size->nb<=b.size->Q (.done (none,na,nb,out,mg,ac,bc)) z'/\Q (.yield (none,na,nb,out,mg,ac,bc)) z')
  (m:MJ (leOf L) a.toList b.toList out.reverse.toList na nb) (g1:0<na) (g2:1<nb) (g3:na+nb<=N) (g4:na<=a.size) (g5:nb<=b.size) :
  wpS M A E s (hiG a b (none,na,nb,out,mg,ac,bc)) Q z:=by
 have key:∀z',Like z z'->∀mg,wpS M A E s (hiA a b na nb out mg ac bc) Q z':=λz' h mg=>zjZ O T (h.1.trans hk) h0 (hD z' h) (hN z' h) m g1 g2 g3 g4 g5
 unfold hiG;split
 .exact Ah (BE (key _ (by exact Like.refl z) _))
 .exact Ah (BE (key _ (by exact Like.refl z) _))
theorem zjV{Q:ForInStep RO -> AF -> Prop}(O:LtOk M A E s kd S L)(T:Two S L a b)(hk:kindOf z=kd)(h0:∀y, b[0]? = some y -> ∀x ∈ a.toList, leOf L y x)(m:MJ (leOf L) a.toList b.toList out.reverse.toList na nb)(g1 : 0 < na)(g2 : 1 < nb)(g3:na + nb <= N)(g4:na <= a.size)(g5:nb <= b.size)
  (hD:∀z',Like z z'->∀r na nb out mg,Res (leOf L) a.toList b.toList r.toList->Q (.done (some r,na,nb,out,mg)) z')
  (hN:∀z',Like z z'->∀na nb out mg,MJ (leOf L) a.toList b.toList out.reverse.toList na nb->0<na->1<nb->na+nb<=N->na<=a.size->nb<=b.size->Q (.yield (none,na,nb,out,mg)) z') :
  wpS M A E s (hiP a b mg (none,na,nb,out,ac,bc)) Q z:=by
 refine Ah (wpS_lift (CN ⟨rfl,?_⟩))
 refine Ah (B7 (Bn (I:=λy c w=>Like z w/\∃na nb out mg ac bc,c=(none,na,nb,out,mg,ac,bc)/\MJ (leOf L) a.toList b.toList out.reverse.toList na nb/\0<na/\1<nb/\na+nb<=N/\na<=a.size/\nb<=b.size)
  (Q:=λc w=>Like z w/\((∃r,c.1=some r/\Res (leOf L) a.toList b.toList r.toList)∨∃na nb out mg ac bc,c=(none,na,nb,out,mg,ac,bc)/\MJ (leOf L) a.toList b.toList out.reverse.toList na nb/\0<na/\1<nb/\na+nb<=N/\na<=a.size/\nb<=b.size)) ?_ ?_ ⟨Like.refl _,_,_,_,_,_,_,rfl,m,g1,g2,g3,g4,g5⟩) ?_)
 .rintro y c w _ hy ⟨lk,na,nb,out,mg,ac,bc,rfl,m,k1,k2,k3,k4,k5⟩;exact zjY O T (lk.1.trans hk) h0 (λw' h r _ _ _ _ _ _ e=>⟨Like.tr lk h,.inl ⟨r,rfl,e⟩⟩) (λw' h _ _ _ _ _ _ e u1 u2 u3 u4 u5=>⟨⟨Like.tr lk h,.inr ⟨_,_,_,_,_,_,rfl,e,u1,u2,u3,u4,u5⟩⟩,Like.tr lk h,_,_,_,_,_,_,rfl,e,u1,u2,u3,u4,u5⟩) m k1 k2 k3 k4 k5
 .rintro c w ⟨lk,r⟩;exact⟨lk,.inr r⟩
 .rintro c w ⟨lk,hc⟩;rcases hc with⟨r,e,res⟩ |⟨na,nb,out,mg,ac,bc,rfl,m,k1,k2,k3,k4,k5⟩
  .rw[e];exact Ao (hD w lk _ _ _ _ _ res)
  .exact Ah (BE (Ao (hN _ (by exact lk) _ _ _ _ m k1 k2 k3 k4 k5)))
theorem zjW{Q:ForInStep RO -> AF -> Prop}(O:LtOk M A E s kd S L)(T:Two S L a b)(hk:kindOf z=kd)(h0:∀y, b[0]? = some y -> ∀x ∈ a.toList, leOf L y x)(m:MJ (leOf L) a.toList b.toList out.reverse.toList na nb)(g1 : 0 < na)(g2 : 1 < nb)(g3:na + nb <= a.size + b.size)(g4:na <= a.size)(g5:nb <= b.size)
  (hD:∀z',Like z z'->∀r na nb out mg,Res (leOf L) a.toList b.toList r.toList->Q (.done (some r,na,nb,out,mg)) z')
  (hN:∀z',Like z z'->∀na' nb' out mg,MJ (leOf L) a.toList b.toList out.reverse.toList na' nb'->0<na'->1<nb'->na'+nb'+1<=na+nb->na'<=a.size->nb'<=b.size->Q (.yield (none,na',nb',out,mg)) z') :
  wpS M A E s (hiO a b (none,na,nb,out,mg)) Q z:=by
 refine Ah (B7 (Bn (I:=λy c w=>w=z/\∃na' nb' out ac bc,c=(none,na',nb',out,ac,bc)/\MJ (leOf L) a.toList b.toList out.reverse.toList na' nb'/\0<na'/\1<nb'/\na'+nb'+y<=na+nb/\na'<=a.size/\nb'<=b.size)
  (Q:=λc w=>w=z/\((∃r,c.1=some r/\Res (leOf L) a.toList b.toList r.toList)∨∃na' nb' out ac bc,c=(none,na',nb',out,ac,bc)/\MJ (leOf L) a.toList b.toList out.reverse.toList na' nb'/\0<na'/\1<nb'/\na'+nb'+1<=na+nb/\na'<=a.size/\nb'<=b.size)) ?_ ?_ ⟨rfl,_,_,_,_,_,rfl,m,g1,g2,by lia,g4,g5⟩) ?_)
 .rintro y c w _ hy ⟨rfl,na',nb',out',ac,bc,rfl,m',j1,j2,j3,j4,j5⟩;exact zjX O T hk h0 m' j1 j2 j4 j5 (λr _ _ _ _ _ e=>⟨rfl,.inl ⟨r,rfl,e⟩⟩) λ_ _ _ _ _ e u1 u2 u3 u4 u5=>⟨⟨rfl,.inr ⟨_,_,_,_,_,rfl,e,u1,u2,by lia,u4,u5⟩⟩,rfl,_,_,_,_,_,rfl,e,u1,u2,by lia,u4,u5⟩
 .rintro c w ⟨rfl,na',nb',out',ac,bc,rfl,m',j1,j2,j3,j4,j5⟩;exact⟨rfl,.inr ⟨na',nb',out',ac,bc,rfl,m',j1,j2,by lia,j4,j5⟩⟩
 .rintro c w ⟨rfl,hc⟩;rcases hc with⟨r,e,res⟩ |⟨na',nb',out',ac,bc,rfl,m',j1,j2,j3,j4,j5⟩
  .unfold hiP;rw[e];exact Ao (hD _ (Like.refl _) _ _ _ _ _ res)
  .exact zjV (N:=na'+nb') O T hk h0 m' j1 j2 (An _) j4 j5 hD λz' h _ _ _ _ e u1 u2 u3 u4 u5=>hN z' h _ _ _ _ e u1 u2 (by lia) u4 u5
end
section
variable {M:Model}{A:AQ}{E:Ab->Ac->Prop}{s:Ac}{kd:Cr}{S:Keyed->Prop}{L:Keyed->Keyed->Bool}{a b:Array Keyed}
theorem zgf(O:LtOk M A E s kd S L)(T:Two S L a b){st:AF}{Q:Array Keyed -> AF -> Prop}(hk:kindOf st=kd)(ha : 0 < a.size)(hb : 0 < b.size)(h0:∀y, b[0]? = some y -> ∀x ∈ a.toList, leOf L y x)
  (hl:∀z,a[a.size-1]?=some z->∀x∈b.toList,leOf L x z) (hQ:∀r st',Res (leOf L) a.toList b.toList r.toList->Like st st'->Q r st'):wpS M A E s (zfr a b) Q st:=by
 rw[zh6];have atA:∀i,i<a.size->∃x,a[i]?=some x:=λi h=>⟨a[i],by simp[h]⟩
 have atB:∀i,i<b.size->∃x,b[i]?=some x:=λi h=>⟨b[i],by simp[h]⟩
 obtain⟨a1,e1⟩:=atA (a.size-1) (by lia);have mS:MJ (leOf L) a.toList b.toList (#[]:Array Keyed).reverse.toList a.size b.size:=⟨by simp,by simp,by rw[Bz (by simp),Bz (by simp)];simp,by simp,(λ_ _ _ h=>by simp at h),(λ_ _ _ h=>by simp at h)⟩
 have m0:MJ (leOf L) a.toList b.toList (#[a1]:Array Keyed).reverse.toList (a.size-1) b.size:=by
  have hc:=zee e1;rw[show a.size-1+1=a.size by lia]at hc
  have:=mS.takeA T.sa (a.size-1) (by lia) λx hx y hy=>by rw[hc]at hy;rw[Ar.mp hy];exact hl a1 e1 x (BJ hx)
  rw[hc]at this;simpa using this
 refine Ah (wpS_lift (CN ⟨rfl,?_⟩));refine Ah (zas e1 ?_)
 by_cases ha1:a.size-1=0
 .rw[if_pos (by simp[ha1])];rw[ha1]at m0;rw[ha1];exact Ao (hQ _ _ (end_A T m0) (Like.refl _))
 rw[if_neg (by simp[ha1])]
 by_cases hb1:b.size=1
 .rw[if_pos (by simp[hb1])];rw[hb1]at m0;rw[hb1];exact Ao (hQ _ _ (end_B T h0 m0) (Like.refl _))
 rw[if_neg (by simp[hb1])];refine Ah (Dm ?_)
 refine Ah (B7 (Bn (I:=λx c st'=>Like st st'/\∃na nb out mg,c=(none,na,nb,out,mg)/\MJ (leOf L) a.toList b.toList out.reverse.toList na nb/\0<na/\1<nb/\na+nb+x+1<=a.size+b.size/\na<=a.size/\nb<=b.size)
  (Q:=λc st'=>Like st st'/\∃r,c.1=some r/\Res (leOf L) a.toList b.toList r.toList) ?step ?fin ⟨Like.refl _,_,_,_,_,rfl,m0,by lia,by lia,by lia,by lia,by lia⟩) ?post)
 case fin =>
  rintro c st' ⟨_,na,nb,out,mg,rfl,m,g1,g2,g3,g4,g5⟩;exact absurd g3 (by lia)
 case post =>
  rintro c st' ⟨lk,r,e,res⟩;rw[e];exact Ao (hQ r st' res lk)
 case step =>
  rintro x c st' _ hx ⟨lk,na,nb,out,mg,rfl,m,g1,g2,g3,g4,g5⟩;exact zjW O T (lk.1.trans hk) h0 m g1 g2 (by lia) g4 g5 (λz' h r _ _ _ _ e=>⟨Like.tr lk h,r,rfl,e⟩) λz' h _ _ _ _ e u1 u2 u3 u4 u5=>⟨Like.tr lk h,_,_,_,_,rfl,e,u1,u2,by lia,u4,u5⟩
end
end TS
namespace TS
open PySem PyProof.Rows
section
variable {M:Model}{A:AQ}{E:Ab->Ac->Prop}{s:Ac}{kd:Cr}{S:Keyed->Prop}{L:Keyed->Keyed->Bool}
noncomputable def Seg(L:Keyed->Keyed->Bool)(a:Array Keyed)(lo n:Nat):Prop:=∀(i j:Nat) x y,i<=j->j<n->a[lo+i]?=some x->a[lo+j]?=some y->L y x=false
noncomputable def Rev(L:Keyed->Keyed->Bool)(a:Array Keyed)(lo n:Nat):Prop:=∀(i j:Nat) x y,i<=j->j<n->a[lo+i]?=some x->a[lo+j]?=some y->L x y=false
structure SB (kd:Cr) (S:Keyed->Prop) (st0 st:AF) (lo hi:Nat):Prop where
 kind:kindOf st=kd
 pend:AG st=AG st0
 fail:BX st=BX st0
 perm:(Aq st).Perm (Aq st0)
 out:∀k:Nat,k<lo∨hi<=k->(Aq st)[k]?=(Aq st0)[k]?
 all:∀(k:Nat) x,(Aq st)[k]?=some x->S x
theorem SB.size{st0 st:AF}{lo hi:Nat}(h:SB kd S st0 st lo hi):(Aq st).size=(Aq st0).size:=h.perm.size_eq
theorem zeD(O:LtOk M A E s kd S L){st:AF}{i j:Nat}{x y:Keyed}{Q:Option Bool->AF->Prop}(hk:kindOf st=kd)(hi:(Aq st)[i]?=some x)(hj:(Aq st)[j]?=some y)(sx:S x)(sy:S y)(q:Q (some (L x y)) st):wpS M A E s (ltAt' i j) Q st:=by rw[ltAt'_eq];refine Ah (Dm ?_);refine Ah (zas hi ?_);refine Ah (zas hj ?_);exact O.lt x y sx sy st Q hk q
theorem zbn{st:AF}{i:Nat}(h:i<(Aq st).size):∃x,(Aq st)[i]?=some x:=⟨(Aq st)[i],by simp[h]⟩
theorem Seg.more(O:LtOk M A E s kd S L){a:Array Keyed}{lo n:Nat}{x y:Keyed}(hS:∀(k:Nat) x,a[k]?=some x->S x)(h:Seg L a lo (n+1))(hx:a[lo+n]?=some x)(hy:a[lo+(n+1)]?=some y)(hl:L y x=false):Seg L a lo (n+2):=by
 intro i j u v hij hj hu hv;rcases AY j (n+1) with q |q
 .exact h i j u v hij q hu hv
 .have ej:j=n+1:=by lia
  subst ej;rw[hy]at hv
  cases hv
  rcases AY i (n+1) with q2 |q2
  .have h1:=h i n u x (by lia) (by lia) hu hx;exact O.tr u x y (hS _ _ hu) (hS _ _ hx) (hS _ _ hy) h1 hl
  .have ei:i=n+1:=by lia
   subst ei;rw[hy]at hu
   cases hu
   exact O.rf (hS _ _ hy)
noncomputable def Blk(L:Keyed->Keyed->Bool)(a:Array Keyed)(lo n q:Nat):Prop:=∀(i j:Nat) x y,n-(q+1)<=i->i<n->n-(q+1)<=j->j<n->a[lo+i]?=some x->a[lo+j]?=some y->L x y=false
theorem SB.refl{st:AF}{lo hi:Nat}(hk:kindOf st=kd)(hS:∀(k:Nat) x,(Aq st)[k]?=some x->S x):SB kd S st st lo hi:=⟨hk,rfl,rfl,Dz _,λ_ _=>rfl,hS⟩
theorem SB.mir{st0 st:AF}{lo hi i j:Nat}(h:SB kd S st0 st lo hi)(h1:lo<=i)(h2:j<=hi)(hz:j<=(Aq st).size):SB kd S st0 (setArr st (mirror (Aq st) i j ((j-i) / 2))) lo hi:=by
 refine⟨h.kind,h.pend,h.fail,(mirror_perm _ _ _ _).trans h.perm,λk hk=>?_,λk x hx=>?_⟩
 .show (mirror (Aq st) i j ((j-i) / 2))[k]?=_;rw[BC hz,if_neg (by lia)];exact h.out k hk
 .have hx':(mirror (Aq st) i j ((j-i) / 2))[k]?=some x:=hx;rw[BC hz]at hx';split at hx'
  .exact h.all _ x hx'
  .exact h.all _ x hx'
theorem Rev.blk{a:Array Keyed}{lo n q:Nat}(h:Rev L a lo n)(hb:Blk L a lo n q)(hq:q<n)(hz:lo+n<=a.size):Rev L (mirror a (lo+n-(q+1)) (lo+n) ((lo+n-(lo+n-(q+1))) / 2)) lo n:=by
 intro i j x y hij hj hx hy;rw[BC hz]at hx hy
 by_cases hi:lo+n-(q+1)<=lo+i/\lo+i<lo+n
 .rw[if_pos hi]at hx;rw[if_pos (by lia)]at hy;rw[show lo+n-(q+1)+(lo+n)-1-(lo+i)=lo+(n-(q+1)+n-1-i) by lia]at hx;rw[show lo+n-(q+1)+(lo+n)-1-(lo+j)=lo+(n-(q+1)+n-1-j) by lia]at hy;exact hb _ _ x y (by lia) (by lia) (by lia) (by lia) hx hy
 .rw[if_neg hi]at hx
  by_cases hj':lo+n-(q+1)<=lo+j/\lo+j<lo+n
  .rw[if_pos hj']at hy;rw[show lo+n-(q+1)+(lo+n)-1-(lo+j)=lo+(n-(q+1)+n-1-j) by lia]at hy;exact h i _ x y (by lia) (by lia) hx hy
  .rw[if_neg hj']at hy;exact h i j x y hij hj hx hy
theorem Rev.flip{a:Array Keyed}{lo n:Nat}(h:Rev L a lo n)(hz:lo+n<=a.size):Seg L (mirror a lo (lo+n) ((lo+n-lo) / 2)) lo n:=by intro i j x y hij hj hx hy;rw[BC hz,if_pos (by lia)]at hx hy;rw[show lo+(lo+n)-1-(lo+i)=lo+(n-1-i) by lia]at hx;rw[show lo+(lo+n)-1-(lo+j)=lo+(n-1-j) by lia]at hy;exact h _ _ y x (by lia) (by lia) hy hx
theorem Rev.more(O:LtOk M A E s kd S L){a:Array Keyed}{lo n:Nat}{x y:Keyed}(hS:∀(k:Nat) x,a[k]?=some x->S x)(h:Rev L a lo (n+1))(hx:a[lo+n]?=some x)(hy:a[lo+(n+1)]?=some y)(hl:L x y=false):Rev L a lo (n+2):=by
 intro i j u v hij hj hu hv;rcases AY j (n+1) with q |q
 .exact h i j u v hij q hu hv
 .have ej:j=n+1:=by lia
  subst ej;rw[hy]at hv
  cases hv
  rcases AY i (n+1) with q2 |q2
  .have h1:=h i n u x (by lia) (by lia) hu hx;exact O.tr y x u (hS _ _ hy) (hS _ _ hx) (hS _ _ hu) hl h1
  .have ei:i=n+1:=by lia
   subst ei;rw[hy]at hu
   cases hu
   exact O.rf (hS _ _ hy)
theorem Blk.more(O:LtOk M A E s kd S L){a:Array Keyed}{lo n q:Nat}{x y:Keyed}(hS:∀(k:Nat) x,a[k]?=some x->S x)(h:Blk L a lo (n+1) q)(hq:q<n+1)(hx:a[lo+n]?=some x)(hy:a[lo+(n+1)]?=some y)(h1:L x y=false)(h2:L y x=false):Blk L a lo (n+2) (q+1):=by
 have old:∀(i:Nat) u,n+1-(q+1)<=i->i<n+1->a[lo+i]?=some u->L u y=false/\L y u=false:=λi u a1 a2 hu=>by have e1:=h i n u x a1 a2 (by lia) (by lia) hu hx;have e2:=h n i x u (by lia) (by lia) a1 a2 hx hu;exact⟨O.tr y x u (hS _ _ hy) (hS _ _ hx) (hS _ _ hu) h1 e1,O.tr u x y (hS _ _ hu) (hS _ _ hx) (hS _ _ hy) e2 h2⟩
 intro i j u v a1 a2 b1 b2 hu hv;rcases AY i (n+1) with ci |ci
 .rcases AY j (n+1) with cj |cj
  .exact h i j u v (by lia) ci (by lia) cj hu hv
  .have ej:j=n+1:=by lia
   subst ej;rw[hy]at hv;cases hv;exact (old i u (by lia) ci hu).1
 .have ei:i=n+1:=by lia
  subst ei;rw[hy]at hu;cases hu;rcases AY j (n+1) with cj |cj
  .exact (old j v (by lia) cj hv).2
  .have ej:j=n+1:=by lia
   subst ej;rw[hy]at hv;cases hv;exact O.rf (hS _ _ hy)
theorem Blk.one(O:LtOk M A E s kd S L){a:Array Keyed}{lo n:Nat}(hS:∀(k:Nat) x,a[k]?=some x->S x):Blk L a lo (n+1) 0:=λi j x y a1 a2 b1 b2 hx hy=>by
 have ei:i=n:=by lia
 have ej:j=n:=by lia
 subst ei;subst ej;rw[hx]at hy;cases hy;exact O.rf (hS _ _ hx)
theorem zfS{B:Prop}{D:AF->Prop}(C:AF->Prop)(g:(∀st,D st->C st)->B)(h:∀st,D st->C st):B:=g h
theorem zfF (O : LtOk M A E s kd S L){st : AF}{lo nrem : Nat}{Q : Option Nat → AF → Prop}(h1 : 1 ≤ nrem) (hz : lo + nrem ≤ (Aq st).size) (hk : kindOf st = kd) (hS : ∀ (k : Nat) x, (Aq st)[k]? = some x → S x)
    (hQ:∀ m st',SB kd S st st' lo (lo+nrem)→1≤m→m≤nrem→Seg L (Aq st') lo m→Q (some m) st'):wpS M A E s (countRun' lo nrem) Q st:=by
  rw[countRun'_eq]
  refine Ah (B7 (Bn (I:=λx c st'=>c=(none,x)∧st'=st∧x≤nrem∧Seg L (Aq st) lo x)
    (Q:=λc st'=>∃ m,c=(none,m)∧st'=st∧1≤m∧m≤nrem∧Seg L (Aq st) lo m∧(m<nrem→∃ x y,(Aq st)[lo+m]?=some x∧(Aq st)[lo+m - 1]?=some y∧L x y=true)) ?step ?fin ?init) ?post)
  case init =>
    refine⟨rfl,rfl,h1,λi j x y hij hj hx hy=>?_⟩
    have ei:i=0:=by lia
    have ej:j=0:=by lia
    subst ei;subst ej
    rw[hx] at hy
    cases hy
    exact O.rf (hS _ _ hx)
  case fin =>
    rintro c st' ⟨rfl,rfl,hle,hsg⟩
    exact⟨_,rfl,rfl,by lia,hle,hsg,λh=>absurd h (by lia)⟩
  case step =>
    rintro n c st' hn1 hn2 ⟨rfl,rfl,hle,hsg⟩
    obtain⟨x,hx⟩:=zbn (st:=st') (i:=lo+n) (by lia)
    obtain⟨y,hy⟩:=zbn (st:=st') (i:=lo+n - 1) (by lia)
    refine Ah (zeD O hk hx hy (hS _ _ hx) (hS _ _ hy) ?_)
    dsimp only
    by_cases hl:L x y=true
    . rw[if_pos hl]
      exact Ao ⟨n,rfl,rfl,hn1,hle,hsg,λ_=>⟨x,y,hx,hy,hl⟩⟩
    . rw[if_neg hl]
      refine Ao ⟨rfl,rfl,hn2,?_⟩
      obtain⟨p,rfl⟩:∃ p,n=p+1:=⟨n - 1,by lia⟩
      exact hsg.more O hS (by rw[show lo+(p+1) - 1=lo+p by lia] at hy;exact hy) hx (by simpa using hl)
  case post =>
    rintro c st' ⟨m,rfl,rfl,hm1,hm2,hsg,hnx⟩
    dsimp only
    by_cases hmn:(m == nrem)=true
    . rw[if_pos hmn]
      exact Ao (hQ m st' (SB.refl hk hS) hm1 hm2 hsg)
    . rw[if_neg hmn]
      have hlt : m < nrem := by have : m ≠ nrem := by simpa using hmn
                                lia
      obtain⟨x0,y0,hx0,hy0,hl0⟩:=hnx hlt
      refine zfS (D:=λst1=>SB kd S st' st1 lo (lo+nrem)∧Rev L (Aq st1) lo m∧(∃ x y,(Aq st1)[lo+m]?=some x∧(Aq st1)[lo+m - 1]?=some y∧L y x=false)) ?C (λshare=>?g) ?h
      case g =>
        by_cases hm:m > 1
        . rw[if_pos hm]
          obtain⟨a,ha⟩:=zbn (st:=st') (i:=lo) (by lia)
          obtain⟨b,hb⟩:=zbn (st:=st') (i:=lo+m - 1) (by lia)
          refine Ah (zeD O hk ha hb (hS _ _ ha) (hS _ _ hb) ?_)
          dsimp only
          by_cases hr:L a b=true
          . rw[if_pos hr]
            exact Ao (hQ m st' (SB.refl hk hS) hm1 hm2 hsg)
          . rw[if_neg hr]
            have hr':L a b=false:=by simpa using hr
            rw[reverseSlice'_eq]
            refine Ah (BE ?_)
            have hz2:lo+m≤(Aq st').size:=by lia
            have hb':(Aq st')[lo+(m - 1)]?=some b:=by rw[show lo+(m - 1)=lo+m - 1 by lia];exact hb
            have eqv:Rev L (Aq st') lo m:=λi j x y hij hj hx hy=>by
              have e1:=hsg 0 j a y (by lia) hj (by simpa using ha) hy
              have e2:=hsg i (m - 1) x b (by lia) (by lia) hx hb'
              have e3:=O.tr x b a (hS _ _ hx) (hS _ _ hb) (hS _ _ ha) e2 hr'
              have e4:=hsg j (m - 1) y b (by lia) (by lia) hy hb'
              have e5:=hsg 0 i a x (by lia) (by lia) (by simpa using ha) hx
              exact O.tr y b x (hS _ _ hy) (hS _ _ hb) (hS _ _ hx) e4 (O.tr b a x (hS _ _ hb) (hS _ _ ha) (hS _ _ hx) hr' e5)
            have rv2:Rev L (mirror (Aq st') lo (lo+m) ((lo+m - lo) / 2)) lo m:=λi j x y hij hj hx hy=>by
              rw[BC hz2,if_pos (by lia)] at hx hy
              rw[show lo+(lo+m) - 1 - (lo+i)=lo+(m - 1 - i) by lia] at hx
              rw[show lo+(lo+m) - 1 - (lo+j)=lo+(m - 1 - j) by lia] at hy
              exact hsg _ _ y x (by lia) (by lia) hy hx
            refine share _ ⟨(SB.refl hk hS).mir (An _) (by lia) hz2,rv2,x0,a,?_,?_,?_⟩
            . show (mirror (Aq st') lo (lo+m) ((lo+m - lo) / 2))[lo+m]?=_
              rw[BC hz2,if_neg (by lia)];exact hx0
            . show (mirror (Aq st') lo (lo+m) ((lo+m - lo) / 2))[lo+m - 1]?=_
              rw[BC hz2,if_pos (by lia),show lo+(lo+m) - 1 - (lo+m - 1)=lo by lia];exact ha
            . have eb:b=y0:=by rw[hb] at hy0;exact AJ hy0
              subst eb
              exact O.tr x0 b a (hS _ _ hx0) (hS _ _ hb) (hS _ _ ha) (O.as x0 b (hS _ _ hx0) (hS _ _ hb) hl0) hr'
        . rw[if_neg hm]
          have em:m=1:=by lia
          subst em
          refine share _ ⟨SB.refl hk hS,λi j x y hij hj hx hy=>?_,x0,y0,hx0,hy0,O.as x0 y0 (hS _ _ hx0) (hS _ _ hy0) hl0⟩
          have ei:i=0:=by lia
          have ej:j=0:=by lia
          subst ei;subst ej
          rw[hx] at hy;cases hy
          exact O.rf (hS _ _ hx)
      case h =>
        rintro st1 ⟨sb1,rv1,x1,y1,hx1,hy1,hl1⟩
        have hz1:lo+nrem≤(Aq st1).size:=by rw[sb1.size];exact hz
        refine Ah (wpS_lift (CN ⟨rfl,?_⟩))
        obtain⟨p,rfl⟩:∃ p,m=p+1:=⟨m - 1,by lia⟩
        rw[show lo+(p+1) - 1=lo+p by lia] at hy1
        have rv2:Rev L (Aq st1) lo (p+1+1):=rv1.more O sb1.all hy1 hx1 hl1
        refine Ah (B7 (Bn (I:=λx c st2=>∃ q,c=(none,x,q)∧SB kd S st' st2 lo (lo+nrem)∧1≤x∧x≤nrem∧q<x∧Rev L (Aq st2) lo x∧Blk L (Aq st2) lo x q)
          (Q:=λc st2=>∃ x q,c=(none,x,q)∧SB kd S st' st2 lo (lo+nrem)∧1≤x∧x≤nrem∧q<x∧Rev L (Aq st2) lo x∧Blk L (Aq st2) lo x q) ?step ?fin ⟨0,rfl,sb1,by lia,by lia,by lia,rv2,Blk.one O sb1.all⟩) ?post)
        case fin =>
          rintro c st2 ⟨q,rfl,hh⟩
          exact⟨_,q,rfl,hh⟩
        case step =>
          rintro x c st2 hx1' hx2 ⟨q,rfl,sb2,hn1,hn2,hq,rv,bk⟩
          have hz2:lo+nrem≤(Aq st2).size:=by rw[sb2.size];exact hz
          obtain⟨u,hu⟩:=zbn (st:=st2) (i:=lo+x) (by lia)
          obtain⟨v,hv⟩:=zbn (st:=st2) (i:=lo+x - 1) (by lia)
          obtain⟨r,rfl⟩:∃ r,x=r+1:=⟨x - 1,by lia⟩
          rw[show lo+(r+1) - 1=lo+r by lia] at hv
          refine Ah (zeD O sb2.kind hu (by rw[show lo+(r+1) - 1=lo+r by lia];exact hv) (sb2.all _ _ hu) (sb2.all _ _ hv) ?_)
          dsimp only
          by_cases hl:L u v=true
          . rw[if_pos hl]
            have hvu:=O.as u v (sb2.all _ _ hu) (sb2.all _ _ hv) hl
            by_cases hq0:q > 0
            . rw[if_pos hq0,reverseSlice'_eq]
              refine Ah (BE ?_)
              have hzr:lo+(r+1)≤(Aq st2).size:=by lia
              have sb3:=sb2.mir (i:=lo+(r+1) - (q+1)) (j:=lo+(r+1)) (by lia) (by lia) hzr
              have rv3:=rv.blk bk hq hzr
              refine Ao ⟨0,rfl,sb3,by lia,by lia,by lia,?_,Blk.one O sb3.all⟩
              have hz3:r<r+1:=by lia
              obtain⟨v2,hv2⟩:=zbn (st:=setArr st2 (mirror (Aq st2) (lo+(r+1) - (q+1)) (lo+(r+1)) ((lo+(r+1) - (lo+(r+1) - (q+1))) / 2))) (i:=lo+r) (by show lo+r<(mirror (Aq st2) _ _ _).size;rw[mirror_size];lia)
              have hv2':(Aq st2)[lo+(r+1 - (q+1)+r - r)]?=some v2:=by
                have h0:(mirror (Aq st2) (lo+(r+1) - (q+1)) (lo+(r+1)) ((lo+(r+1) - (lo+(r+1) - (q+1))) / 2))[lo+r]?=some v2:=hv2
                rw[BC hzr,if_pos (by lia),show lo+(r+1) - (q+1)+(lo+(r+1)) - 1 - (lo+r)=lo+(r+1 - (q+1)+r - r) by lia] at h0
                exact h0
              refine rv3.more O sb3.all hv2 (y:=u) ?_ ?_
              . show (mirror (Aq st2) (lo+(r+1) - (q+1)) (lo+(r+1)) ((lo+(r+1) - (lo+(r+1) - (q+1))) / 2))[lo+(r+1)]?=some u
                rw[BC hzr,if_neg (by lia)];exact hu
              . exact O.tr u v v2 (sb2.all _ _ hu) (sb2.all _ _ hv) (sb2.all _ _ hv2') hvu (rv _ r v2 v (by lia) (by lia) hv2' hv)
            . rw[if_neg hq0]
              exact Ao ⟨0,rfl,sb2,by lia,by lia,by lia,rv.more O sb2.all hv hu hvu,Blk.one O sb2.all⟩
          . rw[if_neg hl]
            have hl':L u v=false:=by simpa using hl
            refine Ah (zeD O sb2.kind (by rw[show lo+(r+1) - 1=lo+r by lia];exact hv) hu (sb2.all _ _ hv) (sb2.all _ _ hu) ?_)
            dsimp only
            by_cases hg:L v u=true
            . rw[if_pos hg]
              exact Ao ⟨r+1,q,rfl,sb2,hn1,hn2,hq,rv,bk⟩
            . rw[if_neg hg]
              have hg':L v u=false:=by simpa using hg
              exact Ao ⟨q+1,rfl,sb2,by lia,by lia,by lia,rv.more O sb2.all hv hu hg',bk.more O sb2.all hq hv hu hg' hl'⟩
        case post =>
          rintro c st2 ⟨x,q,rfl,sb2,hx1',hx2,hq,rv,bk⟩
          dsimp only
          have hz2:lo+nrem≤(Aq st2).size:=by rw[sb2.size];exact hz
          refine zfS (D:=λst3=>SB kd S st' st3 lo (lo+nrem)∧Rev L (Aq st3) lo x) ?C2 (λshare=>?g2) ?h2
          case g2 =>
            by_cases hq0:q > 0
            . rw[if_pos hq0,reverseSlice'_eq]
              refine Ah (BE ?_)
              exact share _ ⟨sb2.mir (by lia) (by lia) (by lia),rv.blk bk hq (by lia)⟩
            . rw[if_neg hq0]
              exact share _ ⟨sb2,rv⟩
          case h2 =>
            rintro st3 ⟨sb3,rv3⟩
            have hz3:lo+nrem≤(Aq st3).size:=by rw[sb3.size];exact hz
            rw[reverseSlice'_eq]
            refine Ah (BE ?_)
            have sb4:=sb3.mir (i:=lo) (j:=lo+x) (An _) (by lia) (by lia)
            have sg4:=rv3.flip (show lo+x≤(Aq st3).size by lia)
            have sg5:Seg L (Aq (setArr st3 (mirror (Aq st3) lo (lo+x) ((lo+x - lo) / 2)))) lo x:=sg4
            generalize setArr st3 (mirror (Aq st3) lo (lo+x) ((lo+x - lo) / 2))=st4 at sb4 sg5
            have hz4:lo+nrem≤(Aq st4).size:=by rw[sb4.size];exact hz
            refine Ah (B7 (Bn (I:=λn c st5=>c=(none,n)∧st5=st4∧n≤nrem∧Seg L (Aq st4) lo n) (Q:=λc st5=>∃ m,c=(none,m)∧st5=st4∧1≤m∧m≤nrem∧Seg L (Aq st4) lo m) ?step ?fin ⟨rfl,rfl,hx2,sg5⟩) ?post)
            case fin =>
              rintro c st5 ⟨rfl,rfl,hle,hsg⟩
              exact⟨_,rfl,rfl,by lia,hle,hsg⟩
            case step =>
              rintro n c st5 hn1 hn2 ⟨rfl,rfl,hle,hsg⟩
              obtain⟨u,hu⟩:=zbn (st:=st5) (i:=lo+n) (by lia)
              obtain⟨v,hv⟩:=zbn (st:=st5) (i:=lo+n - 1) (by lia)
              refine Ah (zeD O sb4.kind hu hv (sb4.all _ _ hu) (sb4.all _ _ hv) ?_)
              dsimp only
              by_cases hl:L u v=true
              . rw[if_pos hl]
                exact Ao ⟨n,rfl,rfl,by lia,hle,hsg⟩
              . rw[if_neg hl]
                refine Ao ⟨rfl,rfl,hn2,?_⟩
                obtain⟨p,rfl⟩:∃ p,n=p+1:=⟨n - 1,by lia⟩
                exact hsg.more O sb4.all (by rw[show lo+(p+1) - 1=lo+p by lia] at hv;exact hv) hu (by simpa using hl)
            case post =>
              rintro c st5 ⟨n,rfl,rfl,h1n,hn2,hsg⟩
              exact Ao (hQ n st5 sb4 h1n hn2 hsg)
end
end TS
namespace TS
open PySem PyProof.Rows
section
variable {M:Model}{A:AQ}{E:Ab->Ac->Prop}{s:Ac}{kd:Cr}{S:Keyed->Prop}{L:Keyed->Keyed->Bool}
theorem SB.bub{st0 st:AF}{lo hi i d:Nat}(h:SB kd S st0 st lo hi)(h1:lo<=i-d)(hd:d<=i)(h2:i<hi)(hz:i<(Aq st).size):SB kd S st0 (setArr st (bubble (Aq st) i d)) lo hi:=by
 refine⟨h.kind,h.pend,h.fail,(bubble_perm _ _ _).trans h.perm,λk hk=>?_,λk x hx=>?_⟩
 .show (bubble (Aq st) i d)[k]?=_;rw[getElem?_bubble hz _ hd,if_neg (by lia),if_neg (by lia)];exact h.out k hk
 .have hx':(bubble (Aq st) i d)[k]?=some x:=hx;rw[getElem?_bubble hz _ hd]at hx';split at hx'
  .exact h.all _ x hx'
  .split at hx'
   .exact h.all _ x hx'
   .exact h.all _ x hx'
theorem Seg.ins(O:LtOk M A E s kd S L){a:Array Keyed}{lo k l:Nat}{p:Keyed}(hS:∀(k:Nat) x, a[k]? = some x -> S x)(h:Seg L a lo k)(hlk:l <= k)(hz:lo + k < a.size)(hp:a[lo + k]? = some p)
  (h1:∀(i:Nat) x,i<l->a[lo+i]?=some x->L p x=false) (h2:∀(i:Nat) x,l<=i->i<k->a[lo+i]?=some x->L p x=true):Seg L (bubble a (lo+k) (lo+k-(lo+l))) lo (k+1):=by
 have at':∀(i:Nat) x,i<k+1->(bubble a (lo+k) (lo+k-(lo+l)))[lo+i]?=some x->(i<l/\a[lo+i]?=some x)∨(i=l/\x=p)∨(l<i/\a[lo+(i-1)]?=some x):=λi x hi hx=>by
  rw[getElem?_bubble hz _ (by lia)]at hx
  by_cases e:lo+i=lo+k-(lo+k-(lo+l))
  .rw[if_pos e,hp]at hx;exact .inr (.inl ⟨by lia,(AJ hx).symm⟩)
  .rw[if_neg e]at hx
   by_cases e2:lo+k-(lo+k-(lo+l))<lo+i/\lo+i<=lo+k
   .rw[if_pos e2,show lo+i-1=lo+(i-1) by lia]at hx;exact .inr (.inr ⟨by lia,hx⟩)
   .rw[if_neg e2]at hx;exact .inl ⟨by lia,hx⟩
 intro i j x y hij hj hx hy;have sp:=hS _ _ hp;rcases at' i x (by lia) hx with⟨a1,a2⟩ |⟨a1,a2⟩ |⟨a1,a2⟩
 .rcases at' j y hj hy with⟨b1,b2⟩ |⟨b1,b2⟩ |⟨b1,b2⟩
  .exact h i j x y hij (by lia) a2 b2
  .rw[b2];exact h1 i x a1 a2
  .exact h i (j-1) x y (by lia) (by lia) a2 b2
 .subst a2;rcases at' j y hj hy with⟨b1,b2⟩ |⟨b1,b2⟩ |⟨b1,b2⟩
  .lia
  .rw[b2];exact O.rf sp
  .exact O.as x y sp (hS _ _ b2) (h2 (j-1) y (by lia) (by lia) b2)
 .rcases at' j y hj hy with⟨b1,b2⟩ |⟨b1,b2⟩ |⟨b1,b2⟩
  .lia
  .lia
  .exact h (i-1) (j-1) x y (by lia) (by lia) a2 b2
theorem zeh(O:LtOk M A E s kd S L){st:AF}{lo n ok:Nat}{Q:Bool -> AF -> Prop}(hok : 1 <= ok)(hn:ok <= n)(hz:lo + n <= (Aq st).size)(hk:kindOf st=kd)(hS:∀(k:Nat) x, (Aq st)[k]? = some x -> S x)(hs:Seg L (Aq st) lo ok)
  (hQ:∀st',SB kd S st st' lo (lo+n)->Seg L (Aq st') lo n->Q true st'):wpS M A E s (binarySort' lo n ok) Q st:=by
 rw[binarySort'_eq];have em:max ok 1=ok:=by lia
 rw[em]
 refine Ah (B7 (Bn (I:=λk c st'=>c=(none,())/\SB kd S st st' lo (lo+n)/\k<=n/\Seg L (Aq st') lo k)
  (Q:=λc st'=>c=(none,())/\SB kd S st st' lo (lo+n)/\Seg L (Aq st') lo n) ?step ?fin ⟨rfl,SB.refl hk hS,hn,hs⟩) ?post)
 case post =>
  rintro c st' ⟨rfl,sb,sg⟩;exact Ao (hQ st' sb sg)
 case fin =>
  rintro c st' ⟨rfl,sb,hle,sg⟩;rw[show max ok n=n by lia]at sg;exact⟨rfl,sb,sg⟩
 case step =>
  rintro k c st' hk1 hk2 ⟨rfl,sb,hle,sg⟩;have hz':lo+n<=(Aq st').size:=by rw[sb.size];exact hz
  obtain⟨p,hp⟩:=zbn (st:=st') (i:=lo+k) (by lia);dsimp only
  refine Ah (B7 (Bn (I:=λx c st2=>∃l r,c=(none,l,r)/\st2=st'/\l<=r/\r<=k/\r-l<=k-x/\(∀(i:Nat) z,i<l->(Aq st')[lo+i]?=some z->L p z=false)/\(∀(i:Nat) z,r<=i->i<k->(Aq st')[lo+i]?=some z->L p z=true))
   (Q:=λc st2=>∃l,c=(none,l,l)/\st2=st'/\l<=k/\(∀(i:Nat) z,i<l->(Aq st')[lo+i]?=some z->L p z=false)/\(∀(i:Nat) z,l<=i->i<k->(Aq st')[lo+i]?=some z->L p z=true)) ?step2 ?fin2 ⟨0,k,rfl,rfl,AU _,An _,An _,(λi z h=>absurd h (Nat.not_lt_zero _)),(λi z h1 h2=>absurd h2 (by lia))⟩) ?post2)
  case fin2 =>
   rintro c st2 ⟨l,r,rfl,rfl,h1,h2,h3,h4,h5⟩;have:l=r:=by lia
   subst this;exact⟨l,rfl,rfl,h2,h4,h5⟩
  case step2 =>
   rintro x c st2 _ hx ⟨l,r,rfl,rfl,h1,h2,h3,h4,h5⟩;dsimp only
   by_cases hlr:l ≥ r
   .rw[if_pos hlr];have:l=r:=by lia
    subst this;exact Ao ⟨l,rfl,rfl,h2,h4,h5⟩
   .rw[if_neg hlr];obtain⟨u,hu⟩:=zbn (st:=st2) (i:=lo+(l+r) / 2) (by lia);refine Ah (zeD O sb.kind hp hu (sb.all _ _ hp) (sb.all _ _ hu) ?_);dsimp only
    by_cases hl:L p u=true
    .rw[if_pos hl];refine Ao ⟨l,(l+r) / 2,rfl,rfl,by lia,by lia,by lia,h4,λi z a1 a2 hz2=>?_⟩
     cases q:L p z with
     |true=>rfl
     |false =>
      have e1:=sg ((l+r) / 2) i u z a1 a2 hu hz2;have e2:=O.tr u z p (sb.all _ _ hu) (sb.all _ _ hz2) (sb.all _ _ hp) e1 q;rw[hl]at e2;cases e2
    .rw[if_neg hl];have hl':L p u=false:=by simpa using hl
     refine Ao ⟨(l+r) / 2+1,r,rfl,rfl,by lia,by lia,by lia,λi z a1 hz2=>?_,h5⟩;have e1:=sg i ((l+r) / 2) z u (by lia) (by lia) hz2 hu;exact O.tr z u p (sb.all _ _ hz2) (sb.all _ _ hu) (sb.all _ _ hp) e1 hl'
  case post2 =>
   rintro c st2 ⟨l,rfl,rfl,h2,h4,h5⟩;dsimp only;rw[moveDown'_eq];refine Ah (BE (Ao ⟨rfl,sb.bub (by lia) (by lia) (by lia) (by lia),by lia,?_⟩));exact sg.ins O sb.all h2 (by lia) hp h4 h5
end
end TS
set_option maxHeartbeats 8000000
namespace TS
open PySem PyProof.Rows
noncomputable def wr(a:Array Keyed)(o:Nat)(l:List Keyed)(k:Nat):Array Keyed:=(l.zipIdx k).foldl (λa (p:Keyed×Nat)=>a.setIfInBounds (o+p.2) p.1) a
theorem zih:∀(l:List Keyed) (k:Nat) (a:Array Keyed) (o i:Nat),o+k+l.length<=a.size->(wr a o l k)[i]?=if o+k<=i/\i<o+k+l.length then l[i-(o+k)]? else a[i]?
 |[],k,a,o,i,_=>by
  show a[i]?=_;rw[if_neg (by simp)]
 |x::l,k,a,o,i,hz=>by
  have ih:=zih l (k+1) (a.setIfInBounds (o+k) x) o i (by rw[Array.size_setIfInBounds];simp at hz;lia);unfold wr at ih ⊢;rw[List.zipIdx_cons,List.foldl_cons,ih];simp only[AV]at hz ⊢
  by_cases h1:o+(k+1)<=i/\i<o+(k+1)+l.length
  .rw[if_pos h1,if_pos (by lia),show i-(o+k)=(i-(o+(k+1)))+1 by lia];rfl
  .rw[if_neg h1]
   by_cases h2:i=o+k
   .subst h2;rw[if_pos (by lia),Nat.sub_self];rw[Array.getElem?_setIfInBounds_self_of_lt (by lia)];rfl
   .rw[if_neg (by lia),Array.getElem?_setIfInBounds_ne (Cb h2)]
theorem zkw{a:Array Keyed}{o:Nat}{l:List Keyed}(hz:o+l.length<=a.size):(wr a o l 0).toList=a.toList.take o++l++a.toList.drop (o+l.length):=by
 apply Dg
 intro i;rw[A5,zih l 0 a o i (by simpa using hz)];have h1:(a.toList.take o).length=o:=by rw[AL,AC];lia
 by_cases c1:i<o
 .rw[if_neg (by lia),At,Ay (by lia),List.getElem?_take,if_pos c1,A5]
 .by_cases c2:i<o+l.length
  .rw[if_pos (by lia),At,AK (by lia),Ay (by lia),h1];rfl
  .rw[if_neg (by lia),AK (by simp;lia),DE,<- A5]
   congr 1
   simp;lia
section
variable {M:Model}{A:AQ}{E:Ab->Ac->Prop}{s:Ac}{kd:Cr}{S:Keyed->Prop}{L:Keyed->Keyed->Bool}
structure SM (kd:Cr) (S:Keyed->Prop) (L:Keyed->Keyed->Bool) (st0 st:AF) (pd:Array (Nat×Nat×Nat)) (lo n:Nat):Prop where
 kind:kindOf st=kd
 pend:AG st=pd
 fail:BX st=none
 perm:(Aq st).Perm (Aq st0)
 out:∀k:Nat,k<lo∨lo+n<=k->(Aq st)[k]?=(Aq st0)[k]?
 all:∀(k:Nat) x,(Aq st)[k]?=some x->S x
 seg:Seg L (Aq st) lo n
theorem Seg.glue{a:Array Keyed}(O:LtOk M A E s kd S L){lo n m:Nat}(hS:∀(k:Nat) x,a[k]?=some x->S x)(h1:Seg L a lo n)(h2:Seg L a (lo+n) m)(h:∀x y,a[lo+(n-1)]?=some x->a[lo+n]?=some y->L y x=false)(hn:0<n)(hz:lo+n+m<=a.size):Seg L a lo (n+m):=by
 intro i j x y hij hj hx hy;rcases AY j n with cj |cj
 .exact h1 i j x y hij cj hx hy
 .rw[show lo+j=lo+n+(j-n) by lia]at hy;rcases AY i n with ci |ci
  .have e1:a[lo+(n-1)]?=some a[lo+(n-1)]:=by rw[BP (by lia)]
   have e2:a[lo+n]?=some a[lo+n]:=by rw[BP (by lia)]
   have q1:=h1 i (n-1) x _ (by lia) (by lia) hx e1;have q2:=h _ _ e1 e2;have q3:=h2 0 (j-n) _ y (AU _) (by lia) e2 hy;exact O.tr x _ y (hS _ _ hx) (hS _ _ e1) (hS _ _ hy) q1 (O.tr _ _ y (hS _ _ e1) (hS _ _ e2) (hS _ _ hy) q2 q3)
  .rw[show lo+i=lo+n+(i-n) by lia]at hx;exact h2 (i-n) (j-n) x y (by lia) (by lia) hx hy
theorem zkx{x:AF}{Q:PUnit->AF->Prop}{st:AF}(h:Q ⟨⟩ x):wpS M A E s (set x:StateT AF Sem PUnit) Q st:=by unfold wpS;rw[StateT.run_set];exact Aj ⟨rfl,h⟩
theorem zfC{a:Array Keyed}{o n i:Nat}(hz:o+n<=a.size):(a.extract o (o+n))[i]?=if i<n then a[o+i]? else none:=by
 rw[Array.getElem?_extract]
 by_cases h:i<n
 .rw[if_pos h,if_pos (by lia)]
 .rw[if_neg h,if_neg (by lia)]
theorem zhi{a:Array Keyed}{o n:Nat}(hz:o+n<=a.size)(h:Seg L a o n):(a.extract o (o+n)).toList.Pairwise (leOf L):=by
 rw[B6];intro i j hi hj hij;rw[AC,B9]at hi hj;have e1:(a.extract o (o+n))[i]?=some (a.extract o (o+n)).toList[i]:=by rw[<- A5,Aa]
 have e2:(a.extract o (o+n))[j]?=some (a.extract o (o+n)).toList[j]:=by rw[<- A5,Aa]
 rw[zfC hz,if_pos (by lia)]at e1 e2;exact h i j _ _ (by lia) (by lia) e1 e2
theorem zdg{a:Array Keyed}{o n:Nat}{x:Keyed}(hz:o+n<=a.size)(h:x∈(a.extract o (o+n)).toList):∃i,i<n/\a[o+i]?=some x:=by
 obtain⟨i,hi,e⟩:=AN h;have e1:(a.extract o (o+n))[i]?=some x:=by rw[<- A5,Aa hi,e]
 rw[AC,B9]at hi;refine⟨i,by lia,?_⟩;rw[zfC hz,if_pos (by lia)]at e1;exact e1
theorem SM.write(O:LtOk M A E s kd S L){st0 st:AF}{pd:Array (Nat × Nat × Nat)}{sa na nb k m:Nat}{r:Array Keyed}(hna : 1 <= na)(hk:k < na)(hm0 : 0 < m)(hm:m <= nb)(hz:sa + na + nb <= (Aq st0).size)(hS:∀(k:Nat) x, (Aq st0)[k]? = some x -> S x)
  (sA:Seg L (Aq st0) sa na) (sB:Seg L (Aq st0) (sa+na) nb) (y0 z0:Keyed) (hy0:(Aq st0)[sa+na]?=some y0) (hz0:(Aq st0)[sa+(na-1)]?=some z0)
  (A1:∀(i:Nat) x,i<k->(Aq st0)[sa+i]?=some x->L y0 x=false) (B2:∀(i:Nat) y,m<=i->i<nb->(Aq st0)[sa+na+i]?=some y->L y z0=false)
  (hr:Res (leOf L) ((Aq st0).extract (sa+k) (sa+k+(na-k))).toList ((Aq st0).extract (sa+na) (sa+na+m)).toList r.toList) (hkd:kindOf st=kd) (hp:AG st=pd) (hf:BX st=none) (ha:Aq st=wr (Aq st0) (sa+k) r.toList 0) :
  SM kd S L st0 st pd sa (na+nb):=by
 obtain⟨hperm,hpair⟩:=hr
 have hrl:r.toList.length=(na-k)+m:=by rw[hperm.length_eq,Ai,AC,AC,B9,B9];lia
 have hz2:sa+k+r.toList.length<=(Aq st0).size:=by lia
 have get':∀i:Nat,(Aq st)[i]?=if sa+k<=i/\i<sa+k+r.toList.length then r.toList[i-(sa+k)]? else (Aq st0)[i]?:=λi=>by rw[ha,zih _ _ _ _ _ (by lia)];simp only[Nat.add_zero]
 have rmem:∀x∈r.toList,(∃i,k<=i/\i<na/\(Aq st0)[sa+i]?=some x)∨(∃i,i<m/\(Aq st0)[sa+na+i]?=some x):=λx hx=>by
  rcases AT.mp (hperm.mem_iff.mp hx) with q |q
  .obtain⟨i,hi,e⟩:=zdg (by lia) q;exact .inl ⟨k+i,by lia,by lia,by rw[show sa+(k+i)=sa+k+i by lia];exact e⟩
  .obtain⟨i,hi,e⟩:=zdg (by lia) q;exact .inr ⟨i,hi,e⟩
 have y0le:∀(i:Nat) y,i<nb->(Aq st0)[sa+na+i]?=some y->L y y0=false:=λi y hi hy=>sB 0 i y0 y (AU _) hi (by simpa using hy0) hy
 have lez0:∀(i:Nat) x,i<na->(Aq st0)[sa+i]?=some x->L z0 x=false:=λi x hi hx=>sA i (na-1) x z0 (by lia) (by lia) hx hz0
 refine⟨hkd,hp,hf,?_,λi hi=>?_,λi x hx=>?_,λi j x y hij hj hx hy=>?_⟩
 .rw[ha];refine Bv.mpr ?_
  rw[zkw hz2]
  have e:(Aq st0).toList=(Aq st0).toList.take (sa+k)++(((Aq st0).extract (sa+k) (sa+k+(na-k))).toList++((Aq st0).extract (sa+na) (sa+na+m)).toList)++(Aq st0).toList.drop (sa+k+r.toList.length):=by rw[zcx,zcx];have d1:=Dc (sa+k) (Aq st0).toList;have d2:=zcC (Aq st0).toList (sa+k) (na-k);have d3:=zcC (Aq st0).toList (sa+na) m;rw[show sa+k+(na-k)=sa+na by lia]at d2;rw[show sa+k+r.toList.length=sa+na+m by lia,At,At,<- d3,<- d2,d1]
  conv=>rhs;rw[e]
  exact (hperm.append_left _).append_right _
 .rw[get',if_neg (by lia)]
 .rw[get']at hx;split at hx
  .rcases rmem x (Ag hx) with⟨_,_,_,e⟩ |⟨_,_,e⟩
   .exact hS _ _ e
   .exact hS _ _ e
  .exact hS _ _ hx
 .rw[get']at hx hy
  by_cases ci:sa+k<=sa+i/\sa+i<sa+k+r.toList.length
  .rw[if_pos ci]at hx
   by_cases cj:sa+k<=sa+j/\sa+j<sa+k+r.toList.length
   .rw[if_pos cj]at hy;rcases AY i j with q |q
    .have h1:sa+i-(sa+k)<r.toList.length:=by lia
     have h2:sa+j-(sa+k)<r.toList.length:=by lia
     rw[Aa h1]at hx;rw[Aa h2]at hy;have:=List.pairwise_iff_getElem.mp hpair _ _ h1 h2 (by lia);rw[AJ hx,AJ hy]at this;exact this
    .have e:i=j:=by lia
     subst e;rw[hx]at hy;cases hy;rcases rmem x (Ag hx) with⟨_,_,_,e⟩ |⟨_,_,e⟩
     .exact O.rf (hS _ _ e)
     .exact O.rf (hS _ _ e)
   .rw[if_neg cj,show sa+j=sa+na+(j-na) by lia]at hy;have q1:=B2 (j-na) y (by lia) (by lia) hy;rcases rmem x (Ag hx) with⟨t,_,h2,e⟩ |⟨t,h2,e⟩
    .exact O.tr x z0 y (hS _ _ e) (hS _ _ hz0) (hS _ _ hy) (lez0 t x h2 e) q1
    .exact sB t (j-na) x y (by lia) (by lia) e hy
  .rw[if_neg ci]at hx
   by_cases cj:sa+k<=sa+j/\sa+j<sa+k+r.toList.length
   .rw[if_pos cj]at hy;rcases rmem y (Ag hy) with⟨t,h1,h2,e⟩ |⟨t,h2,e⟩
    .exact sA i t x y (by lia) h2 hx e
    .exact O.tr x y0 y (hS _ _ hx) (hS _ _ hy0) (hS _ _ e) (A1 i x (by lia) hx) (y0le t y (by lia) e)
   .rw[if_neg cj]at hy;rcases AY i k with ck |ck
    .rcases AY j k with cl |cl
     .exact sA i j x y hij (by lia) hx hy
     .rw[show sa+j=sa+na+(j-na) by lia]at hy;exact O.tr x y0 y (hS _ _ hx) (hS _ _ hy0) (hS _ _ hy) (A1 i x ck hx) (y0le (j-na) y (by lia) hy)
    .rw[show sa+i=sa+na+(i-na) by lia]at hx;rw[show sa+j=sa+na+(j-na) by lia]at hy;exact sB (i-na) (j-na) x y (by lia) (by lia) hx hy
theorem zgg (O : LtOk M A E s kd S L){st : AF}{i sa na pw nb pw2 : Nat}{Q : Bool → AF → Prop}(h1 : (AG st)[i]? = some (sa, na, pw)) (h2 : (AG st)[i + 1]? = some (sa + na, nb, pw2)) (hna : 1 ≤ na) (hnb : 1 ≤ nb) (hz : sa + na + nb ≤ (Aq st).size)
    (hk:kindOf st=kd) (hf:BX st=none) (hS:∀ (k:Nat) x,(Aq st)[k]?=some x→S x) (sA:Seg L (Aq st) sa na) (sB:Seg L (Aq st) (sa+na) nb)
    (hQ:∀ st',SM kd S L st st' (((AG st).setIfInBounds i (sa,na+nb,pw)).eraseIdxIfInBounds (i+1)) sa (na+nb)→Q true st'):wpS M A E s (mergeAt' i) Q st:=by
  refine Ah (Dm ?_)
  rw[h1,h2]
  dsimp only
  refine Ah (zkx ?_)
  obtain⟨y0,hy0⟩:=zbn (st:=st) (i:=sa+na) (by lia)
  obtain⟨z0,hz0⟩:=zbn (st:=st) (i:=sa+(na - 1)) (by lia)
  refine Ah (zas hy0 ?_)
  have Sy:=hS _ _ hy0
  refine Ah (zbr O (left:=false) (b:=λi=>match (Aq st)[sa+i]? with | some x=>!L y0 x | none=>false) hk Sy (λi hi=>?_) (λi j hij hj hb=>?_) (by lia) (λk hkn kt kf=>?_))
  . obtain⟨x,hx⟩:=zbn (st:=st) (i:=sa+i) (by lia)
    refine⟨x,hx,hS _ _ hx,?_⟩
    simp only[hx]
    rfl
  . obtain⟨x,hx⟩:=zbn (st:=st) (i:=sa+i) (by lia)
    obtain⟨y,hy⟩:=zbn (st:=st) (i:=sa+j) (by lia)
    simp only[hx,hy] at hb ⊢
    have e1:=sA i j x y hij hj hx hy
    have e2:L y0 y=false:=by simpa using hb
    rw[O.tr x y y0 (hS _ _ hx) (hS _ _ hy) Sy e1 e2];rfl
  have A1:∀ (i:Nat) x,i<k→(Aq st)[sa+i]?=some x→L y0 x=false:=λi x hi hx=>by
    have:=kt i hi
    simp only[hx] at this
    simpa using this
  have A2:∀ (i:Nat) x,k≤i→i<na→(Aq st)[sa+i]?=some x→L y0 x=true:=λi x h3 h4 hx=>by
    have:=kf i h3 h4
    simp only[hx] at this
    simpa using this
  dsimp only
  by_cases hk0:(na - k == 0)=true
  . rw[if_pos hk0]
    have ek : k = na := by have : na - k = 0 := by simpa using hk0
                           lia
    refine Ao (hQ _ ⟨hk,rfl,hf,Dz _,λ_ _=>rfl,hS,sA.glue O hS sB (λx y hx hy=>?_) (by lia) hz⟩)
    rw[hy0] at hy;cases hy
    exact A1 (na - 1) x (by lia) hx
  . rw[if_neg hk0]
    have hkl : k < na := by have : na - k ≠ 0 := by simpa using hk0
                            lia
    have hz0':(Aq st)[sa+k+(na - k) - 1]?=some z0:=by rw[show sa+k+(na - k) - 1=sa+(na - 1) by lia];exact hz0
    refine Ah (zas hz0' ?_)
    have Sz:=hS _ _ hz0
    refine Ah (zbr O (left:=true) (b:=λi=>match (Aq st)[sa+na+i]? with | some x=>L x z0 | none=>false) hk Sz (λi hi=>?_) (λi j hij hj hb=>?_) (by lia) (λm hmn mt mf=>?_))
    . obtain⟨x,hx⟩:=zbn (st:=st) (i:=sa+na+i) (by lia)
      refine⟨x,hx,hS _ _ hx,?_⟩
      simp only[hx]
      rfl
    . obtain⟨x,hx⟩:=zbn (st:=st) (i:=sa+na+i) (by lia)
      obtain⟨y,hy⟩:=zbn (st:=st) (i:=sa+na+j) (by lia)
      simp only[hx,hy] at hb ⊢
      have e1:=sB i j x y hij hj hx hy
      cases q:L x z0 with
      | true=>rfl
      | false =>
        have:=O.tr z0 x y Sz (hS _ _ hx) (hS _ _ hy) q e1
        rw[hb] at this;cases this
    have B1:∀ (i:Nat) y,i<m→(Aq st)[sa+na+i]?=some y→L y z0=true:=λi y hi hy=>by
      have:=mt i hi
      simp only[hy] at this
      exact this
    have B2:∀ (i:Nat) y,m≤i→i<nb→(Aq st)[sa+na+i]?=some y→L y z0=false:=λi y h3 h4 hy=>by
      have:=mf i h3 h4
      simp only[hy] at this
      exact this
    dsimp only
    have y0z:L y0 z0=true:=A2 (na - 1) z0 (by lia) (by lia) hz0
    have hm0:0<m:=by
      rcases DF m with q | q
      . have:=B2 0 y0 (by lia) (by lia) (by simpa using hy0)
        rw[y0z] at this;cases this
      . exact q
    rw[if_neg (by simp;lia)]
    have exA:sa+na=sa+k+(na - k):=by lia
    have hX:((Aq st).extract (sa+k) (sa+na))=(Aq st).extract (sa+k) (sa+k+(na - k)):=by rw[← exA]
    have sA':Seg L (Aq st) (sa+k) (na - k):=λi j x y hij hj hx hy=>sA (k+i) (k+j) x y (by lia) (by lia) (by rw[show sa+(k+i)=sa+k+i by lia];exact hx) (by rw[show sa+(k+j)=sa+k+j by lia];exact hy)
    have sB':Seg L (Aq st) (sa+na) m:=λi j x y hij hj hx hy=>sB i j x y hij (by lia) hx hy
    have T:Two S L ((Aq st).extract (sa+k) (sa+k+(na - k))) ((Aq st).extract (sa+na) (sa+na+m)):=⟨zhi (by lia) sA',zhi (by lia) sB',(λx hx=>by obtain⟨i,_,e⟩:=zdg (by lia) hx;exact hS _ _ e),(λx hx=>by obtain⟨i,_,e⟩:=zdg (by lia) hx;exact hS _ _ e)⟩
    have zA:0<((Aq st).extract (sa+k) (sa+k+(na - k))).size:=by rw[B9];lia
    have zB:0<((Aq st).extract (sa+na) (sa+na+m)).size:=by rw[B9];lia
    have c0:∀ y,((Aq st).extract (sa+na) (sa+na+m))[0]?=some y→∀ x∈((Aq st).extract (sa+k) (sa+k+(na - k))).toList,leOf L y x:=λy hy x hx=>by
      rw[zfC (by lia),if_pos hm0] at hy
      rw[Nat.add_zero,hy0] at hy;cases hy
      obtain⟨i,hi,e⟩:=zdg (by lia) hx
      exact O.as y0 x Sy (hS _ _ e) (A2 (k+i) x (by lia) (by lia) (by rw[show sa+(k+i)=sa+k+i by lia];exact e))
    have c1:∀ z,((Aq st).extract (sa+k) (sa+k+(na - k)))[((Aq st).extract (sa+k) (sa+k+(na - k))).size - 1]?=some z→∀ x∈((Aq st).extract (sa+na) (sa+na+m)).toList,leOf L x z:=λz hz' x hx=>by
      have es:((Aq st).extract (sa+k) (sa+k+(na - k))).size=na - k:=by rw[B9];lia
      rw[es,zfC (by lia),if_pos (by lia),show sa+k+(na - k - 1)=sa+(na - 1) by lia,hz0] at hz'
      cases hz'
      obtain⟨i,hi,e⟩:=zdg (by lia) hx
      exact O.as x z0 (hS _ _ e) Sz (B1 i x hi e)
    by_cases hle:na - k≤m
    . rw[if_pos hle]
      refine Ah ?_
      show wpS M A E s (zfq ((Aq st).extract (sa+k) (sa+na)) ((Aq st).extract (sa+na) (sa+na+m))) _ _
      rw[hX]
      refine zge O T hk zA zB c0 c1 λr st2 hr hlk=>?_
      refine Ah (BE (Ah (Dm (Ao ?_))))
      have hf2:BX st2=none:=by rw[hlk.2.2.2];exact hf
      have:=hQ (setArr st2 (wr (Aq st) (sa+k) r.toList 0)) (SM.write O hna hkl hm0 hmn hz hS sA sB y0 z0 hy0 hz0 A1 B2 hr (by show kindOf st2=kd;rw[hlk.1];exact hk) (by show AG st2=_;rw[hlk.2.2.1]) hf2 rfl)
      have ea:Aq st2=Aq st:=hlk.2.1
      rw[← ea] at this
      show Q (BX st2).isNone _
      rw[hf2]
      exact this
    . rw[if_neg hle]
      refine Ah ?_
      show wpS M A E s (zfr ((Aq st).extract (sa+k) (sa+na)) ((Aq st).extract (sa+na) (sa+na+m))) _ _
      rw[hX]
      refine zgf O T hk zA zB c0 c1 λr st2 hr hlk=>?_
      refine Ah (BE (Ah (Dm (Ao ?_))))
      have hf2:BX st2=none:=by rw[hlk.2.2.2];exact hf
      have:=hQ (setArr st2 (wr (Aq st) (sa+k) r.toList 0)) (SM.write O hna hkl hm0 hmn hz hS sA sB y0 z0 hy0 hz0 A1 B2 hr (by show kindOf st2=kd;rw[hlk.1];exact hk) (by show AG st2=_;rw[hlk.2.2.1]) hf2 rfl)
      have ea:Aq st2=Aq st:=hlk.2.1
      rw[← ea] at this
      show Q (BX st2).isNone _
      rw[hf2]
      exact this
end
end TS
set_option maxHeartbeats 8000000
namespace TS
open PySem PyProof.Rows
noncomputable abbrev Run:=Nat×Nat×Nat
section
variable {M:Model}{A:AQ}{E:Ab->Ac->Prop}{s:Ac}{kd:Cr}{S:Keyed->Prop}{L:Keyed->Keyed->Bool}
noncomputable def Runs(L:Keyed->Keyed->Bool)(a:Array Keyed):List Run->Nat->Nat->Prop
 |[],x,y=>x=y
 |r::l,x,y=>r.1=x/\1<=r.2.1/\Seg L a r.1 r.2.1/\Runs L a l (x+r.2.1) y
theorem Runs.le{a:Array Keyed}:∀{l:List Run}{x y:Nat},Runs L a l x y->x+l.length<=y
 |[],x,y,h=>by have:x=y:=h;simp;lia
 |r::l,x,y,h=>by
  have:=Runs.le h.2.2.2;have:=h.2.1;simp only[AV];lia
theorem Seg.cong{a b:Array Keyed}{lo n:Nat}(h:Seg L a lo n)(e:∀k:Nat,lo<=k->k<lo+n->b[k]?=a[k]?):Seg L b lo n:=λi j x y hij hj hx hy =>
 h i j x y hij hj (by rw[<- e _ (by lia) (by lia)];exact hx) (by rw[<- e _ (by lia) (by lia)];exact hy)
theorem Runs.cong{a b:Array Keyed}:∀{l:List Run}{x y:Nat},Runs L a l x y->(∀k:Nat,x<=k->k<y->b[k]?=a[k]?)->Runs L b l x y
 |[],_,_,h,_=>h
 |r::l,x,y,h,e=>by
  have hl:=h.2.2.2.le;have h1:=h.1;exact⟨h.1,h.2.1,h.2.2.1.cong λk h2 h3=>e k (by lia) (by lia),Runs.cong h.2.2.2 λk h2 h3=>e k (by lia) h3⟩
theorem Runs.snoc{a:Array Keyed}:∀{l:List Run}{x y n pw:Nat},Runs L a l x y->1<=n->Seg L a y n->Runs L a (l++[(y,n,pw)]) x (y+n)
 |[],x,y,n,pw,h,hn,hs=>by
  have:x=y:=h;subst this;exact⟨rfl,hn,hs,rfl⟩
 |r::l,x,y,n,pw,h,hn,hs=>⟨h.1,h.2.1,h.2.2.1,Runs.snoc h.2.2.2 hn hs⟩
theorem Runs.pair{a:Array Keyed} : ∀{l:List Run}{x y i sa na pw sb nb pw2:Nat}, Runs L a l x y -> l[i]? = some (sa, na, pw) -> l[i + 1]? = some (sb, nb, pw2) ->
  sb=sa+na/\1<=na/\1<=nb/\x<=sa/\sa+na+nb<=y/\Seg L a sa na/\Seg L a (sa+na) nb /\
  ∀b:Array Keyed,(∀k:Nat,k<sa∨sa+na+nb<=k->b[k]?=a[k]?)->Seg L b sa (na+nb)->Runs L b ((l.set i (sa,na+nb,pw)).eraseIdx (i+1)) x y
 |[],_,_,_,_,_,_,_,_,_,_,h1,_=>by simp at h1
 |[_],_,_,i,_,_,_,_,_,_,_,_,h2=>by simp at h2
 |r::q::l,x,y,0,sa,na,pw,sb,nb,pw2,h,h1,h2=>by
  have e1:r=(sa,na,pw):=AJ h1;have e2:q=(sb,nb,pw2):=AJ h2;subst e1;subst e2;obtain⟨a1,a2,a3,b1,b2,b3,hr⟩:=h;simp only at a1 a2 a3 b1 b2 b3 hr;subst a1;have hl:=hr.le;refine⟨b1,a2,b2,An _,by lia,a3,by rw[<- b1];exact b3,λb hb hs=>⟨rfl,by show 1<=na+nb;lia,hs,?_⟩⟩;show Runs L b l (sa+(na+nb)) y;rw[show sa+(na+nb)=sa+na+nb by lia];exact hr.cong λk h3 h4=>hb k (.inr h3)
 |r::q::l,x,y,i+1,sa,na,pw,sb,nb,pw2,h,h1,h2=>by
  obtain⟨a1,a2,a3,hr⟩:=h;obtain⟨c1,c2,c3,c4,c5,c6,c7,c8⟩:=Runs.pair hr (i:=i) (by simpa using h1) (by simpa using h2);refine⟨c1,c2,c3,by lia,c5,c6,c7,λb hb hs=>⟨a1,a2,a3.cong λk h3 h4=>hb k (.inl (by lia)),?_⟩⟩;exact c8 b hb hs
theorem Runs.power{a:Array Keyed}:∀{l:List Run}{x y:Nat}(f:Run->Run) (i:Nat),(∀r,(f r).1=r.1/\(f r).2.1=r.2.1)->Runs L a l x y->Runs L a (l.modify i f) x y
 |[],_,_,f,i,_,h=>by cases i <;> exact h
 |r::l,x,y,f,0,hf,h=>by
  refine⟨by rw[(hf r).1];exact h.1,by rw[(hf r).2];exact h.2.1,by rw[(hf r).1,(hf r).2];exact h.2.2.1,?_⟩;show Runs L a l (x+(f r).2.1) y;rw[(hf r).2];exact h.2.2.2
 |r::l,x,y,f,i+1,hf,h=>⟨h.1,h.2.1,h.2.2.1,Runs.power f i hf h.2.2.2⟩
structure PD (kd:Cr) (S:Keyed->Prop) (L:Keyed->Keyed->Bool) (a0:Array Keyed) (st:AF) (lo:Nat):Prop where
 kind:kindOf st=kd
 fail:BX st=none
 perm:(Aq st).Perm a0
 all:∀(k:Nat) x,(Aq st)[k]?=some x->S x
 runs:Runs L (Aq st) (AG st).toList 0 lo
theorem PD.size{a0:Array Keyed}{st:AF}{lo:Nat}(h:PD kd S L a0 st lo):(Aq st).size=a0.size:=h.perm.size_eq
theorem PD.merge(O:LtOk M A E s kd S L){a0:Array Keyed}{st:AF}{lo i:Nat}{Q:Bool -> AF -> Prop}(h:PD kd S L a0 st lo)(hlo:lo <= a0.size)(hi:i + 1 < (AG st).size)
  (hQ:∀st',PD kd S L a0 st' lo->(AG st').size+1=(AG st).size->(∀k:Nat,lo<=k->(Aq st')[k]?=(Aq st)[k]?)->Q true st'):wpS M A E s (mergeAt' i) Q st:=by
 obtain⟨⟨sa,na,pw⟩,h1⟩:∃r,(AG st)[i]?=some r:=⟨_,BP (by lia)⟩;obtain⟨⟨sb,nb,pw2⟩,h2⟩:∃r,(AG st)[i+1]?=some r:=⟨_,BP hi⟩;obtain⟨c1,c2,c3,c4,c5,c6,c7,c8⟩:=h.runs.pair (i:=i) (by rw[A5];exact h1) (by rw[A5];exact h2);subst c1;refine zgg O h1 h2 c2 c3 (by rw[h.size];lia) h.kind h.fail h.all c6 c7 λst' sm=>hQ st' ⟨sm.kind,sm.fail,sm.perm.trans h.perm,sm.all,?_⟩ ?_ λk hk=>sm.out k (by lia)
 .rw[sm.pend];have e:(((AG st).setIfInBounds i (sa,na+nb,pw)).eraseIdxIfInBounds (i+1)).toList=((AG st).toList.set i (sa,na+nb,pw)).eraseIdx (i+1):=by simp
  rw[e];exact c8 _ (λk hk=>sm.out k (by lia)) sm.seg
 .rw[sm.pend];have e:(((AG st).setIfInBounds i (sa,na+nb,pw)).eraseIdxIfInBounds (i+1)).toList=((AG st).toList.set i (sa,na+nb,pw)).eraseIdx (i+1):=by simp
  have e2:=congrArg List.length e;rw[List.length_eraseIdx_of_lt (by rw[List.length_set,AC];exact hi),List.length_set,AC,AC]at e2;lia
theorem sortRuns_spec(O:LtOk M A E s kd S L){st:AF}{Q:Unit -> AF -> Prop}(h2 : 2 <= (Aq st).size)(hk:kindOf st=kd)(hp:AG st = #[])(hf:BX st=none)(hS:∀(k:Nat) x, (Aq st)[k]? = some x -> S x)
  (hQ:∀st',(Aq st').Perm (Aq st)->BX st'=none->Seg L (Aq st') 0 (Aq st).size->Q () st'):wpS M A E s sortRuns' Q st:=by
 rw[sortRuns'_eq];refine Ah (Dm ?_);dsimp only;have pd0:PD kd S L (Aq st) st 0:=⟨hk,hf,Dz _,hS,by rw[hp];rfl⟩;generalize ha0:Aq st=a0 at h2 pd0 hQ
 refine Ah (B7 (Bn (I:=λx c st'=>∃lo,c=(none,lo)/\(x<=lo∨a0.size<=lo)/\lo<=a0.size/\PD kd S L a0 st' lo)
  (Q:=λc st'=>c=(none,a0.size)/\PD kd S L a0 st' a0.size) ?step ?fin ⟨0,rfl,.inl (An _),AU _,pd0⟩) ?post)
 case fin =>
  rintro c st' ⟨lo,rfl,h3,h4,pd⟩;have:lo=a0.size:=by lia
  subst this;exact⟨rfl,pd⟩
 case step =>
  rintro x c st' _ hx ⟨lo,rfl,h3,h4,pd⟩;dsimp only
  by_cases hge:lo ≥ a0.size
  .rw[if_pos hge];have:lo=a0.size:=by lia
   subst this;exact Ao ⟨rfl,pd⟩
  .rw[if_neg hge];refine Ah (zfF O (by lia) (by rw[pd.size];lia) pd.kind pd.all λm st1 sb1 hm1 hm2 sg1=>?_);dsimp only;have pd1:PD kd S L a0 st1 lo:=⟨sb1.kind,by rw[sb1.fail];exact pd.fail,sb1.perm.trans pd.perm,sb1.all,by rw[sb1.pend];exact pd.runs.cong λk _ h5=>sb1.out k (.inl h5)⟩
   by_cases hlt:m<minRun' a0.size a0.size 0
   .rw[if_pos hlt];refine Ah (wpS_lift (CN ⟨rfl,?_⟩));refine Ah (zeh O hm1 (by lia) (by rw[pd1.size];lia) pd1.kind pd1.all sg1 λst2 sb2 sg2=>?_)
    try dsimp only
    rw[if_neg (by decide)];have pdX:PD kd S L a0 st2 lo:=⟨sb2.kind,by rw[sb2.fail];exact pd1.fail,sb2.perm.trans pd1.perm,sb2.all,by rw[sb2.pend];exact pd1.runs.cong λk _ h5=>sb2.out k (.inl h5)⟩;have sgX:=sg2;refine Ah (Dm ?_)
    cases hb:(AG st2).back? with
    |none =>
     try dsimp only
     refine Ah (BE (Ao ⟨lo+min (a0.size-lo) (minRun' a0.size a0.size 0),rfl,.inl (by lia),by lia,?_⟩));refine⟨pdX.kind,pdX.fail,pdX.perm,pdX.all,?_⟩;show Runs L (Aq st2) ((AG st2).push (lo,min (a0.size-lo) (minRun' a0.size a0.size 0),0)).toList 0 (lo+min (a0.size-lo) (minRun' a0.size a0.size 0));rw[CC];exact pdX.runs.snoc (by lia) sgX
    |some r =>
     obtain⟨s1,n1,p1⟩:=r
     try dsimp only
     refine Ah (B7 (Bn (I:=λy c st3=>c=(none,())/\PD kd S L a0 st3 lo/\Seg L (Aq st3) lo (min (a0.size-lo) (minRun' a0.size a0.size 0))) (Q:=λc st3=>c=(none,())/\PD kd S L a0 st3 lo/\Seg L (Aq st3) lo (min (a0.size-lo) (minRun' a0.size a0.size 0))) ?stepI ?finI ⟨rfl,pdX,sgX⟩) ?postI)
     case finI =>
      rintro c st3 hh;exact hh
     case stepI =>
      rintro y c st3 _ _ ⟨rfl,pd3,sg3⟩;refine Ah (Dm ?_)
      by_cases hsz:(AG st3).size > 1
      .rw[if_pos hsz];obtain⟨⟨u1,u2,older⟩,hu⟩:∃r,(AG st3)[(AG st3).size-2]?=some r:=⟨_,BP (by lia)⟩;rw[hu]
       try dsimp only
       by_cases hol:older<=power' a0.size (2*s1+n1) (2*s1+n1+n1+min (a0.size-lo) (minRun' a0.size a0.size 0)) a0.size
       .rw[if_pos hol];exact Ao ⟨rfl,pd3,sg3⟩
       .rw[if_neg hol];refine Ah (pd3.merge O (by lia) (by lia) λst4 pd4 _ ho=>?_)
        try dsimp only
        rw[if_neg (by decide)];exact Ao ⟨rfl,pd4,sg3.cong λk h5 _=>ho k h5⟩
      .rw[if_neg hsz];exact Ao ⟨rfl,pd3,sg3⟩
     case postI =>
      rintro c st3 ⟨rfl,pd3,sg3⟩
      try dsimp only
      refine Ah (BE (Ah (BE (Ao ⟨lo+min (a0.size-lo) (minRun' a0.size a0.size 0),rfl,.inl (by lia),by lia,?_⟩))));refine⟨pd3.kind,pd3.fail,pd3.perm,pd3.all,?_⟩;show Runs L (Aq st3) (((AG st3).modify ((AG st3).size-1) _).push (lo,min (a0.size-lo) (minRun' a0.size a0.size 0),0)).toList 0 (lo+min (a0.size-lo) (minRun' a0.size a0.size 0));rw[CC,Array.toList_modify];refine Runs.snoc (Runs.power _ _ ?_ pd3.runs) (by lia) sg3;exact λr=>⟨rfl,rfl⟩
   .rw[if_neg hlt];have pdX:=pd1;have sgX:=sg1;refine Ah (Dm ?_)
    cases hb:(AG st1).back? with
    |none =>
     try dsimp only
     refine Ah (BE (Ao ⟨lo+m,rfl,.inl (by lia),by lia,?_⟩));refine⟨pdX.kind,pdX.fail,pdX.perm,pdX.all,?_⟩;show Runs L (Aq st1) ((AG st1).push (lo,m,0)).toList 0 (lo+m);rw[CC];exact pdX.runs.snoc (by lia) sgX
    |some r =>
     obtain⟨s1,n1,p1⟩:=r
     try dsimp only
     refine Ah (B7 (Bn (I:=λy c st3=>c=(none,())/\PD kd S L a0 st3 lo/\Seg L (Aq st3) lo (m)) (Q:=λc st3=>c=(none,())/\PD kd S L a0 st3 lo/\Seg L (Aq st3) lo (m)) ?stepI ?finI ⟨rfl,pdX,sgX⟩) ?postI)
     case finI =>
      rintro c st3 hh;exact hh
     case stepI =>
      rintro y c st3 _ _ ⟨rfl,pd3,sg3⟩;refine Ah (Dm ?_)
      by_cases hsz:(AG st3).size > 1
      .rw[if_pos hsz];obtain⟨⟨u1,u2,older⟩,hu⟩:∃r,(AG st3)[(AG st3).size-2]?=some r:=⟨_,BP (by lia)⟩;rw[hu]
       try dsimp only
       by_cases hol:older<=power' a0.size (2*s1+n1) (2*s1+n1+n1+m) a0.size
       .rw[if_pos hol];exact Ao ⟨rfl,pd3,sg3⟩
       .rw[if_neg hol];refine Ah (pd3.merge O (by lia) (by lia) λst4 pd4 _ ho=>?_)
        try dsimp only
        rw[if_neg (by decide)];exact Ao ⟨rfl,pd4,sg3.cong λk h5 _=>ho k h5⟩
      .rw[if_neg hsz];exact Ao ⟨rfl,pd3,sg3⟩
     case postI =>
      rintro c st3 ⟨rfl,pd3,sg3⟩
      try dsimp only
      refine Ah (BE (Ah (BE (Ao ⟨lo+m,rfl,.inl (by lia),by lia,?_⟩))));refine⟨pd3.kind,pd3.fail,pd3.perm,pd3.all,?_⟩;show Runs L (Aq st3) (((AG st3).modify ((AG st3).size-1) _).push (lo,m,0)).toList 0 (lo+m);rw[CC,Array.toList_modify];refine Runs.snoc (Runs.power _ _ ?_ pd3.runs) (by lia) sg3;exact λr=>⟨rfl,rfl⟩
 case post =>
  rintro c st1 ⟨rfl,pd1⟩
  try dsimp only
  have hlen:(AG st1).size<=a0.size:=by have:=pd1.runs.le;rw[AC]at this;lia
  refine Ah (B7 (Bn (I:=λx c st2=>c=(none,())/\PD kd S L a0 st2 a0.size/\((AG st2).size+x<=a0.size+1))
   (Q:=λc st2=>c=(none,())/\PD kd S L a0 st2 a0.size/\(AG st2).size<=1) ?step ?fin ⟨rfl,pd1,by lia⟩) ?post)
  case fin =>
   rintro c st2 ⟨rfl,pd2,h5⟩;exact⟨rfl,pd2,by lia⟩
  case step =>
   rintro x c st2 _ hx ⟨rfl,pd2,h5⟩;refine Ah (Dm ?_)
   try dsimp only
   by_cases hle:(AG st2).size<=1
   .rw[if_pos hle];exact Ao ⟨rfl,pd2,hle⟩
   .rw[if_neg hle];refine Ah (pd2.merge O (An _) ?_ λst3 pd3 hs3 _=>?_)
    .have le':∀(c:Prop) [Decidable c] (p q:Nat),(if c then p else q)<=max p q:=λc _ p q=>by split <;> lia
     have:=le' (Option.any (λx=>decide (x<(AG st2)[(AG st2).size-2+1]?.elim 0 λx=>x.snd.fst)) (if (AG st2).size-2 > 0 then Option.map (λx=>x.snd.fst) (AG st2)[(AG st2).size-2-1]? else none)=true) ((AG st2).size-2-1) ((AG st2).size-2);lia
    .try dsimp only
     rw[if_neg (by decide)];exact Ao ⟨rfl,pd3,by lia⟩
  case post =>
   rintro c st2 ⟨rfl,pd2,h5⟩;refine Ao (hQ st2 pd2.perm pd2.fail ?_);have hr:=pd2.runs
   cases hl:(AG st2).toList with
   |nil =>
    rw[hl]at hr;have:0=a0.size:=hr;lia
   |cons r l =>
    have hll:(AG st2).toList.length<=1:=by rw[AC];exact h5
    rw[hl]at hll hr;have:l=[]:=List.length_eq_zero_iff.mp (by simp at hll;simpa using hll);subst this;obtain⟨c1,c2,c3,c4⟩:=hr;have c4':0+r.2.1=a0.size:=c4;rw[c1,show r.2.1=a0.size by lia]at c3;exact c3
end
end TS
namespace L2
open PySem PySem.Spec PyProof.Rows
theorem zdl{α β:Type}{f:α->β}{xs ys:List β}(p:ys.Perm xs):∀{l:List α},xs=l.map f->∃l':List α,l'.Perm l/\ys=l'.map f:=by
 induction p with
 |nil=>intro l h;exact⟨l,List.Perm.refl _,h⟩
 |cons v _ ih =>
  intro l h
  match l,h with
  |x::l,h =>
   injection h with h1 h2;obtain⟨l',p',e⟩:=ih h2;exact⟨x::l',p'.cons x,by rw[e,h1];rfl⟩
 |swap a b r =>
  intro l h
  match l,h with
  |x::y::l,h =>
   injection h with h1 h2;injection h2 with h2 h3;exact⟨y::x::l,List.Perm.swap _ _ _,by rw[h1,h2,h3];rfl⟩
 |trans _ _ ih1 ih2 =>
  intro l h;obtain⟨l1,p1,h1⟩:=ih2 h;obtain⟨l2,p2,h2⟩:=ih1 h1;exact⟨l2,p2.trans p1,h2⟩
section
variable {X:Cx}{pins:List (Addr×Obj)}{σ:St}{H:Hp}{s:Ac}{D st:Addr}{e:Nat}{κV:Nat->List V}{ks:List Addr}{E:Ab->Ac->Prop}
noncomputable def Ordd(κ:Nat->List Int)(n:Nat)(p:Array Nat):Prop:=RK.Pm n p/\p.toList.Pairwise λi j=>HT.lexLt (κ j) (κ i)=false
noncomputable def zcG(κ:Nat->List Int)(ks:List Addr):Ab->List Int
 |.ref a=>κ (ks.idxOf a)
 |_=>[]
theorem zla{vs:List Ab}{κ : Nat -> List Int}(K:SK X pins σ H s D st e κV ks)(hl:ks.length=vs.length)(h2 : 2 <= vs.length)
  (hcol:∀i j,i<ks.length->j<ks.length->∃n m r q rn rm,κV i=.int n::r/\κV j=.int m::q/\VCols r q rn rm/\κ i=n::rn/\κ j=m::rm) :
  zek X (Ordd κ vs.length) (ks.map Value.ref) vs E s:=by
 unfold zek
 obtain⟨fs,kt,hfl,hfi⟩:=ziZ (as:=[]) (vs:=[]) K.inv (ks:=ks) (ns:=(A0 ks.length).map λi=>((κ i).headD 0)) (λi a ha=>by
  have hi:i<ks.length:=(Ae.mp ha).1;obtain⟨n,m,r,q,rn,rm,e1,_,_,e2,_⟩:=hcol i i hi hi;refine⟨n,r,?_,?_⟩
  .rw[Ax,CQ hi,Cz,e2];rfl
  .rw[<- e1];exact K.hk i a ha) (by simp)
 refine W.kat_kind (T:=.type "int") kt (by lia) (λv hv=>?_) rfl ⟨rfl,?_⟩
 .obtain⟨n,t,rfl⟩:=hfi v hv;exact .now
 have hl':(ks.map Value.ref).length=vs.length:=by simp[hl]
 have hsz0:((ks.map Value.ref).toArray.zip vs.toArray).size=vs.length:=by simp[hl]
 generalize hZ:(ks.map Value.ref).toArray.zip vs.toArray=Z at hsz0;have hsz:Z.size=vs.length:=hsz0
 have kap:∀i (hi:i<ks.length),zcG κ ks (Value.ref ks[i])=κ i:=λi hi=>by
  have hj:ks.idxOf ks[i]<ks.length:=List.idxOf_lt_length_iff.mpr (A9 hi);have ej:ks[ks.idxOf ks[i]]=ks[i]:=List.getElem_idxOf hj;obtain⟨n,m,r,q,rn,rm,e1,e2,vc,e3,e4⟩:=hcol (ks.idxOf ks[i]) i hj hi;have k1:=K.hk (ks.idxOf ks[i]) ks[i] (by rw[Aa hj,ej]);have k2:=K.hk i ks[i] (Aa hi);have eq:=K.inv.tuple_inj k1 k2;show κ (ks.idxOf ks[i])=κ i;rw[e1,e2]at eq;injection eq with q1 q2;injection q1 with q1;subst q1;subst q2;rw[e3,e4]
  congr 1
  have same:∀{xs:List V} {as bs:List Int},VCols xs xs as bs->as=bs:=λ{xs}=>by
   induction xs with
   |nil=>intro as bs h;cases h;rfl
   |cons x xs ih =>
    intro as bs h
    cases h with
    |cons c h=>cases c <;> rw[ih h]
  exact same vc
 have itm:∀i,i<vs.length->BI Z i=(Value.ref (ks.getD i 0),vs.getD i BY):=λi hi=>by
  rw[<- hZ,W.kat_item hl'];have:(ks.map Value.ref).getD i BY=Value.ref (ks.getD i 0):=by simp[show i<ks.length by lia]
  rw[this]
 have O:TS.LtOk (Az X.prog X.w) X.A.in1.in1 E s (tuples' true) (λx=>∃i,i<ks.length/\x.1=Value.ref (ks.getD i 0)) (λx y=>HT.lexLt (zcG κ ks x.1) (zcG κ ks y.1)):=by
  refine⟨λx y hx hy st' Q hk q=>?_,λx y z _ _ _ h1 h2=>?_,λx y _ _ h=>HT.lexLt_asym h⟩
  .obtain⟨i,hi,ex⟩:=hx;obtain⟨j,hj,ey⟩:=hy;have gi:ks.getD i 0=ks[i]:=by simp[hi]
   have gj:ks.getD j 0=ks[j]:=by simp[hj]
   rw[gi]at ex;rw[gj]at ey;rw[ex,ey,kap i hi,kap j hj]at q;rw[lt'_eq];refine Ah (Dm ?_);rw[hk,ex,ey];obtain⟨n,m,r,q',rn,rm,e1,e2,vc,e3,e4⟩:=hcol i j hi hj;have k1:=K.hk i ks[i] (Aa hi);have k2:=K.hk j ks[j] (Aa hj);rw[e1]at k1;rw[e2]at k2;obtain⟨its,rv,⟨o,ho,hcl,c,hd⟩,_⟩:=K.inv.tuple k1;obtain⟨its2,rv2,⟨o2,ho2,hcl2,c2,hd2⟩,_⟩:=K.inv.tuple k2;refine Ah (wpS_lift (wpAny_attempt (W.kat_lt ho hd ho2 hd2 ?_)))
   cases rv with
   |cons rx rr =>
    cases rv2 with
    |cons rx2 rr2 =>
     obtain⟨t1,rfl⟩:=rx;obtain⟨t2,rfl⟩:=rx2;have cs:=vc.vals rr rr2
     have hlen:∀{us vs:List Ab} {as bs:List Int},RK.Cols us vs as bs->us.length=vs.length:=λc=>by induction c with
      |nil=>rfl
      |cons _ _ ih=>simp[ih]
     simp only[Ap,AV,hlen cs,CI,decide_false];refine RK.kat_cols0 cs ?_
     rw[e3,e4]at q;exact⟨rfl,Ao q⟩
  .cases q:HT.lexLt (zcG κ ks z.1) (zcG κ ks x.1) with
   |false=>rfl
   |true =>
    have:=HT.lexLt_of_not_lt_lt h2 q;rw[h1]at this;cases this
 have run:=TS.sortRuns_spec O (st:=SortSt.mk' (tuples' true) Z #[] 7 none) (Q:=λ_ st'=>BX st'=none/\∃p:Array Nat,Ordd κ vs.length p/\p.size=vs.length/\Aq st'=p.map (BI Z))
  (by show 2<=Z.size;lia) rfl rfl rfl (λk x hx=>?_) (λst' hp hf hs=>?_)
 .exact By run (λr s' h=>⟨h.1,h.2⟩) λ_ _ z=>z
 .have hk':k<vs.length:=by rw[<- hsz];exact (Bh.mp hx).1
  have hx':Z[k]?=some x:=hx
  have e1:BI Z k=x:=by unfold BI;rw[Array.getD_eq_getD_getElem?,hx'];rfl
  rw[itm k hk']at e1;exact⟨k,by lia,by rw[<- e1]⟩
 .refine⟨hf,?_⟩;have hp':(Aq st').Perm Z:=hp;have hrng:=W.kas_range Z;rw[hsz]at hrng;obtain⟨l,pl,el⟩:=zdl (Bv.mp hp') (l:=A0 vs.length) (f:=BI Z) (by have:=congrArg Array.toList hrng;simpa using this.symm);have hll:l.length=vs.length:=by rw[pl.length_eq,CF]
  refine⟨l.toArray,⟨?_,?_⟩,by simpa using hll,?_⟩
  .exact Bv.mpr (by simpa using pl)
  .rw[B6];intro i j hi hj hij;have hi':i<l.length:=by simpa using hi
   have hj':j<l.length:=by simpa using hj
   have ai:(Aq st')[i]?=some (BI Z l[i]):=by rw[<- A5,el,Ax,Aa hi'];rfl
   have aj:(Aq st')[j]?=some (BI Z l[j]):=by rw[<- A5,el,Ax,Aa hj'];rfl
   have li:l[i]<vs.length:=BA.mp (pl.mem_iff.mp (A9 hi'));have lj:l[j]<vs.length:=BA.mp (pl.mem_iff.mp (A9 hj'));have:=hs i j _ _ (by lia) (by show j<Z.size;lia) (by rw[BV];exact ai) (by rw[BV];exact aj);rw[itm _ li,itm _ lj]at this;have g1:ks.getD l[i] 0=ks[l[i]]'(by lia):=by simp[show l[i]<ks.length by lia]
   have g2:ks.getD l[j] 0=ks[l[j]]'(by lia):=by simp[show l[j]<ks.length by lia]
   simp only[g1,g2]at this;rw[kap _ (by lia),kap _ (by lia)]at this;simpa using this
  .apply Array.toList_inj.mp
   rw[el];simp
end
section
variable {X:Cx}{x:Str}{p pos kp kpos:Pos}{e:Expr}{te:TE}{k:Nat}{f:Addr}{fd:Bx}{ps:List Str}{sp:Sp}{fn:Str}
noncomputable def zli(K:W.Frag)(te:TE)(sp:Sp):TE:=λσ H Q=>te σ H λv H1=>∃l xs,∃ κV:Nat->List V,∃ κ:Nat->List Int,[v]=[V.ref l]/\SqL K H1 l xs/\xs.length<=1000 /\
 (∀i x H2,xs[i]?=some x->Same H1 H2->sp [x] H2 (λv H'=>Same H2 H'/\∃a,v=.ref a/\SqT K H' a (κV i)) E0) /\
 (∀i j,i<xs.length->j<xs.length->∃n m r q rn rm,κV i=.int n::r/\κV j=.int m::q/\VCols r q rn rm/\κ i=n::rn/\κ j=m::rm)/\∀(p:List Nat) D H',p.Perm (A0 xs.length)->p.Pairwise (λi j=>HT.lexLt (κ j) (κ i)=false)->H1 D=none->Same H1 H'->H' D=some (.lst (p.map λi=>xs.getD i .non))->Q (.ref D) H'
theorem zhn (F:FnOk X.prog X.w X.K X.mg X.base CX0 k f fd ps sp) (hr:Room (k + 1 + 1) X.A) (hb:Binds X.K fd ps []) (hg:Gl X "sorted") (hm:X.mg "sorted" = none) (hgf:Gl X fn) (hmf:X.mg fn=some (.ref f)) (he:PE X e te)
  (hdb:(fn == ("__debug__" : Str))=false:=by decide) (hse:Bq [e] X.env=[(false,eval e X.env)]:=by rfl) (hh:X.calm=true:=by rfl)
  (hall:(Ds pos (Ck [⟨some "key",.Name fn kp,kpos⟩] X.env)).all (·.1.isSome)=true:=by rfl) (hkw:(Ds pos (Ck [⟨some "key",.Name fn kp,kpos⟩] X.env)).any (·.1.isNone)=false:=by rfl)
  (hks:(Ds pos (Ck [⟨some "key",.Name fn kp,kpos⟩] X.env)).filterMap (·.1)=[Br "key"]:=by rfl) :
  PE X (.Call (.Name "sorted" p) [e] [⟨some "key",.Name fn kp,kpos⟩] pos) (zli X.K te sp):=by
 intro pins s σ H Q I h;refine CW (zd5 I hg hm boot_sorted ?_ (by decide) (by decide));refine callWith_kw (thn (zah he zac (hs:=hse) pos pins s σ H (λvs H1=>∃l xs,∃ κV:Nat->List V,∃ κ:Nat->List Int,vs=[V.ref l]/\SqL X.K H1 l xs/\xs.length<=1000 /\
 (∀i x H2,xs[i]?=some x->Same H1 H2->sp [x] H2 (λv H'=>Same H2 H'/\∃a,v=.ref a/\SqT X.K H' a (κV i)) E0) /\
 (∀i j,i<xs.length->j<xs.length->∃n m r q rn rm,κV i=.int n::r/\κV j=.int m::q/\VCols r q rn rm/\κ i=n::rn/\κ j=m::rm)/\∀(p:List Nat) D H',p.Perm (A0 xs.length)->p.Pairwise (λi j=>HT.lexLt (κ j) (κ i)=false)->H1 D=none->Same H1 H'->H' D=some (.lst (p.map λi=>xs.getD i .non))->Q (.ref D) H') I ?_) λus s1 ⟨vs,H1,I1,r,q⟩=>?_) (by rw[hse];rfl) (by rw[hse];rfl) hall hkw
 .show te σ H _;exact h
 .obtain⟨l,xs,κV,κ,rfl,hq,h64,turn,hcol,hQ⟩:=q;obtain⟨u,rfl,ru⟩:=Vals.one r
  cases (show u=Value.ref l from ru)
  refine thn (ziH (nm:=some "key") (kpos:=kpos) (zdb (v:=.ref f) hgf hmf rfl hdb) zkk pos pins s1 σ H1 (λzs H2=>zs=[.ref f]/\H2=H1) I1 ⟨rfl,rfl⟩) λws s2 ⟨zs,H2,I2,rz,q2⟩=>?_
  obtain⟨rfl,rfl⟩:=q2;obtain⟨u2,rfl,ru2⟩:=Vals.one rz
  cases (show u2=Value.ref f from ru2)
  rw[hks];refine zic (G:=Ordd κ xs.length) (zlM F hr hb turn) hq (λp hp i hi=>?_) (λh2=>⟨Dz _,?_⟩) (λ{vs ks H' s' D st e} r' K' hks h2=>?_) (λp D H' g hp hD hS hH=>hQ p.toList D H' ?_ g.2 hD hS hH) I2
  .have:=hp.1.mem_iff.mp (show i∈p by simpa using hi);simpa using this
  .rw[B6];intro i j hi hj hij;simp at hi hj;lia
  .have hlx:xs.length=vs.length:=r'.length;rw[hlx];exact zla K' hks h2 λi j hi hj=>hcol i j (by lia) (by lia)
  .have:=Bv.mp g.1;simpa using this
end
section
variable {prog:AH}{w:Bc}{A:AQ}{R:Result->Ac->Prop}{s:Ac}
theorem zdt{elt:Expr}{c0:Comprehension}{target iter:Expr}{ifs:List Expr}{rest:List Comprehension}{scope:Scope}{pos:Pos}{it acc:Ab}{env:Env}
  (h0:CB (Az prog w) A (.compLoop (.ListComp elt (c0::⟨target,iter,ifs,0⟩::rest) scope pos) 1 it acc env) R s)
  (h:Aw (Az prog w) A (pyIter it) (λit' s'=>CB (Az prog w) A (.compLoop (.ListComp elt (c0::⟨target,iter,ifs,0⟩::rest) scope pos) 1 it' acc env) R s') (notedBy (Az prog w) A env λx s'=>R (.error x) s') s) :
  CB (Az prog w) A (.compStart (.ListComp elt (c0::⟨target,iter,ifs,0⟩::rest) scope pos) 1 it acc env) R s:=by
 refine codeAny_of_tree ?_
 show Aw _ _ ((compStart (.ListComp elt (c0::⟨target,iter,ifs,0⟩::rest) scope pos) 1 it acc env).onRaise (λx=>do noteFrame x env;standAt theWindowsPlace)) _ _ s;refine wpAny_notedAt ?_
 unfold compStart;show Aw _ _ (ask >>= _) _ _ s;refine Ad (wpAny_askSetting (wpAny_ite ?_));split
 .first
   |exact Aj (And.intro rfl h0)
   |exact Ad (Aj (Aj (And.intro rfl h0)))
 .refine Ad (CN ?_);show Aw _ _ (standAt iter.pos >>= _) _ _ s;exact Ad (CJ (Ad (By h (λit' s' h'=>Aj (And.intro rfl h')) λ_ _ z=>z)))
end
section
variable {X:Cx}{osc:Scope}{N:List Str}{sc:Scope}{N':List Str}{sel:List (Option Nat)}{pos:Pos}{elt kx vx tg iter tg2 iter2:Expr}{ifs ifs2:List Expr}{wi wi2:TI}{g g2:TG}{tt tt2:TT}{te tk tv:TE}
noncomputable def tNest(wi2:TI)(g2:TG)(tb:TS):TS:=λD σ H=>wi2 σ H λJ H1=>zcc J g2 tb { nx:=D.nx,rt:=λ_ _=>False } σ H1
theorem zkT{Y:Cx}{p:Addr}(hc:Y.calm=true)(hx:Y.xe=λ_ _ => False)(hi2:PI Y tg2 iter2 wi2)(hg2:PG Y tg2 g2)(ht2:PTs Y ifs2 tt2)(he:PE Y elt te)(hs2:∀x, Bw iter2 Y.env x=pure x) :
  PB Y (do
   let x <- eval iter2 Y.env
   standAt iter2.pos
   let x <- Bw iter2 Y.env x
   let _ <- runOwn (.compStart (.ListComp elt [⟨tg,iter,ifs,0⟩,⟨tg2,iter2,ifs2,0⟩] sc pos) 1 (<- Dw [x] (pyIter x)) (.ref p) Y.env) Y.env) (tNest wi2 g2 (tIfs tt2 (zcd p te))):=by
 intro pins s σ H D I h;refine Ad (thn (hi2 pins s σ H _ I h) λv s1 h1=>?_);refine Ad (CJ ?_);rw[hs2];refine Ad (Aj ?_);refine Ad (Bo (thn h1 λitv s2 h2=>?_));obtain⟨it,fp,tn,J,H2,e,I2,T,st2,f2,h2⟩:=h2;subst e
 have loop:CB (Az Y.prog Y.w) Y.A (.compLoop (.ListComp elt [⟨tg,iter,ifs,0⟩,⟨tg2,iter2,ifs2,0⟩] sc pos) 1 (.ref it) (.ref p) Y.env) (λr s'=>match r with |.ok f=>Aw (Az Y.prog Y.w) Y.A (pure ()) (λ_ s'=>∃ σ' H',Inv Y pins σ' H' s'/\D.nx σ' H') Y.xe s' |.error e=>cameBackBy (Az Y.prog Y.w) Y.A Y.env Y.xe e s') s2 :=
  zc1 (X:=Y) (p:=iter2.pos) (inner:=do let _ <- call (.builtin "list.append") [.ref p,<- eval elt Y.env]) rfl rfl rfl (λB {α t Q E s} h w=>by subst h;exact w) hc hx hg2 ht2 (ziK he) I2 T st2 f2 h2 λfl s' ⟨σ',H',I',_,q⟩=>Aj ⟨σ',H',I',q⟩
 refine Ad (wpAny_runOwn (zdt loop (T.self _ 0 _ _ _ st2 loop)))
theorem zgo{env:Env}{it p:Addr} : compTurn (.ListComp elt [⟨tg, iter, ifs, 0⟩, ⟨tg2, iter2, ifs2, 0⟩] sc pos) 0 (.ref it) (.ref p) env=(do
   standAt iter.pos
   match <- pyNext (.ref it) with
   |none=>pure (.done .next)
   |some v =>
    Dx tg (.ref it) v
    assign tg env v
    let mut ok:=true
    for c in ifs do
     if ok then ok <- isTrue c env (eval c env)
    if ok then
     (do
      let x <- eval iter2 env
      standAt iter2.pos
      let x <- Bw iter2 env x
      let _ <- runOwn (.compStart (.ListComp elt [⟨tg,iter,ifs,0⟩,⟨tg2,iter2,ifs2,0⟩] sc pos) 1 (<- Dw [x] (pyIter x)) (.ref p) env) env)
    again (.compLoop (.ListComp elt [⟨tg,iter,ifs,0⟩,⟨tg2,iter2,ifs2,0⟩] sc pos) 0 (.ref it) (.ref p) env)):=by
 unfold compTurn;simp only[bind_assoc,pure_bind];rfl
theorem zh9{it:Addr}{fp:List Addr}{tn:Nat -> Heap -> Prop}{J:It}(T:Turn X.prog X.w X.K tg J fp it tn)(hc:X.calm=true)(hg:InBlk X sc N' λY => PG Y tg g)(ht:InBlk X sc N' λY => PTs Y ifs tt)
  (hi2:InBlk X sc N' λY=>PI Y tg2 iter2 wi2) (hg2:InBlk X sc N' λY=>PG Y tg2 g2) (ht2:InBlk X sc N' λY=>PTs Y ifs2 tt2) (he:InBlk X sc N' λY=>PE Y elt te) (hs2:∀cl C x,Bw iter2 (CT sc cl C X.env) x=pure x) :
  ∀cl C s0 H0 ex p pins s σ H Dn R,Inv (blk X sc cl C N' s0 H0 ex) pins σ H s->tn 0 s.heap->(∀b∈fp,FpOk (blk X sc cl C N' s0 H0 ex) pins H b)->zcc J g (tIfs tt (tNest wi2 g2 (tIfs tt2 (zcd p te)))) Dn σ H ->
   (∀fl s',(∃ σ' H',Inv (blk X sc cl C N' s0 H0 ex) pins σ' H' s'/\(∀b∈fp,H' b=none)/\Dn.nx σ' H')->R (.ok fl) s')->CB (Az X.prog X.w) X.A (.compLoop (.ListComp elt [⟨tg,iter,ifs,0⟩,⟨tg2,iter2,ifs2,0⟩] sc pos) 0 (.ref it) (.ref p) (CT sc cl C X.env)) R s :=
 λcl C s0 H0 ex p pins s σ H Dn R I st f W hR =>
  zc1 (X:=blk X sc cl C N' s0 H0 ex) (p:=iter.pos) (inner:=do
   let x <- eval iter2 (CT sc cl C X.env)
   standAt iter2.pos
   let x <- Bw iter2 (CT sc cl C X.env) x
   let _ <- runOwn (.compStart (.ListComp elt [⟨tg,iter,ifs,0⟩,⟨tg2,iter2,ifs2,0⟩] sc pos) 1 (<- Dw [x] (pyIter x)) (.ref p) (CT sc cl C X.env)) (CT sc cl C X.env))
   rfl rfl zgo (λB {α t Q E s} h w=>by subst h;exact w) hc rfl (hg _ _ _ _ _) (ht _ _ _ _ _) (zkT (Y:=blk X sc cl C N' s0 H0 ex) hc rfl (hi2 _ _ _ _ _) (hg2 _ _ _ _ _) (ht2 _ _ _ _ _) (he _ _ _ _ _) (hs2 cl C)) I T st f W hR
noncomputable def zkG(wi:TI)(sel:List (Option Nat))(g:TG)(tt:TT)(wi2:TI)(g2:TG)(tt2:TT)(te:TE)(i:Nat):TS:=λD σ H=>wi σ H λJ H1=>∀p,H1 p=none ->
 zcc J g (tIfs tt (tNest wi2 g2 (tIfs tt2 (zcd p te)))) { nx:=λ_ H'=>D.nx (σ.set i (some (.ref p))) H',rt:=λ_ _=>False } (selSt sel σ) (upd H1 p (.lst []))
theorem ziE{i:Nat}{x:Str}{px spos:Pos}(B:BlkOk osc N sc N' sel)(hnd:X.N.Nodup)(hi':X.N[i]? = some x)(hx:Loc X.env.scope x)(hi:PI X tg iter wi)(hg:InBlk X sc N' λY => PG Y tg g)(ht:InBlk X sc N' λY => PTs Y ifs tt)(hi2:InBlk X sc N' λY => PI Y tg2 iter2 wi2)(hg2:InBlk X sc N' λY => PG Y tg2 g2)(ht2:InBlk X sc N' λY => PTs Y ifs2 tt2)(he:InBlk X sc N' λY => PE Y elt te)(hs2:∀cl C x, Bw iter2 (CT sc cl C X.env) x=pure x)
  (hsw:swapsWith (.ListComp elt [⟨tg,iter,ifs,0⟩,⟨tg2,iter2,ifs2,0⟩] sc pos) (some (.Name x px)) spos.line X.env=pure true:=by rfl)
  (ho:X.env.scope=osc:=by rfl) (hN:X.N=N:=by rfl) (hc:X.calm=true:=by rfl) (hs:∀x,Bw iter X.env x=pure x:=by intro _;rfl)
  (hf:X.fn x=true∨X.env.scope.names.lookup x=some .local:=by first |exact .inl rfl |exact .inr rfl |assumption) :
  PS X (.Assign [.Name x px] (.ListComp elt [⟨tg,iter,ifs,0⟩,⟨tg2,iter2,ifs2,0⟩] sc pos) spos) (zkG wi sel g tt wi2 g2 tt2 te i):=by
 intro pins s σ H D I h;obtain⟨cl,Cl⟩:=zhM I.ok B ho;rw[exec_Assign_Name_used _ _ _ _ hsw];refine Ad (CJ (Ad ?_));show Aw _ X.A (do let _ <- comprehension (.ListComp elt [⟨tg,iter,ifs,0⟩,⟨tg2,iter2,ifs2,0⟩] sc pos) sc X.env _ (newList []) false (eval iter X.env) (some (assign (.Name x px) X.env))) _ _ s;refine Ad (thn (CM (use:=some (assign (.Name x px) X.env)) (Q:=λ_ s'=>SP X pins D .next s') rfl hs Cl.run B.kind B.names (thn (hi pins s σ H _ I h) λv s1 h1=>thn h1 λitv s2 h2=>?_)) λ_ s' hq=>Aj (Aj hq));obtain⟨it,fp,tn,J,H2,e,I2,T,st2,f2,h2⟩:=h2;subst e
 refine BG (zc2 (e:=.ListComp elt [⟨tg,iter,ifs,0⟩,⟨tg2,iter2,ifs2,0⟩] sc pos) (inner:=λ_ _=>pure ()) (D:=λp=>{ nx:=λ_ H'=>D.nx (σ.set i (some (.ref p))) H',rt:=λ_ _=>False }) (tb:=λp=>tNest wi2 g2 (tIfs tt2 (zcd p te))) (use:=some (assign (.Name x px) X.env)) B ho hN hc (λacc env R s a b=>codeAny_compStart_list a b)
  (zh9 (iter:=iter) (pos:=pos) T hc hg ht hi2 hg2 ht2 he hs2) I2 T st2 f2 zgY rfl (h2 _ (I2.hok.fresh (An _))) (λC H' s' I3 fC hn hq=>?_) s2.toks cl Cl X.xe)
 obtain⟨m,hn⟩:=hn;obtain⟨_,hq⟩:=hq;show Aw _ X.A (assign (.Name x px) X.env (.ref s2.heap.objs.size)) _ _ _;refine wpAny_assign_Name (zdD I3 hnd hi' hx (v:=.ref s2.heap.objs.size) rfl (λs4 I4 hch=>?_) hf);obtain⟨a,sb,ha⟩:=hch
 have nC:C≠a:=by
  rcases ha with z |z
  .rw[z];exact fC.2.1
  .exact λq=>fC.2.2.2.2.1 x a z q.symm
 refine⟨m,hn.sameBut sb nC,λh' hs'=>⟨_,H',I4.let_go fC hs',hq⟩⟩
end
end L2
namespace RP
noncomputable def mv(i:Nat):Int×Int:=([(1,0),(1,1),(0,1),(-1,1),(-1,0),(-1,-1),(0,-1),(1,-1)]:List (Int×Int)).getD i (0,0)
noncomputable abbrev Cell:=Int×Int
noncomputable def go(c:Cell)(i:Nat):Cell:=(c.1+(mv i).1,c.2+(mv i).2)
structure Edge where
 c:Cell
 w:Nat
 deriving DecidableEq
noncomputable def gap(e:Edge):Cell:=go e.c ((2*e.w+6) % 8)
noncomputable def stepB(C:Cell->Bool)(e:Edge):Option Nat :=
 if C (go e.c ((2*e.w+7) % 8))=true then some ((2*e.w+7) % 8) else if C (go e.c (2*e.w))=true then some (2*e.w) else none
noncomputable def slant:Option Nat->Bool
 |none=>false
 |some s=>s % 2 == 1
noncomputable def edgeB(e:Edge):Option Nat->Edge
 |none=>⟨e.c,(e.w+1) % 4⟩
 |some s=>if s % 2=1 then ⟨go e.c s,(e.w+3) % 4⟩ else ⟨go e.c s,e.w⟩
noncomputable def nxt(C:Cell->Bool)(e:Edge):Edge:=edgeB e (stepB C e)
noncomputable def IsE(C:Cell->Bool)(e:Edge):Prop:=e.w<4/\C e.c=true/\C (gap e)=false
noncomputable def prv(C:Cell->Bool)(f:Edge):Edge :=
 if C (go f.c ((2*f.w+5) % 8))=true then ⟨go f.c ((2*f.w+5) % 8),(f.w+1) % 4⟩
 else if C (go f.c ((2*f.w+4) % 8))=true then ⟨go f.c ((2*f.w+4) % 8),f.w⟩ else ⟨f.c,(f.w+3) % 4⟩
theorem way4{w:Nat}(h:w<4):w=0∨w=1∨w=2∨w=3:=by lia
noncomputable def mvAdd(a b d:Nat):Bool:=(mv a).1+(mv b).1 == (mv d).1 && (mv a).2+(mv b).2 == (mv d).2
noncomputable def mvNil(a b:Nat):Bool:=(mv a).1+(mv b).1 == 0 && (mv a).2+(mv b).2 == 0
theorem go_go{c:Cell}{a b d:Nat}(h:mvAdd a b d=true):go (go c a) b=go c d:=by unfold mvAdd at h;simp only[BL,beq_iff_eq]at h;unfold go;exact Prod.ext (by show c.1+(mv a).1+(mv b).1=c.1+(mv d).1;lia) (by show c.2+(mv a).2+(mv b).2=c.2+(mv d).2;lia)
theorem zi5{c:Cell}{a b:Nat}(h:mvNil a b=true):go (go c a) b=c:=by unfold mvNil at h;simp only[BL,beq_iff_eq]at h;unfold go;exact Prod.ext (by show c.1+(mv a).1+(mv b).1=c.1;lia) (by show c.2+(mv a).2+(mv b).2=c.2;lia)
theorem f1:∀w<4,mvAdd ((2*w+7) % 8) ((2*((w+3) % 4)+6) % 8) ((2*w+6) % 8)=true:=by decide
theorem f2:∀w<4,mvAdd (2*w) ((2*w+6) % 8) ((2*w+7) % 8)=true:=by decide
theorem f3:∀w<4,(2*((w+1) % 4)+6) % 8=2*w:=by decide
theorem f4:∀w<4,mvNil ((2*w+7) % 8) ((2*((w+3) % 4)+5) % 8)=true:=by decide
theorem f5:∀w<4,mvAdd (2*w) ((2*w+5) % 8) ((2*w+6) % 8)=true:=by decide
theorem f6:∀w<4,mvNil (2*w) ((2*w+4) % 8)=true:=by decide
theorem f7:∀w<4,(2*((w+1) % 4)+5) % 8=(2*w+7) % 8:=by decide
theorem f8:∀w<4,(2*((w+1) % 4)+4) % 8=(2*w+6) % 8:=by decide
theorem odd7(w:Nat):(2*w+7) % 8 % 2=1:=by lia
theorem za7{C:Cell -> Bool}{e:Edge}(h:IsE C e) :
  (C (go e.c ((2*e.w+7) % 8))=true/\stepB C e=some ((2*e.w+7) % 8)/\nxt C e=⟨go e.c ((2*e.w+7) % 8),(e.w+3) % 4⟩) ∨
  (C (go e.c ((2*e.w+7) % 8))=false/\C (go e.c (2*e.w))=true/\stepB C e=some (2*e.w)/\nxt C e=⟨go e.c (2*e.w),e.w⟩) ∨
  (C (go e.c ((2*e.w+7) % 8))=false/\C (go e.c (2*e.w))=false/\stepB C e=none/\nxt C e=⟨e.c,(e.w+1) % 4⟩):=by
 unfold nxt stepB
 by_cases h1:C (go e.c ((2*e.w+7) % 8))=true
 .left;rw[if_pos h1];exact⟨h1,rfl,by simp only[edgeB];rw[if_pos (odd7 _)]⟩
 .right;have h1':C (go e.c ((2*e.w+7) % 8))=false:=by simpa using h1
  rw[if_neg h1]
  by_cases h2:C (go e.c (2*e.w))=true
  .left;rw[if_pos h2];exact⟨h1',h2,rfl,by simp only[edgeB];rw[if_neg (by lia)]⟩
  .right;rw[if_neg h2];exact⟨h1',by simpa using h2,rfl,rfl⟩
theorem zeP{C:Cell->Bool}{e:Edge}(h:IsE C e):IsE C (nxt C e):=by
 obtain⟨hw,hc,hg⟩:=id h;rcases za7 h with⟨h1,_,q⟩ |⟨h1,h2,_,q⟩ |⟨h1,h2,_,q⟩ <;> rw[q]
 .refine⟨Ca _ (by decide),h1,?_⟩;unfold gap;rw[go_go (f1 _ hw)];exact hg
 .refine⟨hw,h2,?_⟩;unfold gap;rw[go_go (f2 _ hw)];exact h1
 .refine⟨Ca _ (by decide),hc,?_⟩;unfold gap;simp only;rw[f3 _ hw];exact h2
theorem ziF{C:Cell->Bool}{e:Edge}(h:IsE C e):prv C (nxt C e)=e:=by
 obtain⟨hw,hc,hg⟩:=id h;unfold gap at hg;rcases za7 h with⟨h1,_,q⟩ |⟨h1,h2,_,q⟩ |⟨h1,h2,_,q⟩ <;> rw[q] <;> unfold prv <;> simp only
 .rw[zi5 (f4 _ hw),if_pos hc];rw[show ((e.w+3) % 4+1) % 4=e.w by lia]
 .rw[go_go (f5 _ hw),hg,if_neg (by decide),zi5 (f6 _ hw),if_pos hc]
 .rw[f7 _ hw,h1,if_neg (by decide),f8 _ hw,hg,if_neg (by decide)];rw[show ((e.w+1) % 4+3) % 4=e.w by lia]
theorem zgW{C:Cell->Bool}{e f:Edge}(he:IsE C e)(hf:IsE C f)(h:nxt C e=nxt C f):e=f:=by rw[<- ziF he,<- ziF hf,h]
noncomputable def Chain(C:Cell->Bool)(b:Edge)(es:List Edge):Prop:=es[0]?=some b/\(∀i e f,es[i]?=some e->es[i+1]?=some f->f=nxt C e)/\(∀e∈es,IsE C e)/\es.Nodup
theorem Chain.start{C:Cell->Bool}{b:Edge}(h:IsE C b):Chain C b [b] :=
 ⟨rfl,λi e f _ h2=>by simp at h2,λe he=>by rw[Ar.mp he];exact h,by simp⟩
theorem Chain.more{C:Cell->Bool}{b l:Edge}{es:List Edge}(h:Chain C b (es++[l]))(hn:nxt C l≠b):Chain C b ((es++[l])++[nxt C l]):=by
 obtain⟨h0,hs,hE,hnd⟩:=h;have hl:(es++[l])[es.length]?=some l:=by simp
 have lE:=hE l (by simp);refine⟨?_,λi e f h1 h2=>?_,λe he=>?_,?_⟩
 .rw[Ay (by simp)];exact h0
 .rcases AY (i+1) (es++[l]).length with hi |hi
  .rw[Ay (by lia)]at h1;rw[Ay hi]at h2;exact hs i e f h1 h2
  .have hi2:=(Ae.mp h2).1;simp at hi2 hi;have hi3:i=es.length:=by lia
   subst hi3;rw[Ay (by simp)]at h1;rw[hl]at h1
   cases h1
   rw[AK (by simp)]at h2;simp at h2;exact h2.symm
 .rcases AT.mp he with he |he
  .exact hE e he
  .rw[Ar.mp he];exact zeP lE
 .rw[List.nodup_append];refine⟨hnd,by simp,λx hx y hy=>?_⟩;rw[Ar.mp hy];intro e;subst e;obtain⟨i,hi,ei⟩:=AN hx;rcases DF i with rfl |hp
  .rw[Aa hi,ei]at h0;exact hn (AJ h0)
  .have hi':i-1<(es++[l]).length:=by lia
   have e1:=hs (i-1) ((es++[l])[i-1]) (nxt C l) (Aa hi') (by rw[show i-1+1=i by lia,Aa hi,ei]);have e2:=zgW lE (hE _ (A9 hi')) e1;have e3:es.length=i-1:=(CH (by simp) hnd).mp (by rw[hl,Aa hi',<- e2]);simp at hi;lia
theorem zaT{α:Type} [DecidableEq α]:∀{a b:List α},a.Nodup->(∀x∈a,x∈b)->a.length<=b.length
 |[],_,_,_=>AU _
 |x::a,b,hn,hs=>by
  have hx:x∈b:=hs x Av
  have h1:=zaT (a:=a) (b:=b.erase x) (Cy.mp hn).2 (λy hy=>by refine (List.mem_erase_of_ne ?_).mpr (hs y (As _ hy));intro e;subst e;exact (Cy.mp hn).1 hy)
  rw[List.length_erase_of_mem hx]at h1;have:0<b.length:=List.length_pos_of_mem hx;simp only[AV];lia
noncomputable def sides(cs:List Cell):List Edge:=cs.flatMap λc=>(A0 4).map λw=>⟨c,w⟩
theorem zbs(cs:List Cell):(sides cs).length=4*cs.length:=by
 unfold sides
 induction cs with
 |nil=>rfl
 |cons c r ih=>rw[List.flatMap_cons,Ai,ih];simp;lia
theorem zcW{cs:List Cell}{e:Edge}:e∈sides cs ↔ e.c∈cs/\e.w<4:=by
 unfold sides;rw[List.mem_flatMap];constructor
 .rintro⟨c,hc,h⟩;obtain⟨w,hw,rfl⟩:=Bg.mp h;exact⟨hc,BA.mp hw⟩
 .rintro⟨hc,hw⟩;exact⟨e.c,hc,Bg.mpr ⟨e.w,List.mem_range.mpr hw,rfl⟩⟩
noncomputable def isIn(cs:List Cell)(c:Cell):Bool:=decide (c∈cs)
theorem Chain.short{cs:List Cell}{b:Edge}{es:List Edge}(h:Chain (isIn cs) b es):es.length<=4*cs.length:=by rw[<- zbs];exact zaT h.2.2.2 λe he=>zcW.mpr ⟨of_decide_eq_true (h.2.2.1 e he).2.1,(h.2.2.1 e he).1⟩
noncomputable def allE(cs:List Cell):List Edge:=(sides cs).filter λe=>!isIn cs (gap e)
theorem zhu{cs:List Cell}{e:Edge}:e∈allE cs ↔ IsE (isIn cs) e:=by
 unfold allE;rw[List.mem_filter,zcW];unfold IsE isIn;constructor
 .rintro⟨⟨h1,h2⟩,h3⟩;exact⟨h2,decide_eq_true h1,by simpa using h3⟩
 .rintro⟨h1,h2,h3⟩;exact⟨⟨of_decide_eq_true h2,h1⟩,by simpa using h3⟩
noncomputable def dx(w:Nat):Int:=if w=0 then 1 else if w=2 then -1 else 0
noncomputable def dy(w:Nat):Int:=if w=1 then 1 else if w=3 then -1 else 0
noncomputable def px(e:Edge):Int:=e.c.1+(if e.w=1∨e.w=2 then 1 else 0)
noncomputable def py(e:Edge):Int:=e.c.2+(if e.w=2∨e.w=3 then 1 else 0)
theorem ziL{C:Cell->Bool}{e:Edge}(h:IsE C e):px (nxt C e)=px e+dx e.w/\py (nxt C e)=py e+dy e.w:=by
 have hw:=h.1
 rcases za7 h with⟨_,_,q⟩ |⟨_,_,_,q⟩ |⟨_,_,_,q⟩ <;> rw[q] <;> obtain⟨c,w⟩:=e <;> simp only at hw <;>
  rcases way4 hw with rfl |rfl |rfl |rfl <;> simp[px,py,dx,dy,go,mv] <;> lia
theorem zle{C:Cell->Bool}{e:Edge}(h:IsE C e):(nxt C e).w=(e.w+3) % 4∨(nxt C e).w=e.w∨(nxt C e).w=(e.w+1) % 4:=by
 rcases za7 h with⟨_,_,q⟩ |⟨_,_,_,q⟩ |⟨_,_,_,q⟩ <;> rw[q]
 .exact .inl rfl
 .exact .inr (.inl rfl)
 .exact .inr (.inr rfl)
noncomputable def Closed(C:Cell->Bool)(b:Edge)(es:List Edge):Prop:=Chain C b es/\∃l,es[es.length-1]?=some l/\nxt C l=b
theorem psum{C:Cell->Bool}{b:Edge}{es:List Edge}(h:Chain C b es):∀i e,es[i]?=some e->px e=px b+((es.take i).map λe=>dx e.w).sum/\py e=py b+((es.take i).map λe=>dy e.w).sum
 | 0,e,he=>by
  have h0:=h.1;rw[he]at h0
  cases h0
  simp
 |i+1,e,he=>by
  have hi:i+1<es.length:=(Ae.mp he).1;have h1:es[i]?=some es[i]:=Aa (by lia)
  obtain⟨a,c⟩:=psum h i _ h1;have hn:=h.2.1 i _ e h1 he;obtain⟨p,q⟩:=ziL (h.2.2.1 _ (A9 (show i<es.length by lia)));rw[<- hn]at p q;rw[Dk,h1];simp only[Option.toList_some,AE,Bf,List.map_nil,List.sum_append,C9,List.sum_nil];lia
theorem Closed.sums{C:Cell->Bool}{b:Edge}{es:List Edge}(h:Closed C b es):(es.map λe=>dx e.w).sum=0/\(es.map λe=>dy e.w).sum=0:=by
 obtain⟨hc,l,hl,hb⟩:=h;have hlt:=(Ae.mp hl).1;obtain⟨a,c⟩:=psum hc _ l hl;have hlm:=(Ae.mp hl).2;obtain⟨p,q⟩:=ziL (hc.2.2.1 l (by rw[<- hlm];exact A9 _));rw[hb]at p q
 have e:es=es.take (es.length-1)++[l]:=by have:=Dk (l:=es) (i:=es.length-1);rw[hl,show es.length-1+1=es.length by lia,Bb]at this;simpa using this
 have s1:(es.map λe=>dx e.w).sum=((es.take (es.length-1)).map λe=>dx e.w).sum+dx l.w:=by
  conv=>lhs;rw[e]
  simp
 have s2:(es.map λe=>dy e.w).sum=((es.take (es.length-1)).map λe=>dy e.w).sum+dy l.w:=by
  conv=>lhs;rw[e]
  simp
 lia
theorem zhT{l:List Int}(h:∀x∈l,0<=x):0<=l.sum:=by
 induction l with
 |nil=>simp
 |cons a r ih =>
  have:=h a Av;have:=ih λx hx=>h x (As _ hx)
  simp only[C9];lia
theorem zha{l:List Int}(h:∀x∈l,0<=x)(hs:l.sum=0):∀x∈l,x=0:=by
 induction l with
 |nil=>intro x hx;cases hx
 |cons a r ih =>
  have h1:=h a Av;have h2:=zhT λx hx=>h x (As _ hx)
  simp only[C9]at hs;intro x hx;rcases AW.mp hx with rfl |hx
  .lia
  .exact ih (λx hx=>h x (As _ hx)) (by lia) x hx
theorem zkZ(l:List Int):(l.map λx=>-x).sum=-l.sum:=by
 induction l with
 |nil=>rfl
 |cons a r ih=>simp only[Bf,C9,ih];lia
theorem zji(l:List Int)(d:Int)(h:∀x∈l,x=d):l.sum=d*l.length:=by
 induction l with
 |nil=>simp
 |cons a r ih =>
  have h1:=h a Av;have h2:=ih λx hx=>h x (As _ hx)
  simp only[C9,AV,h1,h2];rw[Int.natCast_add,Int.mul_add];lia
theorem Closed.has{C:Cell->Bool}{b:Edge}{es:List Edge}(h:Closed C b es){k:Nat}(hk:k=0∨k=2):∃e∈es,e.w=k:=by
 apply Classical.byContradiction
 intro hno;have hno':∀e∈es,e.w≠k:=λe he z=>hno ⟨e,he,z⟩
 obtain⟨s1,s2⟩:=h.sums;obtain⟨hc,_⟩:=h
 have hpos:0<es.length:=by have:=hc.1;exact (Ae.mp this).1
 have z:∀e∈es,dx e.w=0:=by
  rcases hk with rfl |rfl
  .have := zha (l := (es.map λe => dx e.w).map λx => -x) (λx hx => by obtain⟨y,hy,rfl⟩:=Bg.mp hx;obtain⟨e,he,rfl⟩:=Bg.mp hy;have:=hno' e he;unfold dx;rw[if_neg this];split <;> decide) (by rw[zkZ,s1];rfl)
   intro e he;have:=this (-(dx e.w)) (Bg.mpr ⟨_,Bg.mpr ⟨e,he,rfl⟩,rfl⟩);lia
  .have := zha (l := es.map λe => dx e.w) (λx hx => by obtain⟨e,he,rfl⟩:=Bg.mp hx;have:=hno' e he;unfold dx;rw[if_neg this];split <;> decide) s1
   intro e he;exact this _ (Bg.mpr ⟨e,he,rfl⟩)
 have odd:∀e∈es,e.w=1∨e.w=3:=λe he=>by
  have h4:=(hc.2.2.1 e he).1;have hz:=z e he;rcases way4 h4 with q |q |q |q
  .rw[q]at hz;exact absurd hz (by decide)
  .exact .inl q
  .rw[q]at hz;exact absurd hz (by decide)
  .exact .inr q
 have same:∀(i:Nat) (e:Edge),es[i]?=some e->e.w=b.w:=by
  intro i
  induction i with
  |zero=>intro e he;have:=hc.1;rw[he]at this;cases this;rfl
  |succ i ih =>
   intro e he;have hi:i+1<es.length:=(Ae.mp he).1;have h1:es[i]?=some es[i]:=Aa (by lia)
   have hn:=hc.2.1 i _ e h1 he;have m1:es[i]∈es:=A9 _;have m2:e∈es:=Ag he;have w1:=ih _ h1;have o1:=odd _ m1;have o2:=odd _ m2;have:=zle (hc.2.2.1 _ m1);rw[<- hn]at this;lia
 have all:∀x∈es.map (λe=>dy e.w),x=dy b.w:=λx hx=>by obtain⟨e,he,rfl⟩:=Bg.mp hx;obtain⟨i,hi,ei⟩:=AN he;rw[same i e (by rw[Aa hi,ei])]
 have t:=zji _ _ all;rw[s2,Am]at t
 have ob:b.w=1∨b.w=3:=by have:=hc.1;exact odd b (Ag this)
 have d1:dy b.w=1∨dy b.w=-1:=by rcases ob with q |q <;> rw[q] <;> decide
 rcases d1 with q |q <;> rw[q]at t <;> lia
end RP
namespace L2
open PySem PySem.Spec PyProof.Rows
structure Fn (P:AH) (w:Bc) (K:W.Frag) (mg:Str->Option Ab) (base:Heap) (k:Nat) (x:Str) (ps:List Str) (sp:Sp) where
 f:Addr
 fd:Bx
 ok:FnOk P w K mg base CX0 k f fd ps sp
 m:mg x=some (.ref f)
 kp:W.keepIn K (.ref f)=true
 b:Binds K fd ps []
structure Df (K:W.Frag) (mg:Str->Option Ab) (x:Str) (st:Stmt) (ps:List Str) where
 f:Addr
 fd:Bx
 F:Fun K x x st f fd
 m:mg x=some (.ref f)
 b:Binds K fd ps []
noncomputable def Df.fn{P:AH}{w:Bc}{K:W.Frag}{mg:Str->Option Ab}{base:Heap}{k:Nat}{x:Str}{st:Stmt}{ps:List Str}{sp:Sp}(d:Df K mg x st ps)(h:FnOk P w K mg base CX0 k d.f d.fd ps sp):Fn P w K mg base k x ps sp :=
 ⟨d.f,d.fd,h,d.m,d.F.kp,d.b⟩
structure Ways (P:AH) (w:Bc) (K:W.Frag) (mg:Str->Option Ab):Prop where
 ex:∃(B:Addr) (t1 t2 t3 t4:Tok) (n:Nat),mg "BEGIN_WAYS" = some (.ref B)/\K.lookup B=some ⟨.type "dict",none,.dict #[⟨BK w.params "rim",.str "rim" t1,.int 0 t2⟩,⟨BK w.params "hole",.str "hole" t3,.int 2 t4⟩] n,#[]⟩
noncomputable def tWays (ti:TE):TE:=λσ H Q=>ti σ H λy H1=>(y=.str "rim" /\ Q (.int 0) H1)∨(y=.str "hole" /\ Q (.int 2) H1)
theorem ziJ {X:Cx}{i:Expr}{ti:TE}{p pos:Pos}(hg:Gl X "BEGIN_WAYS") (hw:Ways X.prog X.w X.K X.mg) (hi:PE X i ti) (hs:NoSl i:=by exact λ_ _=>rfl):PE X (.Subscript (.Name "BEGIN_WAYS" p) i pos) (tWays ti):=by
 intro pins s σ H Q I h;obtain⟨B,t1,t2,t3,t4,n,hm,hl⟩:=hw.ex;refine zim PySem.F.slot_dict_getitem.lookup hs (thn ((zdb (v:=.ref B) hg hm rfl:PE X (.Name "BEGIN_WAYS" p) _) pins s σ H (λv H1=>v=V.ref B/\H1=H) I ⟨rfl,rfl⟩) λu s1 ⟨x,H1,I1,rx,q1⟩=>?_);obtain⟨rfl,rfl⟩:=q1;obtain rfl:u=Value.ref B:=rx;refine thn (hi pins s1 σ H1 _ I1 h) λiv s2 ⟨y,H2,I2,ry,q2⟩=>?_
 have ho:s2.heap.get? B=some _:=I2.kIn B _ hl
 have mo:s2.heap.MapOf (zaO X.prog X.w) B (PySem.findBy (zaO X.prog X.w).is #[⟨BK X.w.params "rim",.str "rim" t1,.int 0 t2⟩,⟨BK X.w.params "hole",.str "hole" t3,.int 2 t4⟩]) :=
  ⟨_,_,_,ho,⟨rfl,rfl,rfl⟩,rfl,λe he=>by
   simp only[List.mem_toArray,List.mem_cons,List.not_mem_nil,or_false]at he;rcases he with rfl |rfl
   .exact⟨.inr "rim",zbI _ _ _ _,rfl⟩
   .exact⟨.inr "hole",zbI _ _ _ _,rfl⟩,λ_=>rfl⟩
 refine⟨⟨_,ho,rfl⟩,?_⟩;rcases q2 with⟨rfl,q⟩ |⟨rfl,q⟩
 .exact wpAny_getItem_of (kV_is (k:=.inr "rim") ry) mo (v:=.int 0 t2) rfl ⟨.int 0,H2,I2.tok _,⟨_,rfl⟩,q⟩
 .exact wpAny_getItem_of (kV_is (k:=.inr "hole") ry) mo (v:=.int 2 t4) rfl ⟨.int 2,H2,I2.tok _,⟨_,rfl⟩,q⟩
section
variable {X:Cx}{K:W.Frag}
theorem zfy(hK:X.K=K:=by rfl):IxR X (rIxT K):=by subst hK;exact zaI
theorem zgq (hK:X.K=K:=by rfl):CallR X (.builtin "isinstance") (λxs H Q=>∃x T t b,xs=[x,.ty T]/\TyOf K H x t/\W.kitOne K t (.type T)=some b/\Q (.bl b) H):=by subst hK;exact zdz
theorem zda{es:List Expr}{k:Nat}{t:TGs}{n:Nat}{pos:Pos}(hc:X.calm=true)(h:PGs X es t)
  (hn:(DB es X.env).length=n:=by rfl) (hst:(DB es X.env).findIdx? (·.1)=none:=by rfl) (hK:X.K=K:=by rfl):PG X (.Tuple es k pos) (gTup K n t):=by
 subst hK;exact zbl hc h hn hst
end
theorem ziT (a b c d:Ab):argsOk "min" ⟨[a,b,c,d],[]⟩:=by unfold argsOk;kernel_rfl
section
variable {X:Cx}
theorem zjn (hc:X.calm=true):CallR X (.builtin "min") (λxs H Q=>∃i j k l,xs=[.int i,.int j,.int k,.int l]/\∀n,Q (.int n) H):=by
 intro pins s σ H xs us Q I r h;obtain⟨i,j,k,l,rfl,q⟩:=h
 cases r with
 |cons r1 r =>
 cases r with
 |cons r2 r =>
 cases r with
 |cons r3 r =>
 cases r with
 |cons r4 r =>
 cases r with
 |nil =>
 obtain⟨t1,rfl⟩:=r1;obtain⟨t2,rfl⟩:=r2;obtain⟨t3,rfl⟩:=r3;obtain⟨t4,rfl⟩:=r4;have hh:=I.ok.hd hc;have nm:(toString "min" ++ toString ".loop" : String) = "min.loop":=by decide
 refine call_function_tree F.kind_min F.plain_min F.entry_min (ziT _ _ _ _) ?_
 show Aw _ X.A.in1 (Cj "min" ["key","default"] 0 ⟨[],[]⟩ >>= _) _ _ s;refine Ad (wpAny_of_eq (show Cj "min" ["key","default"] 0 ⟨[],[]⟩=pure [none,none] from rfl) ?_);show Aw _ X.A.in1 (newTuple [.int i t1,.int j t2,.int k t3,.int l t4] >>= _) _ _ s;refine Ad (BG ?_);have hT:(s.heap.push { cls:=.type "tuple",data:=.seq #[.int i t1,.int j t2,.int k t3,.int l t4] }).IsTuple s.heap.objs.size (intItems #[(i,t1),(j,t2),(k,t3),(l,t4)]):=⟨_,AM _ rfl,rfl,0,by simp[intItems]⟩;refine Ad (wpAny_pyIter_tuple hT ?_);refine Ad (BG ?_);rw[nm];generalize e1:s.heap.push { cls:=.type "tuple",data:=.seq #[.int i t1,.int j t2,.int k t3,.int l t4] }=h1 at hT;have hs1:h1.objs.size=s.heap.objs.size+1:=by rw[<- e1];exact Heap.size_push ..
 have k1:∀b o,s.heap.get? b=some o->h1.get? b=some o:=λb o e=>by rw[<- e1];exact Ak _ e
 show Aw (Az X.prog X.w) X.A.in1 (again (.builtin "min.loop" ⟨[.ref h1.objs.size,.none,.ref (h1.push _).objs.size],[]⟩)) _ _ { s with heap:=(h1.push _).push _ };have hs2:∀o:Obj,(h1.push o).objs.size=s.heap.objs.size+2:=λo=>by rw[Heap.size_push,hs1]
 have W:=Walks.tuple (prog:=X.prog) (w:=X.w) (A:=X.A.in1) hh h1.objs.size s.heap.objs.size (by rw[hs1];exact A4 (Nat.lt_succ_self _)) (intItems #[(i,t1),(j,t2),(k,t3),(l,t4)])
 refine Aj ⟨plainId_quiet F.plain_min_loop _,codeAny_min_loop_first W _ (CmpOf.ints_lt (numAt #[(i,t1),(j,t2),(k,t3),(l,t4)]) (λ_ _=>intItems_at)) _ (λhm=>?_) (by simp[intItems])
  (W.frame _ _ _ ⟨⟨_,AM _ rfl,rfl,rfl⟩,hT.push _⟩ λb _ o e=>Ak _ e) (AM _ rfl) λv h' tk hP hk=>?_⟩
 .rw[hs2]at hm;rcases AW.mp hm with z |z
  .rw[hs1]at z;have z':(s.heap.objs.size+2:Nat)=s.heap.objs.size+1:=z;lia
  .have z':(s.heap.objs.size+2:Nat)=s.heap.objs.size:=Ar.mp z;lia
 .obtain⟨t,ht⟩:=intItems_at hP;refine⟨.int _,H,I.kept λb o e=>hk b o (λhm=>?_) ?_ (Ak _ (Ak _ (k1 b o e))),⟨t,ht⟩,q _⟩
  .have h1':=AD e;have z:=Ar.mp hm;rw[hs1]at z;subst z;exact absurd h1' (Nat.not_lt_of_le (Cm _))
  .have h1':=AD e;intro z;rw[hs2]at z;subst z;exact absurd h1' (Nat.not_lt_of_le (Nat.le_add_right _ 2))
noncomputable def rSlTW(K:W.Frag):V->Option Int->Option Int->Hp->VK->Prop:=λx lo hi H Q=>∃a xs,x=.ref a/\SqT K H a xs /\
 ((HT.sIx xs.length 0 lo=0/\HT.sIx xs.length xs.length hi=xs.length)->Q (.ref a) H) /\
 (¬ (HT.sIx xs.length 0 lo=0/\HT.sIx xs.length xs.length hi=xs.length)->∀p,H p=none->Q (.ref p) (upd H p (.tup (cutV xs lo hi))))
end
end L2
namespace HT
open PySem PyProof.Rows
variable {prog:AH}{w:Bc}{A:AQ}{E:Ab->Ac->Prop}{s:Ac}
theorem getItem_tuple_all{t sl:Addr}{items:Array Ab}{vl vu:Ab}{lo hi:Option Int}{Q:Ab -> Ac -> Prop}(ht:IsTup s.heap t items)(hs:s.heap.IsSliceOf sl vl vu .none)(pl:IsPart vl lo)(pu:IsPart vu hi)
  (hw:sIx items.size 0 lo=0/\sIx items.size items.size hi=items.size) (h:Q (.ref t) s):Aw (Az prog w) A (getItem (.ref t) (.ref sl)) Q E s:=by
 obtain⟨os,hos,hcs,hds⟩:=id hs;have hTs:s.TypeIs (.ref sl) "slice":=⟨os,hos,hcs⟩;unfold getItem
 try with_reducible refine Bo ?_
 first |refine Ad (Aj ?_) |skip
 refine Ad (wpAny_sequenceKey ht.typeIs (by decide) ?_)
 refine Ad (wpAny_callSpecial?_slot (name:=Br "__getitem__") ht.typeIs Bu
  (wpAny_call_entry Bu ht.typeIs entry_tuple_getitem ?_ (args_tuple_getitem _ _)))
 show Aw _ _ (Builtin.Tuple.tupleItemsOf (.ref t) >>= _) _ _ s;refine Ad (tupleItemsOf_ ht ?_);refine Ad (wpAny_typeOf hTs ?_);rw[if_pos (by decide)];refine Ad (zcb hs pl pu ?_)
 have hyes:(((sIx items.size 0 lo:Nat):Int) == 0 && (1:Int) == 1 && (sIx items.size items.size hi-sIx items.size 0 lo) == items.size)=true:=by rw[hw.1,hw.2];simp
 show Aw _ _ (if (((sIx items.size 0 lo:Nat):Int) == 0 && (1:Int) == 1 && (sIx items.size items.size hi-sIx items.size 0 lo) == items.size)=true then _ else _) _ _ s;rw[if_pos hyes];refine Ad ?_
 unfold Builtin.Tuple.tupleIsExact;refine Ad (wpAny_typeOf ht.typeIs (Aj ?_));rw[if_pos (by decide)];exact Ad (CN (Aj ⟨_,rfl,Aj h⟩))
end HT
namespace L2
open PySem PySem.Spec PyProof.Rows
section
variable {X:Cx}{K:W.Frag}
theorem zdK:SlR X (rSlTW X.K):=by
 intro pins s σ H x v vl vu lo hi sl Q I rx hs pl pu h;obtain⟨a,xs,rfl,hx,q1,q2⟩:=h
 by_cases hw:HT.sIx xs.length 0 lo=0/\HT.sIx xs.length xs.length hi=xs.length
 .cases rx
  obtain⟨its,r,ht,hz⟩:=I.tuple hx;have hlen:its.toArray.size=xs.length:=by rw[Ap];exact r.length.symm
  refine⟨"tuple",_,Bu.lookup,ht.typeIs,?_⟩;exact HT.getItem_tuple_all ht hs pl pu (by rw[hlen];exact hw) ⟨.ref a,H,I,rfl,q1 hw⟩
 .exact zlo pins s σ H _ v vl vu lo hi sl Q I rx hs pl pu ⟨a,xs,rfl,hx,hw,q2 hw⟩
end
section
variable {prog:AH}{w:Bc}{K:Type} [DecidableEq K] {knd:HeapKind prog w K}{A:AQ}{E:Ab->Ac->Prop}{s:Ac}{d a:Addr}{xs:List (K×Addr×Ab)}{k:K}{dflt:Ab}
theorem zeV{p:Addr×Ab}(h:atKey xs k=some p):∃j:Nat,xs[j]?=some (k,p):=by
 unfold atKey at h;obtain⟨x,hx,e⟩:=A8.mp h;have hm:=List.mem_of_find?_eq_some hx;have hk:=List.find?_some hx;obtain⟨j,hj,ej⟩:=AN hm;have:x.1=k:=by simpa using hk
 exact⟨j,by rw[Aa hj,ej,<- e,<- this]⟩
theorem zj8{p:Addr×Ab}{j:Nat}(hn:(xs.map λx=>x.1).Nodup)(h:xs[j]?=some (k,p)):atKey xs k=some p:=by
 cases e:atKey xs k with
 |none =>
  exfalso;unfold atKey at e;have:=List.find?_eq_none.mp (Option.map_eq_none_iff.mp e) _ (Ag h);simp at this
 |some q =>
  obtain⟨i,hi⟩:=zeV e;have hl:=(Ae.mp hi).1;have:=(CH (i:=i) (j:=j) (by rw[Am];exact hl) hn).mp (by rw[Ax,Ax,hi,h];rfl);subst this;rw[hi]at h
  cases h
  rfl
theorem zdL{Q:Ab -> Ac -> Prop}(hr:knd.room A)(hk:knd.is s.heap k a)(hD:Heap.DictOfH knd s.heap d xs)(hsz:xs.length <= sizeLine)
  (h1:∀p,atKey xs k=some p->Q p.2 { s with toks:=s.toks+knd.draws k })
  (h2:atKey xs k=none->∀h',Heap.DictOfH knd h' d (storedH xs k a dflt)->CV d s.heap h'->Q dflt { s with heap:=h',toks:=s.toks+knd.draws k }) :
  Aw (Az prog w) A (dictSetDefault d (.ref a) dflt) Q E s:=by
 obtain⟨o,es,ep,ho,hx,hd,he,hi,hn⟩:=id hD;unfold dictSetDefault;refine Bo (Ad (knd.pyHash hr hk ?_));refine Ad (wpAny_dictFind_heap (s:={ s with toks:=s.toks+knd.draws k }) hr hk ho hd he hi hn (λhno=>?_) λj p hj=>?_)
 .have hnone:atKey xs k=none := by
   cases e:atKey xs k with
   |none=>rfl
   |some p=>obtain⟨j,hj⟩:=zeV e;exact absurd hj (hno j p)
  refine Ad (CN ?_);have hes:es.size=xs.length:=by rw[<- AC,he,Am]
  refine Ad (wpAny_updateDictKeys ho hd (Aj (h2 hnone _ ?_ ⟨?_,λb hb=>CY _ _ (Cb hb)⟩)) (by lia) (by simp))
  .have hs:CV d s.heap (s.heap.update d (Obj.mapDictKeys λx=>x.push ⟨knd.hash k,.ref a,dflt⟩)):=⟨?_,λb hb=>CY _ _ (Cb hb)⟩
   .obtain⟨c,dd,dt,sl⟩:=o;simp only at hd;subst hd;refine⟨_,es.push ⟨knd.hash k,.ref a,dflt⟩,ep+1,Heap.get?_update_self _ ho rfl,hx,rfl,?_,λx hx'=>?_,?_⟩
    .rw[storedH_new hnone,AE,<- he];simp[entryOfKey]
    .rw[storedH_new hnone]at hx';rcases AT.mp hx' with m |m
     .exact knd.keeps (hi x m) ho rfl hs
     .rw[Ar.mp m];exact knd.keeps hk ho rfl hs
    .rw[storedH_new hnone,AE,List.nodup_append];refine⟨hn,by simp,λx hx' y hy e=>?_⟩;simp at hy;subst hy e;obtain⟨⟨k',p⟩,hm,ek⟩:=Bg.mp hx';obtain⟨j,hj,ej⟩:=AN hm;simp only at ek;subst ek;exact hno j p (by rw[Aa hj,ej])
   .show (s.heap.update d _).objs.size=_;unfold Heap.update;simp
  .show (s.heap.update d _).objs.size=_;unfold Heap.update;simp
 .have hlt:=(Ae.mp hj).1;have hes:es.size=xs.length:=by rw[<- AC,he,Am]
  have ee:es[j]?=some ⟨knd.hash k,.ref p.1,p.2⟩:=by rw[<- A5,he,Ax,hj];rfl
  refine Ad (wpAny_dictEntries ho hd ?_);simp only[ee];refine Ad (CN (Aj ?_));exact h1 p (zj8 hn hj)
theorem zde(knd:HeapKind prog w K)(d a:Addr)(hd:(d == Cn)=false)(dflt:Ab) :
  MeetsIn prog w (Builtin.«dict.setdefault» ⟨[.ref d,.ref a,dflt],[]⟩) λA R s=>knd.room A.in1/\∃k xs,knd.is s.heap k a/\Heap.DictOfH knd s.heap d xs/\xs.length<=sizeLine /\
   (∀p,atKey xs k=some p->R (.ok (.ret p.2)) { s with toks:=s.toks+knd.draws k }) /\
   (atKey xs k=none->∀h',Heap.DictOfH knd h' d (storedH xs k a dflt)->CV d s.heap h'->R (.ok (.ret dflt)) { s with heap:=h',toks:=s.toks+knd.draws k }):=by
 intro A R s h;obtain⟨hr,k,xs,hk,hD,hsz,h1,h2⟩:=h;unfold Builtin.«dict.setdefault» Builtin.Dict.keyAndDefault;have ht:s.TypeIs (.ref d) "dict":=hD.typeIs;refine Ad (Ad (wpAny_notOrdered_dict ht ?_));refine Ad ?_
 show Aw (Az prog w) A.in1 (pure ()) _ _ s;refine Aj ?_
 refine Ad ?_
 show Aw (Az prog w) A.in1 (pure (Value.ref d,[Value.ref a,dflt])) _ _ s;refine Aj ?_
 show Aw (Az prog w) A.in1 (pure d >>= λx=>pure (x,Value.ref a,some dflt)) _ _ s;refine Ad (Aj (Aj ?_));simp only;rw[hd];show Aw (Az prog w) A.in1 (dictSetDefault d (.ref a) dflt >>= λx=>ret x) _ _ s;refine Ad (zdL hr hk hD hsz (λp e=>Aj (h1 p e)) λe h' hD' hs=>Aj (h2 e h' hD' hs))
noncomputable def zlk(td ty tx:TE):TE:=λσ H Q=>td σ H λx H1=>∃a,x=.ref a/\IsD H1 a/\ty σ H1 λy H2=>tx σ H2 λz H3=>∃kvs k b,H3 a=some (.dT kvs)/\y=.ref b/\H3 b=some (.tup (k.map kV))/\kvs.length<sizeLine /\
 (∀v,valV kvs k=some v->Q v H3)/\(valV kvs k=none->Q z (upd H3 a (.dT (putK kvs k z))))
end
section
variable {X:Cx}{o e f:Expr}{apos cpos:Pos}{td ty tx:TE}
theorem zjJ (hu:X.A.units+1<cLine) (ho:PE X o td) (he:PE X e ty) (hf:PE X f tx) (m:M2 X o "setdefault" apos e f cpos):PE X (.Call (.Attribute o "setdefault" apos) [e,f] [] cpos) (zlk td ty tx):=by
 intro pins s σ H Q I h;refine wpAny_Call_method m.base m.few m.line PySem.F.plainAttrs_dict PySem.F.slot_dict_setdefault PySem.F.type_dict_setdefault (thn (ho pins s σ H _ I h) λu s1 ⟨x,H1,I1,rx,a,ex,d,q1⟩=>?_);subst ex;obtain rfl:u=Value.ref a:=rx;obtain⟨t1,t2,_⟩:=zlN I1 d;refine⟨t1,t2,?_⟩;rw[m.trees]
 refine Calls.callWith_builtin rfl (Calls.evalArgs_plain (Calls.spliced_cons (thn (he pins s1 σ H1 _ I1 q1) λiv s2 ⟨y,H2,I2,ry,q2⟩ =>
  Calls.spliced_cons (thn (hf pins s2 σ H2 _ I2 q2) λfv s3 ⟨z,H3,I3,rz,kvs,k,b,eD,ey,eb,hl,k1,k2⟩=>Calls.spliced_nil ?_))))
 subst ey
 cases (show iv=Value.ref b from ry)
 obtain⟨zz,hd,xs,rel,dd⟩:=dt_of I3.hok eD
 refine call_meetsIn PySem.F.slot_dict_setdefault dd.typeIs PySem.F.entry_dict_setdefault (PySem.F.args_dict_setdefault_3 _ _ _) (zde (tupleKind (zaO X.prog X.w)) a b hd fv)
  ⟨DC hu,k,xs,zeR I3.hok eb,dd,by rw[<- Dr rel];exact zz,λp ep=>?_,λen h' dd' hs=>?_⟩
 .have rv:=rel.val k;rw[ep]at rv
  cases hv:valV kvs k with
  |none=>rw[hv]at rv;exact BD rv
  |some v=>rw[hv]at rv;exact⟨v,H3,I3.tok _,rv,k1 v hv⟩
 .have hn:valV kvs k=none := by
   have rv:=(rel.val k).isSome_eq;rw[en]at rv
   cases hv:valV kvs k with
   |none=>rfl
   |some v=>rw[hv]at rv;exact absurd rv (by simp)
  have hz:(putK kvs k z).length<=sizeLine:=by have:=zaV kvs k z;lia
  obtain⟨q,es,ep,hq,h2,h3,h4,_,h5⟩:=dd';refine⟨z,_,?_,rz,k2 hn⟩;refine zed I3 (by rw[eD];exact Co) hs ⟨q,hq⟩ ⟨hz,hd,_,(rel.put k eb rz).keeps λc ys ec=>?_,q,es,ep,hq,h2,h3,h4,h5⟩;rw[zak (ne_of ec eD (λz=>nomatch z))];exact ec
end
structure Two (P:AH) (w:Bc) (K:W.Frag) (mg:Str->Option Ab) (nm:Str) (a b:Int):Prop where
 ex:∃(B:Addr) (t1 t2 t3 t4:Tok) (n:Nat),mg nm=some (.ref B)/\K.lookup B=some ⟨.type "dict",none,.dict #[⟨BK w.params "rim",.str "rim" t1,.int a t2⟩,⟨BK w.params "hole",.str "hole" t3,.int b t4⟩] n,#[]⟩
noncomputable def tTwo (a b:Int) (ti:TE):TE:=λσ H Q=>ti σ H λy H1=>(y=.str "rim" /\ Q (.int a) H1)∨(y=.str "hole" /\ Q (.int b) H1)
theorem zlA {X:Cx}{nm:Str}{a b:Int}{i:Expr}{ti:TE}{p pos:Pos}(hg:Gl X nm) (hw:Two X.prog X.w X.K X.mg nm a b) (hi:PE X i ti) (hs:NoSl i:=by exact λ_ _=>rfl) (hdb:(nm == ("__debug__" : Str))=false:=by rfl):PE X (.Subscript (.Name nm p) i pos) (tTwo a b ti):=by
 intro pins s σ H Q I h;obtain⟨B,t1,t2,t3,t4,n,hm,hl⟩:=hw.ex;refine zim PySem.F.slot_dict_getitem.lookup hs (thn ((zdb (v:=.ref B) hg hm rfl (hd:=hdb):PE X (.Name nm p) _) pins s σ H (λv H1=>v=V.ref B/\H1=H) I ⟨rfl,rfl⟩) λu s1 ⟨x,H1,I1,rx,q1⟩=>?_);obtain⟨rfl,rfl⟩:=q1;obtain rfl:u=Value.ref B:=rx;refine thn (hi pins s1 σ H1 _ I1 h) λiv s2 ⟨y,H2,I2,ry,q2⟩=>?_
 have ho:s2.heap.get? B=some _:=I2.kIn B _ hl
 have mo:s2.heap.MapOf (zaO X.prog X.w) B (PySem.findBy (zaO X.prog X.w).is #[⟨BK X.w.params "rim",.str "rim" t1,.int a t2⟩,⟨BK X.w.params "hole",.str "hole" t3,.int b t4⟩]) :=
  ⟨_,_,_,ho,⟨rfl,rfl,rfl⟩,rfl,λe he=>by
   simp only[List.mem_toArray,List.mem_cons,List.not_mem_nil,or_false]at he;rcases he with rfl |rfl
   .exact⟨.inr "rim",zbI _ _ _ _,rfl⟩
   .exact⟨.inr "hole",zbI _ _ _ _,rfl⟩,λ_=>rfl⟩
 refine⟨⟨_,ho,rfl⟩,?_⟩;rcases q2 with⟨rfl,q⟩ |⟨rfl,q⟩
 .exact wpAny_getItem_of (kV_is (k:=.inr "rim") ry) mo (v:=.int a t2) rfl ⟨.int a,H2,I2.tok _,⟨_,rfl⟩,q⟩
 .exact wpAny_getItem_of (kV_is (k:=.inr "hole") ry) mo (v:=.int b t4) rfl ⟨.int b,H2,I2.tok _,⟨_,rfl⟩,q⟩
section
variable {X:Cx}
end
end L2
namespace HT
open PySem PyProof.Rows PySem.Spec
variable {prog:AH}{w:Bc}{A:AQ}{E:Ab->Ac->Prop}{s:Ac}
theorem cat_tup0{t b:Addr}{ws:List Ab}{Q:Ab->Ac->Prop}(ht:IsTup s.heap t ([]:List Ab).toArray)(hb:IsTup s.heap b ws.toArray)(h1:Q (.ref b) s):Aw (Az prog w) A (CS .Add (.ref t) (.ref b)) Q E s:=by
  obtain⟨⟨cls,dd,data,sl⟩,ho,hc,n,hd⟩:=id ht;obtain⟨⟨cls2,dd2,data2,sl2⟩,ho2,hc2,n2,hd2⟩:=id hb;simp only at hc hd hc2 hd2;subst hc hd hc2 hd2
  exact concat_meets ⟨_, ho, rfl⟩ ⟨_, ho2, rfl⟩ noFill_tuple_add seq_tuple_add PySem.F.slot_tuple_add DG (Dt _ _)
      (tuple_addW0 t b _ _ n n2 dd dd2 sl sl2 (by rfl)) ⟨ho,ho2,h1⟩
end HT
namespace L2
open PySem PySem.Spec PyProof.Rows
section
variable {X:Cx}{K:W.Frag}
noncomputable def rCatE(K:W.Frag):R2:=λx y H Q=>∃a b xs ys,x=.ref a/\y=.ref b/\SqT K H a xs/\SqT K H b ys/\xs.length+ys.length<=sizeLine /\
 (xs=[]->Q (.ref b) H)/\(xs≠[]->ys=[]->Q (.ref a) H)/\(xs≠[]->ys≠[]->∀p,H p=none->Q (.ref p) (upd H p (.tup (xs++ys))))
theorem zkV:OpR X (CS .Add) (rCatE X.K):=by
 intro pins s σ H x y v u Q I rx ry h;obtain⟨a,b,xs,ys,rfl,rfl,ha,hb,hz,q0,q1,q2⟩:=h
 by_cases hx:xs=[]
 .subst hx
  cases rx
  cases ry
  obtain⟨its,r1,p1,_⟩:=I.tuple ha;obtain⟨its2,r2,p2,_⟩:=I.tuple hb
  cases r1
  exact HT.cat_tup0 p1 p2 ⟨.ref b,H,I,rfl,q0 rfl⟩
 .exact ziO pins s σ H _ _ v u Q I rx ry ⟨a,b,xs,ys,rfl,rfl,ha,hb,hx,hz,q1 hx,q2 hx⟩
end
end L2
namespace HT
open PySem PyProof.Rows PySem.Spec
end HT
namespace L2
open PySem PySem.Spec PyProof.Rows
section
variable {X:Cx}{K:W.Frag}
end
section
variable {X:Cx}
end
section
variable {X:Cx}{e es:Expr}{te ts:TE}{pos p2:Pos}
end
section
variable {X:Cx}
end
section
variable {prog:AH}{w:Bc}{A:AQ}{R:Result->Ac->Prop}{I:Addr}{fp wr:List Addr}{n:Nat}{P:Nat->Ab->Prop}{St:Nat->Heap->Prop}{dv:Ab}
end
section
variable {X:Cx}{pins:List (Addr×Obj)}{σ:St}{H0:Hp}{s:Ac}{l:Addr}{Q:VK}
end
section
variable {X:Cx}{p pos kpos kp:Pos}{e:Expr}{te:TE}{d:Int}{kj:Nat}
end
end L2
namespace HT
open PySem PyProof.Rows
variable {prog:AH}{w:Bc}{A:AQ}{E:Ab->Ac->Prop}{s:Ac}
end HT
namespace L2
open PySem PySem.Spec PyProof.Rows
section
variable {X:Cx}{e es:Expr}{te ts:TE}{pos p2:Pos}
end
end L2
namespace HT
open PySem PyProof.Rows
section
open PySem.SeqAt
open PySem.AutoSeq1 (wpAny_loadPart')
open PySem.MeetsSeq PySem.MeetsSeq2 PySem.MeetsSeq3
end
section
variable {prog:AH}{w:Bc}{A:AQ}{E:Ab->Ac->Prop}{s:Ac}
end
end HT
namespace L2
open PySem PySem.Spec PyProof.Rows
section
variable {X:Cx}{pos:Pos}
end
section
variable {prog:AH}{w:Bc}{A:AQ}{E:Ab->Ac->Prop}{s:Ac}{it d:Addr}{i ep:Nat}{es:Array DictEntry}{od:Obj}
end
section
variable {X:Cx}{tg:Expr}
end
section
variable {prog:AH}{w:Bc}{K:Type} [DecidableEq K] {knd:HeapKind prog w K}{A:AQ}{E:Ab->Ac->Prop}{s:Ac}{d a:Addr}{xs:List (K×Addr×Ab)}{k:K}
end
section
variable {X:Cx}{o e f:Expr}{apos cpos:Pos}{td ty tx:TE}
end
end L2
namespace RP
end RP
namespace L2
open PySem PySem.Spec PyProof.Rows
section
variable {X:Cx}
end
end L2
namespace HT
open PySem PyProof.Rows
variable {prog:AH}{w:Bc}{A:AQ}{E:Ab->Ac->Prop}{s:Ac}
end HT
namespace L2
open PySem PySem.Spec PyProof.Rows
section
variable {X:Cx}{e es:Expr}{te ts:TE}{pos p2:Pos}
end
section
variable {prog:AH}{w:Bc}{A:AQ}{E:Ab->Ac->Prop}{s:Ac}
end
section
variable {X:Cx}
end
section
variable {X:Cx}
end
section
variable {prog:AH}{w:Bc}{A:AQ}{E:Ab->Ac->Prop}{s:Ac}
end
section
variable {X:Cx}{pins:List (Addr×Obj)}{σ:St}
end
section
variable {X:Cx}{l m:Expr}{t:TA}{p p2 pos pos2:Pos}
end
section
variable {X:Cx}{a:Expr}{t:TA}{p p2 pos pos2:Pos}
end
section
variable {X:Cx}
end
section
variable {X:Cx}{tg:Expr}
end
section
variable {X:Cx}{pos:Pos}{kx vx:Expr}{tk tv:TE}
end
open AutoSeq1 (wpAny_loadPart')
section
variable {prog:AH}{w:Bc}{A:AQ}{E:Ab->Ac->Prop}{s:Ac}{d:Addr}{ep:Nat}{es:Array DictEntry}{od:Obj}
end
section
variable {X:Cx}
end
section
variable {X:Cx}{es:List Expr}{te:TE}{t:TA}{pos:Pos}
theorem pa_T{l:List Expr}{k:Nat}(ha:PE X (.Tuple l k pos) te)(hr:PA X es t):PA X (.Tuple l k pos::es) (tCons te t):=zah ha hr (by rfl)
theorem pa_C{c:Const}{k:Nat}(ha:PE X (.Constant c k pos) te)(hr:PA X es t):PA X (.Constant c k pos::es) (tCons te t):=zah ha hr (by rfl)
theorem pa_B{a b:Expr}{o:Operator}(ha:PE X (.BinOp a o b pos) te)(hr:PA X es t):PA X (.BinOp a o b pos::es) (tCons te t):=zah ha hr (by rfl)
theorem pa_N{x:Str}(ha:PE X (.Name x pos) te)(hr:PA X es t):PA X (.Name x pos::es) (tCons te t):=zah ha hr (by rfl)
end
theorem zl4{i:Nat}{v:V}{σ:St}{H:Hp}{Q:St->Hp->Prop}:gName i v σ H Q=Q (σ.set i (some v)) H:=rfl
theorem zl5{i:Nat}{v:V}{u:TS}{D:Ends}{σ:St}{H:Hp}:tSeq (tAsg (tC v) (gName i)) u D σ H=u D (σ.set i (some v)) H:=rfl
section
variable {X:Cx}{tg:Expr}
end
end L2
namespace RP
noncomputable def av(w:Nat):Int:=if w=0∨w=1 then 1 else 0
noncomputable def bv(w:Nat):Int:=if w=1∨w=2 then 1 else 0
noncomputable def eU(e:Edge):Int:=px e+py e+av e.w
noncomputable def eV(e:Edge):Int:=py e-px e+bv e.w
noncomputable def tt(C:Cell->Bool)(e:Edge):Int:=match stepB C e with
 |none=>1
 |some s=>if s % 2=1 then -1 else 0
noncomputable def eK(w:Nat):Int:=(if w=1∨w=2 then 1 else 0)+(if w=2∨w=3 then 1 else 0)+av w
noncomputable def eL(w:Nat):Int:=(if w=2∨w=3 then 1 else 0)-(if w=1∨w=2 then 1 else 0)+bv w
theorem e_tab:∀w<4,∀v<4,(eK w-eK v+(eL w-eL v)) % 2≠0∨w=v∨(eK w-eK v-(eL w-eL v)=2*(mv ((2*w+6) % 8)).1/\eK w-eK v+(eL w-eL v)=2*(mv ((2*w+6) % 8)).2):=by decide
theorem eU_of(e:Edge):eU e=e.c.1+e.c.2+eK e.w:=by unfold eU px py eK;lia
theorem eV_of(e:Edge):eV e=e.c.2-e.c.1+eL e.w:=by unfold eV px py eL;lia
theorem e_inj{C:Cell->Bool}{e f:Edge}(he:IsE C e)(hf:IsE C f)(h1:eU e=eU f)(h2:eV e=eV f):e=f:=by
 rw[eU_of,eU_of]at h1;rw[eV_of,eV_of]at h2;have t:=e_tab e.w he.1 f.w hf.1;obtain⟨⟨x,y⟩,w⟩:=e;obtain⟨⟨x',y'⟩,w'⟩:=f;simp only at h1 h2 t;rcases t with z |z |⟨z1,z2⟩
 .exfalso;lia
 .subst z;have a:x=x':=by lia
  have b:y=y':=by lia
  rw[a,b]
 .have g:=he.2.2;have a:x'=x+(mv ((2*w+6) % 8)).1:=by lia
  have b:y'=y+(mv ((2*w+6) % 8)).2:=by lia
  have c:=hf.2.1;rw[a,b]at c;exact absurd (c.symm.trans g) (by decide)
theorem zcZ{C:Cell->Bool}{e:Edge}(h:IsE C e):eU (nxt C e)=eU e+(av e.w+av (nxt C e).w-1)/\eV (nxt C e)=eV e+(bv e.w+bv (nxt C e).w-1):=by obtain⟨p,q⟩:=ziL h;unfold eU eV;rw[p,q];have hw:=h.1;generalize (nxt C e).w=w';rcases way4 hw with r |r |r |r <;> rw[r] <;> simp[av,bv,dx,dy] <;> lia
theorem ze1{C:Cell -> Bool}{e:Edge}(h:IsE C e) :
  (tt C e=-1/\(nxt C e).w=(e.w+3) % 4)∨(tt C e=0/\(nxt C e).w=e.w)∨(tt C e=1/\(nxt C e).w=(e.w+1) % 4):=by
 unfold tt;rcases za7 h with⟨_,s,q⟩ |⟨_,_,s,q⟩ |⟨_,_,s,q⟩ <;> rw[q,s] <;> simp only
 .left;rw[if_pos (odd7 _)];exact⟨by decide,trivial⟩
 .right;left;rw[if_neg (by lia)];exact⟨by decide,trivial⟩
 .right;right;exact⟨by decide,trivial⟩
theorem c_at{C:Cell->Bool}{a b c d:Int}{v:Bool}(h:C (a,b)=v)(h1:c=a)(h2:d=b):C (c,d)=v:=by subst h1 h2;exact h
theorem zeG{C:Cell -> Bool}{e:Edge}(h:IsE C e)(ht:tt C e=0) :
  C (px e+dx e.w-1,py e+dy e.w-1)=decide (e.w=1∨e.w=2)/\C (px e+dx e.w,py e+dy e.w-1)=decide (e.w=2∨e.w=3):=by
 obtain⟨⟨x,y⟩,w⟩:=e;obtain⟨hw,hc,hg⟩:=id h;rcases za7 h with⟨_,s,q⟩ |⟨k1,k2,s,q⟩ |⟨_,_,s,q⟩
 .exfalso;unfold tt at ht;rw[s]at ht;simp only at ht;rw[if_pos (odd7 _)]at ht;exact absurd ht (by decide)
 .simp only at hw hc k1 k2
  rcases way4 hw with rfl |rfl |rfl |rfl <;> simp only[gap,go,mv,px,py,dx,dy]at hg k1 k2 ⊢ <;> simp at hg k1 k2 hc ⊢ <;>
   refine⟨?_,?_⟩ <;> first |exact c_at hg (by lia) (by lia) |exact c_at hc (by lia) (by lia) |exact c_at k1 (by lia) (by lia) |exact c_at k2 (by lia) (by lia)
 .exfalso;unfold tt at ht;rw[s]at ht;exact absurd ht (by decide)
theorem zdA(w:Nat):av w=0∨av w=1:=by unfold av;split <;> simp
theorem zhP(w:Nat):bv w=0∨bv w=1:=by unfold bv;split <;> simp
theorem zfG:∀w<4,∀n,n=(w+3) % 4∨n=(w+1) % 4->(av w=av n/\bv w+bv n=1)∨(av w+av n=1/\bv w=bv n):=by intro w hw n hn;rcases hn with rfl |rfl <;> revert w <;> decide
theorem dx_av:∀w<4,dx w=av w-bv w/\dy w=av w+bv w-1:=by decide
theorem zk0{C:Cell->Bool}{e f:Edge}(he:IsE C e)(hf:IsE C f)(h1:eU e+eU (nxt C e)=eU f+eU (nxt C f))(h2:eV e+eV (nxt C e)=eV f+eV (nxt C f)):e=f:=by
 obtain⟨a1,a2⟩:=zcZ he;obtain⟨b1,b2⟩:=zcZ hf
 have key:e=f∨(tt C e=0/\tt C f=0/\px e+dx e.w=px f+dx f.w/\py e+dy e.w=py f+dy f.w)∨(eU e=eU (nxt C f)/\eV e=eV (nxt C f)/\e.w≠(nxt C f).w):=by
  rw[a1,b1]at h1;rw[a2,b2]at h2
  have ta:(tt C e=0/\(nxt C e).w=e.w)∨(av e.w=av (nxt C e).w/\bv e.w+bv (nxt C e).w=1)∨(av e.w+av (nxt C e).w=1/\bv e.w=bv (nxt C e).w):=by
   rcases ze1 he with⟨_,n⟩ |q |⟨_,n⟩
   .exact .inr (zfG _ he.1 _ (.inl n))
   .exact .inl q
   .exact .inr (zfG _ he.1 _ (.inr n))
  have tb:(tt C f=0/\(nxt C f).w=f.w)∨(av f.w=av (nxt C f).w/\bv f.w+bv (nxt C f).w=1)∨(av f.w+av (nxt C f).w=1/\bv f.w=bv (nxt C f).w):=by
   rcases ze1 hf with⟨_,n⟩ |q |⟨_,n⟩
   .exact .inr (zfG _ hf.1 _ (.inl n))
   .exact .inl q
   .exact .inr (zfG _ hf.1 _ (.inr n))
  have fin:eU e=eU f->eV e=eV f->e=f:=λq1 q2=>e_inj he hf q1 q2
  have dif:∀{g:Nat->Int},g e.w≠g (nxt C f).w->e.w≠(nxt C f).w:=λ{g} q z=>q (by rw[z])
  rw[b1,b2];rcases ta with⟨t1,n1⟩ |⟨p1,p2⟩ |⟨p1,p2⟩ <;> rcases tb with⟨t2,n2⟩ |⟨q1,q2⟩ |⟨q1,q2⟩
  .rw[n1,n2]at h1 h2;have u1:eU e=px e+py e+av e.w:=rfl;have u2:eV e=py e-px e+bv e.w:=rfl;have v1:eU f=px f+py f+av f.w:=rfl;have v2:eV f=py f-px f+bv f.w:=rfl;obtain⟨d1,d2⟩:=dx_av _ he.1;obtain⟨d3,d4⟩:=dx_av _ hf.1;exact .inr (.inl ⟨t1,t2,by lia,by lia⟩)
  .rw[n1]at h1 h2;exfalso;lia
  .rw[n1]at h1 h2;exfalso;lia
  .rw[n2]at h1 h2;exfalso;lia
  .rcases Classical.em (av e.w=av f.w) with z |z
   .exact .inl (fin (by lia) (by lia))
   .have c1:=zdA e.w;have c2:=zdA f.w;exact .inr (.inr ⟨by lia,by lia,dif (g:=av) (by lia)⟩)
  .exfalso;lia
  .rw[n2]at h1 h2;exfalso;lia
  .exfalso;lia
  .rcases Classical.em (bv e.w=bv f.w) with z |z
   .exact .inl (fin (by lia) (by lia))
   .have c1:=zhP e.w;have c2:=zhP f.w;exact .inr (.inr ⟨by lia,by lia,dif (g:=bv) (by lia)⟩)
 rcases key with h |⟨t1,t2,q1,q2⟩ |⟨q1,q2,q3⟩
 .exact h
 .obtain⟨c1,c2⟩:=zeG he t1;obtain⟨d1,d2⟩:=zeG hf t2;rw[q1,q2]at c1 c2;rw[c1]at d1;rw[c2]at d2;have d1':=decide_eq_decide.mp d1;have d2':=decide_eq_decide.mp d2;have hw:=he.1;have hw':=hf.1;have ww:e.w=f.w:=by lia
  rw[ww]at q1 q2;refine e_inj he hf ?_ ?_ <;> simp only[eU,eV] <;> rw[ww] <;> lia
 .exact absurd (congrArg Edge.w (e_inj he (zeP hf) q1 q2)) q3
noncomputable def cr(x1 y1 x2 y2:Int):Int:=if y1=-1/\y2=0/\0<x2 then 1 else if y1=0/\y2=-1/\0<x1 then -1 else 0
noncomputable def crT(t y1 y2:Int):Int:=if y1=-1/\y2=0 then t else if y1=0/\y2=-1 then -t else 0
theorem zdy(t y:Int):crT t y y=0:=by unfold crT;rw[if_neg (by lia),if_neg (by lia)]
theorem zhL(t y z:Int):crT t y z+crT t z y=0:=by
 unfold crT
 by_cases h:y=-1/\z=0
 .rw[if_pos h,if_neg (by lia),if_pos ⟨h.2,h.1⟩];lia
 .by_cases k:y=0/\z=-1
  .rw[if_neg h,if_pos k,if_pos ⟨k.2,k.1⟩];lia
  .rw[if_neg h,if_neg k,if_neg (by lia),if_neg (by lia)];rfl
theorem cr_T{t x1 y1 x2 y2:Int}(h1:y1=0->(0<x1/\t=1)∨(¬ 0<x1/\t=0))(h2:y2=0->(0<x2/\t=1)∨(¬ 0<x2/\t=0)):cr x1 y1 x2 y2=crT t y1 y2:=by
 unfold cr crT
 by_cases h:y1=-1/\y2=0
 .rcases h2 h.2 with⟨q,r⟩ |⟨q,r⟩
  .rw[if_pos ⟨h.1,h.2,q⟩,if_pos h,r]
  .rw[if_neg (by lia),if_neg (by lia),if_pos h,r]
 .rw[if_neg (λz=>h ⟨z.1,z.2.1⟩),if_neg h]
  by_cases k:y1=0/\y2=-1
  .rcases h1 k.1 with⟨q,r⟩ |⟨q,r⟩
   .rw[if_pos ⟨k.1,k.2,q⟩,if_pos k,r]
   .rw[if_neg (by lia),if_pos k,r];rfl
  .rw[if_neg (λz=>k ⟨z.1,z.2.1⟩),if_neg k]
theorem cr_sq(u v a1 a2 b1 b2:Int)(ha1 : -1 <= a1 /\ a1 <= 1)(ha2 : -1 <= a2 /\ a2 <= 1)(hb1 : -1 <= b1 /\ b1 <= 1)(hb2 : -1 <= b2 /\ b2 <= 1)
  (h00:¬(u=0/\v=0)) (h10:¬(u+a1=0/\v+a2=0)) (h01:¬(u+b1=0/\v+b2=0)) (h11:¬(u+a1+b1=0/\v+a2+b2=0))
  (hc:¬(2*u+a1+b1=0/\2*v+a2+b2=0)) :
  cr u v (u+a1) (v+a2)+cr (u+a1) (v+a2) (u+a1+b1) (v+a2+b2)=cr u v (u+b1) (v+b2)+cr (u+b1) (v+b2) (u+a1+b1) (v+a2+b2):=by
 obtain⟨t,k00,k10,k01,k11⟩:∃t:Int,(v=0->(0<u/\t=1)∨(¬ 0<u/\t=0))/\(v+a2=0->(0<u+a1/\t=1)∨(¬ 0<u+a1/\t=0))/\(v+b2=0->(0<u+b1/\t=1)∨(¬ 0<u+b1/\t=0))/\(v+a2+b2=0->(0<u+a1+b1/\t=1)∨(¬ 0<u+a1+b1/\t=0)):=by
  rcases Classical.em ((v=0/\0<u)∨(v+a2=0/\0<u+a1)∨(v+b2=0/\0<u+b1)∨(v+a2+b2=0/\0<u+a1+b1)) with z |z
  .exact⟨1,λh=>.inl ⟨by lia,rfl⟩,λh=>.inl ⟨by lia,rfl⟩,λh=>.inl ⟨by lia,rfl⟩,λh=>.inl ⟨by lia,rfl⟩⟩
  .exact⟨0,λh=>.inr ⟨by lia,rfl⟩,λh=>.inr ⟨by lia,rfl⟩,λh=>.inr ⟨by lia,rfl⟩,λh=>.inr ⟨by lia,rfl⟩⟩
 rw[cr_T k00 k10,cr_T k10 k11,cr_T k00 k01,cr_T k01 k11];have c:a2=b2∨a2=0∨b2=0∨a2=-b2:=by lia
 rcases c with rfl |rfl |rfl |rfl
 .rfl
 .rw[Int.add_zero,zdy,zdy];lia
 .rw[Int.add_zero,Int.add_zero,zdy,zdy];lia
 .rw[show v+-b2+b2=v by lia,zhL,zhL]
section
variable (U V:Nat->Int)
noncomputable def hH(i j:Nat):Int:=cr (U j-U i) (V j-V i) (U (j+1)-U i) (V (j+1)-V i)
noncomputable def gG(i j:Nat):Int:=cr (U j-U i) (V j-V i) (U j-U (i+1)) (V j-V (i+1))
noncomputable def sE:Nat->Int
 | 0=>0
 |i+1=>sE i+hH U V i (i+1)+gG U V i (i+2)
noncomputable def sF(i:Nat):Nat->Int
 | 0=>sE U V i
 |d+1=>sF i d+hH U V i (i+1+d)
variable {U V}
variable {n:Nat}
theorem zgO(su:∀k, -1 <= U (k + 1)-U k /\ U (k + 1)-U k <= 1)(sv:∀k, -1 <= V (k + 1)-V k /\ V (k + 1)-V k <= 1)
  (hd:∀i j,i<j->j<=n->¬(i=0/\j=n)->¬(U j-U i=0/\V j-V i=0))
  (hm:∀i j,i<j->j<n->¬(U i+U (i+1)=U j+U (j+1)/\V i+V (i+1)=V j+V (j+1))) :
  ∀d i,i+2+d<=n->¬(i=0/\i+2+d=n)->sF U V (i+1) d-sF U V i (d+1)=gG U V i (i+2+d)
 | 0,i,h,hx=>by
  show sE U V (i+1)-(sE U V i+hH U V i (i+1+0))=_;show sE U V i+hH U V i (i+1)+gG U V i (i+2)-(sE U V i+hH U V i (i+1))=gG U V i (i+2);lia
 |d+1,i,h,hx=>by
  have ih:=zgO su sv hd hm d i (by lia) (by lia);show sF U V (i+1) d+hH U V (i+1) (i+1+1+d)-(sF U V i (d+1)+hH U V i (i+1+(d+1)))=gG U V i (i+2+(d+1));have j1:i+1+1+d=i+2+d:=by lia
  have j2:i+1+(d+1)=i+2+d:=by lia
  have j3:i+2+(d+1)=(i+2+d)+1:=by lia
  rw[j1,j2,j3];generalize hj:i+2+d=j at *
  have q:=cr_sq (U j-U i) (V j-V i) (-(U (i+1)-U i)) (-(V (i+1)-V i)) (U (j+1)-U j) (V (j+1)-V j)
   (by have:=su i;lia) (by have:=sv i;lia) (su j) (sv j)
   (hd i j (by lia) (by lia) (by lia))
   (by have:=hd (i+1) j (by lia) (by lia) (by lia);lia)
   (by have:=hd i (j+1) (by lia) (by lia) (by lia);lia)
   (by have:=hd (i+1) (j+1) (by lia) (by lia) (by lia);lia)
   (by have:=hm i j (by lia) (by lia);lia)
  have e1:U j-U i+-(U (i+1)-U i)=U j-U (i+1):=by lia
  have e2:V j-V i+-(V (i+1)-V i)=V j-V (i+1):=by lia
  have e3:U j-U i+(U (j+1)-U j)=U (j+1)-U i:=by lia
  have e4:V j-V i+(V (j+1)-V j)=V (j+1)-V i:=by lia
  have e5:U j-U (i+1)+(U (j+1)-U j)=U (j+1)-U (i+1):=by lia
  have e6:V j-V (i+1)+(V (j+1)-V j)=V (j+1)-V (i+1):=by lia
  rw[e1,e2,e3,e4,e5,e6]at q;have q':gG U V i j+hH U V (i+1) j=hH U V i j+gG U V i (j+1):=q;lia
theorem cr_up{a b c d:Int}(h1:0<=b)(h2:0<=d):cr a b c d=0:=by unfold cr;rw[if_neg (by lia),if_neg (by lia)]
theorem cr_dn{a b c d:Int}(h1:b=0->a<=0)(h2:d=0->c<=0):cr a b c d=0:=by unfold cr;rw[if_neg (by lia),if_neg (by lia)]
theorem zlv(hn : 3 <= n)(su:∀k, -1 <= U (k + 1)-U k /\ U (k + 1)-U k <= 1)(sv:∀k, -1 <= V (k + 1)-V k /\ V (k + 1)-V k <= 1)
  (hd:∀i j,i<j->j<=n->¬(i=0/\j=n)->¬(U j-U i=0/\V j-V i=0))
  (hm:∀i j,i<j->j<n->¬(U i+U (i+1)=U j+U (j+1)/\V i+V (i+1)=V j+V (j+1)))
  (hU:U n=U 0) (hV:V n=V 0) (mV:∀k,k<n->V 0<=V k) (mU:∀k,k<n->V k=V 0->U 0<=U k) :
  sE U V (n-1)=gG U V 0 (n-1)+hH U V 1 (n-1):=by
 have r0:∀d,d+2<=n->sF U V 0 d=0:=by
  intro d
  induction d with
  |zero=>intro _;rfl
  |succ d ih =>
   intro h;show sF U V 0 d+hH U V 0 (0+1+d)=0;rw[ih (by lia)];have:=mV (0+1+d) (by lia);have:=mV (0+1+d+1) (by lia);unfold hH;rw[cr_up (by lia) (by lia)];rfl
 have s1:=zgO su sv hd hm (n-3) 0 (by lia) (by lia);rw[show n-3+1=n-2 by lia,r0 (n-2) (by lia),show 0+2+(n-3)=n-1 by lia]at s1
 have s2:sF U V 1 (n-2)=sF U V 1 (n-3)+hH U V 1 (n-1):=by have:sF U V 1 (n-3+1)=sF U V 1 (n-3)+hH U V 1 (1+1+(n-3)):=rfl;rw[show n-3+1=n-2 by lia,show 1+1+(n-3)=n-1 by lia]at this;exact this
 have r1:∀k,1+k<=n-1->sF U V (1+k) (n-2-k)=sF U V 1 (n-2):=by
  intro k
  induction k with
  |zero=>intro _;rfl
  |succ k ih =>
   intro h;have s:=zgO su sv hd hm (n-3-k) (1+k) (by lia) (by lia);rw[show n-3-k+1=n-2-k by lia,show 1+k+2+(n-3-k)=n by lia,ih (by lia)]at s
   have z:gG U V (1+k) n=0:=by unfold gG;have a1:=mV (1+k) (by lia);have a2:=mU (1+k) (by lia);have b1:=mV (1+k+1) (by lia);have b2:=mU (1+k+1) (by lia);exact cr_dn (by lia) (by lia)
   rw[z]at s;rw[show 1+(k+1)=1+k+1 by lia,show n-2-(k+1)=n-3-k by lia];lia
 have e:=r1 (n-2) (by lia);rw[show 1+(n-2)=n-1 by lia,show n-2-(n-2)=0 by lia]at e;show sF U V (n-1) 0=_;rw[e];have:(0:Nat)+1=1:=rfl;rw[this]at s1;lia
end
noncomputable def crs(x1 y1 x2 y2:Int):Int:=cr x1 y1 (x1+x2) (y1+y2)+cr (x1+x2) (y1+y2) x2 y2
noncomputable def ok8(w i j:Nat):Bool :=
 let w1:=(w+i+3) % 4
 let w2:=(w1+j+3) % 4
 let t:Int:=(i:Int)-1
 let t':Int:=(j:Int)-1
 crs (av w+av w1-1) (bv w+bv w1-1) (av w1+av w2-1) (bv w1+bv w2-1) == (2*((w:Int)+t)-1+t') / 8-(2*(w:Int)-1+t) / 8 &&
 crs (-(av w+av w1-1)) (-(bv w+bv w1-1)) (-(av w1+av w2-1)) (-(bv w1+bv w2-1)) == (2*((w:Int)+t)-1+t'+4) / 8-(2*(w:Int)-1+t+4) / 8
theorem all8:∀w<4,∀i<3,∀j<3,ok8 w i j=true:=by decide
noncomputable def it(C:Cell->Bool)(b:Edge):Nat->Edge
 | 0=>b
 |k+1=>nxt C (it C b k)
theorem Chain.get{C:Cell->Bool}{b:Edge}{es:List Edge}(h:Chain C b es):∀i,i<es.length->es[i]?=some (it C b i)
 | 0,_=>h.1
 |i+1,hi=>by
  have h1:=Chain.get h i (by lia);have:=h.2.1 i _ _ h1 (Aa hi);rw[Aa hi,this];rfl
theorem Closed.pos{C:Cell->Bool}{b:Edge}{es:List Edge}(h:Closed C b es):0<es.length:=(Ae.mp h.1.1).1
theorem Closed.it_len{C:Cell->Bool}{b:Edge}{es:List Edge}(h:Closed C b es):it C b es.length=b:=by
 obtain⟨hc,l,hl,hb⟩:=id h;have hp:=h.pos;have:=hc.get (es.length-1) (by lia);rw[hl]at this
 cases this
 have e:it C b (es.length-1+1)=nxt C (it C b (es.length-1)):=rfl;rw[show es.length-1+1=es.length by lia]at e;rw[e,hb]
theorem it_ok{C:Cell->Bool}{b:Edge}(h:IsE C b):∀k,IsE C (it C b k)
 | 0=>h
 |k+1=>zeP (it_ok h k)
noncomputable def wW(C:Cell->Bool)(b:Edge):Nat->Int
 | 0=>b.w
 |k+1=>wW C b k+tt C (it C b k)
theorem tt_ix{C:Cell->Bool}{e:Edge}(h:IsE C e):∃i:Nat,i<3/\tt C e=(i:Int)-1/\(nxt C e).w=(e.w+i+3) % 4:=by
 have hw:=h.1;rcases ze1 h with⟨a,b⟩ |⟨a,b⟩ |⟨a,b⟩
 .exact⟨0,by decide,by rw[a];rfl,by rw[b]⟩
 .exact⟨1,by decide,by rw[a];rfl,by rw[b];lia⟩
 .exact⟨2,by decide,by rw[a];rfl,by rw[b];lia⟩
theorem zfP{C:Cell->Bool}{b:Edge}(h:IsE C b):∀k,wW C b k % 4=((it C b k).w:Int)
 | 0=>by have:=h.1;show (b.w:Int) % 4=b.w;lia
 |k+1=>by
  have ih:=zfP h k;obtain⟨i,hi,e1,e2⟩:=tt_ix (it_ok h k);show (wW C b k+tt C (it C b k)) % 4=((nxt C (it C b k)).w:Int);rw[e1,e2];lia
noncomputable def th(C:Cell->Bool)(b:Edge)(k:Nat):Int:=2*wW C b k-1+tt C (it C b k)
noncomputable def up8(w i:Nat):Bool :=
 let w1:=(w+i+3) % 4
 decide (0<bv w+bv w1-1∨(bv w+bv w1-1=0/\0<=av w+av w1-1)) == decide ((2*(w:Int)-1+((i:Int)-1)) % 8<4) &&
 decide (bv w+bv w1-1<0∨(bv w+bv w1-1=0/\av w+av w1-1<=0)) == decide (4<=(2*(w:Int)-1+((i:Int)-1)) % 8) &&
 !(decide (av w+av w1-1=0/\bv w+bv w1-1=0))
theorem zl1:∀w<4,∀i<3,up8 w i=true:=by decide
theorem half{C:Cell -> Bool}{b:Edge}(h:IsE C b)(k:Nat) :
  ((0<eV (it C b (k+1))-eV (it C b k)∨(eV (it C b (k+1))-eV (it C b k)=0/\0<=eU (it C b (k+1))-eU (it C b k))) ↔ th C b k % 8<4) /\
  ((eV (it C b (k+1))-eV (it C b k)<0∨(eV (it C b (k+1))-eV (it C b k)=0/\eU (it C b (k+1))-eU (it C b k)<=0)) ↔ 4<=th C b k % 8) /\
  ¬ (eU (it C b (k+1))-eU (it C b k)=0/\eV (it C b (k+1))-eV (it C b k)=0):=by
 obtain⟨i,hi,e1,e2⟩:=tt_ix (it_ok h k);obtain⟨s1,s2⟩:=zcZ (it_ok h k);have q:=zl1 _ (it_ok h k).1 i hi;have m:=zfP h k;simp only[up8,BL,beq_iff_eq,decide_eq_decide,Bool.not_eq_true',decide_eq_false_iff_not]at q;rw[<- e2]at q;obtain⟨⟨q1,q2⟩,q3⟩:=q;have t:th C b k % 8=(2*((it C b k).w:Int)-1+((i:Int)-1)) % 8:=by unfold th;rw[e1];lia
 rw[t];have d1:eU (it C b (k+1))-eU (it C b k)=av (it C b k).w+av (nxt C (it C b k)).w-1:=by show eU (nxt C (it C b k))-_=_;lia
 have d2:eV (it C b (k+1))-eV (it C b k)=bv (it C b k).w+bv (nxt C (it C b k)).w-1:=by show eV (nxt C (it C b k))-_=_;lia
 rw[d1,d2];exact⟨q1,q2,q3⟩
theorem sub0{a b:Int}(h:b-a=0):a=b:=by lia
theorem zhb{a b c:Int}(h:a=b+c):a-b=c:=by lia
theorem turn8{C:Cell -> Bool}{b:Edge}(h:IsE C b)(k:Nat) :
  crs (eU (it C b (k+1))-eU (it C b k)) (eV (it C b (k+1))-eV (it C b k)) (eU (it C b (k+2))-eU (it C b (k+1))) (eV (it C b (k+2))-eV (it C b (k+1)))=th C b (k+1) / 8-th C b k / 8 /\
  crs (-(eU (it C b (k+1))-eU (it C b k))) (-(eV (it C b (k+1))-eV (it C b k))) (-(eU (it C b (k+2))-eU (it C b (k+1)))) (-(eV (it C b (k+2))-eV (it C b (k+1))))=(th C b (k+1)+4) / 8-(th C b k+4) / 8:=by
 obtain⟨i,hi,e1,e2⟩:=tt_ix (it_ok h k);obtain⟨j,hj,f1,f2⟩:=tt_ix (it_ok h (k+1));obtain⟨s1,s2⟩:=zcZ (it_ok h k);obtain⟨s3,s4⟩:=zcZ (it_ok h (k+1));have m:=zfP h k;have q:=all8 _ (it_ok h k).1 i hi j hj;simp only[ok8,BL,beq_iff_eq]at q;have w1:(it C b (k+1)).w=((it C b k).w+i+3) % 4:=e2;rw[<- w1,<- f2]at q;have wn:wW C b (k+1)=wW C b k+((i:Int)-1):=by show wW C b k+tt C (it C b k)=_;rw[e1]
 have t0:th C b k=2*wW C b k-1+((i:Int)-1):=by unfold th;rw[e1]
 have t1:th C b (k+1)=2*(wW C b k+((i:Int)-1))-1+((j:Int)-1):=by unfold th;rw[f1,wn]
 have d1:eU (it C b (k+1))-eU (it C b k)=av (it C b k).w+av (it C b (k+1)).w-1:=zhb s1;have d2:eV (it C b (k+1))-eV (it C b k)=bv (it C b k).w+bv (it C b (k+1)).w-1:=zhb s2;have d3:eU (it C b (k+2))-eU (it C b (k+1))=av (it C b (k+1)).w+av (nxt C (it C b (k+1))).w-1:=zhb s3;have d4:eV (it C b (k+2))-eV (it C b (k+1))=bv (it C b (k+1)).w+bv (nxt C (it C b (k+1))).w-1:=zhb s4;rw[d1,d2,d3,d4,t0,t1,q.1,q.2];clear q d1 d2 d3 d4 s1 s2 s3 s4 t0 t1 wn w1 f1 f2 e1 e2;generalize wW C b k=W at *;generalize (it C b k).w=w at *;constructor <;> lia
theorem zlF:∀w<4,∀i<3,¬ (av w+av ((w+i+3) % 4)=1/\bv w+bv ((w+i+3) % 4)=1):=by decide
theorem zjy{T0 Tm Tn D s:Int}(key:Tm / 8-T0 / 8=(Tn+4) / 8-(Tm+4) / 8)(u0:T0 % 8<4)(um:4<=Tm % 8)(hD:D % 4=0)(hn:Tn=T0+2*D)(hm:Tm=Tn-s)(s1:-2<=s)(s2:s<=2):(D=4/\0<s)∨(D=-4/\s<0):=by
 obtain⟨d,rfl⟩:∃d,D=4*d:=⟨D / 4,by lia⟩;have h1:(Tn+4) / 8=T0 / 8+d:=by lia
 have h2:(Tm+4) / 8=Tm / 8+1:=by lia
 rw[h1,h2]at key;have a1:T0=8*(T0 / 8)+T0 % 8:=by lia
 have a2:Tm=8*(Tm / 8)+Tm % 8:=by lia
 have a3:0<=T0 % 8:=by lia
 have a4:Tm % 8<8:=by lia
 generalize T0 / 8=a at *;generalize Tm / 8=c at *;generalize T0 % 8=r at *;generalize Tm % 8=p at *;clear h1 h2 hD;have:c-a-d=-1∨c-a-d=0:=by lia
 rcases this with z |z
 .exact .inl ⟨by lia,by lia⟩
 .exact .inr ⟨by lia,by lia⟩
theorem Closed.least_sign{C:Cell -> Bool}{b:Edge}{es:List Edge}(h:Closed C b es)
  (hmin:∀f∈es,eV b<=eV f/\(eV f=eV b->eU b<=eU f)):(wW C b es.length-wW C b 0=4/\0<tt C (it C b (es.length-1))+tt C b)∨(wW C b es.length-wW C b 0=-4/\tt C (it C b (es.length-1))+tt C b<0):=by
 have hp:=h.pos;have hE:IsE C b:=h.1.2.2.1 b (Ag h.1.1);have hl:=h.it_len;have get:=h.1.get;have nd:=h.1.2.2.2;generalize hn:es.length=n at *;have mem:∀k,k<n->it C b k∈es:=λk hk=>Ag (get k hk)
 have inj:∀i j,i<j->j<n->it C b i≠it C b j:=λi j hij hj e=>by have:=(CH (i:=i) (j:=j) (by lia) nd).mp (by rw[get i (by lia),get j hj,e]);lia
 have n3:3<=n:=by
  have h0:=half hE 0;have h1:=half hE 1;have l1:=zfP hE 1;rcases AY n 3 with hlt |hge
  .exfalso;have:n=1∨n=2:=by lia
   rcases this with e |e
   .rw[e]at hl;have z:=h0.2.2;rw[show 0+1=1 from rfl,hl]at z;exact z ⟨by show eU b-eU b=0;lia,by show eV b-eV b=0;lia⟩
   .rw[e]at hl;have a:=(tt_ix (it_ok hE 0));have c:=(tt_ix (it_ok hE 1));obtain⟨s1,s2⟩:=zcZ (it_ok hE 0);obtain⟨s3,s4⟩:=zcZ (it_ok hE 1);change it C b (1+1)=b at hl;have hl':nxt C (it C b 1)=b:=hl;rw[hl']at s3 s4;have i0:it C b 0=b:=rfl;have i1:nxt C (it C b 0)=it C b 1:=rfl;obtain⟨i,hi,_,e2⟩:=a;rw[i1,i0]at s1 s2 e2;have hw:=hE.1;have hw1:=(it_ok hE 1).1;have x1:av b.w+av (it C b 1).w=1:=by lia
    have x2:bv b.w+bv (it C b 1).w=1:=by lia
    rw[e2]at x1 x2;exact zlF _ hw _ hi ⟨x1,x2⟩
  .exact hge
 have key:=zlv (U:=λk=>eU (it C b k)) (V:=λk=>eV (it C b k)) n3
  (λk=>by obtain⟨s1,_⟩:=zcZ (it_ok hE k);show -1<=eU (nxt C (it C b k))-eU (it C b k)/\eU (nxt C (it C b k))-eU (it C b k)<=1;have a:=zdA (it C b k).w;have c:=zdA (nxt C (it C b k)).w;lia)
  (λk=>by
   obtain⟨_,s1⟩:=zcZ (it_ok hE k);show -1<=eV (nxt C (it C b k))-eV (it C b k)/\eV (nxt C (it C b k))-eV (it C b k)<=1;have a:bv (it C b k).w=0∨bv (it C b k).w=1:=by unfold bv;split <;> simp
   have c:bv (nxt C (it C b k)).w=0∨bv (nxt C (it C b k)).w=1:=by unfold bv;split <;> simp
   lia)
  (λi j hij hj hx z=>by
   have e:=e_inj (it_ok hE i) (it_ok hE j) (sub0 z.1) (sub0 z.2);rcases AY j n with hlt |hge
   .exact inj i j hij hlt e
   .have:j=n:=by lia
    rw[this,hl]at e;exact inj 0 i (by lia) (by lia) e.symm)
  (λi j hij hj z=>inj i j hij hj (zk0 (it_ok hE i) (it_ok hE j) z.1 z.2))
  (by show eU (it C b n)=eU b;rw[hl]) (by show eV (it C b n)=eV b;rw[hl])
  (λk hk=>(hmin _ (mem k hk)).1) (λk hk=>(hmin _ (mem k hk)).2)
 have sE_th:∀k,sE (λk=>eU (it C b k)) (λk=>eV (it C b k)) k=th C b k / 8-th C b 0 / 8:=by
  intro k
  induction k with
  |zero=>show (0:Int)=_;lia
  |succ k ih =>
   have q:=(turn8 hE k).1;unfold crs at q;have e1:eU (it C b (k+1))-eU (it C b k)+(eU (it C b (k+2))-eU (it C b (k+1)))=eU (it C b (k+2))-eU (it C b k):=by lia
   have e2:eV (it C b (k+1))-eV (it C b k)+(eV (it C b (k+2))-eV (it C b (k+1)))=eV (it C b (k+2))-eV (it C b k):=by lia
   rw[e1,e2]at q;show sE (λk=>eU (it C b k)) (λk=>eV (it C b k)) k+hH (λk=>eU (it C b k)) (λk=>eV (it C b k)) k (k+1)+gG (λk=>eU (it C b k)) (λk=>eV (it C b k)) k (k+2)=_;rw[ih];unfold hH gG;show th C b k / 8-th C b 0 / 8+cr (eU (it C b (k+1))-eU (it C b k)) (eV (it C b (k+1))-eV (it C b k)) (eU (it C b (k+2))-eU (it C b k)) (eV (it C b (k+2))-eV (it C b k))+cr (eU (it C b (k+2))-eU (it C b k)) (eV (it C b (k+2))-eV (it C b k)) (eU (it C b (k+2))-eU (it C b (k+1))) (eV (it C b (k+2))-eV (it C b (k+1)))=_;lia
 obtain⟨m,rfl⟩:∃m,n=m+1:=⟨n-1,by lia⟩;rw[show m+1-1=m by lia,sE_th]at key;have i2:it C b (m+2)=it C b 1:=by show nxt C (it C b (m+1))=nxt C b;rw[hl]
 have q:=(turn8 hE m).2;rw[i2,hl]at q;unfold crs at q;unfold gG hH at key;simp only at key;rw[hl]at key;have z0:it C b 0=b:=rfl;rw[show 0+1=1 from rfl,z0]at key;have e1:-(eU b-eU (it C b m))+-(eU (it C b 1)-eU b)=eU (it C b m)-eU (it C b 1):=by lia
 have e2:-(eV b-eV (it C b m))+-(eV (it C b 1)-eV b)=eV (it C b m)-eV (it C b 1):=by lia
 have e3:-(eU b-eU (it C b m))=eU (it C b m)-eU b:=by lia
 have e4:-(eV b-eV (it C b m))=eV (it C b m)-eV b:=by lia
 have e5:-(eU (it C b 1)-eU b)=eU b-eU (it C b 1):=by lia
 have e6:-(eV (it C b 1)-eV b)=eV b-eV (it C b 1):=by lia
 rw[e1,e2,e3,e4,e5,e6]at q;rw[q]at key
 have u0:th C b 0 % 8<4:=by
  refine (half hE 0).1.mp ?_
  obtain⟨a,c⟩:=hmin _ (mem 1 (by lia));rw[z0];show 0<eV (it C b 1)-eV b∨(eV (it C b 1)-eV b=0/\0<=eU (it C b 1)-eU b);lia
 have um:4<=th C b m % 8:=by
  refine (half hE m).2.1.mp ?_
  obtain⟨a,c⟩:=hmin _ (mem m (by lia));rw[hl];lia
 have md:=zfP hE (m+1);rw[hl]at md;have w0:wW C b 0=(b.w:Int):=rfl;have wn:wW C b (m+1)=wW C b m+tt C (it C b m):=rfl;have t0:th C b 0=2*wW C b 0-1+tt C b:=rfl;have tm:th C b m=2*wW C b m-1+tt C (it C b m):=rfl;have tn:th C b (m+1)=2*wW C b (m+1)-1+tt C b:=by unfold th;rw[hl]
 obtain⟨i,hi,r1,_⟩:=tt_ix hE;obtain⟨j,hj,r2,_⟩:=tt_ix (it_ok hE m);rw[show m+1-1=m from rfl];exact zjy key u0 um (by lia) (by lia) (by lia) (by lia) (by lia)
theorem Closed.least_turn{C:Cell -> Bool}{b:Edge}{es:List Edge}(h:Closed C b es)
  (hmin:∀f∈es,eV b<=eV f/\(eV f=eV b->eU b<=eU f)):wW C b es.length-wW C b 0=4∨wW C b es.length-wW C b 0=-4 :=
 (h.least_sign hmin).imp And.left And.left
theorem Closed.head{C:Cell->Bool}{b a:Edge}{r:List Edge}(h:Closed C b (a::r)):a=b:=by have:=h.1.1;simpa using this
theorem Closed.rot1{C:Cell->Bool}{b c:Edge}{r:List Edge}(h:Closed C b (b::r))(hc:(r++[b])[0]?=some c):Closed C c (r++[b]):=by
 obtain⟨⟨h0,hs,hE,hn⟩,l,hl,hb⟩:=id h;refine⟨⟨hc,λi e f h1 h2=>?_,λe he=>hE e (by rcases AT.mp he with m |m;exact As _ m;rw[Ar.mp m];exact Av),?_⟩,?_⟩
 .have hi:=(Ae.mp h2).1;simp only[Ai,AV,BU]at hi;rw[Ay (by lia)]at h1;rcases AY (i+1) r.length with q |q
  .rw[Ay q]at h2;exact hs (i+1) e f (by simpa using h1) (by simpa using h2)
  .have e1:i+1=r.length:=by lia
   rw[AK (by lia),e1]at h2;simp at h2;have e2:(b::r).length-1=i+1:=by simp;lia
   rw[e2]at hl;simp only[List.getElem?_cons_succ]at hl;rw[hl]at h1
   cases h1
   rw[hb,h2]
 .rw[List.nodup_append];have:=Cy.mp hn;exact⟨this.2,by simp,λx hx y hy e=>by rw[Ar.mp hy]at e;rw[e]at hx;exact this.1 hx⟩
 .refine⟨b,by simp,?_⟩
  cases r with
  |nil =>
   simp at hl hc;subst hc;subst hl;exact hb
  |cons a r =>
   simp at hc;have:=hs 0 b a rfl rfl;rw[<- this,hc]
theorem Closed.rot{C:Cell->Bool}:∀(j:Nat){b e:Edge}{es:List Edge},Closed C b es->es[j]?=some e->Closed C e (es.drop j++es.take j)
 | 0,b,e,es,h,he=>by
  have:=h.1.1;rw[he]at this
  cases this
  simpa using h
 |j+1,b,e,[],h,he=>by simp at he
 |j+1,b,e,a::r,h,he=>by
  have:=h.head;subst this;simp only[List.getElem?_cons_succ]at he;have hj:=(Ae.mp he).1;obtain⟨c,hc⟩:∃c,(r++[a])[0]?=some c:=⟨_,Aa (by simp)⟩;have h1:=h.rot1 hc;have h2:=Closed.rot j h1 (by rw[Ay hj];exact he);rw[List.drop_append_of_le_length (by lia),List.take_append_of_le_length (by lia)]at h2;simpa using h2
theorem zkb{C:Cell->Bool}{b:Edge}{es:List Edge}(h:Chain C b es):∀i,i<=es.length->((es.take i).map (tt C)).sum=wW C b i-wW C b 0
 | 0,_=>by simp
 |i+1,hi=>by
  have ih:=zkb h i (by lia);rw[Dk,h.get i (by lia)];simp only[Option.toList_some,AE,Bf,List.map_nil,List.sum_append,C9,List.sum_nil];rw[ih];show _=wW C b i+tt C (it C b i)-wW C b 0;lia
theorem zd4:∀(es:List Edge),es≠[]->∃b∈es,∀f∈es,eV b<=eV f/\(eV f=eV b->eU b<=eU f)
 |[],h=>absurd rfl h
 |[a],_=>⟨a,by simp,λf hf=>by rw[Ar.mp hf];exact⟨Int.le_refl _,λ_=>Int.le_refl _⟩⟩
 |a::c::r,_=>by
  obtain⟨b,hb,q⟩:=zd4 (c::r) (by simp)
  by_cases hl:eV b<eV a∨(eV b=eV a/\eU b<=eU a)
  .refine⟨b,As _ hb,λf hf=>?_⟩;rcases AW.mp hf with rfl |hf
   .lia
   .exact q f hf
  .refine⟨a,Av,λf hf=>?_⟩;rcases AW.mp hf with rfl |hf
   .lia
   .have:=q f hf;lia
theorem zkC(l:List Int)(j:Nat):(l.drop j++l.take j).sum=l.sum:=by
 have:=Dc j l;rw[List.sum_append]
 conv=>rhs;rw[<- this,List.sum_append]
 lia
theorem Closed.turning{C:Cell->Bool}{b:Edge}{es:List Edge}(h:Closed C b es):(es.map (tt C)).sum=4∨(es.map (tt C)).sum=-4:=by
 have hp:=h.pos;obtain⟨e,he,q⟩:=zd4 es (by intro z;rw[z]at hp;simp at hp);obtain⟨j,hj,ej⟩:=AN he;have h1:=h.rot j (by rw[Aa hj,ej])
 have h2:=h1.least_turn (λf hf=>q f (by
  rcases AT.mp hf with m |m
  .exact Bs m
  .exact BJ m))
 rw[<- zkb h1.1 _ (An _),Bb,AE,Da,Db,zkC]at h2;exact h2
theorem zg8(C:Cell->Bool):∀es:List Edge,(es.map (tt C)).sum=((es.filter λe=>(stepB C e).isNone).length:Int)-((es.filter λe=>slant (stepB C e)).length:Int)
 |[]=>rfl
 |e::r=>by
  have ih:=zg8 C r
  have q:tt C e=(if (stepB C e).isNone=true then 1 else 0)-(if slant (stepB C e)=true then 1 else 0):=by
   unfold tt
   cases hs:stepB C e with
   |none=>rfl
   |some s =>
    by_cases h:s % 2=1
    .simp[slant,h]
    .have h0:s % 2=0:=by lia
     simp[slant,h0]
  simp only[Bf,C9,List.filter_cons];rw[q,ih];split <;> split <;> (try simp only[AV]) <;> lia
noncomputable def zaC(s:Nat):Nat:=(s+1) / 2 % 4
noncomputable def wayB(s:Nat):Nat:=(zaC s+4-s % 2) % 4
noncomputable def dgo:Nat->List Nat->List (Option Nat)×Nat
 |w,[]=>([],w)
 |w,s::r=>(Af ((zaC s+4-w) % 4) none++some s::(dgo (wayB s) r).1,(dgo (wayB s) r).2)
noncomputable def zan(w:Nat)(row:List Nat):Nat:=if row.isEmpty then 4 else (w+4-(dgo w row).2) % 4
noncomputable def deeds(w:Nat)(row:List Nat):List (Option Nat):=(dgo w row).1++Af (zan w row) none
theorem ze4{C:Cell->Bool}{e:Edge}(h:IsE C e){s:Nat}(hs:stepB C e=some s):zaC s=e.w/\wayB s=(nxt C e).w/\s<8:=by have hw:=h.1;rcases za7 h with⟨_,q,n⟩ |⟨_,_,q,n⟩ |⟨_,_,q,n⟩ <;> rw[n] <;> rw[q]at hs <;> cases hs <;> unfold wayB zaC <;> simp only <;> rcases way4 hw with r |r |r |r <;> rw[r] <;> decide
theorem zhs{C:Cell->Bool}{e:Edge}(h:IsE C e)(hs:stepB C e=none):nxt C e=⟨e.c,(e.w+1) % 4⟩:=by
 rcases za7 h with⟨_,q,n⟩ |⟨_,_,q,n⟩ |⟨_,_,q,n⟩
 .rw[q]at hs;cases hs
 .rw[q]at hs;cases hs
 .exact n
noncomputable def zkv(C:Cell->Bool)(es:List Edge):Prop:=∀i,¬ ∀m,m<4->∃e,es[i+m]?=some e/\stepB C e=none
theorem zfD{C:Cell -> Bool}{b:Edge}{es:List Edge}(h:Chain C b es)(hE:IsE C b)(nf:zkv C es):∀(n p j w:Nat), es.length-p=n -> p <= es.length -> j <= 3 -> j <= p -> w < 4 -> (∀m, m < j -> ∃e, es[p-1-m]? = some e /\ stepB C e=none) ->
    (it C b p).w=(w+j) % 4->∃t,t<=3/\Af j none++(es.drop p).map (stepB C)=(dgo w (((es.drop p).map (stepB C)).filterMap id)).1++Af t none /\
      ((dgo w (((es.drop p).map (stepB C)).filterMap id)).2+t) % 4=(it C b es.length).w/\(dgo w (((es.drop p).map (stepB C)).filterMap id)).2<4
  | 0,p,j,w,hn,hp,hj,hjp,hw,hl,hway=>by
    have e:es.drop p=[]:=List.drop_eq_nil_iff.mpr (by lia);have hpe:p=es.length:=by lia
    rw[e,<- hpe];exact⟨j,hj,by simp[dgo],hway.symm,hw⟩
  |n+1,p,j,w,hn,hp,hj,hjp,hw,hl,hway=>by
    have hlt:p<es.length:=by lia
    have hd:es.drop p=es[p]::es.drop (p+1):=List.drop_eq_getElem_cons hlt;have hg:=h.get p hlt;rw[Aa hlt]at hg;have hg':es[p]=it C b p:=AJ hg;have hEp:IsE C (it C b p):=it_ok hE p;rw[hd,hg']
    cases hs:stepB C (it C b p) with
    |none =>
      have hj3:j+1<=3:=by
        rcases AY j 3 with q |q
        . lia
        . exfalso;have j3:j=3:=by lia
          subst j3;refine nf (p-3) λm hm=>?_
          rcases AY m 3 with a |a
          . obtain⟨e,h1,h2⟩:=hl (2-m) (by lia);exact⟨e,by rw[<- h1];congr 1;lia,h2⟩
          . have:m=3:=by lia
            subst this;exact⟨_,by rw[show p-3+3=p by lia,Aa hlt,hg'],hs⟩
      have hnx:=zhs hEp hs
      obtain⟨t, t3, q1, q2, q3⟩ := zfD h hE nf n (p + 1) (j + 1) w (by lia) (by lia) hj3 (by lia) hw (λm hm => by
          cases m with
          |zero=>exact⟨_,by rw[show p+1-1-0=p by lia,Aa hlt,hg'],hs⟩
          |succ m =>
            obtain⟨e,h1,h2⟩:=hl m (by lia);exact⟨e,by rw[<- h1];congr 1;lia,h2⟩) (by
          show (nxt C (it C b p)).w=_;rw[hnx];simp only;rw[hway];lia)
      refine⟨t,t3,?_,?_,?_⟩
      . simp only[Bf,hs];rw[show (none::(es.drop (p+1)).map (stepB C)).filterMap id=((es.drop (p+1)).map (stepB C)).filterMap id from rfl,<- q1,Cf];simp
      . simp only[Bf,hs];exact q2
      . simp only[Bf,hs];exact q3
    |some s =>
      obtain⟨w1,w2,_⟩:=ze4 hEp hs;have hwB:wayB s<4:=Ca _ (by decide)
      obtain⟨t, t3, q1, q2, q3⟩ := zfD h hE nf n (p + 1) 0 (wayB s) (by lia) (by lia) (by lia) (by lia) hwB (λm hm => by lia) (by
          show (nxt C (it C b p)).w=_;rw[w2,Nat.add_zero];have:=(zeP hEp).1;lia)
      refine⟨t,t3,?_,?_,?_⟩
      . simp only[Bf,hs];rw[show (some s::(es.drop (p+1)).map (stepB C)).filterMap id=s::((es.drop (p+1)).map (stepB C)).filterMap id from rfl];show _=(Af ((zaC s+4-w) % 4) none++some s::(dgo (wayB s) _).1)++Af t none;have hk:(zaC s+4-w) % 4=j:=by rw[w1,hway];lia
        rw[hk];have q1':(es.drop (p+1)).map (stepB C)=(dgo (wayB s) (((es.drop (p+1)).map (stepB C)).filterMap id)).1++Af t none:=by simpa using q1
        rw[At,List.cons_append,<- q1']
      . simp only[Bf,hs];exact q2
      . simp only[Bf,hs];exact q3
theorem zfz{C:Cell->Bool}{b:Edge}(hE:IsE C b){i:Nat}:∀m,(∀q,q<m->stepB C (it C b (i+q))=none)->it C b (i+m)=⟨(it C b i).c,((it C b i).w+m) % 4⟩
 | 0,_=>by
  have:=(it_ok hE i).1;show it C b i=_;rw[Nat.add_zero,Nat.mod_eq_of_lt this]
 |m+1,h=>by
  have ih:=zfz hE m λq hq=>h q (by lia)
  show nxt C (it C b (i+m))=_;rw[zhs (it_ok hE (i+m)) (h m (by lia)),ih];simp only[Edge.mk.injEq,true_and];lia
theorem Closed.deeds{C:Cell->Bool}{b:Edge}{es:List Edge}(h:Closed C b es):es.map (stepB C)=RP.deeds b.w ((es.map (stepB C)).filterMap id):=by
 have hE:IsE C b:=h.1.2.2.1 b (Ag h.1.1);have hp:=h.pos;have hl:=h.it_len
 have four:∀i,(∀m,m<4->∃e,es[i+m]?=some e/\stepB C e=none)->i=0/\es.length=4:=λi hi=>by
  have hi3:i+3<es.length:=by obtain⟨e,h1,_⟩:=hi 3 (by decide);exact (Ae.mp h1).1
  have st:∀q,q<4->stepB C (it C b (i+q))=none:=λq hq=>by
   obtain⟨e,h1,h2⟩:=hi q hq;rw[h.1.get (i+q) (by lia)]at h1
   cases h1;exact h2
  have e4:=zfz hE 4 st
  have e4':it C b (i+4)=it C b i:=by rw[e4];have:=(it_ok hE i).1;rw[show ((it C b i).w+4) % 4=(it C b i).w by lia]
  rcases AY (i+4) es.length with q |q
  .exfalso;have:=(CH (i:=i) (j:=i+4) (by lia) h.1.2.2.2).mp (by rw[h.1.get i (by lia),h.1.get (i+4) q,e4']);lia
  .have hn:es.length=i+4:=by lia
   rw[<- hn,hl]at e4';have:=(CH (i:=0) (j:=i) (by lia) h.1.2.2.2).mp (by rw[h.1.get 0 hp,h.1.get i (by lia),<- e4'];rfl);lia
 by_cases hr:(es.map (stepB C)).filterMap id=[]
 .have all:∀i, i < es.length -> stepB C (it C b i)=none := λi hi => by
   have hg:=h.1.get i hi
   cases hs:stepB C (it C b i) with
   |none=>rfl
   |some s =>
    exfalso;have:s∈(es.map (stepB C)).filterMap id:=List.mem_filterMap.mpr ⟨some s,Bg.mpr ⟨_,Ag hg,hs⟩,rfl⟩;rw[hr]at this;cases this
  have hn4:es.length=4:=by
   have el:=zfz hE (i:=0) es.length (λq hq=>by rw[BV];exact all q hq);rw[BV,hl]at el;have ew:=congrArg Edge.w el;have hw:=hE.1;change b.w=(b.w+es.length) % 4 at ew;have h4:4<=es.length:=by lia
   refine (four 0 λm hm=>⟨it C b m,?_,all m (by lia)⟩).2;rw[BV];exact h.1.get m (by lia)
  rw[hr];show _=(dgo b.w []).1++Af 4 none
  apply Dg
  intro i;rcases AY i 4 with q |q
  .rw[Ax,h.1.get i (by lia),Cz,all i (by lia)];show _=(Af 4 (none:Option Nat))[i]?;rw[List.getElem?_replicate,if_pos q]
  .rw[BF (by rw[Am];lia),BF (by simp[dgo];lia)]
 .have nf:zkv C es := λi hi => by
   obtain⟨_,h4⟩:=four i hi;have hi0:=(four i hi).1;subst hi0
   apply hr
   apply List.filterMap_eq_nil_iff.mpr
   intro o ho;obtain⟨e,he,rfl⟩:=Bg.mp ho;obtain⟨j,hj,ej⟩:=AN he;obtain⟨f,h1,h2⟩:=hi j (by lia);rw[BV,Aa hj,ej]at h1
   cases h1
   exact h2
  obtain⟨t,t3,q1,q2,q3⟩:=zfD h.1 hE nf es.length 0 0 b.w (by lia) (by lia) (by lia) (by lia) hE.1 (λm hm=>by lia) (by
   show b.w=_;have:=hE.1;lia)
  rw[List.drop_zero]at q1 q2 q3;rw[hl]at q2
  have ht:zan b.w ((es.map (stepB C)).filterMap id)=t:=by unfold zan;rw[if_neg (by simpa using hr)];have:=hE.1;lia
  unfold RP.deeds;rw[ht];simpa using q1
end RP
namespace L2
open PySem PySem.Spec PyProof.Rows PySem.W
section
variable {X:Cx}{pins:List (Addr×Obj)}{σ:St}{H0:Hp}{s:Ac}{l:Addr}{G:Array Nat->Prop}{xs:List V}{Q:VK}
theorem zib(hl:SqL X.K H0 l xs)(hG:∀p, G p -> ∀i ∈ p.toList, i < xs.length)(h0:xs.length < 2 -> G (Cd (A0 xs.length)))
    (core:∀{vs:List Ab} {s':Ac},Vals xs vs->Inv X pins σ H0 s'->2<=vs.length->zek X G vs vs X.xe s')
    (hQ:∀p D H',G p->p.size=xs.length->H0 D=none->Same H0 H'->H' D=some (.lst (outV xs p))->Q (.ref D) H') (I:Inv X pins σ H0 s) :
    Aw (Az X.prog X.w) X.A (call (.builtin "sorted") [.ref l]) (EP X pins σ Q) X.xe s:=by
  obtain⟨vs,r,pl,hz⟩:=I.list hl;have hlx:xs.length=vs.length:=r.length;refine Calls.call_function_entry kind_sorted plain_sorted entry_sorted (args_sorted1 _) ?_
  unfold Builtin.«sorted»;refine Ad (m:=checkCount "sorted" 1 1 _) (Aj ?_);refine Ad (collect_list pl.isList ?_ (by first |lia | (rw[Ap];lia) | (simp;lia)));refine Ad (wpAny_newList ?_ (by first |lia | (rw[Ap];lia) | (simp;lia)));have hsz:((s.heap.push (A7 "list" #[] 0)).update s.heap.objs.size (AB (·++vs.toArray))).objs.size=s.heap.objs.size+1:=by rw[Heap.size_update,size_push']
  have hoL:(((s.heap.push (A7 "list" #[] 0)).update s.heap.objs.size (AB (·++vs.toArray))).push (A7 "list" vs.toArray 0)).get? (s.heap.objs.size+1)=some (A7 "list" vs.toArray 0):=by rw[<- hsz];exact AM _ rfl
  have keep:∀b o,s.heap.get? b=some o->(((s.heap.push (A7 "list" #[] 0)).update s.heap.objs.size (AB (·++vs.toArray))).push (A7 "list" vs.toArray 0)).get? b=some o:=λb o q=>by have hlt:b<s.heap.objs.size:=AD q;rw[Heap.get?_push_ne _ _ _ (by rw[hsz];exact A4 (Nat.lt_succ_of_lt hlt)),Heap.get?_update_ne _ _ _ _ (A4 hlt),Heap.get?_push_ne _ _ _ (A4 hlt)];exact q
  show Aw _ _ _ _ _ { s with heap:=((s.heap.push (A7 "list" #[] 0)).update s.heap.objs.size (AB (·++vs.toArray))).push (A7 "list" vs.toArray 0) };rw[hsz];refine Ad (Bo (wpAny_call_entry slot_list_sort ⟨_,hoL,rfl⟩ entry_list_sort ?body (args_list_sort _)))
  case body =>
    generalize hs1:({ s with heap:=((s.heap.push (A7 "list" #[] 0)).update s.heap.objs.size (AB (·++vs.toArray))).push (A7 "list" vs.toArray 0) }:Ac)=s1;have I1:Inv X pins σ H0 s1:=by rw[<- hs1];exact I.kept (t':=s.toks) keep
    have hd:s1.heap.get? (s.heap.objs.size+1)=some (A7 "list" vs.toArray 0):=by rw[<- hs1];exact hoL
    have hDn:H0 (s.heap.objs.size+1)=none:=I.hok.fresh (Cm _);have fb:FpOk X pins H0 (s.heap.objs.size+1):=I.fpOk (Cm _) hDn;generalize s.heap.objs.size+1=D at hd hDn fb;have u1:=BB s1.heap D (AB λ_=>(#[]:Array Ab));obtain⟨e1,ho1⟩:∃e1,(s1.heap.update D (AB λ_=>(#[]:Array Ab))).get? D=some (A7 "list" #[] e1):=⟨_,CA hd λ_=>#[]⟩;have I2:Inv X pins σ H0 { s1 with heap:=s1.heap.update D (AB λ_=>(#[]:Array Ab)) }:=I1.moved (t':=s1.toks) fb (λb o hb e=>(u1.2 b λz=>hb (by simp[z])).trans e);have keep2:∀b o,(s1.heap.update D (AB λ_=>(#[]:Array Ab))).get? b=some o->(((s1.heap.update D (AB λ_=>(#[]:Array Ab))).push (A7 "tuple" vs.toArray 0)).push (A7 "list" #[] 0)).get? b=some o:=λb o q=>Ak _ (Ak _ q)
    have I3:Inv X pins σ H0 { s1 with heap:=((s1.heap.update D (AB λ_=>(#[]:Array Ab))).push (A7 "tuple" vs.toArray 0)).push (A7 "list" #[] 0) }:=I2.kept (t':=s1.toks) keep2;have hd3:=keep2 _ _ ho1;show Aw (Az X.prog X.w) X.A.in1.in1 (Builtin.«list.sort» ⟨[.ref D],[]⟩) _ _ _;rw[list_sort_plain];refine Ad (listItems_at hd rfl ?_);refine Ad (C8 hd rfl ?_ (by simp;lia) (AU _));refine Ad (seqEpoch_at ho1 rfl ?_);refine Ad (wpAny_newTuple ?_ (by show vs.length<=_;lia));refine Ad (wpAny_newList ?_ (AU _));refine Bo ?_
    generalize hs3:({ s1 with heap:=((s1.heap.update D (AB λ_=>(#[]:Array Ab))).push (A7 "tuple" vs.toArray 0)).push (A7 "list" #[] 0) }:Ac)=s3 at I3;have hd3':s3.heap.get? D=some (A7 "list" #[] e1):=by rw[<- hs3];exact hd3
    dsimp only
    have fin:∀(p:Array Nat) (so:AF), G p -> p.size=vs.length -> Aq so=p.map (BI (vs.toArray.zip vs.toArray)) -> BX so=none ->
        ∃out:List Ab,(Aq so).map (·.2)=out.toArray/\out.length=vs.length/\∀s4:Ac,s4={ s3 with heap:=s3.heap.update D (AB λ_=>out.toArray) }->EP X pins σ Q (.ref D) s4:=λp so g hp ha hf=>by
      refine⟨p.toList.map λi=>vs.getD i BY,W.kat_snds rfl ha,by simp[hp],λs4 e4=>?_⟩;have u2:=BB s3.heap D (AB λ_=>Cd (p.toList.map λi=>vs.getD i BY));obtain⟨c2,hc2⟩:∃c2,(s3.heap.update D (AB λ_=>Cd (p.toList.map λi=>vs.getD i BY))).get? D=some (A7 "list" (Cd (p.toList.map λi=>vs.getD i BY)) c2):=⟨_,CA hd3' λ_=>Cd (p.toList.map λi=>vs.getD i BY)⟩;rw[e4];have hlo:(outV xs p).length<=sizeLine:=by rw[zdX];lia
      exact⟨.ref D,_,I3.adopt (o:=.lst (outV xs p)) (t':=s3.toks) fb (λb u hb q=>(u2.2 b hb).trans q) ⟨_,hc2⟩ ⟨hlo,_,c2,zeX r _ (hG p g),hc2⟩,rfl,hQ p D _ g (by lia) hDn (λb o q=>by rw[zak (zal q hDn)];exact q) zaa⟩
    by_cases h2:vs.length<2
    . have h2':vs.toArray.size<2:=by simpa using h2
      rw[if_pos h2',if_pos h2'];refine Ad (Aj ?_);show Aw (Az X.prog X.w) X.A.in1.in1 (pure ((),SortSt.mk' general' (vs.toArray.zip vs.toArray) #[] 7 none) >>= _) _ _ s3;refine Ad (Aj ?_)
      have ha:Aq (SortSt.mk' general' (vs.toArray.zip vs.toArray) #[] 7 none)=(Cd (A0 vs.length)).map (BI (vs.toArray.zip vs.toArray)):=by have:=W.kas_range (vs.toArray.zip vs.toArray);rw[show (vs.toArray.zip vs.toArray).size=vs.length by simp]at this;exact this.symm
      obtain⟨out,e1',e2',e3'⟩:=fin (Cd (A0 vs.length)) _ (by rw[<- hlx];exact h0 (by lia)) (by simp) ha rfl
      try dsimp only
      rw[e1'];refine Ad (seqEpoch_at hd3' rfl ?_);refine Ad (C8 hd3' rfl ?_ (AU _) (by simp;lia));simp only[bne_self_eq_false,B8,if_false];exact Aj ⟨_,rfl,Aj ⟨_,rfl,e3' _ rfl⟩⟩
    . have h2':¬ vs.toArray.size<2:=by simpa using h2
      rw[if_neg h2',if_neg h2'];refine Ad (By (core r I3 (by lia)) (λκ s0 hk=>?_) λ_ _ z=>z);obtain⟨rfl,hk⟩:=hk;refine Ad (By hk (λr' s' hr=>?_) λ_ _ z=>z);obtain⟨rfl,hf,p,g,hp,ha⟩:=hr;obtain⟨⟨⟩,so⟩:=r';obtain⟨out,e1',e2',e3'⟩:=fin p so g hp ha hf
      try dsimp only
      rw[e1'];refine Ad (seqEpoch_at hd3' rfl ?_);refine Ad (C8 hd3' rfl ?_ (AU _) (by simp;lia));have hf:BX so=none:=hf;rw[hf];simp only[bne_self_eq_false,B8,if_false];exact Aj ⟨_,rfl,Aj ⟨_,rfl,e3' _ rfl⟩⟩
end
noncomputable def soI (s:Str):Int:=if s = "rim" then 1 else 0
noncomputable def SoTwo (s:Str):Prop:=s = "rim" ∨ s = "hole"
inductive Sc:V->V->Int->Int->Prop where
 |int (n m:Int):Sc (.int n) (.int m) n m
 |bl (p q:Bool):Sc (.bl p) (.bl q) (b2i p) (b2i q)
 |so {a b:Str} (ha:SoTwo a) (hb:SoTwo b):Sc (.str a) (.str b) (soI a) (soI b)
inductive VT (K:W.Frag) (H:Hp):List V->List V->List Int->List Int->Prop where
 |nil:VT K H [] [] [] []
 |cons {x y:V} {xs ys:List V} {a b:Int} {as bs:List Int}:Sc x y a b->VT K H xs ys as bs->VT K H (x::xs) (y::ys) (a::as) (b::bs)
 |tup {a b:Addr} {ns ms:List Int}:SqT K H a (ns.map V.int)->SqT K H b (ms.map V.int)->VT K H [.ref a] [.ref b] ns ms
theorem VT.len{K:W.Frag}{H:Hp}{xs ys:List V}{as bs:List Int}(h:VT K H xs ys as bs):xs.length=ys.length:=by
 induction h with
 |nil=>rfl
 |cons _ _ ih=>simp[ih]
 |tup _ _=>rfl
section
variable {X:Cx}{pins:List (Addr×Obj)}{σ:St}{H:Hp}{s:Ac}
theorem VT.same(I:Inv X pins σ H s):∀{xs:List V}{as bs:List Int},VT X.K H xs xs as bs->as=bs:=by
 intro xs
 induction xs with
 |nil=>intro as bs h;cases h;rfl
 |cons x xs ih =>
  intro as bs h
  cases h with
  |cons c h=>cases c <;> rw[ih h]
  |tup h1 h2 =>
   have:=I.tuple_inj h1 h2;exact List.map_inj_right (λ_ _ z=>V.int.inj z) |>.mp this
theorem sc_eq{A:AQ}{x y:V}{a b:Int}{u v:Ab}{Q:Bool->Ac->Prop}{E:Ab->Ac->Prop}(c:Sc x y a b)(rx:RelV x u)(ry:RelV y v)(h:Q (decide (a=b)) s):Aw (Az X.prog X.w) A (eqBool u v) Q E s:=by
 cases c with
 |int n m =>
  obtain⟨t,rfl⟩:=rx;obtain⟨t2,rfl⟩:=ry;exact RK.col_eq (.int _ _ _ _) h
 |bl p q =>
  cases rx
  cases ry
  exact RK.col_eq (.bl _ _) h
 |so ha hb =>
  obtain⟨t,rfl⟩:=rx;obtain⟨t2,rfl⟩:=ry;refine PySem.SeqAt.EqAt.str_str _ _ _ _ X.prog X.w E Q ?_
  rcases ha with rfl |rfl <;> rcases hb with rfl |rfl <;> exact h
theorem sc_lt{A:AQ}{x y:V}{a b:Int}{u v:Ab}{Q:Bool->Ac->Prop}{E:Ab->Ac->Prop}(c:Sc x y a b)(rx:RelV x u)(ry:RelV y v)(h:Q (decide (a<b)) s):Aw (Az X.prog X.w) A (oneLt' false u v) Q E s:=by
 cases c with
 |int n m =>
  obtain⟨t,rfl⟩:=rx;obtain⟨t2,rfl⟩:=ry;exact RK.col_lt (.int _ _ _ _) h
 |bl p q =>
  cases rx
  cases ry
  exact RK.col_lt (.bl _ _) h
 |so ha hb =>
  obtain⟨t,rfl⟩:=rx;obtain⟨t2,rfl⟩:=ry;refine kat_one _ _ (PyProof.Rows.lt_str ?_);rcases ha with rfl |rfl <;> rcases hb with rfl |rfl <;> exact h
theorem VT.lex{bb:Bool}{Q:Bool->Ac->Prop}(hu:X.A.units+68<cLine)(I:Inv X pins σ H s):∀{xs ys:List V}{as bs:List Int}{us vs:List Ab}(i:Nat),VT X.K H xs ys as bs->Vals xs us->Vals ys vs->Q (HT.lexLt as bs) s->KatLex X.prog X.w X.A.in1.in1 bb false Q (us.zip vs) (i+1) s:=by
 intro xs
 induction xs with
 |nil=>intro ys as bs us vs i h r1 r2 q;cases h;cases r1;cases r2;exact kat_nil q
 |cons x xs ih =>
  intro ys as bs us vs i h r1 r2 q
  cases h with
  |cons c h =>
   cases r1 with
   |cons rx r1 =>
   cases r2 with
   |cons ry r2 =>
   rw[HT.lexLt_cons]at q;refine kat_cons (sc_eq c rx ry ?_);split at q
   .rename_i e
    rw[decide_eq_true e];exact kat_yes (ih (i+1) h r1 r2 q)
   .rename_i e
    rw[decide_eq_false e];refine kat_no ?_
    rw[show (bb && (i+1 == 0))=false by simp];exact sc_lt c rx ry q
  |@tup a b _ _ h1 h2 =>
   cases r1 with
   |cons rx r1 =>
   cases r2 with
   |cons ry r2 =>
   cases r1
   cases r2
   cases (show _=Value.ref a from rx)
   cases (show _=Value.ref b from ry)
   have d1:RD X.K H (.ref a) (tI as):=.tup h1 (RDs.ints _);have d2:RD X.K H (.ref b) (tI bs):=.tup h2 (RDs.ints _);obtain⟨as',ra⟩:=I.reads d1 rfl;obtain⟨bs',rb⟩:=I.reads d2 rfl;obtain⟨its,rv1,p1,_⟩:=I.tuple h1;obtain⟨its2,rv2,p2,_⟩:=I.tuple h2;refine kat_cons (SeqAt.eqAt_reads _ _ X.A.in1.in1 s _ _ _ _ ra rb (C0 (zav _)) (C0 (zav _)) ?_ X.prog X.w _ _ ?_)
   .have e1:BN (tI as)=1:=by unfold tI;rw[BN,zby]
    have e2:X.A.in1.in1.units=X.A.units+1+1:=rfl;rw[e1,e2];lia
   .rw[zcu]
    by_cases e:as=bs
    .rw[decide_eq_true e];rw[e,HT.lexLt_irrefl]at q;exact kat_yes (kat_nil q)
    .rw[decide_eq_false e];refine kat_no ?_
     rw[show (bb && (i+1 == 0))=false by simp];exact kat_one _ _ (HT.lt_tupInts p1 p2 (zbA rv1) (zbA rv2) (by show X.A.units+1+1<cLine;lia) (show W.BoolBack Q (.bool (HT.lexLt as bs)) s from q))
theorem zfx{P:V -> Prop}(I:Inv X pins σ H s):∀{ks:List Addr}, (∀(i:Nat) (a:Addr), ks[i]? = some a -> ∃x r, SqT X.K H a (x :: r) /\ P x) ->
  ∃fs:List Ab,W.KatTups s.heap (ks.map Value.ref) fs/\fs.length=ks.length/\∀v∈fs,∃x,P x/\RelV x v
 |[],_=>⟨[],.nil,rfl,λ_ h=>nomatch h⟩
 |a::r,hk=>by
  obtain⟨x,q,hq,hp⟩:=hk 0 a rfl;obtain⟨fs,h1,h2,h3⟩:=zfx (P:=P) I (ks:=r) λi b hb=>hk (i+1) b hb
  obtain⟨its,rv,⟨o,ho,hcl,c,hd⟩,_⟩:=I.tuple hq
  cases rv with
  |cons rx rr =>
   refine⟨_::fs,.cons ho hcl hd rfl h1,by simp[h2],λv hv=>?_⟩;rcases AW.mp hv with rfl |hv
   .exact⟨x,hp,rx⟩
   .exact h3 v hv
theorem coreN{ks:List Addr}{κV:Nat -> List V}{κ : Nat -> List Int}{E:Ab -> Ac -> Prop}(hu:X.A.units + 68 < cLine)(I:Inv X pins σ H s)(h2 : 2 <= ks.length)(hk:∀i a, ks[i]? = some a -> SqT X.K H a (κV i))
  (hcol:∀i j,i<ks.length->j<ks.length->VT X.K H (κV i) (κV j) (κ i) (κ j)) (hf:(∀i,i<ks.length->∃n r,κV i=.int n::r)∨(∀i,i<ks.length->∃a r,SoTwo a/\κV i=.str a::r)) :
  zek X (Ordd κ ks.length) (ks.map Value.ref) (ks.map Value.ref) E s:=by
 unfold zek
 obtain⟨fs,T,kt,hfl,hT,hTT,hTt⟩:∃fs T,W.KatTups s.heap (ks.map Value.ref) fs/\fs.length=ks.length/\(∀v∈fs,Looks (Az X.prog X.w) s.heap (typeOf v) T)/\(T == T)=true/\(T != Value.type "tuple")=true:=by
  rcases hf with hf |hf
  .obtain⟨fs, k1, k2, k3⟩ := zfx (P := λx => ∃n, x = .int n) I (ks := ks) λi a ha => by obtain⟨n,r,e⟩:=hf i (Ae.mp ha).1;exact⟨_,r,by rw[<- e];exact hk i a ha,n,rfl⟩
   refine⟨fs,.type "int",k1,k2,λv hv=>?_,rfl,rfl⟩;obtain⟨x,⟨n,rfl⟩,t,rfl⟩:=k3 v hv;exact .now
  .obtain⟨fs, k1, k2, k3⟩ := zfx (P := λx => ∃a, x = .str a) I (ks := ks) λi a ha => by obtain⟨n,r,_,e⟩:=hf i (Ae.mp ha).1;exact⟨_,r,by rw[<- e];exact hk i a ha,n,rfl⟩
   refine⟨fs,.type "str",k1,k2,λv hv=>?_,rfl,rfl⟩;obtain⟨x,⟨n,rfl⟩,t,rfl⟩:=k3 v hv;exact .now
 refine W.kat_kind (T:=T) kt (by lia) hT hTT ⟨rfl,?_⟩;rw[hTt];generalize hvs:ks.map Value.ref=vs;have hl:ks.length=vs.length:=by rw[<- hvs,Am]
 have hsz0:(vs.toArray.zip vs.toArray).size=vs.length:=by simp
 generalize hZ:vs.toArray.zip vs.toArray=Z at hsz0;have hsz:Z.size=vs.length:=hsz0
 have kap:∀i (hi:i<ks.length),zcG κ ks (Value.ref ks[i])=κ i:=λi hi=>by have hj:ks.idxOf ks[i]<ks.length:=List.idxOf_lt_length_iff.mpr (A9 hi);have ej:ks[ks.idxOf ks[i]]=ks[i]:=List.getElem_idxOf hj;have vc:=hcol (ks.idxOf ks[i]) i hj hi;have k1:=hk (ks.idxOf ks[i]) ks[i] (by rw[Aa hj,ej]);have k2:=hk i ks[i] (Aa hi);have eq:=I.tuple_inj k1 k2;show κ (ks.idxOf ks[i])=κ i;rw[eq]at vc;exact VT.same I vc
 have itm:∀i,i<vs.length->BI Z i=(Value.ref (ks.getD i 0),vs.getD i BY):=λi hi=>by
  rw[<- hZ,W.kat_item rfl];have:vs.getD i BY=Value.ref (ks.getD i 0):=by rw[<- hvs];simp[show i<ks.length by lia]
  rw[this]
 have O:TS.LtOk (Az X.prog X.w) X.A.in1.in1 E s (tuples' true) (λx=>∃i,i<ks.length/\x.1=Value.ref (ks.getD i 0)) (λx y=>HT.lexLt (zcG κ ks x.1) (zcG κ ks y.1)):=by
  refine⟨λx y hx hy st' Q hkd q=>?_,λx y z _ _ _ h1 h2=>?_,λx y _ _ h=>HT.lexLt_asym h⟩
  .obtain⟨i,hi,ex⟩:=hx;obtain⟨j,hj,ey⟩:=hy;have gi:ks.getD i 0=ks[i]:=by simp[hi]
   have gj:ks.getD j 0=ks[j]:=by simp[hj]
   rw[gi]at ex;rw[gj]at ey;rw[ex,ey,kap i hi,kap j hj]at q;rw[lt'_eq];refine Ah (Dm ?_);rw[hkd,ex,ey];have vc:=hcol i j hi hj;have k1:=hk i ks[i] (Aa hi);have k2:=hk j ks[j] (Aa hj);obtain⟨its,rv,⟨o,ho,hcl,c,hd⟩,_⟩:=I.tuple k1;obtain⟨its2,rv2,⟨o2,ho2,hcl2,c2,hd2⟩,_⟩:=I.tuple k2;refine Ah (wpS_lift (wpAny_attempt (W.kat_lt ho hd ho2 hd2 ?_)));have hll:its.length=its2.length:=by rw[<- rv.length,<- rv2.length,vc.len]
   have hsd:decide (its.toArray.size<its2.toArray.size)=false:=decide_eq_false (by simp[hll]);rw[hsd];generalize ei:κV i=xi at rv vc;generalize ej:κV j=xj at rv2 vc;generalize κ i=ai at q vc;generalize κ j=aj at q vc
   cases vc with
   |nil =>
    exfalso;rcases hf with hf |hf
    .obtain⟨n,r,e⟩:=hf i hi;rw[ei]at e;cases e
    .obtain⟨n,r,_,e⟩:=hf i hi;rw[ei]at e;cases e
   |tup h1 h2 =>
    exfalso;rcases hf with hf |hf
    .obtain⟨n,r,e⟩:=hf i hi;rw[ei]at e;cases e
    .obtain⟨n,r,_,e⟩:=hf i hi;rw[ei]at e;cases e
   |cons c vc =>
    cases rv with
    |cons rx rr =>
    cases rv2 with
    |cons rx2 rr2 =>
    rw[HT.lexLt_cons]at q;refine kat_cons (sc_eq c rx rx2 ?_);split at q
    .rename_i e
     rw[decide_eq_true e];exact kat_yes (VT.lex hu I 0 vc rr rr2 ⟨rfl,Ao q⟩)
    .rename_i e
     rw[decide_eq_false e];refine kat_no ?_
     cases c with
     |int n m =>
      obtain⟨t,rfl⟩:=rx;obtain⟨t2,rfl⟩:=rx2;exact oneLt_int ⟨rfl,Ao q⟩
     |bl p q' =>
      exfalso;rcases hf with hf |hf
      .obtain⟨n,r,e⟩:=hf i hi;rw[ei]at e;cases e
      .obtain⟨n,r,_,e⟩:=hf i hi;rw[ei]at e;cases e
     |so ha hb =>
      obtain⟨t,rfl⟩:=rx;obtain⟨t2,rfl⟩:=rx2;refine PyProof.Rows.oneLt_str ⟨rfl,Ao ?_⟩;rcases ha with rfl |rfl <;> rcases hb with rfl |rfl <;> exact q
  .cases q:HT.lexLt (zcG κ ks z.1) (zcG κ ks x.1) with
   |false=>rfl
   |true =>
    have:=HT.lexLt_of_not_lt_lt h2 q;rw[h1]at this;cases this
 have run:=TS.sortRuns_spec O (st:=SortSt.mk' (tuples' true) Z #[] 7 none) (Q:=λ_ st'=>BX st'=none/\∃p:Array Nat,Ordd κ vs.length p/\p.size=vs.length/\Aq st'=p.map (BI Z))
  (by show 2<=Z.size;lia) rfl rfl rfl (λk x hx=>?_) (λst' hp hf hs=>?_)
 .rw[hl];exact By run (λr s' h=>⟨h.1,h.2⟩) λ_ _ z=>z
 .have hk':k<vs.length:=by rw[<- hsz];exact (Bh.mp hx).1
  have hx':Z[k]?=some x:=hx
  have e1:BI Z k=x:=by unfold BI;rw[Array.getD_eq_getD_getElem?,hx'];rfl
  rw[itm k hk']at e1;exact⟨k,by lia,by rw[<- e1]⟩
 .refine⟨hf,?_⟩;have hp':(Aq st').Perm Z:=hp;have hrng:=W.kas_range Z;rw[hsz]at hrng;obtain⟨l,pl,el⟩:=zdl (Bv.mp hp') (l:=A0 vs.length) (f:=BI Z) (by have:=congrArg Array.toList hrng;simpa using this.symm);have hll:l.length=vs.length:=by rw[pl.length_eq,CF]
  refine⟨l.toArray,⟨?_,?_⟩,by simpa using hll,?_⟩
  .exact Bv.mpr (by simpa using pl)
  .rw[B6];intro i j hi hj hij;have hi':i<l.length:=by simpa using hi
   have hj':j<l.length:=by simpa using hj
   have ai:(Aq st')[i]?=some (BI Z l[i]):=by rw[<- A5,el,Ax,Aa hi'];rfl
   have aj:(Aq st')[j]?=some (BI Z l[j]):=by rw[<- A5,el,Ax,Aa hj'];rfl
   have li:l[i]<vs.length:=BA.mp (pl.mem_iff.mp (A9 hi'));have lj:l[j]<vs.length:=BA.mp (pl.mem_iff.mp (A9 hj'));have:=hs i j _ _ (by lia) (by show j<Z.size;lia) (by rw[BV];exact ai) (by rw[BV];exact aj);rw[itm _ li,itm _ lj]at this;have g1:ks.getD l[i] 0=ks[l[i]]'(by lia):=by simp[show l[i]<ks.length by lia]
   have g2:ks.getD l[j] 0=ks[l[j]]'(by lia):=by simp[show l[j]<ks.length by lia]
   simp only[g1,g2]at this;rw[kap _ (by lia),kap _ (by lia)]at this;simpa using this
  .apply Array.toList_inj.mp
   rw[el];simp
theorem zdh (hu:X.A.units + 68 < cLine):CallR X (.builtin "sorted") (λvs H Q => ∃(l:Addr) (ks:List Addr) (κV:Nat -> List V) (κ : Nat -> List Int), vs = [.ref l] /\ SqL X.K H l (ks.map V.ref) /\ (∀i a, ks[i]? = some a -> SqT X.K H a (κV i)) /\
  (∀i j,i<ks.length->j<ks.length->VT X.K H (κV i) (κV j) (κ i) (κ j))/\((∀i,i<ks.length->∃n r,κV i=.int n::r)∨(∀i,i<ks.length->∃a r,SoTwo a/\κV i=.str a::r)) /\
  ∀(p:List Nat) D H',p.Perm (A0 ks.length)->p.Pairwise (λi j=>HT.lexLt (κ j) (κ i)=false)->H D=none->Same H H'->H' D=some (.lst (p.map λi=>V.ref (ks.getD i 0)))->Q (.ref D) H'):=by
 intro pins s σ H xs us Q I r h;obtain⟨l,ks,κV,κ,rfl,hl,hk,hcol,hf,hQ⟩:=h;obtain⟨u,rfl,ru⟩:=Vals.one r
 cases (show u=Value.ref l from ru)
 have hlen:(ks.map V.ref).length=ks.length:=Am ..;refine zib (G:=Ordd κ ks.length) hl (λp hp i hi=>?_) (λh2=>⟨?_,?_⟩) (λ{vs s'} r' I' h2=>?_) (λp D H' g hp hD hS hH=>hQ p.toList D H' ?_ g.2 hD hS ?_) I
 .have:=hp.1.mem_iff.mp (show i∈p by simpa using hi);rw[hlen];simpa using this
 .rw[hlen];exact Dz _
 .rw[B6];intro i j hi hj hij;simp at hi hj h2;lia
 .have hv:vs=ks.map Value.ref := by
   clear hl hk hcol hf hQ h2
   induction ks generalizing vs with
   |nil=>cases r';rfl
   |cons a ks ih =>
    cases r' with
    |cons ra rr =>
     rw[ih (by simp) rr]
     cases (show _=Value.ref a from ra)
     rfl
  subst hv;exact coreN hu I' (by simpa using h2) hk hcol hf
 .have:=Bv.mp g.1;simpa using this
 .rw[hH]
  congr 2
  refine List.map_congr_left λi hi=>?_
  have hi':i<ks.length:=by have:=g.1.mem_iff.mp (show i∈p by simpa using hi);simpa using this
  simp[hi']
end
end L2
namespace HT
open PySem PyProof.Rows
section
open PySem.SeqAt
open PySem.AutoSeq1 (wpAny_loadPart')
open PySem.MeetsSeq PySem.MeetsSeq2 PySem.MeetsSeq3
noncomputable def LtAt(A:AQ)(s:Ac)(u v:Ab)(b:Bool):Prop:=∀(prog:AH) (w:Bc) (E:Ab->Ac->Prop) (Q:Ab->Ac->Prop),Q (.bool b) s->Aw (Az prog w) A (richCompare .Lt u v) Q E s
inductive CG (A:AQ) (s:Ac):List Ab->List Ab->List Int->List Int->Prop where
 |nil:CG A s [] [] [] []
 |cons {u v:Ab} {us vs:List Ab} {a b:Int} {as bs:List Int}:EqAt A s u v (decide (a=b))->LtAt A s u v (decide (a<b))->CG A s us vs as bs->CG A s (u::us) (v::vs) (a::as) (b::bs)
 |last {u v:Ab} {ns ms:List Int}:EqAt A s u v (decide (ns=ms))->LtAt A s u v (lexLt ns ms)->CG A s [u] [v] ns ms
end
section
variable {prog:AH}{w:Bc}{A:AQ}{E:Ab->Ac->Prop}{s:Ac}
end
end HT
namespace L2
open PySem PySem.Spec PyProof.Rows PySem.W
section
variable {X:Cx}{pins:List (Addr×Obj)}{σ:St}{H:Hp}{s:Ac}
end
open PySem PySem.Spec PyProof.Rows
section
variable {X:Cx}{k:Nat}{f:Addr}{fd:Bx}{ps:List Str}{sp:Sp}{pins:List (Addr×Obj)}{σ:St}{H0:Hp}{Q:VK}{l it st:Addr}{xs:List V}{κ:Nat->List Int}{κV:Nat->List V}
end
open PySem
theorem sC{N P:List Str}{sc:Scope}(a:sc.kind = .function := by rfl)(b:sc.isCoroutine=false := by rfl)(c:sc.isGenerator=false := by rfl)(d:N.Nodup := by decide +kernel)(e:N.take P.length=P := by rfl)
  (f:∀x∈P,sc.names.lookup x=some .local∨sc.names.lookup x=some .cell:=by decide +kernel) (g:∀y∈sc.names,y.2≠.free:=by decide +kernel):FnScope N P sc:=⟨a,b,c,d,e,f,g⟩
section
variable {X:Cx}{k j:Nat}{x:Str}{ps:List Str}{sp:Sp}{e:Expr}{es:List Expr}{t:TA}{te:TE}{p pos pos':Pos}
theorem pC (g:Fn X.prog X.w X.K X.mg X.base k x ps sp) (hr:Room j X.A) (ha:PA X (e :: es) t) (hj:k <= j := by decide) (hg:Gl X x := by rfl) (hdb:(x == ("__debug__" : Str))=false := by decide)
  (he:Bq (e::es) X.env=(false,eval e X.env)::Bq es X.env:=by rfl) (hpl:(backTo pos (Bq es X.env)).any (·.1)=false:=by rfl):PE X (.Call (.Name x p) (e::es) [] pos) (tCall sp [] E0 t) :=
 zkS g.ok (hr.mono hj) hg g.m g.kp g.b .nil pass0 ha hdb he hpl
theorem nG(i:Nat)(hN:X.N.Nodup)(hi:X.N[i]?=some x:=by rfl)(hx:Loc X.env.scope x:=by exact Or.inl rfl)(hf:X.fn x=true∨X.env.scope.names.lookup x=some .local:=by first |exact .inl rfl |exact .inr rfl |assumption):PG X (.Name x pos) (gName i) :=
 zkQ hN hi hx hf
theorem sE(i:Nat)(hN:X.N.Nodup)(he:PE X e te)(hi:X.N[i]? = some x := by rfl)(hx:Loc X.env.scope x := by exact Or.inl rfl)(hs:swapsWith e (some (.Name x pos')) pos.line X.env=pure false := by rfl)
  (hf:X.fn x=true∨X.env.scope.names.lookup x=some .local:=by first |exact .inl rfl |exact .inr rfl |assumption):PS X (.Assign [.Name x pos'] e pos) (tAsg te (gName i)) :=
 ziD hN hi hx he hs hf
end
theorem bO{osc:Scope}{N:List Str}{sc:Scope}{N':List Str}{sel:List (Option Nat)}(a:sc.kind = .function := by rfl)(b:∀y ∈ sc.names, y.2 ≠ .cell := by decide +kernel)(c:∀y ∈ sc.names, y.2 = .local -> sc.names.lookup y.1=some .local := by decide +kernel)
  (d:∀y∈sc.names,y.2=.free->osc.names.lookup y.1=some .cell∨osc.names.lookup y.1=some .free:=by decide +kernel) (e:sel.length=N'.length:=by rfl) (f:∀p∈sel.zip N',∀i∈p.1,N[i]?=some p.2/\sc.names.lookup p.2=some .free:=by decide +kernel):BlkOk osc N sc N' sel:=⟨a,b,c,d,e,f⟩
section
variable {K:W.Frag}{x qual:Str}{st:Stmt}{f:Addr}{fd:Bx}
theorem Fun.b1{p0:Str}(F:Fun K x qual st f fd)(h:∀(kV doc pm:Ab) (an:Option Addr) (cdv ct a0:Ab),bindArgs (Dh x qual (za2 st) (zaW st) (zae st) .none kV doc pm an cdv ct) ⟨[a0],[]⟩=pure [(p0,a0)]:=by intros;rfl):Binds K fd [p0] [] :=
 F.binds λkV doc pm an cdv ct us hl=>match us,hl with |[a0],_=>h kV doc pm an cdv ct a0
theorem Fun.b2{p0 p1:Str}(F:Fun K x qual st f fd)(h:∀(kV doc pm:Ab) (an:Option Addr) (cdv ct a0 a1:Ab),bindArgs (Dh x qual (za2 st) (zaW st) (zae st) .none kV doc pm an cdv ct) ⟨[a0,a1],[]⟩=pure [(p0,a0),(p1,a1)]:=by intros;rfl):Binds K fd [p0,p1] [] :=
 F.binds λkV doc pm an cdv ct us hl=>match us,hl with |[a0,a1],_=>h kV doc pm an cdv ct a0 a1
theorem Fun.b3{p0 p1 p2:Str}(F:Fun K x qual st f fd)(h:∀(kV doc pm:Ab) (an:Option Addr) (cdv ct a0 a1 a2:Ab),bindArgs (Dh x qual (za2 st) (zaW st) (zae st) .none kV doc pm an cdv ct) ⟨[a0,a1,a2],[]⟩=pure [(p0,a0),(p1,a1),(p2,a2)]:=by intros;rfl):Binds K fd [p0,p1,p2] [] :=
 F.binds λkV doc pm an cdv ct us hl=>match us,hl with |[a0,a1,a2],_=>h kV doc pm an cdv ct a0 a1 a2
theorem Fun.b6{p0 p1 p2 p3 p4 p5:Str}(F:Fun K x qual st f fd)(h:∀(kV doc pm:Ab) (an:Option Addr) (cdv ct a0 a1 a2 a3 a4 a5:Ab),bindArgs (Dh x qual (za2 st) (zaW st) (zae st) .none kV doc pm an cdv ct) ⟨[a0,a1,a2,a3,a4,a5],[]⟩=pure [(p0,a0),(p1,a1),(p2,a2),(p3,a3),(p4,a4),(p5,a5)]:=by intros;rfl):Binds K fd [p0,p1,p2,p3,p4,p5] [] :=
 F.binds λkV doc pm an cdv ct us hl=>match us,hl with |[a0,a1,a2,a3,a4,a5],_=>h kV doc pm an cdv ct a0 a1 a2 a3 a4 a5
end
noncomputable def DA(K:W.Frag)(x:Str)(st:Stmt):Prop:=∃(f:Addr) (od an:Option Addr) (sl:Array (Option Ab)) (oc kV dc pm cd ct:Ab),C1 K AI x=some (some (.ref f)) /\
 K.lookup f=some ⟨oc,od,.func (Dh x x (za2 st) (zaW st) (zae st) .none kV dc pm an cd ct),sl⟩/\W.codeIn K cd x=true/\W.keepIn K (.ref f)=true
section
variable {K:W.Frag}{mg:Str->Option Ab}{h:Heap}{x:Str}{st:Stmt}
theorem DA.mk{f:Addr}{od an:Option Addr}{sl:Array (Option Ab)}{oc kV dc pm cd ct:Ab}(a:C1 K AI x=some (some (.ref f)))
  (l:K.lookup f=some ⟨oc,od,.func (Dh x x (za2 st) (zaW st) (zae st) .none kV dc pm an cd ct),sl⟩) (c:W.codeIn K cd x=true) (k:W.keepIn K (.ref f)=true):DA K x st :=
 ⟨f,od,an,sl,oc,kV,dc,pm,cd,ct,a,l,c,k⟩
theorem DA.d1{p0:Str}(D:DA K x st)(X:K.In h)(G:h.Ns AI mg)(hb:∀(kV doc pm:Ab) (an:Option Addr) (cdv ct a0:Ab),bindArgs (Dh x x (za2 st) (zaW st) (zae st) .none kV doc pm an cdv ct) ⟨[a0],[]⟩=pure [(p0,a0)]:=by intros;rfl):Nonempty (Df K mg x st [p0]):=by obtain⟨f,od,an,sl,oc,kV,dc,pm,cd,ct,a,l,c,k⟩:=D;exact⟨⟨f,_,zcY l c k,W.mg_of X G a,(zcY l c k).b1 hb⟩⟩
theorem DA.d2{p0 p1:Str}(D:DA K x st)(X:K.In h)(G:h.Ns AI mg)(hb:∀(kV doc pm:Ab) (an:Option Addr) (cdv ct a0 a1:Ab),bindArgs (Dh x x (za2 st) (zaW st) (zae st) .none kV doc pm an cdv ct) ⟨[a0,a1],[]⟩=pure [(p0,a0),(p1,a1)]:=by intros;rfl):Nonempty (Df K mg x st [p0,p1]):=by obtain⟨f,od,an,sl,oc,kV,dc,pm,cd,ct,a,l,c,k⟩:=D;exact⟨⟨f,_,zcY l c k,W.mg_of X G a,(zcY l c k).b2 hb⟩⟩
theorem DA.d3{p0 p1 p2:Str}(D:DA K x st)(X:K.In h)(G:h.Ns AI mg)(hb:∀(kV doc pm:Ab) (an:Option Addr) (cdv ct a0 a1 a2:Ab),bindArgs (Dh x x (za2 st) (zaW st) (zae st) .none kV doc pm an cdv ct) ⟨[a0,a1,a2],[]⟩=pure [(p0,a0),(p1,a1),(p2,a2)]:=by intros;rfl):Nonempty (Df K mg x st [p0,p1,p2]):=by obtain⟨f,od,an,sl,oc,kV,dc,pm,cd,ct,a,l,c,k⟩:=D;exact⟨⟨f,_,zcY l c k,W.mg_of X G a,(zcY l c k).b3 hb⟩⟩
theorem DA.d6{p0 p1 p2 p3 p4 p5:Str}(D:DA K x st)(X:K.In h)(G:h.Ns AI mg)(hb:∀(kV doc pm:Ab) (an:Option Addr) (cdv ct a0 a1 a2 a3 a4 a5:Ab),bindArgs (Dh x x (za2 st) (zaW st) (zae st) .none kV doc pm an cdv ct) ⟨[a0,a1,a2,a3,a4,a5],[]⟩=pure [(p0,a0),(p1,a1),(p2,a2),(p3,a3),(p4,a4),(p5,a5)]:=by intros;rfl):Nonempty (Df K mg x st [p0,p1,p2,p3,p4,p5]):=by obtain⟨f,od,an,sl,oc,kV,dc,pm,cd,ct,a,l,c,k⟩:=D;exact⟨⟨f,_,zcY l c k,W.mg_of X G a,(zcY l c k).b6 hb⟩⟩
end
end L2
namespace RR
open PySem L2
noncomputable def top(i:Nat):Stmt:=PySem.Challenge.pw_rimsteps_k75_rows_of_the_greater.main.body.getD i (.Pass ⟨0,0,0,0⟩)
noncomputable abbrev zcm:Stmt:=top 6
noncomputable abbrev zgA:List Str:=["cell"]
theorem zfa:FnScope zgA ["cell"] (zae zcm):=sC
noncomputable abbrev zb9:Stmt:=top 7
noncomputable abbrev zfM:List Str:=["picture","at"]
theorem zcE:FnScope zfM ["picture"] (zae zb9):=sC
noncomputable abbrev ziy:Stmt:=top 8
noncomputable abbrev zl2:List Str:=["x","y","step","right","up"]
theorem zgM:FnScope zl2 ["x","y","step"] (zae ziy):=sC
noncomputable abbrev zbM:Stmt:=top 9
noncomputable abbrev zdo:List Str:=["picture"]
theorem ze9:FnScope zdo ["picture"] (zae zbM):=sC
noncomputable abbrev zcj:Stmt:=top 11
noncomputable abbrev zgx:List Str:=["edge","x","y","way"]
theorem zbw:FnScope zgx ["edge"] (zae zcj):=sC
noncomputable abbrev zbD:Stmt:=top 12
noncomputable abbrev zcQ:List Str:=["picture","table","edges"]
theorem zcg:FnScope zcQ ["picture"] (zae zbD):=sC
noncomputable abbrev zbC:Stmt:=top 13
noncomputable abbrev zei:List Str:=["way"]
theorem zdp:FnScope zei ["way"] (zae zbC):=sC
noncomputable abbrev zci:Stmt:=top 14
noncomputable abbrev zgw:List Str:=["way"]
theorem ze8:FnScope zgw ["way"] (zae zci):=sC
noncomputable abbrev zb4:Stmt:=top 15
noncomputable abbrev zfH:List Str:=["table","edge","x","y","way","step"]
theorem za4:FnScope zfH ["table","edge"] (zae zb4):=sC
noncomputable abbrev zc6:Stmt:=top 16
noncomputable abbrev zie:List Str:=["step"]
theorem zgK:FnScope zie ["step"] (zae zc6):=sC
noncomputable abbrev zb7:Stmt:=top 17
noncomputable abbrev zfK:List Str:=["edge","step","x","y","way","new_x","new_y"]
theorem zaQ:FnScope zfK ["edge","step"] (zae zb7):=sC
noncomputable abbrev zcI:Stmt:=top 20
noncomputable abbrev zg1:List Str:=["table","begin","step","walk","edge"]
theorem zbd:FnScope zg1 ["table","begin"] (zae zcI):=sC
noncomputable abbrev zaG:Stmt:=top 21
noncomputable abbrev zbo:List Str:=["walk","lefts","slants"]
theorem za9:FnScope zbo ["walk"] (zae zaG):=sC
noncomputable abbrev zba:Stmt:=top 22
noncomputable abbrev zcP:List Str:=["walk","lefts","slants"]
theorem za0:FnScope zcP ["walk"] (zae zba):=sC
noncomputable abbrev zdS:Stmt:=top 23
noncomputable abbrev zjv:List Str:=["walk"]
theorem zhW:FnScope zjv ["walk"] (zae zdS):=sC
noncomputable abbrev zcA:Stmt:=top 24
noncomputable abbrev zeW:List Str:=["walk","sort"]
theorem zgN:FnScope zeW ["walk","sort"] (zae zcA):=sC
noncomputable abbrev zbz:Stmt:=top 25
noncomputable abbrev zdi:List Str:=["walk","sort","begin","at","row"]
theorem zbB:FnScope zdi ["walk"] (zae zbz):=sC
noncomputable abbrev zb5:Stmt:=top 26
noncomputable abbrev zfI:List Str:=["one","sort","x","y","row"]
theorem za5:FnScope zfI ["one"] (zae zb5):=sC
noncomputable abbrev zbP:Stmt:=top 27
noncomputable abbrev zeA:List Str:=["table","edges","walked","told","begin","walk","edge","step"]
theorem zaD:FnScope zeA ["table","edges"] (zae zbP):=sC
noncomputable abbrev zfb:Stmt:=top 28
noncomputable abbrev zka:List Str:=["picture"]
theorem zix:FnScope zka ["picture"] (zae zfb):=sC
noncomputable abbrev zcn:Stmt:=top 31
noncomputable abbrev zgB:List Str:=["one","sort","x","y","row"]
theorem zbi:FnScope zgB ["one"] (zae zcn):=sC
noncomputable abbrev zdP:Stmt:=top 32
noncomputable abbrev zjs:List Str:=["step"]
theorem zhV:FnScope zjs ["step"] (zae zdP):=sC
noncomputable abbrev zb8:Stmt:=top 33
noncomputable abbrev zfL:List Str:=["begin_way","row","way","deeds","step","lefts"]
theorem zaR:FnScope zfL ["begin_way","row"] (zae zb8):=sC
noncomputable abbrev zdR:Stmt:=top 34
noncomputable abbrev zju:List Str:=["begin","deeds","walk","edge","deed"]
theorem zbX:FnScope zju ["begin","deeds"] (zae zdR):=sC
noncomputable abbrev zch:Stmt:=top 35
noncomputable abbrev zgv:List Str:=["begin","row"]
theorem ze7:FnScope zgv ["begin","row"] (zae zch):=sC
noncomputable abbrev zbO:Stmt:=top 36
noncomputable abbrev zez:List Str:=["edge","step","x","y","way","behind","seen"]
theorem zaM:FnScope zez ["edge","step"] (zae zbO):=sC
noncomputable abbrev zb6:Stmt:=top 37
noncomputable abbrev zfJ:List Str:=["walk","known","steps_gone","edge","step","cell","inside"]
theorem zaA:FnScope zfJ ["walk"] (zae zb6):=sC
noncomputable abbrev zcl:Stmt:=top 38
noncomputable abbrev zgz:List Str:=["walk","edge","step"]
theorem zb3:FnScope zgz ["walk"] (zae zcl):=sC
noncomputable abbrev zcJ:Stmt:=top 39
noncomputable abbrev zg2:List Str:=["walk","sort"]
theorem zfZ:FnScope zg2 ["walk","sort"] (zae zcJ):=sC
noncomputable abbrev zdQ:Stmt:=top 40
noncomputable abbrev zjt:List Str:=["one","sort","x","y","row","begin","walk","at"]
theorem zbc:FnScope zjt ["one"] (zae zdQ):=sC
noncomputable abbrev zc7:Stmt:=top 43
noncomputable abbrev zif:List Str:=["some"]
theorem zgL:FnScope zif ["some"] (zae zc7):=sC
noncomputable abbrev zck:Stmt:=top 44
noncomputable abbrev zgy:List Str:=["edge","times","x","y","way","right","up"]
theorem zaX:FnScope zgy ["edge","times"] (zae zck):=sC
noncomputable abbrev zdT:Stmt:=top 45
noncomputable abbrev zjw:List Str:=["one","times","walk","deeds","edge","step"]
theorem zbY:FnScope zjw ["one","times"] (zae zdT):=sC
noncomputable abbrev zbx:Stmt:=top 46
noncomputable abbrev zc5:List Str:=["some","times"]
theorem zel:FnScope zc5 ["some","times"] (zae zbx):=sC
noncomputable abbrev zbR:Stmt:=top 48
noncomputable abbrev zeC:List Str:=["_law_script","_law_k"]
theorem zdN:FnScope zeC ["_law_script","_law_k"] (zae zbR):=sC
noncomputable abbrev zcK:Stmt:=top 49
noncomputable abbrev zg3:List Str:=["_law_pen","_law_base","_law_rest","_law_number"]
theorem zbt:FnScope zg3 ["_law_pen","_law_base"] (zae zcK):=sC
noncomputable abbrev zc8:Stmt:=top 50
noncomputable abbrev zig:List Str:=["_law_pen","_law_way"]
theorem zdM:FnScope zig ["_law_pen"] (zae zc8):=sC
noncomputable abbrev zbE:Stmt:=top 51
noncomputable abbrev zej:List Str:=["_law_pen","_law_way","_law_x","_law_y","_law_wide","_law_high"]
theorem zdq:FnScope zej ["_law_pen","_law_way","_law_x","_law_y","_law_wide","_law_high"] (zae zbE):=sC
noncomputable abbrev zbQ:Stmt:=top 52
noncomputable abbrev zeB:List Str:=["_law_pen","_law_most","_law_wide","_law_high","_law_way","_law_dx","_law_dy","_law_found","_law_y","_law_x"]
theorem zat:FnScope zeB ["_law_pen","_law_most"] (zae zbQ):=sC
noncomputable abbrev zbk:Stmt:=top 53
noncomputable abbrev zcw:List Str:=["_law_found"]
theorem zdr:FnScope zcw ["_law_found"] (zae zbk):=sC
noncomputable abbrev zaY:Stmt:=top 54
noncomputable abbrev zb2:List Str:=["_law_found"]
theorem zcU:FnScope zb2 ["_law_found"] (zae zaY):=sC
noncomputable abbrev zcL:Stmt:=top 55
noncomputable abbrev zg4:List Str:=["_law_one","_law_times","_law_way","_law_begin","_law_found","_law_step","_law_many","_law_turn"]
theorem zao:FnScope zg4 ["_law_one","_law_times"] (zae zcL):=sC
noncomputable abbrev zco:Stmt:=top 56
noncomputable abbrev zgC:List Str:=["_law_one","_law_times","_law_found","_law_row","_law_high","_law_at"]
theorem zbj:FnScope zgC ["_law_one","_law_times"] (zae zco):=sC
noncomputable abbrev s_law:Stmt:=top 57
noncomputable abbrev N_law:List Str:=["_law_script","_law_k","_law_pen","_law_times","_law_picture_here","_law_near","_law_x","_law_y","_law_some","_law_found","_law_places"]
theorem zcf:FnScope N_law ["_law_script"] (zae s_law):=sC
open PySem L2 RP
noncomputable def cellT(c:Cell):List V:=[.int c.1,.int c.2]
noncomputable def edgeT(e:Edge):List V:=[.int e.c.1,.int e.c.2,.int e.w]
noncomputable def sv:Option Nat->V
 |none=>.non
 |some s=>.int s
noncomputable def Tab(H:Hp)(t:Addr)(C:Cell->Bool):Prop:=∃kvs:List (List Key×V),H t=some (.dT kvs)/\∀c:Cell,(valV kvs [Dl c.1,Dl c.2]).isSome=C c
theorem Tab.same{H H':Hp}{t:Addr}{C:Cell->Bool}(h:Tab H t C)(s:Same H H'):Tab H' t C:=let ⟨kvs,e,q⟩:=h;⟨kvs,s _ _ e,q⟩
theorem Same.up{H:Hp}{p:Addr}{o:HO}(h:H p=none):Same H (upd H p o):=λb u e=>by rw[zak (zal e h)];exact e
structure Txt (P:AH) (w:Bc) (K:W.Frag) (mg:Str->Option Ab):Prop where
 moves:∃M,mg "MOVES" = some (.ref M)/\∀H,∃ms:List Addr,SqT K H M (ms.map V.ref)/\ms.length=8/\∀(i:Nat) a,ms[i]?=some a->SqT K H a [.int (mv i).1,.int (mv i).2]
 ways:Ways P w K mg
 more:Two P w K mg "MORE_LEFTS" 4 (-4)
 pENTRIES:∃M,mg "ENTRIES" = some (.ref M)/\∀H,∃ms:List Addr,SqT K H M (ms.map V.ref)/\ms.length=4/\∀(i:Nat) a,ms[i]?=some a->∃q,([(0,0),(1,0),(1,1),(0,1)]:List (Int×Int))[i]?=some q/\SqT K H a [.int q.1,.int q.2]
 nrange:mg "range" = none
 nlen:mg "len" = none
 nmin:mg "min" = none
 nmax:mg "max" = none
 nsorted:mg "sorted" = none
 ntuple:mg "tuple" = none
 nint:mg "int" = none
 nbool:mg "bool" = none
 nabs:mg "abs" = none
 nall:mg "all" = none
 nisinstance:mg "isinstance" = none
 nlist:mg "list" = none
 nzip:mg "zip" = none
theorem two:2<=sizeLine:=by decide
theorem three:3<=sizeLine:=by decide
section
variable {P:AH}{w:Bc}{K:W.Frag}{mg:Str->Option Ab}{base:Heap}
noncomputable def zgG(K:W.Frag):Sp:=λvs H Q _=>∃(a:Addr) (x y:Int) (r:List V),vs=[.ref a]/\SqT K H a (.int x::.int y::r)/\∀(p:Addr) (H':Hp),H p=none->Same H H'->H' p=some (.tup [.int y,.int x])->Q (.ref p) H'
theorem zfo (d:Df K mg "cell_order" zcm ["cell"]):FnOk P w K mg base CX0 1 d.f d.fd ["cell"] (zgG K):=by
 refine d.F.ok zfa (λvs H Q E h=>?_) (λcdv A outer s H vs Q E hr h=>?_)
 .obtain⟨a,x,y,r,rfl,_⟩:=h;rfl
 .obtain⟨a,x,y,r,rfl,hq,k⟩:=h;refine⟨_,(zaf (zaj (zaK (zah (pe_ix zaI (pv 0) zad (λ_ _=>rfl)) (zah (pe_ix zaI (pv 0) zad (λ_ _=>rfl)) zac))))),?_⟩;refine⟨_,rfl,a,_,_,_,rfl,rfl,hq,zai (j:=1) rfl,_,rfl,a,_,_,_,rfl,rfl,hq,zai (j:=0) rfl,two,λp hp=>?_⟩;exact k p _ hp (Same.up hp) zaa
noncomputable def zfV:Sp:=λvs H Q _=>∃(c:Cell) (i:Nat),vs=[.int c.1,.int c.2,.int i]/\i<8/\∀(p:Addr) (H':Hp),H p=none->Same H H'->H' p=some (.tup (cellT (go c i)))->Q (.ref p) H'
theorem zkW (T:Txt P w K mg) (d:Df K mg "gone" ziy ["x","y","step"]):FnOk P w K mg base CX0 1 d.f d.fd ["x","y","step"] zfV:=by
 refine d.F.ok zgM (λvs H Q E h=>?_) (λcdv A outer s H vs Q E hr h=>?_)
 .obtain⟨c,i,rfl,_⟩:=h;rfl
 .obtain⟨c,i,rfl,hi,k⟩:=h;obtain⟨M,hM,hms⟩:=T.moves;obtain⟨ms,hq,hl,hm⟩:=hms H
  refine⟨_,(zab (zbG (pe_ix zaI (zdb (v:=.ref M) rfl hM rfl) (pv 2) (λ_ _=>rfl)) (zbl (by rfl) (zag (nG 3 zgM.nd) (zag (nG 4 zgM.nd) zay))))
   (zaf (zaj (zaK (pa_B (pe_op zaH (pv 0) (pv 3)) (pa_B (pe_op zaH (pv 1) (pv 4)) zac)))))),?_⟩
  have hi':i<ms.length:=by lia
  have e1:ms[i]?=some ms[i]:=by simp[hi']
  refine⟨_,rfl,M,_,(i:Int),.ref ms[i],rfl,rfl,hq,zai (by simp[hi']),ms[i],_,rfl,hm i _ e1,rfl,_,_,rfl,_,_,rfl,rfl,?_⟩;refine⟨_,rfl,_,rfl,_,_,rfl,rfl,_,rfl,_,rfl,_,_,rfl,rfl,two,λp hp=>?_⟩;exact k p _ hp (Same.up hp) zaa
noncomputable def zcz:Sp:=λvs H Q _=>∃w:Nat,vs=[.int w]/\w<4/\Q (.int (2*w:Nat)) H
theorem zds (d:Df K mg "straight_step" zbC ["way"]):FnOk P w K mg base CX0 1 d.f d.fd ["way"] zcz:=by
 refine d.F.ok zdp (λvs H Q E h=>?_) (λcdv A outer s H vs Q E hr h=>?_)
 .obtain⟨w,rfl,_⟩:=h;rfl
 .obtain⟨w,rfl,hw,k⟩:=h;refine⟨_,(zaf (zaj (pe_op zaZ zad (pv 0)))),?_⟩;refine⟨_,rfl,_,_,rfl,rfl,.inl ⟨by decide,by decide⟩,?_⟩;have e:(2*(w:Int))=((2*w:Nat):Int):=by lia
  show Q (.int (2*(w:Int))) H;rw[e];exact k
noncomputable def zgF:Sp:=λvs H Q _=>∃w:Nat,vs=[.int w]/\w<4/\Q (.int ((2*w+7) % 8:Nat)) H
theorem zfj (d:Df K mg "slant_step" zci ["way"]):FnOk P w K mg base CX0 1 d.f d.fd ["way"] zgF:=by
 refine d.F.ok ze8 (λvs H Q E h=>?_) (λcdv A outer s H vs Q E hr h=>?_)
 .obtain⟨w,rfl,_⟩:=h;rfl
 .obtain⟨w,rfl,hw,k⟩:=h;refine⟨_,(zaf (zaj (pe_op za6 (pe_op zaH (pe_op zaZ zad (pv 0)) zad) zad))),?_⟩;refine⟨_,rfl,_,_,rfl,rfl,.inl ⟨by decide,by decide⟩,_,_,rfl,rfl,_,_,rfl,rfl,(by show (0:Int)<8;decide),?_⟩;have e:(2*(w:Int)+7) % 8=(((2*w+7) % 8:Nat):Int):=by lia
  show Q (.int ((2*(w:Int)+7) % 8)) H;rw[e];exact k
noncomputable def zcS:Sp:=λvs H Q _=>∃o:Option Nat,vs=[sv o]/\Q (.bl (slant o)) H
theorem zgT (d:Df K mg "is_slant" zc6 ["step"]):FnOk P w K mg base CX0 1 d.f d.fd ["step"] zcS:=by
 refine d.F.ok zgK (λvs H Q E h=>?_) (λcdv A outer s H vs Q E hr h=>?_)
 .obtain⟨o,rfl,_⟩:=h;rfl
 .obtain⟨o,rfl,k⟩:=h;refine⟨_,(zaf (zaj (zhp (za1 zfh (pv 0) zcr (zap _)) (zf3 (za1 op_eq (pe_op za6 (pv 0) zad) zad (zap _)))))),?_⟩
  cases o with
  |none=>exact⟨_,rfl,rfl,false,rfl,iteF k⟩
  |some n =>
   refine⟨_,rfl,rfl,true,rfl,iteT ⟨_,rfl,_,_,rfl,rfl,(by show (0:Int)<2;decide),rfl,?_⟩⟩
   have e:decide (V.int ((n:Int) % 2)=V.int 1)=slant (some n):=by
    show _=(n % 2 == 1)
    by_cases q:n % 2=1
    .rw[decide_eq_true (by rw[show (n:Int) % 2=1 by lia]),q];rfl
    .rw[decide_eq_false (λz=>by injection z with z;lia)];simp[q]
   rw[<- e]at k;exact k
noncomputable def spGap(K:W.Frag):Sp:=λvs H Q _=>∃(a:Addr) (e:Edge),vs=[.ref a]/\SqT K H a (edgeT e)/\e.w<4/\∀(p:Addr) (H':Hp),H p=none->Same H H'->H' p=some (.tup (cellT (gap e)))->Q (.ref p) H'
theorem zfk (g_gone:Fn P w K mg base 1 "gone" ["x","y","step"] zfV) (d:Df K mg "gap_beside" zcj ["edge"]):FnOk P w K mg base CX0 2 d.f d.fd ["edge"] (spGap K):=by
 refine d.F.ok zbw (λvs H Q E h=>?_) (λcdv A outer s H vs Q E hr h=>?_)
 .obtain⟨a,e,rfl,_⟩:=h;rfl
 .obtain⟨a,e,rfl,hq,hw,k⟩:=h
  refine⟨_,(zab (zbG (pv 0) (zbl (by rfl) (zag (nG 1 zbw.nd) (zag (nG 2 zbw.nd) (zag (nG 3 zbw.nd) zay)))))
   (zaf (zaj (pC g_gone hr (pa_N (pv 1) (pa_N (pv 2) (pa_B (pe_op za6 (pe_op zaH (pe_op zaZ zad (pv 3)) zad) zad) zac))))))),?_⟩
  refine⟨_,rfl,a,_,rfl,hq,rfl,_,_,rfl,_,_,rfl,_,_,rfl,rfl,?_⟩;have e6:(2*(e.w:Int)+6) % 8=(((2*e.w+6) % 8:Nat):Int):=by lia
  refine⟨_,rfl,_,rfl,_,rfl,_,_,rfl,rfl,.inl ⟨by decide,by decide⟩,_,_,rfl,rfl,_,_,rfl,rfl,(by show (0:Int)<8;decide),e.c,(2*e.w+6) % 8,(by rw[<- e6];rfl),by lia,λp H' hp hS hH=>k p H' hp hS hH⟩
theorem iteN{b:Bool}{A B:Prop}(h:b=false)(q:B):if b=true then A else B:=by subst h;exact iteF q
theorem iteY{b:Bool}{A B:Prop}(h:b=true)(q:A):if b=true then A else B:=by subst h;exact iteT q
theorem ze2{tb:TS}{D:Ends}{σ:St}{H:Hp}(h:tb D σ H):tIfs (λ_ H Q=>Q true H) tb D σ H:=by
 show if true=true then tb D σ H else D.nx σ H
 exact iteT h
theorem gN{j:Nat}{v:V}{σ:St}{H:Hp}{tb:TS}{D:Ends}(h:tb D (σ.set j (some v)) H):gName j v σ H λσ2 H2=>tIfs (λ_ H Q=>Q true H) tb D σ2 H2:=ze2 h
noncomputable def LR{α:Type}(K:W.Frag)(H:Hp)(a:Addr)(l:List α)(R:α->V->Hp->Prop):Prop:=∃vs:List V,SqL K H a vs/\vs.length=l.length/\∀(i:Nat) x v,l[i]?=some x->vs[i]?=some v->R x v H
noncomputable def cR(c:Cell)(v:V)(H:Hp):Prop:=∃b,v=.ref b/\H b=some (.tup (cellT c))
noncomputable def eR(e:Edge)(v:V)(H:Hp):Prop:=∃b,v=.ref b/\H b=some (.tup (edgeT e))
noncomputable def wR(q:Edge×Option Nat)(v:V)(H:Hp):Prop:=∃A b,v=.ref A/\H A=some (.tup [.ref b,sv q.2])/\H b=some (.tup (edgeT q.1))
theorem cR.same{c:Cell}{v:V}{H H':Hp}(h:cR c v H)(s:Same H H'):cR c v H':=let ⟨b,e,q⟩:=h;⟨b,e,s _ _ q⟩
theorem eR.same{c:Edge}{v:V}{H H':Hp}(h:eR c v H)(s:Same H H'):eR c v H':=let ⟨b,e,q⟩:=h;⟨b,e,s _ _ q⟩
theorem wR.same{c:Edge×Option Nat}{v:V}{H H':Hp}(h:wR c v H)(s:Same H H'):wR c v H':=let ⟨A,b,e,q,r⟩:=h;⟨A,b,e,s _ _ q,s _ _ r⟩
theorem LR.same{α:Type}{K:W.Frag}{H H':Hp}{a:Addr}{l:List α}{R:α->V->Hp->Prop}(h:LR K H a l R)(s:Same H H')(m:∀x v,R x v H->R x v H'):LR K H' a l R :=
 let ⟨vs,q,n,r⟩:=h;⟨vs,s.seq q,n,λi x v h1 h2=>m x v (r i x v h1 h2)⟩
theorem zbu{α:Type}{l:List α}{i:Nat}{x c:α}(h:l[i]?=some x):c∈l.take (i+1) ↔ c∈l.take i∨c=x:=by rw[Dk,h,List.mem_append];exact⟨λz=>z.elim .inl λz=>.inr (Ar.mp z),λz=>z.elim .inl λz=>.inr (List.mem_singleton.mpr z)⟩
noncomputable def InOrd(cs:List Cell):Prop:=∀(i:Nat) c d,cs[i]?=some c->cs[i+1]?=some d->HT.lexLt [c.2,c.1] [d.2,d.1]=true
noncomputable def spAsk(K:W.Frag):Sp:=λvs H Q _=>∃(a:Addr) (cs:List Cell),vs=[.ref a]/\LR K H a cs cR/\InOrd cs/\cs.length<=1000/\∀H',Same H H'->Q (.bl true) H'
theorem zeu (T:Txt P w K mg) (g_cell_order:Fn P w K mg base 1 "cell_order" ["cell"] (zgG K)) (d:Df K mg "ask_picture" zb9 ["picture"]):FnOk P w K mg base CX0 2 d.f d.fd ["picture"] (spAsk K):=by
 refine d.F.ok zcE (λvs H Q E h=>?_) (λcdv A outer s H vs Q E hr h=>?_)
 .obtain⟨a,cs,rfl,_⟩:=h;rfl
 .obtain⟨a,cs,rfl,⟨ws,hq,hn,hc⟩,ho,hlen,k⟩:=h;have hu0:=hr.units0
  refine⟨_,(zab (zbF Be rfl (ziI (by rfl) T.nrange (pa_C zad (zah (zaq zaJ (by rfl) T.nlen (by rfl) (pa_N (pv 0) zac)) zac))) (nG 1 zcE.nd)
   (zaf (ps_if (zau (zlD hu0) (pC g_cell_order hr (zah (pe_ix zaz (pv 0) (pv 1) (λ_ _=>rfl)) zac)) (pC g_cell_order hr (zah (pe_ix zaz (pv 0) (pe_op zaE (pv 1) zad) (λ_ _=>rfl)) zac)) (zap _))
   (zaf zff)
   zaw)))
   (zaf (zaj pe_bl))),?_⟩
  refine⟨_,rfl,a,_,rfl,.inl hq,_,_,rfl,⟨by decide,by decide,by lia,by lia⟩,?_⟩;refine zb1 (lo:=1) (n:=((ws.length:Int)-1).toNat) (λi σ H2=>∃o,σ=[some (.ref a),o]/\Same H H2) ⟨_,rfl,Same.refl _⟩ ?_ ?_
  .rintro i σ H2 hi ⟨o,rfl,s2⟩;have h1:i+1<ws.length:=by lia
   have v1:ws[i+1]?=some ws[i+1]:=Aa h1;have v0:ws[i]?=some ws[i]:=Aa (by lia)
   have c1:cs[i+1]?=some cs[i+1]:=Aa (by lia)
   have c0:cs[i]?=some cs[i]:=Aa (by lia)
   obtain⟨b1,e1,q1⟩:=hc (i+1) _ _ c1 v1;obtain⟨b0,e0,q0⟩:=hc i _ _ c0 v0;refine⟨_,rfl,_,rfl,a,_,_,_,rfl,rfl,s2.seq hq,(by rw[show (1:Int)+(i:Int)=((i+1:Nat):Int) by lia];exact zai v1),b1,_,_,[],(by rw[e1];rfl),SqT.of (s2 _ _ q1),λp1 H3 hp1 s3 f1=>?_⟩;refine⟨_,rfl,_,rfl,_,_,rfl,rfl,a,_,_,_,rfl,rfl,(s2.trans s3).seq hq,(by rw[show (1:Int)+(i:Int)-1=(i:Int) by lia];exact zai v0),b0,_,_,[],(by rw[e0];rfl),SqT.of ((s2.trans s3) _ _ q0),λp0 H4 hp0 s4 f0=>?_⟩;refine⟨p1,p0,[cs[i+1].2,cs[i+1].1],[cs[i].2,cs[i].1],rfl,rfl,SqT.of (s4 _ _ f1),SqT.of f0,_,rfl,iteN ?_ ?_⟩
   .rw[HT.lexLe_eq,ho i _ _ c0 c1];rfl
   .exact⟨_,rfl,(s2.trans s3).trans s4⟩
  .rintro σ H2 ⟨o,rfl,s2⟩;exact k H2 s2
noncomputable def kC(c:Cell):List Key:=[Dl c.1,Dl c.2]
theorem zi0{c d:Cell}:kC c=kC d ↔ c=d:=by
 constructor
 .intro h;unfold kC at h;injection h with h1 h2;injection h2 with h2 _;exact Prod.ext (Sum.inl.inj h1) (Sum.inl.inj h2)
 .rintro rfl;rfl
noncomputable def zgE(K:W.Frag):Sp:=λvs H Q _=>∃(a:Addr) (cs:List Cell),vs=[.ref a]/\LR K H a cs cR/\cs.length<=1000/\∀t H',H t=none->Same H H'->Tab H' t (isIn cs)->Q (.ref t) H'
theorem zfn (d:Df K mg "cell_table" zbM ["picture"]):FnOk P w K mg base CX0 1 d.f d.fd ["picture"] (zgE K):=by
 refine d.F.ok ze9 (λvs H Q E h=>?_) (λcdv A outer s H vs Q E hr h=>?_)
 .obtain⟨a,cs,rfl,_⟩:=h;rfl
 .obtain⟨a,cs,rfl,⟨ws,hq,hn,hc⟩,hlen,k⟩:=h;have hu1:=hu_of hr;have nb0:(["cell"]:List Str).Nodup:=by decide +kernel
  refine⟨_,(zaf (zaj (zjK hu1 (osc:=zae zbM) (N:=zdo) (N':=["cell"]) (sel:=[none]) bO (zaN (pv 0)) (λ_ _ _ _ _=>(nG 0 nb0)) (λ_ _ _ _ _=>zbS) (λ_ _ _ _ _=>(pv 0)) (λ_ _ _ _ _=>pe_bl)))),?_⟩;refine⟨_,rfl,a,rfl,⟨_,hq⟩,λp hp=>?_⟩
  refine zax (K:=K) (a:=a) (xs:=ws) (λi σ H2=>∃o,σ=[o]/\Same H H2/\∃kvs,H2 p=some (.dT kvs)/\kvs.length<=i/\∀c:Cell,(valV kvs (kC c)).isSome=decide (c∈cs.take i))
   ⟨_,rfl,Same.up hp,[],zaa,An _,λc=>by simp[valV]⟩ (λi σ H2 _ ⟨_,_,s2,_⟩=>s2.seq hq) ?_ ?_
  .rintro i v σ H2 hi ⟨o,rfl,s2,kvs,e2,hl,hv⟩;have hil:i<ws.length:=(Ae.mp hi).1;have ci:cs[i]?=some cs[i]:=Aa (by lia)
   obtain⟨b,rfl,q⟩:=hc i _ _ ci hi;refine gN ?_
   refine⟨_,rfl,_,.inr ⟨kvs,kC cs[i],b,e2,rfl,s2 _ _ q,zaF (by lia),rfl⟩,_,rfl,λz o e=>?_,_,zaa,?_,λc=>?_⟩
   .rw[zak (zal e hp)];exact s2 z o e
   .exact AS (zaV _ _ _) (by lia)
   .rw[zeY]
    by_cases e:c=cs[i]
    .rw[if_pos (zi0.mpr e),decide_eq_true ((zbu ci).mpr (.inr e))];rfl
    .rw[if_neg (λz=>e (zi0.mp z)),hv];exact decide_eq_decide.mpr ⟨λz=>(zbu ci).mpr (.inl z),λz=>((zbu ci).mp z).resolve_right e⟩
  .rintro σ H2 ⟨o,rfl,s2,kvs,e2,hl,hv⟩;refine k p H2 hp s2 ⟨kvs,e2,λc=>?_⟩;show (valV kvs (kC c)).isSome=isIn cs c;rw[hv,hn,Bb];rfl
noncomputable def zio(K:W.Frag):Sp:=λvs H Q _=>∃(t a:Addr) (C:Cell->Bool) (e:Edge),vs=[.ref t,.ref a]/\Tab H t C/\SqT K H a (edgeT e)/\e.w<4/\∀H',Same H H'->Q (sv (stepB C e)) H'
theorem zem (g_gone:Fn P w K mg base 1 "gone" ["x", "y", "step"] zfV) (g_slant_step:Fn P w K mg base 1 "slant_step" ["way"] zgF) (g_straight_step:Fn P w K mg base 1 "straight_step" ["way"] zcz)
  (d:Df K mg "step_behind" zb4 ["table","edge"]):FnOk P w K mg base CX0 2 d.f d.fd ["table","edge"] (zio K):=by
 refine d.F.ok za4 (λvs H Q E h=>?_) (λcdv A outer s H vs Q E hr h=>?_)
 .obtain⟨t,a,C,e,rfl,_⟩:=h;rfl
 .obtain⟨t,a,C,e,rfl,⟨kvs,ht,hC⟩,hq,hw,k⟩:=h;have hu1:=hu_of hr
  refine⟨_,(zab (zbG (pv 1) (zbl (by rfl) (zag (nG 2 za4.nd) (zag (nG 3 za4.nd) (zag (nG 4 za4.nd) zay)))))
   (zab (zbF Be rfl (zhm (zaK (zah (pC g_slant_step hr (pa_N (pv 4) zac)) (zah (pC g_straight_step hr (pa_N (pv 4) zac)) zac)))) (nG 5 za4.nd)
   (zaf (ps_if (ziC (zlC hu1 (pC g_gone hr (pa_N (pv 2) (pa_N (pv 3) (pa_N (pv 5) zac)))) (pv 0)))
   (zaf (zaj (pv 5)))
   zaw)))
   (zaf (zaj zcr)))),?_⟩
  refine⟨_,rfl,a,_,rfl,hq,rfl,_,_,rfl,_,_,rfl,_,_,rfl,rfl,?_⟩;refine⟨_,rfl,e.w,rfl,hw,_,rfl,e.w,rfl,hw,two,λp hp=>⟨p,rfl,⟨_,SqT.of zaa⟩,?_⟩⟩
  refine zfB (K:=K) (a:=p) (xs:=[.int ((2*e.w+7) % 8:Nat),.int (2*e.w:Nat)]) (λi σ H2=>∃o,σ=[some (.ref t),some (.ref a),some (.int e.c.1),some (.int e.c.2),some (.int e.w),o]/\Same (upd H p (.tup [.int ((2*e.w+7) % 8:Nat),.int (2*e.w:Nat)])) H2/\(1<=i->C (go e.c ((2*e.w+7) % 8))=false)/\(2<=i->C (go e.c (2*e.w))=false))
   ⟨_,rfl,Same.refl _,λh=>absurd h (by decide),λh=>absurd h (by decide)⟩ (λi σ H2 _ ⟨_,_,s2,_⟩=>s2.seqT (SqT.of zaa)) ?_ ?_
  .rintro i v σ H2 hi ⟨o,rfl,s2,n1,n2⟩;have sH:Same H H2:=(Same.up hp).trans s2
   match i,hi with
   | 0,hi =>
    cases hi
    refine⟨_,rfl,_,rfl,_,rfl,e.c,(2*e.w+7) % 8,rfl,by lia,λp1 H3 hp1 s3 f1=>?_⟩;refine⟨_,rfl,t,_,rfl,.inr ⟨kvs,kC (go e.c ((2*e.w+7) % 8)),p1,Rd.of ((sH.trans s3) _ _ ht),rfl,f1,rfl⟩,_,rfl,?_⟩;have hv:=hC (go e.c ((2*e.w+7) % 8));change (valV kvs (kC (go e.c ((2*e.w+7) % 8)))).isSome=_ at hv;rw[hv];refine ite2 (λhy=>?_) (λhn=>?_)
    .refine⟨_,rfl,?_⟩;have:=k H3 (sH.trans s3);unfold stepB at this;rw[if_pos hy]at this;exact this
    .exact⟨_,rfl,s2.trans s3,λ_=>by simpa using hn,λh=>absurd h (by decide)⟩
   | 1,hi =>
    cases hi
    refine⟨_,rfl,_,rfl,_,rfl,e.c,2*e.w,rfl,by lia,λp1 H3 hp1 s3 f1=>?_⟩;refine⟨_,rfl,t,_,rfl,.inr ⟨kvs,kC (go e.c (2*e.w)),p1,Rd.of ((sH.trans s3) _ _ ht),rfl,f1,rfl⟩,_,rfl,?_⟩;have hv:=hC (go e.c (2*e.w));change (valV kvs (kC (go e.c (2*e.w)))).isSome=_ at hv;rw[hv];have h1:=n1 (by decide);refine ite2 (λhy=>?_) (λhn=>?_)
    .refine⟨_,rfl,?_⟩;have:=k H3 (sH.trans s3);unfold stepB at this;rw[h1,if_neg (by decide),if_pos hy]at this;exact this
    .exact⟨_,rfl,s2.trans s3,λ_=>h1,λ_=>by simpa using hn⟩
   |i+2,hi=>simp at hi
  .rintro σ H2 ⟨o,rfl,s2,n1,n2⟩;have:=k H2 ((Same.up hp).trans s2);unfold stepB at this;rw[n1 (by simp),n2 (by simp),if_neg (by decide),if_neg (by decide)]at this;exact this
noncomputable def zdH(K:W.Frag):Sp:=λvs H Q _=>∃(a:Addr) (e:Edge) (o:Option Nat),vs=[.ref a,sv o]/\SqT K H a (edgeT e)/\e.w<4/\(∀s,o=some s->s<8)/\∀(p:Addr) (H':Hp),H p=none->Same H H'->H' p=some (.tup (edgeT (edgeB e o)))->Q (.ref p) H'
theorem zes (g_gone:Fn P w K mg base 1 "gone" ["x", "y", "step"] zfV) (g_is_slant:Fn P w K mg base 1 "is_slant" ["step"] zcS)
  (d:Df K mg "edge_behind" zb7 ["edge","step"]):FnOk P w K mg base CX0 2 d.f d.fd ["edge","step"] (zdH K):=by
 refine d.F.ok zaQ (λvs H Q E h=>?_) (λcdv A outer s H vs Q E hr h=>?_)
 .obtain⟨a,e,o,rfl,_⟩:=h;rfl
 .obtain⟨a,e,o,rfl,hq,hw,ho,k⟩:=h
  refine⟨_,(zab (zbG (pv 0) (zbl (by rfl) (zag (nG 2 zaQ.nd) (zag (nG 3 zaQ.nd) (zag (nG 4 zaQ.nd) zay)))))
   (zab (ps_if (zau ziM (pv 1) zcr (zap _))
   (zaf (zaj (zaK (pa_N (pv 2) (pa_N (pv 3) (pa_B (pe_op za6 (pe_op zaH (pv 4) zad) zad) zac))))))
   zaw)
   (zab (zbG (pC g_gone hr (pa_N (pv 2) (pa_N (pv 3) (pa_N (pv 1) zac)))) (zbl (by rfl) (zag (nG 5 zaQ.nd) (zag (nG 6 zaQ.nd) zay))))
   (zab (ps_if (zcF (pC g_is_slant hr (pa_N (pv 1) zac)))
   (zaf (zaj (zaK (pa_N (pv 5) (pa_N (pv 6) (pa_B (pe_op za6 (pe_op zaH (pv 4) zad) zad) zac))))))
   zaw)
   (zaf (zaj (zaK (pa_N (pv 5) (pa_N (pv 6) (pa_N (pv 4) zac)))))))))),?_⟩
  refine⟨_,rfl,a,_,rfl,hq,rfl,_,_,rfl,_,_,rfl,_,_,rfl,rfl,?_⟩
  cases o with
  |none =>
   refine⟨_,rfl,rfl,true,rfl,iteT ?_⟩;refine⟨_,rfl,_,rfl,_,rfl,_,_,rfl,rfl,_,_,rfl,rfl,(by show (0:Int)<4;decide),three,λp hp=>k p _ hp (Same.up hp) ?_⟩;rw[zaa];have e1:((e.w:Int)+1) % 4=(((e.w+1) % 4:Nat):Int):=by lia
   show some (HO.tup [.int e.c.1,.int e.c.2,.int (((e.w:Int)+1) % 4)])=_;rw[e1];rfl
  |some n =>
   refine⟨_,rfl,rfl,false,rfl,iteF ?_⟩;refine⟨_,rfl,_,rfl,_,rfl,e.c,n,rfl,ho n rfl,λp1 H1 hp1 s1 f1=>?_⟩;refine⟨p1,_,rfl,SqT.of f1,rfl,_,_,rfl,_,_,rfl,rfl,?_⟩;refine⟨_,rfl,some n,rfl,_,rfl,?_⟩;refine ite2 (λhs=>?_) (λhs=>?_)
   .refine⟨_,rfl,_,rfl,_,rfl,_,_,rfl,rfl,_,_,rfl,rfl,(by show (0:Int)<4;decide),three,λp hp=>k p _ (s1.free hp) (s1.trans (Same.up hp)) ?_⟩;rw[zaa];have e1:((e.w:Int)+3) % 4=(((e.w+3) % 4:Nat):Int):=by lia
    have hn:n % 2=1:=by simpa[slant]using hs
    show some (HO.tup [.int (go e.c n).1,.int (go e.c n).2,.int (((e.w:Int)+3) % 4)])=_;rw[e1];unfold edgeB;simp only[if_pos hn];rfl
   .refine⟨_,rfl,_,rfl,_,rfl,three,λp hp=>k p _ (s1.free hp) (s1.trans (Same.up hp)) ?_⟩;rw[zaa];have hn:¬ n % 2=1:=by simpa[slant]using hs
    unfold edgeB;simp only[if_neg hn];rfl
noncomputable def KT(H H':Hp):Prop:=∀b xs,H b=some (.tup xs)->H' b=some (.tup xs)
theorem KT.refl(H:Hp):KT H H:=λ_ _ h=>h
theorem KT.trans{H H1 H2:Hp}(a:KT H H1)(b:KT H1 H2):KT H H2:=λc o h=>b c o (a c o h)
theorem KT.of{H H':Hp}(s:Same H H'):KT H H':=λb xs e=>s b _ e
theorem KT.up{H:Hp}{p:Addr}{o:HO}(h:H p=none):KT H (upd H p o):=KT.of (Same.up h)
theorem KT.lst{H:Hp}{p:Addr}{xs:List V}{o:HO}(h:H p=some (.lst xs)):KT H (upd H p o):=λb ys e=>by rw[zak (ne_of e h (λz=>nomatch z))];exact e
theorem cR.kt{c:Cell}{v:V}{H H':Hp}(h:cR c v H)(s:KT H H'):cR c v H':=let ⟨b,e,q⟩:=h;⟨b,e,s _ _ q⟩
theorem eR.kt{c:Edge}{v:V}{H H':Hp}(h:eR c v H)(s:KT H H'):eR c v H':=let ⟨b,e,q⟩:=h;⟨b,e,s _ _ q⟩
theorem wR.kt{c:Edge×Option Nat}{v:V}{H H':Hp}(h:wR c v H)(s:KT H H'):wR c v H':=let ⟨A,b,e,q,r⟩:=h;⟨A,b,e,s _ _ q,s _ _ r⟩
noncomputable def VR{α:Type}(vs:List V)(l:List α)(R:α->V->Hp->Prop)(H:Hp):Prop:=vs.length=l.length/\∀(i:Nat) x v,l[i]?=some x->vs[i]?=some v->R x v H
theorem VR.nil{α:Type}{R:α->V->Hp->Prop}{H:Hp}:VR [] ([]:List α) R H:=⟨rfl,λi x v h=>by simp at h⟩
theorem VR.snoc{α:Type}{vs:List V}{l:List α}{R:α->V->Hp->Prop}{H H':Hp}{x:α}{v:V}(h:VR vs l R H)(m:∀x v,R x v H->R x v H')(hx:R x v H'):VR (vs++[v]) (l++[x]) R H':=by
 refine⟨by simp[h.1],λi y u h1 h2=>?_⟩;rcases AY i l.length with hi |hi
 .rw[Ay hi]at h1;rw[Ay (by rw[h.1];exact hi)]at h2;exact m _ _ (h.2 i y u h1 h2)
 .rw[AK hi]at h1;rw[AK (by rw[h.1];exact hi)]at h2
  have hz:i-l.length=0:=by have:=(Ae.mp h1).1;simp at this;lia
  rw[hz]at h1;rw[h.1,hz]at h2
  cases h1;cases h2
  exact hx
theorem VR.mono{α:Type}{vs:List V}{l:List α}{R:α->V->Hp->Prop}{H H':Hp}(h:VR vs l R H)(m:∀x v,R x v H->R x v H'):VR vs l R H':=⟨h.1,λi x v h1 h2=>m _ _ (h.2 i x v h1 h2)⟩
theorem VR.at{α:Type}{vs:List V}{l:List α}{R:α->V->Hp->Prop}{H:Hp}(h:VR vs l R H){i:Nat}{v:V}(hv:vs[i]?=some v):∃x,l[i]?=some x/\R x v H:=by
 have hi:i<l.length:=by rw[<- h.1];exact (Ae.mp hv).1
 exact⟨l[i],Aa hi,h.2 i _ v (Aa hi) hv⟩
theorem zar{H H2:Hp}{p:Addr}{o:HO}(hp:H p=none)(s:Same H H2):Same H (upd H2 p o):=λz u e=>by rw[zak (zal e hp)];exact s z u e
theorem zhU(cs:List Cell)(c:Cell):sides (cs++[c])=sides cs++(A0 4).map λw=>⟨c,w⟩:=by unfold sides;simp[List.flatMap_append]
theorem zaL{α:Type}{l:List α}{i:Nat}{x:α}(h:l[i]?=some x):l.take (i+1)=l.take i++[x]:=by rw[Dk,h];rfl
theorem zd8{α:Type}(p:α->Bool)(l:List α)(x:α):(l++[x]).filter p=l.filter p++(if p x=true then [x] else []):=by rw[C3];congr 1;simp[List.filter_cons]
noncomputable def zkj(K:W.Frag):Sp:=λvs H Q _=>∃(a:Addr) (cs:List Cell),vs=[.ref a]/\LR K H a cs cR/\cs.length<=120/\∀p H' es,H p=none->Same H H'->H' p=some (.lst es)->VR es (allE cs) eR H'->Q (.ref p) H'
theorem zgc (T:Txt P w K mg) (g_cell_table:Fn P w K mg base 1 "cell_table" ["picture"] (zgE K)) (g_gap_beside:Fn P w K mg base 2 "gap_beside" ["edge"] (spGap K))
  (d:Df K mg "all_edges" zbD ["picture"]):FnOk P w K mg base CX0 3 d.f d.fd ["picture"] (zkj K):=by
 refine d.F.ok zcg (λvs H Q E h=>?_) (λcdv A outer s H vs Q E hr h=>?_)
 .obtain⟨a,cs,rfl,_⟩:=h;rfl
 .obtain⟨a,cs,rfl,hLR,hlen,k⟩:=h;obtain⟨ws,hq,hn,hc⟩:=id hLR;have hu1:=hu_of hr;have nb0:(["x","y","way"]:List Str).Nodup:=by decide +kernel
  have nb1:(["edge","table"]:List Str).Nodup:=by decide +kernel
  refine⟨_,(zab (ziD (i:=1) zcg.nd (by rfl) (Or.inr rfl) (pC g_cell_table hr (pa_N (pv 0) zac)))
   (zab (ziE (i:=2) (osc:=zae zbD) (N:=zcQ) (N':=["x","y","way"]) (sel:=[none,none,none]) bO zcg.nd (by rfl) (Or.inl rfl) (zaN (pv 0)) (λ_ _ _ _ _=>(zda (K:=K) (n:=2) (by rfl) (zag (nG 0 nb0) (zag (nG 1 nb0) zay)))) (λ_ _ _ _ _=>zbS) (λ_ _ _ _ _=>(zcq (by rfl) T.nrange (pa_C zad zac))) (λ_ _ _ _ _=>(nG 2 nb0)) (λ_ _ _ _ _=>zbS) (λ_ _ _ _ _=>(zaK (pa_N (pv 0) (pa_N (pv 1) (pa_N (pv 2) zac))))) (λ_ _ _=>rfl))
   (zaf (zaj (zbm (osc:=zae zbD) (N:=zcQ) (N':=["edge","table"]) (sel:=[none,some 1]) bO (zaN (pv 2)) (λ_ _ _ _ _=>(nG 0 nb1)) (λ_ _ _ _ _=>zdU (ziC (zf4 hu1 (pC g_gap_beside hr (pa_N (pv 0) zac)) (pv 1)))) (λ_ _ _ _ _=>(pv 0))))))),?_⟩
  refine⟨_,rfl,a,cs,rfl,hLR,by lia,λt H1 ht s1 tab=>?_⟩;obtain⟨kvs,et,hC⟩:=tab;refine⟨_,rfl,a,rfl,⟨_,s1.seq hq⟩,λp hp=>?_⟩
  refine zax (K:=K) (a:=a) (xs:=ws) (λi σ H2=>∃o1 o2 o3,σ=[o1,o2,o3]/\Same H1 H2/\∃es,H2 p=some (.lst es)/\VR es (sides (cs.take i)) eR H2)
   ⟨_,_,_,rfl,Same.up hp,[],zaa,VR.nil⟩ (λi σ H2 _ ⟨_,_,_,_,s2,_⟩=>(s1.trans s2).seq hq) ?_ ?_
  .rintro i v σ H2 hi ⟨o1,o2,o3,rfl,s2,es,e2,hv⟩;have hil:i<ws.length:=(Ae.mp hi).1;have ci:cs[i]?=some cs[i]:=Aa (by lia)
   obtain⟨b,rfl,qb⟩:=hc i _ _ ci hi;refine⟨b,_,rfl,SqT.of ((s1.trans s2) _ _ qb),rfl,_,_,rfl,_,_,rfl,rfl,?_⟩;refine ze2 ?_
   refine⟨4,rfl,by decide,by decide,?_⟩
   refine zb1 (lo:=0) (n:=4) (λj σ H3=>∃o,σ=[some (.int cs[i].1),some (.int cs[i].2),o]/\Same H1 H3/\∃es,H3 p=some (.lst es)/\VR es (sides (cs.take i)++(A0 j).map λw=>⟨cs[i],w⟩) eR H3)
    ⟨_,rfl,s2,es,e2,by simpa using hv⟩ ?_ ?_
   .rintro j σ H3 hj ⟨o,rfl,s3,es3,e3,hv3⟩
    have hl3:es3.length<=1000:=by rw[hv3.1,Ai,zbs,AL,Am,CF];lia
    refine gN ?_
    refine⟨_,rfl,_,rfl,_,rfl,three,λq hq'=>⟨es3,?_,zaF hl3,_,rfl,zar hp (s3.trans (Same.up hq')),_,zaa,?_⟩⟩
    .rw[zak (zal e3 hq')];exact e3
    .rw[List.range_succ,AE,<- At];have hpq:p≠q:=zal e3 hq';have k2:KT (upd H3 q (.tup [.int cs[i].1,.int cs[i].2,.int (0+(j:Int))])) (upd (upd H3 q (.tup [.int cs[i].1,.int cs[i].2,.int (0+(j:Int))])) p (.lst (es3++[.ref q]))):=KT.lst (xs:=es3) (by rw[zak hpq];exact e3);refine hv3.snoc (λx v hx=>hx.kt ((KT.up hq').trans k2)) ⟨q,rfl,k2 _ _ ?_⟩;rw[zaa];show some (HO.tup [.int cs[i].1,.int cs[i].2,.int (0+(j:Int))])=some (HO.tup [.int cs[i].1,.int cs[i].2,.int (j:Int)]);rw[Int.zero_add]
   .rintro σ H3 ⟨o,rfl,s3,es3,e3,hv3⟩;exact⟨_,_,_,rfl,s3,es3,e3,by rw[zaL ci,zhU];exact hv3⟩
  .rintro σ H2 ⟨o1,o2,o3,rfl,s2,es,e2,hv⟩;rw[hn,Bb]at hv;have hles:es.length<=1000:=by rw[hv.1,zbs];lia
   refine⟨_,rfl,p,rfl,⟨_,SqL.of e2⟩,λp2 hp2=>?_⟩
   refine zax (K:=K) (a:=p) (xs:=es) (λi σ H3=>∃o,σ=[o,some (.ref t)]/\Same H2 H3/\∃es3,H3 p2=some (.lst es3)/\VR es3 (((sides cs).take i).filter λe=>!isIn cs (gap e)) eR H3)
    ⟨_,rfl,Same.up hp2,[],zaa,VR.nil⟩ (λi σ H3 _ ⟨_,_,s3,_⟩=>s3.seq (SqL.of e2)) ?_ ?_
   .rintro i v σ H3 hi ⟨o,rfl,s3,es3,e3,hv3⟩;obtain⟨e,he,b,rfl,qb⟩:=hv.at hi;have hw4:e.w<4:=(zcW.mp (Ag he)).2
    have hl3:es3.length<=1000:=by have h1:=Dd (λe=>!isIn cs (gap e)) ((sides cs).take i);rw[hv3.1];rw[AL,zbs]at h1;lia
    refine⟨_,rfl,b,e,rfl,SqT.of (s3 _ _ qb),hw4,λp3 H4 hp3 s4 f4=>?_⟩;refine⟨_,rfl,t,_,rfl,.inr ⟨kvs,kC (gap e),p3,Rd.of ((s2.trans (s3.trans s4)) _ _ et),rfl,f4,rfl⟩,_,rfl,?_⟩;have hcv:=hC (gap e);change (valV kvs (kC (gap e))).isSome=_ at hcv;rw[hcv,zaL he,zd8];refine ite2 (λhy=>?_) (λhn'=>?_)
    .refine⟨_,rfl,es3,s4 _ _ e3,zaF hl3,_,rfl,zar hp2 (s3.trans s4),_,zaa,?_⟩;rw[if_pos hy];have k2:KT H4 (upd H4 p2 (.lst (es3++[.ref b]))):=KT.lst (s4 _ _ e3);exact hv3.snoc (λx v hx=>hx.kt ((KT.of s4).trans k2)) ⟨b,rfl,k2 _ _ ((s3.trans s4) _ _ qb)⟩
    .refine⟨_,rfl,s3.trans s4,es3,s4 _ _ e3,?_⟩;rw[if_neg hn',AX];exact hv3.mono λx v hx=>hx.kt (KT.of s4)
   .rintro σ H3 ⟨o,rfl,s3,es3,e3,hv3⟩;rw[hv.1,Bb]at hv3;exact k p2 H3 es3 (s1.free (s2.free hp2)) (s1.trans (s2.trans s3)) e3 hv3
noncomputable def eI(e:Edge):List Int:=[e.c.1,e.c.2,(e.w:Int)]
theorem zhH{e f:Edge}:eI e=eI f ↔ e=f:=by
 constructor
 .intro h;obtain⟨⟨x,y⟩,w⟩:=e;obtain⟨⟨x',y'⟩,w'⟩:=f;unfold eI at h;injection h with h1 h2;injection h2 with h2 h3;injection h3 with h3 _;simp only at h1 h2 h3;have:w=w':=by lia
  subst h1 h2 this;rfl
 .rintro rfl;rfl
theorem zcp{K:W.Frag}{H:Hp}{b:Addr}{e:Edge}(h:H b=some (.tup (edgeT e))):RD K H (.ref b) (tI (eI e)):=.tup (SqT.of h) (RDs.ints (eI e))
theorem zcy{C:Cell->Bool}{e:Edge}(hw:e.w<4):∀s,stepB C e=some s->s<8:=by
 intro s h;unfold stepB at h;split at h
 .cases h;lia
 .split at h
  .cases h;lia
  .cases h
noncomputable def wk(C:Cell->Bool)(es:List Edge):List (Edge×Option Nat):=es.map λe=>(e,stepB C e)
theorem zky(C:Cell->Bool)(es:List Edge)(e:Edge):wk C (es++[e])=wk C es++[(e,stepB C e)]:=by unfold wk;simp
theorem zbe(C:Cell->Bool)(es:List Edge):(wk C es).length=es.length:=by unfold wk;simp
noncomputable def ziU:Option HO->Nat
 |some (.lst ws)=>ws.length
 |_=>0
noncomputable def zke(K:W.Frag):Sp:=λvs H Q _=>∃(t a:Addr) (cs:List Cell) (b:Edge),vs=[.ref t,.ref a]/\Tab H t (isIn cs)/\H a=some (.tup (edgeT b))/\IsE (isIn cs) b/\cs.length<=120 /\
 ∀p H' ws es,H p=none->Same H H'->H' p=some (.lst ws)->VR ws (wk (isIn cs) es) wR H'->Closed (isIn cs) b es->Q (.ref p) H'
theorem zf9 (g_step_behind:Fn P w K mg base 2 "step_behind" ["table", "edge"] (zio K)) (g_edge_behind:Fn P w K mg base 2 "edge_behind" ["edge", "step"] (zdH K))
  (d:Df K mg "walk_from" zcI ["table","begin"]):FnOk P w K mg base CX0 3 d.f d.fd ["table","begin"] (zke K):=by
 refine d.F.ok zbd (λvs H Q E h=>?_) (λcdv A outer s H vs Q E hr h=>?_)
 .obtain⟨t,a,cs,b,rfl,_⟩:=h;rfl
 .obtain⟨t,a,cs,b,rfl,tab,ha,hb,hlen,k⟩:=h;have hu64:=hr.units
  refine⟨_,(zab (sE 2 zbd.nd (pC g_step_behind hr (pa_N (pv 0) (pa_N (pv 1) zac))))
   (zab (sE 3 zbd.nd (zaU (pa_T (zaK (pa_N (pv 1) (pa_N (pv 2) zac))) zac)))
   (zab (sE 4 zbd.nd (pC g_edge_behind hr (pa_N (pv 1) (pa_N (pv 2) zac))))
   (zab (zhl Be (zau (zf8 hu64) (pv 4) (pv 1) (zap _))
   (zab (sE 2 zbd.nd (pC g_step_behind hr (pa_N (pv 0) (pa_N (pv 4) zac))))
   (zab (zbv (pe_bm A3 Bi Bj za8 (pv 3) (pa_T (zaK (pa_N (pv 4) (pa_N (pv 2) zac))) zac)))
   (zaf (sE 4 zbd.nd (pC g_edge_behind hr (pa_N (pv 4) (pa_N (pv 2) zac))))))))
   (zaf (zaj (pv 3))))))),?_⟩
  refine⟨_,rfl,_,rfl,t,a,isIn cs,b,rfl,tab,SqT.of ha,hb.1,λH1 s1=>?_⟩;refine⟨_,rfl,_,rfl,two,λq hq=>⟨(by show 1<=sizeLine;decide),λp hp=>?_⟩⟩;have hpq:p≠q:=λz=>by subst z;rw[zaa]at hp;cases hp
  have hp1:H1 p=none:=by rw[zak hpq]at hp;exact hp
  have s2:Same H1 (upd (upd H1 q (.tup [.ref a,sv (stepB (isIn cs) b)])) p (.lst [.ref q])):=zar hp1 (Same.up hq);refine⟨_,rfl,_,rfl,a,b,stepB (isIn cs) b,rfl,SqT.of (s2 _ _ (s1 _ _ ha)),hb.1,zcy hb.1,λr H3 hr3 s3 f3=>?_⟩;have s03:Same H H3:=s1.trans (s2.trans s3);have hp0:H p=none:=s1.free hp1
  refine zg5 (λσ H4=>∃ws es l o re,σ=[some (.ref t),some (.ref a),some o,some (.ref p),some (.ref re)]/\Same H H4/\H4 p=some (.lst ws)/\VR ws (wk (isIn cs) (es++[l])) wR H4/\Chain (isIn cs) b (es++[l])/\H4 re=some (.tup (edgeT (nxt (isIn cs) l))))
   (λ_ H4=>4*cs.length+1-ziU (H4 p)) ?_ ?_ ?_
  .refine⟨[.ref q],[],b,_,r,rfl,s03,s3 _ _ zaa,⟨rfl,λi x v h1 h2=>?_⟩,Chain.start hb,f3⟩
   match i,h1,h2 with
   | 0,h1,h2 =>
    cases h1;cases h2
    refine⟨q,a,rfl,s3 _ _ ?_,s03 _ _ ha⟩;rw[zak (Cb hpq),zaa]
   |i+1,h1,h2=>simp at h2
  .rintro σ H4 ⟨ws,es,l,o,re,rfl,s4,e4,hv,hch,er⟩;have hw4:(nxt (isIn cs) l).w<4:=(zeP (hch.2.2.1 l (by simp))).1;refine⟨_,rfl,_,rfl,_,_,zcp er,zcp (s4 _ _ ha),zav _,zav _,_,rfl,?_⟩;rw[zcu]
   by_cases hne:nxt (isIn cs) l=b
   .rw[decide_eq_true (zhH.mpr hne)];refine iteF ?_
    refine⟨_,rfl,k p H4 ws (es++[l]) hp0 s4 e4 hv ⟨hch,l,?_,hne⟩⟩;simp
   .rw[decide_eq_false (λz=>hne (zhH.mp z))];refine iteT ?_
    have hch2:=hch.more hne;have hsh:=hch2.short;have hl4:ws.length=(es++[l]).length:=by rw[hv.1,zbe]
    have hl5:ws.length+1<=4*cs.length:=by rw[hl4];rw[Ai,Ct]at hsh;exact hsh
    refine⟨_,rfl,_,rfl,t,re,isIn cs,nxt (isIn cs) l,rfl,tab.same s4,SqT.of er,hw4,λH5 s5=>?_⟩;refine⟨_,rfl,.inl ⟨rfl,_,SqL.of (s5 _ _ e4)⟩,_,rfl,_,rfl,two,λq5 hq5=>?_⟩;have e5:=s5 _ _ e4;have hp5:p≠q5:=zal e5 hq5;refine⟨p,ws,_,rfl,rfl,(by rw[zak hp5];exact e5),zaF (by lia),?_⟩;have k5:KT H5 (upd (upd H5 q5 (.tup [.ref re,sv (stepB (isIn cs) (nxt (isIn cs) l))])) p (.lst (ws++[.ref q5]))):=(KT.up hq5).trans (KT.lst (xs:=ws) (by rw[zak hp5];exact e5));have e6:upd (upd H5 q5 (.tup [.ref re,sv (stepB (isIn cs) (nxt (isIn cs) l))])) p (.lst (ws++[.ref q5])) re=some (.tup (edgeT (nxt (isIn cs) l))):=k5 _ _ (s5 _ _ er);have s6:Same H (upd (upd H5 q5 (.tup [.ref re,sv (stepB (isIn cs) (nxt (isIn cs) l))])) p (.lst (ws++[.ref q5]))):=zar hp0 ((s4.trans s5).trans (Same.up hq5));refine⟨_,rfl,_,rfl,re,nxt (isIn cs) l,_,rfl,SqT.of e6,hw4,zcy hw4,λr7 H7 hr7 s7 f7=>?_⟩;have e7:=s7 _ _ zaa;refine⟨⟨ws++[.ref q5],es++[l],nxt (isIn cs) l,_,r7,rfl,s6.trans s7,e7,?_,hch2,f7⟩,?_⟩
    .rw[zky];refine hv.snoc (λx v hx=>hx.kt ((KT.of s5).trans (k5.trans (KT.of s7)))) ⟨q5,re,rfl,s7 _ _ ?_,s7 _ _ e6⟩;rw[zak (Cb hp5),zaa]
    .show 4*cs.length+1-ziU (H7 p)<4*cs.length+1-ziU (H4 p);rw[e7,e4];show 4*cs.length+1-(ws++[V.ref q5]).length<4*cs.length+1-ws.length;rw[Ai,Ct];lia
  .rintro σ H4 Q1 Q2 hQ ⟨v,h1,v2,h2,dd,ee,r1,r2,x1,x2,kk,h3,q⟩;exact⟨v,h1,v2,h2,dd,ee,r1,r2,x1,x2,kk,h3,hQ _ _ q⟩
theorem zbh{n:Nat}(h:n<=4000):n<PySem.sizeLine:=CZ h (by decide)
noncomputable abbrev Wk:=List (Edge×Option Nat)
noncomputable def nL(W:Wk):Nat:=(W.filter λq=>q.2.isNone).length
noncomputable def nS(W:Wk):Nat:=(W.filter λq=>slant q.2).length
theorem zkd(o:Option Nat):decide (sv o=V.non)=o.isNone:=by cases o <;> simp[sv]
theorem zcN{α:Type}{p:α->Bool}{l:List α}{i:Nat}{x:α}(h:l[i]?=some x):((l.take (i+1)).filter p)=(l.take i).filter p++(if p x=true then [x] else []):=by rw[zaL h,zd8]
theorem LR.vr{α:Type}{K:W.Frag}{H:Hp}{a:Addr}{l:List α}{R:α->V->Hp->Prop}(h:LR K H a l R):∃vs,SqL K H a vs/\VR vs l R H:=let ⟨vs,q,n,r⟩:=h;⟨vs,q,n,r⟩
theorem LR.of{α:Type}{K:W.Frag}{H:Hp}{a:Addr}{vs:List V}{l:List α}{R:α->V->Hp->Prop}(e:H a=some (.lst vs))(h:VR vs l R H):LR K H a l R:=⟨vs,SqL.of e,h.1,h.2⟩
noncomputable def zis(K:W.Frag):Sp:=λvs H Q _=>∃(a:Addr) (W:Wk),vs=[.ref a]/\LR K H a W wR/\W.length<=2000/\∀p H',H p=none->Same H H'->H' p=some (.tup [.int (nL W),.int (nS W)])->Q (.ref p) H'
theorem zcM (T:Txt P w K mg) (g_is_slant:Fn P w K mg base 1 "is_slant" ["step"] zcS) (d:Df K mg "lefts_and_slants" zaG ["walk"]):FnOk P w K mg base CX0 2 d.f d.fd ["walk"] (zis K):=by
 refine d.F.ok za9 (λvs H Q E h=>?_) (λcdv A outer s H vs Q E hr h=>?_)
 .obtain⟨a,W,rfl,_⟩:=h;rfl
 .obtain⟨a,W,rfl,hLR,hlen,k⟩:=h;obtain⟨ws,hq,hv⟩:=hLR.vr;have nb0:(["edge","step"]:List Str).Nodup:=by decide +kernel
  have nb1:(["edge","step"]:List Str).Nodup:=by decide +kernel
  refine⟨_,(zab (sE 1 za9.nd (zaq zaJ (by rfl) T.nlen (by rfl) (zah (zbm (osc:=zae zaG) (N:=zbo) (N':=["edge","step"]) (sel:=[none,none]) bO (zaN (pv 0)) (λ_ _ _ _ _=>(zda (K:=K) (n:=2) (by rfl) (zag (nG 0 nb0) (zag (nG 1 nb0) zay)))) (λ_ _ _ _ _=>zdU (zau ziM (pv 1) zcr (zap _))) (λ_ _ _ _ _=>(pv 1))) zac)))
   (zab (sE 2 za9.nd (zaq zaJ (by rfl) T.nlen (by rfl) (zah (zbm (osc:=zae zaG) (N:=zbo) (N':=["edge","step"]) (sel:=[none,none]) bO (zaN (pv 0)) (λ_ _ _ _ _=>(zda (K:=K) (n:=2) (by rfl) (zag (nG 0 nb1) (zag (nG 1 nb1) zay)))) (λ_ _ _ _ _=>zdU (zcF (pC g_is_slant hr (pa_N (pv 1) zac)))) (λ_ _ _ _ _=>(pv 1))) zac)))
   (zaf (zaj (zaK (pa_N (pv 1) (pa_N (pv 2) zac))))))),?_⟩
  refine⟨_,rfl,a,rfl,⟨_,hq⟩,λp hp=>?_⟩
  refine zax (K:=K) (a:=a) (xs:=ws) (λi σ H2=>∃o1 o2,σ=[o1,o2]/\Same H H2/\∃ss:List V,H2 p=some (.lst ss)/\ss.length=((W.take i).filter λq=>q.2.isNone).length)
   ⟨_,_,rfl,Same.up hp,[],zaa,rfl⟩ (λi σ H2 _ ⟨_,_,_,s2,_⟩=>s2.seq hq) ?_ ?_
  .rintro i v σ H2 hi ⟨o1,o2,rfl,s2,ss,e2,hl⟩;obtain⟨⟨e,st⟩,he,B,b,rfl,q1,q2⟩:=hv.at hi
   have hl2:ss.length<=2000:=by have:=Dd (λq:Edge×Option Nat=>q.2.isNone) (W.take i);rw[AL]at this;lia
   refine⟨B,_,rfl,SqT.of (s2 _ _ q1),rfl,_,_,rfl,_,_,rfl,rfl,?_⟩;refine⟨_,rfl,rfl,_,rfl,?_⟩;rw[zkd];rw[zcN he]at *;refine ite2 (λhy=>?_) (λhn=>?_)
   .refine⟨_,rfl,ss,e2,zbh (AS hl2 (by decide)),_,_,rfl,zar hp s2,_,zaa,?_⟩;rw[if_pos hy,Ai,Ai,hl];rfl
   .exact⟨_,_,rfl,s2,ss,e2,by rw[if_neg hn,AX];exact hl⟩
  .rintro σ H2 ⟨o1,o2,rfl,s2,ss,e2,hl⟩;refine⟨p,_,rfl,.inl (SqL.of e2),?_⟩;refine⟨_,rfl,a,rfl,⟨_,s2.seq hq⟩,λp2 hp2=>?_⟩
   refine zax (K:=K) (a:=a) (xs:=ws) (λi σ H3=>∃o1 o2,σ=[o1,o2]/\Same H2 H3/\∃s3:List V,H3 p2=some (.lst s3)/\s3.length=((W.take i).filter λq=>slant q.2).length)
    ⟨_,_,rfl,Same.up hp2,[],zaa,rfl⟩ (λi σ H3 _ ⟨_,_,_,s3,_⟩=>(s2.trans s3).seq hq) ?_ ?_
   .rintro i v σ H3 hi ⟨o1,o2,rfl,s3,ss3,e3,hl3⟩;obtain⟨⟨e,st⟩,he,B,b,rfl,q1,q2⟩:=hv.at hi
    have hl2:ss3.length<=2000:=by have:=Dd (λq:Edge×Option Nat=>slant q.2) (W.take i);rw[AL]at this;lia
    refine⟨B,_,rfl,SqT.of ((s2.trans s3) _ _ q1),rfl,_,_,rfl,_,_,rfl,rfl,?_⟩;refine⟨_,rfl,st,rfl,_,rfl,?_⟩;rw[zcN he]at *;refine ite2 (λhy=>?_) (λhn=>?_)
    .refine⟨_,rfl,ss3,e3,zbh (AS hl2 (by decide)),_,_,rfl,zar hp2 s3,_,zaa,?_⟩;rw[if_pos hy,Ai,Ai,hl3];rfl
    .exact⟨_,_,rfl,s3,ss3,e3,by rw[if_neg hn,AX];exact hl3⟩
   .rintro σ H3 ⟨o1,o2,rfl,s3,ss3,e3,hl3⟩;refine⟨p2,_,rfl,.inl (SqL.of e3),?_⟩;refine⟨_,rfl,_,rfl,two,λp4 hp4=>k p4 _ (s2.free (s3.free hp4)) ((s2.trans s3).trans (Same.up hp4)) ?_⟩;rw[hv.1,Bb]at hl hl3;rw[zaa,hl,hl3];rfl
noncomputable def zir(K:W.Frag):Sp:=λvs H Q _=>∃(a:Addr) (W:Wk),vs=[.ref a]/\LR K H a W wR/\W.length<=2000/\∀H',Same H H'->Q (.int ((nL W:Int)-nS W)) H'
theorem zcD (g_lefts_and_slants:Fn P w K mg base 2 "lefts_and_slants" ["walk"] (zis K)) (d:Df K mg "lefts_less_slants" zba ["walk"]):FnOk P w K mg base CX0 3 d.f d.fd ["walk"] (zir K):=by
 refine d.F.ok za0 (λvs H Q E h=>?_) (λcdv A outer s H vs Q E hr h=>?_)
 .obtain⟨a,W,rfl,_⟩:=h;rfl
 .obtain⟨a,W,rfl,hLR,hlen,k⟩:=h
  refine⟨_,(zab (zbG (pC g_lefts_and_slants hr (pa_N (pv 0) zac)) (zbl (by rfl) (zag (nG 1 za0.nd) (zag (nG 2 za0.nd) zay))))
   (zaf (zaj (pe_op zaE (pv 1) (pv 2))))),?_⟩
  refine⟨_,rfl,a,W,rfl,hLR,hlen,λp H1 hp s1 f1=>?_⟩;refine⟨p,_,rfl,SqT.of f1,rfl,_,_,rfl,_,_,rfl,rfl,?_⟩;exact⟨_,rfl,_,rfl,_,_,rfl,rfl,k H1 s1⟩
noncomputable def sortS (W:Wk):Str:=if nS W<nL W then "rim" else "hole"
noncomputable def zkg(K:W.Frag):Sp:=λvs H Q _=>∃(a:Addr) (W:Wk),vs=[.ref a]/\LR K H a W wR/\W.length<=2000/\∀H',Same H H'->Q (.str (sortS W)) H'
theorem zh2 (g_lefts_less_slants:Fn P w K mg base 3 "lefts_less_slants" ["walk"] (zir K)) (d:Df K mg "sort_of" zdS ["walk"]):FnOk P w K mg base CX0 4 d.f d.fd ["walk"] (zkg K):=by
 refine d.F.ok zhW (λvs H Q E h=>?_) (λcdv A outer s H vs Q E hr h=>?_)
 .obtain⟨a,W,rfl,_⟩:=h;rfl
 .obtain⟨a,W,rfl,hLR,hlen,k⟩:=h;refine⟨_,(zaf (zaj (zfg (zau op_gt (pC g_lefts_less_slants hr (pa_N (pv 0) zac)) zad (zap _)) zcV zcV))),?_⟩;refine⟨_,rfl,a,W,rfl,hLR,hlen,λH1 s1=>?_⟩;refine⟨_,_,rfl,rfl,_,rfl,?_⟩;have h1:=k H1 s1;unfold sortS at h1
  by_cases hlt:nS W<nL W
  .rw[if_pos hlt]at h1;exact iteY (decide_eq_true (by lia)) h1
  .rw[if_neg hlt]at h1;exact iteN (decide_eq_false (by lia)) h1
noncomputable def kOf (s:Str):Nat:=if s = "rim" then 0 else 2
noncomputable def zbW(W:Wk)(s:Str)(e:Edge):Prop:=e∈W.map (·.1)/\e.w=kOf s/\∀f∈W.map (·.1),f.w=kOf s->HT.lexLt [f.c.2,f.c.1] [e.c.2,e.c.1]=false
noncomputable def zgH (K:W.Frag):Sp:=λvs H Q _=>∃(a:Addr) (W:Wk) (s:Str),vs=[.ref a,.str s]/\(s = "rim" ∨ s = "hole")/\LR K H a W wR/\W.length<=2000/\(∃e∈W.map (·.1),e.w=kOf s) /\
 ∀b e H',Same H H'->H' b=some (.tup (edgeT e))->zbW W s e->Q (.ref b) H'
theorem zgV (T:Txt P w K mg) (g_cell_order:Fn P w K mg base 1 "cell_order" ["cell"] (zgG K)) (d:Df K mg "begin_of" zcA ["walk","sort"]):FnOk P w K mg base CX0 3 d.f d.fd ["walk","sort"] (zgH K):=by
  refine d.F.ok zgN (λvs H Q E h=>?_) (λcdv A outer s H vs Q E hr h=>?_)
  . obtain⟨a,W,s,rfl,_⟩:=h;rfl
  . obtain⟨a,W,so,rfl,hso,hLR,hlen,hex,k⟩:=h;obtain⟨ws,hq,hv⟩:=hLR.vr;have nb0:(["edge","step","sort"]:List Str).Nodup:=by decide +kernel
    refine⟨_,(zaf (zaj (zkR g_cell_order.ok (hr.mono (by decide)) g_cell_order.b (by rfl) T.nmin (by rfl) g_cell_order.m (zbm (osc:=zae zcA) (N:=zeW) (N':=["edge","step","sort"]) (sel:=[none,none,some 1]) bO (zaN (pv 0)) (λ_ _ _ _ _=>(zda (K:=K) (n:=2) (by rfl) (zag (nG 0 nb0) (zag (nG 1 nb0) zay)))) (λ_ _ _ _ _=>zdU (zau op_eq (pe_ix (zfy (K:=K)) (pv 0) zad (λ_ _=>rfl)) (ziJ (by rfl) T.ways (pv 2)) (zap _))) (λ_ _ _ _ _=>(pv 0)))))),?_⟩;refine⟨_,rfl,a,rfl,⟨_,hq⟩,λp hp=>?_⟩
    refine zax (K:=K) (a:=a) (xs:=ws) (λi σ H2=>∃o1 o2,σ=[o1,o2,some (.str so)]/\Same H H2/\∃es:List V,H2 p=some (.lst es)/\VR es (((W.take i).filter λq=>q.1.w == kOf so).map (·.1)) eR H2)
      ⟨_,_,rfl,Same.up hp,[],zaa,VR.nil⟩ (λi σ H2 _ ⟨_,_,_,s2,_⟩=>s2.seq hq) ?_ ?_
    . rintro i v σ H2 hi ⟨o1,o2,rfl,s2,es,e2,hl⟩;obtain⟨⟨e,st⟩,he,B,b,rfl,q1,q2⟩:=hv.at hi
      have hl2:es.length<=2000:=by have:=Dd (λq:Edge×Option Nat=>q.1.w == kOf so) (W.take i);rw[hl.1,Am];rw[AL]at this;lia
      have fin:∀kk:Int, kk=(kOf so:Int) -> (if decide (V.int (e.w:Int)=V.int kk)=true then zcd p (tVar 0) { nx := λσ H2 => ∃o1 o2, σ = [o1, o2, some (V.str so)] /\ Same H H2 /\ ∃es, H2 p=some (.lst es) /\ VR es (List.map (λx => x.fst) (List.filter (λq => q.1.w == kOf so) (List.take (i + 1) W))) eR H2, rt := λ_ _ => False } [some (.ref b), some (sv st), some (.str so)] H2
          else (∃o1 o2,[some (.ref b),some (sv st),some (V.str so)]=[o1,o2,some (V.str so)]/\Same H H2/\∃es,H2 p=some (.lst es)/\VR es (List.map (λx=>x.fst) (List.filter (λq=>q.1.w == kOf so) (List.take (i+1) W))) eR H2)):=λkk hk=>by
        have hd:decide (V.int (e.w:Int)=V.int kk)=(e.w == kOf so):=by
          subst hk
          by_cases q:e.w=kOf so
          . rw[q];simp
          . rw[decide_eq_false (λz=>q (by injection z with z;lia))];simp[q]
        rw[hd,zcN he];refine ite2 (λhy=>?_) (λhn=>?_)
        . refine⟨_,rfl,es,e2,zbh (AS hl2 (by decide)),_,_,rfl,zar hp s2,_,zaa,?_⟩;rw[if_pos hy,AE];have k2:KT H2 (upd H2 p (.lst (es++[.ref b]))):=KT.lst e2;exact hl.snoc (λx v hx=>hx.kt k2) ⟨b,rfl,k2 _ _ (s2 _ _ q2)⟩
        . exact⟨_,_,rfl,s2,es,e2,by rw[if_neg hn,AX];exact hl⟩
      refine⟨B,_,rfl,SqT.of (s2 _ _ q1),rfl,_,_,rfl,_,_,rfl,rfl,?_⟩;rcases hso with z |z
      . have f0:=fin 0 (by rw[z];rfl);exact⟨_,rfl,b,_,_,_,rfl,rfl,SqT.of (s2 _ _ q2),zai (j:=2) rfl,_,rfl,.inl ⟨by rw[z],rfl,_,rfl,f0⟩⟩
      . have f2:=fin 2 (by rw[z];rfl);exact⟨_,rfl,b,_,_,_,rfl,rfl,SqT.of (s2 _ _ q2),zai (j:=2) rfl,_,rfl,.inr ⟨by rw[z],rfl,_,rfl,f2⟩⟩
    . rintro σ H2 ⟨o1,o2,rfl,s2,es,e2,hl⟩;rw[hv.1,Bb]at hl;obtain⟨L,hL⟩:∃L,L=((W.filter λq=>q.1.w == kOf so).map (·.1)):=⟨_,rfl⟩;rw[<- hL]at hl
      have memL:∀f,f∈L ↔ f∈W.map (·.1)/\f.w=kOf so:=λf=>by
        rw[hL];constructor
        . intro h;obtain⟨q,hq1,rfl⟩:=Bg.mp h;obtain⟨h1,h2⟩:=List.mem_filter.mp hq1;exact⟨Bg.mpr ⟨q,h1,rfl⟩,by simpa using h2⟩
        . rintro⟨h1,h2⟩;obtain⟨q,hq1,rfl⟩:=Bg.mp h1;exact Bg.mpr ⟨q,List.mem_filter.mpr ⟨hq1,by simpa using h2⟩,rfl⟩
      have hpos:0<es.length:=by obtain⟨f,h1,h2⟩:=hex;rw[hl.1];exact List.length_pos_of_mem ((memL f).mpr ⟨h1,h2⟩)
      have kap:∀(i:Nat) e,L[i]?=some e->(λi=>(L[i]?.map λe:Edge=>[e.c.2,e.c.1]).getD []) i=[e.c.2,e.c.1]:=λi e h=>by simp only[h];rfl
      refine⟨p,es,λi=>(L[i]?.map λe:Edge=>[e.c.2,e.c.1]).getD [],rfl,SqL.of e2,hpos,λi x H3 hx s3=>?_,λi x H3 hx hle s3=>?_⟩
      . obtain⟨e,he,b,rfl,q⟩:=hl.at hx;refine⟨b,e.c.1,e.c.2,_,rfl,SqT.of (s3 _ _ q),λp4 H4 hp4 s4 f4=>⟨s4,p4,rfl,SqT.of ?_⟩⟩;rw[kap i e he];exact f4
      . obtain⟨e,he,b,rfl,q⟩:=hl.at hx;have hm:=(memL e).mp (Ag he);refine k b e H3 (s2.trans s3) (s3 _ _ q) ⟨hm.1,hm.2,λf h1 h2=>?_⟩;obtain⟨j,hj,ej⟩:=AN ((memL f).mpr ⟨h1,h2⟩);have hj':L[j]?=some f:=by rw[Aa hj,ej]
        have:=(hle j (by rw[hl.1];exact hj)).1;rw[kap j f hj',kap i e he]at this;exact this
theorem zfc(n d j:Nat):HT.sIx n d (some (j:Int))=min j n:=by show (if (j:Int)<0 then ((j:Int)+(n:Int)).toNat else min (j:Int).toNat n)=min j n;rw[if_neg (by lia),Int.toNat_natCast]
theorem zhK(xs:List V){j:Nat}(h:j<=xs.length):cutV xs (some (j:Int)) none=xs.drop j:=by unfold cutV;rw[zfc,Nat.min_eq_left h];exact Bz (by rw[List.length_drop];exact An _)
theorem zjh(xs:List V){j:Nat}(h:j<=xs.length):cutV xs none (some (j:Int))=xs.take j:=by unfold cutV;rw[zfc,Nat.min_eq_left h];rfl
theorem VR.rot{α:Type}{vs:List V}{l:List α}{R:α->V->Hp->Prop}{H:Hp}(h:VR vs l R H)(j:Nat):VR (vs.drop j++vs.take j) (l.drop j++l.take j) R H:=by
 refine⟨by simp[h.1],λi x v h1 h2=>?_⟩;have hd:(vs.drop j).length=(l.drop j).length:=by simp[h.1]
 rcases AY i (l.drop j).length with hi |hi
 .rw[Ay hi,DE]at h1;rw[Ay (by lia),DE]at h2;exact h.2 _ x v h1 h2
 .rw[AK hi]at h1;rw[AK (by lia),hd]at h2;rw[List.getElem?_take]at h1 h2;split at h1
  .rw[if_pos (by assumption)]at h2;exact h.2 _ x v h1 h2
  .cases h1
theorem zhF{α:Type} [DecidableEq α]{x:α}:∀{l:List α},x∈l->∃j:Nat,l[j]?=some x/\∀(m:Nat) y,m<j->l[m]?=some y->y≠x
 |[],h=>by cases h
 |a::l,h=>by
  by_cases e:a=x
  .exact⟨0,by rw[e];rfl,λm y hm=>absurd hm (Nat.not_lt_zero _)⟩
  .obtain⟨j,h1,h2⟩:=zhF ((AW.mp h).resolve_left (Cb e));refine⟨j+1,by simpa using h1,λm y hm hy=>?_⟩
   match m,hm,hy with
   | 0,_,hy=>cases hy;exact e
   |m+1,hm,hy=>exact h2 m y (by lia) (by simpa using hy)
theorem zf1{K:W.Frag}{H:Hp}:∀{vs:List V}{l:List Edge},VR vs l eR H->RDs K H vs (l.map λe=>tI (eI e))
 |[],[],_=>.nil
 |[],_::_,h=>by have:=h.1;cases this
 |_::_,[],h=>by have:=h.1;cases this
 |v::vs,e::l,h=>by
  obtain⟨b,rfl,q⟩:=h.2 0 e v rfl rfl;exact .cons (zcp q) (zf1 ⟨by simpa using h.1,λi x u h1 h2=>h.2 (i+1) x u (by simpa using h1) (by simpa using h2)⟩)
structure Rnd where
 so:Str
 x:Int
 y:Int
 row:List Nat
 deriving DecidableEq
noncomputable def rowV(row:List Nat):List V:=row.map λn:Nat=>V.int (n:Int)
noncomputable def rR(r:Rnd)(v:V)(H:Hp):Prop:=∃a b,v=.ref a/\H a=some (.tup [.str r.so,.int r.x,.int r.y,.ref b])/\H b=some (.tup (rowV r.row))
theorem rR.kt{r:Rnd}{v:V}{H H':Hp}(h:rR r v H)(s:KT H H'):rR r v H':=let ⟨a,b,e,q1,q2⟩:=h;⟨a,b,e,s _ _ q1,s _ _ q2⟩
noncomputable def IsRnd(W:Wk)(r:Rnd):Prop:=r.so=sortS W/\∃(j:Nat) (e:Edge),(W.map (·.1))[j]?=some e/\zbW W (sortS W) e/\r.x=e.c.1/\r.y=e.c.2/\r.row=(W.drop j++W.take j).filterMap (·.2)
theorem zbL (W:Wk):sortS W = "rim" ∨ sortS W = "hole":=by unfold sortS;split <;> simp
noncomputable def zdF(K:W.Frag):Sp:=λvs H Q _=>∃(a:Addr) (W:Wk),vs=[.ref a]/\LR K H a W wR/\W.length<=2000/\(∃e∈W.map (·.1),e.w=0)/\(∃e∈W.map (·.1),e.w=2) /\
 ∀v H' r,Same H H'->rR r v H'->IsRnd W r->Q v H'
theorem zgQ (T:Txt P w K mg) (g_sort_of:Fn P w K mg base 4 "sort_of" ["walk"] (zkg K)) (g_begin_of:Fn P w K mg base 3 "begin_of" ["walk", "sort"] (zgH K))
  (d:Df K mg "round_of" zbz ["walk"]):FnOk P w K mg base CX0 5 d.f d.fd ["walk"] (zdF K):=by
 refine d.F.ok zbB (λvs H Q E h=>?_) (λcdv A outer s H vs Q E hr h=>?_)
 .obtain⟨a,W,rfl,_⟩:=h;rfl
 .obtain⟨a,W,rfl,hLR,hlen,h0,h2,k⟩:=h;obtain⟨ws,hq,hv⟩:=hLR.vr;have hun:=hr.un;have hu65:(A.deeper (PyProof.Rows.envOfC (Br "round_of") (zae zbz) s.heap.objs.size d.f cdv)).units+65<cLine:=by lia
  have nb0:(["edge","step"]:List Str).Nodup:=by decide +kernel
  have nb1:(["edge","step"]:List Str).Nodup:=by decide +kernel
  refine⟨_,(zab (sE 1 zbB.nd (pC g_sort_of hr (pa_N (pv 0) zac)))
   (zab (sE 2 zbB.nd (pC g_begin_of hr (pa_N (pv 0) (pa_N (pv 1) zac))))
   (zab (sE 3 zbB.nd (pe_bm A3 PySem.F.slot_list_index PySem.F.type_list_index (ziR hu65) (zbm (osc:=zae zbz) (N:=zdi) (N':=["edge","step"]) (sel:=[none,none]) bO (zaN (pv 0)) (λ_ _ _ _ _=>(zda (K:=K) (n:=2) (by rfl) (zag (nG 0 nb0) (zag (nG 1 nb0) zay)))) (λ_ _ _ _ _=>zbS) (λ_ _ _ _ _=>(pv 0))) (pa_N (pv 2) zac)))
   (zab (sE 4 zbB.nd (zbH zc4 (by rfl) T.ntuple (by rfl) (zah (zbm (osc:=zae zbz) (N:=zdi) (N':=["edge","step"]) (sel:=[none,none]) bO (zaN (pe_op zeO (zbN zgJ (pv 0) (zbT (pv 3)) zc9) (zbN zgJ (pv 0) zc9 (zbT (pv 3))))) (λ_ _ _ _ _=>(zda (K:=K) (n:=2) (by rfl) (zag (nG 0 nb1) (zag (nG 1 nb1) zay)))) (λ_ _ _ _ _=>zdU (zau zfh (pv 1) zcr (zap _))) (λ_ _ _ _ _=>(pv 1))) zac)))
   (zaf (zaj (zaK (pa_N (pv 1) (zah (pe_ix zaI (pv 2) zad (λ_ _=>rfl)) (zah (pe_ix zaI (pv 2) zad (λ_ _=>rfl)) (pa_N (pv 4) zac))))))))))),?_⟩
  refine⟨_,rfl,a,W,rfl,hLR,hlen,λH1 s1=>?_⟩
  have hex:∃e∈W.map (·.1),e.w=kOf (sortS W):=by
   rcases zbL W with z |z <;> rw[z]
   .exact h0
   .exact h2
  refine⟨_,rfl,_,rfl,a,W,sortS W,rfl,zbL W,hLR.same s1 (λx v hx=>hx.same s1),hlen,hex,λb e H2 s2 hb hbg=>?_⟩;have s12:=s1.trans s2;refine⟨_,rfl,a,rfl,⟨_,s12.seq hq⟩,λp hp=>?_⟩
  refine zax (K:=K) (a:=a) (xs:=ws) (λi σ H3=>∃o1 o2,σ=[o1,o2]/\Same H2 H3/\∃es:List V,H3 p=some (.lst es)/\VR es ((W.take i).map (·.1)) eR H3)
   ⟨_,_,rfl,Same.up hp,[],zaa,VR.nil⟩ (λi σ H3 _ ⟨_,_,_,s3,_⟩=>(s12.trans s3).seq hq) ?_ ?_
  .rintro i v σ H3 hi ⟨o1,o2,rfl,s3,es,e3,hl⟩;obtain⟨⟨f,st⟩,he,B,bb,rfl,q1,q2⟩:=hv.at hi;have hl2:es.length<=2000:=by rw[hl.1,Am,AL];lia
   refine⟨B,_,rfl,SqT.of ((s12.trans s3) _ _ q1),rfl,_,_,rfl,_,_,rfl,rfl,?_⟩;refine ze2 ?_
   refine⟨_,rfl,es,e3,zbh (AS hl2 (by decide)),_,_,rfl,zar hp s3,_,zaa,?_⟩;rw[zaL he,AE];have k2:KT H3 (upd H3 p (.lst (es++[.ref bb]))):=KT.lst e3;exact hl.snoc (λx v hx=>hx.kt k2) ⟨bb,rfl,k2 _ _ ((s12.trans s3) _ _ q2)⟩
  .rintro σ H3 ⟨o1,o2,rfl,s3,es,e3,hl⟩;rw[hv.1,Bb]at hl;obtain⟨j,hj,hjm⟩:=zhF hbg.1;have hjl:j<W.length:=by have:=(Ae.mp hj).1;simpa using this
   have s13:=s12.trans s3;refine⟨.inl ⟨rfl,_,SqL.of e3⟩,_,rfl,p,es,_,_,_,j,_,rfl,rfl,SqL.of e3,zcp (s3 _ _ hb),zf1 hl,zav _,(λz hz=>by obtain⟨f,_,rfl⟩:=Bg.mp hz;exact zav _),(by rw[Ax,hj];rfl),(by rw[zcu];exact decide_eq_true rfl),(λm z hm hz=>?_),?_⟩
   .rw[Ax]at hz;obtain⟨f,hf,rfl⟩:=A8.mp hz;rw[zcu];exact decide_eq_false (λq=>hjm m f hm hf (zhH.mp q))
   have hwl:j<=ws.length:=by rw[hv.1];lia
   refine⟨_,rfl,_,rfl,_,rfl,a,ws,rfl,s13.seq hq,λp4 hp4=>?_⟩;rw[zhK ws hwl];have s4:=Same.up (o:=.lst (ws.drop j)) hp4;refine⟨_,rfl,_,rfl,_,rfl,a,ws,rfl,(s13.trans s4).seq hq,λp5 hp5=>?_⟩;rw[zjh ws hwl];have s5:=Same.up (o:=.lst (ws.take j)) hp5;refine⟨p4,p5,_,_,rfl,rfl,s5 _ _ zaa,zaa,Bm (zbh (by simp[hv.1];lia)),λp6 hp6=>?_⟩;have s6:=Same.up (o:=.lst (ws.drop j++ws.take j)) hp6;have s16:=s13.trans (s4.trans (s5.trans s6));have e6:upd (upd (upd H3 p4 (.lst (ws.drop j))) p5 (.lst (ws.take j))) p6 (.lst (ws.drop j++ws.take j)) p6=some (.lst (ws.drop j++ws.take j)):=zaa;have b6:=(s4.trans (s5.trans s6)) _ _ (s3 _ _ hb);generalize upd (upd (upd H3 p4 (.lst (ws.drop j))) p5 (.lst (ws.take j))) p6 (.lst (ws.drop j++ws.take j))=H6 at s16 e6 b6 ⊢;have hv6:=hv.rot j;have hWl:(W.drop j++W.take j).length<=2000:=by simp;lia
   generalize hW6:W.drop j++W.take j=W6 at hv6 hWl;generalize ws.drop j++ws.take j=ws6 at hv6 e6;refine⟨p6,rfl,⟨_,SqL.of e6⟩,λp7 hp7=>?_⟩
   refine zax (K:=K) (a:=p6) (xs:=ws6) (λi σ H7=>∃o1 o2,σ=[o1,o2]/\Same H6 H7/\H7 p7=some (.lst (rowV ((W6.take i).filterMap (·.2)))))
    ⟨_,_,rfl,Same.up hp7,zaa⟩ (λi σ H7 _ ⟨_,_,_,s7,_⟩=>s7.seq (SqL.of e6)) ?_ ?_
   .rintro i v σ H7 hi ⟨o1,o2,rfl,s7,e7⟩;obtain⟨⟨f,st⟩,he,B,bb,rfl,q1,q2⟩:=hv6.at hi
    have hl2:(rowV ((W6.take i).filterMap (·.2))).length<=2000:=by unfold rowV;rw[Am];have:=CO (λq:Edge×Option Nat=>q.2) (W6.take i);rw[AL]at this;lia
    refine⟨B,_,rfl,SqT.of ((s16.trans s7) _ _ q1),rfl,_,_,rfl,_,_,rfl,rfl,?_⟩;refine⟨_,rfl,rfl,_,rfl,?_⟩;rw[zkd,zaL he,BS]
    cases st with
    |none=>exact iteF ⟨_,_,rfl,s7,by simpa using e7⟩
    |some n =>
     refine iteT ⟨_,rfl,_,e7,zbh (AS hl2 (by decide)),_,_,rfl,zar hp7 s7,?_⟩;rw[zaa];simp[rowV,sv]
   .rintro σ H7 ⟨o1,o2,rfl,s7,e7⟩;rw[hv6.1,Bb]at e7;refine⟨p7,_,rfl,.inl ⟨SqL.of e7,λp8 hp8=>?_⟩⟩;have s8:=Same.up (o:=.tup (rowV (W6.filterMap (·.2)))) hp8;have b8:=s8 _ _ (s7 _ _ b6);refine⟨_,rfl,_,rfl,b,_,_,_,rfl,rfl,SqT.of b8,zai (j:=0) rfl,_,rfl,b,_,_,_,rfl,rfl,SqT.of b8,zai (j:=1) rfl,_,rfl,(by show 4<=sizeLine;decide),λp9 hp9=>?_⟩;refine k _ _ ⟨sortS W,e.c.1,e.c.2,W6.filterMap (·.2)⟩ ((s16.trans (s7.trans s8)).trans (Same.up hp9)) ⟨p9,p8,rfl,zaa,Same.up hp9 _ _ zaa⟩ ⟨rfl,j,e,hj,hbg,rfl,rfl,?_⟩;rw[<- hW6]
noncomputable def keyV (r:Rnd):List V:=[.int r.y,.int r.x,.bl (decide (V.str r.so=V.str "hole"))]
noncomputable def zce(K:W.Frag):Sp:=λvs H Q _=>∃(v:V) (r:Rnd),vs=[v]/\rR r v H/\∀p H',H p=none->Same H H'->H' p=some (.tup (keyV r))->Q (.ref p) H'
theorem zen (d:Df K mg "round_order" zb5 ["one"]):FnOk P w K mg base CX0 1 d.f d.fd ["one"] (zce K):=by
 refine d.F.ok za5 (λvs H Q E h=>?_) (λcdv A outer s H vs Q E hr h=>?_)
 .obtain⟨v,r,rfl,_⟩:=h;rfl
 .obtain⟨v,r,rfl,⟨a,b,rfl,q1,q2⟩,k⟩:=h
  refine⟨_,(zab (zbG (pv 0) (zbl (by rfl) (zag (nG 1 za5.nd) (zag (nG 2 za5.nd) (zag (nG 3 za5.nd) (zag (nG 4 za5.nd) zay))))))
   (zaf (zaj (zaK (pa_N (pv 3) (pa_N (pv 2) (zah (za1 op_eq (pv 1) zcV (zap _)) zac))))))),?_⟩
  refine⟨_,rfl,a,_,rfl,SqT.of q1,rfl,_,_,rfl,_,_,rfl,_,_,rfl,_,_,rfl,rfl,?_⟩;refine⟨_,rfl,_,rfl,_,rfl,rfl,three,λp hp=>k p _ hp (Same.up hp) zaa⟩
theorem VR.cons{α:Type}{v:V}{vs:List V}{x:α}{l:List α}{R:α->V->Hp->Prop}{H:Hp}:VR (v::vs) (x::l) R H ↔ R x v H/\VR vs l R H:=by
 constructor
 .intro h;exact⟨h.2 0 x v rfl rfl,by simpa using h.1,λi y u h1 h2=>h.2 (i+1) y u (by simpa using h1) (by simpa using h2)⟩
 .rintro⟨h1,h2⟩;refine⟨by simp[h2.1],λi y u e1 e2=>?_⟩
  match i,e1,e2 with
  | 0,e1,e2=>cases e1;cases e2;exact h1
  |i+1,e1,e2=>exact h2.2 i y u (by simpa using e1) (by simpa using e2)
noncomputable def kE(e:Edge):List Key:=[Dl e.c.1,Dl e.c.2,Dl (e.w:Int)]
theorem zkp{e f:Edge}:kE e=kE f ↔ e=f:=by
 constructor
 .intro h;refine zhH.mp ?_
  unfold kE at h;injection h with h1 h2;injection h2 with h2 h3;injection h3 with h3 _;unfold eI;rw[Sum.inl.inj h1,Sum.inl.inj h2,Sum.inl.inj h3]
 .rintro rfl;rfl
theorem _root_.RP.Closed.back{C:Cell->Bool}{b x:Edge}{es:List Edge}(h:Closed C b es)(hx:IsE C x)(hm:nxt C x∈es):x∈es:=by
 obtain⟨⟨h0,hs,hE,hnd⟩,l,hl,hb⟩:=h;obtain⟨i,hi,ei⟩:=AN hm;have hlm:l∈es:=Ag hl;rcases DF i with rfl |hp
 .rw[Aa hi,ei]at h0;have e:=AJ h0;rw[<- hb]at e;rw[zgW hx (hE l hlm) e];exact hlm
 .have hi':i-1<es.length:=by lia
  have e1:=hs (i-1) es[i-1] (nxt C x) (Aa hi') (by rw[show i-1+1=i by lia,Aa hi,ei]);rw[zgW hx (hE _ (A9 hi')) e1];exact A9 hi'
theorem _root_.RP.Closed.apart{C:Cell->Bool}{b:Edge}{es done:List Edge}(h:Closed C b es)(hd:∀x,IsE C x->nxt C x∈done->x∈done)(hb:b ∉ done):∀e∈es,e ∉ done:=by
 obtain⟨⟨h0,hs,hE,hnd⟩,_⟩:=h
 have key:∀(i:Nat) e,es[i]?=some e->e ∉ done:=by
  intro i
  induction i with
  |zero=>intro e he;rw[he]at h0;cases h0;exact hb
  |succ i ih =>
   intro e he hm;have hi:i+1<es.length:=(Ae.mp he).1;have h1:es[i]?=some es[i]:=Aa (by lia)
   have hn:=hs i _ e h1 he;rw[hn]at hm;exact ih _ h1 (hd _ (hE _ (A9 _)) hm)
 intro e he;obtain⟨i,hi,ei⟩:=AN he;exact key i e (by rw[Aa hi,ei])
structure Part (C:Cell->Bool) (ESS:List (List Edge)) (R:List Rnd):Prop where
 len:R.length=ESS.length
 each:∀(i:Nat) es r,ESS[i]?=some es->R[i]?=some r->(∃b,Closed C b es)/\IsRnd (wk C es) r
 nd:ESS.flatten.Nodup
theorem Part.closed{C:Cell->Bool}{ESS:List (List Edge)}{R:List Rnd}(h:Part C ESS R):∀es∈ESS,∃b,Closed C b es:=λes he=>by
 obtain⟨i,hi,ei⟩:=AN he;have hr:i<R.length:=by rw[h.len];exact hi
 exact (h.each i es R[i] (by rw[Aa hi,ei]) (Aa hr)).1
theorem Part.isE{C:Cell->Bool}{ESS:List (List Edge)}{R:List Rnd}(h:Part C ESS R):∀e∈ESS.flatten,IsE C e:=λe he=>by obtain⟨es,h1,h2⟩:=List.mem_flatten.mp he;obtain⟨b,hc⟩:=h.closed es h1;exact hc.1.2.2.1 e h2
theorem Part.back{C:Cell->Bool}{ESS:List (List Edge)}{R:List Rnd}(h:Part C ESS R):∀x,IsE C x->nxt C x∈ESS.flatten->x∈ESS.flatten:=λx hx hm=>by obtain⟨es,h1,h2⟩:=List.mem_flatten.mp hm;obtain⟨b,hc⟩:=h.closed es h1;exact List.mem_flatten.mpr ⟨es,h1,hc.back hx h2⟩
theorem Part.nil{C:Cell->Bool}:Part C [] []:=⟨rfl,λi es r h=>by simp at h,by simp⟩
theorem Part.snoc{C:Cell->Bool}{ESS:List (List Edge)}{R:List Rnd}{b:Edge}{es:List Edge}{r:Rnd}(h:Part C ESS R)(hc:Closed C b es)(hr:IsRnd (wk C es) r)(hb:b ∉ ESS.flatten):Part C (ESS++[es]) (R++[r]):=by
 refine⟨by simp[h.len],λi fs q h1 h2=>?_,?_⟩
 .rcases AY i ESS.length with hi |hi
  .rw[Ay hi]at h1;rw[Ay (by rw[h.len];exact hi)]at h2;exact h.each i fs q h1 h2
  .rw[AK hi]at h1;rw[AK (by rw[h.len];exact hi)]at h2
   have hz:i-ESS.length=0:=by have:=(Ae.mp h1).1;simp at this;lia
   rw[hz]at h1;rw[h.len,hz]at h2
   cases h1;cases h2
   exact⟨⟨b,hc⟩,hr⟩
 .have ap:=hc.apart h.back hb;rw[Dp,List.nodup_append];refine⟨h.nd,by simpa using hc.1.2.2.2,λx hx y hy e=>?_⟩;subst e;exact ap x (by simpa using hy) hx
theorem zhx{p:Edge->Bool}:∀(ESS:List (List Edge)),(∀es∈ESS,∃e∈es,p e=true)->ESS.length<=(ESS.flatten.filter p).length
 |[],_=>AU _
 |es::r,h=>by
  have ih:=zhx r λes he=>h es (As _ he)
  obtain⟨e,he,hp⟩:=h es Av;rw[Bl,C3,Ai,AV];have:0<(es.filter p).length:=List.length_pos_of_mem (List.mem_filter.mpr ⟨he,hp⟩);lia
theorem Part.few{cs:List Cell}{ESS:List (List Edge)}{R:List Rnd}(h:Part (isIn cs) ESS R):R.length<=cs.length:=by
 rw[h.len];refine AS (zhx (p:=λe=>e.w == 0) ESS λes he=>?_) ?_
 .obtain⟨b,hc⟩:=h.closed es he;obtain⟨e,h1,h2⟩:=hc.has (k:=0) (.inl rfl);exact⟨e,h1,by simpa using h2⟩
 .rw[<- Am (f:=λc:Cell=>(⟨c,0⟩:Edge)) (as:=cs)];refine zaT (List.Pairwise.filter _ h.nd) λe he=>?_
  obtain⟨h1,h2⟩:=List.mem_filter.mp he;have hE:=h.isE e h1;refine Bg.mpr ⟨e.c,of_decide_eq_true hE.2.1,?_⟩;obtain⟨c,w⟩:=e;simp only at h2 ⊢;have:w=0:=by simpa using h2
  rw[this]
theorem Part.small{cs:List Cell}{ESS:List (List Edge)}{R:List Rnd}(h:Part (isIn cs) ESS R):ESS.flatten.length<=4*cs.length:=by rw[<- zbs];exact zaT h.nd λe he=>zcW.mpr ⟨of_decide_eq_true (h.isE e he).2.1,(h.isE e he).1⟩
noncomputable def keyI (r:Rnd):List Int:=[r.y,r.x,PyProof.Rows.b2i (decide (V.str r.so=V.str "hole"))]
noncomputable def Whole(cs:List Cell)(R:List Rnd):Prop:=∃ESS,Part (isIn cs) ESS R/\∀e,e∈ESS.flatten ↔ IsE (isIn cs) e
noncomputable def zhe(K:W.Frag):Sp:=λvs H Q _=>∃(a:Addr) (cs:List Cell),vs=[.ref a]/\LR K H a cs cR/\InOrd cs/\cs.length<=120 /\
 ∀p H' rs R R0,H p=none->Same H H'->H' p=some (.lst rs)->VR rs R rR H'->R.Perm R0->R.Pairwise (λr q=>HT.lexLt (keyI q) (keyI r)=false)->Whole cs R0->Q (.ref p) H'
noncomputable def zcR(K:W.Frag):Sp:=λvs H Q _=>∃(t pe:Addr) (cs:List Cell) (es:List V),vs=[.ref t,.ref pe]/\Tab H t (isIn cs)/\H pe=some (.lst es)/\VR es (allE cs) eR H/\cs.length<=120 /\
 ∀p H' rs R R0,H p=none->Same H H'->H' p=some (.lst rs)->VR rs R rR H'->R.Perm R0->R.Pairwise (λr q=>HT.lexLt (keyI q) (keyI r)=false)->Whole cs R0->Q (.ref p) H'
theorem zd0(T:Txt P w K mg)
    (g_walk_from:Fn P w K mg base 3 "walk_from" ["table","begin"] (zke K)) (g_round_of:Fn P w K mg base 5 "round_of" ["walk"] (zdF K)) (g_round_order:Fn P w K mg base 1 "round_order" ["one"] (zce K))
    (d:Df K mg "rounds_along" zbP ["table","edges"]):FnOk P w K mg base CX0 6 d.f d.fd ["table","edges"] (zcR K):=by
  refine d.F.ok zaD (λvs H Q E h=>?_) (λcdv A outer s H2 vs Q E hr h=>?_)
  . obtain⟨t,pe,cs,es,rfl,_⟩:=h;rfl
  . obtain⟨t,pe,cs,es,rfl,tab,epe,hvpe,hlen,k⟩:=h;have hu1:=hu_of hr
    refine⟨_,(zab (sE 2 zaD.nd zho)
      (zab (sE 3 zaD.nd (zaU zac))
      (zab (zbF Be rfl (zaN (pv 1)) (nG 4 zaD.nd)
      (zaf (ps_if (ziC (zf4 hu1 (pv 4) (pv 2)))
      (zab (sE 5 zaD.nd (pC g_walk_from hr (pa_N (pv 0) (pa_N (pv 4) zac))))
      (zab (zbF Be rfl (zaN (pv 5)) (zbl (by rfl) (zag (nG 6 zaD.nd) (zag (nG 7 zaD.nd) zay)))
      (zaf (zkN hu1 (pv 2) (pv 6) pe_bl rfl)))
      (zaf (zbv (pe_bm A3 Bi Bj za8 (pv 3) (zah (pC g_round_of hr (pa_N (pv 5) zac)) zac))))))
      zaw)))
      (zaf (zaj (zhn g_round_order.ok (hr.mono (by decide)) g_round_order.b (by rfl) T.nsorted (by rfl) g_round_order.m (pv 3))))))),?_⟩
    refine λdd hdd=>⟨(by show 0<=sizeLine;decide),λp hp=>?_⟩
    have hpd:p≠dd:=λz=>by subst z;rw[zaa]at hp;cases hp
    have s4:Same H2 (upd (upd H2 dd (.dT [])) p (.lst [])):=(Same.up hdd).trans (Same.up hp);have d4:upd (upd H2 dd (.dT [])) p (.lst []) dd=some (.dT []):=by rw[zak (Cb hpd),zaa]
    have p4:upd (upd H2 dd (.dT [])) p (.lst []) p=some (.lst []):=zaa;have n2:H2 dd=none:=hdd;have n2p:H2 p=none:=by rw[zak hpd]at hp;exact hp
    generalize upd (upd H2 dd (.dT [])) p (.lst [])=H5 at s4 d4 p4;have s15:Same H2 H5:=s4;have e5:=s4 _ _ epe;have hv5:=hvpe.mono λx v hx=>hx.same s4
    refine⟨_,rfl,pe,rfl,⟨_,SqL.of e5⟩,?_⟩;have hped:pe≠dd:=zal epe n2;have hpep:pe≠p:=zal epe n2p
    refine zax (K := K) (a := pe) (xs := es) (λi σ H6 => ∃o4 o5 o6 o7, σ = [some (.ref t), some (.ref pe), some (.ref dd), some (.ref p), o4, o5, o6, o7] /\ Same H2 H6 /\ H6 pe=some (.lst es) /\ KT H5 H6 /\
        ∃kvs rs ESS R,H6 dd=some (.dT kvs)/\H6 p=some (.lst rs)/\VR rs R rR H6/\Part (isIn cs) ESS R/\(∀e,(valV kvs (kE e)).isSome=decide (e∈ESS.flatten))/\kvs.length<=ESS.flatten.length/\∀e∈(allE cs).take i,e∈ESS.flatten)
      ⟨_,_,_,_,rfl,s15,e5,KT.refl _,[],[],[],[],d4,p4,VR.nil,Part.nil,(λe=>by simp[valV]),An _,(λe he=>by simp at he)⟩ (λi σ H6 _ ⟨_,_,_,_,_,_,e6,_⟩=>SqL.of e6) ?_ ?_
    . rintro i v σ H6 hi ⟨o4,o5,o6,o7,rfl,s6,e6,kt6,kvs,rs,ESS,R,d6,p6,hR,hP,hkv,hkl,hall⟩;obtain⟨e,he,b,rfl,qb⟩:=hv5.at hi;have hE:IsE (isIn cs) e:=zhu.mp (Ag he);have qb6:=kt6 _ _ qb;refine⟨_,rfl,_,rfl,dd,_,rfl,.inr ⟨kvs,kE e,b,Rd.of d6,rfl,qb6,rfl⟩,_,rfl,?_⟩;rw[hkv]
      by_cases hin:e∈ESS.flatten
      . rw[decide_eq_true hin];refine iteF ⟨_,_,_,_,rfl,s6,e6,kt6,kvs,rs,ESS,R,d6,p6,hR,hP,hkv,hkl,λf hf=>?_⟩;rcases (zbu he).mp hf with z |z
        . exact hall f z
        . rw[z];exact hin
      . rw[decide_eq_false hin];refine iteT ?_
        have tab6:=tab.same s6;refine⟨_,rfl,_,rfl,t,b,cs,e,rfl,tab6,qb6,hE,by lia,λpw H7 ws fs hpw s7 e7 hv7 hcl=>?_⟩;have hfs:fs.length<=4*cs.length:=hcl.1.short;have hap:=hcl.apart hP.back hin;have d7:=s7 _ _ d6;have hdw:dd≠pw:=λz=>by subst z;rw[d6]at hpw;cases hpw
        have hws:ws.length=fs.length:=by rw[hv7.1,zbe]
        refine⟨_,rfl,pw,rfl,⟨_,SqL.of e7⟩,?_⟩
        refine zax (K := K) (a := pw) (xs := ws) (λj σ H8 => ∃o6 o7, σ = [some (.ref t), some (.ref pe), some (.ref dd), some (.ref p), some (.ref b), some (.ref pw), o6, o7] /\ (∀z o, z ≠ dd -> H7 z=some o -> H8 z=some o) /\
            ∃kv8,H8 dd=some (.dT kv8)/\(∀f,(valV kv8 (kE f)).isSome=decide (f∈ESS.flatten∨f∈fs.take j))/\kv8.length<=ESS.flatten.length+j)
          ⟨_,_,rfl,(λz o _ h=>h),kvs,d7,(λf=>by rw[hkv];simp),by lia⟩ (λj σ H8 _ ⟨_,_,_,k8,_⟩=>SqL.of (k8 _ _ (Cb hdw) e7)) ?_ ?_
        . rintro j u σ H8 hj ⟨o6,o7,rfl,k8,kv8,d8,hk8,hl8⟩;obtain⟨⟨f,st⟩,hf,B,bb,rfl,q1,q2⟩:=hv7.at hj
          have hf':fs[j]?=some f:=by
            unfold wk at hf;rw[Ax]at hf;obtain⟨g,hg,eg⟩:=A8.mp hf
            cases eg
            exact hg
          have nB:B≠dd:=ne_of q1 d7 (λz=>nomatch z);have nb:bb≠dd:=ne_of q2 d7 (λz=>nomatch z);refine⟨B,_,rfl,SqT.of (k8 _ _ nB q1),rfl,_,_,rfl,_,_,rfl,rfl,?_⟩;have hjl:j<fs.length:=by rw[<- hws];exact (Ae.mp hj).1
          have hsm:=hP.small;refine⟨_,rfl,_,rfl,dd,_,rfl,.inr ⟨kv8,kE f,bb,d8,rfl,k8 _ _ nb q2,zaF (by lia),rfl⟩,?_⟩;refine⟨_,_,rfl,(λz o hz h=>by rw[zak hz];exact k8 z o hz h),_,zaa,(λg=>?_),AS (zaV _ _ _) (by lia)⟩;rw[zeY]
          by_cases eg:g=f
          . rw[if_pos (zkp.mpr eg),decide_eq_true (.inr ((zbu hf').mpr (.inr eg)))];rfl
          . rw[if_neg (λz=>eg (zkp.mp z)),hk8];refine decide_eq_decide.mpr ⟨λz=>z.imp id λq=>(zbu hf').mpr (.inl q),λz=>z.imp id λq=>((zbu hf').mp q).resolve_right eg⟩
        . rintro σ H8 ⟨o6,o7,rfl,k8,kv8,d8,hk8,hl8⟩;rw[hws,Bb]at hk8;have hdp:p≠dd:=hpd;have p8:=k8 _ _ hdp (s7 _ _ p6);have kt8:KT H7 H8:=λz xs h=>k8 z _ (ne_of h d7 (λq=>nomatch q)) h
          have w8:H8 pw=some (.lst ws):=k8 _ _ (Cb hdw) e7;have hrl:rs.length<=120:=by rw[hR.1];exact AS hP.few hlen
          have hh:∀kk,kk=0∨kk=2->∃x∈(wk (isIn cs) fs).map (·.1),x.w=kk:=λkk hkk=>by obtain⟨x,h1,h2⟩:=hcl.has hkk;exact⟨x,by unfold wk;rw[List.map_map];simpa using h1,h2⟩
          refine⟨_,rfl,.inl ⟨rfl,_,SqL.of p8⟩,_,rfl,pw,wk (isIn cs) fs,rfl,LR.of w8 (hv7.mono λx v hx=>hx.kt kt8),(by rw[zbe];lia),hh 0 (.inl rfl),hh 2 (.inr rfl),λvr H9 r s9 hr9 hrn=>?_⟩;have p9:=s9 _ _ p8;refine⟨p,rs,_,rfl,rfl,p9,zaF (by lia),?_⟩;have kt9:KT H9 (upd H9 p (.lst (rs++[vr]))):=KT.lst p9;have ktA:KT H6 (upd H9 p (.lst (rs++[vr]))):=(KT.of s7).trans (kt8.trans ((KT.of s9).trans kt9));refine⟨_,_,_,_,rfl,(λz o h=>?_),?_,kt6.trans ktA,kv8,rs++[vr],ESS++[fs],R++[r],?_,zaa,hR.snoc (λx v hx=>hx.kt ktA) (hr9.kt kt9),hP.snoc hcl hrn hin,(λf=>?_),?_,(λf hf=>?_)⟩
          . rw[zak (zal h n2p)];exact s9 _ _ (k8 _ _ (zal h n2) (s7 _ _ (s6 _ _ h)))
          . rw[zak hpep];exact s9 _ _ (k8 _ _ hped (s7 _ _ e6))
          . rw[zak (Cb hpd)];exact s9 _ _ d8
          . rw[hk8];refine decide_eq_decide.mpr ?_
            rw[Dp,List.mem_append];simp
          . rw[Dp,Ai,show [fs].flatten=fs by simp];lia
          . rw[Dp,List.mem_append];rcases (zbu he).mp hf with z |z
            . exact .inl (hall f z)
            . rw[z];refine .inr ?_
              have:=hcl.1.1;simpa using Ag this
    . rintro σ H6 ⟨o4,o5,o6,o7,rfl,s6,e6,kt6,kvs,rs,ESS,R,d6,p6,hR,hP,hkv,hkl,hall⟩;rw[hv5.1,Bb]at hall;have hrl:rs.length<=120:=by rw[hR.1];exact AS hP.few hlen
      have ge:∀(i:Nat) r,R[i]?=some r->R.getD i ⟨"",0,0,[]⟩=r:=λi r h=>by simp only[A6,h,Option.getD_some]
      refine⟨_,rfl,p,rs,λi=>keyV (R.getD i ⟨"",0,0,[]⟩),λi=>keyI (R.getD i ⟨"",0,0,[]⟩),rfl,SqL.of p6,by lia,λi x H7 hx s7=>?_,
        λi j hi hj=>⟨_,_,_,_,_,_,rfl,rfl,.cons (.int _ _) (.cons (.bl _ _) .nil),rfl,rfl⟩,λpp D H7 hpm hpo hD s7 f7=>?_⟩
      . obtain⟨r,hr',hx'⟩:=hR.at hx;refine⟨x,r,rfl,hx'.kt (KT.of s7),λq H8 hq s8 f8=>⟨s8,q,rfl,SqT.of ?_⟩⟩;show H8 q=some (HO.tup (keyV (R.getD i ⟨"",0,0,[]⟩)));rw[ge i r hr'];exact f8
      . have hpl:pp.length=R.length:=by rw[hpm.length_eq,CF,hR.1]
        have hlt:∀i∈pp,i<R.length:=λi hi=>by have:=BA.mp (hpm.mem_iff.mp hi);rw[hR.1]at this;exact this
        have hRR:(pp.map λi=>R.getD i ⟨"",0,0,[]⟩).Perm R:=by
          have h1:=hpm.map λi=>R.getD i (⟨"",0,0,[]⟩:Rnd)
          rw[hR.1]at h1
          have h2:((A0 R.length).map λi=>R.getD i (⟨"",0,0,[]⟩:Rnd))=R:=by
            apply List.ext_getElem
            . simp
            . intro i a b;simp[show i<R.length by simpa using a]
          rw[h2]at h1;exact h1
        have vR:VR (pp.map λi=>rs.getD i V.non) (pp.map λi=>R.getD i ⟨"",0,0,[]⟩) rR H7:=by
          refine⟨by simp,λi r v h1 h2=>?_⟩;rw[Ax]at h1 h2;obtain⟨a,ha,rfl⟩:=A8.mp h1;rw[ha]at h2
          cases h2
          have hal:=hlt a (Ag ha);have hal2:a<rs.length:=by rw[hR.1];exact hal
          have e1:R.getD a ⟨"",0,0,[]⟩=R[a]:=by simp[hal]
          have e2:rs.getD a V.non=rs[a]:=by simp[hal2]
          rw[e1];show rR R[a] (rs.getD a V.non) H7;rw[e2];exact (hR.2 a _ _ (Aa hal) (Aa hal2)).kt (KT.of s7)
        refine k D H7 _ _ R (s6.free hD) (s6.trans s7) f7 vR hRR ?_ ⟨ESS,hP,λe=>⟨hP.isE e,λh=>hall e (zhu.mpr h)⟩⟩
        rw[List.pairwise_map];exact hpo
theorem ziP (T:Txt P w K mg) (g_ask_picture:Fn P w K mg base 2 "ask_picture" ["picture"] (spAsk K)) (g_cell_table:Fn P w K mg base 1 "cell_table" ["picture"] (zgE K)) (g_all_edges:Fn P w K mg base 3 "all_edges" ["picture"] (zkj K))
  (g_rounds_along:Fn P w K mg base 6 "rounds_along" ["table","edges"] (zcR K))
  (d:Df K mg "rounds" zfb ["picture"]):FnOk P w K mg base CX0 7 d.f d.fd ["picture"] (zhe K):=by
 refine d.F.ok zix (λvs H Q E h=>?_) (λcdv A outer s H vs Q E hr h=>?_)
 .obtain⟨a,cs,rfl,_⟩:=h;rfl
 .obtain⟨a,cs,rfl,hLR,hord,hlen,k⟩:=h;have hu1:=hu_of hr
  refine⟨_,(zab (zbv (pC g_ask_picture hr (pa_N (pv 0) zac)))
   (zaf (zaj (pC g_rounds_along hr (zah (pC g_cell_table hr (pa_N (pv 0) zac)) (zah (pC g_all_edges hr (pa_N (pv 0) zac)) zac)))))),?_⟩
  refine⟨_,rfl,a,cs,rfl,hLR,hord,by lia,λH1 s1=>?_⟩;have hLR1:=hLR.same s1 λx v hx=>hx.same s1
  refine⟨_,rfl,a,cs,rfl,hLR1,by lia,λt H2 ht s2 tab=>?_⟩;refine⟨_,rfl,a,cs,rfl,hLR1.same s2 (λx v hx=>hx.same s2),by lia,λpe H5 es hpe s5 e5 hv5=>?_⟩;refine⟨t,pe,cs,es,rfl,tab.same s5,e5,hv5,hlen,λp H' rs R R0 hp sp f1 f2 f3 f4 f5=>?_⟩;exact k p H' rs R R0 (s1.free (s2.free (s5.free hp))) (s1.trans (s2.trans (s5.trans sp))) f1 f2 f3 f4 f5
theorem _root_.RP.Closed.uniq{C:Cell->Bool}{b:Edge}{es fs:List Edge}(h:Closed C b es)(k:Closed C b fs):es=fs:=by
 have lt:∀{es fs:List Edge},Closed C b es->Closed C b fs->¬ es.length<fs.length:=λ{es fs} h k hl=>by have e:=h.it_len;have hp:=h.pos;have g1:=k.1.get es.length hl;have g2:=k.1.get 0 (by lia);rw[e]at g1;have:=(CH (i:=es.length) (j:=0) hl k.1.2.2.2).mp (by rw[g1,g2];rfl);lia
 have hl:es.length=fs.length:=by have:=lt h k;have:=lt k h;lia
 apply Dg
 intro i;rcases AY i es.length with hi |hi
 .rw[h.1.get i hi,k.1.get i (by lia)]
 .rw[BF hi,BF (by lia)]
theorem zfd{α:Type}(l:List α)(j:Nat):(l.drop j++l.take j).Perm l:=by have:=Cu (l₁:=l.drop j) (l₂:=l.take j);rw[Dc]at this;exact this
theorem _root_.RP.Closed.share{C:Cell -> Bool}{b c e:Edge}{es fs:List Edge}(h:Closed C b es)(k:Closed C c fs)(h1:e ∈ es)(h2:e ∈ fs) :
  ∃i j,es[i]?=some e/\fs[j]?=some e/\es.drop i++es.take i=fs.drop j++fs.take j:=by
 obtain⟨i,hi,ei⟩:=AN h1;obtain⟨j,hj,ej⟩:=AN h2;have a1:es[i]?=some e:=by rw[Aa hi,ei]
 have a2:fs[j]?=some e:=by rw[Aa hj,ej]
 exact⟨i,j,a1,a2,(h.rot i a1).uniq (k.rot j a2)⟩
theorem _root_.RP.Closed.perm{C:Cell->Bool}{b c e:Edge}{es fs:List Edge}(h:Closed C b es)(k:Closed C c fs)(h1:e∈es)(h2:e∈fs):es.Perm fs:=by obtain⟨i,j,_,_,q⟩:=h.share k h1 h2;exact (zfd es i).symm.trans (q ▸ zfd fs j)
theorem zbK{C:Cell->Bool}(es:List Edge):(wk C es).map (·.1)=es:=by unfold wk;rw[List.map_map];exact List.map_id' _
theorem zeJ{C:Cell->Bool}{es fs:List Edge}(p:es.Perm fs):sortS (wk C es)=sortS (wk C fs):=by have q:(wk C es).Perm (wk C fs):=p.map _;unfold sortS nL nS;have a:=(q.filter λq=>q.2.isNone).length_eq;have b:=(q.filter λq=>slant q.2).length_eq;rw[a,b]
theorem lex2{a b c d:Int}(h1:HT.lexLt [a,b] [c,d]=false)(h2:HT.lexLt [c,d] [a,b]=false):a=c/\b=d:=by have:=HT.lexLt_total h1 h2;simpa using this
theorem zbW.one{W W':Wk}{s:Str}{e f:Edge}(p:(W.map (·.1)).Perm (W'.map (·.1)))(h:zbW W s e)(k:zbW W' s f):e=f:=by obtain⟨h1,h2,h3⟩:=h;obtain⟨k1,k2,k3⟩:=k;have a:=h3 f (p.mem_iff.mpr k1) k2;have b:=k3 e (p.mem_iff.mp h1) h2;obtain⟨q1,q2⟩:=lex2 a b;obtain⟨⟨x,y⟩,w⟩:=e;obtain⟨⟨x',y'⟩,w'⟩:=f;simp only at q1 q2 h2 k2;rw[h2,k2,q1,q2]
theorem IsRnd.one{C:Cell->Bool}{b c e:Edge}{es fs:List Edge}{r q:Rnd}(h:Closed C b es)(k:Closed C c fs)(h1:e∈es)(h2:e∈fs)(hr:IsRnd (wk C es) r)(hq:IsRnd (wk C fs) q):r=q:=by
 have p:=h.perm k h1 h2;obtain⟨r0,i,f,rf,rb,rx,ry,rr⟩:=hr;obtain⟨q0,j,g,qg,qb,qx,qy,qr⟩:=hq;have ss:=zeJ (C:=C) p;rw[<- ss]at qb;have fg:f=g:=rb.one (by rw[zbK,zbK];exact p) qb;subst fg;rw[zbK]at rf qg;have e1:=(h.rot i rf).uniq (k.rot j qg)
 have e2:(wk C es).drop i++(wk C es).take i=(wk C fs).drop j++(wk C fs).take j:=by unfold wk;rw[<- Da,<- Db,<- AE,e1,AE,Da,Db]
 obtain⟨a1,a2,a3,a4⟩:=r;obtain⟨b1,b2,b3,b4⟩:=q;simp only at r0 rx ry rr q0 qx qy qr;rw[r0,q0,rx,ry,rr,qx,qy,qr,ss,e2]
noncomputable def begE(r:Rnd):Edge:=⟨(r.x,r.y),kOf r.so⟩
theorem IsRnd.beg {C:Cell->Bool}{es:List Edge}{r:Rnd}(h:IsRnd (wk C es) r):begE r∈es/\(r.so = "rim" ∨ r.so = "hole"):=by
 obtain⟨r0,i,f,rf,⟨rb,rw',_⟩,rx,ry,rr⟩:=h;rw[zbK]at rb;refine⟨?_,by rw[r0];exact zbL _⟩
 have:begE r=f:=by obtain⟨⟨x,y⟩,w⟩:=f;unfold begE;rw[rx,ry,r0];simp only at rw' ⊢;rw[rw']
 rw[this];exact rb
theorem Part.got{C:Cell->Bool}{ESS:List (List Edge)}{R:List Rnd}(h:Part C ESS R){i:Nat}{r:Rnd}(hr:R[i]?=some r):∃es b,ESS[i]?=some es/\Closed C b es/\IsRnd (wk C es) r:=by have hi:=(Ae.mp hr).1;rw[h.len]at hi;obtain⟨⟨b,hb⟩,q⟩:=h.each i _ r (Aa hi) hr;exact⟨_,b,Aa hi,hb,q⟩
theorem Part.so {C:Cell->Bool}{ESS:List (List Edge)}{R:List Rnd}(h:Part C ESS R){r:Rnd}(hr:r∈R):r.so = "rim" ∨ r.so = "hole":=by obtain⟨i,hi,ei⟩:=AN hr;obtain⟨es,b,h1,h2,h3⟩:=h.got (by rw[Aa hi,ei]);exact h3.beg.2
noncomputable abbrev InKey(R:List Rnd):Prop:=R.Pairwise (λr q=>HT.lexLt (keyI q) (keyI r)=false)
theorem zfE(s:Nat):∀(l:List Nat) (w:Nat),dgo w (l++[s])=((dgo w l).1++(Af ((zaC s+4-(dgo w l).2) % 4) none++[some s]),wayB s)
 |[],w=>by simp[dgo]
 |a::l,w=>by
  have ih:=zfE s l (wayB a);show (Af ((zaC a+4-w) % 4) none++some a::(dgo (wayB a) (l++[s])).1,(dgo (wayB a) (l++[s])).2)=_;rw[ih];show _=((Af ((zaC a+4-w) % 4) none++some a::(dgo (wayB a) l).1)++_,_);simp;rfl
theorem zeb:∀(l:List Nat) (w:Nat),(dgo w l).1.length<=4*l.length
 |[],w=>by simp[dgo]
 |a::l,w=>by
  have ih:=zeb l (wayB a);show (Af ((zaC a+4-w) % 4) none++some a::(dgo (wayB a) l).1).length<=_;have:(zaC a+4-w) % 4<4:=Ca _ (by decide);simp only[Ai,AR,AV];lia
theorem zea:∀(l:List Nat) (w:Nat),w<4->(dgo w l).2<4
 |[],w,h=>h
 |a::l,w,h=>zea l (wayB a) (Ca _ (by decide))
theorem zii(s:Nat):zaC s<4:=Ca _ (by decide)
theorem zhE(n:Nat):(Af n [V.non]).flatten=(Af n (none:Option Nat)).map sv:=by
 induction n with
 |zero=>rfl
 |succ n ih=>rw[Bd,Bl,ih];rfl
theorem zbb{n:Nat}(h:n<=5000):n<sizeLine:=CZ h (by decide)
theorem zkm:1<=sizeLine:=by decide
noncomputable def zfW:Sp:=λvs H Q _=>∃(v:V) (r:Rnd),vs=[v]/\rR r v H/\(r.so = "rim" ∨ r.so = "hole")/\∀p H',H p=none->Same H H'->H' p=some (.tup (edgeT (begE r)))->Q (.ref p) H'
theorem zfp (T:Txt P w K mg) (d:Df K mg "begin_edge" zcn ["one"]):FnOk P w K mg base CX0 1 d.f d.fd ["one"] zfW:=by
 refine d.F.ok zbi (λvs H Q E h=>?_) (λcdv A outer s H vs Q E hr h=>?_)
 .obtain⟨v,r,rfl,_⟩:=h;rfl
 .obtain⟨v,r,rfl,⟨a,b,rfl,q1,q2⟩,hso,k⟩:=h
  refine⟨_,(zab (zbG (pv 0) (zbl (by rfl) (zag (nG 1 zbi.nd) (zag (nG 2 zbi.nd) (zag (nG 3 zbi.nd) (zag (nG 4 zbi.nd) zay))))))
   (zaf (zaj (zaK (pa_N (pv 2) (pa_N (pv 3) (zah (ziJ (by rfl) T.ways (pv 1)) zac))))))),?_⟩
  refine⟨_,rfl,a,_,rfl,SqT.of q1,rfl,_,_,rfl,_,_,rfl,_,_,rfl,_,_,rfl,rfl,?_⟩;refine⟨_,rfl,_,rfl,_,rfl,?_⟩;rcases hso with e |e
  .refine .inl ⟨by rw[e],three,λp hp=>k p _ hp (Same.up hp) ?_⟩;rw[zaa];unfold begE edgeT kOf;simp only[e];rfl
  .refine .inr ⟨by rw[e],three,λp hp=>k p _ hp (Same.up hp) ?_⟩;rw[zaa];unfold begE edgeT kOf;simp only[e];rfl
noncomputable def zhc:Sp:=λvs H Q _=>∃s:Nat,vs=[.int s]/\Q (.int (zaC s:Nat)) H
theorem zhZ (d:Df K mg "way_for" zdP ["step"]):FnOk P w K mg base CX0 1 d.f d.fd ["step"] zhc:=by
 refine d.F.ok zhV (λvs H Q E h=>?_) (λcdv A outer s H vs Q E hr h=>?_)
 .obtain⟨s,rfl,_⟩:=h;rfl
 .obtain⟨t,rfl,k⟩:=h;refine⟨_,(zaf (zaj (pe_op za6 (pe_op zdc (pe_op zaH (pv 0) zad) zad) zad))),?_⟩;refine⟨_,rfl,_,_,rfl,rfl,_,_,rfl,rfl,⟨by decide,by decide⟩,_,_,rfl,rfl,(by show (0:Int)<4;decide),?_⟩;have e:((t:Int)+1) / 2 % 4=(zaC t:Nat):=by unfold zaC;lia
  show Q (V.int (((t:Int)+1) / 2 % 4)) H;rw[e];exact k
noncomputable def ziu(K:W.Frag):Sp:=λvs H Q _=>∃(wn:Nat) (b:Addr) (row:List Nat),vs=[.int (wn:Int),.ref b]/\wn<4/\SqT K H b (rowV row)/\row.length<=500 /\
 ∀p H',H p=none->Same H H'->H' p=some (.lst ((deeds wn row).map sv))->Q (.ref p) H'
theorem zet (g_way_for:Fn P w K mg base 1 "way_for" ["step"] zhc) (d:Df K mg "deeds_along" zb8 ["begin_way","row"]):FnOk P w K mg base CX0 2 d.f d.fd ["begin_way","row"] (ziu K):=by
 refine d.F.ok zaR (λvs H Q E h=>?_) (λcdv A outer s H vs Q E hr h=>?_)
 .obtain⟨wn,b,row,rfl,_⟩:=h;rfl
 .obtain⟨wn,b,row,rfl,hw,hq,hlen,k⟩:=h
  refine⟨_,(zab (sE 2 zaR.nd (pv 0))
   (zab (sE 3 zaR.nd (zaU zac))
   (zab (zbF Be rfl (zhm (pv 1)) (nG 4 zaR.nd)
   (zab (zbv (pe_bm A3 PySem.F.slot_list_extend PySem.F.type_list_extend zgd (pv 3) (pa_B (pe_op zdY (zaU (pa_C zcr zac)) (pe_op za6 (pe_op zaE (pC g_way_for hr (pa_N (pv 4) zac)) (pv 2)) zad)) zac)))
   (zab (zbv (pe_bm A3 Bi Bj za8 (pv 3) (pa_N (pv 4) zac)))
   (zaf (sE 2 zaR.nd (pe_op za6 (pe_op zaE (pC g_way_for hr (pa_N (pv 4) zac)) (pe_op za6 (pv 4) zad)) zad))))))
   (zab (sE 5 zaR.nd (zfg (zjG (pv 1) (λ_=>rfl)) (pe_op za6 (pe_op zaE (pv 0) (pv 2)) zad) zad))
   (zaf (zaj (pe_op zeO (pv 3) (pe_op zdY (zaU (pa_C zcr zac)) (pv 5))))))))),?_⟩
  refine⟨_,rfl,(by show 0<=sizeLine;decide),λp hp=>?_⟩;have s0:Same H (upd H p (.lst [])):=Same.up hp;have e0:upd H p (.lst []) p=some (.lst []):=zaa;generalize upd H p (.lst [])=H0 at s0 e0;refine⟨_,rfl,b,rfl,⟨_,s0.seqT hq⟩,?_⟩;have hrl:(rowV row).length=row.length:=by unfold rowV;exact Am _
  refine zfB (K:=K) (a:=b) (xs:=rowV row) (λi σ H1=>∃o4 o5,σ=[some (.int (wn:Int)),some (.ref b),some (.int ((dgo wn (row.take i)).2:Nat)),some (.ref p),o4,o5]/\Same H H1/\H1 p=some (.lst ((dgo wn (row.take i)).1.map sv)))
   ⟨_,_,rfl,s0,e0⟩ (λi σ H1 _ ⟨_,_,_,s1,_⟩=>s1.seqT hq) ?_ ?_
  .rintro i v σ H1 hi ⟨o4,o5,rfl,s1,e1⟩;have hi':i<row.length:=by rw[<- hrl];exact (Ae.mp hi).1
   unfold rowV at hi;rw[Ax,Aa hi']at hi
   cases hi
   have hdl:=zeb (row.take i) wn;rw[AL]at hdl;have hdw:=zea (row.take i) wn hw;have hwf:=zii row[i];have hn:=zfE row[i] (row.take i) wn;rw[<- zaL (Aa hi')]at hn;refine⟨_,rfl,.inl ⟨rfl,_,SqL.of e1⟩,zkm,λl hl=>?_⟩;have s2:Same H1 (upd H1 l (.lst [.non])):=Same.up hl;have e2:upd H1 l (.lst [.non]) l=some (.lst [.non]):=zaa;generalize upd H1 l (.lst [.non])=H2 at s2 e2;refine⟨_,rfl,row[i],rfl,?_⟩;refine⟨_,rfl,_,_,rfl,rfl,_,_,rfl,rfl,(by show (0:Int)<4;decide),?_⟩;have ek:(((zaC row[i]:Nat):Int)-((dgo wn (row.take i)).2:Nat)) % 4=(((zaC row[i]+4-(dgo wn (row.take i)).2) % 4:Nat):Int):=by lia
   have k4:(zaC row[i]+4-(dgo wn (row.take i)).2) % 4<4:=Ca _ (by decide);generalize hk:(zaC row[i]+4-(dgo wn (row.take i)).2) % 4=kk at *;refine⟨l,(kk:Int),_,rfl,congrArg V.int ek,e2,by lia,by lia,(Bm (zaF (by simp;lia))),λq hq'=>?_⟩;rw[Int.toNat_natCast,zhE];have s3:Same H2 (upd H2 q (.lst ((Af kk (none:Option Nat)).map sv))):=Same.up hq';have e3:upd H2 q (.lst ((Af kk (none:Option Nat)).map sv)) q=some (.lst ((Af kk (none:Option Nat)).map sv)):=zaa;have hpq:p≠q:=λz=>by subst z;rw[s2 _ _ e1]at hq';cases hq'
   generalize upd H2 q (.lst ((Af kk (none:Option Nat)).map sv))=H3 at s3 e3;have e13:=s3 _ _ (s2 _ _ e1);refine⟨p,q,_,_,rfl,rfl,e13,e3,?_,?_⟩
   .simp only[Am,AR];exact Bm (zbb (by lia))
   have hp2:H p=none:=hp;have s4:Same H (upd H3 p (.lst ((dgo wn (row.take i)).1.map sv++(Af kk (none:Option Nat)).map sv))):=zar hp2 (s1.trans (s2.trans s3));have e4:upd H3 p (.lst ((dgo wn (row.take i)).1.map sv++(Af kk (none:Option Nat)).map sv)) p=some (.lst ((dgo wn (row.take i)).1.map sv++(Af kk (none:Option Nat)).map sv)):=zaa;generalize upd H3 p (.lst ((dgo wn (row.take i)).1.map sv++(Af kk (none:Option Nat)).map sv))=H4 at s4 e4;refine⟨_,rfl,.inl ⟨rfl,_,SqL.of e4⟩,_,rfl,p,_,_,rfl,rfl,e4,?_,?_⟩
   .simp only[Ai,Am,AR];exact zbb (by lia)
   have s5:Same H (upd H4 p (.lst (((dgo wn (row.take i)).1.map sv++(Af kk (none:Option Nat)).map sv)++[V.int (row[i]:Nat)]))):=zar hp2 s4
   have e5:upd H4 p (.lst (((dgo wn (row.take i)).1.map sv++(Af kk (none:Option Nat)).map sv)++[V.int (row[i]:Nat)])) p=some (.lst ((dgo wn (row.take (i+1))).1.map sv)):=by rw[zaa,hn];simp[sv]
   generalize upd H4 p (.lst (((dgo wn (row.take i)).1.map sv++(Af kk (none:Option Nat)).map sv)++[V.int (row[i]:Nat)]))=H5 at s5 e5;refine⟨_,rfl,row[i],rfl,?_⟩;refine⟨_,rfl,_,_,rfl,rfl,(by show (0:Int)<2;decide),_,_,rfl,rfl,_,_,rfl,rfl,(by show (0:Int)<4;decide),?_⟩
   have ew:(((zaC row[i]:Nat):Int)-(row[i]:Int) % 2) % 4=((dgo wn (row.take (i+1))).2:Nat):=by rw[hn];show _=((wayB row[i]:Nat):Int);unfold wayB;lia
   refine⟨some (V.int (row[i]:Nat)),o5,?_,s5,e5⟩;exact congrArg (λz:Int=>[some (V.int (wn:Int)),some (V.ref b),some (V.int z),some (V.ref p),some (V.int (row[i]:Nat)),o5]) ew
  .rintro σ H1 ⟨o4,o5,rfl,s1,e1⟩;rw[hrl,Bb]at e1;rw[hrl,Bb];have hdl:=zeb row wn;have hdw:=zea row wn hw
   have fin:∀z:Int,z=(zan wn row:Nat)->tRet (tOp rCat (tVar 3) (tOp rRep (tLst (tCons (tC .non) tNil)) (tVar 5))) { nx:=λ_ H'=>Q .non H',rt:=Q } [some (.int (wn:Int)),some (.ref b),some (.int ((dgo wn row).2:Nat)),some (.ref p),o4,some (.int z)] H1:=λz hz=>by
    have hll:zan wn row<=4:=by
     unfold zan;split
     .decide
     .exact Bm (Ca _ (by decide))
    refine⟨_,rfl,zkm,λl hl=>?_⟩;have s2:Same H1 (upd H1 l (.lst [.non])):=Same.up hl;have e2:upd H1 l (.lst [.non]) l=some (.lst [.non]):=zaa;generalize upd H1 l (.lst [.non])=H2 at s2 e2;subst hz;refine⟨_,rfl,l,_,_,rfl,rfl,e2,by lia,by lia,(Bm (zaF (by simp;lia))),λq hq'=>?_⟩;rw[Int.toNat_natCast,zhE];have s3:Same H2 (upd H2 q (.lst ((Af (zan wn row) (none:Option Nat)).map sv))):=Same.up hq';have e3:upd H2 q (.lst ((Af (zan wn row) (none:Option Nat)).map sv)) q=some (.lst ((Af (zan wn row) (none:Option Nat)).map sv)):=zaa;generalize upd H2 q (.lst ((Af (zan wn row) (none:Option Nat)).map sv))=H3 at s3 e3;refine⟨p,q,_,_,rfl,rfl,s3 _ _ (s2 _ _ e1),e3,?_,λx hx=>?_⟩
    .simp only[Am,AR];exact Bm (zbb (by lia))
    .have s13:=s1.trans (s2.trans s3);refine k x _ (s13.free hx) (s13.trans (Same.up hx)) ?_
     rw[zaa];unfold deeds;rw[AE]
   refine⟨_,rfl,_,.inr (.inl ⟨_,s1.seqT hq,rfl⟩),?_⟩
   by_cases he:row=[]
   .exact iteN (by rw[he];rfl) (fin 4 (by rw[he];rfl))
   .refine iteY (by cases row with |nil=>exact absurd rfl he |cons x r=>rfl) ⟨_,rfl,_,rfl,_,_,rfl,rfl,_,_,rfl,rfl,(by show (0:Int)<4;decide),fin _ ?_⟩
    have hl:zan wn row=(wn+4-(dgo wn row).2) % 4:=by unfold zan;rw[if_neg (by simpa using he)]
    rw[hl];lia
noncomputable def wby:Edge->List (Option Nat)->List (Edge×Option Nat)
 |_,[]=>[]
 |e,d::r=>(e,d)::wby (edgeB e d) r
noncomputable def eAt:Edge->List (Option Nat)->Edge
 |e,[]=>e
 |e,d::r=>eAt (edgeB e d) r
theorem zhI(d:Option Nat):∀(l:List (Option Nat)) (e:Edge),eAt e (l++[d])=edgeB (eAt e l) d
 |[],_=>rfl
 |_::l,e=>zhI d l _
theorem zg6(d:Option Nat):∀(l:List (Option Nat)) (e:Edge),wby e (l++[d])=wby e l++[(eAt e l,d)]
 |[],_=>rfl
 |a::l,e=>by
  show (e,a)::wby (edgeB e a) (l++[d])=_;rw[zg6 d l];rfl
theorem zeE:∀(l:List (Option Nat)) (e:Edge),(wby e l).length=l.length
 |[],_=>rfl
 |a::l,e=>by show (wby (edgeB e a) l).length+1=_;rw[zeE l];rfl
theorem zj4{e:Edge}{o:Option Nat}(h:e.w<4):(edgeB e o).w<4:=by
 unfold edgeB
 cases o with
 |none=>exact Ca _ (by decide)
 |some s=>simp only;split <;> simp only <;> lia
theorem zks:∀(l:List (Option Nat)){e:Edge},e.w<4->(eAt e l).w<4
 |[],_,h=>h
 |_::l,_,h=>zks l (zj4 h)
theorem zdB{C:Cell->Bool}:∀(es:List Edge){b:Edge},es[0]?=some b∨es=[]->(∀i e f,es[i]?=some e->es[i+1]?=some f->f=nxt C e)->wby b (es.map (stepB C))=wk C es
 |[],_,_,_=>rfl
 |e::r,b,h0,hs=>by
  have hb:e=b:=by rcases h0 with h |h;simpa using h;cases h
  subst hb;show (e,stepB C e)::wby (nxt C e) (r.map (stepB C))=(e,stepB C e)::wk C r;rw[zdB r (b:=nxt C e) ?_ λi x y h1 h2=>hs (i+1) x y (by simpa using h1) (by simpa using h2)]
  cases r with
  |nil=>exact .inr rfl
  |cons f r=>exact .inl (by have:=hs 0 e f rfl rfl;rw[<- this];rfl)
noncomputable def ze5(K:W.Frag):Sp:=λvs H Q _=>∃(a l:Addr) (b:Edge) (ds:List (Option Nat)),vs=[.ref a,.ref l]/\H a=some (.tup (edgeT b))/\b.w<4/\H l=some (.lst (ds.map sv))/\(∀s,some s∈ds->s<8)/\ds.length<=3000 /\
 ∀p H' ws,H p=none->Same H H'->H' p=some (.lst ws)->VR ws (wby b ds) wR H'->Q (.ref p) H'
theorem zh1 (g_edge_behind:Fn P w K mg base 2 "edge_behind" ["edge","step"] (zdH K)) (d:Df K mg "walk_by" zdR ["begin","deeds"]):FnOk P w K mg base CX0 3 d.f d.fd ["begin","deeds"] (ze5 K):=by
 refine d.F.ok zbX (λvs H Q E h=>?_) (λcdv A outer s H vs Q E hr h=>?_)
 .obtain⟨a,l,b,ds,rfl,_⟩:=h;rfl
 .obtain⟨a,l,b,ds,rfl,ha,hb,hl,h8,hlen,k⟩:=h
  refine⟨_,(zab (sE 2 zbX.nd (zaU zac))
   (zab (sE 3 zbX.nd (pv 0))
   (zab (zbF Be rfl (zaN (pv 1)) (nG 4 zbX.nd)
   (zab (zbv (pe_bm A3 Bi Bj za8 (pv 2) (pa_T (zaK (pa_N (pv 3) (pa_N (pv 4) zac))) zac)))
   (zaf (sE 3 zbX.nd (pC g_edge_behind hr (pa_N (pv 3) (pa_N (pv 4) zac)))))))
   (zaf (zaj (pv 2)))))),?_⟩
  refine⟨(by show 0<=sizeLine;decide),λp hp=>?_⟩;have s0:Same H (upd H p (.lst [])):=Same.up hp;have e0:upd H p (.lst []) p=some (.lst []):=zaa;generalize upd H p (.lst [])=H0 at s0 e0;refine⟨_,rfl,_,rfl,l,rfl,⟨_,SqL.of (s0 _ _ hl)⟩,?_⟩
  refine zax (K:=K) (a:=l) (xs:=ds.map sv) (λi σ H1=>∃(c:Addr) (o4:Option V) (ws:List V),σ=[some (.ref a),some (.ref l),some (.ref p),some (.ref c),o4]/\Same H H1/\H1 c=some (.tup (edgeT (eAt b (ds.take i))))/\H1 p=some (.lst ws)/\VR ws (wby b (ds.take i)) wR H1)
   ⟨a,_,[],rfl,s0,s0 _ _ ha,e0,VR.nil⟩ (λi σ H1 _ ⟨_,_,_,_,s1,_⟩=>SqL.of (s1 _ _ hl)) ?_ ?_
  .rintro i v σ H1 hi ⟨c,o4,ws,rfl,s1,hc,e1,hv⟩;have hi':i<ds.length:=by have:=(Ae.mp hi).1;rwa [Am]at this
   rw[Ax,Aa hi']at hi
   cases hi
   have tk:=zaL (Aa hi');have wl:ws.length<=3000:=by rw[hv.1,zeE,AL];lia
   refine⟨_,rfl,.inl ⟨rfl,_,SqL.of e1⟩,_,rfl,_,rfl,two,λt ht=>?_⟩;have s2:Same H1 (upd H1 t (.tup [.ref c,sv ds[i]])):=Same.up ht;have e2:upd H1 t (.tup [.ref c,sv ds[i]]) t=some (.tup [.ref c,sv ds[i]]):=zaa;generalize upd H1 t (.tup [.ref c,sv ds[i]])=H2 at s2 e2;have e12:=s2 _ _ e1;refine⟨p,ws,_,rfl,rfl,e12,zbb (by lia),?_⟩;have kt3:KT H2 (upd H2 p (.lst (ws++[.ref t]))):=KT.lst e12;have s3:Same H (upd H2 p (.lst (ws++[.ref t]))):=zar hp (s1.trans s2);have e3:upd H2 p (.lst (ws++[.ref t])) p=some (.lst (ws++[.ref t])):=zaa;generalize upd H2 p (.lst (ws++[.ref t]))=H3 at kt3 s3 e3;have hc3:=kt3 _ _ (s2 _ _ hc);refine⟨_,rfl,_,rfl,c,eAt b (ds.take i),ds[i],rfl,SqT.of hc3,zks _ hb,λz hz=>h8 z (hz ▸ A9 _),λq H4 hq s4 e4=>?_⟩;refine⟨q,_,ws++[.ref t],rfl,s3.trans s4,?_,s4 _ _ e3,?_⟩
   .rw[tk,zhI];exact e4
   .rw[tk,zg6];exact hv.snoc (λx v h=>((h.kt (KT.of s2)).kt kt3).kt (KT.of s4)) ⟨t,c,rfl,s4 _ _ (kt3 _ _ e2),s4 _ _ hc3⟩
  .rintro σ H1 ⟨c,o4,ws,rfl,s1,hc,e1,hv⟩;rw[Am,Bb]at hv;exact⟨_,rfl,k p H1 ws hp s1 e1 hv⟩
noncomputable def zdE(K:W.Frag):Sp:=λvs H Q _=>∃(a b:Addr) (e:Edge) (row:List Nat),vs=[.ref a,.ref b]/\H a=some (.tup (edgeT e))/\e.w<4/\SqT K H b (rowV row)/\row.length<=500/\(∀s,some s∈deeds e.w row->s<8) /\
 ∀p H' ws,H p=none->Same H H'->H' p=some (.lst ws)->VR ws (wby e (deeds e.w row)) wR H'->Q (.ref p) H'
theorem zfi (g_walk_by:Fn P w K mg base 3 "walk_by" ["begin","deeds"] (ze5 K)) (g_deeds_along:Fn P w K mg base 2 "deeds_along" ["begin_way","row"] (ziu K)) (d:Df K mg "walk_along" zch ["begin","row"]):FnOk P w K mg base CX0 4 d.f d.fd ["begin","row"] (zdE K):=by
 refine d.F.ok ze7 (λvs H Q E h=>?_) (λcdv A outer s H vs Q E hr h=>?_)
 .obtain⟨a,b,e,row,rfl,_⟩:=h;rfl
 .obtain⟨a,b,e,row,rfl,ha,hw,hq,hlen,h8,k⟩:=h;refine⟨_,(zaf (zaj (pC g_walk_by hr (pa_N (pv 0) (zah (pC g_deeds_along hr (zah (pe_ix zaI (pv 0) zad (λ_ _=>rfl)) (pa_N (pv 1) zac))) zac))))),?_⟩;refine⟨_,rfl,_,rfl,a,_,_,_,rfl,rfl,SqT.of ha,zai (j:=2) rfl,_,rfl,e.w,b,row,rfl,hw,hq,hlen,λp H1 hp s1 e1=>?_⟩
  have hd:(deeds e.w row).length<=3000:=by
   unfold deeds;have:=zeb row e.w
   have:zan e.w row<=4:=by
    unfold zan;split
    .decide
    .exact Bm (Ca _ (by decide))
   simp only[Ai,AR];lia
  exact⟨a,p,e,_,rfl,s1 _ _ ha,hw,e1,h8,hd,λq H2 ws hq2 s2 e2 hv=>k q H2 ws (s1.free hq2) (s1.trans s2) e2 hv⟩
noncomputable def sR(q:Cell×Bool)(v:V)(H:Hp):Prop:=∃A b,v=.ref A/\H A=some (.tup [.ref b,.bl q.2])/\H b=some (.tup (cellT q.1))
theorem sR.kt{q:Cell×Bool}{v:V}{H H':Hp}(h:sR q v H)(s:KT H H'):sR q v H':=let ⟨A,b,e,q1,q2⟩:=h;⟨A,b,e,s _ _ q1,s _ _ q2⟩
noncomputable def zkh(K:W.Frag):Sp:=λvs H Q _=>∃(a:Addr) (C:Cell->Bool) (e:Edge),vs=[.ref a,sv (stepB C e)]/\H a=some (.tup (edgeT e))/\IsE C e /\
 ∀p H' ss L,H p=none->Same H H'->H' p=some (.lst ss)->VR ss L sR H'->(∀q∈L,C q.1=q.2)->L.length<=6->Q (.ref p) H'
theorem zdZ (g_edge_behind:Fn P w K mg base 2 "edge_behind" ["edge", "step"] (zdH K)) (g_gap_beside:Fn P w K mg base 2 "gap_beside" ["edge"] (spGap K)) (g_is_slant:Fn P w K mg base 1 "is_slant" ["step"] zcS)
  (g_gone:Fn P w K mg base 1 "gone" ["x","y","step"] zfV) (g_slant_step:Fn P w K mg base 1 "slant_step" ["way"] zgF) (g_straight_step:Fn P w K mg base 1 "straight_step" ["way"] zcz)
  (d:Df K mg "seen_between" zbO ["edge","step"]):FnOk P w K mg base CX0 3 d.f d.fd ["edge","step"] (zkh K):=by
 refine d.F.ok zaM (λvs H Q E h=>?_) (λcdv A outer s H vs Q E hr h=>?_)
 .obtain⟨a,C,e,rfl,_⟩:=h;rfl
 .obtain⟨a,C,e,rfl,ha,hE,k⟩:=h
  refine⟨_,(zab (zbG (pv 0) (zbl (by rfl) (zag (nG 2 zaM.nd) (zag (nG 3 zaM.nd) (zag (nG 4 zaM.nd) zay)))))
   (zab (sE 5 zaM.nd (pC g_edge_behind hr (pa_N (pv 0) (pa_N (pv 1) zac))))
   (zab (sE 6 zaM.nd (zaU (pa_T (zaK (pa_T (zaK (pa_N (pv 2) (pa_N (pv 3) zac))) (pa_C pe_bl zac))) (pa_T (zaK (zah (pC g_gap_beside hr (pa_N (pv 0) zac)) (pa_C pe_bl zac))) (pa_T (zaK (zah (zbN zdK (pv 5) zc9 (zbT zad)) (pa_C pe_bl zac))) (pa_T (zaK (zah (pC g_gap_beside hr (pa_N (pv 5) zac)) (pa_C pe_bl zac))) zac))))))
   (zab (ps_if (zdV (zcF (pC g_is_slant hr (pa_N (pv 1) zac))))
   (zaf (zbv (pe_bm A3 Bi Bj za8 (pv 6) (pa_T (zaK (zah (pC g_gone hr (pa_N (pv 2) (pa_N (pv 3) (zah (pC g_slant_step hr (pa_N (pv 4) zac)) zac)))) (pa_C pe_bl zac))) zac))))
   zaw)
   (zab (ps_if (zau ziM (pv 1) zcr (zap _))
   (zaf (zbv (pe_bm A3 Bi Bj za8 (pv 6) (pa_T (zaK (zah (pC g_gone hr (pa_N (pv 2) (pa_N (pv 3) (zah (pC g_straight_step hr (pa_N (pv 4) zac)) zac)))) (pa_C pe_bl zac))) zac))))
   zaw)
   (zaf (zaj (pv 6)))))))),?_⟩
  have hw:=hE.1;have hN:=zeP hE;refine⟨_,rfl,a,_,rfl,SqT.of ha,rfl,_,_,rfl,_,_,rfl,_,_,rfl,rfl,?_⟩;refine⟨_,rfl,_,rfl,a,e,stepB C e,rfl,SqT.of ha,hw,zcy hw,λp1 H1 hp1 s1 e1=>?_⟩;change H1 p1=some (.tup (edgeT (nxt C e))) at e1;refine⟨_,rfl,_,rfl,two,λt1 ht1=>⟨two,λt2 ht2=>?_⟩⟩;have s2:Same H1 (upd (upd H1 t1 (.tup [.int e.c.1,.int e.c.2])) t2 (.tup [.ref t1,.bl true])):=(Same.up ht1).trans (Same.up ht2);have r1:sR (e.c,true) (.ref t2) (upd (upd H1 t1 (.tup [.int e.c.1,.int e.c.2])) t2 (.tup [.ref t1,.bl true])):=⟨t2,t1,rfl,zaa,by rw[zak (λz=>by subst z;rw[zaa]at ht2;cases ht2),zaa];rfl⟩;generalize upd (upd H1 t1 (.tup [.int e.c.1,.int e.c.2])) t2 (.tup [.ref t1,.bl true])=H2 at s2 r1;refine⟨_,rfl,a,e,rfl,SqT.of ((s1.trans s2) _ _ ha),hw,λp3 H3 hp3 s3 e3=>⟨two,λt3 ht3=>?_⟩⟩;have s4:Same H3 (upd H3 t3 (.tup [.ref p3,.bl false])):=Same.up ht3;have r2:sR (gap e,false) (.ref t3) (upd H3 t3 (.tup [.ref p3,.bl false])):=⟨t3,p3,rfl,zaa,s4 _ _ e3⟩;generalize upd H3 t3 (.tup [.ref p3,.bl false])=H4 at s4 r2;have s14:=s2.trans (s3.trans s4);have e14:=s14 _ _ e1;have hs1:HT.sIx 3 3 (some 2)=2:=by decide
  refine⟨_,rfl,_,rfl,p1,_,rfl,SqT.of e14,λhx=>absurd (show (3:Nat)=2 from hx.2.symm.trans hs1) (by decide),λ_ t5 ht5=>⟨two,λt6 ht6=>?_⟩⟩;have ec:cutV (edgeT (nxt C e)) none (some 2)=cellT (nxt C e).c:=rfl;have s6:Same H4 (upd (upd H4 t5 (.tup (cutV (edgeT (nxt C e)) none (some 2)))) t6 (.tup [.ref t5,.bl true])):=(Same.up ht5).trans (Same.up ht6);have r3:sR ((nxt C e).c,true) (.ref t6) (upd (upd H4 t5 (.tup (cutV (edgeT (nxt C e)) none (some 2)))) t6 (.tup [.ref t5,.bl true])):=⟨t6,t5,rfl,zaa,by rw[zak (λz=>by subst z;rw[zaa]at ht6;cases ht6),zaa,ec]⟩;generalize upd (upd H4 t5 (.tup (cutV (edgeT (nxt C e)) none (some 2)))) t6 (.tup [.ref t5,.bl true])=H6 at s6 r3;refine⟨_,rfl,p1,nxt C e,rfl,SqT.of (s6 _ _ e14),hN.1,λp7 H7 hp7 s7 e7=>⟨two,λt7 ht7=>?_⟩⟩;have s8:Same H7 (upd H7 t7 (.tup [.ref p7,.bl false])):=Same.up ht7;have r4:sR (gap (nxt C e),false) (.ref t7) (upd H7 t7 (.tup [.ref p7,.bl false])):=⟨t7,p7,rfl,zaa,s8 _ _ e7⟩;generalize upd H7 t7 (.tup [.ref p7,.bl false])=H8 at s8 r4;refine⟨(by show 4<=sizeLine;decide),λl hl=>?_⟩;have s48:=s6.trans (s7.trans s8);have s28:=s3.trans (s4.trans s48);have s08:=s1.trans (s2.trans s28);have kl:KT H8 (upd H8 l (.lst [.ref t2,.ref t3,.ref t6,.ref t7])):=KT.up hl;have sl:Same H (upd H8 l (.lst [.ref t2,.ref t3,.ref t6,.ref t7])):=s08.trans (Same.up hl);have el:upd H8 l (.lst [.ref t2,.ref t3,.ref t6,.ref t7]) l=some (.lst [.ref t2,.ref t3,.ref t6,.ref t7]):=zaa;have hl0:H l=none:=s08.free hl
  have hv:VR [.ref t2,.ref t3,.ref t6,.ref t7] [(e.c,true),(gap e,false),((nxt C e).c,true),(gap (nxt C e),false)] sR (upd H8 l (.lst [.ref t2,.ref t3,.ref t6,.ref t7])) :=
   VR.cons.mpr ⟨(r1.kt (KT.of s28)).kt kl,VR.cons.mpr ⟨(r2.kt (KT.of s48)).kt kl,VR.cons.mpr ⟨(r3.kt (KT.of (s7.trans s8))).kt kl,VR.cons.mpr ⟨r4.kt kl,VR.nil⟩⟩⟩⟩
  generalize upd H8 l (.lst [.ref t2,.ref t3,.ref t6,.ref t7])=H9 at kl sl el hv
  have hL:∀q∈[(e.c,true),(gap e,false),((nxt C e).c,true),(gap (nxt C e),false)],C q.1=q.2:=by
   intro q hq;simp only[List.mem_cons,List.not_mem_nil,or_false]at hq;rcases hq with rfl |rfl |rfl |rfl
   .exact hE.2.1
   .exact hE.2.2
   .exact hN.2.1
   .exact hN.2.2
  rcases za7 hE with⟨c1,hs,_⟩ |⟨c1,c2,hs,_⟩ |⟨c1,c2,hs,_⟩ <;> rw[hs]
  .refine⟨_,rfl,some ((2*e.w+7) % 8),rfl,_,rfl,?_⟩;have:slant (some ((2*e.w+7) % 8))=true:=by show ((2*e.w+7) % 8 % 2 == 1)=true;rw[odd7];rfl
   rw[this];refine iteF ?_
   refine⟨_,rfl,rfl,_,rfl,iteF ?_⟩;exact⟨_,rfl,k l H9 _ _ hl0 sl el hv hL (by show 4<=6;decide)⟩
  .refine⟨_,rfl,some (2*e.w),rfl,_,rfl,?_⟩;have:slant (some (2*e.w))=false:=by show ((2*e.w) % 2 == 1)=false;rw[show 2*e.w % 2=0 by lia];rfl
   rw[this];refine iteT ?_
   refine⟨_,rfl,.inl ⟨rfl,_,SqL.of el⟩,_,rfl,_,rfl,_,rfl,e.w,rfl,hw,e.c,(2*e.w+7) % 8,rfl,Ca _ (by decide),λp10 H10 hp10 s10 e10=>⟨two,λt11 ht11=>?_⟩⟩;have s11:Same H10 (upd H10 t11 (.tup [.ref p10,.bl false])):=Same.up ht11;have r5:sR (go e.c ((2*e.w+7) % 8),false) (.ref t11) (upd H10 t11 (.tup [.ref p10,.bl false])):=⟨t11,p10,rfl,zaa,s11 _ _ e10⟩;generalize upd H10 t11 (.tup [.ref p10,.bl false])=H11 at s11 r5;have el11:=(s10.trans s11) _ _ el;refine⟨l,_,_,rfl,rfl,el11,zbb (by show 4<=5000;decide),?_⟩;have kt12:KT H11 (upd H11 l (.lst ([.ref t2,.ref t3,.ref t6,.ref t7]++[.ref t11]))):=KT.lst el11;have s12:Same H (upd H11 l (.lst ([.ref t2,.ref t3,.ref t6,.ref t7]++[.ref t11]))):=zar hl0 (sl.trans (s10.trans s11));have e12:upd H11 l (.lst ([.ref t2,.ref t3,.ref t6,.ref t7]++[.ref t11])) l=some (.lst ([.ref t2,.ref t3,.ref t6,.ref t7]++[.ref t11])):=zaa;have hv12:=hv.snoc (λx v h=>(h.kt (KT.of (s10.trans s11))).kt kt12) (r5.kt kt12);generalize upd H11 l (.lst ([.ref t2,.ref t3,.ref t6,.ref t7]++[.ref t11]))=H12 at kt12 s12 e12 hv12;refine⟨_,rfl,rfl,_,rfl,iteF ?_⟩;refine⟨_,rfl,k l H12 _ _ hl0 s12 e12 hv12 (λq hq=>?_) (by show 5<=6;decide)⟩;rcases AT.mp hq with m |m
   .exact hL q m
   .rw[Ar.mp m];exact c1
  .refine⟨_,rfl,none,rfl,_,rfl,iteT ?_⟩;refine⟨_,rfl,.inl ⟨rfl,_,SqL.of el⟩,_,rfl,_,rfl,_,rfl,e.w,rfl,hw,e.c,(2*e.w+7) % 8,rfl,Ca _ (by decide),λp10 H10 hp10 s10 e10=>⟨two,λt11 ht11=>?_⟩⟩;have s11:Same H10 (upd H10 t11 (.tup [.ref p10,.bl false])):=Same.up ht11;have r5:sR (go e.c ((2*e.w+7) % 8),false) (.ref t11) (upd H10 t11 (.tup [.ref p10,.bl false])):=⟨t11,p10,rfl,zaa,s11 _ _ e10⟩;generalize upd H10 t11 (.tup [.ref p10,.bl false])=H11 at s11 r5;have el11:=(s10.trans s11) _ _ el;refine⟨l,_,_,rfl,rfl,el11,zbb (by show 4<=5000;decide),?_⟩;have kt12:KT H11 (upd H11 l (.lst ([.ref t2,.ref t3,.ref t6,.ref t7]++[.ref t11]))):=KT.lst el11;have s12:Same H (upd H11 l (.lst ([.ref t2,.ref t3,.ref t6,.ref t7]++[.ref t11]))):=zar hl0 (sl.trans (s10.trans s11));have e12:upd H11 l (.lst ([.ref t2,.ref t3,.ref t6,.ref t7]++[.ref t11])) l=some (.lst ([.ref t2,.ref t3,.ref t6,.ref t7]++[.ref t11])):=zaa;have hv12:=hv.snoc (λx v h=>(h.kt (KT.of (s10.trans s11))).kt kt12) (r5.kt kt12);generalize upd H11 l (.lst ([.ref t2,.ref t3,.ref t6,.ref t7]++[.ref t11]))=H12 at kt12 s12 e12 hv12;refine⟨_,rfl,rfl,_,rfl,iteT ?_⟩;refine⟨_,rfl,.inl ⟨rfl,_,SqL.of e12⟩,_,rfl,_,rfl,_,rfl,e.w,rfl,hw,e.c,2*e.w,rfl,by lia,λp13 H13 hp13 s13 e13=>⟨two,λt14 ht14=>?_⟩⟩;have s14':Same H13 (upd H13 t14 (.tup [.ref p13,.bl false])):=Same.up ht14;have r6:sR (go e.c (2*e.w),false) (.ref t14) (upd H13 t14 (.tup [.ref p13,.bl false])):=⟨t14,p13,rfl,zaa,s14' _ _ e13⟩;generalize upd H13 t14 (.tup [.ref p13,.bl false])=H14 at s14' r6;have e14':=(s13.trans s14') _ _ e12;refine⟨l,_,_,rfl,rfl,e14',zbb (by show 5<=5000;decide),?_⟩;have kt15:KT H14 (upd H14 l (.lst (([.ref t2,.ref t3,.ref t6,.ref t7]++[.ref t11])++[.ref t14]))):=KT.lst e14';have s15:Same H (upd H14 l (.lst (([.ref t2,.ref t3,.ref t6,.ref t7]++[.ref t11])++[.ref t14]))):=zar hl0 (s12.trans (s13.trans s14'));have e15:upd H14 l (.lst (([.ref t2,.ref t3,.ref t6,.ref t7]++[.ref t11])++[.ref t14])) l=some (.lst (([.ref t2,.ref t3,.ref t6,.ref t7]++[.ref t11])++[.ref t14])):=zaa;have hv15:=hv12.snoc (λx v h=>(h.kt (KT.of (s13.trans s14'))).kt kt15) (r6.kt kt15);refine⟨_,rfl,k l _ _ _ hl0 s15 e15 hv15 (λq hq=>?_) (by show 6<=6;decide)⟩;rcases AT.mp hq with m |m
   .rcases AT.mp m with m |m
    .exact hL q m
    .rw[Ar.mp m];exact c1
   .rw[Ar.mp m];exact c2
noncomputable def Known(C:Cell->Bool)(kvs:List (List Key×V)):Prop:=∀c v,valV kvs (kC c)=some v->v=.bl (C c)
noncomputable def zeI(K:W.Frag):Sp:=λvs H Q _=>∃(a:Addr) (C:Cell->Bool) (es:List Edge),vs=[.ref a]/\LR K H a (wk C es) wR/\(∀e∈es,IsE C e)/\es.length<=500/\∀H',Same H H'->Q .non H'
theorem zer (g_seen_between:Fn P w K mg base 3 "seen_between" ["edge","step"] (zkh K)) (d:Df K mg "gainsaid_at" zb6 ["walk"]):FnOk P w K mg base CX0 4 d.f d.fd ["walk"] (zeI K):=by
 refine d.F.ok zaA (λvs H Q E h=>?_) (λcdv A outer s H vs Q E hr h=>?_)
 .obtain⟨a,C,es,rfl,_⟩:=h;rfl
 .obtain⟨a,C,es,rfl,hLR,hE,hlen,k⟩:=h;have hu1:=hu_of hr
  refine⟨_,(zab (sE 1 zaA.nd zho)
   (zab (sE 2 zaA.nd zad)
   (zab (zbF Be rfl (zaN (pv 0)) (zbl (by rfl) (zag (nG 3 zaA.nd) (zag (nG 4 zaA.nd) zay)))
   (zab (zbF Be rfl (zaN (pC g_seen_between hr (pa_N (pv 3) (pa_N (pv 4) zac)))) (zbl (by rfl) (zag (nG 5 zaA.nd) (zag (nG 6 zaA.nd) zay)))
   (zaf (ps_if (zau op_ne (zjJ hu1 (pv 1) (pv 5) (pv 6) ⟨rfl,rfl,rfl,rfl⟩) (pv 6) (zap _))
   (zaf (zaj (pv 2)))
   zaw)))
   (zaf (ps_if (zau zfh (pv 4) zcr (zap _))
   (zaf (zly (i:=2) zaA.nd (by rfl) (Or.inl rfl) zad zlO))
   zaw))))
   (zaf (zaj zcr))))),?_⟩
  obtain⟨ws,hq,hv⟩:=hLR.vr;have hwl:ws.length=es.length:=by rw[hv.1,zbe]
  refine λdd hdd=>?_
  have s0:Same H (upd H dd (.dT [])):=Same.up hdd;have d0:upd H dd (.dT []) dd=some (.dT []):=zaa;generalize upd H dd (.dT [])=H0 at s0 d0;refine⟨_,rfl,a,rfl,⟨_,s0.seq hq⟩,?_⟩
  refine zax (K:=K) (a:=a) (xs:=ws) (λi σ H1=>∃(n:Int) (o3 o4 o5 o6:Option V) (kvs:List (List Key×V)),σ=[some (.ref a),some (.ref dd),some (.int n),o3,o4,o5,o6]/\Same H H1/\H1 dd=some (.dT kvs)/\Known C kvs/\kvs.length<=6*i)
   ⟨_,_,_,_,_,[],rfl,s0,d0,(λc v h=>by cases h),AU _⟩ (λi σ H1 _ ⟨_,_,_,_,_,_,_,s1,_⟩=>s1.seq hq) ?_ ?_
  .rintro i v σ H1 hi ⟨n,o3,o4,o5,o6,kvs,rfl,s1,d1,hk,hkl⟩;obtain⟨⟨e,st⟩,he,B,b,rfl,q1,q2⟩:=hv.at hi;have hi':i<es.length:=by rw[<- hwl];exact (Ae.mp hi).1
   have he':es[i]?=some e/\st=stepB C e:=by
    unfold wk at he;rw[Ax]at he;obtain⟨g,hg,eg⟩:=A8.mp he
    cases eg
    exact⟨hg,rfl⟩
   obtain⟨he1,rfl⟩:=he';have hEe:=hE e (Ag he1);refine⟨B,_,rfl,SqT.of (s1 _ _ q1),rfl,_,_,rfl,_,_,rfl,rfl,?_⟩;refine⟨_,rfl,_,rfl,b,C,e,rfl,s1 _ _ q2,hEe,λp H2 ss L hp s2 e2 hs2 hL hLl=>?_⟩;have hpd:p≠dd:=λz=>by subst z;rw[d1]at hp;cases hp
   have d2:=s2 _ _ d1;refine⟨p,rfl,⟨_,SqL.of e2⟩,?_⟩
   refine zax (K:=K) (a:=p) (xs:=ss) (λj σ H3=>∃(o5 o6:Option V) (kv3:List (List Key×V)),σ=[some (.ref a),some (.ref dd),some (.int n),some (.ref b),some (sv (stepB C e)),o5,o6]/\(∀z o,z≠dd->H2 z=some o->H3 z=some o)/\H3 dd=some (.dT kv3)/\Known C kv3/\kv3.length<=6*i+j)
    ⟨_,_,kvs,rfl,(λz o _ h=>h),d2,hk,by lia⟩ (λj σ H3 _ ⟨_,_,_,_,k3,_⟩=>SqL.of (k3 _ _ hpd e2)) ?_ ?_
   .rintro j u σ H3 hj ⟨o5,o6,kv3,rfl,k3,d3,hk3,hl3⟩;obtain⟨⟨c,t⟩,hq',A2,b2,rfl,r1,r2⟩:=hs2.at hj;have hjl:j<L.length:=by rw[<- hs2.1];exact (Ae.mp hj).1
    have hct:C c=t:=hL _ (Ag hq');have nA:A2≠dd:=ne_of r1 d2 (λz=>nomatch z);have nb:b2≠dd:=ne_of r2 d2 (λz=>nomatch z);refine⟨A2,_,rfl,SqT.of (k3 _ _ nA r1),rfl,_,_,rfl,_,_,rfl,rfl,?_⟩;refine⟨_,rfl,dd,rfl,.inr ⟨_,Rd.of d3⟩,_,rfl,_,rfl,kv3,kC c,b2,d3,rfl,k3 _ _ nb r2,zbb (by lia),λv hv'=>?_,λhn=>?_⟩
    .have hv2:v=.bl t:=by rw[hk3 c v hv',hct]
     subst hv2;refine⟨_,rfl,rfl,_,rfl,iteN (by simp) ?_⟩;exact⟨_,_,kv3,rfl,k3,d3,hk3,by lia⟩
    .refine⟨_,rfl,rfl,_,rfl,iteN (by simp) ?_⟩;refine⟨_,_,putK kv3 (kC c) (.bl t),rfl,(λz o hz h=>by rw[zak hz];exact k3 z o hz h),zaa,(λc' v' hv'=>?_),AS (zaV _ _ _) (by lia)⟩;rw[zeY]at hv'
     by_cases ec:c'=c
     .subst ec;rw[if_pos rfl]at hv'
      cases hv'
      rw[hct]
     .rw[if_neg (λz=>ec (zi0.mp z))]at hv';exact hk3 c' v' hv'
   .rintro σ H3 ⟨o5,o6,kv3,rfl,k3,d3,hk3,hl3⟩;have s3:Same H H3:=λz o h=>k3 z o (zal h hdd) (s2 _ _ (s1 _ _ h))
    have hl4:kv3.length<=6*(i+1):=by have:=hs2.1;lia
    cases hst:stepB C e with
    |none =>
     refine⟨_,rfl,rfl,_,rfl,iteF ?_⟩;exact⟨_,_,_,_,_,kv3,rfl,s3,d3,hk3,hl4⟩
    |some z =>
     refine⟨_,rfl,rfl,_,rfl,iteT ?_⟩;refine⟨_,rfl,_,_,rfl,rfl,?_⟩;exact⟨_,_,_,_,_,kv3,rfl,s3,d3,hk3,hl4⟩
  .rintro σ H1 ⟨n,o3,o4,o5,o6,kvs,rfl,s1,d1,hk,hkl⟩;exact k H1 s1
theorem zj9{α:Type}{xs:List α}(h:0<xs.length):atI xs (-1)=xs[xs.length-1]?:=by unfold atI ixN;rw[if_neg (by decide),if_pos (by lia)];show xs[((-1:Int)+xs.length).toNat]?=_;rw[show ((-1:Int)+xs.length).toNat=xs.length-1 by lia]
noncomputable def ziv(K:W.Frag):Sp:=λvs H Q _=>∃(a:Addr) (C:Cell->Bool) (b:Edge) (es:List Edge),vs=[.ref a]/\LR K H a (wk C es) wR/\Closed C b es/\es.length<=500/\∀H',Same H H'->Q (.bl true) H'
theorem zfm (g_edge_behind:Fn P w K mg base 2 "edge_behind" ["edge","step"] (zdH K)) (d:Df K mg "comes_back" zcl ["walk"]):FnOk P w K mg base CX0 3 d.f d.fd ["walk"] (ziv K):=by
 refine d.F.ok zb3 (λvs H Q E h=>?_) (λcdv A outer s H vs Q E hr h=>?_)
 .obtain⟨a,C,b,es,rfl,_⟩:=h;rfl
 .obtain⟨a,C,b,es,rfl,hLR,hcl,hlen,k⟩:=h;have hu64:=hr.units
  refine⟨_,(zab (zbG (pe_ix zaz (pv 0) (pe_un zlf zad) (λ_ _=>rfl)) (zbl (by rfl) (zag (nG 1 zb3.nd) (zag (nG 2 zb3.nd) zay))))
   (zaf (zaj (za1 (ziN hu64) (pC g_edge_behind hr (pa_N (pv 1) (pa_N (pv 2) zac))) (pe_ix zaI (pe_ix zaz (pv 0) zad (λ_ _=>rfl)) zad (λ_ _=>rfl)) (zap _))))),?_⟩
  obtain⟨ws,hq,hv⟩:=hLR.vr;have hwl:ws.length=es.length:=by rw[hv.1,zbe]
  have hp:=hcl.pos;obtain⟨hch,l,hl,hb⟩:=id hcl;obtain⟨v1,hv1⟩:∃v,ws[ws.length-1]?=some v:=⟨_,Aa (by lia)⟩;obtain⟨⟨e1,st1⟩,he1,B1,b1,rfl,q1,q2⟩:=hv.at hv1;obtain⟨v0,hv0⟩:∃v,ws[0]?=some v:=⟨_,Aa (by lia)⟩;obtain⟨⟨e0,st0⟩,he0,B0,b0,rfl,r1,r2⟩:=hv.at hv0
  have h1:e1=l/\st1=stepB C l:=by
   unfold wk at he1;rw[hwl,Ax,hl]at he1
   cases he1;exact⟨rfl,rfl⟩
  obtain⟨rfl,rfl⟩:=h1
  have h0:e0=b:=by
   unfold wk at he0;rw[Ax,hch.1]at he0
   cases he0;rfl
  subst h0;have hEl:IsE C e1:=hch.2.2.1 e1 (Ag hl);refine⟨_,rfl,_,rfl,a,ws,_,_,rfl,rfl,hq,(zj9 (by lia)).trans hv1,?_⟩;refine⟨B1,_,rfl,SqT.of q1,rfl,_,_,rfl,_,_,rfl,rfl,?_⟩;refine⟨_,rfl,_,rfl,b1,e1,stepB C e1,rfl,SqT.of q2,hEl.1,zcy hEl.1,λp H1 hp1 s1 f1=>?_⟩;refine⟨_,rfl,a,ws,_,_,rfl,rfl,s1.seq hq,(zai (j:=0) hv0),B0,_,_,_,rfl,rfl,SqT.of (s1 _ _ r1),zai (j:=0) rfl,?_⟩;refine⟨_,_,zcp f1,zcp (s1 _ _ r2),zav _,zav _,?_⟩;rw[zcu,decide_eq_true (by show eI (nxt C e1)=eI e0;rw[hb])];exact k H1 s1
theorem nL_wk(C:Cell->Bool)(es:List Edge):nL (wk C es)=(es.filter λe=>(stepB C e).isNone).length:=by unfold nL wk;rw[List.filter_map,Am];rfl
theorem nS_wk(C:Cell->Bool)(es:List Edge):nS (wk C es)=(es.filter λe=>slant (stepB C e)).length:=by unfold nS wk;rw[List.filter_map,Am];rfl
theorem zkA{C:Cell->Bool}{b:Edge}{es:List Edge}(h:Closed C b es):(nL (wk C es):Int)-nS (wk C es)=4∨(nL (wk C es):Int)-nS (wk C es)=-4:=by rw[nL_wk,nS_wk,<- zg8];exact h.turning
noncomputable def zeH(K:W.Frag):Sp:=λvs H Q _=>∃(a:Addr) (C:Cell->Bool) (b:Edge) (es:List Edge),vs=[.ref a,.str (sortS (wk C es))]/\LR K H a (wk C es) wR/\Closed C b es/\es.length<=500/\∀H',Same H H'->Q (.bl true) H'
theorem zgb (T:Txt P w K mg) (g_comes_back:Fn P w K mg base 3 "comes_back" ["walk"] (ziv K)) (g_lefts_less_slants:Fn P w K mg base 3 "lefts_less_slants" ["walk"] (zir K)) (d:Df K mg "is_closed" zcJ ["walk","sort"]):FnOk P w K mg base CX0 4 d.f d.fd ["walk","sort"] (zeH K):=by
 refine d.F.ok zfZ (λvs H Q E h=>?_) (λcdv A outer s H vs Q E hr h=>?_)
 .obtain⟨a,C,b,es,rfl,_⟩:=h;rfl
 .obtain⟨a,C,b,es,rfl,hLR,hcl,hlen,k⟩:=h;refine⟨_,(zaf (zaj (zhp (pC g_comes_back hr (pa_N (pv 0) zac)) (zf3 (za1 op_eq (pC g_lefts_less_slants hr (pa_N (pv 0) zac)) (zlA (by rfl) T.more (pv 1)) (zap _)))))),?_⟩;refine⟨_,rfl,a,C,b,es,rfl,hLR,hcl,hlen,λH1 s1=>⟨_,rfl,iteT ?_⟩⟩;refine⟨_,rfl,a,wk C es,rfl,hLR.same s1 (λx v h=>h.same s1),by rw[zbe];lia,λH2 s2=>⟨_,rfl,?_⟩⟩;rcases zkA hcl with t |t
  .refine .inl ⟨?_,rfl,?_⟩
   .unfold sortS;rw[if_pos (by lia)]
   .rw[t,decide_eq_true rfl];exact k H2 (s1.trans s2)
  .refine .inr ⟨?_,rfl,?_⟩
   .unfold sortS;rw[if_neg (by lia)]
   .rw[t,decide_eq_true rfl];exact k H2 (s1.trans s2)
theorem IsRnd.walk{C:Cell -> Bool}{b:Edge}{es:List Edge}{r:Rnd}(h:Closed C b es)(k:IsRnd (wk C es) r) :
  ∃es',Closed C (begE r) es'/\es'.Perm es/\r.row=(es'.map (stepB C)).filterMap id/\zbW (wk C es') r.so (begE r)/\r.so=sortS (wk C es')/\IsRnd (wk C es') r:=by
 obtain⟨r0,j,f,rf,⟨rb,rw',rl⟩,rx,ry,rr⟩:=id k;rw[zbK]at rf rb rl
 have ef:begE r=f:=by obtain⟨⟨x,y⟩,w⟩:=f;unfold begE;rw[rx,ry,r0];simp only at rw' ⊢;rw[rw']
 have h1:=h.rot j rf;have pm:=zfd es j;have ss:=zeJ (C:=C) pm
 have hrow:r.row=((es.drop j++es.take j).map (stepB C)).filterMap id:=by rw[rr];unfold wk;rw[<- Da,<- Db,<- AE,Cp,Cp];rfl
 have hb:zbW (wk C (es.drop j++es.take j)) r.so f:=⟨by rw[zbK];exact pm.mem_iff.mpr rb,by rw[rw',r0],λg hg hw=>by rw[zbK]at hg;exact rl g (pm.mem_iff.mp hg) (by rw[hw,r0])⟩
 rw[ef];refine⟨_,h1,pm,hrow,hb,by rw[r0,ss],by rw[r0,ss],0,f,by rw[zbK];exact h1.1.1,by rw[ss,<- r0];exact hb,rx,ry,?_⟩;rw[hrow,List.drop_zero,List.take_zero,AX];unfold wk;rw[Cp,Cp];rfl
noncomputable def zhd(K:W.Frag):Sp:=λvs H Q _=>∃(v:V) (r:Rnd) (C:Cell->Bool) (es:List Edge),vs=[v]/\rR r v H/\Closed C (begE r) es/\r.row=(es.map (stepB C)).filterMap id/\zbW (wk C es) r.so (begE r)/\r.so=sortS (wk C es)/\es.length<=500 /\
 ∀p H' ws,H p=none->Same H H'->H' p=some (.lst ws)->VR ws (wk C es) wR H'->Q (.ref p) H'
theorem zh0 (g_begin_edge:Fn P w K mg base 1 "begin_edge" ["one"] zfW) (g_walk_along:Fn P w K mg base 4 "walk_along" ["begin", "row"] (zdE K)) (g_gainsaid_at:Fn P w K mg base 4 "gainsaid_at" ["walk"] (zeI K))
  (g_is_closed:Fn P w K mg base 4 "is_closed" ["walk","sort"] (zeH K)) (g_begin_of:Fn P w K mg base 3 "begin_of" ["walk","sort"] (zgH K)) (d:Df K mg "walk_of" zdQ ["one"]):FnOk P w K mg base CX0 5 d.f d.fd ["one"] (zhd K):=by
 refine d.F.ok zbc (λvs H Q E h=>?_) (λcdv A outer s H vs Q E hr h=>?_)
 .obtain⟨v,r,C,es,rfl,_⟩:=h;rfl
 .obtain⟨v,r,C,es,rfl,hv,hcl,hrow,hbg,hso,hlen,k⟩:=h;have hu64:=hr.units
  refine⟨_,(zab (zbG (pv 0) (zbl (by rfl) (zag (nG 1 zbc.nd) (zag (nG 2 zbc.nd) (zag (nG 3 zbc.nd) (zag (nG 4 zbc.nd) zay))))))
   (zab (sE 5 zbc.nd (pC g_begin_edge hr (pa_N (pv 0) zac)))
   (zab (sE 6 zbc.nd (pC g_walk_along hr (pa_N (pv 5) (pa_N (pv 4) zac))))
   (zab (sE 7 zbc.nd (pC g_gainsaid_at hr (pa_N (pv 6) zac)))
   (zab (ps_if (zau zfh (pv 7) zcr (zap _))
   (zaf zff)
   zaw)
   (zab (ps_if (pw_or (zdV (zcF (pC g_is_closed hr (pa_N (pv 6) (pa_N (pv 1) zac))))) (zhk (zau (zf8 hu64) (pC g_begin_of hr (pa_N (pv 6) (pa_N (pv 1) zac))) (pv 5) (zap _)))).pt
   (zaf zff)
   zaw)
   (zaf (zaj (pv 6))))))))),?_⟩
  obtain⟨a,b,rfl,q1,q2⟩:=id hv;have hE:IsE C (begE r):=hcl.1.2.2.1 _ (Ag hcl.1.1);have so2:r.so = "rim" ∨ r.so = "hole":=by rw[hso];exact zbL _
  have hrl:r.row.length<=500:=by rw[hrow];exact AS (CO _ _) (by rw[Am];exact hlen)
  have hdd:deeds (begE r).w r.row=es.map (stepB C):=by rw[hrow];exact hcl.deeds.symm
  refine⟨_,rfl,a,_,rfl,SqT.of q1,rfl,_,_,rfl,_,_,rfl,_,_,rfl,_,_,rfl,rfl,?_⟩;refine⟨_,rfl,.ref a,r,rfl,hv,so2,λp1 H1 hp1 s1 e1=>?_⟩;refine⟨_,rfl,_,rfl,p1,b,begE r,r.row,rfl,e1,hE.1,SqT.of (s1 _ _ q2),hrl,(λz hz=>?_),λp H2 ws hp s2 e2 hw=>?_⟩
  .rw[hdd]at hz;obtain⟨e,he,ez⟩:=Bg.mp hz;exact zcy (hcl.1.2.2.1 e he).1 z ez
  rw[hdd,zdB es (.inl hcl.1.1) hcl.1.2.1]at hw;have lr:LR K H2 p (wk C es) wR:=LR.of e2 hw;refine⟨_,rfl,p,C,es,rfl,lr,hcl.1.2.2.1,hlen,λH3 s3=>?_⟩;refine⟨_,rfl,rfl,_,rfl,iteF ?_⟩;have lr3:=lr.same s3 (λx v h=>h.same s3);refine⟨_,rfl,_,rfl,p,C,begE r,es,(by rw[<- hso];rfl),lr3,hcl,hlen,λH4 s4=>⟨_,rfl,iteF ?_⟩⟩;have lr4:=lr3.same s4 (λx v h=>h.same s4);refine⟨_,rfl,_,rfl,p,wk C es,r.so,rfl,so2,lr4,by rw[zbe];lia,⟨begE r,hbg.1,hbg.2.1⟩,λb5 e5 H5 s5 f5 ib=>?_⟩;have ee:e5=begE r:=ib.one (List.Perm.refl _) hbg;subst ee;have s25:=s3.trans (s4.trans s5);refine⟨_,rfl,_,_,zcp f5,zcp ((s2.trans s25) _ _ e1),zav _,zav _,_,rfl,iteN (by rw[zcu,decide_eq_true rfl];rfl) ?_⟩;refine⟨_,rfl,k p H5 ws (s1.free hp) (s1.trans (s2.trans s25)) (s25 _ _ e2) (hw.mono λx v h=>h.same s25)⟩
noncomputable def ent(w:Nat):Cell:=([(0,0),(1,0),(1,1),(0,1)]:List (Int×Int)).getD w (0,0)
noncomputable def gC(n:Nat)(C:Cell->Bool)(c:Cell):Bool:=C (c.1 / (n:Int),c.2 / (n:Int))
noncomputable def gE(n i:Nat)(e:Edge):Edge:=⟨((n:Int)*e.c.1+((n:Int)-1)*(ent e.w).1+(i:Int)*(mv (2*e.w)).1,(n:Int)*e.c.2+((n:Int)-1)*(ent e.w).2+(i:Int)*(mv (2*e.w)).2),e.w⟩
theorem dv{n x r:Int}(h0:0<=r)(h1:r<n):(n*x+r) / n=x:=by rw[Int.add_comm,Int.add_mul_ediv_left _ _ (by lia),Int.ediv_eq_zero_of_lt h0 h1,Int.zero_add]
theorem blk{n:Nat}{c:Cell}{x y r s:Int}(h1:c.1=n*x+r)(h2:c.2=n*y+s)(r0:0<=r)(r1:r<n)(s0:0<=s)(s1:s<n):(c.1 / (n:Int),c.2 / (n:Int))=(x,y):=by rw[h1,h2,dv r0 r1,dv s0 s1]
theorem blkT{n:Nat}{c t:Cell}{x y r s:Int}(h1:c.1=n*x+r)(h2:c.2=n*y+s)(r0:0<=r)(r1:r<n)(s0:0<=s)(s1:s<n)(ht:(x,y)=t):(c.1 / (n:Int),c.2 / (n:Int))=t:=(blk h1 h2 r0 r1 s0 s1).trans ht
theorem up1(n x:Int):n*(x+1)=n*x+n:=by rw[Int.mul_add,Int.mul_one]
theorem dn1(n x:Int):n*(x+-1)=n*x-n:=by rw[Int.mul_add,Int.mul_neg,Int.mul_one];lia
section
variable {n i:Nat}{e:Edge}
theorem gE_c(hw:e.w<4)(hi:i<n):((gE n i e).c.1 / (n:Int),(gE n i e).c.2 / (n:Int))=e.c:=by
 obtain⟨⟨x,y⟩,w⟩:=e;simp only at hw;rcases way4 hw with rfl |rfl |rfl |rfl
 .exact blkT (x:=x) (y:=y) (r:=i) (s:=0) (by simp[gE,ent,mv]) (by simp[gE,ent,mv]) (by lia) (by lia) (by lia) (by lia) (by simp[gap,go,mv])
 .exact blkT (x:=x) (y:=y) (r:=n-1) (s:=i) (by simp[gE,ent,mv]) (by simp[gE,ent,mv]) (by lia) (by lia) (by lia) (by lia) (by simp[gap,go,mv])
 .exact blkT (x:=x) (y:=y) (r:=n-1-i) (s:=n-1) (by simp[gE,ent,mv];lia) (by simp[gE,ent,mv]) (by lia) (by lia) (by lia) (by lia) (by simp[gap,go,mv])
 .exact blkT (x:=x) (y:=y) (r:=0) (s:=n-1-i) (by simp[gE,ent,mv]) (by simp[gE,ent,mv];lia) (by lia) (by lia) (by lia) (by lia) (by simp[gap,go,mv])
theorem zlT(hw:e.w<4)(hi:i<n):((gap (gE n i e)).1 / (n:Int),(gap (gE n i e)).2 / (n:Int))=gap e:=by
 obtain⟨⟨x,y⟩,w⟩:=e;simp only at hw;have a1:=up1 n x;have a2:=up1 n y;have a3:=dn1 n x;have a4:=dn1 n y;rcases way4 hw with rfl |rfl |rfl |rfl
 .exact blkT (x:=x) (y:=y+-1) (r:=i) (s:=n-1) (by simp[gap,go,gE,ent,mv]) (by simp[gap,go,gE,ent,mv];lia) (by lia) (by lia) (by lia) (by lia) (by simp[gap,go,mv])
 .exact blkT (x:=x+1) (y:=y) (r:=0) (s:=i) (by simp[gap,go,gE,ent,mv];lia) (by simp[gap,go,gE,ent,mv]) (by lia) (by lia) (by lia) (by lia) (by simp[gap,go,mv])
 .exact blkT (x:=x) (y:=y+1) (r:=n-1-i) (s:=0) (by simp[gap,go,gE,ent,mv];lia) (by simp[gap,go,gE,ent,mv];lia) (by lia) (by lia) (by lia) (by lia) (by simp[gap,go,mv])
 .exact blkT (x:=x+-1) (y:=y) (r:=n-1) (s:=n-1-i) (by simp[gap,go,gE,ent,mv];lia) (by simp[gap,go,gE,ent,mv];lia) (by lia) (by lia) (by lia) (by lia) (by simp[gap,go,mv])
theorem zj2(hw:e.w<4)(hi:i+1<n):((go (gE n i e).c ((2*e.w+7) % 8)).1 / (n:Int),(go (gE n i e).c ((2*e.w+7) % 8)).2 / (n:Int))=gap e:=by
 obtain⟨⟨x,y⟩,w⟩:=e;simp only at hw;have a1:=up1 n x;have a2:=up1 n y;have a3:=dn1 n x;have a4:=dn1 n y;rcases way4 hw with rfl |rfl |rfl |rfl
 .exact blkT (x:=x) (y:=y+-1) (r:=i+1) (s:=n-1) (by simp[go,gE,ent,mv];lia) (by simp[go,gE,ent,mv];lia) (by lia) (by lia) (by lia) (by lia) (by simp[gap,go,mv])
 .exact blkT (x:=x+1) (y:=y) (r:=0) (s:=i+1) (by simp[go,gE,ent,mv];lia) (by simp[go,gE,ent,mv];lia) (by lia) (by lia) (by lia) (by lia) (by simp[gap,go,mv])
 .exact blkT (x:=x) (y:=y+1) (r:=n-2-i) (s:=0) (by simp[go,gE,ent,mv];lia) (by simp[go,gE,ent,mv];lia) (by lia) (by lia) (by lia) (by lia) (by simp[gap,go,mv])
 .exact blkT (x:=x+-1) (y:=y) (r:=n-1) (s:=n-2-i) (by simp[go,gE,ent,mv];lia) (by simp[go,gE,ent,mv];lia) (by lia) (by lia) (by lia) (by lia) (by simp[gap,go,mv])
theorem zj3(hw:e.w<4)(hi:i+1<n):((go (gE n i e).c (2*e.w)).1 / (n:Int),(go (gE n i e).c (2*e.w)).2 / (n:Int))=e.c:=by
 obtain⟨⟨x,y⟩,w⟩:=e;simp only at hw;rcases way4 hw with rfl |rfl |rfl |rfl
 .exact blkT (x:=x) (y:=y) (r:=i+1) (s:=0) (by simp[go,gE,ent,mv];lia) (by simp[go,gE,ent,mv]) (by lia) (by lia) (by lia) (by lia) (by simp[gap,go,mv])
 .exact blkT (x:=x) (y:=y) (r:=n-1) (s:=i+1) (by simp[go,gE,ent,mv]) (by simp[go,gE,ent,mv];lia) (by lia) (by lia) (by lia) (by lia) (by simp[gap,go,mv])
 .exact blkT (x:=x) (y:=y) (r:=n-2-i) (s:=n-1) (by simp[go,gE,ent,mv];lia) (by simp[go,gE,ent,mv]) (by lia) (by lia) (by lia) (by lia) (by simp[gap,go,mv])
 .exact blkT (x:=x) (y:=y) (r:=0) (s:=n-2-i) (by simp[go,gE,ent,mv]) (by simp[go,gE,ent,mv];lia) (by lia) (by lia) (by lia) (by lia) (by simp[gap,go,mv])
theorem zi9(hw:e.w<4)(hi:i+1=n):((go (gE n i e).c ((2*e.w+7) % 8)).1 / (n:Int),(go (gE n i e).c ((2*e.w+7) % 8)).2 / (n:Int))=go e.c ((2*e.w+7) % 8):=by
 obtain⟨⟨x,y⟩,w⟩:=e;simp only at hw;have a1:=up1 n x;have a2:=up1 n y;have a3:=dn1 n x;have a4:=dn1 n y;rcases way4 hw with rfl |rfl |rfl |rfl
 .exact blkT (x:=x+1) (y:=y+-1) (r:=0) (s:=n-1) (by simp[go,gE,ent,mv];lia) (by simp[go,gE,ent,mv];lia) (by lia) (by lia) (by lia) (by lia) (by simp[gap,go,mv])
 .exact blkT (x:=x+1) (y:=y+1) (r:=0) (s:=0) (by simp[go,gE,ent,mv];lia) (by simp[go,gE,ent,mv];lia) (by lia) (by lia) (by lia) (by lia) (by simp[gap,go,mv])
 .exact blkT (x:=x+-1) (y:=y+1) (r:=n-1) (s:=0) (by simp[go,gE,ent,mv];lia) (by simp[go,gE,ent,mv];lia) (by lia) (by lia) (by lia) (by lia) (by simp[gap,go,mv])
 .exact blkT (x:=x+-1) (y:=y+-1) (r:=n-1) (s:=n-1) (by simp[go,gE,ent,mv];lia) (by simp[go,gE,ent,mv];lia) (by lia) (by lia) (by lia) (by lia) (by simp[gap,go,mv])
theorem zjb(hw:e.w<4)(hi:i+1=n):((go (gE n i e).c (2*e.w)).1 / (n:Int),(go (gE n i e).c (2*e.w)).2 / (n:Int))=go e.c (2*e.w):=by
 obtain⟨⟨x,y⟩,w⟩:=e;simp only at hw;have a1:=up1 n x;have a2:=up1 n y;have a3:=dn1 n x;have a4:=dn1 n y;rcases way4 hw with rfl |rfl |rfl |rfl
 .exact blkT (x:=x+1) (y:=y+0) (r:=0) (s:=0) (by simp[go,gE,ent,mv];lia) (by simp[go,gE,ent,mv]) (by lia) (by lia) (by lia) (by lia) (by simp[gap,go,mv])
 .exact blkT (x:=x+0) (y:=y+1) (r:=n-1) (s:=0) (by simp[go,gE,ent,mv]) (by simp[go,gE,ent,mv];lia) (by lia) (by lia) (by lia) (by lia) (by simp[gap,go,mv])
 .exact blkT (x:=x+-1) (y:=y+0) (r:=n-1) (s:=n-1) (by simp[go,gE,ent,mv];lia) (by simp[go,gE,ent,mv]) (by lia) (by lia) (by lia) (by lia) (by simp[gap,go,mv])
 .exact blkT (x:=x+0) (y:=y+-1) (r:=0) (s:=n-1) (by simp[go,gE,ent,mv]) (by simp[go,gE,ent,mv];lia) (by lia) (by lia) (by lia) (by lia) (by simp[gap,go,mv])
theorem zlS{C:Cell->Bool}(h:IsE C e)(hi:i<n):IsE (gC n C) (gE n i e):=by
 refine⟨h.1,?_,?_⟩
 .unfold gC;rw[gE_c h.1 hi];exact h.2.1
 .unfold gC;rw[zlT h.1 hi];exact h.2.2
theorem zi8{C:Cell->Bool}(h:IsE C e)(hi:i+1<n):stepB (gC n C) (gE n i e)=some (2*e.w)/\nxt (gC n C) (gE n i e)=gE n (i+1) e:=by
 have hs:stepB (gC n C) (gE n i e)=some (2*e.w):=by
  unfold stepB
  have a:gC n C (go (gE n i e).c ((2*(gE n i e).w+7) % 8))=false:=by unfold gC;show C ((go (gE n i e).c ((2*e.w+7) % 8)).1 / (n:Int),(go (gE n i e).c ((2*e.w+7) % 8)).2 / (n:Int))=false;rw[zj2 h.1 hi];exact h.2.2
  have b:gC n C (go (gE n i e).c (2*(gE n i e).w))=true:=by unfold gC;show C ((go (gE n i e).c (2*e.w)).1 / (n:Int),(go (gE n i e).c (2*e.w)).2 / (n:Int))=true;rw[zj3 h.1 hi];exact h.2.1
  rw[a,if_neg (by simp),b,if_pos rfl];rfl
 refine⟨hs,?_⟩;unfold nxt;rw[hs];show (if 2*e.w % 2=1 then _ else _)=_;rw[if_neg (by lia)];show (⟨go (gE n i e).c (2*e.w),e.w⟩:Edge)=gE n (i+1) e;have hw:=h.1;obtain⟨⟨x,y⟩,w⟩:=e;simp only at hw;rcases way4 hw with rfl |rfl |rfl |rfl <;> simp[go,gE,ent,mv] <;> lia
theorem zja{C:Cell->Bool}(h:IsE C e)(hi:i+1=n):stepB (gC n C) (gE n i e)=stepB C e/\nxt (gC n C) (gE n i e)=gE n 0 (nxt C e):=by
 have hs:stepB (gC n C) (gE n i e)=stepB C e:=by
  unfold stepB
  have a:gC n C (go (gE n i e).c ((2*(gE n i e).w+7) % 8))=C (go e.c ((2*e.w+7) % 8)):=by unfold gC;show C ((go (gE n i e).c ((2*e.w+7) % 8)).1 / (n:Int),(go (gE n i e).c ((2*e.w+7) % 8)).2 / (n:Int))=_;rw[zi9 h.1 hi]
  have b:gC n C (go (gE n i e).c (2*(gE n i e).w))=C (go e.c (2*e.w)):=by unfold gC;show C ((go (gE n i e).c (2*e.w)).1 / (n:Int),(go (gE n i e).c (2*e.w)).2 / (n:Int))=_;rw[zjb h.1 hi]
  rw[a,b];rfl
 refine⟨hs,?_⟩;unfold nxt;rw[hs];have hw:=h.1
 have key:∀s,s=some ((2*e.w+7) % 8)∨s=some (2*e.w)∨s=none->edgeB (gE n i e) s=gE n 0 (edgeB e s):=by intro s hs';obtain⟨⟨x,y⟩,w⟩:=e;simp only at hw hs';have a1:=up1 n x;have a2:=up1 n y;have a3:=dn1 n x;have a4:=dn1 n y;rcases way4 hw with rfl |rfl |rfl |rfl <;> rcases hs' with rfl |rfl |rfl <;> simp[edgeB,go,gE,ent,mv] <;> lia
 apply key
 rcases za7 h with⟨_,s,_⟩ |⟨_,_,s,_⟩ |⟨_,_,s,_⟩
 .exact .inl s
 .exact .inr (.inl s)
 .exact .inr (.inr s)
end
inductive Run (C:Cell->Bool):Edge->List Edge->Edge->Prop where
 |nil (b:Edge):Run C b [] b
 |cons {b l:Edge} {es:List Edge}:Run C (nxt C b) es l->Run C b (b::es) l
theorem Run.append{C:Cell->Bool}{a b c:Edge}{es fs:List Edge}(h:Run C a es b)(k:Run C b fs c):Run C a (es++fs) c:=by
 induction h with
 |nil=>exact k
 |cons _ ih=>exact .cons (ih k)
theorem Run.of{C:Cell->Bool}:∀(es:List Edge){b l:Edge},es[0]?=some b->(∀i e f,es[i]?=some e->es[i+1]?=some f->f=nxt C e)->es[es.length-1]?=some l->Run C b es (nxt C l)
 |[],_,_,h,_,_=>by cases h
 |[e],b,l,h0,_,hl=>by
  have e1:e=b:=by simpa using h0
  have e2:e=l:=by simpa using hl
  subst e1 e2;exact .cons (.nil _)
 |e::f::r,b,l,h0,hs,hl=>by
  have e1:e=b:=by simpa using h0
  subst e1;refine .cons (Run.of (f::r) (by rw[<- hs 0 e f rfl rfl];rfl) (λi x y h1 h2=>hs (i+1) x y (by simpa using h1) (by simpa using h2)) ?_);simpa using hl
theorem Run.chain{C:Cell->Bool}{b t:Edge}{es:List Edge}(h:Run C b es t):(es≠[]->es[0]?=some b)/\(∀i e f,es[i]?=some e->es[i+1]?=some f->f=nxt C e)/\(es≠[]->∃l,es[es.length-1]?=some l/\nxt C l=t):=by
 induction h with
 |nil=>exact⟨λz=>absurd rfl z,λi e f h=>by simp at h,λz=>absurd rfl z⟩
 |@cons b l es hr ih =>
  obtain⟨i1,i2,i3⟩:=ih;refine⟨λ_=>rfl,λi e f h1 h2=>?_,λ_=>?_⟩
  .cases i with
   |zero =>
    have e1:b=e:=by simpa using h1
    subst e1;have h2':es[0]?=some f:=by simpa using h2
    have ne:es≠[]:=λz=>by rw[z]at h2';cases h2'
    rw[i1 ne]at h2';exact (AJ h2').symm
   |succ i=>exact i2 i e f (by simpa using h1) (by simpa using h2)
  .cases es with
   |nil =>
    cases hr
    exact⟨b,rfl,rfl⟩
   |cons f r =>
    obtain⟨l',h1,h2⟩:=i3 (by simp);exact⟨l',by simpa using h1,h2⟩
noncomputable def parts(n:Nat)(e:Edge):List Edge:=(A0 n).map λi=>gE n i e
noncomputable def gW(n:Nat)(es:List Edge):List Edge:=es.flatMap (parts n)
theorem zf5{C:Cell->Bool}{n:Nat}{e:Edge}(h:IsE C e):∀(m i:Nat),i+m+1=n->Run (gC n C) (gE n i e) ((List.range' i (m+1)).map λj=>gE n j e) (gE n 0 (nxt C e))
 | 0,i,hi=>by
  show Run _ _ [gE n i e] _;refine .cons ?_
  rw[(zja h (by lia)).2];exact .nil _
 |m+1,i,hi=>by
  rw[List.range'_succ,Bf];refine .cons ?_
  rw[(zi8 h (by lia)).2];exact zf5 h m (i+1) (by lia)
theorem zlP{C:Cell->Bool}{n:Nat}(hn:0<n){b t:Edge}{es:List Edge}(h:Run C b es t):(∀e∈es,IsE C e)->Run (gC n C) (gE n 0 b) (gW n es) (gE n 0 t):=by
 induction h with
 |nil=>intro _;exact .nil _
 |@cons b l es _ ih =>
  intro hE;have h1:=zf5 (n:=n) (hE b Av) (n-1) 0 (by lia);rw[show n-1+1=n by lia,<- List.range_eq_range']at h1;exact h1.append (ih λe he=>hE e (As _ he))
theorem zkq{n i j:Nat}{e f:Edge}(he:e.w<4)(hf:f.w<4)(hi:i<n)(hj:j<n)(h:gE n i e=gE n j f):e=f/\i=j:=by
 have hw:e.w=f.w:=by have q:=congrArg Edge.w h;exact q
 have hc:e.c=f.c:=by rw[<- gE_c he hi,<- gE_c hf hj,h]
 have ef:e=f:=by cases e;cases f;simp only at hw hc;rw[hw,hc]
 subst ef;refine⟨rfl,?_⟩;have h1:=congrArg (λe=>e.c.1) h;have h2:=congrArg (λe=>e.c.2) h;obtain⟨⟨x,y⟩,w⟩:=e;simp only at he;rcases way4 he with rfl |rfl |rfl |rfl <;> simp[gE,ent,mv]at h1 h2 <;> lia
theorem zbZ{n:Nat}{e f:Edge}:f∈parts n e ↔ ∃i,i<n/\gE n i e=f:=by unfold parts;rw[List.mem_map];exact⟨λ⟨i,h1,h2⟩=>⟨i,BA.mp h1,h2⟩,λ⟨i,h1,h2⟩=>⟨i,List.mem_range.mpr h1,h2⟩⟩
theorem zj0{n:Nat}{es:List Edge}(hE:∀e∈es,e.w<4)(h:es.Nodup):(gW n es).Nodup:=by
 unfold gW List.Nodup;rw[List.pairwise_flatMap];refine⟨λe he=>?_,?_⟩
 .unfold parts;rw[List.pairwise_map];refine Dv ?_ List.nodup_range;intro i j hi hj hij z;exact hij (zkq (hE e he) (hE e he) (BA.mp hi) (BA.mp hj) z).2
 .refine Dv ?_ h;intro a b ha hb hab x hx y hy z;obtain⟨i,hi,rfl⟩:=zbZ.mp hx;obtain⟨j,hj,rfl⟩:=zbZ.mp hy;exact hab (zkq (hE a ha) (hE b hb) hi hj z).1
theorem zlQ{C:Cell->Bool}{n:Nat}{es:List Edge}(hE:∀e∈es,IsE C e):∀f∈gW n es,IsE (gC n C) f:=λf hf=>by obtain⟨e,he,hp⟩:=List.mem_flatMap.mp hf;obtain⟨i,hi,rfl⟩:=zbZ.mp hp;exact zlS (hE e he) hi
theorem zfN{C:Cell->Bool}{n:Nat}(hn:0<n){b:Edge}{es:List Edge}(h:Closed C b es):Closed (gC n C) (gE n 0 b) (gW n es):=by
 obtain⟨⟨h0,hs,hE,hd⟩,l,hl,hb⟩:=h;have r:=Run.of es h0 hs hl;rw[hb]at r;have g:=zlP hn r hE
 have ne:gW n es≠[]:=by have m:gE n 0 b∈gW n es:=List.mem_flatMap.mpr ⟨b,Ag h0,zbZ.mpr ⟨0,hn,rfl⟩⟩;intro z;rw[z]at m;cases m
 obtain⟨c1,c2,c3⟩:=g.chain;exact⟨⟨c1 ne,c2,zlQ hE,zj0 (λe he=>(hE e he).1) hd⟩,c3 ne⟩
noncomputable def gD(C:Cell->Bool)(n:Nat)(es:List Edge):List (Option Nat):=es.flatMap λe=>Af (n-1) (some (2*e.w))++[stepB C e]
theorem zhY{C:Cell->Bool}{n:Nat}(hn:0<n){e:Edge}(h:IsE C e):(parts n e).map (stepB (gC n C))=Af (n-1) (some (2*e.w))++[stepB C e]:=by
 unfold parts;obtain⟨m,rfl⟩:∃m,n=m+1:=⟨n-1,by lia⟩;rw[List.range_succ,AE,AE,List.map_map];show _++[stepB (gC (m+1) C) (gE (m+1) m e)]=_;rw[(zja h rfl).1]
 congr 1
 rw[List.eq_replicate_iff];refine⟨by simp,λb hb=>?_⟩;obtain⟨i,hi,rfl⟩:=Bg.mp hb;exact (zi8 h (by have:=BA.mp hi;lia)).1
theorem zdf{C:Cell->Bool}{n:Nat}(hn:0<n):∀{es:List Edge},(∀e∈es,IsE C e)->(gW n es).map (stepB (gC n C))=gD C n es
 |[],_=>rfl
 |e::es,hE=>by
  show (parts n e++gW n es).map _=(Af (n-1) (some (2*e.w))++[stepB C e])++gD C n es;rw[AE,zhY hn (hE e Av),zdf hn λx hx=>hE x (As _ hx)]
theorem zk6(C:Cell->Bool)(n:Nat)(es:List Edge)(e:Edge):gD C n (es++[e])=gD C n es++(Af (n-1) (some (2*e.w))++[stepB C e]):=by unfold gD;rw[List.flatMap_append];simp
theorem zcX{C:Cell->Bool}{n:Nat}(hn:0<n):∀es:List Edge,(gD C n es).length=n*es.length
 |[]=>rfl
 |e::es=>by
  show ((Af (n-1) (some (2*e.w))++[stepB C e])++gD C n es).length=_;rw[Ai,zcX hn es,Ai,AR];simp only[AV,BU];rw[Nat.mul_add,Nat.mul_one];lia
theorem zgk{n:Nat}:∀es:List Edge,(gW n es).length=n*es.length
 |[]=>rfl
 |e::es=>by
  show (parts n e++gW n es).length=_;rw[Ai,zgk es,AV,Nat.mul_add,Nat.mul_one];unfold parts;rw[Am,CF];lia
structure Can (C:Cell->Bool) (es:List Edge) (r:Rnd):Prop where
 cl:Closed C (begE r) es
 row:r.row=(es.map (stepB C)).filterMap id
 bg:zbW (wk C es) r.so (begE r)
 so:r.so=sortS (wk C es)
noncomputable def zit(K:W.Frag):Sp:=λvs H Q _=>∃(a:Addr) (e:Edge) (n:Nat),vs=[.ref a,.int n]/\SqT K H a (edgeT e)/\e.w<4/\0<n/\n<=4/\∀p H',H p=none->Same H H'->H' p=some (.tup (edgeT (gE n 0 e)))->Q (.ref p) H'
theorem zfl (T:Txt P w K mg) (d:Df K mg "first_part" zck ["edge","times"]):FnOk P w K mg base CX0 1 d.f d.fd ["edge","times"] (zit K):=by
 refine d.F.ok zaX (λvs H Q E h=>?_) (λcdv A outer s H vs Q E hr h=>?_)
 .obtain⟨a,e,n,rfl,_⟩:=h;rfl
 .obtain⟨a,e,n,rfl,hq,hw,hn,hn4,k⟩:=h;obtain⟨EN,hEN,hen⟩:=T.pENTRIES;obtain⟨ms,hsq,hl,hm⟩:=hen H
  refine⟨_,(zab (zbG (pv 0) (zbl (by rfl) (zag (nG 2 zaX.nd) (zag (nG 3 zaX.nd) (zag (nG 4 zaX.nd) zay)))))
   (zab (zbG (pe_ix zaI (zdb (v:=.ref EN) rfl hEN rfl) (pv 4) (λ_ _=>rfl)) (zbl (by rfl) (zag (nG 5 zaX.nd) (zag (nG 6 zaX.nd) zay))))
   (zaf (zaj (zaK (pa_B (pe_op zaH (pe_op zaZ (pv 1) (pv 2)) (pe_op zaZ (pe_op zaE (pv 1) zad) (pv 5))) (pa_B (pe_op zaH (pe_op zaZ (pv 1) (pv 3)) (pe_op zaZ (pe_op zaE (pv 1) zad) (pv 6))) (pa_N (pv 4) zac)))))))),?_⟩
  have hi':e.w<ms.length:=by lia
  have e1:ms[e.w]?=some ms[e.w]:=by simp[hi']
  obtain⟨q,hq1,hq2⟩:=hm e.w _ e1;have eq:q=ent e.w:=by unfold ent;rw[A6,hq1];rfl
  subst eq;refine⟨_,rfl,a,_,rfl,hq,rfl,_,_,rfl,_,_,rfl,_,_,rfl,rfl,?_⟩;refine⟨_,rfl,EN,_,(e.w:Int),.ref ms[e.w],rfl,rfl,hsq,zai (by simp[hi']),ms[e.w],_,rfl,hq2,rfl,_,_,rfl,_,_,rfl,rfl,?_⟩;refine⟨_,rfl,_,rfl,_,_,rfl,rfl,.inl ⟨by lia,by lia⟩,_,rfl,_,_,rfl,rfl,_,rfl,_,_,rfl,rfl,.inl ⟨by lia,by lia⟩,_,_,rfl,rfl,?_⟩;refine⟨_,rfl,_,rfl,_,_,rfl,rfl,.inl ⟨by lia,by lia⟩,_,rfl,_,_,rfl,rfl,_,rfl,_,_,rfl,rfl,.inl ⟨by lia,by lia⟩,_,_,rfl,rfl,_,rfl,three,λp hp=>k p _ hp (Same.up hp) ?_⟩;rw[zaa];unfold gE;simp[edgeT]
noncomputable def zcT(K:W.Frag):Sp:=λvs H Q _=>∃(v:V) (n:Nat) (r:Rnd) (C:Cell->Bool) (es:List Edge),vs=[v,.int n]/\rR r v H/\Can C es r/\0<n/\n<=4/\n*es.length<=2000/\es.length<=500 /\
 ∀v' H' r',Same H H'->rR r' v' H'->IsRnd (wk (gC n C) (gW n es)) r'->Q v' H'
theorem zh4 (T:Txt P w K mg) (g_walk_of:Fn P w K mg base 5 "walk_of" ["one"] (zhd K)) (g_straight_step:Fn P w K mg base 1 "straight_step" ["way"] zcz) (g_walk_by:Fn P w K mg base 3 "walk_by" ["begin", "deeds"] (ze5 K)) (g_first_part:Fn P w K mg base 1 "first_part" ["edge", "times"] (zit K))
  (g_round_of:Fn P w K mg base 5 "round_of" ["walk"] (zdF K)) (d:Df K mg "greater" zdT ["one","times"]):FnOk P w K mg base CX0 6 d.f d.fd ["one","times"] (zcT K):=by
 refine d.F.ok zbY (λvs H Q E h=>?_) (λcdv A outer s H vs Q E hr h=>?_)
 .obtain⟨v,n,r,C,es,rfl,_⟩:=h;rfl
 .obtain⟨v,n,r,C,es,rfl,hv,hc,hn,hn4,hlen,hel,k⟩:=h
  refine⟨_,(zab (sE 2 zbY.nd (pC g_walk_of hr (pa_N (pv 0) zac)))
   (zab (sE 3 zbY.nd (zaU zac))
   (zab (zbF Be rfl (zaN (pv 2)) (zbl (by rfl) (zag (nG 4 zbY.nd) (zag (nG 5 zbY.nd) zay)))
   (zab (zbv (pe_bm A3 PySem.F.slot_list_extend PySem.F.type_list_extend zgd (pv 3) (pa_B (pe_op zdY (zaU (zah (pC g_straight_step hr (zah (pe_ix zaI (pv 4) zad (λ_ _=>rfl)) zac)) zac)) (pe_op zaE (pv 1) zad)) zac)))
   (zaf (zbv (pe_bm A3 Bi Bj za8 (pv 3) (pa_N (pv 5) zac))))))
   (zaf (zaj (pC g_round_of hr (zah (pC g_walk_by hr (zah (pC g_first_part hr (zah (pe_ix zaI (pe_ix zaz (pv 2) zad (λ_ _=>rfl)) zad (λ_ _=>rfl)) (pa_N (pv 1) zac))) (pa_N (pv 3) zac))) zac))))))),?_⟩
  have hE:=hc.cl.1.2.2.1;refine⟨_,rfl,v,r,C,es,rfl,hv,hc.cl,hc.row,hc.bg,hc.so,hel,λp H1 ws hp s1 e1 hw=>?_⟩;have wl:ws.length=es.length:=by rw[hw.1,zbe]
  refine⟨(by show 0<=sizeLine;decide),λq hq=>?_⟩;have s2:Same H1 (upd H1 q (.lst [])):=Same.up hq;have e2:upd H1 q (.lst []) q=some (.lst []):=zaa;generalize upd H1 q (.lst [])=H2 at s2 e2;have p2:=s2 _ _ e1;have hw2:=hw.mono λx v h=>h.kt (KT.of s2)
  refine⟨_,rfl,p,rfl,⟨_,SqL.of p2⟩,?_⟩
  refine zax (K:=K) (a:=p) (xs:=ws) (λj σ H3=>∃o4 o5,σ=[some v,some (.int n),some (.ref p),some (.ref q),o4,o5]/\Same H1 H3/\KT H2 H3/\H3 q=some (.lst ((gD C n (es.take j)).map sv)))
   ⟨_,_,rfl,s2,λ_ _ h=>h,e2⟩ (λj σ H3 _ ⟨_,_,_,s3,_⟩=>SqL.of (s3 _ _ e1)) ?_ ?_
  .rintro j u σ H3 hj ⟨o4,o5,rfl,s3,k3,e3⟩;have hjl:j<ws.length:=(Ae.mp hj).1;obtain⟨⟨f,st⟩,he,B,bb,rfl,q1,q2⟩:=hw2.at hj
   have hf:es[j]?=some f/\st=stepB C f:=by
    unfold wk at he;rw[Ax]at he;obtain⟨g,hg,eg⟩:=A8.mp he
    cases eg;exact⟨hg,rfl⟩
   have hfE:=hE f (Ag hf.1)
   have l3:(gD C n (es.take j)).length+n<=2000:=by rw[zcX hn,AL];have:n*(j+1)<=n*es.length:=Nat.mul_le_mul_left _ (by lia);rw[Nat.min_eq_left (by lia)];rw[Nat.mul_add,Nat.mul_one]at this;lia
   refine⟨B,_,rfl,SqT.of (k3 _ _ q1),rfl,_,_,rfl,_,_,rfl,rfl,?_⟩;refine⟨_,rfl,.inl ⟨rfl,_,SqL.of e3⟩,_,rfl,bb,_,_,_,rfl,rfl,SqT.of (k3 _ _ q2),zai (j:=2) rfl,f.w,rfl,hfE.1,(by show 1<=sizeLine;decide),λl hl=>?_⟩;have s4:Same H3 (upd H3 l (.lst [.int (2*f.w:Nat)])):=Same.up hl;have e4:upd H3 l (.lst [.int (2*f.w:Nat)]) l=some (.lst [.int (2*f.w:Nat)]):=zaa;generalize upd H3 l (.lst [.int (2*f.w:Nat)])=H4 at s4 e4;refine⟨_,rfl,_,_,rfl,rfl,l,_,_,rfl,rfl,e4,(by show -(2 ^ 63)<=(n:Int)-1;lia),(by show (n:Int)-1<2 ^ 63;lia),Bm (zbh (by simp;lia)),λl5 hl5=>?_⟩
   have er:(Af ((n:Int)-1).toNat [V.int (2*f.w:Nat)]).flatten=(Af (n-1) (some (2*f.w))).map sv:=by
    rw[show ((n:Int)-1).toNat=n-1 by lia];generalize n-1=m
    induction m with
    |zero=>rfl
    |succ m ih=>rw[Bd,Bl,ih,Bd,Bf];rfl
   rw[er];have s5:Same H4 (upd H4 l5 (.lst ((Af (n-1) (some (2*f.w))).map sv))):=Same.up hl5;have e5:upd H4 l5 (.lst ((Af (n-1) (some (2*f.w))).map sv)) l5=some (.lst ((Af (n-1) (some (2*f.w))).map sv)):=zaa;generalize upd H4 l5 (.lst ((Af (n-1) (some (2*f.w))).map sv))=H5 at s5 e5;have s35:=s4.trans s5;have q5:=s35 _ _ e3;refine⟨q,l5,_,_,rfl,rfl,q5,e5,Bm (zbh (by simp;lia)),?_⟩;rw[<- AE];have s6:Same H1 (upd H5 q (.lst ((gD C n (es.take j)++Af (n-1) (some (2*f.w))).map sv))):=zar hq (s3.trans s35);have k6:KT H5 (upd H5 q (.lst ((gD C n (es.take j)++Af (n-1) (some (2*f.w))).map sv))):=KT.lst q5;have e6:upd H5 q (.lst ((gD C n (es.take j)++Af (n-1) (some (2*f.w))).map sv)) q=some (.lst ((gD C n (es.take j)++Af (n-1) (some (2*f.w))).map sv)):=zaa;generalize upd H5 q (.lst ((gD C n (es.take j)++Af (n-1) (some (2*f.w))).map sv))=H6 at s6 k6 e6;refine⟨_,rfl,.inl ⟨rfl,_,SqL.of e6⟩,_,rfl,q,_,_,rfl,rfl,e6,zbh (by simp;lia),?_⟩;refine⟨_,_,rfl,zar hq s6,?_,?_⟩
   .exact λb xs h=>KT.lst e6 b xs (k6 b xs (s35 _ _ (k3 b xs h)))
   .rw[zaa,zaL hf.1,zk6,<- hf.2,<- At,AE (l₂:=[st])];rfl
  .rintro σ H3 ⟨o4,o5,rfl,s3,k3,e3⟩;rw[wl,Bb]at e3;have h0:=hc.cl.1.1;have hpos:0<es.length:=(Ae.mp h0).1;obtain⟨u0,hu0⟩:∃u,ws[0]?=some u:=⟨_,Aa (by lia)⟩;obtain⟨⟨f,st⟩,he,B,bb,rfl,q1,q2⟩:=hw2.at hu0
   have hf:f=begE r:=by
    unfold wk at he;rw[Ax,h0]at he
    cases he;rfl
   subst hf;have hbE:=hE _ (Ag h0);refine⟨_,rfl,p,_,_,_,rfl,rfl,SqL.of (s3 _ _ e1),zai (j:=0) hu0,B,_,_,_,rfl,rfl,SqT.of (k3 _ _ q1),zai (j:=0) rfl,_,rfl,bb,begE r,n,rfl,SqT.of (k3 _ _ q2),hbE.1,hn,hn4,λp4 H4 hp4 s4 e4=>?_⟩;have hcg:=zfN hn hc.cl
   have ds8:∀s,some s∈gD C n es->s<8:=λs hs=>by rw[<- zdf hn hE]at hs;obtain⟨x,hx,ex⟩:=Bg.mp hs;exact zcy (hcg.1.2.2.1 x hx).1 s ex
   refine⟨_,rfl,p4,q,gE n 0 (begE r),gD C n es,rfl,e4,hbE.1,s4 _ _ e3,ds8,(by rw[zcX hn];lia),λp5 H5 ws5 hp5 s5 e5 hw5=>?_⟩
   have ewk:wby (gE n 0 (begE r)) (gD C n es)=wk (gC n C) (gW n es):=by rw[<- zdf hn hE];exact zdB _ (.inl hcg.1.1) hcg.1.2.1
   rw[ewk]at hw5
   have hh:∀kk,kk=0∨kk=2->∃x∈(wk (gC n C) (gW n es)).map (·.1),x.w=kk:=λkk hkk=>by obtain⟨x,h1,h2⟩:=hcg.has hkk;exact⟨x,by rw[zbK];exact h1,h2⟩
   refine⟨p5,_,rfl,LR.of e5 hw5,by rw[zbe,zgk];lia,hh 0 (.inl rfl),hh 2 (.inr rfl),λv' H6 r' s6 hr6 hrn6=>?_⟩;exact k v' H6 r' (s1.trans (s3.trans (s4.trans (s5.trans s6)))) hr6 hrn6
noncomputable def rowI(row:List Nat):List Int:=row.map λn:Nat=>(n:Int)
noncomputable def dR(r:Rnd):PyData:=.tuple [.str r.so,.int r.x,.int r.y,tI (rowI r.row)]
theorem zf0(row:List Nat):rowV row=(rowI row).map V.int:=by unfold rowV rowI;rw[List.map_map];rfl
theorem zjB{a b:List Nat}(h:rowI a=rowI b):a=b:=by unfold rowI at h;exact List.map_inj_right (f:=λn:Nat=>(n:Int)) (λx y e=>by lia) |>.mp h
theorem zjC{K:W.Frag}{H:Hp}{r:Rnd}{v:V}(h:rR r v H):RD K H v (dR r):=by obtain⟨a,b,rfl,q1,q2⟩:=h;refine .tup (SqT.of q1) (.cons (.str _) (.cons (.int _) (.cons (.int _) (.cons (.tup (SqT.of q2) ?_) .nil))));rw[zf0];exact RDs.ints _
theorem zlW(r q:Rnd):Cq (dR r) (dR q)=decide (r=q):=by
 show ((r.so == q.so) && ((r.x == q.x) && ((r.y == q.y) && (Cq (tI (rowI r.row)) (tI (rowI q.row)) && true))))=_;rw[zcu,Bool.and_true];obtain⟨a,b,c,d⟩:=r;obtain⟨a',b',c',d'⟩:=q;simp only
 by_cases h1:a=a'
 .by_cases h2:b=b'
  .by_cases h3:c=c'
   .by_cases h4:d=d'
    .subst h1 h2 h3 h4;simp
    .have:¬ rowI d=rowI d':=λz=>h4 (zjB z)
     simp[h4,this]
   .simp[h3]
  .simp[h2]
 .have:(a == a')=false:=by rw[beq_eq_false_iff_ne];exact h1
  rw[this];simp[h1]
noncomputable abbrev SoOk (r:Rnd):Prop:=r.so = "rim" ∨ r.so = "hole"
theorem zjl{r:Rnd}(h:SoOk r):CU (dR r)=true:=by have:=zav (rowI r.row);unfold BM at this;rw[BL]at this;show (PyData.strOk r.so && (true && (true && (CU (tI (rowI r.row)) && true))))=true;rw[this.1];rcases h with h |h <;> rw[h] <;> decide +kernel
theorem zj5(ns:List Int):BN (tI ns)=1:=by unfold tI;rw[BN,zby]
theorem zj6(r:Rnd):BN (dR r)=2:=by show BN (.tuple [.str r.so,.int r.x,.int r.y,tI (rowI r.row)])=2;rw[BN];show max 0 (max 0 (max 0 (max (BN (tI (rowI r.row))) 0)))+1=2;rw[zj5];rfl
noncomputable def lR(R:List Rnd):PyData:=.list (R.map dR)
theorem zgn:∀R S:List Rnd,Du (R.map dR) (S.map dR)=decide (R=S)
 |[],[]=>rfl
 |[],_::_=>rfl
 |_::_,[]=>rfl
 |r::R,q::S=>by
  show (Cq (dR r) (dR q) && Du (R.map dR) (S.map dR))=_;rw[zgn R S,zlW]
  by_cases e:r=q
  .subst e;by_cases e2:R=S <;> simp[e2]
  .simp[e]
theorem zlV(R S:List Rnd):Cq (lR R) (lR S)=decide (R=S):=zgn R S
theorem zdn:∀R:List Rnd,(∀r∈R,SoOk r)->B3 (R.map dR)=true
 |[],_=>rfl
 |r::R,h=>by show (CU (dR r) && B3 (R.map dR))=true;rw[zjl (h r Av),zdn R λq hq=>h q (As _ hq)];rfl
theorem zec:∀R:List Rnd,C5 (R.map dR)<=2
 |[]=>AU _
 |r::R=>by show max (BN (dR r)) (C5 (R.map dR))<=2;rw[zj6];have:=zec R;lia
theorem zfY{R:List Rnd}(h:∀r∈R,SoOk r):BM (lR R)=true:=by unfold BM lR;rw[CU,zdn R h,BN];have:=zec R;simp only[Bool.true_and,decide_eq_true_eq];lia
theorem zeN{K:W.Frag}{H:Hp}:∀{vs:List V}{R:List Rnd},VR vs R rR H->RDs K H vs (R.map dR)
 |[],[],_=>.nil
 |[],_::_,h=>by have:=h.1;cases this
 |_::_,[],h=>by have:=h.1;cases this
 |v::vs,r::R,h=>by
  obtain⟨h1,h2⟩:=VR.cons.mp h;exact .cons (zjC h1) (zeN h2)
theorem zf2{K:W.Frag}{H:Hp}{a:Addr}{vs:List V}{R:List Rnd}(e:SqL K H a vs)(h:VR vs R rR H):RD K H (.ref a) (lR R):=.lst e (zeN h)
theorem Whole.so{cs:List Cell}{R:List Rnd}(h:Whole cs R):∀r∈R,SoOk r:=λr hr=>let ⟨_,hP,_⟩:=h;hP.so hr
theorem Whole.few{cs:List Cell}{R:List Rnd}(h:Whole cs R):R.length<=cs.length:=let ⟨_,hP,_⟩:=h;hP.few
noncomputable def zfU(K:W.Frag):Sp:=λvs H Q _=>∃(a:Addr) (rs:List V) (R:List Rnd),vs=[.ref a]/\SqL K H a rs/\VR rs R rR H/\R.length<=500 /\
 ∀p H' rs' S,H p=none->Same H H'->H' p=some (.lst rs')->VR rs' S rR H'->S.Perm R->InKey S->Q (.ref p) H'
theorem zgU (T:Txt P w K mg) (g_round_order:Fn P w K mg base 1 "round_order" ["one"] (zce K)) (d:Df K mg "in_order" zc7 ["some"]):FnOk P w K mg base CX0 4 d.f d.fd ["some"] (zfU K):=by
 refine d.F.ok zgL (λvs H Q E h=>?_) (λcdv A outer s H vs Q E hr h=>?_)
 .obtain⟨a,rs,R,rfl,_⟩:=h;rfl
 .obtain⟨a,rs,R,rfl,hL,hR,hlen,k⟩:=h;have hu1:=hu_of hr;refine⟨_,(zaf (zaj (zhn g_round_order.ok (hr.mono (by decide)) g_round_order.b (by rfl) T.nsorted (by rfl) g_round_order.m (pv 0)))),?_⟩;have ge:∀(i:Nat) r,R[i]?=some r->R.getD i ⟨"",0,0,[]⟩=r:=λi r h=>by simp only[A6,h,Option.getD_some]
  have hrl:rs.length<=500:=by rw[hR.1];exact hlen
  refine⟨_,rfl,a,rs,λi=>keyV (R.getD i ⟨"",0,0,[]⟩),λi=>keyI (R.getD i ⟨"",0,0,[]⟩),rfl,hL,by lia,λi x H7 hx s7=>?_,
   λi j hi hj=>⟨_,_,_,_,_,_,rfl,rfl,.cons (.int _ _) (.cons (.bl _ _) .nil),rfl,rfl⟩,λpp D H7 hpm hpo hD s7 f7=>?_⟩
  .obtain⟨r,hr',hx'⟩:=hR.at hx;refine⟨x,r,rfl,hx'.kt (KT.of s7),λq H8 hq s8 f8=>⟨s8,q,rfl,SqT.of ?_⟩⟩;show H8 q=some (HO.tup (keyV (R.getD i ⟨"",0,0,[]⟩)));rw[ge i r hr'];exact f8
  .have hlt:∀i ∈ pp, i < R.length := λi hi => by have:=BA.mp (hpm.mem_iff.mp hi);rw[hR.1]at this;exact this
   have hRR:(pp.map λi=>R.getD i ⟨"",0,0,[]⟩).Perm R:=by
    have h1:=hpm.map λi=>R.getD i (⟨"",0,0,[]⟩:Rnd)
    rw[hR.1]at h1
    have h2:((A0 R.length).map λi=>R.getD i (⟨"",0,0,[]⟩:Rnd))=R:=by
     apply List.ext_getElem
     .simp
     .intro i a b;simp[show i<R.length by simpa using a]
    rw[h2]at h1;exact h1
   have vR:VR (pp.map λi=>rs.getD i V.non) (pp.map λi=>R.getD i ⟨"",0,0,[]⟩) rR H7:=by
    refine⟨by simp,λi r v h1 h2=>?_⟩;rw[Ax]at h1 h2;obtain⟨a,ha,rfl⟩:=A8.mp h1;rw[ha]at h2
    cases h2
    have hal:=hlt a (Ag ha);have hal2:a<rs.length:=by rw[hR.1];exact hal
    have e1:R.getD a ⟨"",0,0,[]⟩=R[a]:=by simp[hal]
    have e2:rs.getD a V.non=rs[a]:=by simp[hal2]
    rw[e1];show rR R[a] (rs.getD a V.non) H7;rw[e2];exact (hR.2 a _ _ (Aa hal) (Aa hal2)).kt (KT.of s7)
   refine k D H7 _ _ hD s7 f7 vR hRR ?_
   unfold InKey;rw[List.pairwise_map];exact hpo
theorem zj7{K:W.Frag}{H:Hp}{Q:VK}{a b:Addr}{xs ys:List V}(hx:SqT K H a xs)(hy:SqT K H b ys)(hne:xs ≠ [])(hl:xs.length + ys.length <= sizeLine)(h:∀c H', Same H H' -> SqT K H' c (xs ++ ys) -> Q (.ref c) H') :
  rCatT K (.ref a) (.ref b) H Q :=
 ⟨a,b,xs,ys,rfl,rfl,hx,hy,hne,hl,λz=>h a H (Same.refl _) (by rw[z,AX];exact hx),λ_ p hp=>h p _ (Same.up hp) (SqT.of zaa)⟩
noncomputable def zdG:Sp:=λvs H Q _=>∃(v:V) (r:Rnd),vs=[v]/\rR r v H/\SoOk r/\r.row.length<=2000/\∀H',Same H H'->Q (.bl true) H'
theorem zd2 (T:Txt P w K mg) (d:Df K mg "_law_is_round" zbk ["_law_found"]):FnOk P w K mg base CX0 1 d.f d.fd ["_law_found"] zdG:=by
 refine d.F.ok zdr (λvs H Q E h=>?_) (λcdv A outer s H vs Q E hr h=>?_)
 .obtain⟨v,r,rfl,_⟩:=h;rfl
 .obtain⟨v,r,rfl,⟨a,b,rfl,q1,q2⟩,hso,hlen,k⟩:=h;have hu1:=hu_of hr;have nb0:(["_law_one"]:List Str).Nodup:=by decide +kernel
  refine⟨_,(zab (ps_if (pw_or (zdV (zcF (zaq zdz (by rfl) T.nisinstance (by rfl) (pa_N (pv 0) (pa_N (zdW (v:=.ty "tuple") (by rfl) T.ntuple (by rfl) rfl) zac))))) (pw_or (zau op_ne (zaq zaJ (by rfl) T.nlen (by rfl) (pa_N (pv 0) zac)) zad (zap _)) (zhk (zau zf7 (pe_ix zaI (pv 0) zad (λ_ _=>rfl)) (zaK (pa_C zcV (pa_C zcV zac))) rfl)))).pt
   (zaf (zaj pe_bl))
   zaw)
   (zab (ps_if (zdV (zcF (zaq zdz (by rfl) T.nisinstance (by rfl) (zah (pe_ix zaI (pv 0) zad (λ_ _=>rfl)) (pa_N (zdW (v:=.ty "tuple") (by rfl) T.ntuple (by rfl) rfl) zac)))))
   (zaf (zaj pe_bl))
   zaw)
   (zaf (zaj (zaq (zeg rfl) (by rfl) T.nall (by rfl) (zah (zbm (osc:=zae zbk) (N:=zcw) (N':=["_law_one"]) (sel:=[none]) bO (zhm (pe_op ziO (zbN zdK (pv 0) (zbT zad) (zbT zad)) (pe_ix zaI (pv 0) zad (λ_ _=>rfl)))) (λ_ _ _ _ _=>(nG 0 nb0)) (λ_ _ _ _ _=>zbS) (λ_ _ _ _ _=>(zhp (zaq (zgq (K:=K)) (by rfl) T.nisinstance (by rfl) (pa_N (pv 0) (pa_N (zdW (v:=.ty "int") (by rfl) T.nint (by rfl) rfl) zac))) (zf3 (zlB (zaq (zgq (K:=K)) (by rfl) T.nisinstance (by rfl) (pa_N (pv 0) (pa_N (zdW (v:=.ty "bool") (by rfl) T.nbool (by rfl) rfl) zac)))))))) zac)))))),?_⟩
  refine⟨_,rfl,.ref a,"tuple",_,true,rfl,.tup q1,zdv _ _,_,rfl,?_⟩;refine iteF ?_
  refine⟨_,rfl,a,_,rfl,.inr (SqT.of q1),?_⟩;refine⟨rfl,_,rfl,iteN rfl ?_⟩;refine⟨_,rfl,a,_,_,_,rfl,rfl,SqT.of q1,zai (j:=0) rfl,two,λp hp=>⟨p,_,rfl,.inr (SqT.of zaa),rfl,rfl,_,rfl,iteN ?_ ?_⟩⟩
  .rcases hso with e |e <;> rw[e] <;> decide +kernel
  have s1:=Same.up (o:=.tup [.str "rim",.str "hole"]) hp;generalize upd H p (.tup [.str "rim",.str "hole"])=H1 at s1;have r1:=s1 _ _ q1;have r2:=s1 _ _ q2;refine⟨_,rfl,a,_,_,_,rfl,rfl,SqT.of r1,zai (j:=3) rfl,.ref b,"tuple",_,true,rfl,.tup r2,zdv _ _,_,rfl,iteF ?_⟩;have hs1:HT.sIx 4 0 (some 1)=1:=by decide
  refine⟨_,rfl,_,rfl,_,rfl,a,_,rfl,SqT.of r1,λhw=>absurd (hw.1.symm.trans hs1) (by decide),λ_ p2 hp2=>?_⟩;have ec:cutV [V.str r.so,V.int r.x,V.int r.y,V.ref b] (some 1) (some 3)=[V.int r.x,V.int r.y]:=rfl;have s2:=Same.up (o:=.tup (cutV [V.str r.so,V.int r.x,V.int r.y,V.ref b] (some 1) (some 3))) hp2;have t2:upd H1 p2 (.tup (cutV [V.str r.so,V.int r.x,V.int r.y,V.ref b] (some 1) (some 3))) p2=some (.tup [V.int r.x,V.int r.y]):=by rw[zaa,ec]
  generalize upd H1 p2 (.tup (cutV [V.str r.so,V.int r.x,V.int r.y,V.ref b] (some 1) (some 3)))=H2 at s2 t2;have hrv:(rowV r.row).length=r.row.length:=by unfold rowV;exact Am _
  refine⟨_,rfl,a,_,_,_,rfl,rfl,SqT.of (s2 _ _ r1),zai (j:=3) rfl,zj7 (SqT.of t2) (SqT.of (s2 _ _ r2)) (by simp) (Bm (zbh (by rw[hrv];show 2+r.row.length<=4000;lia))) λc H3 s3 hc=>⟨c,rfl,⟨_,hc⟩,λq hq=>?_⟩⟩;have hall:([V.int r.x,V.int r.y]++rowV r.row)=([r.x,r.y]++rowI r.row).map V.int:=by rw[zf0];rfl
  have hll:([r.x,r.y]++rowI r.row).length<=2002:=by unfold rowI;simp;lia
  rw[hall]at hc;generalize [r.x,r.y]++rowI r.row=ns at hc hll
  refine zfB (K:=K) (a:=c) (xs:=ns.map V.int) (λj σ H9=>∃o,σ=[o]/\Same H3 H9/\H9 q=some (.lst ((Af j true).map V.bl)))
   ⟨_,rfl,Same.up hq,zaa⟩ (λj σ H9 _ ⟨_,_,s9,_⟩=>s9.seqT hc) ?_ ?_
  .rintro j v σ H9 hj ⟨o,rfl,s9,e9⟩;have hjl:j<(ns.map V.int).length:=(Ae.mp hj).1;rw[Am]at hjl;rw[Ax]at hj;obtain⟨n,hn,rfl⟩:=A8.mp hj;refine gN ?_
   refine⟨_,rfl,.int n,"int",_,true,rfl,.int n,zdv _ _,_,rfl,iteT ?_⟩;refine⟨_,rfl,.int n,"bool",_,false,rfl,.int n,zgi _,_,rfl,?_⟩;refine⟨_,e9,zbh (by simp;lia),_,rfl,zar hq s9,?_⟩;rw[zaa,Cf,AE];rfl
  .rintro σ H9 ⟨o,rfl,s9,e9⟩;refine⟨q,Af (ns.map V.int).length true,rfl,SqL.of e9,?_⟩;rw[show (Af (ns.map V.int).length true).all id=true by simp];exact k H9 (s1.trans (s2.trans (s3.trans s9)))
noncomputable def zdI(K:W.Frag):Sp:=λvs H Q _=>∃(a:Addr) (rs:List V) (R:List Rnd),vs=[.ref a]/\H a=some (.lst rs)/\VR rs R rR H/\(∀r∈R,SoOk r/\r.row.length<=2000)/\R.length<=500/\∀H',Same H H'->Q (.bl true) H'
theorem zdd (T:Txt P w K mg) (g__law_is_round:Fn P w K mg base 1 "_law_is_round" ["_law_found"] zdG) (d:Df K mg "_law_are_rounds" zaY ["_law_found"]):FnOk P w K mg base CX0 2 d.f d.fd ["_law_found"] (zdI K):=by
 refine d.F.ok zcU (λvs H Q E h=>?_) (λcdv A outer s H vs Q E hr h=>?_)
 .obtain⟨a,rs,R,rfl,_⟩:=h;rfl
 .obtain⟨a,rs,R,rfl,hL,hR,hso,hlen,k⟩:=h;have hu1:=hu_of hr;have nb0:(["_law_one"]:List Str).Nodup:=by decide +kernel
  refine⟨_,(zaf (zaj (zhp (zaq zdz (by rfl) T.nisinstance (by rfl) (pa_N (pv 0) (pa_N (zdW (v:=.ty "list") (by rfl) T.nlist (by rfl) rfl) zac))) (zf3 (zaq (zeg rfl) (by rfl) T.nall (by rfl) (zah (zbm (osc:=zae zaY) (N:=zb2) (N':=["_law_one"]) (sel:=[none]) bO (zaN (pv 0)) (λ_ _ _ _ _=>(nG 0 nb0)) (λ_ _ _ _ _=>zbS) (λ_ _ _ _ _=>(pC g__law_is_round hr (pa_N (pv 0) zac)))) zac)))))),?_⟩;refine⟨_,rfl,.ref a,"list",_,true,rfl,.lst hL,zdv _ _,_,rfl,iteT ?_⟩;refine⟨_,rfl,a,rfl,⟨_,SqL.of hL⟩,λq hq=>?_⟩
  refine zax (K:=K) (a:=a) (xs:=rs) (λj σ H9=>∃o,σ=[o]/\Same H H9/\H9 q=some (.lst ((Af j true).map V.bl)))
   ⟨_,rfl,Same.up hq,zaa⟩ (λj σ H9 _ ⟨_,_,s9,_⟩=>s9.seq (SqL.of hL)) ?_ ?_
  .rintro j v σ H9 hj ⟨o,rfl,s9,e9⟩;have hjl:j<rs.length:=(Ae.mp hj).1;rw[hR.1]at hjl;obtain⟨r,hr',hx⟩:=hR.at hj;obtain⟨h1,h2⟩:=hso r (Ag hr');refine gN ?_
   refine⟨_,rfl,v,r,rfl,hx.kt (KT.of s9),h1,h2,λH10 s10=>?_⟩;refine⟨_,s10 _ _ e9,zbh (by simp;lia),_,rfl,zar hq (s9.trans s10),?_⟩;rw[zaa,Cf,AE];rfl
  .rintro σ H9 ⟨o,rfl,s9,e9⟩;refine⟨q,Af rs.length true,rfl,SqL.of e9,?_⟩;rw[show (Af rs.length true).all id=true by simp];exact k H9 s9
inductive Al {α β:Type} (P:α->β->Prop):List α->List β->Prop where
 |nil:Al P [] []
 |cons {a:α} {b:β} {l:List α} {m:List β}:P a b->Al P l m->Al P (a::l) (b::m)
theorem Al.of{α β:Type}{P:α->β->Prop}:∀{l:List α}{m:List β},l.length=m.length->(∀(i:Nat) a b,m[i]?=some b->l[i]?=some a->P a b)->Al P l m
 |[],[],_,_=>.nil
 |[],_::_,h,_=>by cases h
 |_::_,[],h,_=>by cases h
 |a::l,b::m,h,q=>.cons (q 0 a b rfl rfl) (Al.of (by simpa using h) λi x y h1 h2=>q (i+1) x y (by simpa using h1) (by simpa using h2))
theorem Al.length{α β:Type}{P:α->β->Prop}{l:List α}{m:List β}(h:Al P l m):l.length=m.length:=by
 induction h with
 |nil=>rfl
 |cons _ _ ih=>simp[ih]
theorem Al.at{α β:Type}{P:α->β->Prop}{l:List α}{m:List β}(h:Al P l m):∀{i:Nat}{a:α}{b:β},m[i]?=some b->l[i]?=some a->P a b:=by
 induction h with
 |nil=>intro i a b h1;simp at h1
 |cons p _ ih =>
  intro i a b h1 h2
  cases i with
  |zero=>simp at h1 h2;subst h1 h2;exact p
  |succ i=>exact ih (by simpa using h1) (by simpa using h2)
theorem Al.perm{α β:Type}{P:α->β->Prop}{l' l:List α}(p:l'.Perm l):∀{m:List β},Al P l m->∃m',m'.Perm m/\Al P l' m':=by
 induction p with
 |nil=>intro m h;exact⟨m,.refl _,h⟩
 |cons a _ ih =>
  intro m h
  cases h with
  |cons p t =>
   obtain⟨m',q,r⟩:=ih t;exact⟨_::m',q.cons _,.cons p r⟩
 |swap a b l =>
  intro m h
  cases h with
  |cons p t =>
   cases t with
   |cons p2 t2=>exact⟨_::_::_,.swap _ _ _,.cons p2 (.cons p t2)⟩
 |trans _ _ ih1 ih2 =>
  intro m h;obtain⟨m1,q1,r1⟩:=ih2 h;obtain⟨m2,q2,r2⟩:=ih1 r1;exact⟨m2,q2.trans q1,r2⟩
theorem Al.bind{α γ:Type}{P Q:α->List γ->Prop}(f:∀a b,P a b->∃c,Q a c/\c.Perm b){l:List α}{m:List (List γ)}(h:Al P l m):∃m',Al Q l m'/\m'.flatten.Perm m.flatten:=by
 induction h with
 |nil=>exact⟨[],.nil,.refl _⟩
 |cons p _ ih =>
  obtain⟨c,q1,q2⟩:=f _ _ p;obtain⟨m',r1,r2⟩:=ih;exact⟨c::m',.cons q1 r1,by rw[Bl,Bl];exact q2.append r2⟩
theorem zgm{γ:Type}{a b:List (List γ)}(p:a.Perm b):a.flatten.Perm b.flatten:=by
 induction p with
 |nil=>exact .refl _
 |cons x _ ih=>rw[Bl,Bl];exact ih.append_left _
 |swap x y l =>
  simp only[Bl];rw[<- At,<- At];exact List.perm_append_comm.append_right _
 |trans _ _ i1 i2=>exact i1.trans i2
structure Cans (C:Cell->Bool) (ESS:List (List Edge)) (R:List Rnd):Prop where
 al:Al (λr es=>Can C es r) R ESS
 nd:ESS.flatten.Nodup
 all:∀e,e∈ESS.flatten ↔ IsE C e
theorem Whole.cans{cs:List Cell}{R R0:List Rnd}(p:R.Perm R0)(h:Whole cs R0):∃ESS,Cans (isIn cs) ESS R:=by
 obtain⟨E,h1,h2⟩:=h;have a1:Al (λr es=>(∃b,Closed (isIn cs) b es)/\IsRnd (wk (isIn cs) es) r) R0 E:=Al.of h1.len λi r es e1 e2=>h1.each i es r e1 e2
 obtain⟨F,q1,a2⟩:=a1.perm p
 obtain⟨G,a3,q2⟩:=Al.bind (Q:=λr es=>Can (isIn cs) es r) (λr es ⟨⟨b,hb⟩,hr⟩=>by obtain⟨es',k1,k2,k3,k4,k5,_⟩:=IsRnd.walk hb hr;exact⟨es',⟨k1,k3,k4,k5⟩,k2⟩) a2
 have pm:=q2.trans (zgm q1);exact⟨G,a3,pm.nodup_iff.mpr h1.nd,λe=>by rw[pm.mem_iff];exact h2 e⟩
theorem Cans.so{C:Cell->Bool}{ESS:List (List Edge)}{R:List Rnd}(h:Cans C ESS R){i:Nat}{r:Rnd}(hr:R[i]?=some r):∃es,ESS[i]?=some es/\Can C es r:=by have hi:=(Ae.mp hr).1;rw[h.al.length]at hi;exact⟨_,Aa hi,h.al.at (Aa hi) hr⟩
theorem Al.snoc{α β:Type}{P:α->β->Prop}{l:List α}{m:List β}{a:α}{b:β}(h:Al P l m)(p:P a b):Al P (l++[a]) (m++[b]):=by
 induction h with
 |nil=>exact .cons p .nil
 |cons q _ ih=>exact .cons q ih
noncomputable def zdj(K:W.Frag):Sp:=λvs H Q _=>∃(a:Addr) (rs:List V) (R:List Rnd) (n:Nat) (C:Cell->Bool) (ESS:List (List Edge)),vs=[.ref a,.int n]/\SqL K H a rs/\VR rs R rR H/\R.length<=500/\Al (λr es=>Can C es r) R ESS/\0<n/\n<=4/\(∀es∈ESS,n*es.length<=2000/\es.length<=500) /\
 ∀p H' rs' S S0,H p=none->Same H H'->H' p=some (.lst rs')->VR rs' S rR H'->S.Perm S0->InKey S->Al (λr es=>IsRnd (wk (gC n C) (gW n es)) r) S0 ESS->Q (.ref p) H'
theorem zeq (T:Txt P w K mg) (g_greater:Fn P w K mg base 6 "greater" ["one","times"] (zcT K)) (g_in_order:Fn P w K mg base 4 "in_order" ["some"] (zfU K)) (d:Df K mg "greater_all" zbx ["some","times"]):FnOk P w K mg base CX0 7 d.f d.fd ["some","times"] (zdj K):=by
 refine d.F.ok zel (λvs H Q E h=>?_) (λcdv A outer s H vs Q E hr h=>?_)
 .obtain⟨a,rs,R,n,C,ESS,rfl,_⟩:=h;rfl
 .obtain⟨a,rs,R,n,C,ESS,rfl,hL,hR,hlen,al,hn,hn4,hes,k⟩:=h;have hu1:=hu_of hr;have nb0:(["one","times"]:List Str).Nodup:=by decide +kernel
  refine⟨_,(zaf (zaj (pC g_in_order hr (zah (zbm (osc:=zae zbx) (N:=zc5) (N':=["one","times"]) (sel:=[none,some 1]) bO (zaN (pv 0)) (λ_ _ _ _ _=>(nG 0 nb0)) (λ_ _ _ _ _=>zbS) (λ_ _ _ _ _=>(pC g_greater hr (pa_N (pv 0) (pa_N (pv 1) zac))))) zac)))),?_⟩;have hrl:rs.length<=500:=by rw[hR.1];exact hlen
  refine⟨_,rfl,a,rfl,⟨_,hL⟩,λp0 hp0=>?_⟩
  refine zax (K:=K) (a:=a) (xs:=rs) (λj σ H9=>∃o,σ=[o,some (.int n)]/\Same H H9/\∃vs' S0,H9 p0=some (.lst vs')/\VR vs' S0 rR H9/\Al (λr es=>IsRnd (wk (gC n C) (gW n es)) r) S0 (ESS.take j))
   ⟨_,rfl,Same.up hp0,[],[],zaa,VR.nil,.nil⟩ (λj σ H9 _ ⟨_,_,s9,_⟩=>s9.seq hL) ?_ ?_
  .rintro j v σ H9 hj ⟨o,rfl,s9,vs',S0,e9,hv,ha⟩;obtain⟨r,hr',hx⟩:=hR.at hj;have hjR:j<R.length:=(Ae.mp hr').1;have hjE:j<ESS.length:=by rw[<- al.length];exact hjR
   have hE:=Aa hjE;have hcan:=al.at hE hr'
   have hel:vs'.length<=500:=by have:=ha.length;rw[hv.1,this,AL];have:=al.length;lia
   refine gN ?_
   refine⟨_,rfl,_,rfl,v,n,r,C,ESS[j],rfl,hx.kt (KT.of s9),hcan,hn,hn4,(hes _ (A9 _)).1,(hes _ (A9 _)).2,λv' H10 r' s10 hr10 hrn=>?_⟩;have e10:=s10 _ _ e9;refine⟨vs',e10,zaF (by lia),_,rfl,zar hp0 (s9.trans s10),_,S0++[r'],zaa,?_,?_⟩
   .exact hv.snoc (λx v h=>(h.kt (KT.of s10)).kt (KT.lst e10)) (hr10.kt (KT.lst e10))
   .rw[zaL hE];exact ha.snoc hrn
  .rintro σ H9 ⟨o,rfl,s9,vs',S0,e9,hv,ha⟩;have ht:ESS.take rs.length=ESS:=Bz (by rw[hR.1,al.length];exact An _);rw[ht]at ha;exact⟨p0,vs',S0,rfl,SqL.of e9,hv,(by rw[ha.length,<- al.length];exact hlen),λp H' rs' S hp s' e' hv' hpm hin=>k p H' rs' S S0 (s9.free hp) (s9.trans s') e' hv' hpm hin ha⟩
theorem IsRnd.same{C:Cell->Bool}{b:Edge}{es:List Edge}{r q:Rnd}(h:Closed C b es)(hr:IsRnd (wk C es) r)(hq:IsRnd (wk C es) q):r=q :=
 IsRnd.one h h (Ag h.1.1) (Ag h.1.1) hr hq
theorem zko(W:Wk):nL W=((W.map (·.2)).filter (·.isNone)).length:=by rw[List.filter_map,Am];rfl
theorem zkn(W:Wk):nS W=((W.map (·.2)).filter slant).length:=by rw[List.filter_map,Am];rfl
theorem zfO(C:Cell->Bool)(es:List Edge):(wk C es).map (·.2)=es.map (stepB C):=by unfold wk;rw[List.map_map];rfl
theorem zfA(C:Cell->Bool)(n:Nat)(p:Option Nat->Bool)(hp:∀k,p (some (2*k))=false):∀es:List Edge,((gD C n es).filter p).length=((es.map (stepB C)).filter p).length
 |[]=>rfl
 |e::es=>by
  have ih:=zfA C n p hp es;show (((Af (n-1) (some (2*e.w))++[stepB C e])++gD C n es).filter p).length=((stepB C e::es.map (stepB C)).filter p).length;rw[C3,C3,Ai,Ai,ih,List.filter_replicate_of_neg (by rw[hp];exact AA),BU,BV,<- Ai,<- C3];rfl
theorem zk5{C:Cell->Bool}{n:Nat}(hn:0<n){es:List Edge}(hE:∀e∈es,IsE C e):sortS (wk (gC n C) (gW n es))=sortS (wk C es):=by
 have e1:nL (wk (gC n C) (gW n es))=nL (wk C es):=by rw[zko,zko,zfO,zfO,zdf hn hE];exact zfA C n _ (λ_=>rfl) es
 have e2:nS (wk (gC n C) (gW n es))=nS (wk C es):=by rw[zkn,zkn,zfO,zfO,zdf hn hE];exact zfA C n _ (λk=>by show (2*k % 2 == 1)=false;rw[show 2*k % 2=0 by lia];rfl) es
 unfold sortS;rw[e1,e2]
noncomputable def gAt (n:Nat) (so:Str):Nat:=if so = "hole" then n-1 else 0
theorem lexN2{a b c d:Int}:HT.lexLt [a,b] [c,d]=false ↔ ¬ (a<c∨(a=c/\b<d)):=by
 rw[HT.lexLt_cons]
 by_cases h:a=c
 .rw[if_pos h,HT.lexLt_cons]
  by_cases h2:b=d
  .rw[if_pos h2];constructor
   .intro _;lia
   .intro _;rfl
  .rw[if_neg h2];constructor
   .intro z;have:=of_decide_eq_false z;lia
   .intro z;exact decide_eq_false (by lia)
 .rw[if_neg h];constructor
  .intro z;have:=of_decide_eq_false z;lia
  .intro z;exact decide_eq_false (by lia)
theorem gE0(n i:Nat)(e:Edge)(h:e.w=0):(gE n i e).c=((n:Int)*e.c.1+(i:Int),(n:Int)*e.c.2):=by unfold gE;rw[h];show ((n:Int)*e.c.1+((n:Int)-1)*0+(i:Int)*1,(n:Int)*e.c.2+((n:Int)-1)*0+(i:Int)*0)=_;simp
theorem gE2(n i:Nat)(e:Edge)(h:e.w=2):(gE n i e).c=((n:Int)*e.c.1+((n:Int)-1)-(i:Int),(n:Int)*e.c.2+((n:Int)-1)):=by unfold gE;rw[h];show ((n:Int)*e.c.1+((n:Int)-1)*1+(i:Int)*(-1),(n:Int)*e.c.2+((n:Int)-1)*1+(i:Int)*0)=_;simp;lia
theorem zj1{C:Cell->Bool}{n:Nat}(hn:0<n){es:List Edge}{r:Rnd}(h:Can C es r):zbW (wk (gC n C) (gW n es)) r.so (gE n (gAt n r.so) (begE r)):=by
 obtain⟨h1,h2,h3⟩:=h.bg;rw[zbK]at h1;have hE:=h.cl.1.2.2.1;have hat:gAt n r.so<n:=by unfold gAt;split <;> lia
 refine⟨?_,h2,λf hf hfw=>?_⟩
 .rw[zbK];exact List.mem_flatMap.mpr ⟨begE r,h1,zbZ.mpr ⟨_,hat,rfl⟩⟩
 .rw[zbK]at hf;obtain⟨e,he,hp⟩:=List.mem_flatMap.mp hf;obtain⟨i,hi,rfl⟩:=zbZ.mp hp;have hew:e.w=kOf r.so:=hfw;have hm:=h3 e (by rw[zbK];exact he) hew;rw[lexN2]at hm ⊢;have hn':(0:Int)<n:=by lia
  have hi':(i:Int)<n:=by lia
  rcases zbL (wk C es) with z |z
  .have hz:r.so = "rim":=h.so.trans z;have k0:kOf r.so=0:=by rw[hz];rfl
   have a0:gAt n r.so=0:=by unfold gAt;rw[hz];rfl
   rw[gE0 n i e (by rw[hew,k0]),gE0 n _ (begE r) (by rw[h2,k0]),a0];simp only;intro q;rcases q with q |⟨q,q2⟩
   .by_cases t:e.c.2<(begE r).c.2
    .exact hm (.inl t)
    .have:(n:Int)*(begE r).c.2<=(n:Int)*e.c.2:=BR (by lia) (by lia);lia
   .have e2:e.c.2=(begE r).c.2:=Int.eq_of_mul_eq_mul_left (by lia) q
    by_cases t:e.c.1<(begE r).c.1
    .exact hm (.inr ⟨e2,t⟩)
    .have:(n:Int)*(begE r).c.1<=(n:Int)*e.c.1:=BR (by lia) (by lia);lia
  .have hz:r.so = "hole":=h.so.trans z;have k0:kOf r.so=2:=by rw[hz];rfl
   have a0:gAt n r.so=n-1:=by unfold gAt;rw[hz];rfl
   rw[gE2 n i e (by rw[hew,k0]),gE2 n _ (begE r) (by rw[h2,k0]),a0];simp only;have c1:((n-1:Nat):Int)=(n:Int)-1:=by lia
   rw[c1];intro q;rcases q with q |⟨q,q2⟩
   .by_cases t:e.c.2<(begE r).c.2
    .exact hm (.inl t)
    .have:(n:Int)*(begE r).c.2<=(n:Int)*e.c.2:=BR (by lia) (by lia);lia
   .have e2:e.c.2=(begE r).c.2:=Int.eq_of_mul_eq_mul_left (a:=(n:Int)) (by lia) (by lia)
    by_cases t:e.c.1<(begE r).c.1
    .exact hm (.inr ⟨e2,t⟩)
    .have:(n:Int)*(begE r).c.1<=(n:Int)*e.c.1:=BR (by lia) (by lia);lia
noncomputable def gRow(C:Cell->Bool)(n:Nat)(es:List Edge):List Nat:=(gD C n es).filterMap id
theorem zk7{C:Cell->Bool}{n:Nat}{b:Edge}{es:List Edge}(h:es[0]?=some b):∃t,gD C n es=Af (n-1) (some (2*b.w))++t:=by
 cases es with
 |nil=>cases h
 |cons e es =>
  cases h
  exact⟨[stepB C b]++gD C n es,by show (Af (n-1) (some (2*b.w))++[stepB C b])++gD C n es=_;rw[At]⟩
theorem zhD(k x:Nat):(Af k (some x)).filterMap id=Af k x:=by
 induction k with
 |zero=>rfl
 |succ k ih=>rw[Bd,Bd,CP];show x::_=_;rw[ih]
theorem zlU{n k x:Nat}{t D:List (Option Nat)}(e:D=Af (n-1) (some x)++t)(hk:k=0∨k=n-1):(D.drop k++D.take k).filterMap id=(D.filterMap id).drop k++(D.filterMap id).take k:=by
 rcases hk with rfl |rfl
 .simp
 .have l1:(Af (n-1) (some x)).length=n-1:=AR;have l2:(Af (n-1) x).length=n-1:=AR;rw[e,BS,BS,zhD];rw[List.drop_left' l1,List.take_left' l1,List.drop_left' l2,List.take_left' l2,zhD]
theorem Can.greater{C:Cell -> Bool}{es:List Edge}{r q:Rnd}{n:Nat}(hn : 0 < n)(h:Can C es r)(hq:IsRnd (wk (gC n C) (gW n es)) q) :
  q.so=r.so/\q.x=(n:Int)*r.x/\q.y=(n:Int)*r.y+(gAt n r.so:Int)/\q.row=(gRow C n es).drop (gAt n r.so)++(gRow C n es).take (gAt n r.so):=by
 have hE:=h.cl.1.2.2.1;have hs:=zk5 hn hE;have hcl:=zfN hn h.cl;have hb:=zj1 hn h;have hat:gAt n r.so<n:=by unfold gAt;split <;> lia
 have h0:=h.cl.1.1;have hE0:es≠[]:=λz=>by rw[z]at h0;cases h0
 have hj:((wk (gC n C) (gW n es)).map (·.1))[gAt n r.so]?=some (gE n (gAt n r.so) (begE r)):=by
  rw[zbK]
  cases es with
  |nil=>cases h0
  |cons e es =>
   cases h0
   show (parts n (begE r)++gW n es)[gAt n r.so]?=_;rw[Ay (by unfold parts;rw[Am,CF];exact hat)];unfold parts;rw[Ax,CQ hat];rfl
 have hr2:IsRnd (wk (gC n C) (gW n es)) ⟨r.so,(gE n (gAt n r.so) (begE r)).c.1,(gE n (gAt n r.so) (begE r)).c.2,((wk (gC n C) (gW n es)).drop (gAt n r.so)++(wk (gC n C) (gW n es)).take (gAt n r.so)).filterMap (·.2)⟩ :=
  ⟨by rw[hs,h.so],gAt n r.so,_,hj,by rw[hs,<- h.so];exact hb,rfl,rfl,rfl⟩
 have:=IsRnd.same hcl hq hr2;subst this;have hk:gAt n r.so=0∨gAt n r.so=n-1:=by unfold gAt;split <;> simp
 refine⟨rfl,?_,?_,?_⟩
 .show (gE n (gAt n r.so) (begE r)).c.1=_;rcases zbL (wk C es) with z |z
  .have hz:r.so = "rim":=h.so.trans z;rw[gE0 n _ _ (by show kOf r.so=0;rw[hz];rfl),show gAt n r.so=0 by unfold gAt;rw[hz];rfl];show (n:Int)*r.x+((0:Nat):Int)=_;lia
  .have hz:r.so = "hole":=h.so.trans z;rw[gE2 n _ _ (by show kOf r.so=2;rw[hz];rfl),show gAt n r.so=n-1 by unfold gAt;rw[hz];rfl];show (n:Int)*r.x+((n:Int)-1)-((n-1:Nat):Int)=_;lia
 .show (gE n (gAt n r.so) (begE r)).c.2=_;rcases zbL (wk C es) with z |z
  .have hz:r.so = "rim":=h.so.trans z;rw[gE0 n _ _ (by show kOf r.so=0;rw[hz];rfl),show gAt n r.so=0 by unfold gAt;rw[hz];rfl];show (n:Int)*r.y=(n:Int)*r.y+((0:Nat):Int);lia
  .have hz:r.so = "hole":=h.so.trans z;rw[gE2 n _ _ (by show kOf r.so=2;rw[hz];rfl),show gAt n r.so=n-1 by unfold gAt;rw[hz];rfl];show (n:Int)*r.y+((n:Int)-1)=(n:Int)*r.y+((n-1:Nat):Int);lia
 .obtain⟨t,ht⟩:=zk7 (C:=C) (n:=n) h0;have hf:=zlU ht hk;have hg:gD C n es=(wk (gC n C) (gW n es)).map (·.2):=by rw[zfO,zdf hn hE]
  unfold gRow;rw[<- hf,hg,<- Da,<- Db,<- AE,Cp];rfl
noncomputable def rp(n w:Nat):List Nat:=Af (n-1) (2*w)
noncomputable def gG(n:Nat):Nat->List (Option Nat)->List Nat
 |_,[]=>[]
 |w,none::ds=>rp n ((w+1) % 4)++gG n ((w+1) % 4) ds
 |w,some s::ds=>s::(rp n (s / 2)++gG n (s / 2) ds)
noncomputable def gWy:Nat->List (Option Nat)->Nat
 |w,[]=>w
 |w,none::ds=>gWy ((w+1) % 4) ds
 |w,some s::ds=>gWy (s / 2) ds
theorem zct(n:Nat):∀(a b:List (Option Nat)) (w:Nat),gG n w (a++b)=gG n w a++gG n (gWy w a) b
 |[],b,w=>rfl
 |none::a,b,w=>by show rp n _++gG n _ (a++b)=(rp n _++gG n _ a)++_;rw[zct n a b,At];rfl
 |some s::a,b,w=>by show s::(rp n _++gG n _ (a++b))=(s::(rp n _++gG n _ a))++_;rw[zct n a b];simp[gWy]
theorem zb0:∀(a b:List (Option Nat)) (w:Nat),gWy w (a++b)=gWy (gWy w a) b
 |[],b,w=>rfl
 |none::a,b,w=>zb0 a b _
 |some s::a,b,w=>zb0 a b _
theorem zd7:∀(i w:Nat),w<4->gWy w (Af i none)=(w+i) % 4
 | 0,w,h=>by show w=_;lia
 |i+1,w,h=>by
  rw[Bd];show gWy ((w+1) % 4) (Af i none)=_;rw[zd7 i _ (Ca _ (by decide))];lia
theorem zdC:∀s<8,wayB s=s / 2:=by decide
theorem zgZ:∀(l:List Nat) (w:Nat),(∀s∈l,s<8)->gWy w (dgo w l).1=(dgo w l).2
 |[],w,_=>rfl
 |s::l,w,h=>by
  show gWy w (Af _ none++some s::(dgo (wayB s) l).1)=(dgo (wayB s) l).2;rw[zb0];show gWy (s / 2) (dgo (wayB s) l).1=_;rw[<- zdC s (h s Av)];exact zgZ l _ λx hx=>h x (As _ hx)
theorem zi7{n:Nat}(hn:0<n):∀(ds:List (Option Nat)) (w:Nat),(gG n w ds).length<=n*ds.length
 |[],w=>AU _
 |none::ds,w=>by
  have:=zi7 hn ds ((w+1) % 4);show (rp n _++gG n _ ds).length<=n*(ds.length+1);unfold rp;rw[Ai,AR,Nat.mul_add];lia
 |some s::ds,w=>by
  have:=zi7 hn ds (s / 2);show (rp n _++gG n _ ds).length+1<=n*(ds.length+1);unfold rp;rw[Ai,AR,Nat.mul_add];lia
theorem zkY{C:Cell->Bool}{e:Edge}(h:IsE C e):(nxt C e).w=match stepB C e with |none=>(e.w+1) % 4 |some s=>s / 2:=by
 cases hs:stepB C e with
 |none=>unfold nxt;rw[hs];rfl
 |some s =>
  obtain⟨_,h2,h3⟩:=ze4 h hs;show _=s / 2;rw[<- zdC s h3,h2]
theorem zlR{C:Cell->Bool}{n:Nat}{b t:Edge}{es:List Edge}(h:Run C b es t):(∀e∈es,IsE C e)->rp n b.w++gG n b.w (es.map (stepB C))=gRow C n es++rp n t.w:=by
 induction h with
 |nil b=>intro _;show rp n b.w++[]=[]++rp n b.w;simp
 |@cons b l es h ih =>
  intro hE;have ih:=ih λe he=>hE e (As _ he)
  have hw:=zkY (hE b Av)
  have hr:gRow C n (b::es)=(rp n b.w++[stepB C b].filterMap id)++gRow C n es:=by unfold gRow;show ((Af (n-1) (some (2*b.w))++[stepB C b])++gD C n es).filterMap id=_;rw[BS,BS,zhD];rfl
  rw[hr,At,At,<- ih]
  congr 1
  show gG n b.w (stepB C b::es.map (stepB C))=_
  cases hs:stepB C b with
  |none=>rw[hs]at hw;rw[hw];rfl
  |some s=>rw[hs]at hw;rw[hw];rfl
theorem Can.made{C:Cell->Bool}{es:List Edge}{r:Rnd}(h:Can C es r)(n:Nat):rp n (kOf r.so)++gG n (kOf r.so) (deeds (kOf r.so) r.row)=gRow C n es++rp n (kOf r.so):=by have hE:=h.cl.1.2.2.1;obtain⟨⟨h0,hs,_,_⟩,l,hl,hb⟩:=h.cl;have hrun:=Run.of es h0 (λi e f h1 h2=>hs i e f h1 h2) hl;rw[hb]at hrun;have:=zlR (n:=n) hrun hE;rw[Closed.deeds h.cl,<- h.row]at this;exact this
theorem sz{n:Nat}(h:n<=20000):n<sizeLine:=CZ h (by decide)
theorem zfe{σ : St}{H:Hp}{Q:VK}{n w:Nat}(h1 : σ[1]? = some (some (.int (n:Int))))(h2 : σ[2]? = some (some (.int (w:Int))))(hn : 0 < n)(hn4:n <= 4)
  (h:∀q H',H q=none->Same H H'->H' q=some (.lst ((rowI (rp n w)).map V.int))->Q (.ref q) H') :
  tOp rRep (tLst (tCons (tOp (rI CMul λi j=>V.int (i*j)) (tC (V.int 2)) (tVar 2)) tNil)) (tOp (rI0 λi j=>V.int (i-j)) (tVar 1) (tC (V.int 1))) σ H Q:=by
 refine⟨_,h2,_,_,rfl,rfl,.inl ⟨by decide,by decide⟩,(by show 1<=sizeLine;decide),λl hl=>?_⟩;refine⟨_,h1,_,_,rfl,rfl,l,_,_,rfl,rfl,zaa,(by show -(2 ^ 63)<=(n:Int)-1;lia),(by show (n:Int)-1<2 ^ 63;lia),Bm (sz (by simp;lia)),λq hq=>?_⟩;refine h q _ ((Same.up hl).free hq) ((Same.up hl).trans (Same.up hq)) ?_
 rw[zaa]
 have er:(Af ((n:Int)-1).toNat [V.int (2*(w:Int))]).flatten=(rowI (rp n w)).map V.int:=by
  rw[show ((n:Int)-1).toNat=n-1 by lia];unfold rp;generalize n-1=m
  induction m with
  |zero=>rfl
  |succ m ih =>
   rw[Bd,Bl,ih,Bd];show V.int (2*(w:Int))::_=V.int ((2*w:Nat):Int)::_;rw[show (2*(w:Int))=((2*w:Nat):Int) by lia];rfl
 rw[er]
theorem zjk{σ : St}{H:Hp}{Q:VK}{n w:Nat}{g:Addr}{row:List Nat}(h1 : σ[1]? = some (some (.int (n:Int))))(h2 : σ[2]? = some (some (.int (w:Int))))(h4 : σ[4]? = some (some (.ref g)))(hg:H g=some (.lst ((rowI row).map V.int)))(hl:row.length <= 15000)(hn : 0 < n)(hn4:n <= 4)
  (h:∀q H',H q=none->Same H H'->H' q=some (.lst ((rowI (row++rp n w)).map V.int))->Q (.ref q) H') :
  tOp rCat (tVar 4) (tOp rRep (tLst (tCons (tOp (rI CMul λi j=>V.int (i*j)) (tC (V.int 2)) (tVar 2)) tNil)) (tOp (rI0 λi j=>V.int (i-j)) (tVar 1) (tC (V.int 1)))) σ H Q:=by
 refine⟨_,h4,?_⟩;refine zfe h1 h2 hn hn4 λq H1 hq s1 e1=>?_
 refine⟨g,q,_,_,rfl,rfl,s1 _ _ hg,e1,Bm (sz ?_),λp hp=>h p _ (s1.free hp) (s1.trans (Same.up hp)) ?_⟩
 .unfold rowI rp;simp;lia
 .rw[zaa];unfold rowI;rw[AE,AE]
theorem zik{A:Prop}{D:V->Hp->Prop}(C:V->Hp->Prop)(g:(∀n H1,D n H1->C n H1)->A)(h:∀n H1,D n H1->C n H1):A:=g h
noncomputable def zki(K:W.Frag):Sp:=λvs H Q _=>∃(v:V) (n:Nat) (r:Rnd) (C:Cell->Bool) (es:List Edge),vs=[v,.int n]/\rR r v H/\Can C es r/\0<n/\n<=4/\es.length<=480 /\
 ∀t H',H t=none->Same H H'->H' t=some (.tup ((rowI (gRow C n es)).map V.int))->Q (.ref t) H'
theorem zgS (T:Txt P w K mg) (d:Df K mg "_law_made" zcL ["_law_one","_law_times"]):FnOk P w K mg base CX0 1 d.f d.fd ["_law_one","_law_times"] (zki K):=by
 refine d.F.ok zao (λvs H Q E h=>?_) (λcdv A outer s H vs Q E hr h=>?_)
 .obtain⟨v,n,r,C,es,rfl,_⟩:=h;rfl
 .obtain⟨v,n,r,C,es,rfl,hv,hc,hn,hn4,hlen,k⟩:=h;have hu64:=hr.units
  refine⟨_,(zab (sE 2 zao.nd (pe_ix zaz (zaU (pa_C zad (pa_C zad zac))) (zbH zcv (by rfl) T.nint (by rfl) (zah (za1 op_eq (pe_ix zaI (pv 0) zad (λ_ _=>rfl)) zcV (zap _)) zac)) (λ_ _=>rfl)))
   (zab (sE 3 zao.nd (pv 2))
   (zab (sE 4 zao.nd (pe_op zdY (zaU (pa_B (pe_op zaZ zad (pv 2)) zac)) (pe_op zaE (pv 1) zad)))
   (zab (zbF Be rfl (zhm (pe_ix zaI (pv 0) zad (λ_ _=>rfl))) (nG 5 zao.nd)
   (zab (zhl Be (zau op_ne (pv 2) (pe_op za6 (pe_op zdc (pe_op zaH (pv 5) zad) zad) zad) (zap _))
   (zab (sE 2 zao.nd (pe_op za6 (pe_op zaH (pv 2) zad) zad))
   (zaf (sE 4 zao.nd (pe_op zeO (pv 4) (pe_op zdY (zaU (pa_B (pe_op zaZ zad (pv 2)) zac)) (pe_op zaE (pv 1) zad)))))))
   (zab (sE 2 zao.nd (pe_op zdc (pv 5) zad))
   (zaf (sE 4 zao.nd (pe_op zeO (pe_op zeO (pv 4) (zaU (pa_N (pv 5) zac))) (pe_op zdY (zaU (pa_B (pe_op zaZ zad (pv 2)) zac)) (pe_op zaE (pv 1) zad))))))))
   (zab (sE 6 zao.nd (pe_op za6 (pe_op zaE (pv 3) (pv 2)) zad))
   (zab (ps_if (zau (ziN hu64) (pe_ix zaI (pv 0) zad (λ_ _=>rfl)) (zaK zac) (zap _))
   (zaf (sE 6 zao.nd zad))
   zaw)
   (zab (zbF Be rfl (zcq (by rfl) T.nrange (pa_N (pv 6) zac)) (nG 7 zao.nd)
   (zab (sE 2 zao.nd (pe_op za6 (pe_op zaH (pv 2) zad) zad))
   (zaf (sE 4 zao.nd (pe_op zeO (pv 4) (pe_op zdY (zaU (pa_B (pe_op zaZ zad (pv 2)) zac)) (pe_op zaE (pv 1) zad)))))))
   (zaf (zaj (zbH zc4 (by rfl) T.ntuple (by rfl) (zah (zbN zgJ (pv 4) zc9 (zbT (pe_op zaE (zaq zaJ (by rfl) T.nlen (by rfl) (pa_N (pv 4) zac)) (pe_op zaE (pv 1) zad)))) zac))))))))))),?_⟩
  obtain⟨x,b,rfl,q1,q2⟩:=id hv;refine⟨two,λl hl=>?_⟩;have s1:=Same.up (o:=.lst [.int 0,.int 2]) hl;have e1:upd H l (.lst [.int 0,.int 2]) l=some (.lst [.int 0,.int 2]):=zaa;generalize upd H l (.lst [.int 0,.int 2])=H1 at s1 e1;refine⟨_,rfl,x,_,_,_,rfl,rfl,SqT.of (s1 _ _ q1),zai (j:=0) rfl,rfl,.inr ⟨_,rfl,l,_,_,_,rfl,rfl,SqL.of e1,show atI [V.int 0,V.int 2] (if decide (V.str r.so=V.str (Br "hole"))=true then 1 else 0)=some (.int (kOf r.so:Nat)) from ?_,?_⟩⟩
  .rcases zbL (wk C es) with z |z
   .have hz:r.so = "rim":=hc.so.trans z;rw[hz];rfl
   .have hz:r.so = "hole":=hc.so.trans z;rw[hz];rfl
  refine⟨_,rfl,?_⟩;refine zfe (n:=n) (w:=kOf r.so) rfl rfl hn hn4 λg0 H2 _ s2 e2=>?_
  have s02:=s1.trans s2;have hE:=hc.cl.1.2.2.1
  have h8:∀s∈r.row,s<8:=λs hs=>by rw[hc.row]at hs;obtain⟨o,ho,eo⟩:=List.mem_filterMap.mp hs;simp only[id]at eo;subst eo;obtain⟨e,he,ee⟩:=Bg.mp ho;exact (ze4 (hE e he) ee).2.2
  have hrl:r.row.length<=480:=by
   rw[hc.row];refine AS (CO _ _) ?_
   rw[Am];exact hlen
  have hb4:kOf r.so<4:=by unfold kOf;split <;> decide
  have hmade:=hc.made n
  have hdl:∀i ds,(∃c,ds=(dgo (kOf r.so) (r.row.take i)).1++c/\c.length<=4)->(rp n (kOf r.so)++gG n (kOf r.so) ds).length<=10000:=λi ds ⟨c,e,hc4⟩=>by
   have h1:=zi7 hn ds (kOf r.so);have h2:=zeb (r.row.take i) (kOf r.so);have h3:(r.row.take i).length<=480:=by rw[AL];lia
   have h4:ds.length<=1924:=by rw[e,Ai];lia
   have h5:n*ds.length<=4*1924:=Nat.mul_le_mul hn4 h4;unfold rp;rw[Ai,AR];lia
  generalize kOf r.so=wb at *;refine⟨_,rfl,x,_,_,_,rfl,rfl,SqT.of (s02 _ _ q1),zai (j:=3) rfl,b,rfl,⟨_,SqT.of (s02 _ _ q2)⟩,?_⟩
  refine zfB (K:=K) (a:=b) (xs:=rowV r.row) (λj σ H9=>∃g o5 o6 o7,σ=[some (.ref x),some (.int n),some (.int ((dgo wb (r.row.take j)).2:Nat)),some (.int wb),some (.ref g),o5,o6,o7]/\Same H H9/\H9 g=some (.lst ((rowI (rp n wb++gG n wb (dgo wb (r.row.take j)).1)).map V.int)))
   ⟨g0,_,_,_,rfl,s02,by rw[e2];show _=some (HO.lst ((rowI (rp n wb++[])).map V.int));rw[AX]⟩ (λj σ H9 _ ⟨_,_,_,_,_,s9,_⟩=>SqT.of (s9 _ _ q2)) ?_ ?_
  .rintro j u σ H9 hj ⟨g,o5,o6,o7,rfl,s9,e9⟩;unfold rowV at hj;rw[Ax]at hj;obtain⟨st,hst,rfl⟩:=A8.mp hj;have hst8:=h8 st (Ag hst);have hsn:=zfE st (r.row.take j) wb;have hw0:=zea (r.row.take j) wb hb4;have hgw:=zgZ (r.row.take j) wb λs hs=>h8 s (BJ hs)
   have hln:=hdl j;rw[zaL hst,hsn];generalize (dgo wb (r.row.take j)).1=D at e9 hgw hln ⊢;generalize (dgo wb (r.row.take j)).2=w0 at hgw hw0 ⊢;have hwl:∀i,gWy wb (D++Af i none)=(w0+i) % 4:=λi=>by rw[zb0,hgw,zd7 i w0 hw0]
   refine zg5 (λσ H'=>∃g i o6 o7,i<=(zaC st+4-w0) % 4/\σ=[some (.ref x),some (.int n),some (.int (((w0+i) % 4:Nat):Int)),some (.int wb),some (.ref g),some (.int st),o6,o7]/\Same H H'/\H' g=some (.lst ((rowI (rp n wb++gG n wb (D++Af i none))).map V.int)))
    (λσ _=>match σ with |[_,_,some (.int q),_,_,_,_,_]=>((zaC st:Int)+4-q).toNat % 4 |_=>0) ?_ ?_ ?_
   .refine⟨g,0,o6,o7,AU _,?_,s9,?_⟩
    .rw[Nat.add_zero,Nat.mod_eq_of_lt hw0];rfl
    .rw[List.replicate_zero,AX];exact e9
   .rintro σ HA ⟨g,i,o6,o7,hi,rfl,sA,eA⟩;refine⟨_,rfl,_,rfl,_,_,rfl,rfl,_,_,rfl,rfl,⟨by decide,by decide⟩,_,_,rfl,rfl,(by show (0:Int)<4;decide),rfl,_,rfl,?_⟩;have hwf:((((st:Int)+1) / 2) % 4)=((zaC st:Nat):Int):=by unfold zaC;lia
    have hwf4:zaC st<4:=Ca _ (by decide);refine ite2 (λhy=>?_) (λhn'=>?_)
    .have hne:(w0 + i) % 4 ≠ zaC st := λz => by have hy':(!decide (V.int (((w0+i) % 4:Nat):Int)=V.int ((((st:Int)+1) / 2) % 4)))=true:=hy;rw[hwf,z]at hy';simp at hy'
     refine⟨_,rfl,_,_,rfl,rfl,_,_,rfl,rfl,(by show (0:Int)<4;decide),?_⟩;have hc1:((((w0+i) % 4:Nat):Int)+1) % 4=(((w0+(i+1)) % 4:Nat):Int):=by lia
     refine zjk (n:=n) (w:=(w0+(i+1)) % 4) (g:=g) rfl (by show some (some (V.int (((((w0+i) % 4:Nat):Int)+1) % 4)))=_;rw[hc1]) rfl eA (by have:=hln _ ⟨Af i none,rfl,by rw[AR];lia⟩;lia) hn hn4 λq HB _ sB eB=>?_
     refine⟨⟨q,i+1,o6,o7,by lia,by rw[<- hc1];rfl,sA.trans sB,?_⟩,?_⟩
     .rw[eB,Cf,<- At,zct n _ [none],hwl,<- At];show some (HO.lst ((rowI (_++rp n ((w0+(i+1)) % 4))).map V.int))=some (HO.lst ((rowI (_++(rp n (((w0+i) % 4+1) % 4)++[]))).map V.int));rw[AX,show ((w0+i) % 4+1) % 4=(w0+(i+1)) % 4 by lia]
     .show ((zaC st:Int)+4-((((w0+i) % 4:Nat):Int)+1) % 4).toNat % 4<((zaC st:Int)+4-(((w0+i) % 4:Nat):Int)).toNat % 4;lia
    .have heq:(w0 + i) % 4=zaC st := Classical.byContradiction λz => hn' (by
      show (!decide (V.int (((w0+i) % 4:Nat):Int)=V.int ((((st:Int)+1) / 2) % 4)))=true;rw[hwf,show decide (V.int (((w0+i) % 4:Nat):Int)=V.int ((zaC st:Nat):Int))=false from decide_eq_false λq=>z (by injection q with q;lia)];rfl)
     have hik:i=(zaC st+4-w0) % 4:=by lia
     refine⟨_,rfl,_,_,rfl,rfl,⟨by decide,by decide⟩,?_⟩;have hh:((st:Int) / 2)=((st / 2:Nat):Int):=by lia
     refine⟨_,rfl,_,rfl,(by show 1<=sizeLine;decide),λl1 hl1=>?_⟩;have hlA:=hln _ ⟨Af i none,rfl,by rw[AR];lia⟩;refine⟨g,l1,_,_,rfl,rfl,Same.up hl1 _ _ eA,zaa,Bm (sz (by unfold rowI;simp at hlA ⊢;lia)),λg2 hg2=>?_⟩;have sC:=(Same.up (o:=.lst [.int (st:Int)]) hl1).trans (Same.up (o:=.lst ((rowI (rp n wb++gG n wb (D++Af i none))).map V.int++[.int (st:Int)])) hg2)
     have eC:upd (upd HA l1 (.lst [.int (st:Int)])) g2 (.lst ((rowI (rp n wb++gG n wb (D++Af i none))).map V.int++[.int (st:Int)])) g2=some (.lst ((rowI ((rp n wb++gG n wb (D++Af i none))++[st])).map V.int)):=by rw[zaa];unfold rowI;simp
     generalize upd (upd HA l1 (.lst [.int (st:Int)])) g2 (.lst ((rowI (rp n wb++gG n wb (D++Af i none))).map V.int++[.int (st:Int)]))=HC at sC eC;refine zfe (n:=n) (w:=st / 2) rfl (by show some (some (V.int ((st:Int) / 2)))=_;rw[hh]) hn hn4 λq HD hq sD eD=>?_
     refine⟨g2,q,_,_,rfl,rfl,sD _ _ eC,eD,Bm (sz (by unfold rowI rp;unfold rp at hlA;simp at hlA ⊢;lia)),λg3 hg3=>?_⟩;refine⟨g3,some (.int (st:Int)),o6,o7,?_,sA.trans (sC.trans (sD.trans (Same.up hg3))),?_⟩
     .rw[zdC st hst8,<- hh];rfl
     .rw[zaa,<- hik,<- At,zct n _ [some st],hwl];show some (HO.lst (_++_))=some (HO.lst ((rowI (rp n wb++(gG n wb (D++Af i none)++(st::(rp n (st / 2)++[]))))).map V.int));rw[AX];unfold rowI;simp
   .rintro σ HA Q1 Q2 hQ ⟨v,h1,v2,h2,a1,a2,r1,r2,a3,a4,r3,r4,c5,a6,a7,r5,r6,c6,c7,kk,h3,q⟩;exact⟨v,h1,v2,h2,a1,a2,r1,r2,a3,a4,r3,r4,c5,a6,a7,r5,r6,c6,c7,kk,h3,hQ _ _ q⟩
  rintro σ H9 ⟨g,o5,o6,o7,rfl,s9,e9⟩;have tl:r.row.take (rowV r.row).length=r.row:=Bz (by unfold rowV;rw[Am];exact An _);rw[tl]at e9 ⊢;have hw0:=zea r.row wb hb4;have hgw:=zgZ r.row wb h8;have hln:∀ds,(∃c,ds=(dgo wb r.row).1++c/\c.length<=4)->(rp n wb++gG n wb ds).length<=10000:=λds hd=>hdl r.row.length ds (by rw[Bb];exact hd)
  have hll:zan wb r.row<=4:=by unfold zan;split <;> lia
  have hmd:rp n wb++gG n wb ((dgo wb r.row).1++Af (zan wb r.row) none)=gRow C n es++rp n wb:=hmade
  have hl0:r.row≠[]->(((wb:Int)-((dgo wb r.row).2:Nat)) % 4)=((zan wb r.row:Nat):Int):=λhne=>by unfold zan;rw[if_neg (by simpa using hne)];lia
  have hl4:r.row=[]->zan wb r.row=4:=λz=>by unfold zan;rw[z];rfl
  generalize zan wb r.row=ll at *;generalize (dgo wb r.row).1=D at *;generalize (dgo wb r.row).2=w0 at *;have hwl:∀i,gWy wb (D++Af i none)=(w0+i) % 4:=λi=>by rw[zb0,hgw,zd7 i w0 hw0]
  refine⟨_,rfl,_,rfl,_,_,rfl,rfl,_,_,rfl,rfl,(by show (0:Int)<4;decide),?_⟩;refine zik (D:=λv H1=>Same H9 H1/\v=V.int (ll:Nat)) ?C (λmain=>⟨_,rfl,x,_,_,_,rfl,rfl,SqT.of (s9 _ _ q1),zai (j:=3) rfl,AU _,λw9 hw9=>⟨tI (rowI r.row),tI [],.tup (SqT.of (Same.up hw9 _ _ (by rw[s9 _ _ q2,zf0]))) (RDs.ints _),.tup (SqT.of zaa) (RDs.ints []),zav _,zav _,_,rfl,ite2 (λhy=>?t) (λhn=>?f)⟩⟩) ?h
  case f =>
   have hne:r.row≠[]:=λz=>hn (by rw[zcu,z];rfl)
   have hz:V.int (((wb:Int)-(w0:Nat)) % 4)=V.int (ll:Nat):=by rw[hl0 hne]
   generalize hv6:V.int (((wb:Int)-(w0:Nat)) % 4)=v6;rw[hv6]at hz;have hg:(λi j=>V.int (i % j)) ((wb:Int)-(w0:Nat)) 4=v6:=hv6;simp only[hg];exact main v6 _ ⟨Same.up hw9,hz⟩
  case t =>
   have hnil:r.row=[]:=by have:=hy;rw[zcu]at this;have:=of_decide_eq_true this;unfold rowI at this;exact Dq.mp this
   exact main (V.int 4) _ ⟨Same.up hw9,by rw[hl4 hnil];rfl⟩
  rintro v6 HA ⟨sA,rfl⟩;refine⟨_,rfl,_,rfl,(by show -(2 ^ 62)<=((ll:Nat):Int);lia),(by show ((ll:Nat):Int)<2 ^ 62;lia),?_⟩
  refine zb1 (lo:=0) (n:=((ll:Nat):Int).toNat) (λi σ HB=>∃g o5 o6 o7,σ=[some (.ref x),some (.int n),some (.int (((w0+i) % 4:Nat):Int)),some (.int wb),some (.ref g),o5,o6,o7]/\Same H HB/\HB g=some (.lst ((rowI (rp n wb++gG n wb (D++Af i none))).map V.int)))
   ⟨g,o5,some (.int (ll:Nat)),o7,?_,s9.trans sA,?_⟩ ?_ ?_
  .rw[Nat.add_zero,Nat.mod_eq_of_lt hw0];rfl
  .rw[List.replicate_zero,AX];exact sA _ _ e9
  .rintro i σ HB hi ⟨g,o5,o6,o7,rfl,sB,eB⟩;refine⟨_,rfl,_,_,rfl,rfl,_,_,rfl,rfl,(by show (0:Int)<4;decide),?_⟩;have hc1:((((w0+i) % 4:Nat):Int)+1) % 4=(((w0+(i+1)) % 4:Nat):Int):=by lia
   refine zjk (n:=n) (w:=(w0+(i+1)) % 4) (g:=g) rfl (by show some (some (V.int (((((w0+i) % 4:Nat):Int)+1) % 4)))=_;rw[hc1]) rfl eB (by have:=hln _ ⟨Af i none,rfl,by rw[AR];lia⟩;lia) hn hn4 λq HC _ sC eC=>?_
   refine⟨q,o5,o6,some (.int (0+(i:Int))),by rw[<- hc1];rfl,sB.trans sC,?_⟩;rw[eC,Cf,<- At,zct n _ [none],hwl,<- At];show some (HO.lst ((rowI (_++rp n ((w0+(i+1)) % 4))).map V.int))=some (HO.lst ((rowI (_++(rp n (((w0+i) % 4+1) % 4)++[]))).map V.int));rw[AX,show ((w0+i) % 4+1) % 4=(w0+(i+1)) % 4 by lia]
  .rintro σ HB ⟨g,o5,o6,o7,rfl,sB,eB⟩;rw[show ((ll:Nat):Int).toNat=ll by lia,hmd]at eB;refine⟨_,rfl,_,rfl,g,_,rfl,.inl (SqL.of eB),_,rfl,_,_,rfl,rfl,_,_,rfl,rfl,_,rfl,g,_,rfl,SqL.of eB,λq hq=>⟨q,_,rfl,.inl ⟨SqL.of zaa,λl1 hl1=>?_⟩⟩⟩
   have hcut:cutV ((rowI (gRow C n es++rp n wb)).map V.int) none (some ((((rowI (gRow C n es++rp n wb)).map V.int).length:Int)-((n:Int)-1)))=(rowI (gRow C n es)).map V.int:=by
    have hlx:((rowI (gRow C n es++rp n wb)).map V.int).length=(gRow C n es).length+(n-1):=by unfold rowI rp;simp
    rw[hlx,show ((((gRow C n es).length+(n-1):Nat):Int)-((n:Int)-1))=(((gRow C n es).length:Nat):Int) by lia,zjh _ (by rw[hlx];lia)];unfold rowI;rw[AE,AE,List.take_left' (by simp)]
   rw[hcut]at hl1 ⊢;exact k l1 _ ((sB.trans (Same.up hq)).free hl1) (sB.trans ((Same.up hq).trans (Same.up hl1))) zaa
noncomputable def rot(ns:List Int)(i:Nat):List Int:=ns.drop i++ns.take i
theorem ziB{K:W.Frag}{σ : St}{H:Hp}{Q:VK}{te:TE}{j i:Nat}{a:Addr}{ns:List Int}(hm:∀(H':Hp) (Q':VK), Same H H' -> Q' (.ref a) H' -> te σ H' Q')(hj : σ[j]? = some (some (.int (i:Int))))(hq0:H a=some (.tup (ns.map V.int)))
  (hi:i<ns.length∨(ns=[]/\i=0)) (hlen:ns.length<=2000) (h:∀b H',Same H H'->H' b=some (.tup ((rot ns i).map V.int))->Q (.ref b) H') :
  tOp (rCatE K) (tSl (rSlTW K) te (tPart (tVar j)) zgD) (tSl (rSlTW K) te zgD (tPart (tVar j))) σ H Q:=by
 have hq:SqT K H a (ns.map V.int):=SqT.of hq0;have hl:(ns.map V.int).length=ns.length:=Am _;have i1:HT.sIx (ns.map V.int).length 0 (some (i:Int))=min i ns.length:=by rw[zfc,hl]
 have i2:HT.sIx (ns.map V.int).length (ns.map V.int).length (some (i:Int))=min i ns.length:=by rw[zfc,hl]
 have c1:cutV (ns.map V.int) (some (i:Int)) none=(ns.drop i).map V.int:=by rw[zhK _ (by rw[hl];lia),Da]
 have c2:cutV (ns.map V.int) none (some (i:Int))=(ns.take i).map V.int:=by rw[zjh _ (by rw[hl];lia),Db]
 rcases DF i with rfl |hp
 .refine hm H _ (Same.refl _) ⟨_,hj,_,rfl,a,_,rfl,hq,λ_=>?_,λhn=>absurd ⟨by rw[i1];lia,rfl⟩ hn⟩;rcases hi with hi |⟨hz,_⟩
  .refine hm H _ (Same.refl _) ⟨_,hj,_,rfl,a,_,rfl,hq,λhw=>?_,λ_ p hp'=>?_⟩
   .rw[i2]at hw;have:=hw.2;rw[hl]at this;lia
   .rw[c2];have hne:ns≠[]:=λz=>by rw[z]at hi;exact absurd hi (by simp)
    refine⟨a,p,_,_,rfl,rfl,(Same.up hp').seqT hq,SqT.of zaa,Bm (zbh (by simp;lia)),λz=>absurd (Dq.mp z) hne,λ_ _=>h a _ (Same.up hp') ?_,λ_ hne=>absurd rfl hne⟩;have e:rot ns 0=ns:=by unfold rot;simp
    rw[e];exact Same.up hp' _ _ hq0
  .subst hz;refine hm H _ (Same.refl _) ⟨_,hj,_,rfl,a,_,rfl,hq,λ_=>?_,λhn=>absurd ⟨rfl,by rw[i2];rfl⟩ hn⟩;exact⟨a,a,_,_,rfl,rfl,hq,hq,by show 0+0<=sizeLine;decide,λ_=>h a H (Same.refl _) hq0,λz=>absurd rfl z,λz=>absurd rfl z⟩
 .have hi':i<ns.length:=by lia
  refine hm H _ (Same.refl _) ⟨_,hj,_,rfl,a,_,rfl,hq,λhw=>?_,λ_ p1 hp1=>?_⟩
  .rw[i1]at hw;have:=hw.1;lia
  .rw[c1];have s1:=Same.up (o:=.tup ((ns.drop i).map V.int)) hp1;refine hm _ _ s1 ⟨_,hj,_,rfl,a,_,rfl,s1.seqT hq,λhw=>?_,λ_ p2 hp2=>?_⟩
   .rw[i2]at hw;have:=hw.2;rw[hl]at this;lia
   .rw[c2];have s2:=Same.up (o:=.tup ((ns.take i).map V.int)) hp2;refine⟨p1,p2,_,_,rfl,rfl,s2.seqT (SqT.of zaa),SqT.of zaa,Bm (zbh (by simp;lia)),λz=>?_,λ_ z=>?_,λ_ _ p3 hp3=>h p3 _ (s1.trans (s2.trans (Same.up hp3))) ?_⟩
    .have:=List.drop_eq_nil_iff.mp (Dq.mp z);lia
    .have h3:(ns.take i).length=0:=by rw[Dq.mp z];rfl
     rw[AL]at h3;lia
    .rw[zaa];unfold rot;rw[AE]
theorem zhB{C:Cell->Bool}{n:Nat}:∀es:List Edge,(n-1)*es.length<=(gRow C n es).length
 |[]=>AU _
 |e::es=>by
  have ih:=zhB (C:=C) (n:=n) es
  have hr:gRow C n (e::es)=(rp n e.w++[stepB C e].filterMap id)++gRow C n es:=by unfold gRow;show ((Af (n-1) (some (2*e.w))++[stepB C e])++gD C n es).filterMap id=_;rw[BS,BS,zhD];rfl
  rw[hr,Ai,Ai];unfold rp;rw[AR,AV,Nat.mul_add,Nat.mul_one];lia
theorem zi6{C:Cell->Bool}{n:Nat}(hn:0<n)(es:List Edge):(gRow C n es).length<=n*es.length:=by
 unfold gRow;refine AS (CO _ _) ?_
 rw[zcX hn];exact An _
theorem Can.two{C:Cell->Bool}{es:List Edge}{r:Rnd}(h:Can C es r):2<=es.length:=by
 obtain⟨x,h1,h2⟩:=h.cl.has (k:=0) (.inl rfl);obtain⟨y,h3,h4⟩:=h.cl.has (k:=2) (.inr rfl);obtain⟨i,hi,ei⟩:=AN h1;obtain⟨j,hj,ej⟩:=AN h3;have:i≠j:=λz=>by subst z;rw[ei]at ej;rw[ej]at h2;lia
 lia
theorem zc0{α:Type}(l:List α)(k:Nat):(l.drop k++l.take k).length=l.length:=by rw[Ai,List.length_drop,AL];lia
theorem zjA(row:List Nat)(k:Nat):rowI (row.drop k++row.take k)=rot (rowI row) k:=by unfold rot rowI;rw[AE,Da,Db]
noncomputable def ziq(K:W.Frag):Sp:=λvs H Q _=>∃(v:V) (n:Nat) (r:Rnd) (C:Cell->Bool) (es:List Edge),vs=[v,.int n]/\rR r v H/\Can C es r/\2<=n/\n<=4/\es.length<=480/\SoOk r/\∀H',Same H H'->Q (.bl true) H'
theorem zga (T:Txt P w K mg) (g_greater:Fn P w K mg base 6 "greater" ["one", "times"] (zcT K)) (g__law_made:Fn P w K mg base 1 "_law_made" ["_law_one", "_law_times"] (zki K)) (g__law_is_round:Fn P w K mg base 1 "_law_is_round" ["_law_found"] zdG)
  (d:Df K mg "_law_right" zco ["_law_one","_law_times"]):FnOk P w K mg base CX0 7 d.f d.fd ["_law_one","_law_times"] (ziq K):=by
 refine d.F.ok zbj (λvs H Q E h=>?_) (λcdv A outer s H vs Q E hr h=>?_)
 .obtain⟨v,n,r,C,es,rfl,_⟩:=h;rfl
 .obtain⟨v,n,r,C,es,rfl,hv,hc,hn,hn4,hlen,hso,k⟩:=h;have hu64:=hr.units
  refine⟨_,(zab (sE 2 zbj.nd (pC g_greater hr (pa_N (pv 0) (pa_N (pv 1) zac))))
   (zab (sE 3 zbj.nd (pC g__law_made hr (pa_N (pv 0) (pa_N (pv 1) zac))))
   (zab (ps_if (pw_or (zdV (zcF (pC g__law_is_round hr (pa_N (pv 2) zac)))) (pw_or (zau op_ne (pe_ix zaI (pv 2) zad (λ_ _=>rfl)) (pe_ix zaI (pv 0) zad (λ_ _=>rfl)) (zap _)) (zhk (zau op_ne (zaq zaJ (by rfl) T.nlen (by rfl) (zah (pe_ix zaI (pv 2) zad (λ_ _=>rfl)) zac)) (zaq zaJ (by rfl) T.nlen (by rfl) (pa_N (pv 3) zac)) (zap _))))).pt
   (zaf (zaj pe_bl))
   zaw)
   (zab (sE 4 zbj.nd (pe_op zaZ (pe_op zaE (pv 1) zad) (zbH zcv (by rfl) T.nint (by rfl) (zah (za1 op_eq (pe_ix zaI (pv 0) zad (λ_ _=>rfl)) zcV (zap _)) zac))))
   (zab (ps_if (zau (zf8 hu64) (zbN zdK (pv 2) (zbT zad) (zbT zad)) (zaK (pa_B (pe_op zaZ (pe_ix zaI (pv 0) zad (λ_ _=>rfl)) (pv 1)) (pa_B (pe_op zaH (pe_op zaZ (pe_ix zaI (pv 0) zad (λ_ _=>rfl)) (pv 1)) (pv 4)) zac))) (zap _))
   (zaf (zaj pe_bl))
   zaw)
   (zab (sE 5 zbj.nd (pe_op zaZ (pe_op zaE (pv 1) zad) (zbH zcv (by rfl) T.nint (by rfl) (zah (za1 op_eq (pe_ix zaI (pv 0) zad (λ_ _=>rfl)) zcV (zap _)) zac))))
   (zaf (zaj (za1 (ziN hu64) (pe_ix zaI (pv 2) zad (λ_ _=>rfl)) (pe_op zkV (zbN zdK (pv 3) (zbT (pv 5)) zc9) (zbN zdK (pv 3) zc9 (zbT (pv 5)))) (zap _)))))))))),?_⟩
  have hn0:0<n:=by lia
  have hnl:n*es.length<=2000:=AS (Nat.mul_le_mul hn4 hlen) (by decide);refine⟨_,rfl,_,rfl,v,n,r,C,es,rfl,hv,hc,hn0,hn4,hnl,by lia,λv2 H1 r2 s1 hr2 hq2=>?_⟩;obtain⟨so2,x2,y2,row2⟩:=hc.greater hn0 hq2;refine⟨_,rfl,_,rfl,v,n,r,C,es,rfl,hv.kt (KT.of s1),hc,hn0,hn4,hlen,λt H2 ht s2 e2=>?_⟩;have hso2:SoOk r2:=by show r2.so = "rim" ∨ r2.so = "hole";rw[so2];exact hso
  have hrl2:r2.row.length=(gRow C n es).length:=by rw[row2,zc0]
  have hgl:=zi6 (C:=C) hn0 es;have hgr:=zhB (C:=C) (n:=n) es;have h2e:=hc.two;refine⟨_,rfl,v2,r2,rfl,hr2.kt (KT.of s2),hso2,by lia,λH3 s3=>⟨_,rfl,iteF ?_⟩⟩;have s03:=s1.trans (s2.trans s3);obtain⟨x,b,rfl,q1,q2⟩:=hv.kt (KT.of s03);obtain⟨z,c,rfl,f1,f2⟩:=hr2.kt (KT.of (s2.trans s3));refine⟨_,rfl,z,_,_,_,rfl,rfl,SqT.of f1,zai (j:=0) rfl,_,rfl,x,_,_,_,rfl,rfl,SqT.of q1,zai (j:=0) rfl,rfl,_,rfl,iteN (by rw[so2];simp) ?_⟩;refine⟨_,rfl,z,_,_,_,rfl,rfl,SqT.of f1,zai (j:=3) rfl,c,_,rfl,.inr (SqT.of f2),_,rfl,t,_,rfl,.inr (SqT.of (s3 _ _ e2)),rfl,_,rfl,iteN ?_ ?_⟩
  .have:(rowV r2.row).length=((rowI (gRow C n es)).map V.int).length:=by unfold rowV rowI;simp;exact hrl2
   rw[this];simp
  have hone:∀q:Bool,-(2 ^ 64)<(if q=true then (1:Int) else 0)/\(if q=true then (1:Int) else 0)<2 ^ 64:=λq=>by cases q <;> decide
  have hat:((n:Int)-1)*(if decide (V.str r.so=V.str (Br "hole"))=true then 1 else 0)=(gAt n r.so:Nat):=by
   rcases hso with z |z
   .rw[show gAt n r.so=0 by unfold gAt;rw[z];rfl,z,show decide (V.str "rim" = V.str (Br "hole"))=false from rfl];simp
   .rw[show gAt n r.so=n-1 by unfold gAt;rw[z];rfl,z,show decide (V.str "hole" = V.str (Br "hole"))=true from rfl];simp;lia
  refine⟨_,rfl,_,_,rfl,rfl,_,rfl,x,_,_,_,rfl,rfl,SqT.of q1,zai (j:=0) rfl,rfl,.inr ⟨_,rfl,_,_,rfl,rfl,.inr (hone _),?_⟩⟩;refine⟨_,rfl,_,rfl,_,rfl,z,_,rfl,SqT.of f1,λhw=>absurd (show HT.sIx 4 0 (some 1)=0 from hw.1) (by decide),λ_ p hp=>?_⟩;have s4:=Same.up (o:=.tup (cutV [V.str r2.so,V.int r2.x,V.int r2.y,V.ref c] (some 1) (some 3))) hp;have e4:upd H3 p (.tup (cutV [V.str r2.so,V.int r2.x,V.int r2.y,V.ref c] (some 1) (some 3))) p=some (.tup ([r2.x,r2.y].map V.int)):=zaa;generalize upd H3 p (.tup (cutV [V.str r2.so,V.int r2.x,V.int r2.y,V.ref c] (some 1) (some 3)))=H4 at s4 e4;have q14:=s4 _ _ q1;have hnb:-(2 ^ 64)<(n:Int)/\(n:Int)<2 ^ 64:=⟨by lia,by lia⟩;refine⟨_,rfl,x,_,_,_,rfl,rfl,SqT.of q14,zai (j:=1) rfl,_,rfl,_,_,rfl,rfl,.inr hnb,_,rfl,x,_,_,_,rfl,rfl,SqT.of q14,zai (j:=2) rfl,_,rfl,_,_,rfl,rfl,.inr hnb,_,rfl,_,_,rfl,rfl,two,λp2 hp2=>?_⟩;refine⟨tI [r2.x,r2.y],tI [r.x*(n:Int),r.y*(n:Int)+((n:Int)-1)*(if decide (V.str r.so=V.str (Br "hole"))=true then 1 else 0)],.tup (SqT.of (Same.up hp2 _ _ e4)) (RDs.ints _),.tup (SqT.of zaa) (RDs.ints [_,_]),zav _,zav _,_,rfl,iteN ?_ ?_⟩
  .rw[zcu,decide_eq_true (by rw[x2,y2,hat,Int.mul_comm,Int.mul_comm (n:Int)])];rfl
  have s5:=s4.trans (Same.up (o:=.tup [V.int (r.x*(n:Int)),V.int (r.y*(n:Int)+((n:Int)-1)*(if decide (V.str r.so=V.str (Br "hole"))=true then 1 else 0))]) hp2);refine⟨_,rfl,_,_,rfl,rfl,_,rfl,x,_,_,_,rfl,rfl,SqT.of (s5 _ _ q1),zai (j:=0) rfl,rfl,.inr ⟨_,rfl,_,_,rfl,rfl,.inr (hone _),?_⟩⟩;refine⟨_,rfl,z,_,_,_,rfl,rfl,SqT.of (s5 _ _ f1),zai (j:=3) rfl,?_⟩
  have hgi:gAt n r.so<(rowI (gRow C n es)).length:=by
   have h1:(rowI (gRow C n es)).length=(gRow C n es).length:=Am _;have h2:(n-1)*2<=(n-1)*es.length:=Nat.mul_le_mul_left _ h2e;have h3:gAt n r.so<=n-1:=by unfold gAt;split <;> lia
   lia
  refine ziB (j:=5) (i:=gAt n r.so) (a:=t) (ns:=rowI (gRow C n es)) (λH' Q' _ h=>⟨_,rfl,h⟩) (by show some (some (V.int (((n:Int)-1)*(if decide (V.str r.so=V.str (Br "hole"))=true then 1 else 0))))=_;rw[hat]) (s5 _ _ (s3 _ _ e2)) (.inl hgi) (by have h1:(rowI (gRow C n es)).length=(gRow C n es).length:=Am _;lia) λl H6 s6 hl=>?_
  refine⟨tI (rowI r2.row),tI (rot (rowI (gRow C n es)) (gAt n r.so)),.tup (SqT.of (by rw[(s5.trans s6) _ _ f2,zf0])) (RDs.ints _),.tup (SqT.of hl) (RDs.ints _),zav _,zav _,?_⟩;rw[zcu,row2,zjA,decide_eq_true rfl];exact k H6 (s03.trans (s5.trans s6))
noncomputable def Boxed(m:Nat)(cs:List Cell):Prop:=∃(x y:Int) (w h:Nat),w*h<=m/\∀c∈cs,x<=c.1/\c.1<x+w/\y<=c.2/\c.2<y+h
noncomputable def apart(o:Cell)(k:Int)(c:Cell):Cell:=(o.1+(c.1-o.1)*k,o.2+(c.2-o.2)*k)
noncomputable def zl3(H:Hp)(p:Addr)(t:Int):Prop:=∃c:Int,H p=some (.lst [.int c,.int t])/\0<=t/\t<2 ^ 40
theorem cpow{i j:Int}(h:0<=j/\j<=1000000/\i.natAbs<2 ^ 64):CPow i j:=h
noncomputable def zhf(K:W.Frag):Sp:=λvs H Q _=>∃(a:Addr) (ns:List Int) (k:Nat),vs=[.ref a,.int k]/\SqL K H a (ns.map V.int)/\∀n,Q (.int n) H
theorem zep (T:Txt P w K mg) (d:Df K mg "_law_cell_at" zbR ["_law_script","_law_k"]):FnOk P w K mg base CX0 1 d.f d.fd ["_law_script","_law_k"] (zhf K):=by
 refine d.F.ok zdN (λvs H Q E h=>?_) (λcdv A outer s H vs Q E hr h=>?_)
 .obtain⟨a,ns,k,rfl,_⟩:=h;rfl
 .obtain⟨a,ns,i,rfl,hq,k⟩:=h
  refine⟨_,(zab (ps_if (zau op_lt (pv 1) (zaq zaJ (by rfl) T.nlen (by rfl) (pa_N (pv 0) zac)) (zap _))
   (zaf (zaj (pe_ix zaz (pv 0) (pv 1) (λ_ _=>rfl))))
   zaw)
   (zaf (zaj zad))),?_⟩
  refine⟨_,rfl,_,rfl,a,_,rfl,.inl hq,_,_,rfl,rfl,_,rfl,?_⟩;refine ite2 (λhy=>?_) (λhn=>k 0)
  have hlt:i<ns.length:=by have:=of_decide_eq_true hy;rw[Am]at this;lia
  exact⟨_,rfl,_,rfl,a,_,_,_,rfl,rfl,hq,zai (v:=.int ns[i]) (by simp[hlt]),k _⟩
noncomputable def zkf:Sp:=λvs H Q _=>∃(p:Addr) (t b:Int),vs=[.ref p,.int b]/\zl3 H p t/\0<b/\b.natAbs.log2<9000/\∀(n c:Int),0<=n->n<b->Q (.int n) (upd H p (.lst [.int c,.int (t+1)]))
theorem zgR (T:Txt P w K mg) (d:Df K mg "_law_take" zcK ["_law_pen","_law_base"]):FnOk P w K mg base CX0 1 d.f d.fd ["_law_pen","_law_base"] zkf:=by
 refine d.F.ok zbt (λvs H Q E h=>?_) (λcdv A outer s H vs Q E hr h=>?_)
 .obtain⟨p,t,b,rfl,_⟩:=h;rfl
 .obtain⟨p,t,b,rfl,⟨c,hp,ht0,ht1⟩,hb,hlog,k⟩:=h
  refine⟨_,(zab (zbG (pe_op zaH (pe_ix zaz (pv 0) zad (λ_ _=>rfl)) zad) (zkl (pv 0) zad zhh))
   (zab (ps_if (zau op_ge (zaq zhO (by rfl) T.nabs (by rfl) (zah (pe_ix zaz (pv 0) zad (λ_ _=>rfl)) zac)) (pe_op zf6 zad zad) (zap _))
   (zab (sE 2 zbt.nd (pe_op zaE (zaq zhO (by rfl) T.nabs (by rfl) (zah (pe_ix zaz (pv 0) zad (λ_ _=>rfl)) zac)) (pe_op zf6 zad zad)))
   (zab (zbG (pe_op zaH (pe_op zf6 zad zad) (pe_op zhq (pv 2) (pv 1))) (zkl (pv 0) zad zhh))
   (zaf (zaj (pe_op za6 (pv 2) (pv 1))))))
   zaw)
   (zab (sE 3 zbt.nd (pe_op zaH (pe_op zaZ (pe_op za6 (pe_ix zaz (pv 0) zad (λ_ _=>rfl)) zad) zad) (pe_op zaZ (pe_op zaZ zad (pe_ix zaz (pv 0) zad (λ_ _=>rfl))) (pe_ix zaz (pv 0) zad (λ_ _=>rfl)))))
   (zab (sE 3 zbt.nd (pe_op za6 (pe_op zaH (pe_op zaH (pv 3) (pe_op zaZ zad (pe_ix zaz (pv 0) zad (λ_ _=>rfl)))) zad) zad))
   (zab (sE 3 zbt.nd (pe_op za6 (pe_op zaH (pe_op zaH (pe_op zaZ (pv 3) (pv 3)) (pe_op zaZ zad (pv 3))) (pe_ix zaz (pv 0) zad (λ_ _=>rfl))) zad))
   (zaf (zaj (pe_op za6 (pe_op zdc (pv 3) zad) (pv 1))))))))),?_⟩
  refine⟨_,rfl,p,_,_,_,rfl,rfl,SqL.of hp,zai (j:=1) rfl,_,_,rfl,rfl,_,rfl,p,_,_,1,rfl,rfl,hp,rfl,?_⟩;have h1:upd H p (.lst [.int c,.int (t+1)]) p=some (.lst [.int c,.int (t+1)]):=zaa;have hmod:∀z:Int,0<=z % b/\z % b<b:=λz=>⟨Int.emod_nonneg _ (by lia),Int.emod_lt_of_pos _ hb⟩
  refine⟨_,rfl,p,_,_,_,rfl,rfl,SqL.of h1,zai (j:=0) rfl,c,rfl,_,_,rfl,rfl,(by refine cpow ?_;decide),_,_,rfl,rfl,_,rfl,?_⟩;refine ite2 (λ_=>?_) (λ_=>?_)
  .refine⟨_,rfl,p,_,_,_,rfl,rfl,SqL.of h1,zai (j:=0) rfl,c,rfl,_,_,rfl,rfl,(by refine cpow ?_;decide),_,_,rfl,rfl,?_⟩;refine⟨_,_,rfl,rfl,(by refine cpow ?_;decide),_,rfl,_,rfl,_,_,rfl,rfl,⟨hb,hlog⟩,_,_,rfl,rfl,_,rfl,p,_,_,0,rfl,rfl,h1,rfl,?_⟩;refine⟨_,rfl,_,rfl,_,_,rfl,rfl,hb,?_⟩;rw[zkz];exact k _ _ (hmod _).1 (hmod _).2
  .refine⟨_, rfl, p, _, _, _, rfl, rfl, SqL.of h1, zai (j := 0) rfl, _, _, rfl, rfl, (by show (0:Int) < 2147483647; decide), _, _, rfl, rfl, .inr ⟨by decide, by decide⟩,
    _,rfl,p,_,_,_,rfl,rfl,SqL.of h1,zai (j:=1) rfl,_,_,rfl,rfl,.inl ⟨by decide,by decide⟩,_,rfl,p,_,_,_,rfl,rfl,SqL.of h1,zai (j:=1) rfl,_,_,rfl,rfl,.inr ⟨by lia,by lia⟩,_,_,rfl,rfl,?_⟩
   refine⟨_,rfl,_,rfl,p,_,_,_,rfl,rfl,SqL.of h1,zai (j:=1) rfl,_,_,rfl,rfl,.inl ⟨by decide,by decide⟩,_,_,rfl,rfl,_,_,rfl,rfl,_,_,rfl,rfl,(by show (0:Int)<2147483629;decide),?_⟩
   refine⟨_,rfl,_,rfl,_,_,rfl,rfl,.inl ⟨Int.lt_of_lt_of_le (show (-(2 ^ 64):Int)<0 by decide) (Int.emod_nonneg _ (by decide)),Int.lt_trans (Int.emod_lt_of_pos _ (by decide)) (by decide)⟩,_,rfl,_,_,rfl,rfl,.inl ⟨by decide,by decide⟩,_,_,rfl,rfl,
    _,rfl,p,_,_,_,rfl,rfl,SqL.of h1,zai (j:=1) rfl,_,_,rfl,rfl,_,_,rfl,rfl,(by show (0:Int)<2147483587;decide),?_⟩
   refine⟨_,rfl,_,_,rfl,rfl,⟨by decide,by decide⟩,_,rfl,_,_,rfl,rfl,hb,?_⟩;exact k _ _ (hmod _).1 (hmod _).2
noncomputable def HasB(H:Hp)(p:Addr)(n:Nat):Prop:=∃c t:Int,H p=some (.lst [.int c,.int t])/\0<=t/\t+n<2 ^ 40
theorem HasB.le{H:Hp}{p:Addr}{n m:Nat}(h:HasB H p n)(hm:m<=n):HasB H p m:=let ⟨c,t,e,a,b⟩:=h;⟨c,t,e,a,by lia⟩
theorem HasB.same{H H':Hp}{p:Addr}{n:Nat}(h:HasB H p n)(s:Same H H'):HasB H' p n:=let ⟨c,t,e,a,b⟩:=h;⟨c,t,s _ _ e,a,b⟩
noncomputable def But(H H':Hp)(p:Addr):Prop:=∀z o,z≠p->H z=some o->H' z=some o
theorem But.refl(H:Hp)(p:Addr):But H H p:=λ_ _ _ h=>h
theorem But.trans{H H1 H2:Hp}{p:Addr}(a:But H H1 p)(b:But H1 H2 p):But H H2 p:=λz o hz h=>b z o hz (a z o hz h)
theorem But.of{H H1:Hp}{p:Addr}(a:Same H H1):But H H1 p:=λz o _ h=>a z o h
theorem But.free{H H1:Hp}{p q:Addr}{n:Nat}(a:But H H1 p)(h:HasB H p n)(hq:H1 q=none)(hp:HasB H1 p 0):H q=none:=by
 obtain⟨c,t,e,_⟩:=hp;have hne:q≠p:=λz=>by subst z;rw[e]at hq;cases hq
 cases x:H q with
 |none=>rfl
 |some o=>rw[a q o hne x]at hq;cases hq
theorem But.kt{H H1:Hp}{p:Addr}{n:Nat}(a:But H H1 p)(h:HasB H p n):KT H H1:=λb xs e=>by obtain⟨c,t,ep,_⟩:=h;exact a b _ (ne_of e ep (λz=>nomatch z)) e
theorem zjx{A:Prop}{D:Int->Hp->Prop}(C:Int->Hp->Prop)(g:(∀n H1,D n H1->C n H1)->A)(h:∀n H1,D n H1->C n H1):A:=g h
theorem za3{b:Int}(h0:0<b)(h:b<=1000):b.natAbs.log2<9000:=by refine (Nat.log2_lt (by lia)).mpr (AZ (show b.natAbs<2 ^ 10 by lia) (Nat.pow_le_pow_right (by decide) (by decide)))
noncomputable def spTk:Sp:=λvs H Q _=>∃(p:Addr) (n:Nat) (b:Int),vs=[.ref p,.int b]/\HasB H p (n+1)/\0<b/\b.natAbs.log2<9000/\∀(r:Int) (H':Hp),0<=r->r<b->But H H' p->HasB H' p n->Q (.int r) H'
theorem tk_of {f:Addr}{fd:Bx}(h:FnOk P w K mg base CX0 1 f fd ["_law_pen","_law_base"] zkf):FnOk P w K mg base CX0 1 f fd ["_law_pen","_law_base"] spTk:=by
 refine h.imp λvs H Q E h=>?_
 obtain⟨p,n,b,rfl,⟨c,t,e,h0,h1⟩,hb,hl,k⟩:=h;refine⟨p,t,b,rfl,⟨c,e,h0,by lia⟩,hb,hl,λr c' h2 h3=>k r _ h2 h3 (λz o hz h=>by rw[zak hz];exact h) ⟨c',t+1,zaa,by lia,by lia⟩⟩
noncomputable abbrev Tk (P:AH) (w:Bc) (K:W.Frag) (mg:Str->Option Ab) (base:Heap):=Fn P w K mg base 1 "_law_take" ["_law_pen","_law_base"] spTk
noncomputable def spFar:Sp:=λvs H Q _=>∃(p:Addr) (n:Nat),vs=[.ref p]/\HasB H p (n+3)/\∀(r:Int) (H':Hp),-(2 ^ 104)<r/\r<2 ^ 104->But H H' p->HasB H' p n->Q (.int r) H'
theorem atI3{a b c:V}{n:Int}(h0:0<=n)(h3:n<3):∃v,atI [a,b,c] n=some v/\(v=a∨v=b∨v=c):=by
 have:n=0∨n=1∨n=2:=by lia
 rcases this with rfl |rfl |rfl
 .exact⟨a,rfl,.inl rfl⟩
 .exact⟨b,rfl,.inr (.inl rfl)⟩
 .exact⟨c,rfl,.inr (.inr rfl)⟩
theorem zh3 (g__law_take:Tk P w K mg base) (d:Df K mg "_law_far" zc8 ["_law_pen"]):FnOk P w K mg base CX0 2 d.f d.fd ["_law_pen"] spFar:=by
 refine d.F.ok zdM (λvs H Q E h=>?_) (λcdv A outer s H vs Q E hr h=>?_)
 .obtain⟨p,n,rfl,_⟩:=h;rfl
 .obtain⟨p,n,rfl,hp,k⟩:=h
  refine⟨_,(zab (sE 1 zdM.nd (pC g__law_take hr (pa_N (pv 0) (pa_C zad zac))))
   (zab (ps_if (zau op_lt (pv 1) zad (zap _))
   (zaf (zaj (pe_ix zaz (zaU (pa_C zad (pa_B (pe_op zaE (pC g__law_take hr (pa_N (pv 0) (pa_C zad zac))) zad) (pa_B (pe_op zaE (pC g__law_take hr (pa_N (pv 0) (pa_C zad zac))) zad) zac)))) (pv 1) (λ_ _=>rfl))))
   zaw)
   (zaf (zaj (pe_op zaH (pe_op zaE (pC g__law_take hr (pa_N (pv 0) (pa_B (pe_op zaE (pe_op zaZ zad (pe_op zf6 zad zad)) zad) zac))) (pe_op zf6 zad zad)) zad))))),?_⟩
  refine⟨_,rfl,p,n+2,4,rfl,hp,by decide,za3 (by decide) (by decide),λr H1 h0 h4 b1 p1=>?_⟩;refine⟨_,rfl,_,_,rfl,rfl,_,rfl,?_⟩;refine ite2 (λhy=>?_) (λhn=>?_)
  .have h3:r<3:=of_decide_eq_true hy;refine⟨_,rfl,p,n+1,41,rfl,p1,by decide,za3 (by decide) (by decide),λr2 H2 x1 x2 b2 p2=>⟨_,_,rfl,rfl,?_⟩⟩;refine⟨_,rfl,p,n,2000001,rfl,p2,by decide,by decide +kernel,λr3 H3 y1 y2 b3 p3=>⟨_,_,rfl,rfl,three,λl hl=>?_⟩⟩;obtain⟨v,hv,hor⟩:=atI3 (a:=.int 0) (b:=.int (r2-20)) (c:=.int (r3-1000000)) h0 h3;refine⟨_,rfl,l,_,_,v,rfl,rfl,SqL.of zaa,hv,?_⟩;have fin:∀z:Int,-(2 ^ 104)<z/\z<2 ^ 104->Q (.int z) (upd H3 l (.lst [.int 0,.int (r2-20),.int (r3-1000000)])):=λz hz=>k z _ hz ((b1.trans (b2.trans b3)).trans (But.of (Same.up hl))) (p3.same (Same.up hl))
   rcases hor with z |z |z <;> rw[z] <;> exact fin _ (by lia)
  .refine⟨_,rfl,_,_,rfl,rfl,(by refine cpow ?_;decide),_,_,rfl,rfl,.inl ⟨by decide,by decide⟩,_,_,rfl,rfl,p,n+1,_,rfl,p1,(by decide),(by decide +kernel),λr2 H2 x1 x2 b2 p2=>?_⟩;refine⟨_,_,rfl,rfl,(by refine cpow ?_;decide),_,_,rfl,rfl,_,_,rfl,rfl,?_⟩;refine k _ _ ?_ (b1.trans b2) (p2.le (by lia))
   have x2':r2<2*10 ^ 30-799:=x2;show -(2 ^ 104)<r2-10 ^ 30+400/\r2-10 ^ 30+400<2 ^ 104;lia
noncomputable def zin:Sp:=λvs H Q _=>∃(p:Addr) (n:Nat) (way x y wd hg:Int),vs=[.ref p,.int way,.int x,.int y,.int wd,.int hg]/\0<=way/\HasB H p (n+1)/\∀(b:Bool) (H':Hp),But H H' p->HasB H' p n->Q (.bl b) H'
theorem zd1 (T:Txt P w K mg) (g__law_take:Tk P w K mg base) (d:Df K mg "_law_is_there" zbE ["_law_pen", "_law_way", "_law_x", "_law_y", "_law_wide", "_law_high"]) :
  FnOk P w K mg base CX0 2 d.f d.fd ["_law_pen","_law_way","_law_x","_law_y","_law_wide","_law_high"] zin:=by
 refine d.F.ok zdq (λvs H Q E h=>?_) (λcdv A outer s H vs Q E hr h=>?_)
 .obtain⟨p,n,way,x,y,wd,hg,rfl,_⟩:=h;rfl
 .obtain⟨p,n,way,x,y,wd,hg,rfl,hw,hp,k⟩:=h
  refine⟨_,(zab (ps_if (zau op_eq (pv 1) zad (zap _))
   (zaf (zaj pe_bl))
   zaw)
   (zab (ps_if (zau op_lt (pv 1) zad (zap _))
   (zaf (zaj (za1 op_lt (pC g__law_take hr (pa_N (pv 0) (zah (pe_ix zaz (zaU (pa_C zad (pa_C zad (pa_C zad zac)))) (pe_op zaE (pv 1) zad) (λ_ _=>rfl)) zac))) (pe_ix zaz (zaU (pa_C zad (pa_C zad (pa_C zad zac)))) (pe_op zaE (pv 1) zad) (λ_ _=>rfl)) (zap _))))
   zaw)
   (zab (ps_if (zau op_eq (pv 1) zad (zap _))
   (zaf (zaj (za1 op_eq (pe_op za6 (zaq (zjn rfl) (by rfl) T.nmin (by rfl) (pa_N (pv 2) (pa_N (pv 3) (pa_B (pe_op zaE (pe_op zaE (pv 4) zad) (pv 2)) (pa_B (pe_op zaE (pe_op zaE (pv 5) zad) (pv 3)) zac))))) zad) zad (zap _))))
   zaw)
   (zaf (zaj (pe_or (za1 op_eq (pe_op za6 (pe_op zaH (pv 2) (pv 3)) zad) zad (zap _)) (zf3 (za1 op_eq (pC g__law_take hr (pa_N (pv 0) (pa_C zad zac))) zad (zap _))))))))),?_⟩
  have fin:∀b,Q (.bl b) H:=λb=>k b H (But.refl _ _) (hp.le (by lia))
  refine⟨_,rfl,rfl,_,rfl,?_⟩;refine ite2 (λ_=>fin _) (λhn0=>?_);refine⟨_,rfl,_,_,rfl,rfl,_,rfl,?_⟩;refine ite2 (λhy=>?_) (λ_=>?_)
  .have h4:way<4:=of_decide_eq_true hy;have hne:way≠0:=λz=>hn0 (by rw[z];rfl)
   refine⟨_,rfl,three,λl hl=>?_⟩;obtain⟨v,hv,hor⟩:=atI3 (a:=V.int 2) (b:=V.int 5) (c:=V.int 4) (n:=way-1) (by lia) (by lia)
   obtain⟨bb,rfl,hb0,hb1⟩:∃bb:Int,v=.int bb/\0<bb/\bb<=1000:=by
    rcases hor with z |z |z
    .exact⟨2,z,by decide,by decide⟩
    .exact⟨5,z,by decide,by decide⟩
    .exact⟨4,z,by decide,by decide⟩
   refine⟨_,rfl,_,_,rfl,rfl,l,_,_,_,rfl,rfl,SqL.of zaa,hv,p,n,bb,rfl,hp.same (Same.up hl),hb0,za3 hb0 hb1,λr H1 _ _ b1 p1=>?_⟩;refine⟨three,λl2 hl2=>?_⟩;obtain⟨v2,hv2,hor2⟩:=atI3 (a:=V.int 1) (b:=V.int 4) (c:=V.int 1) (n:=way-1) (by lia) (by lia)
   obtain⟨b2,rfl⟩:∃bb:Int,v2=.int bb:=by
    rcases hor2 with z |z |z
    .exact⟨1,z⟩
    .exact⟨4,z⟩
    .exact⟨1,z⟩
   refine⟨_,rfl,_,_,rfl,rfl,l2,_,_,_,rfl,rfl,SqL.of zaa,hv2,_,_,rfl,rfl,?_⟩;exact k _ _ (((But.of (Same.up hl)).trans b1).trans (But.of (Same.up hl2))) (p1.same (Same.up hl2))
  .refine⟨_,rfl,rfl,_,rfl,?_⟩;refine ite2 (λ_=>?_) (λ_=>?_)
   .refine⟨_,rfl,_,rfl,_,rfl,_,_,rfl,rfl,_,rfl,_,_,rfl,rfl,_,rfl,_,_,rfl,rfl,_,rfl,_,_,rfl,rfl,_,_,_,_,rfl,λz=>⟨_,_,rfl,rfl,(by show (0:Int)<2;decide),rfl,fin _⟩⟩
   .refine⟨_,rfl,_,rfl,_,_,rfl,rfl,_,_,rfl,rfl,(by show (0:Int)<2;decide),rfl,_,rfl,?_⟩;refine ite2 (λ_=>fin _) (λ_=>?_);refine⟨_,rfl,p,n,6,rfl,hp,by decide,za3 (by decide) (by decide),λr H1 _ _ b1 p1=>⟨rfl,k _ _ b1 p1⟩⟩
noncomputable def Bef(cs:List Cell)(x y:Int):Prop:=∀c∈cs,c.2<y∨(c.2=y/\c.1<x)
theorem InOrd.snoc{cs:List Cell}{x y:Int}(h:InOrd cs)(b:Bef cs x y):InOrd (cs++[(x,y)]):=λi c e h1 h2=>by
 have hi:i+1<(cs++[(x,y)]).length:=(Ae.mp h2).1;rw[Ai,Ct]at hi;rw[Ay (by lia)]at h1;rcases AY (i+1) cs.length with hl |hl
 .rw[Ay hl]at h2;exact h i c e h1 h2
 .rw[AK hl,show i+1-cs.length=0 by lia]at h2
  cases h2
  have hb:=b c (Ag h1);rw[HT.lexLt_cons];rcases hb with z |⟨z1,z2⟩
  .rw[if_neg (by lia)];exact decide_eq_true z
  .rw[if_pos z1,HT.lexLt_cons,if_neg (by lia)];exact decide_eq_true z2
noncomputable def CellB(c:Cell):Prop:=(-(2 ^ 105)<c.1/\c.1<2 ^ 105)/\-(2 ^ 105)<c.2/\c.2<2 ^ 105
noncomputable def zfT(K:W.Frag):Sp:=λvs H Q _=>∃(p:Addr) (n m:Nat),vs=[.ref p,.int m]/\HasB H p (n+(20+m))/\1<=m/\m<=200 /\
 ∀(a:Addr) (cs:List Cell) (H':Hp),H a=none->But H H' p->HasB H' p n->(∃vs,H' a=some (.lst vs)/\VR vs cs cR H')->InOrd cs->Boxed m cs->cs.length<=m->(∀c∈cs,CellB c)->Q (.ref a) H'
theorem zeo (T:Txt P w K mg) (g__law_take:Tk P w K mg base) (g__law_far:Fn P w K mg base 2 "_law_far" ["_law_pen"] spFar)
    (g__law_is_there:Fn P w K mg base 2 "_law_is_there" ["_law_pen","_law_way","_law_x","_law_y","_law_wide","_law_high"] zin) (d:Df K mg "_law_picture" zbQ ["_law_pen","_law_most"]) :
    FnOk P w K mg base CX0 3 d.f d.fd ["_law_pen","_law_most"] (zfT K):=by
  refine d.F.ok zat (λvs H Q E h=>?_) (λcdv A outer s H vs Q E hr h=>?_)
  . obtain⟨p,n,m,rfl,_⟩:=h;rfl
  . obtain⟨p,n,m,rfl,hp,hm1,hm,k⟩:=h
    refine⟨_,(zab (sE 2 zat.nd (pe_op zaH zad (pC g__law_take hr (pa_N (pv 0) (zah (zfg (zau op_gt (pv 1) zad (zap _)) (pe_ix zaz (zaU (pa_C zad (pa_N (pv 1) zac))) (zbH zcv (by rfl) T.nint (by rfl) (zah (za1 op_eq (pC g__law_take hr (pa_N (pv 0) (pa_C zad zac))) zad (zap _)) zac)) (λ_ _=>rfl)) (pv 1)) zac)))))
      (zab (sE 3 zat.nd (pe_op zaH zad (pC g__law_take hr (pa_N (pv 0) (pa_B (pe_op zhq (pv 1) (pv 2)) zac)))))
      (zab (sE 4 zat.nd (pC g__law_take hr (pa_N (pv 0) (pa_C zad zac))))
      (zab (sE 5 zat.nd (pC g__law_far hr (pa_N (pv 0) zac)))
      (zab (sE 6 zat.nd (pC g__law_far hr (pa_N (pv 0) zac)))
      (zab (sE 7 zat.nd (zaU zac))
      (zab (zbF Be rfl (zcq (by rfl) T.nrange (pa_N (pv 3) zac)) (nG 8 zat.nd)
      (zaf (zbF Be rfl (zcq (by rfl) T.nrange (pa_N (pv 2) zac)) (nG 9 zat.nd)
      (zaf (ps_if (zcF (pC g__law_is_there hr (pa_N (pv 0) (pa_N (pv 4) (pa_N (pv 9) (pa_N (pv 8) (pa_N (pv 2) (pa_N (pv 3) zac))))))))
      (zaf (zbv (pe_bm A3 Bi Bj za8 (pv 7) (pa_T (zaK (pa_B (pe_op zaH (pv 9) (pv 5)) (pa_B (pe_op zaH (pv 8) (pv 6)) zac))) zac))))
      zaw)))))
      (zaf (zaj (pv 7)))))))))),?_⟩
    refine zjx (D:=λr H1=>0<=r/\r<m/\But H H1 p/\HasB H1 p (n+(18+m))) ?C (λshare=>?g) ?h
    case g =>
      refine⟨_,rfl,_,rfl,_,_,rfl,rfl,_,rfl,?_⟩;refine ite2 (λhy=>?_) (λhn=>?_)
      . have h12:(12:Int)<m:=of_decide_eq_true hy;refine⟨_,rfl,two,λl hl=>?_⟩;refine⟨_,rfl,p,n+(19+m),4,rfl,(hp.same (Same.up hl)).le (by lia),by decide,za3 (by decide) (by decide),λr H1 _ _ b1 p1=>?_⟩;refine⟨rfl,.inr ⟨_,rfl,?_⟩⟩;obtain⟨c0,t0,e0,_⟩:=hp;have hlp:l≠p:=λz=>by subst z;rw[e0]at hl;cases hl
        have l1:H1 l=some (.lst [.int 12,.int m]):=b1 _ _ hlp zaa
        obtain⟨v,hv,bb,rfl,hb0,hb1⟩:∃v,atI [V.int 12,V.int (m:Int)] (if decide (V.int r=V.int 0)=true then 1 else 0)=some v/\∃bb:Int,v=.int bb/\0<bb/\bb<=m:=by
          by_cases hz:decide (V.int r=V.int 0)=true
          . rw[if_pos hz];exact⟨_,rfl,m,rfl,by lia,by lia⟩
          . rw[if_neg hz];exact⟨_,rfl,12,rfl,by decide,by lia⟩
        refine⟨l,_,_,_,rfl,rfl,SqL.of l1,hv,p,n+(18+m),bb,rfl,p1.le (by lia),hb0,za3 hb0 (by lia),λr2 H2 h0 h2 b2 p2=>?_⟩;exact share r2 H2 ⟨h0,by lia,((But.of (Same.up hl)).trans b1).trans b2,p2⟩
      . refine⟨_,rfl,p,n+(18+m),m,rfl,hp.le (by lia),by lia,za3 (by lia) (by lia),λr2 H2 h0 h2 b2 p2=>?_⟩;exact share r2 H2 ⟨h0,h2,b2,p2⟩
    case h =>
      rintro r H1 ⟨h0,hrm,b1,p1⟩;refine⟨_,_,rfl,rfl,?_⟩;have hwd:0<1+r:=by lia
      obtain⟨W,hW⟩:∃W:Nat,(1+r:Int)=W:=⟨(1+r).toNat,by lia⟩;have hq1:1<=(m:Int) / (1+r):=Int.le_ediv_of_mul_le hwd (by lia);have hq2:(m:Int) / (1+r)<=m:=Int.ediv_le_self _ (by lia);have hq3:(1+r)*((m:Int) / (1+r))<=m:=Int.mul_ediv_self_le (by lia);refine⟨_,rfl,_,rfl,_,rfl,_,_,rfl,rfl,⟨hwd,za3 hwd (by lia)⟩,p,n+(17+m),_,rfl,p1.le (by lia),by lia,za3 (by lia) (by lia),λr2 H2 h20 h2 b2 p2=>⟨_,_,rfl,rfl,?_⟩⟩;obtain⟨G,hG⟩:∃G:Nat,(1+r2:Int)=G:=⟨(1+r2).toNat,by lia⟩
      have hWG:W*G<=m:=by
        have h1:(1+r)*(1+r2)<=(1+r)*((m:Int) / (1+r)):=BR (by lia) (by lia);rw[hW,hG]at h1;rw[hW]at hq3
        have h2:((W*G:Nat):Int)<=m:=by rw[Int.natCast_mul];lia
        lia
      refine⟨_,rfl,p,n+(16+m),6,rfl,p2.le (by lia),by decide,za3 (by decide) (by decide),λr3 H3 h30 _ b3 p3=>?_⟩;refine⟨_,rfl,p,n+(13+m),rfl,p3.le (by lia),λdx H4 fx b4 p4=>?_⟩;refine⟨_,rfl,p,n+(10+m),rfl,p4.le (by lia),λdy H5 fy b5 p5=>?_⟩;refine⟨(by show 0<=sizeLine;decide),λq hq=>?_⟩;have b05:But H H5 p:=b1.trans (b2.trans (b3.trans (b4.trans b5)));have hq0:H q=none:=b05.free hp hq (p5.le (by lia))
      have hqp:q≠p:=λz=>by obtain⟨c0,t0,e0,_⟩:=hp;subst z;rw[e0]at hq0;cases hq0
      refine⟨_,rfl,1+r2,rfl,by lia,by lia,?_⟩;have hGn:(1+r2:Int).toNat=G:=by lia
      have hWn:(1+r:Int).toNat=W:=by lia
      rw[hGn]
      refine zb1 (lo := 0) (n := G) (λi σ H6 => ∃o8 o9 cs vs, σ = [some (.ref p), some (.int m), some (.int (1 + r)), some (.int (1 + r2)), some (.int r3), some (.int dx), some (.int dy), some (.ref q), o8, o9] /\ But H H6 p /\ HasB H6 p (n + (m-W * i)) /\
          H6 q=some (.lst vs)/\VR vs cs cR H6/\InOrd cs/\(cs.length<=W*i/\(∀c∈cs,dx<=c.1/\c.1<dx+W/\dy<=c.2))/\Bef cs dx (dy+i))
        ⟨_,_,[],[],rfl,b05.trans (But.of (Same.up hq)),(p5.same (Same.up hq)).le (by lia),zaa,VR.nil,(λi c e h=>by simp at h),⟨AU _,λc hc=>by cases hc⟩,(λc hc=>by cases hc)⟩ ?_ ?_
      . rintro i σ H6 hi ⟨o8,o9,cs,vs,rfl,b6,p6,q6,hv,ho,hl,hbf⟩;have hWi:W*i+W<=W*G:=by rw[<- Nat.mul_succ];exact Nat.mul_le_mul_left _ hi
        refine⟨_,rfl,1+r,rfl,by lia,by lia,?_⟩;rw[hWn]
        refine zb1 (lo := 0) (n := W) (λj σ H7 => ∃o9 cs vs, σ = [some (.ref p), some (.int m), some (.int (1 + r)), some (.int (1 + r2)), some (.int r3), some (.int dx), some (.int dy), some (.ref q), some (.int (0 + (i:Int))), o9] /\ But H H7 p /\ HasB H7 p (n + (m-(W * i + j))) /\
            H7 q=some (.lst vs)/\VR vs cs cR H7/\InOrd cs/\(cs.length<=W*i+j/\(∀c∈cs,dx<=c.1/\c.1<dx+W/\dy<=c.2))/\Bef cs (dx+j) (dy+i))
          ⟨_,cs,vs,rfl,b6,p6,q6,hv,ho,hl,by simpa using hbf⟩ ?_ ?_
        . rintro j σ H7 hj ⟨o9,cs,vs,rfl,b7,p7,q7,hv,ho,⟨hl,hbox⟩,hbf⟩;refine⟨_,rfl,_,rfl,_,rfl,_,rfl,_,rfl,_,rfl,p,n+(m-(W*i+j+1)),_,_,_,_,_,rfl,h30,p7.le (by lia),λb H8 b8 p8=>⟨_,rfl,?_⟩⟩;have q8:=b8 _ _ hqp q7;have kt8:=b8.kt p7;refine ite2 (λ_=>?_) (λ_=>?_)
          . have hvl:vs.length<=1000:=by rw[hv.1];lia
            refine⟨_,rfl,.inl ⟨rfl,_,SqL.of q8⟩,_,rfl,_,rfl,_,_,rfl,rfl,_,rfl,_,rfl,_,_,rfl,rfl,two,λa ha=>?_⟩;have haq:q≠a:=zal q8 ha;refine⟨q,vs,_,rfl,rfl,(by rw[zak haq];exact q8),zaF hvl,?_⟩
            have hap:a≠p:=λz=>by obtain⟨c0,t0,e0,_⟩:=p8;subst z;rw[e0]at ha;cases ha
            obtain⟨nc,hnc⟩:∃nc:Cell,nc=(dx+(j:Int),dy+(i:Int)):=⟨_,rfl⟩
            have hcell:[V.int (0+(j:Int)+dx),V.int (0+(i:Int)+dy)]=cellT nc:=by rw[hnc];unfold cellT;rw[show 0+(j:Int)+dx=dx+j by lia,show 0+(i:Int)+dy=dy+i by lia]
            rw[hcell];have k2:KT (upd H8 a (.tup (cellT nc))) (upd (upd H8 a (.tup (cellT nc))) q (.lst (vs++[.ref a]))):=KT.lst (xs:=vs) (by rw[zak haq];exact q8);refine⟨_,cs++[nc],vs++[.ref a],rfl,(λz o hz h=>?_),?_,zaa,?_,?_,?_,?_⟩
            . rw[zak (zal h hq0)];exact Same.up ha _ _ (b8 _ _ hz (b7 _ _ hz h))
            . obtain⟨c0,t0,e0,h1,h2⟩:=p8;refine⟨c0,t0,?_,h1,by lia⟩;rw[zak (Cb hqp),zak (Cb hap)];exact e0
            . exact hv.snoc (λx v hx=>hx.kt (kt8.trans ((KT.up ha).trans k2))) ⟨a,rfl,k2 _ _ zaa⟩
            . rw[hnc];exact ho.snoc hbf
            . refine⟨by rw[Ai,Ct];lia,λc hc=>?_⟩;rcases AT.mp hc with z |z
              . exact hbox c z
              . rw[Ar.mp z,hnc];exact⟨by show dx<=dx+(j:Int);lia,by show dx+(j:Int)<dx+(W:Int);lia,by show dy<=dy+(i:Int);lia⟩
            . intro c hc;rcases AT.mp hc with z |z
              . rcases hbf c z with y |⟨y1,y2⟩
                . exact .inl y
                . exact .inr ⟨y1,by lia⟩
              . rw[Ar.mp z,hnc];exact .inr ⟨rfl,by show dx+(j:Int)<dx+((j+1:Nat):Int);lia⟩
          . refine⟨_,cs,vs,rfl,b7.trans b8,p8.le (by lia),q8,hv.mono λx v hx=>hx.kt kt8,ho,⟨by lia,hbox⟩,λc hc=>?_⟩;rcases hbf c hc with y |⟨y1,y2⟩
            . exact .inl y
            . exact .inr ⟨y1,by lia⟩
        . rintro σ H7 ⟨o9,cs,vs,rfl,b7,p7,q7,hv,ho,⟨hl,hbox⟩,hbf⟩;refine⟨_,_,cs,vs,rfl,b7,?_,q7,hv,ho,⟨by rw[Nat.mul_succ];exact hl,hbox⟩,λc hc=>?_⟩
          . rw[Nat.mul_succ];exact p7
          . rcases hbf c hc with y |⟨y1,y2⟩
            . exact .inl (by lia)
            . exact .inl (by lia)
      . rintro σ H6 ⟨o8,o9,cs,vs,rfl,b6,p6,q6,hv,ho,⟨hl,hbox⟩,hbf⟩
        have hcell:∀c∈cs,dx<=c.1/\c.1<dx+W/\dy<=c.2/\c.2<dy+G:=λc hc=>by
          obtain⟨x1,x2,x3⟩:=hbox c hc;refine⟨x1,x2,x3,?_⟩;rcases hbf c hc with y |⟨y1,y2⟩
          . exact y
          . lia
        refine⟨_,rfl,k q cs H6 hq0 b6 (p6.le (by lia)) ⟨_,q6,hv⟩ ho ⟨dx,dy,W,G,hWG,hcell⟩ (by lia) λc hc=>?_⟩;obtain⟨x1,x2,x3,x4⟩:=hcell c hc;have hW2:W<=200:=by lia
        have hG2:G<=200:=by lia
        unfold CellB;lia
theorem pick{α:Type} [Inhabited α]{n:Nat}{P:Nat->α->Prop}(h:∀i,i<n->∃a,P i a):∃f:Nat->α,∀i,i<n->P i (f i) :=
 ⟨λi=>if z:i<n then Classical.choose (h i z) else default,λi z=>by simp only[dif_pos z];exact Classical.choose_spec (h i z)⟩
theorem zjF{α:Type}{us:List α}{f:Nat->α}(h:∀i,i<us.length->us[i]?=some (f i)):us=(A0 us.length).map f:=by
 apply Dg
 intro i
 by_cases hi:i<us.length
 .rw[h i hi,Ax,CQ hi];rfl
 .rw[BF (by lia),BF (by simp;lia)]
noncomputable abbrev Srt(K:W.Frag)(H:Hp)(g:Addr)(Q:Addr -> Hp -> Prop):Prop := ∃(l:Addr) (ks:List Addr) (κV:Nat -> List V) (κ : Nat -> List Int), [V.ref g] = [.ref l] /\ SqL K H l (ks.map V.ref) /\ (∀i a, ks[i]? = some a -> SqT K H a (κV i)) /\
  (∀i j,i<ks.length->j<ks.length->VT K H (κV i) (κV j) (κ i) (κ j))/\((∀i,i<ks.length->∃n r,κV i=.int n::r)∨(∀i,i<ks.length->∃a r,SoTwo a/\κV i=.str a::r)) /\
  ∀(p:List Nat) D H',p.Perm (A0 ks.length)->p.Pairwise (λi j=>HT.lexLt (κ j) (κ i)=false)->H D=none->Same H H'->H' D=some (.lst (p.map λi=>V.ref (ks.getD i 0)))->Q D H'
theorem zhg{α : Type}{K:W.Frag}{H:Hp}{g:Addr}{us:List V}{L:List α}{R : α -> V -> Hp -> Prop}{key : α -> List Int}{Cl : α -> List V -> Prop}{Q:Addr -> Hp -> Prop}(e:H g=some (.lst us))(hv:VR us L R H)
  (h1:∀a v,R a v H->∃b κ,v=.ref b/\SqT K H b κ/\Cl a κ) (h2:∀a a' κ κ',a∈L->a'∈L->Cl a κ->Cl a' κ'->VT K H κ κ' (key a) (key a'))
  (h3:(∀a κ,Cl a κ->∃n r,κ=.int n::r)∨(∀a κ,a∈L->Cl a κ->∃s r,SoTwo s/\κ=.str s::r)) (hs:∀a v H',R a v H->Same H H'->R a v H')
  (k:∀M D H' ds,M.Perm L->M.Pairwise (λp q=>HT.lexLt (key q) (key p)=false)->H D=none->Same H H'->H' D=some (.lst ds)->VR ds M R H'->Q D H') :
  Srt K H g Q:=by
 have hx:∀i,i<us.length->∃q:Addr×List V×Option α,us[i]?=some (.ref q.1)/\SqT K H q.1 q.2.1/\L[i]?=q.2.2/\∃a,q.2.2=some a/\R a (.ref q.1) H/\Cl a q.2.1:=λi hi=>by obtain⟨a,ha,hr⟩:=hv.at (Aa hi);obtain⟨b,κ,eb,hq,hc⟩:=h1 a _ hr;exact⟨(b,κ,some a),by rw[Aa hi,eb],hq,ha,a,rfl,by rw[<- eb];exact hr,hc⟩
 obtain⟨f,hf⟩:=pick hx;have hus2:us=((A0 us.length).map λi=>(f i).1).map V.ref:=by rw[List.map_map];exact zjF λi hi=>(hf i hi).1
 have hkl:((A0 us.length).map λi=>(f i).1).length=us.length:=by simp
 have hka:∀i,i<us.length->((A0 us.length).map λi=>(f i).1)[i]?=some (f i).1:=λi hi=>by rw[Ax,CQ hi];rfl
 have hL:∀i,i<us.length->∃a,L[i]?=some a/\(f i).2.2=some a/\R a (.ref (f i).1) H/\Cl a (f i).2.1:=λi hi=>by obtain⟨_,_,e1,a,e2,e3,e4⟩:=hf i hi;exact⟨a,e1.trans e2,e2,e3,e4⟩
 refine⟨g,(A0 us.length).map λi=>(f i).1,λi=>(f i).2.1,λi=>((L[i]?).map key).getD [],rfl,by rw[<- hus2];exact SqL.of e,λi a ha=>?_,λi j hi hj=>?_,?_,λp D H' hp ho hD hS hH=>?_⟩
 .have hi:i<us.length:=by rw[<- hkl];exact (Ae.mp ha).1
  rw[hka i hi]at ha
  cases ha
  exact (hf i hi).2.1
 .rw[hkl]at hi hj;obtain⟨a,a1,a2,_,a3⟩:=hL i hi;obtain⟨b,b1,b2,_,b3⟩:=hL j hj;dsimp only;rw[a1,b1];exact h2 a b _ _ (Ag a1) (Ag b1) a3 b3
 .rcases h3 with h3 |h3
  .left;intro i hi;rw[hkl]at hi;obtain⟨a,a1,a2,_,a3⟩:=hL i hi;exact h3 a _ a3
  .right;intro i hi;rw[hkl]at hi;obtain⟨a,a1,a2,_,a3⟩:=hL i hi;exact h3 a _ (Ag a1) a3
 .rw[hkl]at hp;have hlt:∀i∈p,i<us.length:=λi hi=>BA.mp (hp.mem_iff.mp hi)
  have hfm:∀q:List Nat,(∀i∈q,i<us.length)->(q.filterMap λi=>L[i]?).length=q.length/\∀j:Nat,(q.filterMap λi=>L[i]?)[j]?=(q[j]?).bind λi=>L[i]?:=by
   intro q
   induction q with
   |nil=>intro _;exact⟨rfl,λj=>by simp⟩
   |cons i q ih =>
    intro hq;obtain⟨a,a1,_⟩:=hL i (hq i Av);obtain⟨i1,i2⟩:=ih λx hx=>hq x (As _ hx)
    rw[CP,a1];refine⟨by simp[i1],λj=>?_⟩
    cases j with
    |zero=>simp[a1]
    |succ j=>simpa using i2 j
  have hal:(A0 us.length).filterMap (λi=>L[i]?)=L:=by
   apply Dg
   intro j;rw[(hfm _ λi hi=>BA.mp hi).2 j]
   by_cases hj:j<us.length
   .rw[CQ hj];rfl
   .rw[BF (by simp;lia),BF (by have:=hv.1;lia)];rfl
  refine k (p.filterMap λi=>L[i]?) D H' _ ?_ ?_ hD hS hH ?_
  .have:=hp.filterMap λi=>L[i]?
   rw[hal]at this;exact this
  .rw[List.pairwise_filterMap];refine Dv ?_ ho;intro i j hi hj h a ha b hb;simp only[ha,hb,Cz,Option.getD_some]at h;exact h
  .refine⟨by rw[Am,(hfm p hlt).1],λi x v x1 x2=>?_⟩;rw[(hfm p hlt).2 i]at x1;rw[Ax]at x2;obtain⟨j,hj,rfl⟩:=A8.mp x2;rw[hj]at x1;have hjl:=hlt j (Ag hj);obtain⟨a,a1,a2,a3,_⟩:=hL j hjl;have:a=x:=by rw[show (some j).bind (λi=>L[i]?)=L[j]? from rfl,a1]at x1;exact AJ x1
   subst this;have e4:((A0 us.length).map λi=>(f i).1).getD j 0=(f j).1:=by rw[A6,hka j hjl];rfl
   rw[e4];exact hs a _ H' a3 hS
noncomputable abbrev Pl:=Int×Int×Bool
noncomputable def plR(p:Pl)(v:V)(H:Hp):Prop:=∃b,v=.ref b/\H b=some (.tup [.int p.1,.int p.2.1,.bl p.2.2])
noncomputable def plK(p:Pl):List Int:=[p.1,p.2.1,PyProof.Rows.b2i p.2.2]
noncomputable def dPl(p:Pl):PyData:=.tuple [.int p.1,.int p.2.1,.bool p.2.2]
theorem plR.kt{p:Pl}{v:V}{H H':Hp}(h:plR p v H)(k:KT H H'):plR p v H':=let ⟨b,e,h1⟩:=h;⟨b,e,k _ _ h1⟩
theorem zkP{p q:Pl}(h:plK p=plK q):p=q:=by
 obtain⟨a,b,c⟩:=p;obtain⟨a',b',c'⟩:=q;unfold plK at h;simp only[List.cons.injEq,and_true]at h;obtain⟨h1,h2,h3⟩:=h;subst h1 h2
 cases c <;> cases c' <;> first |rfl |exact absurd h3 (by decide)
theorem zk8(p:Pl):Cq (dPl p) (dPl p)=true:=by show ((p.1 == p.1) && ((p.2.1 == p.2.1) && ((p.2.2 == p.2.2) && true)))=true;simp
theorem zeU:∀L:List Pl,Du (L.map dPl) (L.map dPl)=true
 |[]=>rfl
 |p::L=>by show (Cq (dPl p) (dPl p) && Du (L.map dPl) (L.map dPl))=true;rw[zk8,zeU L];rfl
theorem zc3:∀L:List Pl,B3 (L.map dPl)=true
 |[]=>rfl
 |p::L=>by show (CU (dPl p) && B3 (L.map dPl))=true;rw[zc3 L];rfl
theorem zdm:∀L:List Pl,C5 (L.map dPl)<=1
 |[]=>AU _
 |p::L=>by show max (BN (dPl p)) (C5 (L.map dPl))<=1;have:=zdm L;have h1:BN (dPl p)=1:=rfl;lia
theorem zeL(L:List Pl):BM (.list (L.map dPl))=true:=by unfold BM;rw[CU,zc3 L,BN];have:=zdm L;simp only[Bool.true_and,decide_eq_true_eq];lia
theorem zgP{K:W.Frag}{H:Hp}:∀{vs:List V}{L:List Pl},VR vs L plR H->RDs K H vs (L.map dPl)
 |[],[],_=>.nil
 |[],_::_,h=>by have:=h.1;cases this
 |_::_,[],h=>by have:=h.1;cases this
 |v::vs,p::L,h=>by
  obtain⟨⟨b,rfl,h1⟩,h2⟩:=VR.cons.mp h;exact .cons (.tup (SqT.of h1) (.cons (.int _) (.cons (.int _) (.cons (.bl _) .nil)))) (zgP h2)
theorem zkO{M N:List Pl}(p:M.Perm N)(h:M.Pairwise λp q=>HT.lexLt (plK q) (plK p)=false)(k:N.Pairwise λp q=>HT.lexLt (plK q) (plK p)=false):M=N :=
 List.Perm.eq_of_pairwise (le:=λp q:Pl=>HT.lexLt (plK q) (plK p)=false) (λa b _ _ h1 h2=>zkP (HT.lexLt_total h2 h1)) h k p
theorem zgI{K:W.Frag}{H:Hp}{g:Addr}{us:List V}{L:List Pl}{Q:Addr -> Hp -> Prop}(e:H g=some (.lst us))(hv:VR us L plR H)
  (k:∀M D H' ds,M.Perm L->M.Pairwise (λp q=>HT.lexLt (plK q) (plK p)=false)->H D=none->Same H H'->H' D=some (.lst ds)->VR ds M plR H'->Q D H'):Srt K H g Q :=
 zhg (K:=K) (key:=plK) (Cl:=λp κ=>κ=[.int p.1,.int p.2.1,.bl p.2.2]) (Q:=Q) e hv (λa v ⟨b,eb,hb⟩=>⟨b,_,eb,SqT.of hb,rfl⟩)
  (λa a' κ κ' _ _ e1 e2=>by subst e1 e2;exact .cons (.int _ _) (.cons (.int _ _) (.cons (.bl _ _) .nil))) (.inl λa κ e1=>⟨_,_,e1⟩) (λa v H' h s=>h.kt (KT.of s)) k
noncomputable def rdK(r:Rnd):List Int:=soI r.so::r.x::r.y::rowI r.row
theorem zkJ{r q:Rnd}(hr:SoOk r)(hq:SoOk q)(h:rdK r=rdK q):r=q:=by
 obtain⟨a,x,y,l⟩:=r;obtain⟨b,x',y',m⟩:=q;unfold rdK at h;simp only[List.cons.injEq]at h;obtain⟨h1,h2,h3,h4⟩:=h;subst h2 h3;have h5:l=m:=(List.map_inj_right (f:=λn:Nat=>(n:Int)) (λa b z=>by lia)).mp h4;subst h5;have hr':a = "rim" ∨ a = "hole":=hr;have hq':b = "rim" ∨ b = "hole":=hq;rcases hr' with rfl |rfl <;> rcases hq' with rfl |rfl
 .rfl
 .exact absurd h1 (by decide)
 .exact absurd h1 (by decide)
 .rfl
theorem zkI{M N:List Rnd}(hM:∀r∈M,SoOk r)(hN:∀r∈N,SoOk r)(p:M.Perm N)(h:M.Pairwise λp q=>HT.lexLt (rdK q) (rdK p)=false)(k:N.Pairwise λp q=>HT.lexLt (rdK q) (rdK p)=false):M=N :=
 List.Perm.eq_of_pairwise (le:=λp q:Rnd=>HT.lexLt (rdK q) (rdK p)=false) (λa b ha hb h1 h2=>zkJ (hM a ha) (hN b hb) (HT.lexLt_total h2 h1)) h k p
theorem zdJ{K:W.Frag}{H:Hp}{g:Addr}{us:List V}{L:List Rnd}{Q:Addr -> Hp -> Prop}(hso:∀r ∈ L, SoOk r)(e:H g=some (.lst us))(hv:VR us L rR H)
  (k:∀M D H' ds,M.Perm L->M.Pairwise (λp q=>HT.lexLt (rdK q) (rdK p)=false)->H D=none->Same H H'->H' D=some (.lst ds)->VR ds M rR H'->Q D H'):Srt K H g Q :=
 zhg (K:=K) (key:=rdK) (Cl:=λr κ=>∃b,κ=[.str r.so,.int r.x,.int r.y,.ref b]/\SqT K H b ((rowI r.row).map V.int)) (Q:=Q) e hv (λa v ⟨x,b,eb,hx,hb⟩=>⟨x,_,eb,SqT.of hx,b,rfl,SqT.of (by rw[hb,zf0])⟩)
  (λa a' κ κ' ha ha' ⟨b,e1,q1⟩ ⟨b',e2,q2⟩=>by subst e1 e2;exact .cons (.so (hso a ha) (hso a' ha')) (.cons (.int _ _) (.cons (.int _ _) (.tup q1 q2)))) (.inr λa κ ha ⟨b,e1,_⟩=>⟨_,_,hso a ha,e1⟩) (λa v H' h s=>h.kt (KT.of s)) k
theorem zdO{H0 H H':Hp}{p:Addr}(s:Same H0 H)(b:But H H' p)(hp:H0 p=none):Same H0 H':=λz o h=>b z o (zal h hp) (s z o h)
noncomputable def nearC(o c:Cell):Cell:=(c.1-o.1+o.1 / 10,c.2-o.2+o.2 / 10)
theorem zjL{cs:List Cell}{o:Cell}(h:InOrd cs):InOrd (cs.map (nearC o)):=by
 intro i c d h1 h2;rw[Ax]at h1 h2;obtain⟨a,ha,rfl⟩:=A8.mp h1;obtain⟨b,hb,rfl⟩:=A8.mp h2;have q:HT.lexLt [a.2,a.1] [b.2,b.1]=true:=h i a b ha hb;show HT.lexLt [a.2-o.2+o.2 / 10,a.1-o.1+o.1 / 10] [b.2-o.2+o.2 / 10,b.1-o.1+o.1 / 10]=true;rw[HT.lexLt_cons]at q ⊢
 by_cases e:a.2=b.2
 .rw[if_pos e,HT.lexLt_cons]at q;rw[e,if_pos rfl,HT.lexLt_cons]
  by_cases e1:a.1=b.1
  .rw[if_pos e1]at q;cases q
  .rw[if_neg e1]at q;have lt:=of_decide_eq_true q;rw[if_neg (by lia)];exact decide_eq_true (by lia)
 .rw[if_neg e]at q;have lt:=of_decide_eq_true q;rw[if_neg (by lia)];exact decide_eq_true (by lia)
noncomputable def plc (r:Rnd):Pl:=(r.y,r.x,decide (V.str r.so=V.str "hole"))
theorem Al.uniqL{α β:Type}{P:α->β->Prop}{l:List α}{m:List β}(h:Al P l m):∀{l':List α},Al P l' m->(∀a b c,c∈m->P a c->P b c->a=b)->l=l':=by
 induction h with
 |nil=>intro l' k _;cases k;rfl
 |cons p _ ih =>
  intro l' k u
  cases k with
  |cons q k=>rw[u _ _ _ Av p q,ih k λa b c hc=>u a b c (As _ hc)]
theorem Al.mem{α β:Type}{P:α->β->Prop}{l:List α}{m:List β}(h:Al P l m){b:β}(hb:b∈m):∃a∈l,P a b:=by
 induction h with
 |nil=>cases hb
 |cons p _ ih =>
  rcases AW.mp hb with rfl |hb
  .exact⟨_,Av,p⟩
  .obtain⟨a,ha,h⟩:=ih hb;exact⟨a,As _ ha,h⟩
theorem Al.meml{α β:Type}{P:α->β->Prop}{l:List α}{m:List β}(h:Al P l m){a:α}(ha:a∈l):∃b∈m,P a b:=by
 induction h with
 |nil=>cases ha
 |cons p _ ih =>
  rcases AW.mp ha with rfl |ha
  .exact⟨_,Av,p⟩
  .obtain⟨b,hb,h⟩:=ih ha;exact⟨b,As _ hb,h⟩
theorem Cans.short{cs:List Cell}{ESS:List (List Edge)}{R:List Rnd}(h:Cans (isIn cs) ESS R):∀es∈ESS,es.length<=4*cs.length:=λes he=>by obtain⟨r,_,hc⟩:=h.al.mem he;exact hc.cl.1.short
noncomputable def spLaw(K:W.Frag):Sp:=λvs H Q _=>∃(a:Addr) (ns:List Int),vs=[.ref a]/\SqL K H a (ns.map V.int)/\ns.length<=63/\∀H',Q (.bl true) H'
theorem zlE (T:Txt P w K mg) (g__law_cell_at:Fn P w K mg base 1 "_law_cell_at" ["_law_script", "_law_k"] (zhf K)) (g__law_take:Tk P w K mg base)
  (g__law_picture:Fn P w K mg base 3 "_law_picture" ["_law_pen","_law_most"] (zfT K)) (g_rounds:Fn P w K mg base 7 "rounds" ["picture"] (zhe K)) (g__law_right:Fn P w K mg base 7 "_law_right" ["_law_one","_law_times"] (ziq K))
  (g_greater:Fn P w K mg base 6 "greater" ["one","times"] (zcT K)) (g_greater_all:Fn P w K mg base 7 "greater_all" ["some","times"] (zdj K)) (g__law_are_rounds:Fn P w K mg base 2 "_law_are_rounds" ["_law_found"] (zdI K))
  (d:Df K mg "law" s_law ["_law_script"]):FnOk P w K mg base CX0 8 d.f d.fd ["_law_script"] (spLaw K):=by
 refine d.F.ok zcf (λvs H Q E h=>?_) (λcdv A outer s H vs Q E hr h=>?_)
 .obtain⟨a,ns,rfl,_⟩:=h;rfl
 .obtain⟨a,ns,rfl,hS,hlen,k⟩:=h;have hu64:=hr.units;have hun:=hr.un;have hu68:(A.deeper (PyProof.Rows.envOfC (Br "law") (zae s_law) s.heap.objs.size d.f cdv)).units+68<cLine:=by lia
  have nb0:(["_law_one","_law_times"]:List Str).Nodup:=by decide +kernel
  have nb1:(["_law_one"]:List Str).Nodup:=by decide +kernel
  have nb2:(["_law_one","_law_times"]:List Str).Nodup:=by decide +kernel
  refine⟨_,(zab (zbF Be rfl (zcq (by rfl) T.nrange (zah (zaq (zjp rfl) (by rfl) T.nmax (by rfl) (pa_C zad (zah (zaq (zjo rfl) (by rfl) T.nmin (by rfl) (pa_C zad (zah (zaq zaJ (by rfl) T.nlen (by rfl) (pa_N (pv 0) zac)) zac))) zac))) zac)) (nG 1 zcf.nd)
   (zab (sE 2 zcf.nd (zaU (zah (pC g__law_cell_at hr (pa_N (pv 0) (pa_N (pv 1) zac))) (pa_C zad zac))))
   (zab (ziD (i:=3) zcf.nd (by rfl) (Or.inr rfl) (pe_op zaH zad (pC g__law_take hr (pa_N (pv 2) (pa_C zad zac)))))
   (zab (sE 4 zcf.nd (pC g__law_picture hr (pa_N (pv 2) (zah (pe_ix zaz (zaU (pa_C zad (pa_C zad zac))) (zbH zcv (by rfl) T.nint (by rfl) (zah (za1 op_gt (pv 1) zad (zap _)) zac)) (λ_ _=>rfl)) zac))))
   (zab (sE 5 zcf.nd (zaU zac))
   (zab (zbF Be rfl (zaN (pv 4)) (zbl (by rfl) (zag (nG 6 zcf.nd) (zag (nG 7 zcf.nd) zay)))
   (zaf (zbv (pe_bm A3 Bi Bj za8 (pv 5) (pa_T (zaK (pa_B (pe_op zaH (pe_op zaE (pv 6) (pe_ix zaI (pe_ix zaz (pv 4) zad (λ_ _=>rfl)) zad (λ_ _=>rfl))) (pe_op zdc (pe_ix zaI (pe_ix zaz (pv 4) zad (λ_ _=>rfl)) zad (λ_ _=>rfl)) zad)) (pa_B (pe_op zaH (pe_op zaE (pv 7) (pe_ix zaI (pe_ix zaz (pv 4) zad (λ_ _=>rfl)) zad (λ_ _=>rfl))) (pe_op zdc (pe_ix zaI (pe_ix zaz (pv 4) zad (λ_ _=>rfl)) zad (λ_ _=>rfl)) zad)) zac))) zac)))))
   (zab (sE 8 zcf.nd (pC g_rounds hr (pa_N (pv 5) zac)))
   (zab (ps_if (zdV (zcF (zaq (zeg rfl) (by rfl) T.nall (by rfl) (zah (zbm (osc:=zae s_law) (N:=N_law) (N':=["_law_one","_law_times"]) (sel:=[none,some 3]) bO (zaN (pv 8)) (λ_ _ _ _ _=>(nG 0 nb0)) (λ_ _ _ _ _=>zbS) (λ_ _ _ _ _=>(pC g__law_right hr (pa_N (pv 0) (pa_N (pv 1) zac))))) zac))))
   (zaf (zaj pe_bl))
   zaw)
   (zab (sE 9 zcf.nd (pC g_greater_all hr (pa_N (pv 8) (pa_N (pv 3) zac))))
   (zab (zjH (i:=10) (osc:=zae s_law) (N:=N_law) (N':=["_law_one"]) (sel:=[none]) bO zcf.nd (by rfl) (Or.inl rfl) (zaN (pv 9)) (λ_ _ _ _ _=>(nG 0 nb1)) (λ_ _ _ _ _=>zbS) (λ_ _ _ _ _=>(zaK (zah (pe_ix (zfy (K:=K)) (pv 0) zad (λ_ _=>rfl)) (zah (pe_ix (zfy (K:=K)) (pv 0) zad (λ_ _=>rfl)) (zah (za1 op_eq (pe_ix (zfy (K:=K)) (pv 0) zad (λ_ _=>rfl)) zcV (zap _)) zac))))))
   (zab (ps_if (pw_or (zdV (zcF (pC g__law_are_rounds hr (pa_N (pv 9) zac)))) (zhk (zau (zf8 hu64) (pv 10) (zaq (zdh hu68) (by rfl) T.nsorted (by rfl) (pa_N (pv 10) zac)) (zap _)))).pt
   (zaf (zaj pe_bl))
   zaw)
   (zaf (ps_if (zau (zf8 hu64) (zaq (zdh hu68) (by rfl) T.nsorted (by rfl) (pa_N (pv 9) zac)) (zaq (zdh hu68) (by rfl) T.nsorted (by rfl) (zah (zbm (osc:=zae s_law) (N:=N_law) (N':=["_law_one","_law_times"]) (sel:=[none,some 3]) bO (zaN (pv 8)) (λ_ _ _ _ _=>(nG 0 nb2)) (λ_ _ _ _ _=>zbS) (λ_ _ _ _ _=>(pC g_greater hr (pa_N (pv 0) (pa_N (pv 1) zac))))) zac)) (zap _))
   (zaf (zaj pe_bl))
   zaw)))))))))))))
   (zaf (zaj pe_bl))),?_⟩
  refine⟨_,rfl,a,_,rfl,.inl hS,_,_,rfl,_,_,rfl,_,rfl,?_,?_,?_⟩
  .split <;> lia
  .split
   .split <;> lia
   .decide
  refine zb1 (lo:=0) (λi σ H3=>∃o1 o2 o3 o4 o5 o6 o7 o8 o9 o10,σ=[some (.ref a),o1,o2,o3,o4,o5,o6,o7,o8,o9,o10]/\Same H H3) ⟨_,_,_,_,_,_,_,_,_,_,rfl,Same.refl _⟩ ?_ ?_
  .rintro i σ H3 hi ⟨o1,o2,o3,o4,o5,o6,o7,o8,o9,o10,rfl,s3⟩;refine⟨_,rfl,_,rfl,a,ns,i,(by rw[show ((0:Int)+(i:Int))=(i:Int) by lia];rfl),s3.seq hS,λc=>⟨two,λp hp=>?_⟩⟩;have hp0:H p=none:=s3.free hp;have sp:Same H (upd H3 p (.lst [.int c,.int 0])):=s3.trans (Same.up hp);have pen0:HasB (upd H3 p (.lst [.int c,.int 0])) p 1000:=⟨c,0,zaa,by decide,by decide⟩;generalize upd H3 p (.lst [.int c,.int 0])=H4 at sp pen0;refine⟨_,rfl,p,800,3,rfl,pen0.le (by lia),by decide,by decide +kernel,λt H5 t0 t3 b5 p5=>⟨_,_,rfl,rfl,?_⟩⟩;have s5:Same H H5:=zdO sp b5 hp0;obtain⟨n,hn⟩:∃n:Nat,2+t=(n:Int):=⟨(2+t).toNat,by lia⟩;dsimp only;rw[hn];have hn2:2<=n:=by lia
   have hn4:n<=4:=by lia
   have hn0:0<n:=by lia
   refine⟨_,rfl,two,λl hl=>?_⟩;refine⟨_,rfl,_,_,rfl,rfl,.inr ⟨_,rfl,?_⟩⟩
   obtain⟨v,hv,m,rfl,hm1,hm⟩:∃v,atI [V.int 120,V.int 30] (if decide ((0:Int)<0+(i:Int))=true then 1 else 0)=some v/\∃m:Nat,v=.int m/\1<=m/\m<=120:=by
    by_cases hz:decide ((0:Int)<0+(i:Int))=true
    .rw[if_pos hz];exact⟨_,rfl,30,rfl,by decide,by decide⟩
    .rw[if_neg hz];exact⟨_,rfl,120,rfl,by decide,by decide⟩
   refine⟨l,_,_,_,rfl,rfl,SqL.of zaa,hv,p,400,m,rfl,(p5.same (Same.up hl)).le (by lia),hm1,by lia,λq ds H9 hap b9 p9 hLR ho9 hbx hcl _=>?_⟩;have s9:Same H H9:=zdO (s5.trans (Same.up hl)) b9 hp0;obtain⟨ps,e9,hv9⟩:=hLR;have hdl:ds.length<=120:=by lia
   have hpl:ps.length=ds.length:=hv9.1;refine⟨(by show 0<=sizeLine;decide),λf hf=>?_⟩;have s10:Same H9 (upd H9 f (.lst [])):=Same.up hf;have e10:upd H9 f (.lst []) f=some (.lst []):=zaa;generalize upd H9 f (.lst [])=H10 at s10 e10;have q10:=s10 _ _ e9;have hv10:=hv9.mono λx v h=>h.kt (KT.of s10)
   refine⟨_,rfl,q,rfl,⟨_,SqL.of q10⟩,?_⟩
   refine zax (K:=K) (a:=q) (xs:=ps) (λj σ H11=>∃o6 o7,σ=[some (.ref a),some (.int (0+(i:Int))),some (.ref p),some (.int n),some (.ref q),some (.ref f),o6,o7,o8,o9,o10]/\Same H9 H11/\KT H10 H11/\∃zs:List V,H11 f=some (.lst zs)/\VR zs ((ds.take j).map (nearC (ds.getD 0 (0,0)))) cR H11)
    ⟨_,_,rfl,s10,λ_ _ h=>h,[],e10,VR.nil⟩ (λj σ H11 _ ⟨_,_,_,s11,_⟩=>SqL.of (s11 _ _ e9)) ?_ ?_
   .rintro j u σ H11 hj ⟨o6,o7,rfl,s11,k11,zs,e11,hz⟩;have hjl:j<ps.length:=(Ae.mp hj).1;obtain⟨c,hc,B,rfl,q1⟩:=hv10.at hj;obtain⟨u0,hu0⟩:∃u,ps[0]?=some u:=⟨_,Aa (by lia)⟩;obtain⟨o,ho,B0,rfl,q0⟩:=hv10.at hu0;have eo:ds.getD 0 (0,0)=o:=by rw[A6,ho];rfl
    have hzl:zs.length<=120:=by rw[hz.1,Am,AL];lia
    have f1:=k11 _ _ q1;have f0:=k11 _ _ q0;have q11:=s11 _ _ e9;refine⟨B,_,rfl,SqT.of f1,rfl,_,_,rfl,_,_,rfl,rfl,?_⟩;refine⟨_,rfl,.inl ⟨rfl,_,SqL.of e11⟩,?_⟩;refine⟨_,rfl,_,rfl,q,_,_,_,rfl,rfl,SqL.of q11,zai (j:=0) hu0,B0,_,_,_,rfl,rfl,SqT.of f0,zai (j:=0) rfl,_,_,rfl,rfl,_,rfl,q,_,_,_,rfl,rfl,SqL.of q11,zai (j:=0) hu0,B0,_,_,_,rfl,rfl,SqT.of f0,zai (j:=0) rfl,_,_,rfl,rfl,⟨by decide,by decide⟩,_,_,rfl,rfl,?_⟩;refine⟨_,rfl,_,rfl,q,_,_,_,rfl,rfl,SqL.of q11,zai (j:=0) hu0,B0,_,_,_,rfl,rfl,SqT.of f0,zai (j:=1) rfl,_,_,rfl,rfl,_,rfl,q,_,_,_,rfl,rfl,SqL.of q11,zai (j:=0) hu0,B0,_,_,_,rfl,rfl,SqT.of f0,zai (j:=1) rfl,_,_,rfl,rfl,⟨by decide,by decide⟩,_,_,rfl,rfl,two,λt2 ht2=>?_⟩;have s12:Same H11 (upd H11 t2 (.tup [.int (c.1-o.1+o.1 / 10),.int (c.2-o.2+o.2 / 10)])):=Same.up ht2;have r12:cR (nearC o c) (.ref t2) (upd H11 t2 (.tup [.int (c.1-o.1+o.1 / 10),.int (c.2-o.2+o.2 / 10)])):=⟨t2,rfl,zaa⟩;generalize upd H11 t2 (.tup [.int (c.1-o.1+o.1 / 10),.int (c.2-o.2+o.2 / 10)])=H12 at s12 r12;have e12:=s12 _ _ e11;refine⟨f,zs,_,rfl,rfl,e12,zaF (by lia),?_⟩;refine⟨_,_,rfl,zar hf (s11.trans s12),λb xs h=>KT.lst e12 b xs (s12 _ _ (k11 b xs h)),_,zaa,?_⟩;rw[zaL hc,AE,eo];rw[eo]at hz;exact hz.snoc (λx v h=>(h.kt (KT.of s12)).kt (KT.lst e12)) (r12.kt (KT.lst e12))
   rintro σ H11 ⟨o6,o7,rfl,s11,k11,zs,e11,hz⟩;rw[Bz (by rw[hpl];exact An _)]at hz;have hno:=zjL (o:=ds.getD 0 (0,0)) ho9;have hnl:(ds.map (nearC (ds.getD 0 (0,0)))).length<=120:=by rw[Am];exact hdl
   generalize ds.map (nearC (ds.getD 0 (0,0)))=cs at hz hno hnl;refine⟨_,rfl,f,cs,rfl,LR.of e11 hz,hno,hnl,λpr H7 rv R R0 hpr s7 e7 hvr hpm _ hwh=>?_⟩;obtain⟨ESS,hcan⟩:=hwh.cans hpm;have hRl:R.length<=120:=by rw[hpm.length_eq];exact AS hwh.few hnl
   have hRso:∀r∈R,SoOk r:=λr hr'=>hwh.so r (hpm.mem_iff.mp hr')
   have hes:∀es∈ESS,es.length<=480:=λes he=>by have:=hcan.short es he;lia
   have at':∀j u,rv[j]?=some u->∃r es,R[j]?=some r/\ESS[j]?=some es/\rR r u H7/\Can (isIn cs) es r/\es.length<=480/\SoOk r:=λj u hj=>by obtain⟨r,hr',hx⟩:=hvr.at hj;obtain⟨es,h1,h2⟩:=hcan.so hr';exact⟨r,es,hr',h1,hx,h2,hes es (Ag h1),hRso r (Ag hr')⟩
   have hrl:rv.length<=120:=by rw[hvr.1];exact hRl
   refine⟨_,rfl,pr,rfl,⟨_,SqL.of e7⟩,λpb hpb=>?_⟩
   refine zax (K:=K) (a:=pr) (xs:=rv) (λj σ H8=>∃o,σ=[o,some (.int n)]/\Same H7 H8/\H8 pb=some (.lst ((Af j true).map V.bl)))
    ⟨_,rfl,Same.up hpb,zaa⟩ (λj σ H8 _ ⟨_,_,s8,_⟩=>SqL.of (s8 _ _ e7)) ?_ ?_
   .rintro j u σ H8 hj ⟨o,rfl,s8,e8⟩;obtain⟨r,es,_,_,h1,h2,h3,h4⟩:=at' j u hj;have hjl:j<rv.length:=(Ae.mp hj).1;refine gN ?_
    refine⟨_,rfl,_,rfl,u,n,r,isIn cs,es,rfl,h1.kt (KT.of s8),h2,hn2,hn4,h3,h4,λH9' s9'=>?_⟩;refine⟨_,s9' _ _ e8,zaF (by simp;lia),_,rfl,zar hpb (s8.trans s9'),?_⟩;rw[zaa,Cf,AE];rfl
   rintro σ H8 ⟨o,rfl,s8,e8⟩;refine⟨pb,_,rfl,SqL.of e8,_,rfl,iteN (by simp) ?_⟩
   have hesn:∀es∈ESS,n*es.length<=2000/\es.length<=500:=λes he=>by have:=hes es he;exact⟨AS (Nat.mul_le_mul hn4 this) (by decide),by lia⟩
   refine⟨_,rfl,_,rfl,pr,rv,R,n,isIn cs,ESS,rfl,SqL.of (s8 _ _ e7),hvr.mono (λx v h=>h.kt (KT.of s8)),by lia,hcan.al,hn0,hn4,hesn,λpf HB fv S S0 hpf sB eB hvS hpS hkS haS=>?_⟩
   have hall:∀q∈S0,SoOk q/\q.row.length<=2000:=λq hq=>by obtain⟨es,he,hr1⟩:=haS.meml hq;obtain⟨r,hr',hc⟩:=hcan.al.mem he;obtain⟨so,_,_,row⟩:=hc.greater hn0 hr1;refine⟨by show q.so = "rim" ∨ q.so = "hole";rw[so];exact hRso r hr',?_⟩;rw[row,zc0];exact AS (zi6 hn0 es) (hesn es he).1
   have hallS:∀q∈S,SoOk q/\q.row.length<=2000:=λq hq=>hall q (hpS.mem_iff.mp hq)
   have hSl:S.length<=120:=by rw[hpS.length_eq,haS.length,<- hcan.al.length];exact hRl
   have hfl:fv.length<=120:=by rw[hvS.1];exact hSl
   refine⟨_,rfl,pf,rfl,⟨_,SqL.of eB⟩,λpp hpp=>?_⟩
   refine zax (K:=K) (a:=pf) (xs:=fv) (λj σ HC=>∃o,σ=[o]/\Same HB HC/\∃us,HC pp=some (.lst us)/\VR us ((S.take j).map plc) plR HC)
    ⟨_,rfl,Same.up hpp,[],zaa,VR.nil⟩ (λj σ HC _ ⟨_,_,sC,_⟩=>SqL.of (sC _ _ eB)) ?_ ?_
   .rintro j u σ HC hj ⟨o,rfl,sC,us,eC,hC⟩;obtain⟨r,hr',hx⟩:=hvS.at hj;have hjl:j<fv.length:=(Ae.mp hj).1;obtain⟨x,b,rfl,x1,x2⟩:=hx.kt (KT.of sC);refine gN ?_
    refine⟨_,rfl,x,_,_,_,rfl,rfl,SqT.of x1,zai (j:=2) rfl,_,rfl,x,_,_,_,rfl,rfl,SqT.of x1,zai (j:=1) rfl,_,rfl,x,_,_,_,rfl,rfl,SqT.of x1,zai (j:=0) rfl,rfl,three,λtt htt=>?_⟩;have sD:=Same.up (o:=.tup [.int r.y,.int r.x,.bl (decide (V.str r.so=V.str "hole"))]) htt;have rD:plR (plc r) (.ref tt) (upd HC tt (.tup [.int r.y,.int r.x,.bl (decide (V.str r.so=V.str "hole"))])):=⟨tt,rfl,zaa⟩;generalize upd HC tt (.tup [.int r.y,.int r.x,.bl (decide (V.str r.so=V.str "hole"))])=HD at sD rD;have eD:=sD _ _ eC;refine⟨us,eD,zaF (by rw[hC.1,Am,AL];lia),_,rfl,zar hpp (sC.trans sD),_,zaa,?_⟩;rw[zaL hr',AE];exact hC.snoc (λx v h=>(h.kt (KT.of sD)).kt (KT.lst eD)) (rD.kt (KT.lst eD))
   rintro σ HC ⟨o,rfl,sC,us,eC,hC⟩;rw[hvS.1,Bb]at hC;refine⟨_,rfl,pf,fv,S,rfl,sC _ _ eB,hvS.mono (λx v h=>h.kt (KT.of sC)),hallS,by lia,λHD sD=>⟨_,rfl,iteF ?_⟩⟩;have eD:=sD _ _ eC;have hD:=hC.mono λx v h=>h.kt (KT.of sD)
   refine⟨_,rfl,_,rfl,?_⟩;dsimp only[tNil];refine zgI (K:=K) eD hD λM D HE dv pM oM hDn sE eE hE=>?_
   have eML:M=S.map plc:=zkO pM oM (by rw[List.pairwise_map];exact hkS);subst eML;refine⟨.list ((S.map plc).map dPl),.list ((S.map plc).map dPl),.lst (SqL.of (sE _ _ eD)) (zgP (hD.mono λx v h=>h.kt (KT.of sE))),.lst (SqL.of eE) (zgP hE),zeL _,zeL _,_,rfl,iteN ?_ ?_⟩
   .show (!PyData.eqvAll ((S.map plc).map dPl) ((S.map plc).map dPl))=false;rw[zeU];rfl
   have sBE:=sC.trans (sD.trans sE);refine⟨_,rfl,?_⟩;dsimp only[tNil];refine zdJ (K:=K) (λr hr'=>(hallS r hr').1) (sBE _ _ eB) (hvS.mono λx v h=>h.kt (KT.of sBE)) λN1 D1 HF d1 pN1 oN1 _ sF eF hF=>?_
   have s7F:=s8.trans (sB.trans (sBE.trans sF));have e7F:=s7F _ _ e7;refine⟨_,rfl,pr,rfl,⟨_,SqL.of e7F⟩,λpg hpg=>?_⟩
   refine zax (K:=K) (a:=pr) (xs:=rv) (λj σ HG=>∃o,σ=[o,some (.int n)]/\Same HF HG/\∃us G,HG pg=some (.lst us)/\VR us G rR HG/\Al (λr es=>IsRnd (wk (gC n (isIn cs)) (gW n es)) r) G (ESS.take j))
    ⟨_,rfl,Same.up hpg,[],[],zaa,VR.nil,.nil⟩ (λj σ HG _ ⟨_,_,sG,_⟩=>SqL.of (sG _ _ e7F)) ?_ ?_
   .rintro j u σ HG hj ⟨o,rfl,sG,us,G,eG,hG,aG⟩;obtain⟨r,es,h0,h00,h1,h2,h3,h4⟩:=at' j u hj;have hjl:j<rv.length:=(Ae.mp hj).1;have hen:=hesn es (Ag h00);refine gN ?_
    refine⟨_,rfl,_,rfl,u,n,r,isIn cs,es,rfl,h1.kt (KT.of (s7F.trans sG)),h2,hn0,hn4,hen.1,hen.2,λv' HH r' sH hr1 hrn=>?_⟩;have eH:=sH _ _ eG;refine⟨us,eH,zaF (by rw[hG.1,aG.length,AL];lia),_,rfl,zar hpg (sG.trans sH),_,G++[r'],zaa,?_,?_⟩
    .exact hG.snoc (λx v h=>(h.kt (KT.of sH)).kt (KT.lst eH)) (hr1.kt (KT.lst eH))
    .rw[zaL h00];exact aG.snoc hrn
   rintro σ HG ⟨o,rfl,sG,us,G,eG,hG,aG⟩;rw[Bz (by rw[hvr.1,hcan.al.length];exact An _)]at aG
   have eSG:S0=G:=haS.uniqL aG λa b c hc ha hb=>by obtain⟨r,_,hcc⟩:=hcan.al.mem hc;exact IsRnd.same (zfN hn0 hcc.cl) ha hb
   subst eSG;dsimp only[tNil];refine zdJ (K:=K) (λr hr'=>(hall r hr').1) eG hG λN2 D2 HI d2 pN2 oN2 _ sI eI hI=>?_
   have so1:∀r∈N1,SoOk r:=λr hr'=>(hallS r (pN1.mem_iff.mp hr')).1
   have so2:∀r∈N2,SoOk r:=λr hr'=>(hall r (pN2.mem_iff.mp hr')).1
   have eN:N1=N2:=zkI so1 so2 (pN1.trans (hpS.trans pN2.symm)) oN1 oN2;have sFI:=sG.trans sI;refine⟨_,_,zf2 (SqL.of (sFI _ _ eF)) (hF.mono λx v h=>h.kt (KT.of sFI)),zf2 (SqL.of eI) hI,zfY so1,zfY so2,_,rfl,iteN (by rw[zlV,decide_eq_true eN];rfl) ?_⟩;exact⟨_,_,_,_,_,_,_,_,_,_,rfl,s9.trans (s11.trans (s7.trans (s7F.trans sFI)))⟩
  .rintro σ H3 ⟨o1,o2,o3,o4,o5,o6,o7,o8,o9,o10,rfl,s3⟩;exact k H3
end
theorem all_mk {l:W.OpenLaw}{w:Bc}{K:W.Frag}{h:Heap}{mg:Str -> Option Ab}{fa:Addr}(X:K.In h) (G:h.Ns AI mg) (hfa:mg "law" = some (.ref fa)){fx43:Addr}{od43 an43:Option Addr}{sl43:Array (Option Ab)}{oc43 kV43 dc43 pm43 ct43 cd43:Ab}
  (h0:DA K "cell_order" zcm)
  (h1:DA K "ask_picture" zb9)
  (h2:DA K "gone" ziy)
  (h3:DA K "cell_table" zbM)
  (h4:DA K "gap_beside" zcj)
  (h5:DA K "all_edges" zbD)
  (h6:DA K "straight_step" zbC)
  (h7:DA K "slant_step" zci)
  (h8:DA K "step_behind" zb4)
  (h9:DA K "is_slant" zc6)
  (h10:DA K "edge_behind" zb7)
  (h11:DA K "walk_from" zcI)
  (h12:DA K "lefts_and_slants" zaG)
  (h13:DA K "lefts_less_slants" zba)
  (h14:DA K "sort_of" zdS)
  (h15:DA K "begin_of" zcA)
  (h16:DA K "round_of" zbz)
  (h17:DA K "round_order" zb5)
  (h18:DA K "rounds_along" zbP)
  (h19:DA K "rounds" zfb)
  (h20:DA K "begin_edge" zcn)
  (h21:DA K "way_for" zdP)
  (h22:DA K "deeds_along" zb8)
  (h23:DA K "walk_by" zdR)
  (h24:DA K "walk_along" zch)
  (h25:DA K "seen_between" zbO)
  (h26:DA K "gainsaid_at" zb6)
  (h27:DA K "comes_back" zcl)
  (h28:DA K "is_closed" zcJ)
  (h29:DA K "walk_of" zdQ)
  (h30:DA K "in_order" zc7)
  (h31:DA K "first_part" zck)
  (h32:DA K "greater" zdT)
  (h33:DA K "greater_all" zbx)
  (h34:DA K "_law_cell_at" zbR)
  (h35:DA K "_law_take" zcK)
  (h36:DA K "_law_far" zc8)
  (h37:DA K "_law_is_there" zbE)
  (h38:DA K "_law_picture" zbQ)
  (h39:DA K "_law_is_round" zbk)
  (h40:DA K "_law_are_rounds" zaY)
  (h41:DA K "_law_made" zcL)
  (h42:DA K "_law_right" zco)
  (a43:C1 K AI "law" = some (some (.ref fx43))) (l43:K.lookup fx43=some ⟨oc43,od43,.func (Dh "law" "law" (za2 s_law) (zaW s_law) (zae s_law) .none kV43 dc43 pm43 an43 cd43 ct43),sl43⟩) (c43:W.codeIn K cd43 "law" = true) (k43:W.keepIn K (.ref fx43)=true)
  {M m0 m1 m2 m3 m4 m5 m6 m7:Addr}{odM:Option Addr}{nM:Nat}{slM:Array (Option Ab)}
  (aM:C1 K AI "MOVES" = some (some (.ref M))) (lM:K.lookup M=some ⟨.type "tuple",odM,.seq #[.ref m0,.ref m1,.ref m2,.ref m3,.ref m4,.ref m5,.ref m6,.ref m7] nM,slM⟩)
  {odm0:Option Addr}{nm0:Nat}{slm0:Array (Option Ab)}{tm0 um0:Tok} (x0:K.lookup m0=some ⟨.type "tuple",odm0,.seq #[.int (1) tm0,.int (0) um0] nm0,slm0⟩)
  {odm1:Option Addr}{nm1:Nat}{slm1:Array (Option Ab)}{tm1 um1:Tok} (x1:K.lookup m1=some ⟨.type "tuple",odm1,.seq #[.int (1) tm1,.int (1) um1] nm1,slm1⟩)
  {odm2:Option Addr}{nm2:Nat}{slm2:Array (Option Ab)}{tm2 um2:Tok} (x2:K.lookup m2=some ⟨.type "tuple",odm2,.seq #[.int (0) tm2,.int (1) um2] nm2,slm2⟩)
  {odm3:Option Addr}{nm3:Nat}{slm3:Array (Option Ab)}{tm3 um3:Tok} (x3:K.lookup m3=some ⟨.type "tuple",odm3,.seq #[.int (-1) tm3,.int (1) um3] nm3,slm3⟩)
  {odm4:Option Addr}{nm4:Nat}{slm4:Array (Option Ab)}{tm4 um4:Tok} (x4:K.lookup m4=some ⟨.type "tuple",odm4,.seq #[.int (-1) tm4,.int (0) um4] nm4,slm4⟩)
  {odm5:Option Addr}{nm5:Nat}{slm5:Array (Option Ab)}{tm5 um5:Tok} (x5:K.lookup m5=some ⟨.type "tuple",odm5,.seq #[.int (-1) tm5,.int (-1) um5] nm5,slm5⟩)
  {odm6:Option Addr}{nm6:Nat}{slm6:Array (Option Ab)}{tm6 um6:Tok} (x6:K.lookup m6=some ⟨.type "tuple",odm6,.seq #[.int (0) tm6,.int (-1) um6] nm6,slm6⟩)
  {odm7:Option Addr}{nm7:Nat}{slm7:Array (Option Ab)}{tm7 um7:Tok} (x7:K.lookup m7=some ⟨.type "tuple",odm7,.seq #[.int (1) tm7,.int (-1) um7] nm7,slm7⟩)
  {B:Addr}{t1 t2 t3 t4:Tok}{nB:Nat} (aB:C1 K AI "BEGIN_WAYS" = some (some (.ref B))) (lB:K.lookup B=some ⟨.type "dict",none,.dict #[⟨BK w.params "rim",.str "rim" t1,.int 0 t2⟩,⟨BK w.params "hole",.str "hole" t3,.int 2 t4⟩] nB,#[]⟩)
  {B2:Addr}{u1 u2 u3 u4:Tok}{nB2:Nat} (aB2:C1 K AI "MORE_LEFTS" = some (some (.ref B2))) (lB2:K.lookup B2=some ⟨.type "dict",none,.dict #[⟨BK w.params "rim",.str "rim" u1,.int 4 u2⟩,⟨BK w.params "hole",.str "hole" u3,.int (-4) u4⟩] nB2,#[]⟩)
  {MENTRIES ENTRIES0 ENTRIES1 ENTRIES2 ENTRIES3:Addr}{odENTRIES:Option Addr}{nENTRIES:Nat}{slENTRIES:Array (Option Ab)}
  (aENTRIES:C1 K AI "ENTRIES" = some (some (.ref MENTRIES))) (lENTRIES:K.lookup MENTRIES=some ⟨.type "tuple",odENTRIES,.seq #[.ref ENTRIES0,.ref ENTRIES1,.ref ENTRIES2,.ref ENTRIES3] nENTRIES,slENTRIES⟩)
  {odENTRIES0:Option Addr}{nENTRIES0:Nat}{slENTRIES0:Array (Option Ab)}{tENTRIES0 uENTRIES0:Tok} (xENTRIES0:K.lookup ENTRIES0=some ⟨.type "tuple",odENTRIES0,.seq #[.int (0) tENTRIES0,.int (0) uENTRIES0] nENTRIES0,slENTRIES0⟩)
  {odENTRIES1:Option Addr}{nENTRIES1:Nat}{slENTRIES1:Array (Option Ab)}{tENTRIES1 uENTRIES1:Tok} (xENTRIES1:K.lookup ENTRIES1=some ⟨.type "tuple",odENTRIES1,.seq #[.int (1) tENTRIES1,.int (0) uENTRIES1] nENTRIES1,slENTRIES1⟩)
  {odENTRIES2:Option Addr}{nENTRIES2:Nat}{slENTRIES2:Array (Option Ab)}{tENTRIES2 uENTRIES2:Tok} (xENTRIES2:K.lookup ENTRIES2=some ⟨.type "tuple",odENTRIES2,.seq #[.int (1) tENTRIES2,.int (1) uENTRIES2] nENTRIES2,slENTRIES2⟩)
  {odENTRIES3:Option Addr}{nENTRIES3:Nat}{slENTRIES3:Array (Option Ab)}{tENTRIES3 uENTRIES3:Tok} (xENTRIES3:K.lookup ENTRIES3=some ⟨.type "tuple",odENTRIES3,.seq #[.int (0) tENTRIES3,.int (1) uENTRIES3] nENTRIES3,slENTRIES3⟩)
  (z_range:C1 K AI "range" = some none)
  (z_len:C1 K AI "len" = some none)
  (z_min:C1 K AI "min" = some none)
  (z_max:C1 K AI "max" = some none)
  (z_sorted:C1 K AI "sorted" = some none)
  (z_tuple:C1 K AI "tuple" = some none)
  (z_int:C1 K AI "int" = some none)
  (z_bool:C1 K AI "bool" = some none)
  (z_abs:C1 K AI "abs" = some none)
  (z_all:C1 K AI "all" = some none)
  (z_isinstance:C1 K AI "isinstance" = some none)
  (z_list:C1 K AI "list" = some none)
  (z_zip:C1 K AI "zip" = some none) :
  ∃fd:Bx,(∀(s:Ac) (v:Ab),BindsTo s fd ⟨[v],[]⟩ [("_law_script",v)])/\∀base:Heap,K.In base->base.Ns AI mg->FnOk l.prog w K mg base CX0 8 fa fd ["_law_script"] (spLaw K):=by
 have e:=hfa.symm.trans (W.mg_of X G a43)
 cases e
 have moves:∃M,mg "MOVES" = some (.ref M)/\∀H,∃ms:List Addr,SqT K H M (ms.map V.ref)/\ms.length=8/\∀(i:Nat) a,ms[i]?=some a->SqT K H a [.int (mv i).1,.int (mv i).2]:=by
  refine⟨M,W.mg_of X G aM,λH=>⟨[m0,m1,m2,m3,m4,m5,m6,m7],.inr ⟨_,_,_,lM,rfl,rfl,(by show 8<=sizeLine;decide),.cons rfl (.cons rfl (.cons rfl (.cons rfl (.cons rfl (.cons rfl (.cons rfl (.cons rfl .nil)))))))⟩,rfl,λi a e=>?_⟩⟩
  match i,e with
  | 0,e=>cases e;exact .inr ⟨_,_,_,x0,rfl,rfl,(by show 2<=sizeLine;decide),.cons ⟨_,rfl⟩ (.cons ⟨_,rfl⟩ .nil)⟩
  | 1,e=>cases e;exact .inr ⟨_,_,_,x1,rfl,rfl,(by show 2<=sizeLine;decide),.cons ⟨_,rfl⟩ (.cons ⟨_,rfl⟩ .nil)⟩
  | 2,e=>cases e;exact .inr ⟨_,_,_,x2,rfl,rfl,(by show 2<=sizeLine;decide),.cons ⟨_,rfl⟩ (.cons ⟨_,rfl⟩ .nil)⟩
  | 3,e=>cases e;exact .inr ⟨_,_,_,x3,rfl,rfl,(by show 2<=sizeLine;decide),.cons ⟨_,rfl⟩ (.cons ⟨_,rfl⟩ .nil)⟩
  | 4,e=>cases e;exact .inr ⟨_,_,_,x4,rfl,rfl,(by show 2<=sizeLine;decide),.cons ⟨_,rfl⟩ (.cons ⟨_,rfl⟩ .nil)⟩
  | 5,e=>cases e;exact .inr ⟨_,_,_,x5,rfl,rfl,(by show 2<=sizeLine;decide),.cons ⟨_,rfl⟩ (.cons ⟨_,rfl⟩ .nil)⟩
  | 6,e=>cases e;exact .inr ⟨_,_,_,x6,rfl,rfl,(by show 2<=sizeLine;decide),.cons ⟨_,rfl⟩ (.cons ⟨_,rfl⟩ .nil)⟩
  | 7,e=>cases e;exact .inr ⟨_,_,_,x7,rfl,rfl,(by show 2<=sizeLine;decide),.cons ⟨_,rfl⟩ (.cons ⟨_,rfl⟩ .nil)⟩
  |i+8,e=>exact absurd (Ae.mp e).1 (by simp)
 have ways:Ways l.prog w K mg:=⟨⟨B,t1,t2,t3,t4,nB,W.mg_of X G aB,lB⟩⟩
 have hENTRIES:∃M,mg "ENTRIES" = some (.ref M)/\∀H,∃ms:List Addr,SqT K H M (ms.map V.ref)/\ms.length=4/\∀(i:Nat) a,ms[i]?=some a->∃q,([(0,0),(1,0),(1,1),(0,1)]:List (Int×Int))[i]?=some q/\SqT K H a [.int q.1,.int q.2]:=by
  refine⟨MENTRIES,W.mg_of X G aENTRIES,λH=>⟨[ENTRIES0,ENTRIES1,ENTRIES2,ENTRIES3],.inr ⟨_,_,_,lENTRIES,rfl,rfl,(by show 4<=sizeLine;decide),(.cons rfl (.cons rfl (.cons rfl (.cons rfl .nil))))⟩,rfl,λi a e=>?_⟩⟩
  match i,e with
  | 0,e=>cases e;exact⟨_,rfl,.inr ⟨_,_,_,xENTRIES0,rfl,rfl,(by show 2<=sizeLine;decide),.cons ⟨_,rfl⟩ (.cons ⟨_,rfl⟩ .nil)⟩⟩
  | 1,e=>cases e;exact⟨_,rfl,.inr ⟨_,_,_,xENTRIES1,rfl,rfl,(by show 2<=sizeLine;decide),.cons ⟨_,rfl⟩ (.cons ⟨_,rfl⟩ .nil)⟩⟩
  | 2,e=>cases e;exact⟨_,rfl,.inr ⟨_,_,_,xENTRIES2,rfl,rfl,(by show 2<=sizeLine;decide),.cons ⟨_,rfl⟩ (.cons ⟨_,rfl⟩ .nil)⟩⟩
  | 3,e=>cases e;exact⟨_,rfl,.inr ⟨_,_,_,xENTRIES3,rfl,rfl,(by show 2<=sizeLine;decide),.cons ⟨_,rfl⟩ (.cons ⟨_,rfl⟩ .nil)⟩⟩
  |i+4,e=>exact absurd (Ae.mp e).1 (by simp)
 have T:Txt l.prog w K mg:={ moves:=moves,ways:=ways,more:=⟨⟨B2,u1,u2,u3,u4,nB2,W.mg_of X G aB2,lB2⟩⟩,pENTRIES:=hENTRIES,nrange:=BW X G z_range,nlen:=BW X G z_len,nmin:=BW X G z_min,nmax:=BW X G z_max,nsorted:=BW X G z_sorted,ntuple:=BW X G z_tuple,nint:=BW X G z_int,nbool:=BW X G z_bool,nabs:=BW X G z_abs,nall:=BW X G z_all,nisinstance:=BW X G z_isinstance,nlist:=BW X G z_list,nzip:=BW X G z_zip };obtain⟨d'0⟩:=h0.d1 X G (p0:="cell");obtain⟨d'1⟩:=h1.d1 X G (p0:="picture");obtain⟨d'2⟩:=h2.d3 X G (p0:="x") (p1:="y") (p2:="step");obtain⟨d'3⟩:=h3.d1 X G (p0:="picture");obtain⟨d'4⟩:=h4.d1 X G (p0:="edge");obtain⟨d'5⟩:=h5.d1 X G (p0:="picture");obtain⟨d'6⟩:=h6.d1 X G (p0:="way");obtain⟨d'7⟩:=h7.d1 X G (p0:="way");obtain⟨d'8⟩:=h8.d2 X G (p0:="table") (p1:="edge");obtain⟨d'9⟩:=h9.d1 X G (p0:="step");obtain⟨d'a⟩:=h10.d2 X G (p0:="edge") (p1:="step");obtain⟨d'b⟩:=h11.d2 X G (p0:="table") (p1:="begin");obtain⟨d'c⟩:=h12.d1 X G (p0:="walk");obtain⟨d'd⟩:=h13.d1 X G (p0:="walk");obtain⟨d'e⟩:=h14.d1 X G (p0:="walk");obtain⟨d'f⟩:=h15.d2 X G (p0:="walk") (p1:="sort");obtain⟨d'10⟩:=h16.d1 X G (p0:="walk");obtain⟨d'11⟩:=h17.d1 X G (p0:="one");obtain⟨d'12⟩:=h18.d2 X G (p0:="table") (p1:="edges");obtain⟨d'13⟩:=h19.d1 X G (p0:="picture");obtain⟨d'14⟩:=h20.d1 X G (p0:="one");obtain⟨d'15⟩:=h21.d1 X G (p0:="step");obtain⟨d'16⟩:=h22.d2 X G (p0:="begin_way") (p1:="row");obtain⟨d'17⟩:=h23.d2 X G (p0:="begin") (p1:="deeds");obtain⟨d'18⟩:=h24.d2 X G (p0:="begin") (p1:="row");obtain⟨d'19⟩:=h25.d2 X G (p0:="edge") (p1:="step");obtain⟨d'1a⟩:=h26.d1 X G (p0:="walk");obtain⟨d'1b⟩:=h27.d1 X G (p0:="walk");obtain⟨d'1c⟩:=h28.d2 X G (p0:="walk") (p1:="sort");obtain⟨d'1d⟩:=h29.d1 X G (p0:="one");obtain⟨d'1e⟩:=h30.d1 X G (p0:="some");obtain⟨d'1f⟩:=h31.d2 X G (p0:="edge") (p1:="times");obtain⟨d'20⟩:=h32.d2 X G (p0:="one") (p1:="times");obtain⟨d'21⟩:=h33.d2 X G (p0:="some") (p1:="times");obtain⟨d'22⟩:=h34.d2 X G (p0:="_law_script") (p1:="_law_k");obtain⟨d'23⟩:=h35.d2 X G (p0:="_law_pen") (p1:="_law_base");obtain⟨d'24⟩:=h36.d1 X G (p0:="_law_pen");obtain⟨d'25⟩:=h37.d6 X G (p0:="_law_pen") (p1:="_law_way") (p2:="_law_x") (p3:="_law_y") (p4:="_law_wide") (p5:="_law_high");obtain⟨d'26⟩:=h38.d2 X G (p0:="_law_pen") (p1:="_law_most");obtain⟨d'27⟩:=h39.d1 X G (p0:="_law_found");obtain⟨d'28⟩:=h40.d1 X G (p0:="_law_found");obtain⟨d'29⟩:=h41.d2 X G (p0:="_law_one") (p1:="_law_times");obtain⟨d'2a⟩:=h42.d2 X G (p0:="_law_one") (p1:="_law_times");have F43:=zcY (st:=s_law) l43 c43 k43;have b43:=F43.b1 (p0:="_law_script");refine⟨Dh "law" "law" (za2 s_law) (zaW s_law) (zae s_law) .none kV43 dc43 pm43 an43 cd43 ct43,λs v=>.of_eq rfl,λbase _ _=>?_⟩;have fn:∀{k:Nat}{x:Str}{s:Stmt}{ps:List Str}{sp:Sp} (d:Df K mg x s ps),FnOk l.prog w K mg base CX0 k d.f d.fd ps sp->Fn l.prog w K mg base k x ps sp:=λd h=>d.fn h
 have g'2b:=fn d'0 (zfo d'0);have g'2c:=fn d'2 (zkW T d'2);have g'2d:=fn d'6 (zds d'6);have g'2e:=fn d'7 (zfj d'7);have g'2f:=fn d'9 (zgT d'9);have g'30:=fn d'4 (zfk g'2c d'4);have g'31:=fn d'1 (zeu T g'2b d'1);have g'32:=fn d'3 (zfn d'3);have g'33:=fn d'8 (zem g'2c g'2e g'2d d'8);have g'34:=fn d'a (zes g'2c g'2f d'a);have g'35:=fn d'5 (zgc T g'32 g'30 d'5);have g'36:=fn d'b (zf9 g'33 g'34 d'b);have g'37:=fn d'c (zcM T g'2f d'c);have g'38:=fn d'd (zcD g'37 d'd);have g'39:=fn d'e (zh2 g'38 d'e);have g'3a:=fn d'f (zgV T g'2b d'f);have g'3b:=fn d'10 (zgQ T g'39 g'3a d'10);have g'3c:=fn d'11 (zen d'11);have g'3d:=fn d'12 (zd0 T g'36 g'3b g'3c d'12);have g'3e:=fn d'13 (ziP T g'31 g'32 g'35 g'3d d'13);have g'3f:=fn d'14 (zfp T d'14);have g'40:=fn d'15 (zhZ d'15);have g'41:=fn d'16 (zet g'40 d'16);have g'42:=fn d'17 (zh1 g'34 d'17);have g'43:=fn d'18 (zfi g'42 g'41 d'18);have g'44:=fn d'19 (zdZ g'34 g'30 g'2f g'2c g'2e g'2d d'19);have g'45:=fn d'1a (zer g'44 d'1a);have g'46:=fn d'1b (zfm g'34 d'1b);have g'47:=fn d'1c (zgb T g'46 g'38 d'1c);have g'48:=fn d'1d (zh0 g'3f g'43 g'45 g'47 g'3a d'1d);have g'49:=fn d'1f (zfl T d'1f);have g'4a:=fn d'1e (zgU T g'3c d'1e);have g'4b:=fn d'20 (zh4 T g'48 g'2d g'42 g'49 g'3b d'20);have g'4c:=fn d'21 (zeq T g'4b g'4a d'21);have g'4d:=fn d'27 (zd2 T d'27);have g'4e:=fn d'28 (zdd T g'4d d'28);have g'4f:=fn d'29 (zgS T d'29);have g'50:=fn d'2a (zga T g'4b g'4f g'4d d'2a);have g'51:=fn d'22 (zep T d'22);have g'52:=fn d'23 (tk_of (zgR T d'23));have g'53:=fn d'24 (zh3 g'52 d'24);have g'54:=fn d'25 (zd1 T g'52 d'25);have g'55:=fn d'26 (zeo T g'52 g'53 g'54 d'26);exact zlE T g'51 g'52 g'55 g'3e g'50 g'4b g'4c g'4e ⟨_,_,F43,W.mg_of X G a43,b43⟩
theorem walk{l:W.OpenLaw}{q:AH}{loose:List Str}{XP:(Str -> Option Ab) -> Heap -> Prop}{YP:Bc -> Heap -> Prop}{d:DefRec}{K:Params -> W.Frag}(hn:l.most=some 63)(hdf:d.params.defaults = [])
  (hY:∀(w:Bc) (h:Heap),YP w h->(K w.params).In h)
  (F:∀(w:Bc) (mg:Str->Option Ab) (fa:Addr) (h:Heap),(K w.params).In h->h.Ns AI mg->mg d.name=some (.ref fa) ->
   ∃fd:Bx,(∀(s:Ac) (u:Ab),BindsTo s fd ⟨[u],[]⟩ [("_law_script",u)])/\∀base:Heap,(K w.params).In base->base.Ns AI mg->FnOk l.prog w (K w.params) mg base CX0 8 fa fd ["_law_script"] (spLaw (K w.params))) :
  W.WalkO q loose XP YP l.row.toRowW d [] (λf vs=>PySem.call f vs) :=
 L2.walk_of (n:=63) (k:=8) (x:="_law_script") (CX:=λ_=>CX0) (sp:=λw=>spLaw (K w.params)) hn (by decide) hdf ⟨rfl,by decide,by decide⟩ hY F (λ_ _ a ns hl _ hS=>⟨a,ns,rfl,hS,hl,λ_=>rfl⟩) λ_ _ _ _ _ z=>z
end RR
namespace PySem.W.Fast
noncomputable def tw15128640219833612463:=()
noncomputable def tw1666017806315295255:=()
noncomputable def tw10274568745242768249:=()
noncomputable def tw5832080353275278445:=()
noncomputable def tw9299316107111333655:=()
noncomputable def tw1507219878437672820:=()
noncomputable def tw7830478279174350252:=()
noncomputable def tw3277044862040784559:=()
noncomputable def tw13017630124487647378:=()
noncomputable def tw3564610293039246333:=()
noncomputable def tw6211447236127196385:=()
noncomputable def tw440255738900842905:=()
noncomputable def tw10790770889002423031:=()
noncomputable def tw17461375176775377966:=()
noncomputable def tw12159448492574378303:=()
noncomputable def tw2821974375705424942:=()
noncomputable def tw14888106723836890844:=()
noncomputable def tw7630906538109942175:=()
noncomputable def tw5187047172600255531:=()
noncomputable def tw9729828509651393839:=()
noncomputable def tw1909522563484168924:=()
noncomputable def tw11825127596216519956:=()
noncomputable def tw15929321035011810509:=()
noncomputable def tw10107566986654497821:=()
noncomputable def tw8347526490644164636:=()
noncomputable def tw10813119456998003923:=()
noncomputable def tw1269285352906790856:=()
noncomputable def tw13541463708905047897:=()
noncomputable def tw2783963381027864350:=()
noncomputable def tw16942673099058184334:=()
noncomputable def tw12151851668816356994:=()
noncomputable def tw11379349304349653400:=()
noncomputable def tw11863894573523698404:=()
noncomputable def tw9851910937136959935:=()
noncomputable def tw2563094529012765859:=()
noncomputable def tw1207812245876113123:=()
noncomputable def tw5157830302004980505:=()
noncomputable def tw7029895995169729597:=()
noncomputable def tw3188053270703994933:=()
noncomputable def tw13831543816756674442:=()
noncomputable def tw8454137561758627011:=()
noncomputable def tw15360967822151939270:=()
noncomputable def tw11348379596855256740:=()
noncomputable def tw9989831546571067302:=()
noncomputable def tw9226169685177903935:=()
noncomputable def tw3588021585757716867:=()
noncomputable def tw10322220791578949038:=()
noncomputable def tw933398743491437544:=()
noncomputable def tw10140589281662298170:=()
noncomputable def tw17662110947017367626:=()
noncomputable def tw12759242232264061065:=()
noncomputable def tw17648682508467891661:=()
noncomputable def tw2474245591316725128:=()
noncomputable def tw4450506655118204208:=()
noncomputable def tw54299979091437875:=()
noncomputable def tw12595195400806202049:=()
noncomputable def tw931088171228334763:=()
noncomputable def tw979158329253027682:=()
noncomputable def tw18437605987083712305:=()
noncomputable def tw17459864377031694831:=()
noncomputable def tw6871236378542063983:=()
noncomputable def tw4274812037177709858:=()
noncomputable def tw14954407152826021698:=()
noncomputable def tw79378637342529679:=()
noncomputable def tw9580102784175985521:=()
noncomputable def tw1721930640791510051:=()
noncomputable def tw17746469062573515336:=()
noncomputable def tw12401827612911548733:=()
noncomputable def tw3292898185744046017:=()
noncomputable def tw17921878536516161281:=()
noncomputable def tw17419925636932872120:=()
noncomputable def tw17731694689058675307:=()
noncomputable def tw9119214348045690436:=()
noncomputable def tw5295829450316081263:=()
noncomputable def tw17050255111565589970:=()
noncomputable def tw2925662242406457807:=()
noncomputable def tw13239493841483087561:=()
noncomputable def tw15372973102032553390:=()
noncomputable def tw1214957228244579039:=()
noncomputable def tw8535737224001270477:=()
noncomputable def tw14976958688661885880:=()
noncomputable def tw12774382447783502236:=()
noncomputable def tw11779788006287636922:=()
noncomputable def tw7876537306748892144:=()
noncomputable def tw16921533815793387849:=()
noncomputable def tw11994591032358690771:=()
noncomputable def tw5001145460812972840:=()
noncomputable def tw14004455362364239742:=()
noncomputable def tw7973440592503615226:=()
noncomputable def tw8372483328030706747:=()
noncomputable def tw15307422975215733867:=()
noncomputable def tw5184432935760998827:=()
noncomputable def tw14641939963904610716:=()
noncomputable def tw4386405921644881997:=()
noncomputable def tw7495536538852662835:=()
noncomputable def tw8105527707744683797:=()
noncomputable def tw6039610231752186420:=()
noncomputable def tw18012799646161702724:=()
noncomputable def tw10189697744198294050:=()
noncomputable def tw8628323407051829845:=()
noncomputable def tw15566000335026281606:=()
noncomputable def tw5372033231346659228:=()
noncomputable def tw11825420357852537798:=()
noncomputable def tw9459859868345737262:=()
noncomputable def tw11421645338402571503:=()
noncomputable def tw8438983696490648858:=()
noncomputable def tw14892257699348403178:=()
noncomputable def tw14431237425101257045:=()
noncomputable def tw597019673297652998:=()
noncomputable def tw6088196473884316160:=()
noncomputable def tw5811619562627926621:=()
noncomputable def tw13299996942898180346:=()
noncomputable def tw8036379764196778183:=()
noncomputable def tw17246290835677466267:=()
noncomputable def tw5480811427104955871:=()
noncomputable def tw10691921927201417699:=()
noncomputable def tw10103974214485066019:=()
noncomputable def tw5429222544765107450:=()
noncomputable def tw6234785277586991622:=()
noncomputable def tw10981846147542483486:=()
noncomputable def tw913394361354082955:=()
noncomputable def tw1632188675059516964:=()
noncomputable def tw4991844894019021301:=()
noncomputable def tw401343141708043087:=()
noncomputable def tw2122006382643236689:=()
noncomputable def tw3173565053732760228:=()
noncomputable def tw13015986018624111022:=()
noncomputable def tw4372318549588598971:=()
noncomputable def tw4771715474882959314:=()
noncomputable def tw11811945083106747004:=()
noncomputable def tw15075409544558459178:=()
noncomputable def tw4670994321572140436:=()
noncomputable def tw14986973540587711671:=()
noncomputable def tw8886048449076486920:=()
noncomputable def tw17416620898701588442:=()
noncomputable def tw15281922879199789028:=()
noncomputable def tw17055308650798384267:=()
noncomputable def tw10802962937148199321:=()
noncomputable def tw15061539298576961397:=()
noncomputable def tw5344477582026028163:=()
noncomputable def tw10064506323087172813:=()
noncomputable def tw11229626690134867431:=()
noncomputable def tw10252740817964796942:=()
noncomputable def tw15520913533744365765:=()
noncomputable def tw11483422434087130931:=()
noncomputable def tw6573429639069446635:=()
noncomputable def tw8146858621380444312:=()
noncomputable def tw12773849267865197998:=()
noncomputable def tw3983745022126471370:=()
noncomputable def tw17317662152969246690:=()
noncomputable def tw13457771178427529031:=()
noncomputable def tw11500708405673040516:=()
noncomputable def tw6471916163383763041:=()
noncomputable def tw6771486585629146233:=()
noncomputable def tw9672267317574935962:=()
noncomputable def tw13896506852736027831:=()
noncomputable def tw11473847647437997383:=()
noncomputable def tw2110029480312050908:=()
noncomputable def tw7716776562627408493:=()
noncomputable def tw8591508067514255659:=()
noncomputable def tw5165011369261330304:=()
noncomputable def tw6917174908788172234:=()
noncomputable def tw9991602716239695802:=()
noncomputable def tw5789594960241183282:=()
noncomputable def tw16109732497440718141:=()
noncomputable def tw14669227603403862584:=()
noncomputable def tw12745642182151737806:=()
noncomputable def tw15707796590972863747:=()
noncomputable def tw17891790295524534731:=()
noncomputable def tw7541271131299628654:=()
noncomputable def tw16254311185656515967:=()
noncomputable def tw11565329783770049054:=()
noncomputable def tw660330341466608156:=()
noncomputable def tw10020991399065115291:=()
noncomputable def tw2382017004282758106:=()
noncomputable def tw9331898814333286644:=()
noncomputable def tw16290686227512445022:=()
noncomputable def tw4678018162980241088:=()
noncomputable def tw8354304073123245419:=()
noncomputable def tw2793881222042347456:=()
noncomputable def tw6771996391207730589:=()
noncomputable def tw12600469826616443061:=()
noncomputable def tw1488447145216755915:=()
noncomputable def tw13850616997999705716:=()
noncomputable def tw7173906106540541015:=()
noncomputable def tw2681931672583945497:=()
noncomputable def tw10174128451642852986:=()
noncomputable def tw4021310095617205081:=()
noncomputable def tw16822456565866383208:=()
noncomputable def tw15774249489428263510:=()
noncomputable def tw14866872031668475695:=()
noncomputable def tw1834443711568466874:=()
noncomputable def tw11056260085302110141:=()
noncomputable def tw3503069950922921382:=()
noncomputable def tw17244399013285667743:=()
noncomputable def tw644441960545512368:=()
noncomputable def tw13250678283305028191:=()
noncomputable def tw3050918652001006169:=()
noncomputable def tw3971692462097473193:=()
noncomputable def tw5245981632835252003:=()
noncomputable def tw11220657340523469703:=()
noncomputable def tw14256226440922256281:=()
noncomputable def tw7312598628582745524:=()
noncomputable def tw8928811643118558580:=()
noncomputable def tw16405159874397793002:=()
noncomputable def tw205034223061187246:=()
noncomputable def tw2585499890531038762:=()
noncomputable def tw3684905546413996389:=()
noncomputable def tw11497760774574897773:=()
noncomputable def tw2867506261300627187:=()
noncomputable def tw13911846117902976808:=()
noncomputable def tw16641088671274184511:=()
noncomputable def tw17853837881864607180:=()
noncomputable def tw8855078655152563088:=()
noncomputable def tw18253004929712734848:=()
noncomputable def tw4154436677328149873:=()
noncomputable def tw9086914848105628555:=()
noncomputable def tw4997953515681120308:=()
noncomputable def tw10050824267182001539:=()
noncomputable def tw9443581639694428435:=()
noncomputable def tw4917136938134110071:=()
noncomputable def tw9410958349282969017:=()
noncomputable def tw17638037360216809289:=()
noncomputable def tw4674314551750185514:=()
noncomputable def tw14342420954613515911:=()
noncomputable def tw10060766504251581274:=()
noncomputable def tw2011728433699029486:=()
noncomputable def tw14316040374315495312:=()
noncomputable def tw1533275553443915441:=()
noncomputable def tw14435080318639163919:=()
noncomputable def tw7462388781619883346:=()
noncomputable def tw8048030051040687893:=()
noncomputable def tw14221162045158520206:=()
noncomputable def tw11760528648709502959:=()
noncomputable def tw11801178233593383306:=()
noncomputable def tw13986840267586676627:=()
noncomputable def tw5761935594617659382:=()
noncomputable def tw16143310587201612296:=()
noncomputable def tw2505202126538671781:=()
noncomputable def tw7249301108356534809:=()
noncomputable def tw3847225123809690045:=()
noncomputable def tw4781320483744765499:=()
noncomputable def tw13312188019124822162:=()
noncomputable def tw13654877943555736635:=()
noncomputable def tw13841222771191933060:=()
noncomputable def tw9420984068006019560:=()
noncomputable def tw3027732306764931923:=()
noncomputable def tw14245647341610550907:=()
noncomputable def tw13814518400836206840:=()
noncomputable def tw7944813521072512242:=()
noncomputable def tw13679787300945579147:=()
noncomputable def tw14130736635138427232:=()
noncomputable def tw14081490482666141881:=()
noncomputable def tw18299097682243405208:=()
end PySem.W.Fast
open PySem PySem.W PyProof.Rows
set_option maxRecDepth 100000 in
set_option maxHeartbeats 0 in
theorem PySem.Challenge.cw_rimsteps_k75_rows_of_the_greater_holds : PySem.Challenge.rw_rimsteps_k75_rows_of_the_greater.Holds := by
 w_on;o_law;k_head;(case hw=>w_witness2)
 k_fill
 refine RR.walk (l:=PySem.Challenge.rw_rimsteps_k75_rows_of_the_greater) rfl rfl (λw h Y=>W.kIn_of Y) ?F
 case F =>
  intro w mg fa h KX G hmg
  refine' RR.all_mk KX G hmg (.mk ?a0 ?l0 ?c0 ?k0) (.mk ?a1 ?l1 ?c1 ?k1) (.mk ?a2 ?l2 ?c2 ?k2) (.mk ?a3 ?l3 ?c3 ?k3) (.mk ?a4 ?l4 ?c4 ?k4) (.mk ?a5 ?l5 ?c5 ?k5) (.mk ?a6 ?l6 ?c6 ?k6) (.mk ?a7 ?l7 ?c7 ?k7) (.mk ?a8 ?l8 ?c8 ?k8) (.mk ?a9 ?l9 ?c9 ?k9) (.mk ?a10 ?l10 ?c10 ?k10) (.mk ?a11 ?l11 ?c11 ?k11) (.mk ?a12 ?l12 ?c12 ?k12) (.mk ?a13 ?l13 ?c13 ?k13) (.mk ?a14 ?l14 ?c14 ?k14) (.mk ?a15 ?l15 ?c15 ?k15) (.mk ?a16 ?l16 ?c16 ?k16) (.mk ?a17 ?l17 ?c17 ?k17) (.mk ?a18 ?l18 ?c18 ?k18) (.mk ?a19 ?l19 ?c19 ?k19) (.mk ?a20 ?l20 ?c20 ?k20) (.mk ?a21 ?l21 ?c21 ?k21) (.mk ?a22 ?l22 ?c22 ?k22) (.mk ?a23 ?l23 ?c23 ?k23) (.mk ?a24 ?l24 ?c24 ?k24) (.mk ?a25 ?l25 ?c25 ?k25) (.mk ?a26 ?l26 ?c26 ?k26) (.mk ?a27 ?l27 ?c27 ?k27) (.mk ?a28 ?l28 ?c28 ?k28) (.mk ?a29 ?l29 ?c29 ?k29) (.mk ?a30 ?l30 ?c30 ?k30) (.mk ?a31 ?l31 ?c31 ?k31) (.mk ?a32 ?l32 ?c32 ?k32) (.mk ?a33 ?l33 ?c33 ?k33) (.mk ?a34 ?l34 ?c34 ?k34) (.mk ?a35 ?l35 ?c35 ?k35) (.mk ?a36 ?l36 ?c36 ?k36) (.mk ?a37 ?l37 ?c37 ?k37) (.mk ?a38 ?l38 ?c38 ?k38) (.mk ?a39 ?l39 ?c39 ?k39) (.mk ?a40 ?l40 ?c40 ?k40) (.mk ?a41 ?l41 ?c41 ?k41) (.mk ?a42 ?l42 ?c42 ?k42) ?a43 ?l43 ?c43 ?k43 ?aM ?lM ?x0 ?x1 ?x2 ?x3 ?x4 ?x5 ?x6 ?x7 ?aB ?lB ?aB2 ?lB2 ?aENTRIES ?lENTRIES ?xENTRIES0 ?xENTRIES1 ?xENTRIES2 ?xENTRIES3 ?z_range ?z_len ?z_min ?z_max ?z_sorted ?z_tuple ?z_int ?z_bool ?z_abs ?z_all ?z_isinstance ?z_list ?z_zip
  (case a0=>k_is)
  (case l0=>k_is)
  (case c0=>k_is)
  (case k0=>k_is)
  (case a1=>k_is)
  (case l1=>k_is)
  (case c1=>k_is)
  (case k1=>k_is)
  (case a2=>k_is)
  (case l2=>k_is)
  (case c2=>k_is)
  (case k2=>k_is)
  (case a3=>k_is)
  (case l3=>k_is)
  (case c3=>k_is)
  (case k3=>k_is)
  (case a4=>k_is)
  (case l4=>k_is)
  (case c4=>k_is)
  (case k4=>k_is)
  (case a5=>k_is)
  (case l5=>k_is)
  (case c5=>k_is)
  (case k5=>k_is)
  (case a6=>k_is)
  (case l6=>k_is)
  (case c6=>k_is)
  (case k6=>k_is)
  (case a7=>k_is)
  (case l7=>k_is)
  (case c7=>k_is)
  (case k7=>k_is)
  (case a8=>k_is)
  (case l8=>k_is)
  (case c8=>k_is)
  (case k8=>k_is)
  (case a9=>k_is)
  (case l9=>k_is)
  (case c9=>k_is)
  (case k9=>k_is)
  (case a10=>k_is)
  (case l10=>k_is)
  (case c10=>k_is)
  (case k10=>k_is)
  (case a11=>k_is)
  (case l11=>k_is)
  (case c11=>k_is)
  (case k11=>k_is)
  (case a12=>k_is)
  (case l12=>k_is)
  (case c12=>k_is)
  (case k12=>k_is)
  (case a13=>k_is)
  (case l13=>k_is)
  (case c13=>k_is)
  (case k13=>k_is)
  (case a14=>k_is)
  (case l14=>k_is)
  (case c14=>k_is)
  (case k14=>k_is)
  (case a15=>k_is)
  (case l15=>k_is)
  (case c15=>k_is)
  (case k15=>k_is)
  (case a16=>k_is)
  (case l16=>k_is)
  (case c16=>k_is)
  (case k16=>k_is)
  (case a17=>k_is)
  (case l17=>k_is)
  (case c17=>k_is)
  (case k17=>k_is)
  (case a18=>k_is)
  (case l18=>k_is)
  (case c18=>k_is)
  (case k18=>k_is)
  (case a19=>k_is)
  (case l19=>k_is)
  (case c19=>k_is)
  (case k19=>k_is)
  (case a20=>k_is)
  (case l20=>k_is)
  (case c20=>k_is)
  (case k20=>k_is)
  (case a21=>k_is)
  (case l21=>k_is)
  (case c21=>k_is)
  (case k21=>k_is)
  (case a22=>k_is)
  (case l22=>k_is)
  (case c22=>k_is)
  (case k22=>k_is)
  (case a23=>k_is)
  (case l23=>k_is)
  (case c23=>k_is)
  (case k23=>k_is)
  (case a24=>k_is)
  (case l24=>k_is)
  (case c24=>k_is)
  (case k24=>k_is)
  (case a25=>k_is)
  (case l25=>k_is)
  (case c25=>k_is)
  (case k25=>k_is)
  (case a26=>k_is)
  (case l26=>k_is)
  (case c26=>k_is)
  (case k26=>k_is)
  (case a27=>k_is)
  (case l27=>k_is)
  (case c27=>k_is)
  (case k27=>k_is)
  (case a28=>k_is)
  (case l28=>k_is)
  (case c28=>k_is)
  (case k28=>k_is)
  (case a29=>k_is)
  (case l29=>k_is)
  (case c29=>k_is)
  (case k29=>k_is)
  (case a30=>k_is)
  (case l30=>k_is)
  (case c30=>k_is)
  (case k30=>k_is)
  (case a31=>k_is)
  (case l31=>k_is)
  (case c31=>k_is)
  (case k31=>k_is)
  (case a32=>k_is)
  (case l32=>k_is)
  (case c32=>k_is)
  (case k32=>k_is)
  (case a33=>k_is)
  (case l33=>k_is)
  (case c33=>k_is)
  (case k33=>k_is)
  (case a34=>k_is)
  (case l34=>k_is)
  (case c34=>k_is)
  (case k34=>k_is)
  (case a35=>k_is)
  (case l35=>k_is)
  (case c35=>k_is)
  (case k35=>k_is)
  (case a36=>k_is)
  (case l36=>k_is)
  (case c36=>k_is)
  (case k36=>k_is)
  (case a37=>k_is)
  (case l37=>k_is)
  (case c37=>k_is)
  (case k37=>k_is)
  (case a38=>k_is)
  (case l38=>k_is)
  (case c38=>k_is)
  (case k38=>k_is)
  (case a39=>k_is)
  (case l39=>k_is)
  (case c39=>k_is)
  (case k39=>k_is)
  (case a40=>k_is)
  (case l40=>k_is)
  (case c40=>k_is)
  (case k40=>k_is)
  (case a41=>k_is)
  (case l41=>k_is)
  (case c41=>k_is)
  (case k41=>k_is)
  (case a42=>k_is)
  (case l42=>k_is)
  (case c42=>k_is)
  (case k42=>k_is)
  (case a43=>k_is)
  (case l43=>k_is)
  (case c43=>k_is)
  (case k43=>k_is)
  (case aM=>k_is)
  (case lM=>k_is)
  (case x0=>k_is)
  (case x1=>k_is)
  (case x2=>k_is)
  (case x3=>k_is)
  (case x4=>k_is)
  (case x5=>k_is)
  (case x6=>k_is)
  (case x7=>k_is)
  (case aB=>k_is)
  (case lB=>k_is)
  (case aB2=>k_is)
  (case lB2=>k_is)
  (case aENTRIES=>k_is)
  (case lENTRIES=>k_is)
  (case xENTRIES0=>k_is)
  (case xENTRIES1=>k_is)
  (case xENTRIES2=>k_is)
  (case xENTRIES3=>k_is)
  (case z_range=>k_is)
  (case z_len=>k_is)
  (case z_min=>k_is)
  (case z_max=>k_is)
  (case z_sorted=>k_is)
  (case z_tuple=>k_is)
  (case z_int=>k_is)
  (case z_bool=>k_is)
  (case z_abs=>k_is)
  (case z_all=>k_is)
  (case z_isinstance=>k_is)
  (case z_list=>k_is)
  (case z_zip=>k_is)
